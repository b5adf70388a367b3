import PyProof.Rows.All
import Wide.All
import OpenK.AllK
import Wide.FinOn
import PyProof.RulesMatch
import HandS.Base
import HandS.Call
import HandS.Words
import HandS.IsInst
import HandS.ForExc
import HandS.Zip
import HandS.Walk
import HandS.Strs
import KE.KExcSuper
import KE.KSuperObj
import KE.KSuper
import HandS.ForMost
import HandS.ExcInit
import HandS.ExcSuper
import HandS.ExcField
import HandS.ExcIs
import KE.KExcIs
import KE.KIsAll
import HandS.RaiseMore
import PyProof.InstEq
import HandS.TupSets
import PyProof.EqKinds
import PyProof.NeKinds
import HandS.Evl
import HandS.SortInts
import HandS.List
import HandS.DictComp
import HandS.More
import KE.KDictZip
import KE.KDictItemsList
import HandS.ListItems
import HandS.Style
import HandS.RevRange
import HandS.TupLe
import HandS.TryOnly
import PyProof.RulesMatchSeq
import PyProof.Rows.MatchSeqLen
import PyProof.Rows.TupIter
import HandS.Defaults
import HandS.MakeKwOnly
import HandS.SetFor
import PySem.Challenge.RW_deadbeat_k21_costs_of_instructions
import HandS.Wide
import HandS.WideBits
import HandS.EndBits
import HandS.StrMore
import HandS.IntHex
import HandS.ReSub
import HandS.Codes
set_option Elab.async false
set_option linter.all false
set_option maxRecDepth 100000
namespace L2
open PySem PySem.Spec PyProof.Rows
/-- the cases of a match over texts: a written text or whatever is left, and what is done -/
def tCases (z : Str) : List (Option Str × TS) → TS
  | [] => fun D σ H => D.nx σ H
  | (none, t) :: _ => t
  | (some c, t) :: r => fun D σ H => if z = c then t D σ H else tCases z r D σ H
def tMatch (te : TE) (l : List (Option Str × TS)) : TS := fun D σ H => te σ H fun x H1 => ∃ z : Str, x = .str z ∧ tCases z l D σ H1
inductive PCs (X : Cx) : List MatchCase → List (Option Str × TS) → Prop
  | nil : PCs X [] []
  | rest {body : List Stmt} {t : TS} {p : Pos} {r : List MatchCase} : PSs X body t → PCs X (⟨.MatchAs none none p, none, body⟩ :: r) [(none, t)]
  | text {body : List Stmt} {t : TS} {c : Str} {j : Nat} {p p2 : Pos} {r : List MatchCase} {l : List (Option Str × TS)} : PSs X body t → PCs X r l →
      PCs X (⟨.MatchValue (.Constant (.str c) j p) p2, none, body⟩ :: r) ((some c, t) :: l)
theorem run_cases {X : Cx} {z : Str} {u : Value} (ru : RelV (.str z) u) : ∀ {cs : List MatchCase} {l : List (Option Str × TS)}, PCs X cs l → ∀ (first : Bool) (pins : List (Addr × Obj)) (s : Shared) (σ : St) (H : Hp) (D : Ends), Inv X pins σ H s → tCases z l D σ H →
    wpAny (model X.prog X.w) X.A (matchCases cs X.env u first) (SP X pins D) X.xe s
  | _, _, .nil, first, pins, s, σ, H, D, I, h => wpAny_matchCases_nil ⟨σ, H, I, h⟩
  | _, _, .rest hb, first, pins, s, σ, H, D, I, h => by
    refine wpAny_matchCases_cons (wpAny_matchPattern_Capture ?_)
    exact wpAny_assignInOrder_none (hb.run pins s σ H D I h)
  | _, _, .text (c := c) (l := l) hb hr, first, pins, s, σ, H, D, I, h => by
    refine wpAny_matchCases_cons (wpAny_matchPattern_Value ?_)
    refine thn ((pe_str (X := X) (x := c)).run pins s σ H (fun v H' => v = .str c ∧ H' = H) I ⟨rfl, rfl⟩) fun v s1 hh => ?_
    obtain ⟨x, H1, I1, rx, ex, eH⟩ := hh
    subst ex
    subst eH
    refine thn (op_eq pins s1 σ H1 (.str z) (.str c) u v (fun y H' => y = .bl (decide (V.str z = V.str c)) ∧ H' = H1) I1 ru rx ⟨rfl, rfl, rfl⟩) fun y s2 hh => ?_
    obtain ⟨x, H2, I2, rx2, ex, eH⟩ := hh
    subst ex
    subst eH
    cases rx2
    refine wpAny_truthy_bool ?_
    have h' : (if z = c then _ else _) := h
    by_cases e : z = c
    · rw [if_pos e] at h'
      rw [decide_eq_true (by rw [e])]
      exact wpAny_assignInOrder_none (hb.run pins s2 σ H2 D I2 h')
    · rw [if_neg e] at h'
      rw [decide_eq_false (fun q => e (by injection q))]
      exact run_cases ru hr false pins s2 σ H2 D I2 h'
theorem ps_match {X : Cx} {e : Expr} {te : TE} {cs : List MatchCase} {l : List (Option Str × TS)} {pos : Pos} (he : PE X e te) (hc : PCs X cs l) : PS X (.Match e cs pos) (tMatch te l) := by
  refine ⟨fun pins s σ H D I h => wpAny_Match ?_⟩
  refine thn (he.run pins s σ H _ I h) fun u s1 hh => ?_
  obtain ⟨x, H1, I1, rx, z, ez, hz⟩ := hh
  subst ez
  exact run_cases rx hc true pins s1 σ H1 D I1 hz
/-- a module's constant: an int, a text, an object -/
theorem pe_gi {X : Cx} {x : Str} {n : Int} {t : Tok} {pos : Pos} (hg : Gl X x) (hm : X.mg x = some (.int n t)) (hd : (x == ("__debug__" : Str)) = false := by decide) : PE X (.Name x pos) (tC (.int n)) := pe_glob hg hm ⟨_, rfl⟩ hd
theorem pe_gs {X : Cx} {x : Str} {z : Str} {t : Tok} {pos : Pos} (hg : Gl X x) (hm : X.mg x = some (.str z t)) (hd : (x == ("__debug__" : Str)) = false := by decide) : PE X (.Name x pos) (tC (.str z)) := pe_glob hg hm ⟨_, rfl⟩ hd
theorem pe_gr {X : Cx} {x : Str} {a : Addr} {pos : Pos} (hg : Gl X x) (hm : X.mg x = some (.ref a)) (hd : (x == ("__debug__" : Str)) = false := by decide) : PE X (.Name x pos) (tC (.ref a)) := pe_glob (v := .ref a) hg hm rfl hd
/-- a built-in type as a value -/
theorem pe_ty {X : Cx} {x : Str} {T : String} {pos : Pos} (hg : Gl X x) (hm : X.mg x = none) (hv : bootBuiltins x = some (.type T)) (hn : x ≠ "__name__" := by decide) (hd : (x == ("__debug__" : Str)) = false := by decide) : PE X (.Name x pos) (tC (.ty T)) :=
  ⟨fun _ s _ H _ I h => ld_blt I hg hm hv ⟨.ty T, H, I, rfl, h⟩ hn hd⟩
/-- isinstance of a plain value and a built-in type -/
theorem isi_int {K : PySem.W.Frag} {H : Hp} {Q : VK} {i : Int} (q : Q (.bl true) H) : rIsi K [.int i, .ty "int"] H Q := ⟨_, _, _, _, true, rfl, .ty _, .base (.int _), kit_ty (by decide +kernel), q⟩
theorem isi_int_bool {K : PySem.W.Frag} {H : Hp} {Q : VK} {i : Int} (q : Q (.bl false) H) : rIsi K [.int i, .ty "bool"] H Q := ⟨_, _, _, _, false, rfl, .ty _, .base (.int _), kit_ty (by decide +kernel), q⟩
theorem Same.none {H H' : Hp} (e : Same H H') {p : Addr} (h : H' p = Option.none) : H p = Option.none := Same.free e h
theorem same_new {H : Hp} {p : Addr} {o : HO} (h : H p = Option.none) : Same H (upd H p o) := fun b x e => by
  rw [upd_ne (ne_of_none e h)]
  exact e
theorem or_test {t u : TT} {σ : St} {H : Hp} {a b : Bool} {Q : Bool → Hp → Prop} (h1 : ∀ Q' : Bool → Hp → Prop, Q' a H → t σ H Q') (h2 : a = false → ∀ Q' : Bool → Hp → Prop, Q' b H → u σ H Q') (q : Q (a || b) H) : tOr t u σ H Q := by
  refine h1 _ ?_
  cases a with
  | true => exact iteT q
  | false => exact iteF (h2 rfl _ q)
theorem and_test {t u : TT} {σ : St} {H : Hp} {a b : Bool} {Q : Bool → Hp → Prop} (h1 : ∀ Q' : Bool → Hp → Prop, Q' a H → t σ H Q') (h2 : a = true → ∀ Q' : Bool → Hp → Prop, Q' b H → u σ H Q') (q : Q (a && b) H) : tAnd t u σ H Q := by
  refine h1 _ ?_
  cases a with
  | true => exact iteT (h2 rfl _ q)
  | false => exact iteF q
theorem if_or {t u : TT} {a b : Bool} {A B : TS} {D : Ends} {σ : St} {H : Hp} (h1 : ∀ Q' : Bool → Hp → Prop, Q' a H → t σ H Q') (h2 : a = false → ∀ Q' : Bool → Hp → Prop, Q' b H → u σ H Q') (q : if (a || b) = true then A D σ H else B D σ H) : tIfS (tOr t u) A B D σ H := or_test h1 h2 q
theorem if_and {t u : TT} {a b : Bool} {A B : TS} {D : Ends} {σ : St} {H : Hp} (h1 : ∀ Q' : Bool → Hp → Prop, Q' a H → t σ H Q') (h2 : a = true → ∀ Q' : Bool → Hp → Prop, Q' b H → u σ H Q') (q : if (a && b) = true then A D σ H else B D σ H) : tIfS (tAnd t u) A B D σ H := and_test h1 h2 q
theorem Same.off {H H1 : Hp} {D : Addr} {x : HO} (k : Same H H1) (n : H D = Option.none) : Same H (upd H1 D x) := fun b y e => by
  rw [upd_ne (ne_of_none e n)]
  exact k b y e
theorem Same.seqT {K : PySem.W.Frag} {H H' : Hp} {a : Addr} {xs : List V} (e : Same H H') (h : SqT K H a xs) : SqT K H' a xs := by
  rcases h with h | h
  · rcases h with h | ⟨o, h⟩
    · exact .inl (.inl (e _ _ h))
    · exact .inl (.inr ⟨o, e _ _ h⟩)
  · exact .inr h
/-- a def that may raise, called where it does not -/
theorem pass_no {X : Cx} : Passes (L2.CX X.prog X.w) X (fun _ _ _ => False) := fun _ _ _ _ _ _ _ c => by
  obtain ⟨_, _, _, _, _, _, _, _, _, _, _, _, z⟩ := c
  exact z.elim
def rListOf (K : PySem.W.Frag) : List V → Hp → VK → Prop := fun xs H Q => ∃ p ys, xs = [V.ref p] ∧ (SqL K H p ys ∨ SqT K H p ys) ∧ ∀ l, H l = Option.none → Q (.ref l) (upd H l (.lst ys))
theorem if_t {b : Bool} {A B : Prop} (h : b = true) (q : A) : if b = true then A else B := by
  rw [if_pos h]
  exact q
theorem if_f {b : Bool} {A B : Prop} (h : b = false) (q : B) : if b = true then A else B := by
  rw [if_neg (by rw [h]; exact Bool.noConfusion)]
  exact q
/-- a tuple of the written part, as it stands there -/
theorem sqT_lit {K : PySem.W.Frag} {p : Addr} {dd : Option Addr} {us : Array Value} {n : Nat} {sl : Array (Option Value)} {xs : List V} {H : Hp} (w : K.lookup p = some ⟨.type "tuple", dd, .seq us n, sl⟩) (y : Vals xs us.toList) (hl : xs.length ≤ sizeLine := by decide) : SqT K H p xs :=
  .inr ⟨_, us, n, w, rfl, rfl, Nat.le_trans (Nat.le_of_eq (by rw [← Array.length_toList]; exact (Paired.length y).symm)) hl, y⟩
end L2

set_option Elab.async false
set_option linter.all false
set_option maxRecDepth 100000
set_option maxHeartbeats 4000000
/-! # An error of the program's own: its maker calls that of ValueError with a text, then keeps one value -/
namespace PySem
namespace Errs
open PySem.W PySem.Calls PyProof.Rows PySem.HandSPX
/-! ### the text of the maker -/
def eA (fld : Str) (p1 p2 : Pos) : Arguments :=
  { posonlyargs := [], args := [⟨"self", none, p1⟩, ⟨fld, none, p2⟩], vararg := none, kwonlyargs := [], kw_defaults := [], kwarg := none, defaults := [] }
def eB (fld : Str) (parts : List Expr) (mp : Pos) (q1 q2 q3 q4 q5 q6 q7 q8 q9 : Pos) : List Stmt :=
  [.Expr (.Call (.Attribute (.Call (.Name "super" q1) [] [] q2) "__init__" q3) [.JoinedStr parts mp] [] q4) q5,
   .Assign [.Attribute (.Name "self" q6) fld q7] (.Name fld q8) q9]
def eS (fld : Str) (ex : List (Str × NameKind)) : Scope :=
  { kind := .function, names := [(PySem.Str.ofString "self", .local), (fld, .local), (PySem.Str.ofString "__class__", .free), (PySem.Str.ofString "super", .globalImplicit)] ++ ex, isGenerator := false, isCoroutine := false, more := [] }
/-- all is kept but the slots of the frames at fs -/
structure KeepF (fs : List Addr) (h h' : Heap) : Prop where
  keep : ∀ b o, b ∉ fs → h.get? b = some o → h'.get? b = some o
  slot : ∀ b o, h.get? b = some o → ∃ sl, h'.get? b = some { o with slots := sl }
theorem KeepF.of {fs : List Addr} {h h' : Heap} (k : ∀ b o, h.get? b = some o → h'.get? b = some o) : KeepF fs h h' := ⟨fun b o _ e => k b o e, fun b o e => ⟨o.slots, k b o e⟩⟩
theorem KeepF.of_un {fs : List Addr} {h h' : Heap} {H' : L2.Hp} (u : L2.Un fs [] (fun _ => none) H' h h') : KeepF fs h h' :=
  ⟨fun b o n e => u.keep b o e rfl n (by simp), fun b o e => u.any e rfl (by simp)⟩
/-- the message comes to some text; what stood is kept -/
def MsgOk (P : Program) (w : World) (K : Frag) (mg : Str → Option Value) (base : Heap) (lv : Nat) (ex : List (Str × NameKind)) (parts : List Expr) (mp : Pos) (fld : Str) (v : Value) : Prop :=
  ∀ (A : Around) (outer : List Env) (E : Value → Shared → Prop) (s : Shared) (env : Env) (m : Str → Option Value) (Q : Value → Shared → Prop),
    env.scope = eS fld ex → env.globals = mainGlobals → env.builtins = builtinsNs → L2.Room lv A → L2.Env0 P w K mg base A outer s (fun _ => none) →
    s.heap.Ns env.locals m → m fld = some v → (∀ u s', s'.os = s.os → AllBare s'.gens → KeepF (L2.frs outer) s.heap s'.heap → Q u s') →
    wpAny (model P w) A (eval (.JoinedStr parts mp) env) Q E s
def SupEq (parts : List Expr) (mp q1 q2 q3 q4 : Pos) : Prop :=
  ∀ env : Env, ∃ pl : Sem Bool, eval (.Call (.Attribute (.Call (.Name "super" q1) [] [] q2) "__init__" q3) [.JoinedStr parts mp] [] q4) env = (do
    let ov ← attributeBase (.Call (.Name "super" q1) [] [] q2) "__init__" env (eval (.Call (.Name "super" q1) [] [] q2) env)
    standAt q3.atName
    let __x ← holding [ov] (getMethod ov "__init__" pl)
    match __x with
    | (f, first) => callWith q4 f first (backTo q4 (starEach [.JoinedStr parts mp] env)) [])
/-- what the written part says of the class at C and of its maker at fI -/
structure ErrTxt (P : Program) (K : Frag) (mg : Str → Option Value) (nm fld : Str) (ex : List (Str × NameKind)) (parts : List Expr) (mp : Pos) (C fI : Addr) : Prop where
  gC : mg nm = some (.ref C)
  noSuper : mg "super" = none
  noTop : (List.lookup (PySem.Str.ofString "super") P.main.scope.names).isSome = false
  cls : ∃ nm q N bs bm sn sub ab col dd k0 k1 k2 k3 k5, K.lookup C = some (excClassObj nm q C N bs bm true sn sub ab col dd k0 k1 k2 k3 k5 "ValueError.__new__") ∧ refsVE bm = true
  ini : excInitIn K C veTail "ValueError.__new__" = true
  sup : ks_superIn K C C "__init__" = some (some (.builtin "ValueError.__init__"))
  subV : subIn K (.ref C) (.type "ValueError") = some true
  mroS : mroIn K C (.ref C) = some true
  third : nsIn K cStatics "thirdparty.any" = some none
  sa : findIn K (.ref C) "__setattr__" = some (some (.builtin "object.__setattr__"))
  ga : findIn K (.ref C) "__getattribute__" = some (some (.builtin "BaseException.__getattribute__"))
  gg : findIn K (.ref C) "__getattr__" = some none
  noN : findIn K (.ref C) fld = some none
  iC : findIn K (.ref C) "__init__" = some (some (.ref fI))
  tC : typeIn K (.ref fI) = some (.type "function")
  kC : keepIn K (.ref C) = true
  exC : subIn K (.ref C) (.type "BaseException") = some true
  tyC : typeIn K (.ref C) = some (.type "type")
  hdC : hasDictIn K C = true
  te : exmOne K (.ref C) (.ref C) = some true
  fn : ∃ (oc : Value) (od : Option Addr) (doc pm : Value) (an : Option Addr) (ct : Value) (osl : Array (Option Value)) (qual : Str) (cda cc : Addr)
      (ccl : Value) (cdd : Option Addr) (ccs : Array (Option Value)) (vs : Array Value) (tq tf : Tok) (file : Str) (cl : Value) (cld : Option Addr) (csl : Array (Option Value))
      (p1 p2 q1 q2 q3 q4 q5 q6 q7 q8 q9 : Pos), SupEq parts mp q1 q2 q3 q4 ∧
    K.lookup fI = some ⟨oc, od, .func (ksFn "__init__" qual (eA fld p1 p2) (eB fld parts mp q1 q2 q3 q4 q5 q6 q7 q8 q9) (eS fld ex) .none .none doc pm an (.ref cda) ct cc), osl⟩ ∧
    K.lookup cda = some ⟨ccl, cdd, .fields vs, ccs⟩ ∧ vs[1]? = some (.str qual tq) ∧ vs[2]? = some (.str file tf) ∧ (P.main.file == file) = true ∧
    K.lookup cc = some ⟨cl, cld, .cell (some (.ref C)), csl⟩
/-- the heap without the object at x -/
def without (h : Heap) (x : Addr) : Heap := { h with objs := h.objs.setIfInBounds x { cls := .none, data := .freed } }
theorem without_size (h : Heap) (x : Addr) : (without h x).objs.size = h.objs.size := by simp [without]
theorem without_at (h : Heap) (x : Addr) : (without h x).get? x = none := by
  unfold without Heap.get?
  by_cases e : x < h.objs.size
  · simp [Array.getElem?_setIfInBounds, e]
  · simp [Array.getElem?_setIfInBounds, e]
theorem without_ne (h : Heap) (x b : Addr) (hb : b ≠ x) : (without h x).get? b = h.get? b := by
  unfold without Heap.get?
  simp [Array.getElem?_setIfInBounds, Ne.symm hb]
/-- the heap below L without the object at x -/
def cutH (h : Heap) (L x : Addr) : Heap := { h with objs := (h.objs.extract 0 L).setIfInBounds x { cls := .none, data := .freed } }
theorem cut_size (h : Heap) (L x : Addr) : (cutH h L x).objs.size ≤ L := by simp [cutH]; omega
theorem cut_at (h : Heap) (L x : Addr) : (cutH h L x).get? x = none := by
  unfold cutH Heap.get?
  by_cases e : x < (h.objs.extract 0 L).size
  · rw [Array.getElem?_setIfInBounds_self_of_lt e]
  · have z : ((h.objs.extract 0 L).setIfInBounds x { cls := .none, data := .freed })[x]? = none := by
      rw [Array.getElem?_eq_none_iff]; simp at e ⊢; omega
    rw [z]
theorem cut_big (h : Heap) (L x b : Addr) (hb : L ≤ b) : (cutH h L x).get? b = none := Heap.get?_none_of_le (Nat.le_trans (cut_size h L x) hb)
theorem cut_lt (h : Heap) (L x b : Nat) (hb : b < L) (hx : b ≠ x) : (cutH h L x).get? b = h.get? b := by
  unfold cutH Heap.get?
  show (match ((h.objs.extract 0 L).setIfInBounds x { cls := .none, data := .freed })[b]? with | some ⟨_, _, .freed, _⟩ => none | o => o) = _
  rw [Array.getElem?_setIfInBounds_ne (Ne.symm hx)]
  have z : (h.objs.extract 0 L)[b]? = h.objs[b]? := by
    rw [Array.getElem?_extract]
    by_cases q : b < h.objs.size
    · rw [if_pos (by omega)]; simp
    · rw [if_neg (by omega)]
      exact (Array.getElem?_eq_none_iff.mpr (by omega)).symm
  rw [z]
  rfl
/-- what the maker leaves of a fresh exception at x; fs: the callers' frames -/
structure InitEnd (fs : List Addr) (fld : Str) (h h' : Heap) (x C dx : Addr) (v : Value) : Prop where
  keep : ∀ b o, b ≠ x → b ∉ fs → h.get? b = some o → h'.get? b = some o
  slot : ∀ b o, b ≠ x → h.get? b = some o → ∃ sl, h'.get? b = some { o with slots := sl }
  obj : ∃ t1 : Addr, h'.get? x = some { cls := .ref C, dict := some dx, data := .fields #[.ref t1, .none, .none, .none, .bool false, .none] }
  dbig : h.objs.size ≤ dx
  dne : dx ≠ x
  ns : h'.Ns1 dx (fun y => if y = fld then some v else none)
/-- a made error -/
structure OwnMade (fs : List Addr) (fld : Str) (h h' : Heap) (e C d : Addr) (v : Value) : Prop where
  keep : KeepF fs h h'
  new : h.objs.size ≤ e
  obj : ∃ oe vs, h'.get? e = some oe ∧ oe.cls = .ref C ∧ oe.dict = some d ∧ oe.data = .fields vs ∧ vs[1]? = some .none
  dbig : h.objs.size ≤ d
  dne : d ≠ e
  ns : h'.Ns1 d (fun y => if y = fld then some v else none)
theorem ld1 {M : Model} {A : Around} {E : Value → Shared → Prop} {s : Shared} {env : Env} {m : Str → Option Value} {x : Str} {pos : Pos} {v : Value} {Q : Value → Shared → Prop}
    (hn : s.heap.Ns env.locals m) (hv : m x = some v) (h : Q v s) (hk : env.scope.kind = .function) (hl : env.kindOf x = some .local) (hd : (x == ("__debug__" : Str)) = false) :
    wpAny M A (eval (.Name x pos) env) Q E s := wpAny_Name (wpAny_loadName_local hk hl hn hv h) hd
/-- the facts of the field's name -/
structure FldOk (fld : Str) (ex : List (Str × NameKind)) (parts : List Expr) (mp : Pos) : Prop where
  lkF : List.lookup fld (eS fld ex).names = some .local
  lkS : List.lookup ("self" : Str) (eS fld ex).names = some .local
  lkC : List.lookup ("__class__" : Str) (eS fld ex).names = some .free
  lkU : List.lookup ("super" : Str) (eS fld ex).names = some .globalImplicit
  dbg : (fld == ("__debug__" : Str)) = false
  noc : ∀ y ∈ (eS fld ex).names, y.2 ≠ .cell
  bf : ∀ x v : Value, List.lookup fld [(("self" : Str), x), (fld, v)].reverse = some v
  bs : ∀ x v : Value, List.lookup ("self" : Str) [(("self" : Str), x), (fld, v)].reverse = some x
  star : ∀ env : Env, starEach [.JoinedStr parts mp] env = (false, eval (.JoinedStr parts mp) env) :: starEach [] env
  bnd : ∀ (s : Shared) (x v : Value) (q : Str) (p1 p2 : Pos) (b : List Stmt) (doc pm cd ct : Value) (an : Option Addr) (cc : Addr),
    BindsTo s (ksFn "__init__" q (eA fld p1 p2) b (eS fld ex) .none .none doc pm an cd ct cc) ⟨[x, v], []⟩ [(("self" : Str), x), (fld, v)]
theorem env0_none {P : Program} {w : World} {K : Frag} {mg : Str → Option Value} {base : Heap} {A : Around} {outer : List Env} {s : Shared} {H : L2.Hp} (e : L2.Env0 P w K mg base A outer s H) :
    L2.Env0 P w K mg base A outer s (fun _ => none) :=
  ⟨e.frames, e.mod, fun b o q => ⟨(e.bs b o q).1, rfl⟩, e.bsz, e.funs, fun _ _ => rfl, fun a o q => (by cases q), e.bare⟩
section
variable {prog : Program} {w : World} {A : Around} {R : Result → Shared → Prop} {s : Shared} {K : Frag} {mg : Str → Option Value} {base : Heap} {lv : Nat} {outer : List Env} {nm fld : Str} {ex : List (Str × NameKind)} {parts : List Expr} {mp : Pos} {C fI : Addr}
theorem err_init (T : ErrTxt prog K mg nm fld ex parts mp C fI) (G : FldOk fld ex parts mp) {x t0 : Addr} {v : Value} (M : MsgOk prog w K mg base lv ex parts mp fld v)
    (e0 : L2.Env0 prog w K mg base A outer s (fun _ => none)) (hx : s.heap.get? x = some (excO C t0)) (hnx : K.lookup x = none) (hbx : base.get? x = none) (hr : L2.Room (lv + 1) A)
    (hq : ∀ s' dx, s'.os = s.os → AllBare s'.gens → InitEnd (L2.frs outer) fld s.heap s'.heap x C dx v → R (.ok (.ret .none)) s') :
    codeAny (model prog w) A (.call (.ref fI) ⟨[.ref x, v], []⟩) R s := by
  have X : K.In s.heap := e0.mod.kin.keeps fun b o e => (e0.bs b o e).1
  have hlim : s.heap.NoLimit := e0.mod.nolimit.keeps fun b o e => (e0.bs b o e).1
  have hg : s.heap.Ns mainGlobals mg := e0.mod.glob.keeps fun b o e => (e0.bs b o e).1
  obtain ⟨mb, hb0, hmb0⟩ := e0.mod.blt
  have hb : s.heap.Ns builtinsNs mb := hb0.keeps fun b o e => (e0.bs b o e).1
  have hmb : mb "super" = some (.type "super") := hmb0 _ (by decide)
  obtain ⟨oc, od, doc, pm, an, ct, osl, qual, cda, cc, ccl, cdd, ccs, vs, tq, tf, file, cl, cld, csl, p1, p2, q1, q2, q3, q4, q5, q6, q7, q8, q9, hev, ho, hcd, hvq, hvf, hfile, hcell⟩ := T.fn
  obtain ⟨nm, q, N, bs, bm, sn, sub, ab, col, dd, k0, k1, k2, k3, k5, hC, hbm⟩ := T.cls
  have hcl : clsIn K C = some { name := nm, bases := bs, mro := .ref C :: bm, ns := N, qualname := q, hasDict := true, slotNames := sn, subclasses := sub, abstract := ab, collection := col, hasDel := false } := by unfold clsIn; rw [hC] <;> rfl
  refine ks_codeAny_call_defAt (binds := [("self", .ref x), (fld, v)]) hr.depth (X _ _ ho) rfl hlim ⟨cda, _, vs, tq, rfl, X _ _ hcd, rfl, hvq⟩ rfl (G.bnd _ _ _ _ _ _ _ _ _ _ _ _ _) G.noc ?_ ?_ rfl rfl rfl
  · intro y hy
    simp only [List.mem_cons, List.not_mem_nil, or_false] at hy
    rcases hy with rfl | rfl
    · exact G.lkS
    · exact G.lkF
  intro h₁ hn k
  have X₁ : K.In h₁ := X.keeps k
  have hx₁ := k _ _ hx
  have hxL : x < s.heap.objs.size := Heap.lt_size hx
  have X₀ : K.In (without s.heap x) := fun a o e => by
    have ne : a ≠ x := fun z => by rw [z, hnx] at e; cases e
    rw [without_ne _ _ _ ne]; exact X a o e
  obtain ⟨env, henv⟩ : ∃ env, env = callEnv (ksFn "__init__" qual (eA fld p1 p2) (eB fld parts mp q1 q2 q3 q4 q5 q6 q7 q8 q9) (eS fld ex) .none .none doc pm an (.ref cda) ct cc) s.heap.objs.size fI := ⟨_, rfl⟩
  obtain ⟨pl, hpl⟩ := hev (callEnv (ksFn "__init__" qual (eA fld p1 p2) (eB fld parts mp q1 q2 q3 q4 q5 q6 q7 q8 q9) (eS fld ex) .none .none doc pm an (.ref cda) ct cc) s.heap.objs.size fI)
  refine ks_wpAt_execs_cons (ks_wpAt_Expr_any (ks_wpAt_MethodCall (he := hpl) (ks_wpAt_super_base G.lkU G.lkC (by decide) (f := fI) rfl (k _ _ (X _ _ ho)) rfl rfl rfl (k _ _ (X _ _ hcd)) rfl hvf hfile T.noTop ?_)))
  refine ks_loadName_global rfl G.lkU (loadGlobal_builtin (hg.keeps k) T.noSuper (hb.keeps k) hmb ⟨rfl, ?_⟩)
  refine wpAny_loadName_free rfl G.lkC (c := cc) (v := .ref C) rfl ⟨_, k _ _ (X _ _ hcell), rfl⟩ ?_
  refine wpAny_loadName_local rfl G.lkS hn (G.bs _ _) ?_
  refine ks_wpAny_isType_cls (k _ _ (X _ _ hC)) rfl ⟨rfl, ?_⟩
  refine ks_wpAny_call_super (k _ _ (X _ _ hC)) rfl hx₁ rfl (fun c e => by cases e) (looks_mroIn X₁ T.mroS) fun h₂ hso k₂ => ?_
  have zL : s.heap.objs.size < h₁.objs.size := hn.lt
  have F2 : Fr (without s.heap x) s.heap.objs.size h₂ (fun y => List.lookup y [(("self" : Str), Value.ref x), (fld, v)].reverse) :=
    ⟨hn.keeps k₂, fun b o e => by
      by_cases hb : b = x
      · rw [hb, without_at] at e; cases e
      · rw [without_ne _ _ _ hb] at e; exact k₂ _ _ (k _ _ e), by rw [without_size]; exact Nat.le_refl _⟩
  have N2 : News (without s.heap x) s.heap.objs.size h₂ [(h₁.objs.size, ks_superObj C x C), (x, excObj C t0 none .none)] := by
    intro p hp
    simp only [List.mem_cons, List.not_mem_nil, or_false] at hp
    rcases hp with rfl | rfl
    · refine ⟨hso, Nat.ne_of_gt zL, ?_⟩
      rw [without_ne _ _ _ (Nat.ne_of_gt (Nat.lt_trans hxL zL))]
      cases e : s.heap.get? h₁.objs.size with
      | none => rfl
      | some o => exact absurd (Heap.lt_size e) (Nat.not_lt.mpr (Nat.le_of_lt zL))
    · exact ⟨k₂ _ _ hx₁, Nat.ne_of_lt hxL, without_at _ _⟩
  refine kxs_method kxs_ValueError F2 X₀ N2 List.mem_cons_self (.of_exc0 N2 (List.mem_cons_of_mem _ List.mem_cons_self)) T.third T.sup T.subV (by decide) fun u h₃ F3 N3 lt3 => ?_
  refine kxs_callWith1 N3 List.mem_cons_self (spliced_more ?_ (G.star _)) (G.star _) rfl
  rw [← henv]
  have k3 : ∀ b o, b ≠ x → s.heap.get? b = some o → h₃.get? b = some o := fun b o hb e => F3.keep b o (by rw [without_ne _ _ _ hb]; exact e)
  have kb : ∀ b o, base.get? b = some o → h₃.get? b = some o := fun b o e => k3 b o (fun z => by rw [z, hbx] at e; cases e) (e0.bs b o e).1
  have fne : ∀ b ∈ L2.frs outer, b ≠ x := fun b hb z => by
    obtain ⟨_, o, ho', hf⟩ := e0.funs.mem (b := b) hb
    rw [z, hx] at ho'; cases ho'
    exact hf _ rfl
  have funs3 : h₃.FunFrames base outer := e0.funs.of_keeps fun b o e hf => by
    refine ⟨o, k3 b o (fun z => ?_) e, rfl⟩
    rw [z, hx] at e; cases e
    exact hf _ rfl
  have hL3 : base.get? s.heap.objs.size = none := Heap.get?_none_of_le e0.bsz
  have efr : env.frame = some s.heap.objs.size := by rw [henv] <;> rfl
  have elo : env.locals = s.heap.objs.size := by rw [henv] <;> rfl
  have ens : h₃.Ns env.locals (fun y => List.lookup y [(("self" : Str), Value.ref x), (fld, v)].reverse) := by rw [elo]; exact F3.ns
  have e3 : ∀ tk, L2.Env0 prog w K mg base (A.deeper env) (env :: outer) { s with heap := h₃, toks := tk } (fun _ => none) := fun tk =>
    ⟨Around.frames_deeper e0.frames, e0.mod, fun b o e => ⟨kb b o e, rfl⟩, Nat.le_trans e0.bsz (Nat.le_of_lt F3.ns.lt), .cons (by rw [henv]; intro z; cases z) efr (by rw [← elo]; exact ens) hL3 funs3, fun _ _ => rfl, fun a o q => (by cases q), e0.bare⟩
  refine M (A.deeper env) (env :: outer) _ _ env _ _ (by rw [henv] <;> rfl) (by rw [henv] <;> rfl) (by rw [henv] <;> rfl) (hr.deeper env) (e3 _) ens (G.bf _ _) fun um s4 os4 bare4 K4 => spliced_none ?_
  have efs : L2.frs (env :: outer) = s.heap.objs.size :: L2.frs outer := by unfold L2.frs; rw [List.filterMap_cons, efr]
  rw [efs] at K4
  obtain ⟨h4, g4, d4, t4, o4⟩ := s4
  obtain rfl : o4 = s.os := os4
  -- what stands beside the frames
  have nf : ∀ p ∈ (u, kxs_mw "ValueError.__init__" x) :: [(h₁.objs.size, ks_superObj C x C), (x, excObj C t0 none .none)], p.1 ∉ s.heap.objs.size :: L2.frs outer := by
    intro p hp z
    rcases List.mem_cons.mp z with z | z
    · exact (N3 p hp).2.1 z
    · obtain ⟨_, o, ho', hf⟩ := e0.funs.mem (b := p.1) z
      have lt := Heap.lt_size ho'
      simp only [List.mem_cons, List.not_mem_nil, or_false] at hp
      rcases hp with rfl | rfl | rfl
      · exact absurd (Nat.lt_trans (Nat.lt_trans lt zL) (lt3 _ List.mem_cons_self)) (Nat.lt_irrefl _)
      · exact absurd (Nat.lt_trans lt zL) (Nat.lt_irrefl _)
      · exact fne _ z rfl
  have F4 : Fr (cutH h4 s.heap.objs.size x) s.heap.objs.size h4 (fun y => List.lookup y [(("self" : Str), Value.ref x), (fld, v)].reverse) := by
    refine ⟨?_, fun b o e => ?_, cut_size _ _ _⟩
    · obtain ⟨o', es', ep', ho', r'⟩ := F3.ns
      obtain ⟨sl, z⟩ := K4.slot _ _ ho'
      exact ⟨_, es', ep', z, r'⟩
    · by_cases hb : b = x
      · rw [hb, cut_at] at e; cases e
      · by_cases hl : b < s.heap.objs.size
        · rw [cut_lt _ _ _ _ hl hb] at e; exact e
        · rw [cut_big _ _ _ _ (Nat.le_of_not_lt hl)] at e; cases e
  have N4 : News (cutH h4 s.heap.objs.size x) s.heap.objs.size h4 ((u, kxs_mw "ValueError.__init__" x) :: [(h₁.objs.size, ks_superObj C x C), (x, excObj C t0 none .none)]) := by
    intro p hp
    refine ⟨K4.keep _ _ (nf p hp) (N3 p hp).1, (N3 p hp).2.1, ?_⟩
    simp only [List.mem_cons, List.not_mem_nil, or_false] at hp
    rcases hp with rfl | rfl | rfl
    · exact cut_big _ _ _ _ (Nat.le_of_lt (Nat.lt_trans zL (lt3 _ List.mem_cons_self)))
    · exact cut_big _ _ _ _ (Nat.le_of_lt zL)
    · exact cut_at _ _ _
  have old4 : ∀ b o, b ≠ x → b ∉ L2.frs outer → s.heap.get? b = some o → h4.get? b = some o := fun b o hb hf e =>
    K4.keep b o (fun z => (List.mem_cons.mp z).elim (fun z => absurd (Heap.lt_size e) (by rw [z]; exact Nat.lt_irrefl _)) hf) (k3 b o hb e)
  have base4 : ∀ b o, base.get? b = some o → b ≠ x ∧ b < s.heap.objs.size ∧ h4.get? b = some o := fun b o e => by
    have hb : b ≠ x := fun z => by rw [z, hbx] at e; cases e
    have e' := (e0.bs b o e).1
    exact ⟨hb, Heap.lt_size e', old4 b o hb (fun z => by have := (e0.funs.mem (b := b) z).1; rw [e] at this; cases this) e'⟩
  have X4 : K.In (cutH h4 s.heap.objs.size x) := fun a o e => by
    obtain ⟨p, q, r⟩ := base4 a o (e0.mod.kin a o e)
    rw [cut_lt _ _ _ _ q p]; exact r
  refine ⟨kxs_at N4 List.mem_cons_self, ?_⟩
  refine kxs_call (bmB := veTail) (newId := "ValueError.__new__") (dv := none) (c2 := .none) (t := t0) F4 X4 N4 F.excBase_ValueError T.ini List.mem_cons_self (.tail ?_ (.tail ?_ (.head ?_))) ?_ fun t' h₅ F5 N5 lt5 => ?_
  · exact Nat.ne_of_gt (lt3 _ (List.mem_cons_of_mem _ List.mem_cons_self))
  · exact Nat.ne_of_gt (Nat.lt_trans hxL zL)
  · intro p hp; cases hp
  · rw [sizeLine_eq]; exact (by decide : 1 ≤ 16777216)
  rw [henv] at *
  refine wpAt_of_wpAny ?_
  have hx5 : h₅.get? x = some (excO C t') := (N5 (x, excObj C t' none .none) (by simp)).1
  have c5 : ∀ b o, b ≠ x → b < s.heap.objs.size → h4.get? b = some o → h₅.get? b = some o := fun b o hb hl e => F5.keep b o (by rw [cut_lt _ _ _ _ hl hb]; exact e)
  have k5 : ∀ b o, b ≠ x → b ∉ L2.frs outer → s.heap.get? b = some o → h₅.get? b = some o := fun b o hb hf e => c5 b o hb (Heap.lt_size e) (old4 b o hb hf e)
  have s5 : ∀ b o, b ≠ x → s.heap.get? b = some o → ∃ sl, h₅.get? b = some { o with slots := sl } := fun b o hb e => by
    obtain ⟨sl, z⟩ := K4.slot b o (k3 b o hb e)
    exact ⟨sl, c5 b _ hb (Heap.lt_size e) z⟩
  have X5 : K.In h₅ := fun a o e => by
    obtain ⟨p, q, r⟩ := base4 a o (e0.mod.kin a o e)
    exact c5 a o p q r
  refine wpAny_execs_cons (plainObj_wpAny_Assign_Attribute ?_)
  refine ld1 (v := v) F5.ns (G.bf _ _) (ld1 (v := .ref x) F5.ns (G.bs _ _) ?_ rfl G.lkS (by decide)) rfl G.lkF G.dbg
  refine set_plain X5 (ox := excO C t') (od := none) ⟨hx5, rfl, rfl, trivial⟩ T.sa ?_
  refine exc_osa X5 hx5 hcl (show refsVE (.ref C :: bm) = true from hbm) rfl T.noN (fun h₆ tk₆ dx k₆ dn dne hx₆ hn₆ => ?_)
  exact wpAny_execs_nil (hq _ dx rfl bare4 ⟨fun b o hb hf e => k₆ b o hb (k5 b o hb hf e), fun b o hb e => let ⟨sl, z⟩ := s5 b o hb e; ⟨sl, k₆ b _ hb z⟩, ⟨t', hx₆⟩, Nat.le_of_lt (Nat.lt_of_lt_of_le F5.ns.lt dn), dne, hn₆⟩)
theorem err_made (T : ErrTxt prog K mg nm fld ex parts mp C fI) (G : FldOk fld ex parts mp) {v : Value} (M : MsgOk prog w K mg base lv ex parts mp fld v)
    (e0 : L2.Env0 prog w K mg base A outer s (fun _ => none)) (hr : L2.Room (lv + 2) A)
    (hq : ∀ s' e d, s'.os = s.os → AllBare s'.gens → OwnMade (L2.frs outer) fld s.heap s'.heap e C d v → R (.ok (.ret (.ref e))) s') :
    codeAny (model prog w) A (.call (.ref C) ⟨[v], []⟩) R s := by
  obtain ⟨nm, q, N, bs, bm, sn, sub, ab, col, dd, k0, k1, k2, k3, k5, hC, hbm⟩ := T.cls
  obtain ⟨hp, g, dr, tk, os⟩ := s
  have X : K.In hp := e0.mod.kin.keeps fun b o e => (e0.bs b o e).1
  have k : ∀ b o, hp.get? b = some o → ((hp.push (kdv_tup [v])).push (excO C hp.objs.size)).get? b = some o := fun b o e => Heap.get?_push_of_some _ (Heap.get?_push_of_some _ e)
  have hget : ((hp.push (kdv_tup [v])).push (excO C hp.objs.size)).get? (hp.objs.size + 1) = some (excO C hp.objs.size) := by heap_get
  have hnx : K.lookup (hp.objs.size + 1) = none := by
    cases e : K.lookup (hp.objs.size + 1) with
    | none => rfl
    | some o =>
      have z : hp.get? (hp.objs.size + 1) = some o := X _ _ e
      exact absurd (Nat.lt_of_succ_lt (Heap.lt_size z)) (Nat.lt_irrefl _)
  have hbx : base.get? (hp.objs.size + 1) = none := Heap.get?_none_of_le (Nat.le_trans e0.bsz (Nat.le_succ _))
  have sz : ((hp.push (kdv_tup [v])).push (excO C hp.objs.size)).objs.size = hp.objs.size + 1 + 1 := by
    first
      | rfl
      | simp [Heap.size_push]
  refine call_own F.excBase_ValueError (fun X => refsVE_contains X bm hbm) (X _ _ hC) (looks_findIn X T.iC) (fun self => bind_fn X self T.tC) (by rw [sizeLine_eq]; exact (by decide : 1 ≤ 16777216)) ?_
  have e1 := e0.make C [v] []
  have e2 : L2.Env0 prog w K mg base (A.under (.builtin "type.__call__" ⟨.ref C :: [v], []⟩)) outer ⟨(hp.push (kdv_tup [v])).push (excO C hp.objs.size), g, dr, tk, os⟩ (fun _ => none) :=
    ⟨e1.frames, e1.mod, fun b o e => ⟨k b o (e1.bs b o e).1, rfl⟩, by show base.objs.size ≤ ((hp.push (kdv_tup [v])).push (excO C hp.objs.size)).objs.size; rw [sz]; exact Nat.le_trans e1.bsz (Nat.le_trans (Nat.le_succ _) (Nat.le_succ _)),
      e1.funs.of_keeps fun b o e _ => ⟨o, k b o e, rfl⟩, fun _ _ => rfl, fun a o q => (by cases q), e1.bare⟩
  refine err_init (s := ⟨(hp.push (kdv_tup [v])).push (excO C hp.objs.size), g, dr, tk, os⟩) T G M e2 hget hnx hbx (hr.make C [v] []) fun s' dx os' bare' ⟨k', s', ⟨t1, hx⟩, dn, dne, hns⟩ => ?_
  have z : hp.objs.size + 1 + 1 ≤ dx := by rw [← sz]; exact dn
  refine ⟨rfl, hq _ (hp.objs.size + 1) dx os' bare' ⟨⟨fun b o hf e => k' b o (Nat.ne_of_lt (Nat.lt_succ_of_lt (Heap.lt_size e))) hf (k b o e), fun b o e => s' b o (Nat.ne_of_lt (Nat.lt_succ_of_lt (Heap.lt_size e))) (k b o e)⟩, Nat.le_succ _, ⟨_, _, hx, rfl, rfl, rfl, rfl⟩, Nat.le_trans (Nat.le_trans (Nat.le_succ _) (Nat.le_succ _)) z, dne, hns⟩⟩
end
end Errs
end PySem

set_option Elab.async false
set_option linter.all false
set_option maxRecDepth 100000
set_option maxHeartbeats 4000000
namespace L2
open PySem PySem.Spec PyProof.Rows
theorem relO_fld {v : V} {v' : Value} (fld : Str) (r : RelV v v') (f : Str) : RelO (List.lookup f [(fld, v)]) (if f = fld then some v' else none) := by
  by_cases hw : f = fld
  · subst hw
    rw [if_pos rfl]
    have q : List.lookup f [(f, v)] = some v := by simp [List.lookup]
    rw [q]
    exact r
  · rw [if_neg hw]
    have qw : (f == fld) = false := by simpa using hw
    have q2 : List.lookup f [(fld, v)] = none := by simp [List.lookup, qw]
    rw [q2]
    trivial
/-- the message of this value is written, whatever stands for it -/
def MsgV (X : Cx) (lv : Nat) (ex : List (Str × NameKind)) (parts : List Expr) (mp : Pos) (fld : Str) (v : V) : Prop := ∀ u, RelV v u → PySem.Errs.MsgOk X.prog X.w X.K X.mg X.base lv ex parts mp fld u
section
variable {X : Cx} {nm fld : Str} {ex : List (Str × NameKind)} {parts : List Expr} {mp : Pos} {C fI : Addr} {lv : Nat}
/-- NAME(e) -/
def tMkErr (Mv : V → Prop) (fld : Str) (C : Addr) (ta : TA) : St → Hp → XK → Prop := fun σ H Q => ta σ H fun vs H1 => ∃ v, vs = [v] ∧ Mv v ∧ ∀ d, H1 d = none → Q (.ref C) (some d) (upd H1 d (.xd [(fld, v)]))
theorem pmk_err {a : Expr} {ta : TA} {p pos : Pos} {k : Nat} (T : PySem.Errs.ErrTxt X.prog X.K X.mg nm fld ex parts mp C fI) (G : PySem.Errs.FldOk fld ex parts mp) (hr : Room k X.A) (ha : PA X [a] ta) (hlv : lv + 2 ≤ k := by decide) (hg : Gl X nm := by rfl)
    (hdb : (nm == PySem.Str.ofString "__debug__") = false := by decide)
    (he : starEach (a :: []) X.env = (false, eval a X.env) :: starEach [] X.env := by rfl) (hpl : (backTo pos (starEach [] X.env)).any (·.1) = false := by rfl) :
    PMk X (.Call (.Name nm p) [a] [] pos) (tMkErr (MsgV X lv ex parts mp fld) fld C ta) := by
  intro pins s σ H Q I h
  refine wpAny_Call_Name_kw (ld_glob I hg T.gC ?_ hdb)
  refine PySem.W.callWith_K (h₀ := X.base) I.ok.mod.kin T.kC (thn (ha.run pos pins s σ H _ I h) fun us s1 hh => ?_) he hpl
  obtain ⟨vs, H1, I1, r1, v, ev, mv, q1⟩ := hh
  subst ev
  refine ⟨I1.kIn, ?_⟩
  cases r1 with
  | cons rv rn =>
    rename_i v' us'
    cases rn
    show wpAny _ _ (call (.ref C) [v']) _ _ _
    have e0 := PySem.Errs.env0_none I1.env0
    refine wpAny_call (PySem.Errs.err_made T G (mv v' rv) e0 (hr.mono hlv) fun s' e d os' bare' M => ?_)
    obtain ⟨hp, g, dr, tk, os⟩ := s1
    obtain ⟨h', g', dr', tk', os2⟩ := s'
    obtain rfl : os2 = os := os'
    show MkP X pins σ Q (.ref e) ⟨h', g', dr', tk', os2⟩
    obtain ⟨oe, fv, hoe, hc, hd, hdat, h1⟩ := M.obj
    have hns := M.ns
    have hnew : hp.objs.size ≤ e := M.new
    have hdbig : hp.objs.size ≤ d := M.dbig
    have fe : H1 e = none := I1.hok.fresh hnew
    have fd : H1 d = none := I1.hok.fresh hdbig
    obtain ⟨G', g1, g2⟩ := restrict h' fun b => decide (b ≠ e)
    have gk : ∀ b, b ≠ e → G'.get? b = h'.get? b := fun b hb => g1 b (decide_eq_true hb)
    have ge : G'.get? e = none := g2 e (by simp)
    have ne : ∀ b o, hp.get? b = some o → b ≠ e := fun b o q => Nat.ne_of_lt (Nat.lt_of_lt_of_le (Heap.lt_size q) hnew)
    have nd : ∀ b o, hp.get? b = some o → b ≠ d := fun b o q => Nat.ne_of_lt (Nat.lt_of_lt_of_le (Heap.lt_size q) hdbig)
    have k1 : ∀ b o, b ∉ frs X.stack → hp.get? b = some o → G'.get? b = some o := fun b o hf q => (gk b (ne b o q)).trans (M.keep.keep b o hf q)
    have k2 : ∀ b o, hp.get? b = some o → ∃ sl, G'.get? b = some { o with slots := sl } := fun b o q => let ⟨sl, z⟩ := M.keep.slot b o q; ⟨sl, (gk b (ne b o q)).trans z⟩
    have ob : ObjOk X.prog X.w (upd H1 d (.xd [(fld, v)])) G' d (.xd [(fld, v)]) :=
      ⟨_, hns.at (fun o q => (gk d M.dne).trans q), fun f => relO_fld fld rv f⟩
    have tne : ∀ b o, H1 b = some o → b ≠ d := fun b o q z => by rw [z, fd] at q; cases q
    have un : Un (frs X.stack) [] H1 (upd H1 d (.xd [(fld, v)])) hp G' :=
      ⟨fun b o q _ hf _ => k1 b o hf q, fun b o q _ _ _ => k2 b o q, fun b o q n _ => by rw [upd_ne (nd b o q)]; exact n, fun b o q _ => let ⟨sl, z⟩ := k2 b o q; ⟨_, z⟩,
        fun b xs q => by rw [upd_ne (tne b _ q)]; exact q, fun b u xs q => by rw [upd_ne (tne b _ q)]; exact q, fun b ps q => ⟨#[], by rw [upd_ne (tne b _ q), q]; simp⟩⟩
    have free := I1.stkFree
    have hok : HOk X.prog X.w (upd H1 d (.xd [(fld, v)])) G' := fun b u q => by
      by_cases hb : b = d
      · subst hb; rw [upd_same] at q; cases q; exact ob
      · rw [upd_ne hb] at q
        refine (I1.hok b u q).stay (fun c o hc z => k1 c o (fun hf => ?_) z) (fun c z => by rw [upd_ne (tne c _ z)]; exact z) fun c xs z => by rw [upd_ne (tne c _ z)]; exact z
        have fc := free c hf
        rcases hc with rfl | hc
        · rw [q] at fc; cases fc
        · rw [hc] at fc; cases fc
    have J : Inv X pins σ (upd H1 d (.xd [(fld, v)])) ⟨G', g', dr', tk', os2⟩ := I1.call (g' := g') (t' := tk') (d' := dr') (ch := []) un hok bare' (fun _ z => nomatch z)
    refine ⟨e, oe, fv, ⟨G', g', dr', tk', os2⟩, _, .ref C, some d, rfl, J, fun b o q => ?_, ge, hoe, ⟨hc, hd⟩, hdat, h1, ?_, rfl, bare', raises_own T.exC T.tyC, q1 d fd⟩
    · by_cases hb : b = e
      · have q' : G'.get? b = some o := q
        rw [hb, ge] at q'; cases q'
      · exact (gk b hb).symm.trans q
    · rw [upd_ne (Ne.symm M.dne)]
      exact fe
/-- raise NAME(e) -/
def tRaiseErr (Mv : V → Prop) (fld : Str) (C : Addr) (W : WX) (ta : TA) : TS := fun _ σ H => tMkErr Mv fld C ta σ H fun cls d H' => W cls d σ H'
theorem ps_raiseErr {a : Expr} {ta : TA} {W : WX} {p pos pos2 : Pos} {k : Nat} (hc : X.calm = true) (T : PySem.Errs.ErrTxt X.prog X.K X.mg nm fld ex parts mp C fI) (G : PySem.Errs.FldOk fld ex parts mp) (hr : Room k X.A) (tk : Takes X W) (ha : PA X [a] ta) (hlv : lv + 2 ≤ k := by decide) (hg : Gl X nm := by rfl)
    (hdb : (nm == PySem.Str.ofString "__debug__") = false := by decide)
    (he : starEach (a :: []) X.env = (false, eval a X.env) :: starEach [] X.env := by rfl) (hpl : (backTo pos (starEach [] X.env)).any (·.1) = false := by rfl) :
    PS X (.Raise (some (.Call (.Name nm p) [a] [] pos)) none pos2) (tRaiseErr (MsgV X lv ex parts mp fld) fld C W ta) := ps_raise hc tk (pmk_err T G hr ha hlv hg hdb he hpl)
/-! ### the messages -/
/-- decimal(e) in a message -/
theorem dec_part {f : Addr} {fd : FuncData} {sp : Sp} {v : V} {u : Value} {p1 p2 p3 : Pos} (F : FnOk X.prog X.w X.K X.mg X.base CX0 lv f fd ["n"] sp) (gf : X.mg "decimal" = some (.ref f)) (kp : PySem.W.keepIn X.K (.ref f) = true) (hb : Binds X.K fd ["n"] [])
    (hsp : ∀ (Q : VK) (E : XK), (∀ z H', z.length ≤ 1000000 → Q (.str z) H') → sp [v] (fun _ => none) Q E) (r : RelV v u)
    {A : Around} {outer : List Env} {E : Value → Shared → Prop} {s : Shared} {env : Env} {m : Str → Option Value} {Q : Value → Shared → Prop}
    (hs : env.scope = PySem.Errs.eS fld [("decimal", .globalImplicit)]) (hgl : env.globals = mainGlobals) (hr : Room lv A) (e0 : Env0 X.prog X.w X.K X.mg X.base A outer s (fun _ => none))
    (hn : s.heap.Ns env.locals m) (hm : m fld = some u) (h1 : List.lookup fld (PySem.Errs.eS fld [("decimal", .globalImplicit)]).names = some .local) (h2 : List.lookup ("decimal" : Str) (PySem.Errs.eS fld [("decimal", .globalImplicit)]).names = some .globalImplicit)
    (hd : (fld == ("__debug__" : Str)) = false) (hst : starEach [.Name fld p2] env = (false, eval (.Name fld p2) env) :: starEach [] env) (hpl : (backTo p3 (starEach [] env)).any (·.1) = false)
    (h : ∀ z tk s', z.length ≤ 1000000 → s'.os = s.os → AllBare s'.gens → PySem.Errs.KeepF (frs outer) s.heap s'.heap → Q (.str z tk) s') :
    wpAny (model X.prog X.w) A (eval (.Call (.Name "decimal" p1) [.Name fld p2] [] p3) env) Q E s := by
  have kin : X.K.In s.heap := e0.mod.kin.keeps fun b o e => (e0.bs b o e).1
  have hkd : env.scope.kind = .function := by rw [hs] <;> rfl
  refine wpAny_Call_Name_kw (Calls.Name_function_global hkd (by show env.scope.names.lookup _ = _; rw [hs]; exact h2) (Calls.loadGlobal_global (by rw [hgl]; exact e0.mod.glob.keeps fun b o e => (e0.bs b o e).1) gf ?_) (by decide))
  refine PySem.W.callWith_K (h₀ := X.base) e0.mod.kin kp (PyProof.Rows.spliced_more ?_ hst) hst hpl
  refine PySem.Errs.ld1 hn hm ?_ hkd (by show env.scope.names.lookup _ = _; rw [hs]; exact h1) hd
  refine PyProof.Rows.spliced_none ⟨kin, ?_⟩
  have b0 := hb s [u] kin rfl
  refine wpAny_call (codeAny_mono (F.run A outer s _ ⟨[u], []⟩ [u] [v] _ (fun _ _ _ => False) hr e0 b0 (.cons r .nil) (hsp (fun x H' => ∃ z, x = .str z ∧ z.length ≤ 1000000) _ fun z H' hz => ⟨z, rfl, hz⟩)) fun res s' got => ?_)
  match res, got with
  | .error e, got => exact False.elim got
  | .ok (.ret y), got =>
    obtain ⟨x, H', os', bare', un, hok, rv, z, rfl, hz⟩ := got
    obtain ⟨tk, rfl⟩ := rv
    exact h z tk s' hz os' bare' (PySem.Errs.KeepF.of_un un)
  | .ok .next, got => cases got
  | .ok .brk, got => cases got
  | .ok .cont, got => cases got
theorem msg_dec2 {f : Addr} {fd : FuncData} {sp : Sp} {v : V} {a : Str} {k1 : Nat} {p1 p2 p3 p4 p5 mp : Pos} (F : FnOk X.prog X.w X.K X.mg X.base CX0 lv f fd ["n"] sp) (gf : X.mg "decimal" = some (.ref f)) (kp : PySem.W.keepIn X.K (.ref f) = true) (hb : Binds X.K fd ["n"] [])
    (hsp : ∀ (Q : VK) (E : XK), (∀ z H', z.length ≤ 1000000 → Q (.str z) H') → sp [v] (fun _ => none) Q E)
    (h1 : List.lookup fld (PySem.Errs.eS fld [("decimal", .globalImplicit)]).names = some .local) (h2 : List.lookup ("decimal" : Str) (PySem.Errs.eS fld [("decimal", .globalImplicit)]).names = some .globalImplicit) (hd : (fld == ("__debug__" : Str)) = false)
    (hst : ∀ env : Env, starEach [.Name fld p2] env = (false, eval (.Name fld p2) env) :: starEach [] env) (hl : a.length ≤ 100) :
    MsgV X lv [("decimal", .globalImplicit)] [.Constant (.str a) k1 p4, .FormattedValue (.Call (.Name "decimal" p1) [.Name fld p2] [] p3) (-1) none p5] mp fld v := by
  intro u r A outer E s env m Q hs hgl hbl hr e0 hn hm hQ
  refine JoinedStr_many (joinParts_cons ?_)
  refine wpAny_Constant_str ?_
  have l0 : Str.empty.length = 0 := rfl
  refine ⟨by rw [sizeLine_eq, Str.length_append]; omega, ?_⟩
  refine joinParts_cons (FormattedValue_plain ?_)
  refine dec_part F gf kp hb hsp r hs hgl hr (e0 := ⟨e0.frames, e0.mod, e0.bs, e0.bsz, e0.funs, e0.frf, e0.hok, e0.bare⟩) hn hm h1 h2 hd (hst _) rfl fun z tk s' hz os' bare' K' => ?_
  refine formatField_str (fun t' tk' => ?_) (by rw [sizeLine_eq]; omega)
  refine ⟨by rw [sizeLine_eq, Str.length_append, Str.length_append]; omega, ?_⟩
  refine joinParts_nilE (joinParts_nil ?_ ?_)
  · exact hQ _ _ os' bare' K'
  · rw [sizeLine_eq, Str.length_append, Str.length_append]; omega
theorem msg_dec3 {f : Addr} {fd : FuncData} {sp : Sp} {v : V} {a b : Str} {k1 k2 : Nat} {p1 p2 p3 p4 p5 p6 mp : Pos} (F : FnOk X.prog X.w X.K X.mg X.base CX0 lv f fd ["n"] sp) (gf : X.mg "decimal" = some (.ref f)) (kp : PySem.W.keepIn X.K (.ref f) = true) (hb : Binds X.K fd ["n"] [])
    (hsp : ∀ (Q : VK) (E : XK), (∀ z H', z.length ≤ 1000000 → Q (.str z) H') → sp [v] (fun _ => none) Q E)
    (h1 : List.lookup fld (PySem.Errs.eS fld [("decimal", .globalImplicit)]).names = some .local) (h2 : List.lookup ("decimal" : Str) (PySem.Errs.eS fld [("decimal", .globalImplicit)]).names = some .globalImplicit) (hd : (fld == ("__debug__" : Str)) = false)
    (hst : ∀ env : Env, starEach [.Name fld p2] env = (false, eval (.Name fld p2) env) :: starEach [] env) (hl : a.length ≤ 100 ∧ b.length ≤ 100) :
    MsgV X lv [("decimal", .globalImplicit)] [.Constant (.str a) k1 p4, .FormattedValue (.Call (.Name "decimal" p1) [.Name fld p2] [] p3) (-1) none p5, .Constant (.str b) k2 p6] mp fld v := by
  intro u r A outer E s env m Q hs hgl hbl hr e0 hn hm hQ
  refine JoinedStr_many (joinParts_cons ?_)
  refine wpAny_Constant_str ?_
  have l0 : Str.empty.length = 0 := rfl
  refine ⟨by rw [sizeLine_eq, Str.length_append]; omega, ?_⟩
  refine joinParts_cons (FormattedValue_plain ?_)
  refine dec_part F gf kp hb hsp r hs hgl hr (e0 := ⟨e0.frames, e0.mod, e0.bs, e0.bsz, e0.funs, e0.frf, e0.hok, e0.bare⟩) hn hm h1 h2 hd (hst _) rfl fun z tk s' hz os' bare' K' => ?_
  refine formatField_str (fun t' tk' => ?_) (by rw [sizeLine_eq]; omega)
  refine ⟨by rw [sizeLine_eq, Str.length_append, Str.length_append]; omega, ?_⟩
  refine joinParts_consE (joinParts_cons ?_)
  refine wpAny_Constant_str ?_
  refine ⟨by rw [sizeLine_eq, Str.length_append, Str.length_append, Str.length_append]; omega, ?_⟩
  refine joinParts_nilE (joinParts_nil ?_ ?_)
  · exact hQ _ _ os' bare' K'
  · rw [sizeLine_eq, Str.length_append, Str.length_append, Str.length_append]; omega
theorem msg_str2 {a : Str} {k1 : Nat} {p1 p2 p3 mp : Pos} {z : Str} (h1 : List.lookup fld (PySem.Errs.eS fld []).names = some .local) (hd : (fld == ("__debug__" : Str)) = false)
    (hl : a.length ≤ 100) (ht : z.length ≤ 10000) :
    MsgV X lv [] [.Constant (.str a) k1 p1, .FormattedValue (.Name fld p2) (-1) none p3] mp fld (.str z) := by
  intro u r
  obtain ⟨tk, rfl⟩ := r
  intro A outer E s env m Q hs hgl hbl hr e0 hn hm hQ
  refine JoinedStr_many (joinParts_cons ?_)
  refine wpAny_Constant_str ?_
  have l0 : Str.empty.length = 0 := rfl
  refine ⟨by rw [sizeLine_eq, Str.length_append]; omega, ?_⟩
  refine joinParts_cons (FormattedValue_plain ?_)
  refine PySem.Errs.ld1 hn hm ?_ (by rw [hs] <;> rfl) (by show env.scope.names.lookup _ = _; rw [hs]; exact h1) hd
  refine formatField_str (fun t' tk' => ?_) (by rw [sizeLine_eq]; omega)
  refine ⟨by rw [sizeLine_eq, Str.length_append, Str.length_append]; omega, ?_⟩
  refine joinParts_nilE (joinParts_nil ?_ ?_)
  · exact hQ _ _ rfl e0.bare (.of fun _ _ e => e)
  · rw [sizeLine_eq, Str.length_append, Str.length_append]; omega
/-! ### isinstance(e, CLASS) of a caught error that keeps values -/
structure ExcD (K : PySem.W.Frag) (D : Addr) : Prop where
  cl : (PySem.W.clsIn K D).isSome = true
  ga : PySem.W.findIn K (.ref D) "__getattribute__" = some (some (.builtin "BaseException.__getattribute__"))
  gg : PySem.W.findIn K (.ref D) "__getattr__" = some none
  ex : PySem.W.subIn K (.ref D) (.type "BaseException") = some true
  cc : PySem.W.findIn K (.ref D) "__class__" = some (some (.builtin "object.__class__"))
  sp : PySem.W.specialIn K (.builtin "object.__class__") "__get__" = some (some (.builtin "getset_descriptor.__get__"))
  tk : PySem.W.takesIn K (.builtin "object.__class__") = some true
  mo : PySem.W.mroIn K D (.type "object") = some true
def rIsD (K : PySem.W.Frag) (D : Addr) (a : Addr) (cls : Value) (d : Option Addr) : List V → Hp → VK → Prop := fun xs H Q =>
  ∃ c cv b dd fl, xs = [.ref a, c] ∧ cls = .ref D ∧ d = some dd ∧ (∀ u, RelV c u → u = cv) ∧ PySem.W.kitOne K (.ref D) cv = some b ∧ H dd = some (.xd fl) ∧ Q (.bl b) H
theorem call_isD {X : Cx} {a D : Addr} {cls : Value} {do_ : Option Addr} {oe : Obj} {pn : List (Addr × Obj)} (C : ExcD X.K D) (hz : Zc cls do_ oe) (hf : ∃ vs, oe.data = .fields vs) :
    CallR (X.suite a ((a, oe) :: pn)) (.builtin "isinstance") (rIsD X.K D a cls do_) := by
  intro pins s σ H xs us Q I r h
  obtain ⟨c, cv, b, d, fl, rfl, rfl, rfl, hcv, e, hd, q⟩ := h
  cases r with
  | cons rx rr =>
    cases rr with
    | cons rt rn =>
      cases rn
      obtain rfl := hcv _ rt
      obtain rfl : _ = Value.ref a := rx
      obtain ⟨ha, _⟩ := I.pin (a, oe) (List.mem_append_left _ List.mem_cons_self)
      obtain ⟨vs, hv⟩ := hf
      have hx : ObjOk X.prog X.w H s.heap d (.xd fl) := I.hok d _ hd
      obtain ⟨mA, hns, hr⟩ := hx
      obtain ⟨od, ho, hl⟩ := lookIn_ns hns
      have J : PySem.W.InstAt s.heap a oe D (some od) := ⟨ha, hz.1, by unfold PySem.W.notCls; rw [hv] <;> rfl, by rw [hz.2]; exact ho⟩
      exact PySem.W.kia_one (PySem.W.kitx_exc C.cl C.ga C.gg C.ex C.cc C.sp C.tk C.mo) I.kIn J e (by intro z; cases z) fun tk => ⟨V.bl b, H, I.tok _, rfl, q⟩
end
end L2
namespace Mine
open PySem
/-- an error of the class at S is what the clause that names S takes -/
theorem exm_own {K : PySem.W.Frag} {S : Addr} (h1 : PySem.W.subIn K (.ref S) (.type "BaseException") = some true) (h2 : PySem.W.isClsIn K S = true) (h3 : PySem.W.typeIn K (.ref S) = some (.type "type")) (h4 : PySem.W.subIn K (.ref S) (.ref S) = some true) :
    PySem.W.exmOne K (.ref S) (.ref S) = some true := by
  have e1 : (PySem.W.subIn K (.ref S) (.type "BaseException") == some true) = true := by rw [h1] <;> rfl
  have e2 : ((PySem.W.clsIn K S).isSome && PySem.W.typeIn K (.ref S) == some (.type "type")) = true := by
    have h2' : (PySem.W.clsIn K S).isSome = true := h2
    rw [h2', h3] <;> rfl
  show (if (PySem.W.subIn K (.ref S) (.type "BaseException") == some true) = true then (if ((PySem.W.clsIn K S).isSome && PySem.W.typeIn K (.ref S) == some (.type "type")) = true then PySem.W.subIn K (.ref S) (.ref S) else none) else none) = some true
  rw [if_pos e1, if_pos e2]
  exact h4
end Mine

set_option Elab.async false
set_option linter.all false
set_option maxRecDepth 100000
namespace L2
open PySem PySem.Spec PyProof.Rows
/-! an own object, and a method, whose def may raise, within a try's body -/
section
variable {X : Cx} {CX : CXT} {lv : Nat} {fa cA : Addr} {fd : FuncData} {pn : List Str} {sp : Sp} {nm mm : Str} {p1 p2 p3 : Pos} {e1 oe : Expr} {er : List Expr} {to' : TE} {tr : TA}
theorem mkS_run {EE : XK} {pins : List (Addr × Obj)} {σ : St} {H : Hp} {s : Shared} {Q : VK} {us : List Value} {vs : List V}
    (M : Mk X.K cA fa) (F : FnOk X.prog X.w X.K X.mg X.base CX lv fa fd pn sp) (rm : Room (lv + 1) X.A)
    (bi : Binds X.K fd pn []) (out : PassesAt CX X σ EE) (I : Inv X pins σ H s) (r : Vals vs us)
    (h : ∀ x dx, H x = none → H dx = none → dx ≠ x →
      sp (.ref x :: vs) (upd (upd H dx (.own x)) x (.ins cA dx [])) (fun v H2 => v = .non ∧ Q (.ref x) H2) EE) :
    wpAny (model X.prog X.w) X.A (call (.ref cA) us) (EP X pins σ Q) X.xe s := by
  have J := Inv.made (C := cA) I
  obtain ⟨n, en⟩ : ∃ n, n = s.heap.objs.size := ⟨_, rfl⟩
  have q0 := h _ _ (I.hok.fresh (Nat.le_succ _)) (I.hok.fresh (Nat.le_refl _)) (Nat.ne_of_lt (Nat.lt_succ_self _))
  have rr : Vals (V.ref (s.heap.objs.size + 1) :: vs) (Value.ref (s.heap.objs.size + 1) :: us) := .cons rfl r
  have ln : (Value.ref (s.heap.objs.size + 1) :: us).length = pn.length :=
    rr.length.symm.trans (F.len _ _ _ _ q0)
  have bb := bi _ (Value.ref (s.heap.objs.size + 1) :: us) J.kIn (by rw [List.append_nil]; exact ln)
  rw [List.append_nil] at bb
  have run := F.run _ X.stack _ _ ⟨Value.ref (s.heap.objs.size + 1) :: us, []⟩ _ _ _ EE
    (rm.make cA us []) (J.env0.make cA us []) bb rr q0
  refine wpAny_call (make_map (f := fa) I.kIn M.makes M.init (beq_iff_eq.mp M.fn) (codeAny_mono run fun res s' got => ?_))
  match res, got with
  | .error e, got => exact out pins _ _ e s' J got
  | .ok (.ret u), got =>
    obtain ⟨v, H', J3, rv, ev, q3⟩ := J.after got
    rw [ev] at rv
    exact ⟨rv, V.ref (s.heap.objs.size + 1), H', J3, rfl, q3⟩
  | .ok .next, got => cases got
  | .ok .brk, got => cases got
  | .ok .cont, got => cases got
def tMakeS (C : Addr) (sp : Sp) (E : St → XK) (t : TA) : TE := fun σ H Q => t σ H fun vs H1 => ∀ x dx, H1 x = none → H1 dx = none → dx ≠ x →
  sp (.ref x :: vs) (upd (upd H1 dx (.own x)) x (.ins C dx [])) (fun v H2 => v = .non ∧ Q (.ref x) H2) (E σ)
theorem pe_makeS {EE : St → XK} (M : Mk X.K cA fa) (F : FnOk X.prog X.w X.K X.mg X.base CX lv fa fd pn sp)
    (rm : Room (lv + 1) X.A) (hg : Gl X nm) (hm : X.mg nm = some (.ref cA)) (bi : Binds X.K fd pn [])
    (out : ∀ σ, PassesAt CX X σ (EE σ)) (ha : PA X (e1 :: er) tr) (nd : (nm == ("__debug__" : Str)) = false := by decide)
    (t1 : starEach (e1 :: er) X.env = (false, eval e1 X.env) :: starEach er X.env := by rfl)
    (t2 : (backTo p2 (starEach er X.env)).any (·.1) = false := by rfl) :
    PE X (.Call (.Name nm p1) (e1 :: er) [] p2) (tMakeS cA sp EE tr) := by
  constructor
  intro pins s σ H Q I h
  refine wpAny_Call_Name_kw (ld_glob I hg hm (PySem.W.callWith_K (h₀ := X.base) I.ok.mod.kin M.kp ?_ t1 t2) nd)
  exact thn (ha.run p2 pins s σ H _ I h) fun us s1 ⟨vs, H1, I1, r, q⟩ => ⟨I1.kIn, mkS_run M F rm bi (out σ) I1 r q⟩
def tMethX (C : Addr) (m : Str) (sp : Sp) (E : St → XK) (ta : TE) (t : TA) : TE := fun σ H Q => ta σ H fun x H1 => ∃ a dx fs, x = .ref a ∧ H1 a = some (.ins C dx fs) ∧ fs.lookup m = none ∧
  t σ H1 fun vs H2 => sp (x :: vs) H2 Q (E σ)
theorem pe_methX {EE : St → XK} {pl : Sem Bool} (ho : PE X oe to') (c : Cls X.K cA) (hm : Meth X.K cA mm fa)
    (F : FnOk X.prog X.w X.K X.mg X.base CX lv fa fd pn sp) (rm : Room lv X.A) (bi : Binds X.K fd pn [])
    (out : ∀ σ, PassesAt CX X σ (EE σ)) (ha : PA X (e1 :: er) tr)
    (t1 : starEach (e1 :: er) X.env = (false, eval e1 X.env) :: starEach er X.env := by rfl)
    (t2 : (backTo p2 (starEach er X.env)).any (·.1) = false := by rfl)
    (ev : eval (.Call (.Attribute oe mm p3) (e1 :: er) [] p2) X.env = (do
      let ov ← eval oe X.env
      standAt p3.atName
      let (f, first) ← holding [ov] (getMethod ov mm pl)
      callWith p2 f first (backTo p2 (starEach (e1 :: er) X.env)) (backToKw p2 (keywordEach [] X.env))) := by rfl) :
    PE X (.Call (.Attribute oe mm p3) (e1 :: er) [] p2) (tMethX cA mm sp EE to' tr) := by
  constructor
  intro pins s σ H Q I h
  refine PySem.W.methodCall_KW (pl := pl) (thn (ho.run pins s σ H _ I h) fun u s1 got => ?_) ev
  obtain ⟨x, H1, I1, rx, a, dx, fs, rfl, ea, l, q⟩ := got
  cases (show u = Value.ref a from rx)
  refine getmeth_ok I1 ea c hm l (PySem.W.callWith_K (first := [.ref a]) (h₀ := X.base) I.ok.mod.kin hm.kp ?_ t1 t2)
  exact thn (ha.run p2 pins s1 σ H1 _ I1 q) fun us s2 ⟨vs, H2, I2, r, q2⟩ => ⟨I2.kIn, run_fnS (us := .ref a :: us) (vs := .ref a :: vs) F rm bi (out σ) I2 (.cons rfl r) q2⟩
end
end L2

set_option Elab.async false
set_option linter.all false
set_option maxRecDepth 100000
namespace L2
open PySem PySem.Spec PySem.Calls PyProof.Rows
/-! an own object without a == of its own, against an integer -/
theorem int_eq_declines_ins (b : Int) (u : Tok) (a C dx : Addr) :
    Meets (Builtin.«int.__eq__» ⟨[.int b u, .ref a], []⟩) (fun _ R s => s.heap.get? a = some (PySem.W.instObj C dx) ∧ R (.ok (.ret .notImplemented)) s) :=
  .of_wp fun prog w A R s h => by
    obtain ⟨hp, g, d, tk, os⟩ := s
    obtain ⟨hl, h⟩ := h
    unfold PySem.W.instObj at hl
    wp_walk using wpAny_loadPart' hl, wpAny_load hl
    exact ⟨_, rfl, h⟩
section
variable {prog : Program} {w : World} {A : Around} {E : Value → Shared → Prop} {s : Shared} {K : PySem.W.Frag} {x C dx : Addr} {od : Option Obj}
theorem ifBound_B {name : Str} {id : String} {args : List Value} {Q : Option Value → Shared → Prop} (X : K.In s.heap) (I : PySem.W.InstAt s.heap x (PySem.W.instObj C dx) C od)
    (hs : PySem.W.findIn K (.ref C) name = some (some (.builtin id))) (hb : ∀ self, bindSpecial (.builtin id) self = pure (.builtin id, [self]))
    (h : wpAny (model prog w) A (call (.builtin id) (.ref x :: args)) (fun v => Q (some v)) E s) : wpAny (model prog w) A (callSpecialIfBound? (.ref x) name args) Q E s := by
  simp only [callSpecialIfBound?, bindSpecialIfBound?]
  refine wpAny_holding (wpAny_bind (wpAny_bind (wpAny_bind (I.type.here ((PySem.W.looks_findIn X hs).here ?_)))))
  simp only [hb]
  refine wpAny_bind (wpAny_askSetting (wpAny_ite ?_))
  have fin : wpAny (model prog w) A (call (.builtin id) ([.ref x] ++ args) >>= fun v => pure (some v)) Q E s := wpAny_bind (wpAny_mono h (fun v s' h' => wpAny_pure h') fun _ _ h' => h')
  split
  · exact wpAny_bind (wpAny_pure (by exact wpAny_pure fin))
  · exact wpAny_tryCatch (wpAny_bind (wpAny_pure (by exact wpAny_pure fin)))
theorem call_objEq_int {n : Int} {t : Tok} {Q : Value → Shared → Prop} (X : K.In s.heap) (I : PySem.W.InstAt s.heap x (PySem.W.instObj C dx) C od)
    (ho : PySem.W.mroIn K C (.type "object") = some true) (hq : Q .notImplemented s) :
    wpAny (model prog w) A (call (.builtin "object.__eq__") [.ref x, .int n t]) Q E s := by
  refine wpAny_call (codeAny_call_builtin F.cmp_object.eq.plain F.cmpEntry_eq ?_)
  simp only [checkBuiltinCall, F.cmpKind_eq, F.cmpSplit_eq]
  refine wpAny_bind ?_
  unfold isInstance
  refine wpAny_bind (I.type.here ((PySem.W.looks_subIn (t := .ref C) X ho).here ?_))
  have body : wpAny (model prog w) A.in1 (Builtin.«object.__eq__» ⟨[.ref x, .int n t], []⟩) (fun fin s' => fin = .done (.ret .notImplemented) ∧ s' = s) E s := by
    unfold Builtin.«object.__eq__»
    have q : isSame (.ref x) (.int n t) = pure false := rfl
    repeat (first | rw [q] | wp_step)
    exact ⟨rfl, rfl⟩
  have fin : wpAny (model prog w) A.in1 (Builtin.«object.__eq__» ⟨[.ref x, .int n t], []⟩) (fun fin s' => match fin with
      | .done f => (match (Except.ok f : Result) with | .ok (.ret v) => Q v s' | .ok _ => False | .error e => E e s')
      | .again c' => c'.quiet = true ∧ codeAny (model prog w) A c' (fun r s' => match r with | .ok (.ret v) => Q v s' | .ok _ => False | .error e => E e s') s') (fun e s' => E e s') s :=
    wpAny_mono body (fun f s' h => by obtain ⟨rfl, rfl⟩ := h; exact hq) (fun _ _ e => e)
  cases hsig : Manifest.signature? "object.__eq__" with
  | none => exact wpAny_pure fin
  | some sig =>
    have ha := F.cmpArgs_eq (.ref x) (.int n t)
    simp only [argsOk, hsig] at ha
    have h2 : Bind.checkArgs "object.__eq__" sig ⟨[.ref x, .int n t], []⟩ = pure () := ha
    show wpAny (model prog w) A.in1 (Bind.checkArgs "object.__eq__" sig ⟨[.ref x, .int n t], []⟩) _ _ s
    rw [h2]
    exact wpAny_pure fin
theorem richCompare_inst_int {n : Int} {t : Tok} {Q : Value → Shared → Prop} (hu : A.units < cLine) (X : K.In s.heap) (I : PySem.W.InstAt s.heap x (PySem.W.instObj C dx) C od)
    (hs : PySem.W.findIn K (.ref C) "__eq__" = some (some (.builtin "object.__eq__"))) (ho : PySem.W.mroIn K C (.type "object") = some true)
    (hn : PySem.W.subIn K (.type "int") (.ref C) = some false) (hq : Q (.bool false) s) : wpAny (model prog w) A (richCompare .Eq (.ref x) (.int n t)) Q E s := by
  unfold richCompare
  simp only [oneThing_ref]
  refine wpAny_holding (wpAny_bind (wpAny_cRoomFor hu ?_))
  refine wpAny_bind (I.type.here (wpAny_bind (wpAny_typeOf (typeIs_int s n t) ?_)))
  have e1 : (Value.ref C != Value.type "int") = true := by rfl
  simp only [e1, if_true]
  refine wpAny_bind ((PySem.W.looks_subIn X hn).here ?_)
  simp only [Bool.false_eq_true, if_false, Bool.not_false, if_true]
  refine wpAny_bind (m := tryCompare (.ref x) _ (.int n t)) ?_
  unfold tryCompare
  refine wpAny_bind (ifBound_B X I hs F.cmp_object.eq.bind (call_objEq_int X I ho ?_))
  refine wpAny_pure ?_
  refine wpAny_bind (m := tryCompare (.int n t) _ (.ref x)) (wpAny_tryCompare_declines (typeIs_int s n t) F.slot_int_eq_refl (call_meets F.slot_int_eq_refl (typeIs_int s n t) F.entry_int_eq (F.args_int_eq_2 _ _) (int_eq_declines_ins n t x C dx) ⟨I.at_, rfl, ?_⟩))
  exact wpAny_bind (wpAny_rule (wpAny_bind (wpAny_of_eq (rfl : isSame (.ref x) (.int n t) = pure false) (wpAny_pure hq))))
end
structure ClsEq (K : PySem.W.Frag) (C : Addr) : Prop where
  eq : PySem.W.findIn K (.ref C) "__eq__" = some (some (.builtin "object.__eq__"))
  ob : PySem.W.mroIn K C (.type "object") = some true
  nt : PySem.W.subIn K (.type "int") (.ref C) = some false
section
variable {X : Cx}
def rEqOI (C : Addr) : R2 := fun x y H Q => ∃ (a dx : Addr) (fs : List (Str × V)) (i : Int), x = .ref a ∧ y = .int i ∧ H a = some (.ins C dx fs) ∧ Q (.bl false) H
theorem op_eqOI {C : Addr} (q : ClsEq X.K C) (hu : X.A.units < cLine) : OpR X (compareOp .Eq) (rEqOI C) := by
  intro pins s σ H x y v u Q I rx ry h
  obtain ⟨a, dx, fs, i, rfl, rfl, ha, hq⟩ := h
  cases (show v = Value.ref a from rx)
  obtain ⟨t, rfl⟩ := ry
  obtain ⟨mA, J, _⟩ := ins_get I.hok ha
  obtain ⟨od, J, _⟩ := J.look
  exact richCompare_inst_int hu I.kIn J q.eq q.ob q.nt ⟨.bl false, H, I, rfl, hq⟩
/-! ### len(set(xs)) for any ints -/
def distinct (ns : List Int) : Nat := (firstMet (fun i => ns.getD i 0) ns.length).length
theorem distinct_nodup {ns : List Int} (h : ns.Nodup) : distinct ns = ns.length := by
  unfold distinct
  rw [firstMet_nodup ns h ns.length (Nat.le_refl _), List.take_length]
theorem distinct_two {x : Int} : distinct [x, x] = 1 := by
  simp [distinct, firstMet, step_dedup, List.range_succ]
def tLenSetD (K : PySem.W.Frag) (ta : TE) : TE := fun σ H Q => ta σ H fun x H1 => ∃ (l : Addr) (ns : List Int), x = V.ref l ∧ SqL K H1 l (ns.map V.int) ∧ ns.length < 64 ∧ Q (.int (distinct ns)) H1
theorem pe_lenSetD {a : Expr} {ta : TE} {p p2 q pos : Pos} (hc : X.calm = true) (hg : Gl X "len") (hm : X.mg "len" = none) (hg2 : Gl X "set") (hm2 : X.mg "set" = none) (ha : PE X a ta)
    (na : starEach [a] X.env = (false, eval a X.env) :: starEach [] X.env := by rfl) : PE X (.Call (.Name "len" p) [.Call (.Name "set" p2) [a] [] q] [] pos) (tLenSetD X.K ta) := by
  refine ⟨fun pins s σ H Q I h => ?_⟩
  refine Call_ (ld_blt I hg hm PySem.boot_len ?_)
  refine PyProof.Rows.callWith_builtin1 (PyProof.Rows.args_cons ?_ rfl) rfl rfl
  refine Call_ (ld_blt I hg2 hm2 PyProof.Rows.boot_set ?_)
  refine PyProof.Rows.callWith_type1 (PyProof.Rows.args_cons (thn (ha.run pins s σ H _ I h) fun v s1 ⟨x, H1, I1, r1, q1⟩ => PyProof.Rows.args_nil ?_) na) na rfl
  obtain ⟨l, ns, rfl, hq, h1, q1⟩ := q1
  cases r1
  obtain ⟨its, r, pl, hz⟩ := I1.list hq
  have hl : its.toArray.size = ns.length := by rw [List.size_toArray, ← r.length, List.length_map]
  refine call_set_list (I1.ok.hd hc) pl.isList (ns := ns) (by simpa using r.ints) (by unfold scanBound; omega) fun h' tk hS hk => ?_
  rw [hl] at hS
  refine PyProof.Rows.args_nil ?_
  obtain ⟨o, es, ep, t, ho, hex, hd, _, _, _, hf, hn⟩ := hS
  have I2 : Inv X pins σ H1 { s1 with heap := h', toks := tk } := I1.kept fun b o e => hk b o (Heap.lt_size e) e
  have dl : (firstMet (fun i => ns.getD i 0) ns.length).length < 64 := Nat.lt_of_le_of_lt (firstMet_length_le _ _) h1
  refine call_len_set ho hex hd hf (by rw [hn] <;> omega) ⟨.int (distinct ns), H1, I2.tok _, ⟨_, by rw [hn]; rfl⟩, q1⟩
end
theorem for_enum {K : PySem.W.Frag} {a : Addr} {xs : List V} {g : TG} {tb : TS} {D : Ends} {σ : St} {H : Hp} (Pv : Nat → St → Hp → Prop) (h0 : Pv 0 σ H) (hl : ∀ i σ H, i ≤ xs.length → Pv i σ H → SqL K H a xs)
    (hs : ∀ (i : Nat) x T σ H, xs[i]? = some x → Pv i σ H → H T = none → g (.ref T) σ (upd H T (.tup [.int i, x])) fun σ2 H2 => tb { D with nx := Pv (i + 1), ct := Pv (i + 1), bk := D.nx } σ2 H2) (hd : ∀ σ H, Pv xs.length σ H → D.nx σ H) :
    ∃ W : Nat → Nat → St → Hp → Prop, (∃ m, W 0 m σ H) ∧ ∀ i m σ H, W i m σ H →
      ((Ite K a).stop i H ∧ D.nx σ H) ∨ ((Ite K a).go i H ∧ ∃ N : St → Hp → Prop, (∀ σ' H', N σ' H' → ∃ m', m' < m ∧ W (i + 1) m' σ' H') ∧ ∀ x H', (Ite K a).yld i H x H' → g x σ H' fun σ2 H2 => tb { D with nx := N, ct := N, bk := D.nx } σ2 H2) := by
  refine ⟨fun i m σ H => m = xs.length - i ∧ i ≤ xs.length ∧ Pv i σ H, ⟨xs.length, by simp, Nat.zero_le _, h0⟩, ?_⟩
  rintro i m σ H ⟨rfl, hi, p⟩
  have q := hl i σ H hi p
  by_cases hlt : i < xs.length
  · refine .inr ⟨⟨xs, xs[i], q, by simp [hlt]⟩, Pv (i + 1), fun σ' H' p' => ⟨xs.length - (i + 1), by omega, rfl, hlt, p'⟩, fun x H' y => ?_⟩
    obtain ⟨T, v, rfl, n, rfl, y⟩ := y
    exact hs i v T σ H (y xs q) p n
  · have e : i = xs.length := by omega
    subst e
    exact .inl ⟨⟨xs, q, Nat.le_refl _⟩, hd σ H p⟩
end L2

set_option Elab.async false
set_option linter.all false
set_option maxRecDepth 100000
namespace Rd
open PySem PySem.Spec PyProof.Rows L2
variable {K : PySem.W.Frag} {σ : L2.St} {H : Hp} {D : Ends} {Q : VK} {ta tb te tc : TE} {t u c : TT} {ts tu : TS} {g : TG} {x y v : V} {vs : List V} {tr : TA} {a b : Option V} {r : L2.St}
theorem seq (h : ts { D with nx := tu D } σ H) : tSeq ts tu D σ H := h
theorem next (h : D.nx σ H) : tNext D σ H := h
theorem brk (h : D.bk σ H) : tBreak D σ H := h
theorem cont (h : D.ct σ H) : tCont D σ H := h
theorem asg (h : te σ H fun x H1 => g x σ H1 D.nx) : tAsg te g D σ H := h
theorem ret (h : te σ H D.rt) : tRet te D σ H := h
theorem retN (h : D.rt .non H) : tRetN D σ H := h
theorem drop (h : te σ H fun _ H1 => D.nx σ H1) : tDrop te D σ H := h
theorem ifs (h : c σ H fun b H1 => if b = true then ts D σ H1 else tu D σ H1) : tIfS c ts tu D σ H := h
theorem ife (h : t σ H fun b H1 => if b = true then ta σ H1 Q else tb σ H1 Q) : tIf t ta tb σ H Q := h
theorem test {Q : Bool → Hp → Prop} (h : te σ H fun x H1 => ∃ k, x = .bl k ∧ Q k H1) : tTest te σ H Q := h
theorem tb_ {Q : Bool → Hp → Prop} (h : te σ H fun x H1 => ∃ k, x = .bl k ∧ Q k H1) : tB te σ H Q := h
theorem bl {b : Bool} {Q : Bool → Hp → Prop} (h : Q b H) : ∃ k, V.bl b = .bl k ∧ Q k H := ⟨b, rfl, h⟩
theorem bl2 {b : Bool} {P : Bool → Prop} (h : P b) : ∃ k, V.bl b = .bl k ∧ P k := ⟨b, rfl, h⟩
theorem and_ {Q : Bool → Hp → Prop} (h : t σ H fun c H1 => if c = true then u σ H1 Q else Q false H1) : tAnd t u σ H Q := h
theorem or_ {Q : Bool → Hp → Prop} (h : t σ H fun c H1 => if c = true then Q true H1 else u σ H1 Q) : tOr t u σ H Q := h
theorem not_ {Q : Bool → Hp → Prop} (h : t σ H fun c H1 => Q (!c) H1) : tNot t σ H Q := h
theorem andV (h : ta σ H fun x H1 => ∃ c, x = .bl c ∧ if c = true then tb σ H1 Q else Q (.bl false) H1) : tAndV ta tb σ H Q := h
theorem orV (h : ta σ H fun x H1 => ∃ c, x = .bl c ∧ if c = true then Q (.bl true) H1 else tb σ H1 Q) : tOrV ta tb σ H Q := h
theorem notV (h : ta σ H fun x H1 => ∃ c, x = .bl c ∧ Q (.bl (!c)) H1) : tNotV ta σ H Q := h
theorem op {r : R2} (h : ta σ H fun x H1 => tb σ H1 fun y H2 => r x y H2 Q) : tOp r ta tb σ H Q := h
theorem un {r : V → Hp → VK → Prop} (h : ta σ H fun x H1 => r x H1 Q) : tUn r ta σ H Q := h
theorem I0 {f : Int → Int → V} {i j : Int} (h : Q (f i j) H) : rI0 f (.int i) (.int j) H Q := ⟨i, j, rfl, rfl, h⟩
theorem I {C : Int → Int → Prop} {f : Int → Int → V} {i j : Int} (c : C i j) (h : Q (f i j) H) : rI C f (.int i) (.int j) H Q := ⟨i, j, rfl, rfl, c, h⟩
theorem U {f : Int → V} {i : Int} (h : Q (f i) H) : rU f (.int i) H Q := ⟨i, rfl, h⟩
theorem ip {f : Int → Int → Int} {i j : Int} (h : Q (.int (f i j)) H) : ipI f (.int i) (.int j) H Q := ⟨i, j, rfl, rfl, h⟩
theorem eq (s : scal x y = true) (h : Q (.bl (decide (x = y))) H) : rEq x y H Q := ⟨s, h⟩
theorem ne (s : scal x y = true) (h : Q (.bl (!decide (x = y))) H) : rNe x y H Q := ⟨s, h⟩
theorem c_ (h : Q v H) : tC v σ H Q := h
theorem nil {Q : List V → Hp → Prop} (h : Q [] H) : tNil σ H Q := h
theorem cons {Q : List V → Hp → Prop} (h : ta σ H fun x H1 => tr σ H1 fun xs H2 => Q (x :: xs) H2) : tCons ta tr σ H Q := h
theorem tup (h : tr σ H fun xs H1 => xs.length ≤ sizeLine ∧ ∀ p, H1 p = none → Q (.ref p) (upd H1 p (.tup xs))) : tTup tr σ H Q := h
theorem lst (h : tr σ H fun xs H1 => xs.length ≤ sizeLine ∧ ∀ p, H1 p = none → Q (.ref p) (upd H1 p (.lst xs))) : tLst tr σ H Q := h
theorem newT {xs : List V} (s : xs.length ≤ sizeLine) (h : ∀ p, H p = none → Q (.ref p) (upd H p (.tup xs))) : xs.length ≤ sizeLine ∧ ∀ p, H p = none → Q (.ref p) (upd H p (.tup xs)) := ⟨s, h⟩
theorem newL {xs : List V} (s : xs.length ≤ sizeLine) (h : ∀ p, H p = none → Q (.ref p) (upd H p (.lst xs))) : xs.length ≤ sizeLine ∧ ∀ p, H p = none → Q (.ref p) (upd H p (.lst xs)) := ⟨s, h⟩
theorem szA {xs : List V} {A : Prop} (s : xs.length ≤ sizeLine) (h : A) : xs.length ≤ sizeLine ∧ A := ⟨s, h⟩
theorem call {sp : Sp} {dvs : List V} {E : XK} (h : tr σ H fun vs H1 => sp (vs ++ dvs) H1 Q E) : tCall sp dvs E tr σ H Q := h
theorem cb {f : List V → Hp → VK → Prop} (h : tr σ H fun vs H1 => f vs H1 Q) : tCB f tr σ H Q := h
theorem bm {T : String} {f : V → List V → Hp → VK → Prop} (h : te σ H fun x H1 => tyV K T x H1 ∧ tr σ H1 fun xs H2 => f x xs H2 Q) : tBM K T f te tr σ H Q := h
theorem bm0 {T : String} {f : V → List V → Hp → VK → Prop} (h : te σ H fun x H1 => tyV K T x H1 ∧ f x [] H1 Q) : tBM0 K T f te σ H Q := h
theorem tyL {p : Addr} {xs : List V} {A : Prop} (s : H p = some (.lst xs)) (h : A) : tyV K "list" (.ref p) H ∧ A := ⟨.inl ⟨rfl, _, SqL.of s⟩, h⟩
theorem tyLq {p : Addr} {xs : List V} {A : Prop} (s : SqL K H p xs) (h : A) : tyV K "list" (.ref p) H ∧ A := ⟨.inl ⟨rfl, _, s⟩, h⟩
theorem tyS {z : Str} {A : Prop} (h : A) : tyV K "str" (.str z) H ∧ A := ⟨rfl, h⟩
theorem app {l : Addr} {xs : List V} (h : H l = some (.lst xs)) (s : xs.length < sizeLine) (q : Q .non (upd H l (.lst (xs ++ [y])))) : rAppend (.ref l) [y] H Q := ⟨l, xs, y, rfl, rfl, h, s, q⟩
theorem sl {f : V → Option Int → Option Int → Hp → VK → Prop} {tl th : TO} (h : te σ H fun x H1 => tl σ H1 fun l H2 => th σ H2 fun u H3 => f x l u H3 Q) : L2.tSl f te tl th σ H Q := h
theorem nopart {Q : Option Int → Hp → Prop} (h : Q none H) : tNoPart σ H Q := h
theorem part {Q : Option Int → Hp → Prop} (h : te σ H fun x H1 => ∃ i, x = .int i ∧ Q (some i) H1) : tPart te σ H Q := h
theorem int1 {i : Int} {P : Int → Prop} (h : P i) : ∃ j, V.int i = .int j ∧ P j := ⟨i, rfl, h⟩
theorem ints1 {i : Int} {P : Int → Prop} (h : P i) : ∃ j, [V.int i] = [.int j] ∧ P j := ⟨i, rfl, h⟩
theorem ints2 {i j : Int} {P : Int → Int → Prop} (h : P i j) : ∃ a b, [V.int i, V.int j] = [.int a, .int b] ∧ P a b := ⟨i, j, rfl, h⟩
theorem ixLq {p : Addr} {xs : List V} {i : Int} (h : SqL K H p xs) (e : atI xs i = some v) (q : Q v H) : rIxL K (.ref p) (.int i) H Q := ⟨p, xs, i, v, rfl, rfl, h, e, q⟩
theorem ixL {p : Addr} {xs : List V} {i : Int} (h : H p = some (.lst xs)) (e : atI xs i = some v) (q : Q v H) : rIxL K (.ref p) (.int i) H Q := ⟨p, xs, i, v, rfl, rfl, SqL.of h, e, q⟩
theorem ixT {p : Addr} {xs : List V} {i : Int} (h : H p = some (.tup xs)) (e : atI xs i = some v) (q : Q v H) : rIxT K (.ref p) (.int i) H Q := ⟨p, xs, i, v, rfl, rfl, SqT.of h, e, q⟩
theorem ixTq {p : Addr} {xs : List V} {i : Int} (h : SqT K H p xs) (e : atI xs i = some v) (q : Q v H) : rIxT K (.ref p) (.int i) H Q := ⟨p, xs, i, v, rfl, rfl, h, e, q⟩
theorem gtup {p : Addr} {xs : List V} {n : Nat} {f : TGs} {Q : L2.St → Hp → Prop} (h : H p = some (.tup xs)) (l : xs.length = n) (q : f xs σ H Q) : gTup K n f (.ref p) σ H Q := ⟨p, xs, rfl, SqT.of h, l, q⟩
theorem gtupq {p : Addr} {xs : List V} {n : Nat} {f : TGs} {Q : L2.St → Hp → Prop} (h : SqT K H p xs) (l : xs.length = n) (q : f xs σ H Q) : gTup K n f (.ref p) σ H Q := ⟨p, xs, rfl, h, l, q⟩
theorem yes {Q : Bool → Hp → Prop} (h : Q true H) : tYes σ H Q := h
theorem gcons {f : TGs} {Q : L2.St → Hp → Prop} (q : g v σ H fun σ' H' => f vs σ' H' Q) : gCons g f (v :: vs) σ H Q := ⟨v, vs, rfl, q⟩
theorem gnil {Q : L2.St → Hp → Prop} (q : Q σ H) : gNil [] σ H Q := ⟨rfl, q⟩
theorem sub {to ti : TE} {f : TSet} {Q : L2.St → Hp → Prop} (h : to σ H fun o H1 => ti σ H1 fun i H2 => f o i v H2 fun H3 => Q σ H3) : gSub to ti f v σ H Q := h
theorem setL {l : Addr} {xs : List V} {j : Nat} {i : Int} {Q : Hp → Prop} (h : H l = some (.lst xs)) (e : ixN xs.length i = some j) (q : Q (upd H l (.lst (xs.set j v)))) : rSetL (.ref l) (.int i) v H Q := ⟨l, xs, i, j, rfl, rfl, h, e, q⟩
theorem isN (h : ta σ H fun x H1 => Q (.bl (decide (x = .non))) H1) : tIsN ta σ H Q := h
theorem rf {α : Type} {a : α} {A : Prop} (h : A) : a = a ∧ A := ⟨rfl, h⟩
theorem sz {n : Nat} (h : n ≤ 100000) : n ≤ sizeLine := Nat.le_trans h (by decide)
theorem szl {n : Nat} (h : n < 100000) : n < sizeLine := Nat.lt_of_lt_of_le h (by decide)
theorem chain {r r' : R2} (h : ta σ H fun x H1 => tb σ H1 fun y H2 => r x y H2 fun z H3 => ∃ k, z = .bl k ∧ if k = true then tc σ H3 fun w H4 => r' y w H4 Q else Q (.bl false) H3) : tChain r r' ta tb tc σ H Q := h

theorem v0 (h : Q v H) : tVar 0 (some v :: r) H Q := ⟨v, rfl, h⟩
theorem n0 {Q : L2.St → Hp → Prop} (h : Q (some v :: r) H) : gName 0 v (a :: r) H Q := h
theorem g0 {ti : TIp} (h : te (some x :: r) H fun y H1 => ti x y H1 fun z H2 => D.nx (some z :: r) H2) : tAug 0 te ti D (some x :: r) H := ⟨x, rfl, h⟩
theorem v1 {a0 : Option V} (h : Q v H) : tVar 1 (a0 :: some v :: r) H Q := ⟨v, rfl, h⟩
theorem n1 {a0 : Option V} {Q : L2.St → Hp → Prop} (h : Q (a0 :: some v :: r) H) : gName 1 v (a0 :: a :: r) H Q := h
theorem g1 {a0 : Option V} {ti : TIp} (h : te (a0 :: some x :: r) H fun y H1 => ti x y H1 fun z H2 => D.nx (a0 :: some z :: r) H2) : tAug 1 te ti D (a0 :: some x :: r) H := ⟨x, rfl, h⟩
theorem v2 {a0 a1 : Option V} (h : Q v H) : tVar 2 (a0 :: a1 :: some v :: r) H Q := ⟨v, rfl, h⟩
theorem n2 {a0 a1 : Option V} {Q : L2.St → Hp → Prop} (h : Q (a0 :: a1 :: some v :: r) H) : gName 2 v (a0 :: a1 :: a :: r) H Q := h
theorem g2 {a0 a1 : Option V} {ti : TIp} (h : te (a0 :: a1 :: some x :: r) H fun y H1 => ti x y H1 fun z H2 => D.nx (a0 :: a1 :: some z :: r) H2) : tAug 2 te ti D (a0 :: a1 :: some x :: r) H := ⟨x, rfl, h⟩
theorem v3 {a0 a1 a2 : Option V} (h : Q v H) : tVar 3 (a0 :: a1 :: a2 :: some v :: r) H Q := ⟨v, rfl, h⟩
theorem n3 {a0 a1 a2 : Option V} {Q : L2.St → Hp → Prop} (h : Q (a0 :: a1 :: a2 :: some v :: r) H) : gName 3 v (a0 :: a1 :: a2 :: a :: r) H Q := h
theorem g3 {a0 a1 a2 : Option V} {ti : TIp} (h : te (a0 :: a1 :: a2 :: some x :: r) H fun y H1 => ti x y H1 fun z H2 => D.nx (a0 :: a1 :: a2 :: some z :: r) H2) : tAug 3 te ti D (a0 :: a1 :: a2 :: some x :: r) H := ⟨x, rfl, h⟩
theorem v4 {a0 a1 a2 a3 : Option V} (h : Q v H) : tVar 4 (a0 :: a1 :: a2 :: a3 :: some v :: r) H Q := ⟨v, rfl, h⟩
theorem n4 {a0 a1 a2 a3 : Option V} {Q : L2.St → Hp → Prop} (h : Q (a0 :: a1 :: a2 :: a3 :: some v :: r) H) : gName 4 v (a0 :: a1 :: a2 :: a3 :: a :: r) H Q := h
theorem g4 {a0 a1 a2 a3 : Option V} {ti : TIp} (h : te (a0 :: a1 :: a2 :: a3 :: some x :: r) H fun y H1 => ti x y H1 fun z H2 => D.nx (a0 :: a1 :: a2 :: a3 :: some z :: r) H2) : tAug 4 te ti D (a0 :: a1 :: a2 :: a3 :: some x :: r) H := ⟨x, rfl, h⟩
theorem v5 {a0 a1 a2 a3 a4 : Option V} (h : Q v H) : tVar 5 (a0 :: a1 :: a2 :: a3 :: a4 :: some v :: r) H Q := ⟨v, rfl, h⟩
theorem n5 {a0 a1 a2 a3 a4 : Option V} {Q : L2.St → Hp → Prop} (h : Q (a0 :: a1 :: a2 :: a3 :: a4 :: some v :: r) H) : gName 5 v (a0 :: a1 :: a2 :: a3 :: a4 :: a :: r) H Q := h
theorem g5 {a0 a1 a2 a3 a4 : Option V} {ti : TIp} (h : te (a0 :: a1 :: a2 :: a3 :: a4 :: some x :: r) H fun y H1 => ti x y H1 fun z H2 => D.nx (a0 :: a1 :: a2 :: a3 :: a4 :: some z :: r) H2) : tAug 5 te ti D (a0 :: a1 :: a2 :: a3 :: a4 :: some x :: r) H := ⟨x, rfl, h⟩
theorem v6 {a0 a1 a2 a3 a4 a5 : Option V} (h : Q v H) : tVar 6 (a0 :: a1 :: a2 :: a3 :: a4 :: a5 :: some v :: r) H Q := ⟨v, rfl, h⟩
theorem n6 {a0 a1 a2 a3 a4 a5 : Option V} {Q : L2.St → Hp → Prop} (h : Q (a0 :: a1 :: a2 :: a3 :: a4 :: a5 :: some v :: r) H) : gName 6 v (a0 :: a1 :: a2 :: a3 :: a4 :: a5 :: a :: r) H Q := h
theorem g6 {a0 a1 a2 a3 a4 a5 : Option V} {ti : TIp} (h : te (a0 :: a1 :: a2 :: a3 :: a4 :: a5 :: some x :: r) H fun y H1 => ti x y H1 fun z H2 => D.nx (a0 :: a1 :: a2 :: a3 :: a4 :: a5 :: some z :: r) H2) : tAug 6 te ti D (a0 :: a1 :: a2 :: a3 :: a4 :: a5 :: some x :: r) H := ⟨x, rfl, h⟩
theorem v7 {a0 a1 a2 a3 a4 a5 a6 : Option V} (h : Q v H) : tVar 7 (a0 :: a1 :: a2 :: a3 :: a4 :: a5 :: a6 :: some v :: r) H Q := ⟨v, rfl, h⟩
theorem n7 {a0 a1 a2 a3 a4 a5 a6 : Option V} {Q : L2.St → Hp → Prop} (h : Q (a0 :: a1 :: a2 :: a3 :: a4 :: a5 :: a6 :: some v :: r) H) : gName 7 v (a0 :: a1 :: a2 :: a3 :: a4 :: a5 :: a6 :: a :: r) H Q := h
theorem g7 {a0 a1 a2 a3 a4 a5 a6 : Option V} {ti : TIp} (h : te (a0 :: a1 :: a2 :: a3 :: a4 :: a5 :: a6 :: some x :: r) H fun y H1 => ti x y H1 fun z H2 => D.nx (a0 :: a1 :: a2 :: a3 :: a4 :: a5 :: a6 :: some z :: r) H2) : tAug 7 te ti D (a0 :: a1 :: a2 :: a3 :: a4 :: a5 :: a6 :: some x :: r) H := ⟨x, rfl, h⟩
theorem v8 {a0 a1 a2 a3 a4 a5 a6 a7 : Option V} (h : Q v H) : tVar 8 (a0 :: a1 :: a2 :: a3 :: a4 :: a5 :: a6 :: a7 :: some v :: r) H Q := ⟨v, rfl, h⟩
theorem n8 {a0 a1 a2 a3 a4 a5 a6 a7 : Option V} {Q : L2.St → Hp → Prop} (h : Q (a0 :: a1 :: a2 :: a3 :: a4 :: a5 :: a6 :: a7 :: some v :: r) H) : gName 8 v (a0 :: a1 :: a2 :: a3 :: a4 :: a5 :: a6 :: a7 :: a :: r) H Q := h
theorem g8 {a0 a1 a2 a3 a4 a5 a6 a7 : Option V} {ti : TIp} (h : te (a0 :: a1 :: a2 :: a3 :: a4 :: a5 :: a6 :: a7 :: some x :: r) H fun y H1 => ti x y H1 fun z H2 => D.nx (a0 :: a1 :: a2 :: a3 :: a4 :: a5 :: a6 :: a7 :: some z :: r) H2) : tAug 8 te ti D (a0 :: a1 :: a2 :: a3 :: a4 :: a5 :: a6 :: a7 :: some x :: r) H := ⟨x, rfl, h⟩
theorem v9 {a0 a1 a2 a3 a4 a5 a6 a7 a8 : Option V} (h : Q v H) : tVar 9 (a0 :: a1 :: a2 :: a3 :: a4 :: a5 :: a6 :: a7 :: a8 :: some v :: r) H Q := ⟨v, rfl, h⟩
theorem n9 {a0 a1 a2 a3 a4 a5 a6 a7 a8 : Option V} {Q : L2.St → Hp → Prop} (h : Q (a0 :: a1 :: a2 :: a3 :: a4 :: a5 :: a6 :: a7 :: a8 :: some v :: r) H) : gName 9 v (a0 :: a1 :: a2 :: a3 :: a4 :: a5 :: a6 :: a7 :: a8 :: a :: r) H Q := h
theorem g9 {a0 a1 a2 a3 a4 a5 a6 a7 a8 : Option V} {ti : TIp} (h : te (a0 :: a1 :: a2 :: a3 :: a4 :: a5 :: a6 :: a7 :: a8 :: some x :: r) H fun y H1 => ti x y H1 fun z H2 => D.nx (a0 :: a1 :: a2 :: a3 :: a4 :: a5 :: a6 :: a7 :: a8 :: some z :: r) H2) : tAug 9 te ti D (a0 :: a1 :: a2 :: a3 :: a4 :: a5 :: a6 :: a7 :: a8 :: some x :: r) H := ⟨x, rfl, h⟩
theorem v10 {a0 a1 a2 a3 a4 a5 a6 a7 a8 a9 : Option V} (h : Q v H) : tVar 10 (a0 :: a1 :: a2 :: a3 :: a4 :: a5 :: a6 :: a7 :: a8 :: a9 :: some v :: r) H Q := ⟨v, rfl, h⟩
theorem n10 {a0 a1 a2 a3 a4 a5 a6 a7 a8 a9 : Option V} {Q : L2.St → Hp → Prop} (h : Q (a0 :: a1 :: a2 :: a3 :: a4 :: a5 :: a6 :: a7 :: a8 :: a9 :: some v :: r) H) : gName 10 v (a0 :: a1 :: a2 :: a3 :: a4 :: a5 :: a6 :: a7 :: a8 :: a9 :: a :: r) H Q := h
theorem g10 {a0 a1 a2 a3 a4 a5 a6 a7 a8 a9 : Option V} {ti : TIp} (h : te (a0 :: a1 :: a2 :: a3 :: a4 :: a5 :: a6 :: a7 :: a8 :: a9 :: some x :: r) H fun y H1 => ti x y H1 fun z H2 => D.nx (a0 :: a1 :: a2 :: a3 :: a4 :: a5 :: a6 :: a7 :: a8 :: a9 :: some z :: r) H2) : tAug 10 te ti D (a0 :: a1 :: a2 :: a3 :: a4 :: a5 :: a6 :: a7 :: a8 :: a9 :: some x :: r) H := ⟨x, rfl, h⟩
theorem v11 {a0 a1 a2 a3 a4 a5 a6 a7 a8 a9 a10 : Option V} (h : Q v H) : tVar 11 (a0 :: a1 :: a2 :: a3 :: a4 :: a5 :: a6 :: a7 :: a8 :: a9 :: a10 :: some v :: r) H Q := ⟨v, rfl, h⟩
theorem n11 {a0 a1 a2 a3 a4 a5 a6 a7 a8 a9 a10 : Option V} {Q : L2.St → Hp → Prop} (h : Q (a0 :: a1 :: a2 :: a3 :: a4 :: a5 :: a6 :: a7 :: a8 :: a9 :: a10 :: some v :: r) H) : gName 11 v (a0 :: a1 :: a2 :: a3 :: a4 :: a5 :: a6 :: a7 :: a8 :: a9 :: a10 :: a :: r) H Q := h
theorem g11 {a0 a1 a2 a3 a4 a5 a6 a7 a8 a9 a10 : Option V} {ti : TIp} (h : te (a0 :: a1 :: a2 :: a3 :: a4 :: a5 :: a6 :: a7 :: a8 :: a9 :: a10 :: some x :: r) H fun y H1 => ti x y H1 fun z H2 => D.nx (a0 :: a1 :: a2 :: a3 :: a4 :: a5 :: a6 :: a7 :: a8 :: a9 :: a10 :: some z :: r) H2) : tAug 11 te ti D (a0 :: a1 :: a2 :: a3 :: a4 :: a5 :: a6 :: a7 :: a8 :: a9 :: a10 :: some x :: r) H := ⟨x, rfl, h⟩
theorem v12 {a0 a1 a2 a3 a4 a5 a6 a7 a8 a9 a10 a11 : Option V} (h : Q v H) : tVar 12 (a0 :: a1 :: a2 :: a3 :: a4 :: a5 :: a6 :: a7 :: a8 :: a9 :: a10 :: a11 :: some v :: r) H Q := ⟨v, rfl, h⟩
theorem n12 {a0 a1 a2 a3 a4 a5 a6 a7 a8 a9 a10 a11 : Option V} {Q : L2.St → Hp → Prop} (h : Q (a0 :: a1 :: a2 :: a3 :: a4 :: a5 :: a6 :: a7 :: a8 :: a9 :: a10 :: a11 :: some v :: r) H) : gName 12 v (a0 :: a1 :: a2 :: a3 :: a4 :: a5 :: a6 :: a7 :: a8 :: a9 :: a10 :: a11 :: a :: r) H Q := h
theorem g12 {a0 a1 a2 a3 a4 a5 a6 a7 a8 a9 a10 a11 : Option V} {ti : TIp} (h : te (a0 :: a1 :: a2 :: a3 :: a4 :: a5 :: a6 :: a7 :: a8 :: a9 :: a10 :: a11 :: some x :: r) H fun y H1 => ti x y H1 fun z H2 => D.nx (a0 :: a1 :: a2 :: a3 :: a4 :: a5 :: a6 :: a7 :: a8 :: a9 :: a10 :: a11 :: some z :: r) H2) : tAug 12 te ti D (a0 :: a1 :: a2 :: a3 :: a4 :: a5 :: a6 :: a7 :: a8 :: a9 :: a10 :: a11 :: some x :: r) H := ⟨x, rfl, h⟩
theorem v13 {a0 a1 a2 a3 a4 a5 a6 a7 a8 a9 a10 a11 a12 : Option V} (h : Q v H) : tVar 13 (a0 :: a1 :: a2 :: a3 :: a4 :: a5 :: a6 :: a7 :: a8 :: a9 :: a10 :: a11 :: a12 :: some v :: r) H Q := ⟨v, rfl, h⟩
theorem n13 {a0 a1 a2 a3 a4 a5 a6 a7 a8 a9 a10 a11 a12 : Option V} {Q : L2.St → Hp → Prop} (h : Q (a0 :: a1 :: a2 :: a3 :: a4 :: a5 :: a6 :: a7 :: a8 :: a9 :: a10 :: a11 :: a12 :: some v :: r) H) : gName 13 v (a0 :: a1 :: a2 :: a3 :: a4 :: a5 :: a6 :: a7 :: a8 :: a9 :: a10 :: a11 :: a12 :: a :: r) H Q := h
theorem g13 {a0 a1 a2 a3 a4 a5 a6 a7 a8 a9 a10 a11 a12 : Option V} {ti : TIp} (h : te (a0 :: a1 :: a2 :: a3 :: a4 :: a5 :: a6 :: a7 :: a8 :: a9 :: a10 :: a11 :: a12 :: some x :: r) H fun y H1 => ti x y H1 fun z H2 => D.nx (a0 :: a1 :: a2 :: a3 :: a4 :: a5 :: a6 :: a7 :: a8 :: a9 :: a10 :: a11 :: a12 :: some z :: r) H2) : tAug 13 te ti D (a0 :: a1 :: a2 :: a3 :: a4 :: a5 :: a6 :: a7 :: a8 :: a9 :: a10 :: a11 :: a12 :: some x :: r) H := ⟨x, rfl, h⟩
theorem v14 {a0 a1 a2 a3 a4 a5 a6 a7 a8 a9 a10 a11 a12 a13 : Option V} (h : Q v H) : tVar 14 (a0 :: a1 :: a2 :: a3 :: a4 :: a5 :: a6 :: a7 :: a8 :: a9 :: a10 :: a11 :: a12 :: a13 :: some v :: r) H Q := ⟨v, rfl, h⟩
theorem n14 {a0 a1 a2 a3 a4 a5 a6 a7 a8 a9 a10 a11 a12 a13 : Option V} {Q : L2.St → Hp → Prop} (h : Q (a0 :: a1 :: a2 :: a3 :: a4 :: a5 :: a6 :: a7 :: a8 :: a9 :: a10 :: a11 :: a12 :: a13 :: some v :: r) H) : gName 14 v (a0 :: a1 :: a2 :: a3 :: a4 :: a5 :: a6 :: a7 :: a8 :: a9 :: a10 :: a11 :: a12 :: a13 :: a :: r) H Q := h
theorem g14 {a0 a1 a2 a3 a4 a5 a6 a7 a8 a9 a10 a11 a12 a13 : Option V} {ti : TIp} (h : te (a0 :: a1 :: a2 :: a3 :: a4 :: a5 :: a6 :: a7 :: a8 :: a9 :: a10 :: a11 :: a12 :: a13 :: some x :: r) H fun y H1 => ti x y H1 fun z H2 => D.nx (a0 :: a1 :: a2 :: a3 :: a4 :: a5 :: a6 :: a7 :: a8 :: a9 :: a10 :: a11 :: a12 :: a13 :: some z :: r) H2) : tAug 14 te ti D (a0 :: a1 :: a2 :: a3 :: a4 :: a5 :: a6 :: a7 :: a8 :: a9 :: a10 :: a11 :: a12 :: a13 :: some x :: r) H := ⟨x, rfl, h⟩
theorem v15 {a0 a1 a2 a3 a4 a5 a6 a7 a8 a9 a10 a11 a12 a13 a14 : Option V} (h : Q v H) : tVar 15 (a0 :: a1 :: a2 :: a3 :: a4 :: a5 :: a6 :: a7 :: a8 :: a9 :: a10 :: a11 :: a12 :: a13 :: a14 :: some v :: r) H Q := ⟨v, rfl, h⟩
theorem n15 {a0 a1 a2 a3 a4 a5 a6 a7 a8 a9 a10 a11 a12 a13 a14 : Option V} {Q : L2.St → Hp → Prop} (h : Q (a0 :: a1 :: a2 :: a3 :: a4 :: a5 :: a6 :: a7 :: a8 :: a9 :: a10 :: a11 :: a12 :: a13 :: a14 :: some v :: r) H) : gName 15 v (a0 :: a1 :: a2 :: a3 :: a4 :: a5 :: a6 :: a7 :: a8 :: a9 :: a10 :: a11 :: a12 :: a13 :: a14 :: a :: r) H Q := h
theorem g15 {a0 a1 a2 a3 a4 a5 a6 a7 a8 a9 a10 a11 a12 a13 a14 : Option V} {ti : TIp} (h : te (a0 :: a1 :: a2 :: a3 :: a4 :: a5 :: a6 :: a7 :: a8 :: a9 :: a10 :: a11 :: a12 :: a13 :: a14 :: some x :: r) H fun y H1 => ti x y H1 fun z H2 => D.nx (a0 :: a1 :: a2 :: a3 :: a4 :: a5 :: a6 :: a7 :: a8 :: a9 :: a10 :: a11 :: a12 :: a13 :: a14 :: some z :: r) H2) : tAug 15 te ti D (a0 :: a1 :: a2 :: a3 :: a4 :: a5 :: a6 :: a7 :: a8 :: a9 :: a10 :: a11 :: a12 :: a13 :: a14 :: some x :: r) H := ⟨x, rfl, h⟩
theorem room65 {k : Nat} {A : Around} (r : Room k A) : A.units + 65 < cLine := by
  have := r.un
  omega
/-! ### iterators -/
def lcRest (g : TG) (tt : TT) (te : TE) (vs : List Nat) (σ : L2.St) (Q : VK) (J : It) (H1 : Hp) : Prop := ∀ D, H1 D = none → ∃ W : Nat → Nat → Hp → Prop, (∃ m, W 0 m (upd H1 D (.lst []))) ∧ ∀ i m H, W i m H →
  (J.stop i H ∧ Q (.ref D) H) ∨ (J.go i H ∧ ∃ Nx : Hp → Prop, (∀ H', Nx H' → ∃ m', m' < m ∧ W (i + 1) m' H') ∧ ∀ x H', J.yld i H x H' → g x (wipe σ vs) H' fun σ2 H2 => wipe σ2 vs = wipe σ vs ∧ tt σ2 H2 fun b H3 =>
    if b = true then te σ2 H3 fun y H4 => ∃ acc, H4 D = some (.lst acc) ∧ acc.length < sizeLine ∧ Nx (upd H4 D (.lst (acc ++ [y]))) else Nx H3)
theorem lc {wi : TI} {tt : TT} {ws : List Nat} (h : wi σ H (lcRest g tt te ws σ Q)) : tLc wi g tt te ws σ H Q := h
def forRest (g : TG) (tb : TS) (D : Ends) (σ0 : L2.St) (J : It) (H1 : Hp) : Prop := ∃ W : Nat → Nat → L2.St → Hp → Prop, (∃ m, W 0 m σ0 H1) ∧ ∀ i m σ H, W i m σ H →
  (J.stop i H ∧ D.nx σ H) ∨ (J.go i H ∧ ∃ N : L2.St → Hp → Prop, (∀ σ' H', N σ' H' → ∃ m', m' < m ∧ W (i + 1) m' σ' H') ∧ ∀ x H', J.yld i H x H' → g x σ H' fun σ2 H2 => tb { D with nx := N, ct := N, bk := D.nx } σ2 H2)
theorem for_ {wi : TI} {tb : TS} (h : wi σ H (forRest g tb D σ)) : tFor wi g tb D σ H := h
variable {R : It → Hp → Prop}
theorem ilist (h : te σ H fun x H1 => ∃ a, x = .ref a ∧ (∃ xs, SqL K H1 a xs) ∧ R (Itl K a) H1) : iList K te σ H R := h
theorem itup (h : te σ H fun x H1 => ∃ a, x = .ref a ∧ (∃ xs, SqT K H1 a xs) ∧ R (Itt K a) H1) : iTup K te σ H R := h
theorem irng1 (h : tr σ H fun vs H1 => ∃ j : Int, vs = [.int j] ∧ -(2 ^ 62) ≤ j ∧ j < 2 ^ 62 ∧ R (Itr 0 j.toNat) H1) : iRng1 tr σ H R := h
theorem irng2 (h : tr σ H fun vs H1 => ∃ i j : Int, vs = [.int i, .int j] ∧ (-(2 ^ 62) ≤ i ∧ i < 2 ^ 62 ∧ -(2 ^ 62) ≤ j ∧ j < 2 ^ 62) ∧ R (Itr i (j - i).toNat) H1) : iRng2 tr σ H R := h
theorem ienum (h : tr σ H fun vs H1 => ∃ a xs, vs = [.ref a] ∧ SqL K H1 a xs ∧ R (Ite K a) H1) : iEnum K tr σ H R := h
theorem istr (h : te σ H fun v H1 => ∃ x, v = .str x ∧ R (Its x) H1) : iStr te σ H R := h
theorem refA {a : Addr} {P : Addr → Prop} (h : P a) : ∃ b, V.ref a = .ref b ∧ P b := ⟨a, rfl, h⟩
theorem strA {a : Str} {P : Str → Prop} (h : P a) : ∃ b, V.str a = .str b ∧ P b := ⟨a, rfl, h⟩
theorem sqA {l : Addr} {xs : List V} {A : Prop} (h : H l = some (.lst xs)) (q : A) : (∃ xs, SqL K H l xs) ∧ A := ⟨⟨_, SqL.of h⟩, q⟩
theorem sqAq {l : Addr} {xs : List V} {A : Prop} (h : SqL K H l xs) (q : A) : (∃ xs, SqL K H l xs) ∧ A := ⟨⟨_, h⟩, q⟩
theorem stA {l : Addr} {xs : List V} {A : Prop} (h : H l = some (.tup xs)) (q : A) : (∃ xs, SqT K H l xs) ∧ A := ⟨⟨_, SqT.of h⟩, q⟩
theorem stAq {l : Addr} {xs : List V} {A : Prop} (h : SqT K H l xs) (q : A) : (∃ xs, SqT K H l xs) ∧ A := ⟨⟨_, h⟩, q⟩
theorem enA {l : Addr} {xs : List V} {P : Addr → Prop} (h : H l = some (.lst xs)) (q : P l) : ∃ a ys, [V.ref l] = [.ref a] ∧ SqL K H a ys ∧ P a := ⟨l, xs, rfl, SqL.of h, q⟩
theorem enAq {l : Addr} {xs : List V} {P : Addr → Prop} (h : SqL K H l xs) (q : P l) : ∃ a ys, [V.ref l] = [.ref a] ∧ SqL K H a ys ∧ P a := ⟨l, xs, rfl, h, q⟩
theorem lenL {l : Addr} {xs : List V} {P : List V → Prop} (h : H l = some (.lst xs)) (q : P xs) : ∃ p ys, [V.ref l] = [.ref p] ∧ (SqL K H p ys ∨ SqT K H p ys) ∧ P ys := ⟨l, xs, rfl, .inl (SqL.of h), q⟩
theorem lenLq {l : Addr} {xs : List V} {P : List V → Prop} (h : SqL K H l xs) (q : P xs) : ∃ p ys, [V.ref l] = [.ref p] ∧ (SqL K H p ys ∨ SqT K H p ys) ∧ P ys := ⟨l, xs, rfl, .inl h, q⟩
theorem lenTq {l : Addr} {xs : List V} {P : List V → Prop} (h : SqT K H l xs) (q : P xs) : ∃ p ys, [V.ref l] = [.ref p] ∧ (SqL K H p ys ∨ SqT K H p ys) ∧ P ys := ⟨l, xs, rfl, .inr h, q⟩
theorem lenT {l : Addr} {xs : List V} {P : List V → Prop} (h : H l = some (.tup xs)) (q : P xs) : ∃ p ys, [V.ref l] = [.ref p] ∧ (SqL K H p ys ∨ SqT K H p ys) ∧ P ys := ⟨l, xs, rfl, .inr (SqT.of h), q⟩
/-! ### comprehensions: each element by a relation -/
def But (D : Addr) (H H' : Hp) : Prop := ∀ b o, b ≠ D → H b = some o → H' b = some o
theorem But.refl {D : Addr} : But D H H := fun _ _ _ h => h
theorem But.trans {D : Addr} {H H1 H2 : Hp} (a : But D H H1) (b : But D H1 H2) : But D H H2 := fun x o n h => b x o n (a x o n h)
theorem But.same {D : Addr} {H H1 : Hp} (a : Same H H1) : But D H H1 := fun x o _ h => a x o h
theorem But.at_ {D : Addr} {o : HO} : But D H (upd H D o) := fun x u n h => by rw [upd_ne n]; exact h
theorem But.to {D : Addr} {H H1 : Hp} (a : But D H H1) (n : H D = none) : Same H H1 := fun x o h => a x o (fun z => by rw [z, n] at h; cases h) h
theorem lc_rel {J : It} {n : Nat} {G : Hp → Prop} {Y : Nat → Hp → V → Hp → Prop} (w : Walk J n G Y) {g : TG} {te : TE} {vs : List Nat} {σ : L2.St} {H1 : Hp} {D : Addr} {Qd : Hp → Prop} (R : Nat → V → Hp → Prop)
    (nD : H1 D = none) (hn : n ≤ 100000) (mono : ∀ i v H H', R i v H → But D H H' → R i v H') (hG : ∀ H, But D H1 H → G H)
    (hs : ∀ i x H H' (Kt : VK), i < n → But D H1 H → (∃ xs, H D = some (.lst xs)) → Y i H x H' → (∀ y H4, R i y H4 → Same H H4 → Kt y H4) → g x (wipe σ vs) H' fun σ2 H2 => wipe σ2 vs = wipe σ vs ∧ te σ2 H2 Kt)
    (hd : ∀ H ys, ys.length = n → (∀ i v, ys[i]? = some v → R i v H) → Same H1 H → H D = some (.lst ys) → Qd H) :
    ∃ W : Nat → Nat → Hp → Prop, (∃ m, W 0 m (upd H1 D (.lst []))) ∧ ∀ i m H, W i m H →
      (J.stop i H ∧ Qd H) ∨ (J.go i H ∧ ∃ Nx : Hp → Prop, (∀ H', Nx H' → ∃ m', m' < m ∧ W (i + 1) m' H') ∧ ∀ x H', J.yld i H x H' → g x (wipe σ vs) H' fun σ2 H2 => wipe σ2 vs = wipe σ vs ∧ tYes σ2 H2 fun b H3 =>
        if b = true then te σ2 H3 fun y H4 => ∃ acc, H4 D = some (.lst acc) ∧ acc.length < sizeLine ∧ Nx (upd H4 D (.lst (acc ++ [y]))) else Nx H3) := by
  refine lc_it w (fun i H => ∃ ys, ys.length = i ∧ (∀ i v, ys[i]? = some v → R i v H) ∧ But D H1 H ∧ H D = some (.lst ys)) ⟨[], rfl, fun i v h => by simp at h, But.at_, upd_same⟩ (fun i H _ h => ?_) (fun i x H H' hi h y => ?_) (fun H h => ?_)
  · obtain ⟨_, _, _, b, _⟩ := h
    exact hG H b
  · obtain ⟨ys, hl, hr, b, hD⟩ := h
    refine hs i x H H' _ hi b ⟨_, hD⟩ y fun v H4 r sm => ?_
    refine ⟨ys, sm _ _ hD, szl (by omega), ys ++ [v], by simp [hl], fun j u hj => ?_, (b.trans (But.same sm)).trans But.at_, upd_same⟩
    by_cases hj2 : j < ys.length
    · rw [List.getElem?_append_left hj2] at hj
      exact mono _ _ _ _ (hr j u hj) ((But.same sm).trans But.at_)
    · have e : j = ys.length := by
        have := (List.getElem?_eq_some_iff.mp hj).1
        simp at this; omega
      subst e
      rw [List.getElem?_append_right (Nat.le_refl _)] at hj
      simp at hj
      subst hj
      rw [hl]
      exact mono _ _ _ _ r But.at_
  · obtain ⟨ys, hl, hr, b, hD⟩ := h
    exact hd H ys hl hr (b.to nD) hD
/-! ### tests, ints in lists -/
theorem ifD {p : Prop} [Decidable p] {A B : Prop} (h1 : p → A) (h2 : ¬ p → B) : if decide p = true then A else B := by
  by_cases h : p
  · rw [decide_eq_true h, if_pos rfl]; exact h1 h
  · rw [decide_eq_false h, if_neg Bool.false_ne_true]; exact h2 h
theorem ifN {p : Prop} [Decidable p] {A B : Prop} (h1 : ¬ p → A) (h2 : p → B) : if (!decide p) = true then A else B := by
  by_cases h : p
  · rw [decide_eq_true h, if_neg (by decide)]; exact h2 h
  · rw [decide_eq_false h, if_pos (by decide)]; exact h1 h
theorem ifT {A B : Prop} (h : A) : if true = true then A else B := by rw [if_pos rfl]; exact h
theorem ifF {A B : Prop} (h : B) : if false = true then A else B := by rw [if_neg Bool.false_ne_true]; exact h
theorem ifB {b : Bool} {A B : Prop} (h1 : b = true → A) (h2 : b = false → B) : if b = true then A else B := by
  cases b with
  | true => exact ifT (h1 rfl)
  | false => exact ifF (h2 rfl)
theorem ifNB {b : Bool} {A B : Prop} (h1 : b = false → A) (h2 : b = true → B) : if (!b) = true then A else B := by
  cases b with
  | true => exact ifF (h2 rfl)
  | false => exact ifT (h1 rfl)
theorem flat_ints (ns : List Int) : (ns.map V.int).all flatV = true := by
  rw [List.all_eq_true]
  intro x hx
  obtain ⟨i, _, rfl⟩ := List.mem_map.mp hx
  rfl
theorem flat_strs (ns : List Str) : (ns.map V.str).all flatV = true := by
  rw [List.all_eq_true]
  intro x hx
  obtain ⟨i, _, rfl⟩ := List.mem_map.mp hx
  rfl
theorem eqV_ints (a b : Int) : eqV (.int a) (.int b) = decide (a = b) := by
  by_cases h : a = b <;> simp [eqV, h]
theorem inV_ints (x : Int) (r : List Int) : inV (.int x) (r.map V.int) = decide (x ∈ r) := by
  unfold inV
  rw [List.any_map]
  by_cases h : x ∈ r
  · rw [decide_eq_true h, List.any_eq_true]
    exact ⟨x, h, beq_self_eq_true x⟩
  · rw [decide_eq_false h, List.any_eq_false]
    intro y hy e
    have e2 : (y == x) = true := e
    exact h (by rw [← eq_of_beq e2]; exact hy)
theorem first_at (ns : List Int) (n : Int) (h : n ∈ ns) : ∃ j : Nat, ns[j]? = some n ∧ ∀ i, i < j → ns[i]? ≠ some n := by
  induction ns with
  | nil => simp at h
  | cons a r ih =>
    by_cases e : a = n
    · exact ⟨0, by simp [e], fun i hi => absurd hi (Nat.not_lt_zero _)⟩
    · obtain ⟨j, h1, h2⟩ := ih ((List.mem_cons.mp h).resolve_left fun z => e z.symm)
      refine ⟨j + 1, by simpa using h1, fun i hi => ?_⟩
      cases i with
      | zero => simp [e]
      | succ i => simpa using h2 i (by omega)
theorem inI {p : Addr} {ns : List Int} {n : Int} (h : H p = some (.lst (ns.map V.int))) (q : Q (.bl (decide (n ∈ ns))) H) : rIn K false (.int n) (.ref p) H Q :=
  ⟨p, _, rfl, .inl (SqL.of h), rfl, flat_ints _, by rw [inV_ints]; exact q⟩
theorem ninI {p : Addr} {ns : List Int} {n : Int} (h : H p = some (.lst (ns.map V.int))) (q : Q (.bl (!decide (n ∈ ns))) H) : rIn K true (.int n) (.ref p) H Q :=
  ⟨p, _, rfl, .inl (SqL.of h), rfl, flat_ints _, by rw [inV_ints]; exact q⟩
theorem idxI {a : Addr} {ns : List Int} {n : Int} {j : Nat} (h : H a = some (.lst (ns.map V.int))) (hj : ns[j]? = some n) (hf : ∀ i, i < j → ns[i]? ≠ some n) (q : Q (.int (j : Nat)) H) : rIndex K (.ref a) [.int n] H Q :=
  ⟨a, _, _, j, .int n, rfl, rfl, SqL.of h, rfl, flat_ints _, by rw [List.getElem?_map, hj]; rfl, by rw [eqV_ints, decide_eq_true rfl], fun m z' hm hz => by
    rw [List.getElem?_map] at hz
    cases e : ns[m]? with
    | none => rw [e] at hz; cases hz
    | some x =>
      rw [e] at hz; cases hz
      rw [eqV_ints]
      exact decide_eq_false fun e2 => hf m hm (by rw [e, e2]), q⟩
theorem vals_map {n : Nat} {ns : List V} (f : Nat → Int) (ln : ns.length = n) (hn : ∀ (i : Nat) v, ns[i]? = some v → v = .int (f i)) : ns = ((List.range n).map f).map V.int := by
  refine List.ext_getElem? fun i => ?_
  rw [List.map_map, List.getElem?_map]
  by_cases hi : i < n
  · obtain ⟨v, hv⟩ : ∃ v, ns[i]? = some v := ⟨_, List.getElem?_eq_getElem (by omega)⟩
    rw [hv, List.getElem?_range hi, hn i v hv]
    rfl
  · rw [List.getElem?_eq_none (by omega), List.getElem?_eq_none (by rw [List.length_range]; omega)]
    rfl
theorem at_int {ns : List Int} {i : Int} {j : Nat} {n : Int} (e : i = (j : Int)) (h : ns[j]? = some n) : atI (ns.map V.int) i = some (.int n) := by
  subst e
  exact atI_nat (by rw [List.getElem?_map, h]; rfl)
theorem at_val {xs : List V} {i : Int} {j : Nat} (e : i = (j : Int)) (h : xs[j]? = some v) : atI xs i = some v := by
  subst e
  exact atI_nat h
theorem zr {i : Nat} {H H' : Hp} (y : YFn (fun (i : Nat) => V.int ((0 : Int) + (i : Int))) i H x H') : x = .int (i : Int) ∧ H' = H := by
  obtain ⟨a, b⟩ := y
  exact ⟨by rw [b]; show V.int (0 + (i : Int)) = _; rw [Int.zero_add], a⟩
/-! ### new objects, by what they leave -/
def NewT (Q : VK) (xs : List V) (H : Hp) : Prop := xs.length ≤ sizeLine ∧ ∀ p, H p = none → Q (.ref p) (upd H p (.tup xs))
def NewL (Q : VK) (xs : List V) (H : Hp) : Prop := xs.length ≤ sizeLine ∧ ∀ p, H p = none → Q (.ref p) (upd H p (.lst xs))
theorem tupN (h : tr σ H (NewT Q)) : tTup tr σ H Q := h
theorem lstN (h : tr σ H (NewL Q)) : tLst tr σ H Q := h
theorem nwT {xs : List V} (s : xs.length ≤ sizeLine) (h : ∀ p H', H p = none → Same H H' → H' p = some (.tup xs) → Q (.ref p) H') : NewT Q xs H := ⟨s, fun p np => h p _ np (same_new np) upd_same⟩
theorem nwL {xs : List V} (s : xs.length ≤ sizeLine) (h : ∀ p H', H p = none → Same H H' → H' p = some (.lst xs) → Q (.ref p) H') : NewL Q xs H := ⟨s, fun p np => h p _ np (same_new np) upd_same⟩
def ListOf (K : PySem.W.Frag) (Q : VK) (vs : List V) (H : Hp) : Prop := ∃ p ys, vs = [.ref p] ∧ (SqL K H p ys ∨ SqT K H p ys) ∧ ∀ l, H l = none → Q (.ref l) (upd H l (.lst ys))
theorem cbListOf (h : tr σ H (ListOf K Q)) : tCB (fun xs H Q => ∃ p ys, xs = [.ref p] ∧ (SqL K H p ys ∨ SqT K H p ys) ∧ ∀ l, H l = none → Q (.ref l) (upd H l (.lst ys))) tr σ H Q := h
theorem listOfq {a : Addr} {ys : List V} (s : SqL K H a ys) (h : ∀ p H', H p = none → Same H H' → H' p = some (.lst ys) → Q (.ref p) H') : ListOf K Q [.ref a] H := ⟨a, ys, rfl, .inl s, fun p np => h p _ np (same_new np) upd_same⟩
theorem listOf {a : Addr} {ys : List V} (s : H a = some (.lst ys)) (h : ∀ p H', H p = none → Same H H' → H' p = some (.lst ys) → Q (.ref p) H') : ListOf K Q [.ref a] H := listOfq (SqL.of s) h
def SlL (K : PySem.W.Frag) (x : V) (lo hi : Option Int) (Q : VK) (H : Hp) : Prop := ∃ a xs, x = .ref a ∧ SqL K H a xs ∧ ∀ p, H p = none → Q (.ref p) (upd H p (.lst (cutV xs lo hi)))
theorem slN {tl th : TO} (h : te σ H fun x H1 => tl σ H1 fun l H2 => th σ H2 fun u H3 => SlL K x l u Q H3) : L2.tSl (rSlL K) te tl th σ H Q := h
theorem slq {a : Addr} {xs : List V} {lo hi : Option Int} (s : SqL K H a xs) (h : ∀ p H', H p = none → Same H H' → H' p = some (.lst (cutV xs lo hi)) → Q (.ref p) H') : SlL K (.ref a) lo hi Q H := ⟨a, xs, rfl, s, fun p np => h p _ np (same_new np) upd_same⟩
theorem slo {a : Addr} {xs : List V} {lo hi : Option Int} (s : H a = some (.lst xs)) (h : ∀ p H', H p = none → Same H H' → H' p = some (.lst (cutV xs lo hi)) → Q (.ref p) H') : SlL K (.ref a) lo hi Q H := slq (SqL.of s) h
def SrtI (K : PySem.W.Frag) (Q : VK) (vs : List V) (H : Hp) : Prop := rSortedI K vs H Q
theorem cbSrtI (h : tr σ H (SrtI K Q)) : tCB (rSortedI K) tr σ H Q := h
theorem srtI {a : Addr} {ns : List Int} (s : SqL K H a (ns.map V.int)) (h : ∀ (ns' : List Int) p H', ns'.Perm ns → ns'.Pairwise (· ≤ ·) → H p = none → Same H H' → H' p = some (.lst (ns'.map V.int)) → Q (.ref p) H') : SrtI K Q [.ref a] H :=
  ⟨a, ns, rfl, s, fun ns' p e1 e2 np => h ns' p _ e1 e2 np (same_new np) upd_same⟩
theorem srtIo {a : Addr} {ns : List Int} (s : H a = some (.lst (ns.map V.int))) (h : ∀ (ns' : List Int) p H', ns'.Perm ns → ns'.Pairwise (· ≤ ·) → H p = none → Same H H' → H' p = some (.lst (ns'.map V.int)) → Q (.ref p) H') : SrtI K Q [.ref a] H := srtI (SqL.of s) h
theorem eqD {d e : PyData} (h1 : Dp K H x d) (h2 : Dp K H y e) (s1 : SeqAt.shaped d = true) (s2 : SeqAt.shaped e = true) (q : Q (.bl (PyData.eqv d e)) H) : rEqD K x y H Q := ⟨d, e, h1, h2, s1, s2, q⟩
theorem neD {d e : PyData} (h1 : Dp K H x d) (h2 : Dp K H y e) (s1 : SeqAt.shaped d = true) (s2 : SeqAt.shaped e = true) (q : Q (.bl (!PyData.eqv d e)) H) : rNeD K x y H Q := ⟨d, e, h1, h2, s1, s2, q⟩
/-! ### isinstance -/
theorem isi {T U : String} {b : Bool} (t : TyX K H x (.type T)) (k : kitB T U = some b) (q : Q (.bl b) H) : rIsi K [x, .ty U] H Q := ⟨x, .ty U, _, _, b, rfl, .ty _, t, kit_ty k, q⟩
theorem isi_ii {n : Int} (q : Q (.bl true) H) : rIsi K [.int n, .ty "int"] H Q := isi (.base (.int _)) (by decide +kernel) q
theorem isi_ib {n : Int} (q : Q (.bl false) H) : rIsi K [.int n, .ty "bool"] H Q := isi (.base (.int _)) (by decide +kernel) q
theorem isi_is {n : Int} (q : Q (.bl false) H) : rIsi K [.int n, .ty "str"] H Q := isi (.base (.int _)) (by decide +kernel) q
theorem isi_il {n : Int} (q : Q (.bl false) H) : rIsi K [.int n, .ty "list"] H Q := isi (.base (.int _)) (by decide +kernel) q
theorem isi_it {n : Int} (q : Q (.bl false) H) : rIsi K [.int n, .ty "tuple"] H Q := isi (.base (.int _)) (by decide +kernel) q
theorem isi_id {n : Int} (q : Q (.bl false) H) : rIsi K [.int n, .ty "dict"] H Q := isi (.base (.int _)) (by decide +kernel) q
theorem isi_bi {n : Bool} (q : Q (.bl true) H) : rIsi K [.bl n, .ty "int"] H Q := isi (.base (.bl _)) (by decide +kernel) q
theorem isi_bb {n : Bool} (q : Q (.bl true) H) : rIsi K [.bl n, .ty "bool"] H Q := isi (.base (.bl _)) (by decide +kernel) q
theorem isi_bs {n : Bool} (q : Q (.bl false) H) : rIsi K [.bl n, .ty "str"] H Q := isi (.base (.bl _)) (by decide +kernel) q
theorem isi_bl {n : Bool} (q : Q (.bl false) H) : rIsi K [.bl n, .ty "list"] H Q := isi (.base (.bl _)) (by decide +kernel) q
theorem isi_bt {n : Bool} (q : Q (.bl false) H) : rIsi K [.bl n, .ty "tuple"] H Q := isi (.base (.bl _)) (by decide +kernel) q
theorem isi_bd {n : Bool} (q : Q (.bl false) H) : rIsi K [.bl n, .ty "dict"] H Q := isi (.base (.bl _)) (by decide +kernel) q
theorem isi_si {n : Str} (q : Q (.bl false) H) : rIsi K [.str n, .ty "int"] H Q := isi (.base (.str _)) (by decide +kernel) q
theorem isi_sb {n : Str} (q : Q (.bl false) H) : rIsi K [.str n, .ty "bool"] H Q := isi (.base (.str _)) (by decide +kernel) q
theorem isi_ss {n : Str} (q : Q (.bl true) H) : rIsi K [.str n, .ty "str"] H Q := isi (.base (.str _)) (by decide +kernel) q
theorem isi_sl {n : Str} (q : Q (.bl false) H) : rIsi K [.str n, .ty "list"] H Q := isi (.base (.str _)) (by decide +kernel) q
theorem isi_st {n : Str} (q : Q (.bl false) H) : rIsi K [.str n, .ty "tuple"] H Q := isi (.base (.str _)) (by decide +kernel) q
theorem isi_sd {n : Str} (q : Q (.bl false) H) : rIsi K [.str n, .ty "dict"] H Q := isi (.base (.str _)) (by decide +kernel) q
theorem isi_li {n : Addr} {xs : List V} (h : H n = some (.lst xs)) (q : Q (.bl false) H) : rIsi K [.ref n, .ty "int"] H Q := isi (.base (.lst h)) (by decide +kernel) q
theorem isi_lb {n : Addr} {xs : List V} (h : H n = some (.lst xs)) (q : Q (.bl false) H) : rIsi K [.ref n, .ty "bool"] H Q := isi (.base (.lst h)) (by decide +kernel) q
theorem isi_ls {n : Addr} {xs : List V} (h : H n = some (.lst xs)) (q : Q (.bl false) H) : rIsi K [.ref n, .ty "str"] H Q := isi (.base (.lst h)) (by decide +kernel) q
theorem isi_ll {n : Addr} {xs : List V} (h : H n = some (.lst xs)) (q : Q (.bl true) H) : rIsi K [.ref n, .ty "list"] H Q := isi (.base (.lst h)) (by decide +kernel) q
theorem isi_lt {n : Addr} {xs : List V} (h : H n = some (.lst xs)) (q : Q (.bl false) H) : rIsi K [.ref n, .ty "tuple"] H Q := isi (.base (.lst h)) (by decide +kernel) q
theorem isi_ld {n : Addr} {xs : List V} (h : H n = some (.lst xs)) (q : Q (.bl false) H) : rIsi K [.ref n, .ty "dict"] H Q := isi (.base (.lst h)) (by decide +kernel) q
theorem isi_ti {n : Addr} {xs : List V} (h : H n = some (.tup xs)) (q : Q (.bl false) H) : rIsi K [.ref n, .ty "int"] H Q := isi (.base (.tup h)) (by decide +kernel) q
theorem isi_tb {n : Addr} {xs : List V} (h : H n = some (.tup xs)) (q : Q (.bl false) H) : rIsi K [.ref n, .ty "bool"] H Q := isi (.base (.tup h)) (by decide +kernel) q
theorem isi_ts {n : Addr} {xs : List V} (h : H n = some (.tup xs)) (q : Q (.bl false) H) : rIsi K [.ref n, .ty "str"] H Q := isi (.base (.tup h)) (by decide +kernel) q
theorem isi_tl {n : Addr} {xs : List V} (h : H n = some (.tup xs)) (q : Q (.bl false) H) : rIsi K [.ref n, .ty "list"] H Q := isi (.base (.tup h)) (by decide +kernel) q
theorem isi_tt {n : Addr} {xs : List V} (h : H n = some (.tup xs)) (q : Q (.bl true) H) : rIsi K [.ref n, .ty "tuple"] H Q := isi (.base (.tup h)) (by decide +kernel) q
theorem isi_td {n : Addr} {xs : List V} (h : H n = some (.tup xs)) (q : Q (.bl false) H) : rIsi K [.ref n, .ty "dict"] H Q := isi (.base (.tup h)) (by decide +kernel) q
theorem isi_ni  (q : Q (.bl false) H) : rIsi K [.non, .ty "int"] H Q := isi (.base .non) (by decide +kernel) q
theorem isi_nb  (q : Q (.bl false) H) : rIsi K [.non, .ty "bool"] H Q := isi (.base .non) (by decide +kernel) q
theorem isi_ns  (q : Q (.bl false) H) : rIsi K [.non, .ty "str"] H Q := isi (.base .non) (by decide +kernel) q
theorem isi_nl  (q : Q (.bl false) H) : rIsi K [.non, .ty "list"] H Q := isi (.base .non) (by decide +kernel) q
theorem isi_nt  (q : Q (.bl false) H) : rIsi K [.non, .ty "tuple"] H Q := isi (.base .non) (by decide +kernel) q
theorem isi_nd  (q : Q (.bl false) H) : rIsi K [.non, .ty "dict"] H Q := isi (.base .non) (by decide +kernel) q
/-! ### slices of lists -/
theorem cut_to (xs : List V) (n : Nat) : cutV xs none (some (n : Int)) = xs.take n := by
  unfold cutV
  rw [HT.sIx_nat, HT.sIx_none, List.drop_zero, Nat.sub_zero]
  rcases Nat.le_total n xs.length with h | h
  · rw [Nat.min_eq_left h]
  · rw [Nat.min_eq_right h, List.take_of_length_le (Nat.le_refl _), List.take_of_length_le h]
theorem cut_from (xs : List V) (n : Nat) : cutV xs (some (n : Int)) none = xs.drop n := by
  unfold cutV
  rw [HT.sIx_nat, HT.sIx_none]
  rcases Nat.le_total n xs.length with h | h
  · rw [Nat.min_eq_left h, List.take_of_length_le (by rw [List.length_drop]; omega)]
  · rw [Nat.min_eq_right h, List.drop_of_length_le h, List.drop_of_length_le (Nat.le_refl _), List.take_nil]
theorem eqv_self (d : PyData) (h : d.canLay0 = true) : PyData.eqv d d = true := PySem.SeqAt.eqv_refl d h
/-! ### ints of a list, filtered -/
theorem lc_fl {a : Addr} {ns : List Int} {g : TG} {tt : TT} {te : TE} {vs : List Nat} {σ : L2.St} {H1 : Hp} {C : Addr} {Qd : Hp → Prop} (p : Int → Bool) (hS : SqL K H1 a (ns.map V.int)) (nD : H1 C = none) (hn : ns.length ≤ 90000)
    (hs : ∀ (i : Nat) H (n : Int) (Kt : VK) (Kn : Hp → Prop), ns[i]? = some n → But C H1 H → (p n = true → Kt (.int n) H) → (p n = false → Kn H) → g (.int n) (wipe σ vs) H fun σ2 H2 => wipe σ2 vs = wipe σ vs ∧ tt σ2 H2 fun b H3 => if b = true then te σ2 H3 Kt else Kn H3)
    (hd : ∀ H, Same H1 H → H C = some (.lst ((ns.filter p).map V.int)) → Qd H) :
    ∃ W : Nat → Nat → Hp → Prop, (∃ m, W 0 m (upd H1 C (.lst []))) ∧ ∀ i m H, W i m H →
      ((Itl K a).stop i H ∧ Qd H) ∨ ((Itl K a).go i H ∧ ∃ Nx : Hp → Prop, (∀ H', Nx H' → ∃ m', m' < m ∧ W (i + 1) m' H') ∧ ∀ x H', (Itl K a).yld i H x H' → g x (wipe σ vs) H' fun σ2 H2 => wipe σ2 vs = wipe σ vs ∧ tt σ2 H2 fun b H3 =>
        if b = true then te σ2 H3 fun y H4 => ∃ acc, H4 C = some (.lst acc) ∧ acc.length < sizeLine ∧ Nx (upd H4 C (.lst (acc ++ [y]))) else Nx H3) := by
  refine lc_it (walk_list (xs := ns.map V.int)) (fun i H => But C H1 H ∧ H C = some (.lst (((ns.take i).filter p).map V.int))) ⟨But.at_, by simp [upd_same]⟩ (fun i H _ h => (h.1.to nD).seq hS) (fun i x H H' hi ⟨b, hD⟩ y => ?_) (fun H ⟨b, hD⟩ => ?_)
  · obtain ⟨rfl, hx⟩ := y
    rw [List.getElem?_map] at hx
    obtain ⟨n, hn2, rfl⟩ : ∃ n, ns[i]? = some n ∧ V.int n = x := by
      cases e : ns[i]? with
      | none => rw [e] at hx; cases hx
      | some n => rw [e] at hx; exact ⟨n, rfl, Option.some.inj hx⟩
    have tk : (ns.take (i + 1)).filter p = (ns.take i).filter p ++ [n].filter p := by
      rw [List.take_add_one, hn2, List.filter_append]; rfl
    refine hs i _ n _ _ hn2 b (fun hp => ?_) (fun hp => ?_)
    · refine ⟨_, hD, szl ?_, b.trans But.at_, ?_⟩
      · rw [List.length_map]
        have := List.length_filter_le p (ns.take i)
        rw [List.length_take] at this
        omega
      · rw [upd_same, tk, List.filter_cons_of_pos hp]
        simp
    · refine ⟨b, ?_⟩
      rw [tk, List.filter_cons_of_neg (by simp [hp])]
      simpa using hD
  · rw [List.length_map, List.take_of_length_le (Nat.le_refl _)] at hD
    exact hd H (b.to nD) hD
theorem intI {i : Int} {A : Int → Prop} {B : Prop} (h : A i) : (∃ j, [V.int i] = [.int j] ∧ A j) ∨ B := .inl ⟨i, rfl, h⟩
theorem pos_ne {i : Int} (h : 0 < i) : i ≠ 0 := by omega
theorem ifnT {A B : Prop} (h : B) : if (!true) = true then A else B := by rw [if_neg (by decide)]; exact h
theorem ifnF {A B : Prop} (h : A) : if (!false) = true then A else B := by rw [if_pos (by decide)]; exact h
theorem cbListOfR {tr : TA} (h : tr σ H (ListOf K Q)) : tCB (rListOf K) tr σ H Q := h
def CatL (Q : VK) (x y : V) (H : Hp) : Prop := ∃ l b xs zs, x = .ref l ∧ y = .ref b ∧ H l = some (.lst xs) ∧ H b = some (.lst zs) ∧ xs.length + zs.length ≤ sizeLine ∧ ∀ p, H p = none → Q (.ref p) (upd H p (.lst (xs ++ zs)))
theorem catI (h : CatL Q x y H) : rCat x y H Q := h
theorem cat {a b : Addr} {xs zs : List V} (h1 : H a = some (.lst xs)) (h2 : H b = some (.lst zs)) (s : xs.length + zs.length ≤ 100000) (h : ∀ p H', H p = none → Same H H' → H' p = some (.lst (xs ++ zs)) → Q (.ref p) H') : CatL Q (.ref a) (.ref b) H := ⟨a, b, xs, zs, rfl, rfl, h1, h2, sz s, fun p np => h p _ np (same_new np) upd_same⟩
theorem v16 {a0 a1 a2 a3 a4 a5 a6 a7 a8 a9 a10 a11 a12 a13 a14 a15 : Option V} (h : Q v H) : tVar 16 (a0 :: a1 :: a2 :: a3 :: a4 :: a5 :: a6 :: a7 :: a8 :: a9 :: a10 :: a11 :: a12 :: a13 :: a14 :: a15 :: some v :: r) H Q := ⟨v, rfl, h⟩
theorem n16 {a0 a1 a2 a3 a4 a5 a6 a7 a8 a9 a10 a11 a12 a13 a14 a15 : Option V} {Q : L2.St → Hp → Prop} (h : Q (a0 :: a1 :: a2 :: a3 :: a4 :: a5 :: a6 :: a7 :: a8 :: a9 :: a10 :: a11 :: a12 :: a13 :: a14 :: a15 :: some v :: r) H) : gName 16 v (a0 :: a1 :: a2 :: a3 :: a4 :: a5 :: a6 :: a7 :: a8 :: a9 :: a10 :: a11 :: a12 :: a13 :: a14 :: a15 :: a :: r) H Q := h
theorem g16 {a0 a1 a2 a3 a4 a5 a6 a7 a8 a9 a10 a11 a12 a13 a14 a15 : Option V} {ti : TIp} (h : te (a0 :: a1 :: a2 :: a3 :: a4 :: a5 :: a6 :: a7 :: a8 :: a9 :: a10 :: a11 :: a12 :: a13 :: a14 :: a15 :: some x :: r) H fun y H1 => ti x y H1 fun z H2 => D.nx (a0 :: a1 :: a2 :: a3 :: a4 :: a5 :: a6 :: a7 :: a8 :: a9 :: a10 :: a11 :: a12 :: a13 :: a14 :: a15 :: some z :: r) H2) : tAug 16 te ti D (a0 :: a1 :: a2 :: a3 :: a4 :: a5 :: a6 :: a7 :: a8 :: a9 :: a10 :: a11 :: a12 :: a13 :: a14 :: a15 :: some x :: r) H := ⟨x, rfl, h⟩
theorem v17 {a0 a1 a2 a3 a4 a5 a6 a7 a8 a9 a10 a11 a12 a13 a14 a15 a16 : Option V} (h : Q v H) : tVar 17 (a0 :: a1 :: a2 :: a3 :: a4 :: a5 :: a6 :: a7 :: a8 :: a9 :: a10 :: a11 :: a12 :: a13 :: a14 :: a15 :: a16 :: some v :: r) H Q := ⟨v, rfl, h⟩
theorem n17 {a0 a1 a2 a3 a4 a5 a6 a7 a8 a9 a10 a11 a12 a13 a14 a15 a16 : Option V} {Q : L2.St → Hp → Prop} (h : Q (a0 :: a1 :: a2 :: a3 :: a4 :: a5 :: a6 :: a7 :: a8 :: a9 :: a10 :: a11 :: a12 :: a13 :: a14 :: a15 :: a16 :: some v :: r) H) : gName 17 v (a0 :: a1 :: a2 :: a3 :: a4 :: a5 :: a6 :: a7 :: a8 :: a9 :: a10 :: a11 :: a12 :: a13 :: a14 :: a15 :: a16 :: a :: r) H Q := h
theorem g17 {a0 a1 a2 a3 a4 a5 a6 a7 a8 a9 a10 a11 a12 a13 a14 a15 a16 : Option V} {ti : TIp} (h : te (a0 :: a1 :: a2 :: a3 :: a4 :: a5 :: a6 :: a7 :: a8 :: a9 :: a10 :: a11 :: a12 :: a13 :: a14 :: a15 :: a16 :: some x :: r) H fun y H1 => ti x y H1 fun z H2 => D.nx (a0 :: a1 :: a2 :: a3 :: a4 :: a5 :: a6 :: a7 :: a8 :: a9 :: a10 :: a11 :: a12 :: a13 :: a14 :: a15 :: a16 :: some z :: r) H2) : tAug 17 te ti D (a0 :: a1 :: a2 :: a3 :: a4 :: a5 :: a6 :: a7 :: a8 :: a9 :: a10 :: a11 :: a12 :: a13 :: a14 :: a15 :: a16 :: some x :: r) H := ⟨x, rfl, h⟩
theorem v18 {a0 a1 a2 a3 a4 a5 a6 a7 a8 a9 a10 a11 a12 a13 a14 a15 a16 a17 : Option V} (h : Q v H) : tVar 18 (a0 :: a1 :: a2 :: a3 :: a4 :: a5 :: a6 :: a7 :: a8 :: a9 :: a10 :: a11 :: a12 :: a13 :: a14 :: a15 :: a16 :: a17 :: some v :: r) H Q := ⟨v, rfl, h⟩
theorem n18 {a0 a1 a2 a3 a4 a5 a6 a7 a8 a9 a10 a11 a12 a13 a14 a15 a16 a17 : Option V} {Q : L2.St → Hp → Prop} (h : Q (a0 :: a1 :: a2 :: a3 :: a4 :: a5 :: a6 :: a7 :: a8 :: a9 :: a10 :: a11 :: a12 :: a13 :: a14 :: a15 :: a16 :: a17 :: some v :: r) H) : gName 18 v (a0 :: a1 :: a2 :: a3 :: a4 :: a5 :: a6 :: a7 :: a8 :: a9 :: a10 :: a11 :: a12 :: a13 :: a14 :: a15 :: a16 :: a17 :: a :: r) H Q := h
theorem g18 {a0 a1 a2 a3 a4 a5 a6 a7 a8 a9 a10 a11 a12 a13 a14 a15 a16 a17 : Option V} {ti : TIp} (h : te (a0 :: a1 :: a2 :: a3 :: a4 :: a5 :: a6 :: a7 :: a8 :: a9 :: a10 :: a11 :: a12 :: a13 :: a14 :: a15 :: a16 :: a17 :: some x :: r) H fun y H1 => ti x y H1 fun z H2 => D.nx (a0 :: a1 :: a2 :: a3 :: a4 :: a5 :: a6 :: a7 :: a8 :: a9 :: a10 :: a11 :: a12 :: a13 :: a14 :: a15 :: a16 :: a17 :: some z :: r) H2) : tAug 18 te ti D (a0 :: a1 :: a2 :: a3 :: a4 :: a5 :: a6 :: a7 :: a8 :: a9 :: a10 :: a11 :: a12 :: a13 :: a14 :: a15 :: a16 :: a17 :: some x :: r) H := ⟨x, rfl, h⟩
theorem v19 {a0 a1 a2 a3 a4 a5 a6 a7 a8 a9 a10 a11 a12 a13 a14 a15 a16 a17 a18 : Option V} (h : Q v H) : tVar 19 (a0 :: a1 :: a2 :: a3 :: a4 :: a5 :: a6 :: a7 :: a8 :: a9 :: a10 :: a11 :: a12 :: a13 :: a14 :: a15 :: a16 :: a17 :: a18 :: some v :: r) H Q := ⟨v, rfl, h⟩
theorem n19 {a0 a1 a2 a3 a4 a5 a6 a7 a8 a9 a10 a11 a12 a13 a14 a15 a16 a17 a18 : Option V} {Q : L2.St → Hp → Prop} (h : Q (a0 :: a1 :: a2 :: a3 :: a4 :: a5 :: a6 :: a7 :: a8 :: a9 :: a10 :: a11 :: a12 :: a13 :: a14 :: a15 :: a16 :: a17 :: a18 :: some v :: r) H) : gName 19 v (a0 :: a1 :: a2 :: a3 :: a4 :: a5 :: a6 :: a7 :: a8 :: a9 :: a10 :: a11 :: a12 :: a13 :: a14 :: a15 :: a16 :: a17 :: a18 :: a :: r) H Q := h
theorem g19 {a0 a1 a2 a3 a4 a5 a6 a7 a8 a9 a10 a11 a12 a13 a14 a15 a16 a17 a18 : Option V} {ti : TIp} (h : te (a0 :: a1 :: a2 :: a3 :: a4 :: a5 :: a6 :: a7 :: a8 :: a9 :: a10 :: a11 :: a12 :: a13 :: a14 :: a15 :: a16 :: a17 :: a18 :: some x :: r) H fun y H1 => ti x y H1 fun z H2 => D.nx (a0 :: a1 :: a2 :: a3 :: a4 :: a5 :: a6 :: a7 :: a8 :: a9 :: a10 :: a11 :: a12 :: a13 :: a14 :: a15 :: a16 :: a17 :: a18 :: some z :: r) H2) : tAug 19 te ti D (a0 :: a1 :: a2 :: a3 :: a4 :: a5 :: a6 :: a7 :: a8 :: a9 :: a10 :: a11 :: a12 :: a13 :: a14 :: a15 :: a16 :: a17 :: a18 :: some x :: r) H := ⟨x, rfl, h⟩
theorem v20 {a0 a1 a2 a3 a4 a5 a6 a7 a8 a9 a10 a11 a12 a13 a14 a15 a16 a17 a18 a19 : Option V} (h : Q v H) : tVar 20 (a0 :: a1 :: a2 :: a3 :: a4 :: a5 :: a6 :: a7 :: a8 :: a9 :: a10 :: a11 :: a12 :: a13 :: a14 :: a15 :: a16 :: a17 :: a18 :: a19 :: some v :: r) H Q := ⟨v, rfl, h⟩
theorem n20 {a0 a1 a2 a3 a4 a5 a6 a7 a8 a9 a10 a11 a12 a13 a14 a15 a16 a17 a18 a19 : Option V} {Q : L2.St → Hp → Prop} (h : Q (a0 :: a1 :: a2 :: a3 :: a4 :: a5 :: a6 :: a7 :: a8 :: a9 :: a10 :: a11 :: a12 :: a13 :: a14 :: a15 :: a16 :: a17 :: a18 :: a19 :: some v :: r) H) : gName 20 v (a0 :: a1 :: a2 :: a3 :: a4 :: a5 :: a6 :: a7 :: a8 :: a9 :: a10 :: a11 :: a12 :: a13 :: a14 :: a15 :: a16 :: a17 :: a18 :: a19 :: a :: r) H Q := h
theorem g20 {a0 a1 a2 a3 a4 a5 a6 a7 a8 a9 a10 a11 a12 a13 a14 a15 a16 a17 a18 a19 : Option V} {ti : TIp} (h : te (a0 :: a1 :: a2 :: a3 :: a4 :: a5 :: a6 :: a7 :: a8 :: a9 :: a10 :: a11 :: a12 :: a13 :: a14 :: a15 :: a16 :: a17 :: a18 :: a19 :: some x :: r) H fun y H1 => ti x y H1 fun z H2 => D.nx (a0 :: a1 :: a2 :: a3 :: a4 :: a5 :: a6 :: a7 :: a8 :: a9 :: a10 :: a11 :: a12 :: a13 :: a14 :: a15 :: a16 :: a17 :: a18 :: a19 :: some z :: r) H2) : tAug 20 te ti D (a0 :: a1 :: a2 :: a3 :: a4 :: a5 :: a6 :: a7 :: a8 :: a9 :: a10 :: a11 :: a12 :: a13 :: a14 :: a15 :: a16 :: a17 :: a18 :: a19 :: some x :: r) H := ⟨x, rfl, h⟩
theorem v21 {a0 a1 a2 a3 a4 a5 a6 a7 a8 a9 a10 a11 a12 a13 a14 a15 a16 a17 a18 a19 a20 : Option V} (h : Q v H) : tVar 21 (a0 :: a1 :: a2 :: a3 :: a4 :: a5 :: a6 :: a7 :: a8 :: a9 :: a10 :: a11 :: a12 :: a13 :: a14 :: a15 :: a16 :: a17 :: a18 :: a19 :: a20 :: some v :: r) H Q := ⟨v, rfl, h⟩
theorem n21 {a0 a1 a2 a3 a4 a5 a6 a7 a8 a9 a10 a11 a12 a13 a14 a15 a16 a17 a18 a19 a20 : Option V} {Q : L2.St → Hp → Prop} (h : Q (a0 :: a1 :: a2 :: a3 :: a4 :: a5 :: a6 :: a7 :: a8 :: a9 :: a10 :: a11 :: a12 :: a13 :: a14 :: a15 :: a16 :: a17 :: a18 :: a19 :: a20 :: some v :: r) H) : gName 21 v (a0 :: a1 :: a2 :: a3 :: a4 :: a5 :: a6 :: a7 :: a8 :: a9 :: a10 :: a11 :: a12 :: a13 :: a14 :: a15 :: a16 :: a17 :: a18 :: a19 :: a20 :: a :: r) H Q := h
theorem g21 {a0 a1 a2 a3 a4 a5 a6 a7 a8 a9 a10 a11 a12 a13 a14 a15 a16 a17 a18 a19 a20 : Option V} {ti : TIp} (h : te (a0 :: a1 :: a2 :: a3 :: a4 :: a5 :: a6 :: a7 :: a8 :: a9 :: a10 :: a11 :: a12 :: a13 :: a14 :: a15 :: a16 :: a17 :: a18 :: a19 :: a20 :: some x :: r) H fun y H1 => ti x y H1 fun z H2 => D.nx (a0 :: a1 :: a2 :: a3 :: a4 :: a5 :: a6 :: a7 :: a8 :: a9 :: a10 :: a11 :: a12 :: a13 :: a14 :: a15 :: a16 :: a17 :: a18 :: a19 :: a20 :: some z :: r) H2) : tAug 21 te ti D (a0 :: a1 :: a2 :: a3 :: a4 :: a5 :: a6 :: a7 :: a8 :: a9 :: a10 :: a11 :: a12 :: a13 :: a14 :: a15 :: a16 :: a17 :: a18 :: a19 :: a20 :: some x :: r) H := ⟨x, rfl, h⟩
theorem v22 {a0 a1 a2 a3 a4 a5 a6 a7 a8 a9 a10 a11 a12 a13 a14 a15 a16 a17 a18 a19 a20 a21 : Option V} (h : Q v H) : tVar 22 (a0 :: a1 :: a2 :: a3 :: a4 :: a5 :: a6 :: a7 :: a8 :: a9 :: a10 :: a11 :: a12 :: a13 :: a14 :: a15 :: a16 :: a17 :: a18 :: a19 :: a20 :: a21 :: some v :: r) H Q := ⟨v, rfl, h⟩
theorem n22 {a0 a1 a2 a3 a4 a5 a6 a7 a8 a9 a10 a11 a12 a13 a14 a15 a16 a17 a18 a19 a20 a21 : Option V} {Q : L2.St → Hp → Prop} (h : Q (a0 :: a1 :: a2 :: a3 :: a4 :: a5 :: a6 :: a7 :: a8 :: a9 :: a10 :: a11 :: a12 :: a13 :: a14 :: a15 :: a16 :: a17 :: a18 :: a19 :: a20 :: a21 :: some v :: r) H) : gName 22 v (a0 :: a1 :: a2 :: a3 :: a4 :: a5 :: a6 :: a7 :: a8 :: a9 :: a10 :: a11 :: a12 :: a13 :: a14 :: a15 :: a16 :: a17 :: a18 :: a19 :: a20 :: a21 :: a :: r) H Q := h
theorem g22 {a0 a1 a2 a3 a4 a5 a6 a7 a8 a9 a10 a11 a12 a13 a14 a15 a16 a17 a18 a19 a20 a21 : Option V} {ti : TIp} (h : te (a0 :: a1 :: a2 :: a3 :: a4 :: a5 :: a6 :: a7 :: a8 :: a9 :: a10 :: a11 :: a12 :: a13 :: a14 :: a15 :: a16 :: a17 :: a18 :: a19 :: a20 :: a21 :: some x :: r) H fun y H1 => ti x y H1 fun z H2 => D.nx (a0 :: a1 :: a2 :: a3 :: a4 :: a5 :: a6 :: a7 :: a8 :: a9 :: a10 :: a11 :: a12 :: a13 :: a14 :: a15 :: a16 :: a17 :: a18 :: a19 :: a20 :: a21 :: some z :: r) H2) : tAug 22 te ti D (a0 :: a1 :: a2 :: a3 :: a4 :: a5 :: a6 :: a7 :: a8 :: a9 :: a10 :: a11 :: a12 :: a13 :: a14 :: a15 :: a16 :: a17 :: a18 :: a19 :: a20 :: a21 :: some x :: r) H := ⟨x, rfl, h⟩
theorem v23 {a0 a1 a2 a3 a4 a5 a6 a7 a8 a9 a10 a11 a12 a13 a14 a15 a16 a17 a18 a19 a20 a21 a22 : Option V} (h : Q v H) : tVar 23 (a0 :: a1 :: a2 :: a3 :: a4 :: a5 :: a6 :: a7 :: a8 :: a9 :: a10 :: a11 :: a12 :: a13 :: a14 :: a15 :: a16 :: a17 :: a18 :: a19 :: a20 :: a21 :: a22 :: some v :: r) H Q := ⟨v, rfl, h⟩
theorem n23 {a0 a1 a2 a3 a4 a5 a6 a7 a8 a9 a10 a11 a12 a13 a14 a15 a16 a17 a18 a19 a20 a21 a22 : Option V} {Q : L2.St → Hp → Prop} (h : Q (a0 :: a1 :: a2 :: a3 :: a4 :: a5 :: a6 :: a7 :: a8 :: a9 :: a10 :: a11 :: a12 :: a13 :: a14 :: a15 :: a16 :: a17 :: a18 :: a19 :: a20 :: a21 :: a22 :: some v :: r) H) : gName 23 v (a0 :: a1 :: a2 :: a3 :: a4 :: a5 :: a6 :: a7 :: a8 :: a9 :: a10 :: a11 :: a12 :: a13 :: a14 :: a15 :: a16 :: a17 :: a18 :: a19 :: a20 :: a21 :: a22 :: a :: r) H Q := h
theorem g23 {a0 a1 a2 a3 a4 a5 a6 a7 a8 a9 a10 a11 a12 a13 a14 a15 a16 a17 a18 a19 a20 a21 a22 : Option V} {ti : TIp} (h : te (a0 :: a1 :: a2 :: a3 :: a4 :: a5 :: a6 :: a7 :: a8 :: a9 :: a10 :: a11 :: a12 :: a13 :: a14 :: a15 :: a16 :: a17 :: a18 :: a19 :: a20 :: a21 :: a22 :: some x :: r) H fun y H1 => ti x y H1 fun z H2 => D.nx (a0 :: a1 :: a2 :: a3 :: a4 :: a5 :: a6 :: a7 :: a8 :: a9 :: a10 :: a11 :: a12 :: a13 :: a14 :: a15 :: a16 :: a17 :: a18 :: a19 :: a20 :: a21 :: a22 :: some z :: r) H2) : tAug 23 te ti D (a0 :: a1 :: a2 :: a3 :: a4 :: a5 :: a6 :: a7 :: a8 :: a9 :: a10 :: a11 :: a12 :: a13 :: a14 :: a15 :: a16 :: a17 :: a18 :: a19 :: a20 :: a21 :: a22 :: some x :: r) H := ⟨x, rfl, h⟩
theorem v24 {a0 a1 a2 a3 a4 a5 a6 a7 a8 a9 a10 a11 a12 a13 a14 a15 a16 a17 a18 a19 a20 a21 a22 a23 : Option V} (h : Q v H) : tVar 24 (a0 :: a1 :: a2 :: a3 :: a4 :: a5 :: a6 :: a7 :: a8 :: a9 :: a10 :: a11 :: a12 :: a13 :: a14 :: a15 :: a16 :: a17 :: a18 :: a19 :: a20 :: a21 :: a22 :: a23 :: some v :: r) H Q := ⟨v, rfl, h⟩
theorem n24 {a0 a1 a2 a3 a4 a5 a6 a7 a8 a9 a10 a11 a12 a13 a14 a15 a16 a17 a18 a19 a20 a21 a22 a23 : Option V} {Q : L2.St → Hp → Prop} (h : Q (a0 :: a1 :: a2 :: a3 :: a4 :: a5 :: a6 :: a7 :: a8 :: a9 :: a10 :: a11 :: a12 :: a13 :: a14 :: a15 :: a16 :: a17 :: a18 :: a19 :: a20 :: a21 :: a22 :: a23 :: some v :: r) H) : gName 24 v (a0 :: a1 :: a2 :: a3 :: a4 :: a5 :: a6 :: a7 :: a8 :: a9 :: a10 :: a11 :: a12 :: a13 :: a14 :: a15 :: a16 :: a17 :: a18 :: a19 :: a20 :: a21 :: a22 :: a23 :: a :: r) H Q := h
theorem g24 {a0 a1 a2 a3 a4 a5 a6 a7 a8 a9 a10 a11 a12 a13 a14 a15 a16 a17 a18 a19 a20 a21 a22 a23 : Option V} {ti : TIp} (h : te (a0 :: a1 :: a2 :: a3 :: a4 :: a5 :: a6 :: a7 :: a8 :: a9 :: a10 :: a11 :: a12 :: a13 :: a14 :: a15 :: a16 :: a17 :: a18 :: a19 :: a20 :: a21 :: a22 :: a23 :: some x :: r) H fun y H1 => ti x y H1 fun z H2 => D.nx (a0 :: a1 :: a2 :: a3 :: a4 :: a5 :: a6 :: a7 :: a8 :: a9 :: a10 :: a11 :: a12 :: a13 :: a14 :: a15 :: a16 :: a17 :: a18 :: a19 :: a20 :: a21 :: a22 :: a23 :: some z :: r) H2) : tAug 24 te ti D (a0 :: a1 :: a2 :: a3 :: a4 :: a5 :: a6 :: a7 :: a8 :: a9 :: a10 :: a11 :: a12 :: a13 :: a14 :: a15 :: a16 :: a17 :: a18 :: a19 :: a20 :: a21 :: a22 :: a23 :: some x :: r) H := ⟨x, rfl, h⟩
theorem v25 {a0 a1 a2 a3 a4 a5 a6 a7 a8 a9 a10 a11 a12 a13 a14 a15 a16 a17 a18 a19 a20 a21 a22 a23 a24 : Option V} (h : Q v H) : tVar 25 (a0 :: a1 :: a2 :: a3 :: a4 :: a5 :: a6 :: a7 :: a8 :: a9 :: a10 :: a11 :: a12 :: a13 :: a14 :: a15 :: a16 :: a17 :: a18 :: a19 :: a20 :: a21 :: a22 :: a23 :: a24 :: some v :: r) H Q := ⟨v, rfl, h⟩
theorem n25 {a0 a1 a2 a3 a4 a5 a6 a7 a8 a9 a10 a11 a12 a13 a14 a15 a16 a17 a18 a19 a20 a21 a22 a23 a24 : Option V} {Q : L2.St → Hp → Prop} (h : Q (a0 :: a1 :: a2 :: a3 :: a4 :: a5 :: a6 :: a7 :: a8 :: a9 :: a10 :: a11 :: a12 :: a13 :: a14 :: a15 :: a16 :: a17 :: a18 :: a19 :: a20 :: a21 :: a22 :: a23 :: a24 :: some v :: r) H) : gName 25 v (a0 :: a1 :: a2 :: a3 :: a4 :: a5 :: a6 :: a7 :: a8 :: a9 :: a10 :: a11 :: a12 :: a13 :: a14 :: a15 :: a16 :: a17 :: a18 :: a19 :: a20 :: a21 :: a22 :: a23 :: a24 :: a :: r) H Q := h
theorem g25 {a0 a1 a2 a3 a4 a5 a6 a7 a8 a9 a10 a11 a12 a13 a14 a15 a16 a17 a18 a19 a20 a21 a22 a23 a24 : Option V} {ti : TIp} (h : te (a0 :: a1 :: a2 :: a3 :: a4 :: a5 :: a6 :: a7 :: a8 :: a9 :: a10 :: a11 :: a12 :: a13 :: a14 :: a15 :: a16 :: a17 :: a18 :: a19 :: a20 :: a21 :: a22 :: a23 :: a24 :: some x :: r) H fun y H1 => ti x y H1 fun z H2 => D.nx (a0 :: a1 :: a2 :: a3 :: a4 :: a5 :: a6 :: a7 :: a8 :: a9 :: a10 :: a11 :: a12 :: a13 :: a14 :: a15 :: a16 :: a17 :: a18 :: a19 :: a20 :: a21 :: a22 :: a23 :: a24 :: some z :: r) H2) : tAug 25 te ti D (a0 :: a1 :: a2 :: a3 :: a4 :: a5 :: a6 :: a7 :: a8 :: a9 :: a10 :: a11 :: a12 :: a13 :: a14 :: a15 :: a16 :: a17 :: a18 :: a19 :: a20 :: a21 :: a22 :: a23 :: a24 :: some x :: r) H := ⟨x, rfl, h⟩
theorem v26 {a0 a1 a2 a3 a4 a5 a6 a7 a8 a9 a10 a11 a12 a13 a14 a15 a16 a17 a18 a19 a20 a21 a22 a23 a24 a25 : Option V} (h : Q v H) : tVar 26 (a0 :: a1 :: a2 :: a3 :: a4 :: a5 :: a6 :: a7 :: a8 :: a9 :: a10 :: a11 :: a12 :: a13 :: a14 :: a15 :: a16 :: a17 :: a18 :: a19 :: a20 :: a21 :: a22 :: a23 :: a24 :: a25 :: some v :: r) H Q := ⟨v, rfl, h⟩
theorem n26 {a0 a1 a2 a3 a4 a5 a6 a7 a8 a9 a10 a11 a12 a13 a14 a15 a16 a17 a18 a19 a20 a21 a22 a23 a24 a25 : Option V} {Q : L2.St → Hp → Prop} (h : Q (a0 :: a1 :: a2 :: a3 :: a4 :: a5 :: a6 :: a7 :: a8 :: a9 :: a10 :: a11 :: a12 :: a13 :: a14 :: a15 :: a16 :: a17 :: a18 :: a19 :: a20 :: a21 :: a22 :: a23 :: a24 :: a25 :: some v :: r) H) : gName 26 v (a0 :: a1 :: a2 :: a3 :: a4 :: a5 :: a6 :: a7 :: a8 :: a9 :: a10 :: a11 :: a12 :: a13 :: a14 :: a15 :: a16 :: a17 :: a18 :: a19 :: a20 :: a21 :: a22 :: a23 :: a24 :: a25 :: a :: r) H Q := h
theorem g26 {a0 a1 a2 a3 a4 a5 a6 a7 a8 a9 a10 a11 a12 a13 a14 a15 a16 a17 a18 a19 a20 a21 a22 a23 a24 a25 : Option V} {ti : TIp} (h : te (a0 :: a1 :: a2 :: a3 :: a4 :: a5 :: a6 :: a7 :: a8 :: a9 :: a10 :: a11 :: a12 :: a13 :: a14 :: a15 :: a16 :: a17 :: a18 :: a19 :: a20 :: a21 :: a22 :: a23 :: a24 :: a25 :: some x :: r) H fun y H1 => ti x y H1 fun z H2 => D.nx (a0 :: a1 :: a2 :: a3 :: a4 :: a5 :: a6 :: a7 :: a8 :: a9 :: a10 :: a11 :: a12 :: a13 :: a14 :: a15 :: a16 :: a17 :: a18 :: a19 :: a20 :: a21 :: a22 :: a23 :: a24 :: a25 :: some z :: r) H2) : tAug 26 te ti D (a0 :: a1 :: a2 :: a3 :: a4 :: a5 :: a6 :: a7 :: a8 :: a9 :: a10 :: a11 :: a12 :: a13 :: a14 :: a15 :: a16 :: a17 :: a18 :: a19 :: a20 :: a21 :: a22 :: a23 :: a24 :: a25 :: some x :: r) H := ⟨x, rfl, h⟩
theorem v27 {a0 a1 a2 a3 a4 a5 a6 a7 a8 a9 a10 a11 a12 a13 a14 a15 a16 a17 a18 a19 a20 a21 a22 a23 a24 a25 a26 : Option V} (h : Q v H) : tVar 27 (a0 :: a1 :: a2 :: a3 :: a4 :: a5 :: a6 :: a7 :: a8 :: a9 :: a10 :: a11 :: a12 :: a13 :: a14 :: a15 :: a16 :: a17 :: a18 :: a19 :: a20 :: a21 :: a22 :: a23 :: a24 :: a25 :: a26 :: some v :: r) H Q := ⟨v, rfl, h⟩
theorem n27 {a0 a1 a2 a3 a4 a5 a6 a7 a8 a9 a10 a11 a12 a13 a14 a15 a16 a17 a18 a19 a20 a21 a22 a23 a24 a25 a26 : Option V} {Q : L2.St → Hp → Prop} (h : Q (a0 :: a1 :: a2 :: a3 :: a4 :: a5 :: a6 :: a7 :: a8 :: a9 :: a10 :: a11 :: a12 :: a13 :: a14 :: a15 :: a16 :: a17 :: a18 :: a19 :: a20 :: a21 :: a22 :: a23 :: a24 :: a25 :: a26 :: some v :: r) H) : gName 27 v (a0 :: a1 :: a2 :: a3 :: a4 :: a5 :: a6 :: a7 :: a8 :: a9 :: a10 :: a11 :: a12 :: a13 :: a14 :: a15 :: a16 :: a17 :: a18 :: a19 :: a20 :: a21 :: a22 :: a23 :: a24 :: a25 :: a26 :: a :: r) H Q := h
theorem g27 {a0 a1 a2 a3 a4 a5 a6 a7 a8 a9 a10 a11 a12 a13 a14 a15 a16 a17 a18 a19 a20 a21 a22 a23 a24 a25 a26 : Option V} {ti : TIp} (h : te (a0 :: a1 :: a2 :: a3 :: a4 :: a5 :: a6 :: a7 :: a8 :: a9 :: a10 :: a11 :: a12 :: a13 :: a14 :: a15 :: a16 :: a17 :: a18 :: a19 :: a20 :: a21 :: a22 :: a23 :: a24 :: a25 :: a26 :: some x :: r) H fun y H1 => ti x y H1 fun z H2 => D.nx (a0 :: a1 :: a2 :: a3 :: a4 :: a5 :: a6 :: a7 :: a8 :: a9 :: a10 :: a11 :: a12 :: a13 :: a14 :: a15 :: a16 :: a17 :: a18 :: a19 :: a20 :: a21 :: a22 :: a23 :: a24 :: a25 :: a26 :: some z :: r) H2) : tAug 27 te ti D (a0 :: a1 :: a2 :: a3 :: a4 :: a5 :: a6 :: a7 :: a8 :: a9 :: a10 :: a11 :: a12 :: a13 :: a14 :: a15 :: a16 :: a17 :: a18 :: a19 :: a20 :: a21 :: a22 :: a23 :: a24 :: a25 :: a26 :: some x :: r) H := ⟨x, rfl, h⟩
end Rd

set_option Elab.async false
set_option linter.all false
set_option maxRecDepth 100000
namespace Rd
open PySem PySem.Spec PyProof.Rows L2
variable {K : PySem.W.Frag} {σ : L2.St} {H : Hp} {D : Ends} {Q : VK} {ta tb te tv : TE} {x y v : V} {tr : TA} {f m : Str} {C : Addr} {sp : Sp} {dvs : List V} {E : XK}
/-! ### objects of own classes -/
def FldG (K : PySem.W.Frag) (x : V) (f : Str) (Q : VK) (H : Hp) : Prop := ∃ a C dx fs v, x = .ref a ∧ H a = some (.ins C dx fs) ∧ Cls K C ∧ NoAttr K C f ∧ fs.lookup f = some v ∧ Q v H
theorem fld (h : te σ H fun x H1 => FldG K x f Q H1) : tFld K te f σ H Q := h
theorem fldI {a dx : Addr} {fs : List (Str × V)} (h : H a = some (.ins C dx fs)) (c : Cls K C) (n : NoAttr K C f) (e : fs.lookup f = some v) (q : Q v H) : FldG K (.ref a) f Q H := ⟨a, C, dx, fs, v, rfl, h, c, n, e, q⟩
def SfG (K : PySem.W.Frag) (x : V) (f : Str) (y : V) (D : Ends) (σ : L2.St) (H : Hp) : Prop := ∃ a C dx fs, x = .ref a ∧ H a = some (.ins C dx fs) ∧ Cls K C ∧ NoAttr K C f ∧ fs.length < 1000 ∧ D.nx σ (upd H a (.ins C dx (putF f y fs)))
theorem sfld (h : tv σ H fun y H1 => ta σ H1 fun x H2 => SfG K x f y D σ H2) : sFld K ta tv f D σ H := h
theorem sfldI {a dx : Addr} {fs : List (Str × V)} (h : H a = some (.ins C dx fs)) (c : Cls K C) (n : NoAttr K C f) (l : fs.length < 1000) (q : D.nx σ (upd H a (.ins C dx (putF f y fs)))) : SfG K (.ref a) f y D σ H := ⟨a, C, dx, fs, rfl, h, c, n, l, q⟩
def MtG (C : Addr) (m : Str) (sp : Sp) (dvs : List V) (E : XK) (t : TA) (σ : L2.St) (Q : VK) (x : V) (H : Hp) : Prop := ∃ a dx fs, x = .ref a ∧ H a = some (.ins C dx fs) ∧ fs.lookup m = none ∧ t σ H fun vs H2 => sp (x :: (vs ++ dvs)) H2 Q E
theorem meth (h : ta σ H fun x H1 => MtG C m sp dvs E tr σ Q x H1) : tMeth C m sp dvs E ta tr σ H Q := h
theorem methI {a dx : Addr} {fs : List (Str × V)} (h : H a = some (.ins C dx fs)) (n : fs.lookup m = none) (q : tr σ H fun vs H2 => sp (.ref a :: (vs ++ dvs)) H2 Q E) : MtG C m sp dvs E tr σ Q (.ref a) H := ⟨a, dx, fs, rfl, h, n, q⟩
def MkG (C : Addr) (sp : Sp) (dvs : List V) (E : XK) (Q : VK) (vs : List V) (H1 : Hp) : Prop := ∀ x dx, H1 x = none → H1 dx = none → dx ≠ x → sp (.ref x :: (vs ++ dvs)) (upd (upd H1 dx (.own x)) x (.ins C dx [])) (fun v H2 => v = .non ∧ Q (.ref x) H2) E
theorem make (h : tr σ H fun vs H1 => MkG C sp dvs E Q vs H1) : tMake C sp dvs E tr σ H Q := h
theorem popI {l : Addr} {xs : List V} (h : H l = some (.lst xs)) (e : xs[xs.length - 1]? = some y) (q : Q y (upd H l (.lst xs.dropLast))) : rPop (.ref l) [] H Q := ⟨l, xs, y, rfl, rfl, h, e, q⟩
theorem maxL {a : Addr} {ns : List Int} (h : H a = some (.lst (ns.map V.int))) (l : 0 < ns.length) (q : ∀ m, m ∈ ns → (∀ y, y ∈ ns → y ≤ m) → Q (.int m) H) : rMax K [.ref a] H Q := ⟨a, ns, rfl, SqL.of h, l, q⟩
theorem anyL {a : Addr} {bs : List Bool} (h : H a = some (.lst (bs.map V.bl))) (q : Q (.bl (bs.any id)) H) : rAny K [.ref a] H Q := ⟨a, bs, rfl, SqL.of h, q⟩
theorem sumL {a : Addr} {ns : List Int} (h : H a = some (.lst (ns.map V.int))) (q : Q (.int ns.sum) H) : rSum K [.ref a] H Q := ⟨a, ns, rfl, SqL.of h, q⟩
variable {R : It → Hp → Prop}
theorem izip (h : tr σ H fun vs H1 => ∃ a b xs ys, vs = [.ref a, .ref b] ∧ ((SqL K H1 a xs ∧ SqL K H1 b ys ∧ R (Itz K a b) H1) ∨ (SqT K H1 a xs ∧ SqT K H1 b ys ∧ R (RZ.ItzT K a b) H1))) : RZ.iZipA K tr σ H R := h
theorem izI {a b : Addr} {xs ys : List V} {A : Addr → Addr → Prop} {B : Addr → Addr → Prop} (h1 : H a = some (.lst xs)) (h2 : H b = some (.lst ys)) (q : A a b) : ∃ a' b' xs ys, [V.ref a, .ref b] = [.ref a', .ref b'] ∧ ((SqL K H a' xs ∧ SqL K H b' ys ∧ A a' b') ∨ (SqT K H a' xs ∧ SqT K H b' ys ∧ B a' b')) := ⟨a, b, xs, ys, rfl, .inl ⟨SqL.of h1, SqL.of h2, q⟩⟩
end Rd

set_option Elab.async false
set_option linter.all false
set_option maxRecDepth 100000
/-! dicts whose keys are ints: what a reading asks of them, over lists of pairs -/
namespace L2
open PySem PySem.Spec PyProof.Rows
section
variable {X : Cx}
/-- name = {..} on one line, the name a local: the dict comprehension's form of the rule for a list -/
theorem ps_setDc {i : Nat} {y : Str} {py : Pos} {kx vx tg iter : Expr} {ifs : List Expr} {scope : Scope} {own : List (Str × Nat)} {pos spos : Pos} {wi : TI} {g : TG} {tt : TT} {tk tv : TE} (hc : X.calm = true) (hN : X.N.Nodup) (hy : X.N[i]? = some y) (hyl : X.env.scope.names.lookup y = some .local)
    (hsw : swapsWith (.DictComp kx vx [⟨tg, iter, ifs, 0⟩] scope pos) (some (.Name y py)) spos.line X.env = pure true) (hi : PI X tg iter wi) (ok : BlkOk X.N X.env.scope scope own)
    (hg : ∀ (s : Shared) (H : Hp) (C : Addr) (cl : List (Str × Addr)) (fp : List Addr), PG (X.blk s H scope (compEnvC scope cl C X.env) fp) tg g) (ht : ∀ (s : Shared) (H : Hp) (C : Addr) (cl : List (Str × Addr)) (fp : List Addr), PTs (X.blk s H scope (compEnvC scope cl C X.env) fp) ifs tt)
    (hk : ∀ (s : Shared) (H : Hp) (C : Addr) (cl : List (Str × Addr)) (fp : List Addr), PE (X.blk s H scope (compEnvC scope cl C X.env) fp) kx tk)
    (he : ∀ (s : Shared) (H : Hp) (C : Addr) (cl : List (Str × Addr)) (fp : List Addr), PE (X.blk s H scope (compEnvC scope cl C X.env) fp) vx tv) (hs : ∀ x, foldedSetIterable iter X.env x = pure x := by intro _; rfl) :
    PS X (.Assign [.Name y py] (.DictComp kx vx [⟨tg, iter, ifs, 0⟩] scope pos) spos) (tAsg (tDc wi g tt tk tv (own.map (·.2))) (gName i)) := by
  refine ⟨fun pins s σ H D I h => ?_⟩
  rw [exec_Assign_Name_used _ _ _ _ hsw]
  refine wpAny_bind (wpAny_standAt (wpAny_bind ?_))
  show wpAny _ X.A (do let _ ← comprehension (.DictComp kx vx [⟨tg, iter, ifs, 0⟩] scope pos) scope X.env (firstIterPos [⟨tg, iter, ifs, 0⟩] pos) newDict false (eval iter X.env) (some (assign (.Name y py) X.env))) _ _ s
  have h : tDc wi g tt tk tv (own.map (·.2)) σ H (fun x H1 => gName i x σ H1 D.nx) := h
  refine wpAny_bind (thn (dc_core (Qf := fun _ s' => SP X pins D .next s') hc hN I hi ok hg ht hk he hs h fun L C s' m H' I' q hn f => ?_) fun _ s' hq => wpAny_pure (wpAny_pure hq))
  show wpAny _ _ (assign (.Name y py) X.env (.ref L)) _ _ _
  refine wpAny_assign_Name (store_ok2 (v := V.ref L) I' hN hy (.inl hyl) rfl (fun s2 I2 ⟨a, sb, ha⟩ => ?_) (.inr hyl))
  obtain ⟨f0, f1, f2, f3, f4, f5⟩ := f
  have haC : C ≠ a := by
    rcases ha with z | z
    · rw [z]; exact f1
    · exact fun e => f4 y a z e.symm
  refine ⟨m, hn.sameBut sb haC, fun h3 sb3 => ?_⟩
  exact ⟨_, H', I2.turned (t' := s2.toks) (fun b o hb e => (sb3.2 b hb).trans e) f0 f1 f3 f4 f5, q⟩
theorem sw_trueD {kx vx : Expr} {gs : List Comprehension} {scope : Scope} {pos py : Pos} {y : Str} {l : Nat} {env : Env} (hk : env.scope.kind = .function) (hy : env.scope.names.lookup y = some .local) (hl : (py.line == pos.line) = true)
    (ha : (scope.names.any fun (n, k) => n == y && (k == .local || k == .cell)) = false) : swapsWith (.DictComp kx vx gs scope pos) (some (.Name y py)) l env = pure true := by
  have ky : env.kindOf y = some .local := hy
  have hb : env.blockKind = .function := by unfold Env.blockKind; rw [hk]; rfl
  unfold swapsWith
  simp only [hb, ky, ha, Expr.pos, hl]
  rfl
end
end L2
namespace Rd
open PySem PySem.Spec PyProof.Rows L2
variable {K : PySem.W.Frag} {σ : L2.St} {H : Hp} {D : Ends} {Q : VK} {ta tb te tc td ty tx : TE} {x y v : V}
/-- a dict of ints to values, in order -/
abbrev DI (m : List (Int × V)) : HO := .dK (m.map fun p => (Sum.inl p.1, p.2))
def lk (m : List (Int × V)) (k : Int) : Option V := (m.find? fun p => decide (p.1 = k)).map (·.2)
def pt (m : List (Int × V)) (k : Int) (v : V) : List (Int × V) := if (m.any fun p => decide (p.1 = k)) = true then m.map (fun p => if p.1 = k then (p.1, v) else p) else m ++ [(k, v)]
theorem valV_di (m : List (Int × V)) (k : Int) : valV (m.map fun p => ((Sum.inl p.1 : Key), p.2)) (Sum.inl k) = lk m k := by
  unfold valV lk
  induction m with
  | nil => rfl
  | cons a r ih =>
    rw [List.map_cons, List.find?_cons, List.find?_cons]
    by_cases h : a.1 = k
    · have e : decide ((Sum.inl a.1 : Key) = Sum.inl k) = true := decide_eq_true (by rw [h])
      rw [e, decide_eq_true h]; rfl
    · have e : decide ((Sum.inl a.1 : Key) = Sum.inl k) = false := decide_eq_false fun z => h (Sum.inl.inj z)
      rw [e, decide_eq_false h]; exact ih
theorem putK_di (m : List (Int × V)) (k : Int) (v : V) : putK (m.map fun p => ((Sum.inl p.1 : Key), p.2)) (Sum.inl k) v = (pt m k v).map fun p => ((Sum.inl p.1 : Key), p.2) := by
  have e : ∀ p : Int × V, decide ((Sum.inl p.1 : Key) = Sum.inl k) = decide (p.1 = k) := fun p => by
    by_cases h : p.1 = k
    · rw [decide_eq_true h, decide_eq_true (by rw [h])]
    · rw [decide_eq_false h, decide_eq_false fun z => h (Sum.inl.inj z)]
  unfold putK pt
  rw [List.any_map]
  have e2 : (m.any ((fun kv : Key × V => decide (kv.1 = Sum.inl k)) ∘ fun p => ((Sum.inl p.1 : Key), p.2))) = m.any fun p => decide (p.1 = k) := by
    congr 1; funext p; exact e p
  rw [e2]
  split
  · rw [List.map_map, List.map_map]
    congr 1; funext p
    show (if (Sum.inl p.1 : Key) = Sum.inl k then ((Sum.inl p.1 : Key), v) else (Sum.inl p.1, p.2)) = _
    by_cases h : p.1 = k
    · simp [h]
    · have h2 : ¬ (Sum.inl p.1 : Key) = Sum.inl k := fun z => h (Sum.inl.inj z)
      simp [h]
  · rw [List.map_append]; rfl
theorem get_di {a : Addr} {m : List (Int × V)} {k : Int} (h : Rd H a (DI m)) : DGet H a (.int k) (lk m k) := .inl ⟨_, Sum.inl k, h, rfl, (valV_di m k).symm⟩
theorem rd_of {a : Addr} {u : HO} (h : H a = some u) : L2.Rd H a u := .inl h
theorem rd_fz {a : Addr} {u : HO} {o : Obj} (h : H a = some (.frz o u)) : L2.Rd H a u := .inr ⟨o, h⟩
theorem lk_pt (m : List (Int × V)) (k k' : Int) (v : V) : lk (pt m k v) k' = if k' = k then some v else lk m k' := by
  unfold pt
  split
  · rename_i c
    unfold lk
    induction m with
    | nil => simp at c
    | cons a r ih =>
      rw [List.map_cons, List.find?_cons, List.find?_cons]
      by_cases h : a.1 = k
      · rw [if_pos h]
        by_cases h2 : k' = k
        · rw [if_pos h2, decide_eq_true (by rw [h, h2])]; rfl
        · have e : ¬ a.1 = k' := fun z => h2 (by rw [← z, h])
          rw [if_neg h2, decide_eq_false e]
          have e2 : List.map (fun p => if p.1 = k then (p.1, v) else p) r = List.map (fun p => if p.1 = k then (p.1, v) else p) r := rfl
          have : (List.find? (fun p => decide (p.1 = k')) (List.map (fun p => if p.1 = k then (p.1, v) else p) r)).map (·.2) = (List.find? (fun p => decide (p.1 = k')) r).map (·.2) := by
            clear ih c e2
            induction r with
            | nil => rfl
            | cons b r ih =>
              rw [List.map_cons, List.find?_cons, List.find?_cons]
              by_cases h3 : b.1 = k
              · rw [if_pos h3, decide_eq_false (fun z : b.1 = k' => h2 (by rw [← z, h3]))]; exact ih
              · rw [if_neg h3]
                by_cases h4 : b.1 = k'
                · rw [decide_eq_true h4]
                · rw [decide_eq_false h4]; exact ih
          exact this
      · rw [if_neg h]
        have c2 : (r.any fun p => decide (p.1 = k)) = true := by
          rw [List.any_cons, decide_eq_false h, Bool.false_or] at c; exact c
        by_cases h4 : a.1 = k'
        · have e : ¬ k' = k := fun z => h (by rw [h4, z])
          rw [decide_eq_true h4, if_neg e]
        · rw [decide_eq_false h4]; exact ih c2
  · rename_i c
    unfold lk
    rw [List.find?_append]
    have nk : ∀ p ∈ m, ¬ p.1 = k := fun p hp z => c (List.any_eq_true.mpr ⟨p, hp, decide_eq_true z⟩)
    by_cases h2 : k' = k
    · rw [if_pos h2, h2]
      have e : List.find? (fun p => decide (p.1 = k)) m = none := List.find?_eq_none.mpr fun p hp z => nk p hp (of_decide_eq_true z)
      rw [e]; simp
    · rw [if_neg h2]
      have e : ¬ k = k' := fun z => h2 z.symm
      have e2 : List.find? (fun p : Int × V => decide (p.1 = k')) [(k, v)] = none := by simp [e]
      rw [e2, Option.or_none]
theorem pt_len {m : List (Int × V)} {k : Int} {v : V} : (pt m k v).length ≤ m.length + 1 := by
  unfold pt
  split <;> simp
/-! ### expressions -/
def NewD (Q : VK) (H : Hp) : Prop := ∀ p, H p = none → Q (.ref p) (upd H p (.dK []))
theorem dnew (h : NewD Q H) : tDNewK σ H Q := h
theorem nwD (h : ∀ p H', H p = none → Same H H' → H' p = some (DI []) → Q (.ref p) H') : NewD Q H := fun p np => h p _ np (same_new np) upd_same
def DinG (Q : VK) (x y : V) (H : Hp) : Prop := ∃ a o, x = .ref a ∧ DGet H a y o ∧ Q (.bl o.isSome) H
theorem din (h : ty σ H fun y H1 => td σ H1 fun x H2 => DinG Q x y H2) : tDIn ty td σ H Q := h
theorem dinI {a : Addr} {m : List (Int × V)} {k : Int} (h : L2.Rd H a (DI m)) (q : Q (.bl (lk m k).isSome) H) : DinG Q (.ref a) (.int k) H := ⟨a, _, rfl, get_di h, q⟩
def DnotG (Q : VK) (x y : V) (H : Hp) : Prop := ∃ a o, x = .ref a ∧ DGet H a y o ∧ Q (.bl (!o.isSome)) H
theorem dnot (h : ty σ H fun y H1 => td σ H1 fun x H2 => DnotG Q x y H2) : tDNotIn ty td σ H Q := h
theorem dnotI {a : Addr} {m : List (Int × V)} {k : Int} (h : L2.Rd H a (DI m)) (q : Q (.bl (!(lk m k).isSome)) H) : DnotG Q (.ref a) (.int k) H := ⟨a, _, rfl, get_di h, q⟩
def DgG (Q : VK) (x y : V) (H : Hp) : Prop := ∃ a v, x = .ref a ∧ DGet H a y (some v) ∧ Q v H
theorem dget (h : td σ H fun x H1 => ty σ H1 fun y H2 => DgG Q x y H2) : tDGet td ty σ H Q := h
theorem dgetI {a : Addr} {m : List (Int × V)} {k : Int} (h : L2.Rd H a (DI m)) (e : lk m k = some v) (q : Q v H) : DgG Q (.ref a) (.int k) H := ⟨a, v, rfl, e ▸ get_di h, q⟩
def Dg2G (Q : VK) (a : Addr) (y z : V) (H : Hp) : Prop := ∃ o, DGet H a y o ∧ Q (o.getD z) H
theorem dget2 (h : td σ H fun x H1 => ∃ a, x = .ref a ∧ IsD H1 a ∧ ty σ H1 fun y H2 => tx σ H2 fun z H3 => Dg2G Q a y z H3) : tDGet2 td ty tx σ H Q := h
theorem isd {a : Addr} {m : List (Int × V)} {A : Prop} (h : H a = some (DI m)) (q : A) : IsD H a ∧ A := ⟨.inl ⟨_, .inl h⟩, q⟩
theorem dget2I {a : Addr} {m : List (Int × V)} {k : Int} {z : V} (h : L2.Rd H a (DI m)) (q : Q ((lk m k).getD z) H) : Dg2G Q a (.int k) z H := ⟨_, get_di h, q⟩
def DpG (D : Ends) (σ : L2.St) (x y v : V) (H : Hp) : Prop := ∃ a H4, x = .ref a ∧ DPut H a y v H4 ∧ D.nx σ H4
theorem dput {tv : TE} (h : tv σ H fun v H1 => td σ H1 fun x H2 => ty σ H2 fun y H3 => DpG D σ x y v H3) : sDPut td ty tv D σ H := h
theorem dputI {a : Addr} {m : List (Int × V)} {k : Int} (h : H a = some (DI m)) (l : m.length < 100000) (q : D.nx σ (upd H a (DI (pt m k v)))) : DpG D σ (.ref a) (.int k) v H :=
  ⟨a, _, rfl, .inl ⟨_, Sum.inl k, h, rfl, by rw [List.length_map]; exact szl l, rfl⟩, by rw [putK_di]; exact q⟩
/-- dict(d) -/
def DictOf (Q : VK) (vs : List V) (H : Hp) : Prop := ∃ (a : Addr) (kvs : List (Key × V)), vs = [.ref a] ∧ L2.Rd H a (.dK kvs) ∧ ∀ p, H p = none → Q (.ref p) (upd H p (.dK kvs))
theorem cbDictOf {tr : TA} (h : tr σ H (DictOf Q)) : tCB (fun xs H Q => ∃ (a : Addr) (kvs : List (Key × V)), xs = [.ref a] ∧ L2.Rd H a (.dK kvs) ∧ ∀ p, H p = none → Q (.ref p) (upd H p (.dK kvs))) tr σ H Q := h
theorem dictOf {a : Addr} {m : List (Int × V)} (s : H a = some (DI m)) (h : ∀ p H', H p = none → Same H H' → H' p = some (DI m) → Q (.ref p) H') : DictOf Q [.ref a] H := ⟨a, _, rfl, .inl s, fun p np => h p _ np (same_new np) upd_same⟩
theorem isi_dd {n : Addr} {m : List (Int × V)} (h : H n = some (DI m)) (q : Q (.bl true) H) : rIsi K [.ref n, .ty "dict"] H Q := isi (.base (.dK h)) (by decide +kernel) q
/-! ### == -/
theorem neDict {a b : Addr} {m n : List (Int × V)} (ea : H a = some (DI m)) (eb : H b = some (DI n)) (l : m.length = n.length) (e : ∀ p ∈ m, lk n p.1 = some p.2 ∧ flatB p.2 = true) (q : Q (.bl false) H) : rNeDA (.ref a) (.ref b) H Q :=
  ⟨a, b, _, _, rfl, rfl, ea, eb, by rw [List.length_map, List.length_map]; exact l, fun p hp => by
    obtain ⟨x, hx, rfl⟩ := List.mem_map.mp hp
    rw [valV_di]; exact e x hx, q⟩
theorem eqDict {a b : Addr} {m n : List (Int × V)} (ea : H a = some (DI m)) (eb : H b = some (DI n)) (l : m.length = n.length) (e : ∀ p ∈ m, lk n p.1 = some p.2 ∧ flatB p.2 = true) (q : Q (.bl true) H) : rEqDA (.ref a) (.ref b) H Q :=
  ⟨a, b, _, _, rfl, rfl, ea, eb, by rw [List.length_map, List.length_map]; exact l, fun p hp => by
    obtain ⟨x, hx, rfl⟩ := List.mem_map.mp hp
    rw [valV_di]; exact e x hx, q⟩
/-! ### walks -/
variable {R : It → Hp → Prop}
theorem iitems (h : te σ H fun x H1 => ∃ d o kvs, x = .ref d ∧ H1 d = some (.frz o (.dK kvs)) ∧ R (Iti d o kvs) H1) : iItems te σ H R := h
theorem itA {d : Addr} {o : Obj} {kvs : List (Key × V)} {P : Addr → Obj → List (Key × V) → Prop} (h : H d = some (.frz o (.dK kvs))) (q : P d o kvs) : ∃ d' o' kvs', V.ref d = .ref d' ∧ H d' = some (.frz o' (.dK kvs')) ∧ P d' o' kvs' := ⟨d, o, kvs, rfl, h, q⟩
theorem ikeys (h : te σ H fun x H1 => ∃ d o, x = .ref d ∧ ((∃ kvs, H1 d = some (.frz o (.dK kvs)) ∧ R (Itk d o kvs) H1) ∨ ∃ kvs, H1 d = some (.frz o (.dT kvs)) ∧ R (Itkt d o kvs) H1)) : iKeys te σ H R := h
theorem ikA {d : Addr} {o : Obj} {kvs : List (Key × V)} {P : Addr → Obj → List (Key × V) → Prop} {B : Addr → Obj → Prop} (h : H d = some (.frz o (.dK kvs))) (q : P d o kvs) : ∃ d' o', V.ref d = .ref d' ∧ ((∃ kvs', H d' = some (.frz o' (.dK kvs')) ∧ P d' o' kvs') ∨ B d' o') := ⟨d, o, rfl, .inl ⟨kvs, h, q⟩⟩
theorem lockS {t : TS} {d : Addr} {m : List (Int × V)} (h : H d = some (DI m)) (q : ∀ od, t ⟨fun σ' H' => H' d = some (.frz od (DI m)) ∧ D.nx σ' (upd H' d (DI m)), fun v H' => H' d = some (.frz od (DI m)) ∧ D.rt v (upd H' d (DI m)), fun σ' H' => H' d = some (.frz od (DI m)) ∧ D.bk σ' (upd H' d (DI m)), fun σ' H' => H' d = some (.frz od (DI m)) ∧ D.ct σ' (upd H' d (DI m))⟩ σ (upd H d (.frz od (DI m)))) : tLock t D σ H :=
  ⟨d, _, h, trivial, q⟩
theorem lockE {t : TE} {d : Addr} {m : List (Int × V)} (h : H d = some (DI m)) (q : ∀ od, t σ (upd H d (.frz od (DI m))) fun v H' => H' d = some (.frz od (DI m)) ∧ Q v (upd H' d (DI m))) : tLockE t σ H Q := ⟨d, _, h, trivial, q⟩
/-- the dict given back: all is kept -/
theorem unlock {H' : Hp} {d : Addr} {u : HO} (h : H d = some u) (b : But d H H') : Same H (upd H' d u) := fun c o e => by
  by_cases z : c = d
  · subst z; rw [upd_same]; exact h.symm.trans e
  · rw [upd_ne z]; exact b c o z e
theorem lock {d : Addr} {u : HO} : But d H (upd H d u) := But.at_
/-- the i-th pair of a walk over items: a new tuple -/
theorem items_at {m : List (Int × V)} {i : Nat} {x : V} {H H' : Hp} (y : YPair (fun i => ((m.map fun p => ((Sum.inl p.1 : Key), p.2))[i]?).map fun kv => kV kv.1) (fun i => ((m.map fun p => ((Sum.inl p.1 : Key), p.2))[i]?).map Prod.snd) i H x H') :
    ∃ (T : Addr) (p : Int × V), m[i]? = some p ∧ x = .ref T ∧ H T = none ∧ H' = upd H T (.tup [.int p.1, p.2]) := by
  obtain ⟨T, a, b, e1, e2, e3, e4, e5⟩ := y
  dsimp only at e4 e5
  rw [List.getElem?_map] at e4 e5
  cases e : m[i]? with
  | none => rw [e] at e4; cases e4
  | some p =>
    rw [e] at e4 e5
    cases e4; cases e5
    exact ⟨T, p, rfl, e1, e2, e3⟩
theorem keys_at {m : List (Int × V)} {i : Nat} {x : V} {H H' : Hp} (y : H' = H ∧ ∃ k v, (m.map fun p => ((Sum.inl p.1 : Key), p.2))[i]? = some (k, v) ∧ x = kV k) : H' = H ∧ ∃ p : Int × V, m[i]? = some p ∧ x = .int p.1 := by
  obtain ⟨e, k, v, h, rfl⟩ := y
  rw [List.getElem?_map] at h
  cases e2 : m[i]? with
  | none => rw [e2] at h; cases h
  | some p => rw [e2] at h; cases h; exact ⟨e, p, rfl, rfl⟩
/-! ### comprehensions -/
theorem dc {wi : TI} {g : TG} {tt : TT} {tk tv : TE} {ws : List Nat} (h : wi σ H fun J H1 => ∀ D, H1 D = none → ∃ W : Nat → Nat → Hp → Prop, (∃ m, W 0 m (upd H1 D (.dK []))) ∧ ∀ i m H, W i m H →
  (J.stop i H ∧ Q (.ref D) H) ∨ (J.go i H ∧ ∃ Nx : Hp → Prop, (∀ H', Nx H' → ∃ m', m' < m ∧ W (i + 1) m' H') ∧ ∀ x H', J.yld i H x H' → g x (wipe σ ws) H' fun σ2 H2 => wipe σ2 ws = wipe σ ws ∧ tt σ2 H2 fun b H3 =>
    if b = true then tk σ2 H3 fun y H4 => tv σ2 H4 fun z H5 => ∃ kvs k, y = kV k ∧ H5 D = some (.dK kvs) ∧ kvs.length < sizeLine ∧ Nx (upd H5 D (.dK (putK kvs k z))) else Nx H3)) : tDc wi g tt tk tv ws σ H Q := h
theorem dc_it {J : It} {n : Nat} {G : Hp → Prop} {Y : Nat → Hp → V → Hp → Prop} (w : Walk J n G Y) {g : TG} {tt : TT} {tk tv : TE} {vs : List Nat} {H1 : Hp} {d : Addr} {Qd : Hp → Prop} (Pv : Nat → Hp → Prop) (h0 : Pv 0 (upd H1 d (DI []))) (hG : ∀ i H, i ≤ n → Pv i H → G H)
    (hs : ∀ i x H H' (Kt : V → V → Hp → Prop) (Kn : Hp → Prop), i < n → Pv i H → Y i H x H' → (∀ m k z H5, H5 d = some (DI m) → m.length < 100000 → Pv (i + 1) (upd H5 d (DI (pt m k z))) → Kt (.int k) z H5) → (∀ H3, Pv (i + 1) H3 → Kn H3) →
      g x (wipe σ vs) H' fun σ2 H2 => wipe σ2 vs = wipe σ vs ∧ tt σ2 H2 fun b H3 => if b = true then tk σ2 H3 fun y H4 => tv σ2 H4 fun z H5 => Kt y z H5 else Kn H3)
    (hd : ∀ H, Pv n H → Qd H) :
    ∃ W : Nat → Nat → Hp → Prop, (∃ m, W 0 m (upd H1 d (.dK []))) ∧ ∀ i m H, W i m H →
      (J.stop i H ∧ Qd H) ∨ (J.go i H ∧ ∃ Nx : Hp → Prop, (∀ H', Nx H' → ∃ m', m' < m ∧ W (i + 1) m' H') ∧ ∀ x H', J.yld i H x H' → g x (wipe σ vs) H' fun σ2 H2 => wipe σ2 vs = wipe σ vs ∧ tt σ2 H2 fun b H3 =>
        if b = true then tk σ2 H3 fun y H4 => tv σ2 H4 fun z H5 => ∃ kvs k, y = kV k ∧ H5 d = some (.dK kvs) ∧ kvs.length < sizeLine ∧ Nx (upd H5 d (.dK (putK kvs k z))) else Nx H3) := by
  refine ⟨fun i m H => m = n - i ∧ i ≤ n ∧ Pv i H, ⟨n, by simp, Nat.zero_le _, h0⟩, ?_⟩
  rintro i m H ⟨rfl, hi, p⟩
  have q := hG i H hi p
  by_cases hlt : i < n
  · refine .inr ⟨w.goes i H hlt q, Pv (i + 1), fun H' p' => ⟨n - (i + 1), by omega, rfl, hlt, p'⟩, fun x H' y => ?_⟩
    exact hs i x H H' (fun y z H5 => ∃ kvs k, y = kV k ∧ H5 d = some (.dK kvs) ∧ kvs.length < sizeLine ∧ Pv (i + 1) (upd H5 d (.dK (putK kvs k z)))) _ hlt p (w.yields i H x H' hlt q y)
      (fun m k z H5 h5 hl r => ⟨_, Sum.inl k, rfl, h5, by rw [List.length_map]; exact szl hl, by rw [putK_di]; exact r⟩) fun _ h => h
  · have e : i = n := by omega
    subst e
    exact .inl ⟨w.stops H q, hd H p⟩
end Rd

set_option Elab.async false
set_option linter.all false
set_option maxRecDepth 100000
set_option maxHeartbeats 2000000
/-! list(zip(xs, ys)) of two lists -/
namespace Zl
open PySem PySem.Calls PyProof.Rows PyProof.V PySem.Spec PySem.W
/-- the addresses as hold the pairs so far -/
structure PairsG (xs ys : Array Value) (lo : Addr) (h : Heap) (as : List Addr) : Prop where
  rise : as.Pairwise (· < ·)
  above : ∀ a ∈ as, lo < a
  pairs : ∀ (j : Nat) (a : Addr), as[j]? = some a → ∃ x y, xs[j]? = some x ∧ ys[j]? = some y ∧ IsPair h a x y
theorem PairsG.there {xs ys : Array Value} {lo : Addr} {h : Heap} {as : List Addr} (g : PairsG xs ys lo h as) {a : Addr} (ha : a ∈ as) : a < h.objs.size := by
  obtain ⟨j, hj⟩ := List.mem_iff_getElem?.mp ha
  obtain ⟨_, _, _, _, e⟩ := g.pairs j a hj
  exact Heap.lt_size e
/-- the zip under way, its list at S -/
def ZSt (z TI TO i1 i2 l1 l2 S : Addr) (xs ys : Array Value) (i : Nat) (h : Heap) : Prop :=
  IsPair h TI (.ref i1) (.ref i2) ∧ h.IsListIter i1 l1 i ∧ h.IsListIter i2 l2 i ∧ h.IsList l1 xs ∧ h.IsList l2 ys ∧
    ((IsZip h z TI TO .none ∧ ∃ a b, IsPair h TO a b) ∨ ∃ T f oT, IsZipHeld h z TI TO T f ∧ h.get? T = some oT ∧ T ≠ z ∧ T ≠ i1 ∧ T ≠ i2 ∧ T ≠ S)
structure Off (z TI TO i1 i2 l1 l2 S : Addr) : Prop where
  z : z < S
  TI : TI < S
  TO : TO < S
  i1 : i1 < S
  i2 : i2 < S
  l1 : l1 < S
  l2 : l2 < S
section
variable {prog : Program} {w : World} {A : Around} {E : Value → Shared → Prop} {s : Shared} {z TI TO i1 i2 l1 l2 S : Addr} {xs ys : Array Value}
theorem ZSt.push {h h' : Heap} {i : Nat} (O : Off z TI TO i1 i2 l1 l2 S) (st : ZSt z TI TO i1 i2 l1 l2 S xs ys i h) (hk : ∀ b o, b ≠ S → h.get? b = some o → h'.get? b = some o) : ZSt z TI TO i1 i2 l1 l2 S xs ys i h' := by
  obtain ⟨hTI, h1, h2, hl1, hl2, hz⟩ := st
  refine ⟨hk _ _ (Nat.ne_of_lt O.TI) hTI, h1.at fun o e => hk _ o (Nat.ne_of_lt O.i1) e, h2.at fun o e => hk _ o (Nat.ne_of_lt O.i2) e, hl1.at fun o e => hk _ o (Nat.ne_of_lt O.l1) e, hl2.at fun o e => hk _ o (Nat.ne_of_lt O.l2) e, ?_⟩
  rcases hz with ⟨hz, a, b, hTO⟩ | ⟨T, f, oT, hz, hT, r1, r2, r3, r4⟩
  · exact .inl ⟨hk _ _ (Nat.ne_of_lt O.z) hz, a, b, hk _ _ (Nat.ne_of_lt O.TO) hTO⟩
  · exact .inr ⟨T, f, oT, hk _ _ (Nat.ne_of_lt O.z) hz, hk _ _ r4 hT, r1, r2, r3, r4⟩
theorem zl_item {i : Nat} {x y : Value} {Q : Option Value → Shared → Prop} (D : ZipApart z TI TO i1 i2 l1 l2) (st : ZSt z TI TO i1 i2 l1 l2 S xs ys i s.heap) (hS : S < s.heap.objs.size) (hx : xs[i]? = some x) (hy : ys[i]? = some y)
    (hQ : ∀ h', ZSt z TI TO i1 i2 l1 l2 S xs ys (i + 1) h' → IsPair h' s.heap.objs.size x y → h'.objs.size = s.heap.objs.size + 1 → (∀ b o, b ≠ z → b ≠ TO → b ≠ i1 → b ≠ i2 → s.heap.get? b = some o → h'.get? b = some o) → Q (some (.ref s.heap.objs.size)) { s with heap := h' }) :
    wpAny (model prog w) A (pyNext (.ref z)) Q E s := by
  obtain ⟨hTI, h1, h2, hl1, hl2, hz⟩ := st
  have lt : ∀ {c o}, s.heap.get? c = some o → s.heap.objs.size ≠ c := fun e => Nat.ne_of_gt (Heap.lt_size e)
  have n1 : s.heap.objs.size ≠ i1 := let ⟨_, e, _⟩ := h1; lt e
  have n2 : s.heap.objs.size ≠ i2 := let ⟨_, e, _⟩ := h2; lt e
  rcases hz with ⟨hz, a, b, hTO⟩ | ⟨T, f, oT, hz, hT, r1, r2, r3, r4⟩
  · refine wpAny_pyNext_zip_item D hz hTI hTO h1 h2 hl1 hl2 hx hy fun h' a1 a2 a3 a4 a5 a6 hk => ?_
    exact hQ h' ⟨hk _ _ D.TIz D.TITO D.TIi1 D.TIi2 hTI, a3, a4, hl1.at fun o e => hk _ o D.l1z D.l1TO D.l1i1 D.l1i2 e, hl2.at fun o e => hk _ o D.l2z D.l2TO D.l2i1 D.l2i2 e,
      .inr ⟨s.heap.objs.size, false, _, a1, a5, lt hz, n1, n2, Nat.ne_of_gt hS⟩⟩ a5 a6 hk
  · refine wpAny_pyNext_zip_item_held D hz hT hTI h1 h2 hl1 hl2 hx hy fun h' a1 a3 a4 a5 a6 hk => ?_
    exact hQ h' ⟨hk _ _ D.TIz D.TIi1 D.TIi2 hTI, a3, a4, hl1.at fun o e => hk _ o D.l1z D.l1i1 D.l1i2 e, hl2.at fun o e => hk _ o D.l2z D.l2i1 D.l2i2 e,
      .inr ⟨T, true, oT, a1, hk _ _ r1 r2 r3 hT, r1, r2, r3, r4⟩⟩ a5 a6 fun b o c1 _ c3 c4 e => hk b o c1 c3 c4 e
theorem zl_done {i : Nat} {Q : Option Value → Shared → Prop} (hh : A.handled = none) (D : ZipApart z TI TO i1 i2 l1 l2) (st : ZSt z TI TO i1 i2 l1 l2 S xs ys i s.heap) (hend : xs[i]? = none ∨ ys[i]? = none)
    (hQ : ∀ h', (∀ b o, b ≠ z → b ≠ TO → b ≠ i1 → b ≠ i2 → s.heap.get? b = some o → h'.get? b = some o) → Q none { s with heap := h' }) :
    wpAny (model prog w) A (pyNext (.ref z)) Q E s := by
  obtain ⟨hTI, h1, h2, hl1, hl2, hz⟩ := st
  rcases hz with ⟨hz, a, b, hTO⟩ | ⟨T, f, oT, hz, hT, r1, r2, r3, r4⟩
  · exact wpAny_pyNext_zip_end hh D hz hTI hTO h1 h2 hl1 hl2 hend fun h' hk => hQ h' hk
  · exact wpAny_pyNext_zip_end_held hh D hz hT hTI h1 h2 hl1 hl2 hend fun h' hk => hQ h' fun b o c1 _ c3 c4 e => hk b o c1 c3 c4 e
end
section
variable {prog : Program} {w : World} {A : Around} {s : Shared} {R : Result → Shared → Prop} {z TI TO i1 i2 l1 l2 S : Addr} {xs ys : Array Value}
theorem zl_loop (hh : A.handled = none) (D : ZipApart z TI TO i1 i2 l1 l2) (O : Off z TI TO i1 i2 l1 l2 S) (hxy : xs.size = ys.size) (hn : xs.size ≤ sizeLine) (res : Value) {h₁ : Heap}
    (hR : ∀ h' tk acc c as, (∀ b o, b ≠ S → b ≠ z → b ≠ TO → b ≠ i1 → b ≠ i2 → h₁.get? b = some o → h'.get? b = some o) → h'.get? S = some { cls := .type "list", dict := none, data := .seq acc c, slots := #[] } → as.length = xs.size → PairsG xs ys S h' as →
      acc.toList = as.map Value.ref → R (.ok (.ret res)) { s with heap := h', toks := tk }) :
    ∀ (k i : Nat) (h : Heap) (tk c : Nat) (acc : Array Value) (as : List Addr), xs.size - i = k → i ≤ xs.size → ZSt z TI TO i1 i2 l1 l2 S xs ys i h → (∀ b o, b ≠ S → b ≠ z → b ≠ TO → b ≠ i1 → b ≠ i2 → h₁.get? b = some o → h.get? b = some o) →
      h.get? S = some { cls := .type "list", dict := none, data := .seq acc c, slots := #[] } → acc.toList = as.map Value.ref → as.length = i → PairsG xs ys S h as →
      codeAny (model prog w) A (.builtin "list.extend.loop" ⟨[.ref S, .ref z, res], []⟩) R { s with heap := h, toks := tk } := by
  intro k
  induction k with
  | zero =>
    intro i h tk c acc as hk hi hst hkeep hS hacc hal hG
    have hin : i = xs.size := by omega
    refine codeAny_builtin PySem.F.entry_extend_loop ?_
    rw [Around.under_plainId PySem.F.plain_extend_loop _]
    show wpAny _ A.in1 (pyNext (.ref z) >>= _) _ _ _
    refine wpAny_bind (zl_done (s := { s with heap := h, toks := tk }) (A := A.in1) hh D hst (.inl (Array.getElem?_eq_none (by omega))) fun h' he => ?_)
    refine wpAny_pure (hR h' tk acc c as (fun b o h0 h1 h2 h3 h4 e => he b o h1 h2 h3 h4 (hkeep b o h0 h1 h2 h3 h4 e)) (he S _ (Nat.ne_of_gt O.z) (Nat.ne_of_gt O.TO) (Nat.ne_of_gt O.i1) (Nat.ne_of_gt O.i2) hS) (by omega) ⟨hG.rise, hG.above, fun j a hj => ?_⟩ hacc)
    obtain ⟨x, y, e1, e2, e3⟩ := hG.pairs j a hj
    have ab := hG.above a (List.mem_of_getElem? hj)
    exact ⟨x, y, e1, e2, he a _ (Nat.ne_of_gt (Nat.lt_trans O.z ab)) (Nat.ne_of_gt (Nat.lt_trans O.TO ab)) (Nat.ne_of_gt (Nat.lt_trans O.i1 ab)) (Nat.ne_of_gt (Nat.lt_trans O.i2 ab)) e3⟩
  | succ k ih =>
    intro i h tk c acc as hk hi hst hkeep hS hacc hal hG
    have hlt : i < xs.size := by omega
    have hlt2 : i < ys.size := by omega
    have hsz : acc.size = i := by rw [← Array.length_toList, hacc, List.length_map, hal]
    refine codeAny_builtin PySem.F.entry_extend_loop ?_
    rw [Around.under_plainId PySem.F.plain_extend_loop _]
    show wpAny _ A.in1 (pyNext (.ref z) >>= _) _ _ _
    have hSl : S < h.objs.size := Heap.lt_size hS
    refine wpAny_bind (zl_item (s := { s with heap := h, toks := tk }) D hst hSl (Array.getElem?_eq_getElem hlt) (Array.getElem?_eq_getElem hlt2) fun h' hst' ht hz hkp => ?_)
    dsimp only at ht hz hkp ⊢
    have hS' := hkp S _ (Nat.ne_of_gt O.z) (Nat.ne_of_gt O.TO) (Nat.ne_of_gt O.i1) (Nat.ne_of_gt O.i2) hS
    have up : ∀ b o, b ≠ S → h'.get? b = some o → (h'.update S (Obj.mapSeq (·.push (Value.ref h.objs.size)))).get? b = some o := fun b o hb e => (Heap.get?_update_other _ _ (Ne.symm hb)).trans e
    show wpAny _ A.in1 (updateSeq S (·.push (Value.ref h.objs.size)) >>= _) _ _ _
    refine wpAny_bind ?_
    refine wpAny_updateSeq hS' rfl (wpAny_pure ⟨plainId_quiet PySem.F.plain_extend_loop _, ih (i + 1) _ tk _ (acc.push (Value.ref h.objs.size)) (as ++ [h.objs.size]) (by omega) hlt (hst'.push O up)
      (fun b o h0 h1 h2 h3 h4 e => up b o h0 (hkp b o h1 h2 h3 h4 (hkeep b o h0 h1 h2 h3 h4 e))) (Heap.get?_update_self _ hS' rfl) (by rw [Array.toList_push, hacc, List.map_append]; rfl) (by rw [List.length_append, hal]; rfl) ⟨?_, ?_, ?_⟩⟩) (by rw [hsz]; omega) (by show (acc.push (Value.ref h.objs.size)).size ≤ sizeLine + 1; rw [Array.size_push, hsz]; omega)
    · refine List.pairwise_append.mpr ⟨hG.rise, List.pairwise_singleton _ _, fun a ha b hb => ?_⟩
      rw [List.mem_singleton.mp hb]
      exact hG.there ha
    · intro a ha
      rcases List.mem_append.mp ha with ha | ha
      · exact hG.above a ha
      · rw [List.mem_singleton.mp ha]; exact hSl
    · intro j b hj
      rcases Nat.lt_trichotomy j as.length with h1 | h1 | h1
      · rw [List.getElem?_append_left h1] at hj
        obtain ⟨x, y, e1, e2, e3⟩ := hG.pairs j b hj
        have ab := hG.above b (List.mem_of_getElem? hj)
        exact ⟨x, y, e1, e2, up b _ (Nat.ne_of_gt ab) (hkp b _ (Nat.ne_of_gt (Nat.lt_trans O.z ab)) (Nat.ne_of_gt (Nat.lt_trans O.TO ab)) (Nat.ne_of_gt (Nat.lt_trans O.i1 ab)) (Nat.ne_of_gt (Nat.lt_trans O.i2 ab)) e3)⟩
      · subst h1
        have hb : h.objs.size = b := by simpa using hj
        subst hb
        subst hal
        exact ⟨_, _, Array.getElem?_eq_getElem hlt, Array.getElem?_eq_getElem hlt2, up _ _ (Nat.ne_of_gt hSl) ht⟩
      · have hnone : (as ++ [h.objs.size])[j]? = none := List.getElem?_eq_none (by rw [List.length_append, List.length_singleton]; omega)
        rw [hnone] at hj; cases hj
end
theorem zip_no_len : typeLookup (.type "zip") "__len__" = pure none := by rw [typeLookup_type, builtinLookup_eq_fast]; kernel_rfl
theorem zip_no_hint : typeLookup (.type "zip") "__length_hint__" = pure none := by rw [typeLookup_type, builtinLookup_eq_fast]; kernel_rfl
section
variable {prog : Program} {w : World} {A : Around} {E : Value → Shared → Prop} {s : Shared} {z TI TO i1 i2 l1 l2 : Addr} {xs ys : Array Value}
theorem zl_extend {R : Result → Shared → Prop} (hh : A.handled = none) (S : Addr) (D : ZipApart z TI TO i1 i2 l1 l2) (O : Off z TI TO i1 i2 l1 l2 S) (hxy : xs.size = ys.size) (hn : xs.size ≤ sizeLine) (hst : ZSt z TI TO i1 i2 l1 l2 S xs ys 0 s.heap) (hzz : IsZip s.heap z TI TO .none) (res : Value) (c₀ : Nat) (hS : s.heap.get? S = some { cls := .type "list", data := .seq #[] c₀ })
    (hR : ∀ h' tk acc c as, (∀ b o, b ≠ S → b ≠ z → b ≠ TO → b ≠ i1 → b ≠ i2 → s.heap.get? b = some o → h'.get? b = some o) → h'.get? S = some { cls := .type "list", dict := none, data := .seq acc c, slots := #[] } → as.length = xs.size → PairsG xs ys S h' as →
      acc.toList = as.map Value.ref → R (.ok (.ret res)) { s with heap := h', toks := tk }) :
    wpAny (model prog w) A.in1 (Builtin.List.listExtendWith (.ref S) (.ref z) res)
      (fun fin s' => match fin with | .done f => R (.ok f) s' | .again c' => c'.quiet = true ∧ codeAny (model prog w) A c' R s') (fun e s' => R (.error e) s') s := by
  have hT : s.TypeIs (.ref z) "zip" := ⟨_, hzz, rfl⟩
  have hSz : S ≠ z := Nat.ne_of_gt O.z
  unfold Builtin.List.listExtendWith
  refine wpAny_bind (wpAny_typeOf hT ?_)
  have h1 : Builtin.List.listSameRef (.ref S) (.ref z) = false := by simp [Builtin.List.listSameRef, hSz]
  have h2 : (Value.type "zip" == Value.type "list") = false := by decide
  have h3 : (Value.type "zip" == Value.type "tuple") = false := by decide
  simp only [h1, h2, h3, Bool.or_false, Bool.false_eq_true, if_false]
  refine wpAny_bind (wpAny_pyIter_zip hzz ?_)
  refine wpAny_bind (wpAny_holding ?_)
  unfold Builtin.List.listLengthHint
  refine wpAny_bind (wpAny_specialOf hT zip_no_len ?_)
  show wpAny _ A.in1 (specialOf (Value.ref z) (Str.ofString "__length_hint__") >>= _) _ _ _
  refine wpAny_bind (wpAny_specialOf hT zip_no_hint ?_)
  refine wpAny_pure ?_
  show wpAny _ A.in1 (rule "list.extend.makes-room" >>= fun _ => Builtin.List.listTouch (.ref S) >>= fun _ =>
    again (.builtin "list.extend.loop" ⟨[.ref S, .ref z, res], []⟩)) _ _ _
  refine wpAny_bind (wpAny_rule ?_)
  refine wpAny_bind ?_
  show wpAny _ A.in1 (updateSeq S (·.push .none) >>= fun _ => updateSeq S (·.pop)) _ _ _
  refine wpAny_bind (wpAny_updateSeq hS rfl ?_)
  have hS₂ := Heap.get?_update_self (Obj.mapSeq (·.push Value.none)) hS rfl
  refine wpAny_updateSeq (hz := by seq_fits) hS₂ rfl ?_
  have hS₃ := Heap.get?_update_self (Obj.mapSeq (·.pop)) hS₂ rfl
  have oth : ∀ b o, b ≠ S → s.heap.get? b = some o → ((s.heap.update S (Obj.mapSeq (·.push Value.none))).update S (Obj.mapSeq (·.pop))).get? b = some o :=
    fun b o hb e => (Heap.get?_update_other _ _ (Ne.symm hb)).trans ((Heap.get?_update_other _ _ (Ne.symm hb)).trans e)
  refine wpAny_pure ⟨plainId_quiet F.plain_extend_loop _, zl_loop (s := s) (h₁ := s.heap) hh D O hxy hn res hR (xs.size - 0) 0 _ _ _ _ [] rfl (Nat.zero_le _) (hst.push O oth) (fun b o h0 _ _ _ _ e => oth b o h0 e) hS₃ rfl rfl ⟨.nil, by simp, fun j a h => by simp at h⟩⟩
theorem zl_call {Q : Value → Shared → Prop} (hh : A.handled = none) (D : ZipApart z TI TO i1 i2 l1 l2) (hlt : z < s.heap.objs.size ∧ TI < s.heap.objs.size ∧ TO < s.heap.objs.size ∧ i1 < s.heap.objs.size ∧ i2 < s.heap.objs.size ∧ l1 < s.heap.objs.size ∧ l2 < s.heap.objs.size) (hxy : xs.size = ys.size) (hn : xs.size ≤ sizeLine)
    (hTI : IsPair s.heap TI (.ref i1) (.ref i2)) (h1 : s.heap.IsListIter i1 l1 0) (h2 : s.heap.IsListIter i2 l2 0) (hl1 : s.heap.IsList l1 xs) (hl2 : s.heap.IsList l2 ys) (hz : IsZip s.heap z TI TO .none) (hTO : ∃ a b, IsPair s.heap TO a b)
    (hQ : ∀ h' tk acc c as, (∀ b o, b ≠ z → b ≠ TO → b ≠ i1 → b ≠ i2 → s.heap.get? b = some o → h'.get? b = some o) → h'.get? s.heap.objs.size = some { cls := .type "list", dict := none, data := .seq acc c, slots := #[] } → as.length = xs.size → PairsG xs ys s.heap.objs.size h' as →
      acc.toList = as.map Value.ref → Q (.ref s.heap.objs.size) { s with heap := h', toks := tk }) :
    wpAny (model prog w) A (call (.type "list") [.ref z]) Q E s := by
  refine callType_codes (Q₁ := fun obj s₁ => obj = .ref s.heap.objs.size ∧ s₁ = { s with heap := s.heap.push { cls := .type "list", data := .seq #[] } }) PySem.F.called_list (PySem.F.typeCall_list_1 _) PySem.F.entry_list_init
    (code_list_new _ ⟨rfl, rfl⟩) fun obj s₁ h₁ => ?_
  obtain ⟨rfl, rfl⟩ := h₁
  have hS : (s.heap.push { cls := .type "list", data := .seq #[] }).get? s.heap.objs.size = some { cls := .type "list", data := .seq #[] } := Heap.get?_push_size _ rfl
  obtain ⟨g1, g2, g3, g4, g5, g6, g7⟩ := hlt
  have O : Off z TI TO i1 i2 l1 l2 s.heap.objs.size := ⟨g1, g2, g3, g4, g5, g6, g7⟩
  have up : ∀ b o, s.heap.get? b = some o → (s.heap.push { cls := .type "list", data := .seq #[] }).get? b = some o := fun b o e => Heap.get?_push_of_some _ e
  have hst : ZSt z TI TO i1 i2 l1 l2 s.heap.objs.size xs ys 0 s.heap := ⟨hTI, h1, h2, hl1, hl2, .inl ⟨hz, hTO⟩⟩
  refine ⟨⟨_, hS, rfl⟩, PySem.F.args_list_init_2 _ _, ?_⟩
  show wpAny _ _ (do let old ← Builtin.List.listItems (.ref s.heap.objs.size); Builtin.List.listUpdate (.ref s.heap.objs.size) (fun _ => #[]); letGo old.toList.reverse; Builtin.List.listExtendWith (.ref s.heap.objs.size) (.ref z) .none) _ _ _
  refine wpAny_bind ?_
  unfold Builtin.List.listItems
  refine wpAny_bind (wpAny_seqItems hS rfl (wpAny_pure ?_))
  show wpAny _ _ (updateSeq s.heap.objs.size (fun _ => #[]) >>= fun _ => letGo (#[] : Array Value).toList.reverse >>= fun _ => Builtin.List.listExtendWith (.ref s.heap.objs.size) (.ref z) .none) _ _ _
  refine wpAny_bind (wpAny_updateSeq hS rfl ?_)
  have hS₂ := Heap.get?_update_self (Obj.mapSeq (fun _ => (#[] : Array Value))) hS rfl
  have oth : ∀ b o, b ≠ s.heap.objs.size → s.heap.get? b = some o → ((s.heap.push { cls := .type "list", data := .seq #[] }).update s.heap.objs.size (Obj.mapSeq (fun _ => (#[] : Array Value)))).get? b = some o :=
    fun b o hb e => (Heap.get?_update_other _ _ (Ne.symm hb)).trans (up b o e)
  refine wpAny_bind (wpAny_letGo ?_)
  refine zl_extend (A := A.in1) hh _ D O hxy hn (hst.push O oth) (oth _ _ (Nat.ne_of_lt g1) hz) .none _ hS₂ fun h' tk acc c as hk hS' hl hG hacc => ?_
  exact ⟨rfl, hQ h' tk acc c as (fun b o b1 b2 b3 b4 e => hk b o (Nat.ne_of_lt (Heap.lt_size e)) b1 b2 b3 b4 (oth b o (Nat.ne_of_lt (Heap.lt_size e)) e)) hS' hl hG hacc⟩
end
end Zl
namespace L2
open PySem PySem.Spec PyProof.Rows
def putP : Hp → List Addr → List V → List V → Hp
  | H, a :: as, x :: xs, y :: ys => putP (upd H a (.tup [x, y])) as xs ys
  | H, _, _, _ => H
theorem putP_off {b : Addr} : ∀ (as : List Addr) (xs ys : List V) (H : Hp), b ∉ as → putP H as xs ys b = H b
  | [], _, _, _, _ => rfl
  | _ :: _, [], _, _, _ => rfl
  | _ :: _, _ :: _, [], _, _ => rfl
  | a :: as, x :: xs, y :: ys, H, h => by
    show putP (upd H a (.tup [x, y])) as xs ys b = H b
    rw [putP_off as xs ys _ (fun z => h (List.mem_cons_of_mem _ z)), upd_ne (fun z => h (by rw [z]; exact List.mem_cons_self))]
theorem putP_at : ∀ (as : List Addr) (xs ys : List V) (H : Hp), as.length = xs.length → xs.length = ys.length → as.Nodup → ∀ (j : Nat) t, as[j]? = some t → ∃ x y, xs[j]? = some x ∧ ys[j]? = some y ∧ putP H as xs ys t = some (.tup [x, y])
  | [], _, _, _, _, _, _, _, _, h => by simp at h
  | _ :: _, [], _, _, h, _, _, _, _, _ => by simp at h
  | _ :: _, _ :: _, [], _, _, h, _, _, _, _ => by simp at h
  | a :: as, x :: xs, y :: ys, H, h1, h2, hn, j, t, ht => by
    have hn' := List.nodup_cons.mp hn
    cases j with
    | zero =>
      simp at ht; subst ht
      refine ⟨x, y, rfl, rfl, ?_⟩
      show putP (upd H a (.tup [x, y])) as xs ys a = _
      rw [putP_off as xs ys _ hn'.1, upd_same]
    | succ j =>
      obtain ⟨x', y', e1, e2, e3⟩ := putP_at as xs ys (upd H a (.tup [x, y])) (Nat.succ.inj h1) (Nat.succ.inj h2) hn'.2 j t (by simpa using ht)
      exact ⟨x', y', by simpa using e1, by simpa using e2, e3⟩
def tListZip (K : PySem.W.Frag) (ta : TA) : TE := fun σ H Q => ta σ H fun vs H1 => ∃ a b xs ys, vs = [V.ref a, .ref b] ∧ SqL K H1 a xs ∧ SqL K H1 b ys ∧ xs.length = ys.length ∧
  ∀ (p : Addr) (ts : List Addr) (H2 : Hp), Same H1 H2 → H1 p = none → H2 p = some (.lst (ts.map V.ref)) → ts.length = xs.length → (∀ (j : Nat) t, ts[j]? = some t → ∃ x y, xs[j]? = some x ∧ ys[j]? = some y ∧ H2 t = some (.tup [x, y])) → Q (.ref p) H2
section
variable {X : Cx}
theorem zip_laid {pins : List (Addr × Obj)} {σ : L2.St} {H : Hp} {s : Shared} {h' : Heap} {tk S : Nat} {xs ys : List V} {us ws : List Value} {acc : Array Value} {c : Nat} {as : List Addr} (I : Inv X pins σ H s) (hz : xs.length ≤ sizeLine) (hxy : xs.length = ys.length) (rx : Vals xs us) (ry : Vals ys ws) (hSS : s.heap.objs.size ≤ S)
    (hk : ∀ b o, s.heap.get? b = some o → h'.get? b = some o) (hS : h'.get? S = some { cls := .type "list", dict := none, data := .seq acc c, slots := #[] }) (hl : as.length = xs.length) (hG : Zl.PairsG us.toArray ws.toArray S h' as) (hacc : acc.toList = as.map Value.ref) :
    ∃ H' : Hp, Same H H' ∧ H S = none ∧ H' S = some (.lst (as.map V.ref)) ∧ (∀ (j : Nat) t, as[j]? = some t → ∃ x y, xs[j]? = some x ∧ ys[j]? = some y ∧ H' t = some (.tup [x, y])) ∧ Inv X pins σ H' { s with heap := h', toks := tk } := by
  have hSn : S ∉ as := fun z => Nat.lt_irrefl _ (hG.above _ z)
  have nd : as.Nodup := List.Pairwise.imp (fun {a b} (h : a < b) => Nat.ne_of_lt h) hG.rise
  have new : ∀ t ∈ as, H t = none := fun t ht => I.hok.fresh (Nat.le_trans hSS (Nat.le_of_lt (hG.above t ht)))
  have newS : H S = none := I.hok.fresh hSS
  have atP := putP_at as xs ys (upd H S (.lst (as.map V.ref))) hl hxy nd
  have off : ∀ b, b ∉ as → b ≠ S → putP (upd H S (.lst (as.map V.ref))) as xs ys b = H b := fun b h1 h2 => by rw [putP_off as xs ys _ h1, upd_ne h2]
  have low : ∀ b o, s.heap.get? b = some o → b ∉ as ∧ b ≠ S := fun b o e => ⟨fun z => absurd (Heap.lt_size e) (Nat.not_lt.mpr (Nat.le_trans hSS (Nat.le_of_lt (hG.above b z)))), Nat.ne_of_lt (Nat.lt_of_lt_of_le (Heap.lt_size e) hSS)⟩
  have kp : ∀ b u, H b = some u → (putP (upd H S (.lst (as.map V.ref))) as xs ys) b = some u := fun b u e => by
    rw [off b (fun z => by rw [new b z] at e; cases e) (fun z => by rw [z, newS] at e; cases e)]
    exact e
  have eS : putP (upd H S (.lst (as.map V.ref))) as xs ys S = some (.lst (as.map V.ref)) := by rw [putP_off as xs ys _ hSn, upd_same]
  refine ⟨putP (upd H S (.lst (as.map V.ref))) as xs ys, kp, newS, eS, atP, ?_⟩
  refine I.call' (ch := []) rfl ⟨fun b o q _ _ _ => hk b o q, fun b o q _ _ _ => ⟨o.slots, hk b o q⟩, fun b o q n _ => ?_, fun b o q _ => ⟨o, hk b o q⟩, fun b xs q => kp b _ q, fun b o u q => kp b _ q, fun b ps q => ⟨#[], by rw [kp b _ q]; simp⟩⟩ (fun b u q => ?_) I.bare fun b z => by simp at z
  · obtain ⟨z1, z2⟩ := low b o q
    rw [off b z1 z2]
    exact n
  · by_cases hb : b ∈ as
    · obtain ⟨j, e1⟩ := List.mem_iff_getElem?.mp hb
      obtain ⟨x, y, e2, e3, e4⟩ := atP j b e1
      rw [e4] at q
      cases q
      obtain ⟨u1, u2, f1, f2, f3⟩ := hG.pairs j b e1
      obtain ⟨v1, g1, g2⟩ := rx.get e2
      obtain ⟨v2, g3, g4⟩ := ry.get e3
      have f1 : us[j]? = some u1 := by simpa using f1
      have f2 : ws[j]? = some u2 := by simpa using f2
      rw [g1] at f1; cases f1
      rw [g3] at f2; cases f2
      exact ⟨by show 2 ≤ sizeLine; decide, [u1, u2], .cons g2 (.cons g4 .nil), ⟨_, f3, rfl, _, rfl⟩⟩
    · by_cases hb2 : b = S
      · rw [hb2] at q ⊢
        rw [eS] at q
        cases q
        refine ⟨by rw [List.length_map]; omega, acc.toList, c, by rw [hacc]; exact LiI.vals_refs as, ?_⟩
        rw [Array.toArray_toList]
        exact hS
      · rw [off b hb hb2] at q
        exact (I.hok b u q).stay (fun d v _ y => hk d v y) (fun d y => kp d _ y) fun d xs y => kp d _ y
theorem pe_listZip {e e2 : Expr} {ta : TA} {p p2 q pos : Pos} (hc : X.calm = true) (hg : Gl X "list") (hm : X.mg "list" = none) (hv : bootBuiltins "list" = some (.type "list")) (hg2 : Gl X "zip") (hm2 : X.mg "zip" = none) (ha : PA X [e, e2] ta)
    (hs : starEach [e, e2] X.env = (false, eval e X.env) :: starEach [e2] X.env := by rfl) (hpl : (backTo q (starEach [e2] X.env)).any (·.1) = false := by rfl) :
    PE X (.Call (.Name "list" p) [.Call (.Name "zip" p2) [e, e2] [] q] [] pos) (tListZip X.K ta) := by
  refine ⟨fun pins s σ H Q I h => ?_⟩
  refine Call_ (ld_blt I hg hm hv ?_)
  refine PyProof.Rows.callWith_type1 (PyProof.Rows.args_cons ?_ rfl) rfl rfl
  refine Call_ (ld_blt I hg2 hm2 PyProof.Rows.boot_zip (PyProof.Rows.callWith_type1 (thn (ha.run q pins s σ H _ I h) fun us s1 ⟨vs, H1, I1, r1, q1⟩ => ?_) hs hpl))
  obtain ⟨a, b, xs, ys, ex, hqx, hqy, hxy, q1⟩ := q1
  subst ex
  cases r1 with
  | cons r rr =>
    cases rr with
    | cons r' rr =>
      cases rr
      cases r
      cases r'
      obtain ⟨its, rv, p1, hz1⟩ := I1.list hqx
      obtain ⟨its2, rv2, pp2, hz2⟩ := I1.list hqy
      have ln1 : xs.length = its.length := rv.length
      have ln2 : ys.length = its2.length := rv2.length
      refine call_zip_2 p1.isList pp2.isList fun h' hz hTI hTO h1 h2 hsz hk => PyProof.Rows.args_nil ?_
      have D := PySem.W.ktu_apart s1.heap.objs.size a b p1.lt pp2.lt
      have la := p1.lt
      have lb := pp2.lt
      refine Zl.zl_call (s := { s1 with heap := h' }) (I1.ok.hd hc) D ?_ (by simp; omega) (by simp; omega) hTI h1 h2 (p1.isList.at fun o e => hk _ o e) (pp2.isList.at fun o e => hk _ o e) hz ⟨_, _, hTO⟩ fun h2' tk acc c as hk2 hS hl hG hacc => ?_
      · have up : ∀ k : Nat, k < s1.heap.objs.size + 5 → k < h'.objs.size := fun k hk => by rw [hsz]; exact hk
        exact ⟨up _ (Nat.add_lt_add_left (by decide) _), up _ (Nat.add_lt_add_left (by decide) _), up _ (Nat.add_lt_add_left (by decide) _), up _ (Nat.lt_add_of_pos_right (by decide)), up _ (Nat.add_lt_add_left (by decide) _), up _ (Nat.lt_add_right _ la), up _ (Nat.lt_add_right _ lb)⟩
      · have hS5 : s1.heap.objs.size ≤ h'.objs.size := by omega
        obtain ⟨H', k1, k2, k3, k4, J⟩ := zip_laid (tk := tk) (S := h'.objs.size) I1 hz1 hxy rv rv2 hS5 (fun b o e => hk2 b o (Nat.ne_of_lt (Nat.lt_add_right _ (Heap.lt_size e))) (Nat.ne_of_lt (Nat.lt_add_right _ (Heap.lt_size e))) (Nat.ne_of_lt (Heap.lt_size e)) (Nat.ne_of_lt (Nat.lt_add_right _ (Heap.lt_size e))) (hk b o e)) hS (by rw [hl]; simp; omega) hG hacc
        exact ⟨.ref _, H', J, rfl, q1 _ as H' k1 k2 k3 (by rw [hl]; simp; omega) k4⟩
end
end L2

set_option Elab.async false
set_option linter.all false
set_option maxRecDepth 100000
namespace L2
open PySem PySem.Spec PyProof.Rows
/-! list + list of lists that are read -/
def rCatQ (K : PySem.W.Frag) : R2 := fun x y H Q => ∃ l b xs zs, x = .ref l ∧ y = .ref b ∧ SqL K H l xs ∧ SqL K H b zs ∧ xs.length + zs.length ≤ sizeLine ∧ ∀ p, H p = none → Q (.ref p) (upd H p (.lst (xs ++ zs)))
theorem op_catQ {X : Cx} : OpR X (binaryOp .Add) (rCatQ X.K) := by
  intro pins s σ H x y v u Q I rx ry h
  obtain ⟨l, b, xs, zs, rfl, rfl, hH, hB, hz, q⟩ := h
  cases rx
  cases ry
  obtain ⟨its, r, pl, z⟩ := I.list hH
  obtain ⟨its2, r2, pl2, z2⟩ := I.list hB
  have hl := r.length
  have hl2 := r2.length
  obtain ⟨⟨cls, dd, data, sl⟩, ho, hc, n, hd⟩ := pl.isList
  obtain ⟨⟨cls2, dd2, data2, sl2⟩, ho2, hc2, n2, hd2⟩ := pl2.isList
  simp only at hc hd hc2 hd2
  subst hc hd hc2 hd2
  refine concat_meets ⟨_, ho, rfl⟩ ⟨_, ho2, rfl⟩ noFill_list_add seq_list_add PySem.F.slot_list_add PySem.F.entry_list_add (PySem.F.args_list_add_2 _ _) (list_addW l b its.toArray its2.toArray n n2 dd dd2 sl sl2 (by simp; omega)) ⟨ho, ho2, ?_⟩
  have ea : its.toArray ++ its2.toArray = (its ++ its2).toArray := by simp
  rw [ea]
  exact ⟨.ref _, _, I.lnew (t' := s.toks) (r.append r2) (by rw [List.length_append]; omega), rfl, q _ I.fresh⟩
end L2
namespace Rd
open PySem PySem.Spec PyProof.Rows L2
variable {K : PySem.W.Frag} {σ : L2.St} {H : Hp} {D : Ends} {Q : VK} {ta tb te tv : TE} {x y v : V} {tr : TA}
def CatQ (K : PySem.W.Frag) (Q : VK) (x y : V) (H : Hp) : Prop := rCatQ K x y H Q
theorem catQI (h : CatQ K Q x y H) : rCatQ K x y H Q := h
theorem catQ {a b : Addr} {xs zs : List V} (h1 : SqL K H a xs) (h2 : SqL K H b zs) (s : xs.length + zs.length ≤ 100000) (h : ∀ p H', H p = none → Same H H' → H' p = some (.lst (xs ++ zs)) → Q (.ref p) H') : CatQ K Q (.ref a) (.ref b) H := ⟨a, b, xs, zs, rfl, rfl, h1, h2, sz s, fun p np => h p _ np (same_new np) upd_same⟩
def RevL (K : PySem.W.Frag) (Q : VK) (x : V) (H : Hp) : Prop := ∃ a xs, x = .ref a ∧ SqL K H a xs ∧ ∀ p, H p = none → Q (.ref p) (upd H p (.lst xs.reverse))
theorem revN (h : te σ H (RevL K Q)) : tRevL K te σ H Q := h
theorem revq {a : Addr} {xs : List V} (s : SqL K H a xs) (h : ∀ p H', H p = none → Same H H' → H' p = some (.lst xs.reverse) → Q (.ref p) H') : RevL K Q (.ref a) H := ⟨a, xs, rfl, s, fun p np => h p _ np (same_new np) upd_same⟩
theorem ext {l b : Addr} {xs zs : List V} (h : H l = some (.lst xs)) (hb : H b = some (.lst zs)) (s : xs.length + zs.length ≤ 100000) (q : Q .non (upd H l (.lst (xs ++ zs)))) : rExtend (.ref l) [.ref b] H Q := ⟨l, b, xs, zs, rfl, rfl, h, hb, sz s, q⟩
def LzG (K : PySem.W.Frag) (Q : VK) (vs : List V) (H1 : Hp) : Prop := ∃ a b xs ys, vs = [V.ref a, .ref b] ∧ SqL K H1 a xs ∧ SqL K H1 b ys ∧ xs.length = ys.length ∧
  ∀ (p : Addr) (ts : List Addr) (H2 : Hp), Same H1 H2 → H1 p = none → H2 p = some (.lst (ts.map V.ref)) → ts.length = xs.length → (∀ (j : Nat) t, ts[j]? = some t → ∃ x y, xs[j]? = some x ∧ ys[j]? = some y ∧ H2 t = some (.tup [x, y])) → Q (.ref p) H2
theorem lzip (h : tr σ H (LzG K Q)) : tListZip K tr σ H Q := h
theorem lz {a b : Addr} {xs ys : List V} (h1 : SqL K H a xs) (h2 : SqL K H b ys) (l : xs.length = ys.length) (q : ∀ (p : Addr) (ts : List Addr) (H2 : Hp), Same H H2 → H p = none → H2 p = some (.lst (ts.map V.ref)) → ts.length = xs.length → (∀ (j : Nat) t, ts[j]? = some t → ∃ x y, xs[j]? = some x ∧ ys[j]? = some y ∧ H2 t = some (.tup [x, y])) → Q (.ref p) H2) : LzG K Q [.ref a, .ref b] H := ⟨a, b, xs, ys, rfl, h1, h2, l, q⟩
end Rd
namespace L2
open PySem PySem.Spec PyProof.Rows
/-- (n1, n2) > (m1, m2) -/
def rGtP (K : PySem.W.Frag) : R2 := fun x y H Q => ∃ (a b : Addr) (n1 n2 m1 m2 : Int), x = .ref a ∧ y = .ref b ∧ SqT K H a [.int n1, .int n2] ∧ SqT K H b [.int m1, .int m2] ∧ Q (.bl (decide (m1 < n1 ∨ (n1 = m1 ∧ m2 < n2)))) H
theorem op_gtP {X : Cx} (hu : X.A.units < cLine) : OpR X (compareOp .Gt) (rGtP X.K) := by
  intro pins s σ H x y v u Q I rx ry h
  obtain ⟨a, b, n1, n2, m1, m2, rfl, rfl, ha, hb, q⟩ := h
  cases rx
  cases ry
  obtain ⟨its, r1, p1, _⟩ := I.tuple ha
  obtain ⟨its2, r2, p2, _⟩ := I.tuple hb
  have i1 : IntsAre its [n1, n2] := Vals.ints (ns := [n1, n2]) r1
  have i2 : IntsAre its2 [m1, m2] := Vals.ints (ns := [m1, m2]) r2
  have e1 : its.toArray.size = 2 := by rw [List.size_toArray]; exact i1.length
  have e2 : its2.toArray.size = 2 := by rw [List.size_toArray]; exact i2.length
  have at1 : ∀ j (h1 : j < its.toArray.size), ∃ t, its.toArray[j] = .int ([n1, n2].getD j 0) t := fun j h1 => PyProof.Rows.IntsAre.int_at i1 _ _ (by simp at h1; simp [h1])
  have at2 : ∀ j (h1 : j < its2.toArray.size), ∃ t, its2.toArray[j] = .int ([m1, m2].getD j 0) t := fun j h1 => PyProof.Rows.IntsAre.int_at i2 _ _ (by simp at h1; simp [h1])
  have R := Ob.RcOp.tuples_gt (A := X.A) (s := s) (e := fun j => decide ([n1, n2].getD j 0 = [m1, m2].getD j 0)) (r := fun j => decide ([m1, m2].getD j 0 < [n1, n2].getD j 0)) p1 p2 hu (fun j h1 h2 => by
    obtain ⟨t, et⟩ := at1 j h1
    obtain ⟨t', et'⟩ := at2 j h2
    rw [et, et']
    have z : ([n1, n2].getD j 0 == [m1, m2].getD j 0) = decide ([n1, n2].getD j 0 = [m1, m2].getD j 0) := by
      by_cases q : [n1, n2].getD j 0 = [m1, m2].getD j 0
      · rw [decide_eq_true q]; exact beq_iff_eq.mpr q
      · rw [decide_eq_false q]; exact beq_eq_false_iff_ne.mpr q
    rw [← z]
    exact SeqAt.EqAt.int_int _ _ _ _) (fun j h1 h2 _ => by
    obtain ⟨t, et⟩ := at1 j h1
    obtain ⟨t', et'⟩ := at2 j h2
    rw [et, et']
    exact Ob.RcOp.gt_int _ _ _ _)
  rw [e1, e2] at R
  have ev : Ob.lexAt (fun j => decide ([n1, n2].getD j 0 = [m1, m2].getD j 0)) (fun j => decide ([m1, m2].getD j 0 < [n1, n2].getD j 0)) (decide (2 > 2)) 0 (min 2 2) = decide (m1 < n1 ∨ (n1 = m1 ∧ m2 < n2)) := by
    show Ob.lexAt _ _ _ 0 2 = _
    rw [Ob.lexAt_succ, Ob.lexAt_succ, Ob.lexAt_zero]
    show (if decide (n1 = m1) = true then (if decide (n2 = m2) = true then decide (2 > 2) else decide (m2 < n2)) else decide (m1 < n1)) = _
    by_cases h1 : n1 = m1
    · rw [if_pos (decide_eq_true h1)]
      by_cases h2 : n2 = m2
      · rw [if_pos (decide_eq_true h2)]
        exact (decide_eq_false (by omega)).trans (decide_eq_false (by omega)).symm
      · rw [if_neg (by simp [h2])]
        exact decide_eq_decide.mpr (by omega)
    · rw [if_neg (by simp [h1])]
      exact decide_eq_decide.mpr (by omega)
  exact R _ _ _ _ ⟨.bl _, H, I, rfl, by rw [ev]; exact q⟩
end L2
namespace Rd
open PySem PySem.Spec PyProof.Rows L2
theorem gtP {K : PySem.W.Frag} {H : Hp} {Q : VK} {a b : Addr} {n1 n2 m1 m2 : Int} (h1 : H a = some (.tup [.int n1, .int n2])) (h2 : H b = some (.tup [.int m1, .int m2])) (q : Q (.bl (decide (m1 < n1 ∨ (n1 = m1 ∧ m2 < n2)))) H) : rGtP K (.ref a) (.ref b) H Q := ⟨a, b, n1, n2, m1, m2, rfl, rfl, SqT.of h1, SqT.of h2, q⟩
theorem glst {K : PySem.W.Frag} {H : Hp} {σ : L2.St} {p : Addr} {xs : List V} {n : Nat} {f : TGs} {Q : L2.St → Hp → Prop} (h : H p = some (.lst xs)) (l : xs.length = n) (q : f xs σ H Q) : gLst K n f (.ref p) σ H Q := ⟨p, xs, rfl, SqL.of h, l, q⟩
end Rd
namespace Rd
open PySem PySem.Spec PyProof.Rows L2
theorem revR1 {te : TE} {σ : L2.St} {H : Hp} {R : It → Hp → Prop} (h : te σ H fun x H1 => ∃ n, x = .int n ∧ (-(2 ^ 62) ≤ (0 : Int) ∧ (0 : Int) < 2 ^ 62 ∧ -(2 ^ 62) ≤ n ∧ n < 2 ^ 62 ∧ R (Itc ((0 : Int) + (((n - 0).toNat : Nat) : Int) - 1) (-1) (n - 0).toNat) H1)) : iRevR (tRg1 te) σ H R := h
end Rd

set_option Elab.async false
set_option linter.all false
set_option maxRecDepth 100000
/-! dicts whose keys are texts: what a reading asks of them, over lists of pairs -/
namespace Rd
open PySem PySem.Spec PyProof.Rows L2
variable {K : PySem.W.Frag} {σ : L2.St} {H : Hp} {D : Ends} {Q : VK} {ta tb te tc td ty tx : TE} {x y v : V}
abbrev kS (p : Str × V) : Key × V := (Sum.inr p.1, p.2)
/-- a dict of texts to values, in order -/
abbrev DS (m : List (Str × V)) : HO := .dK (m.map kS)
def lks (m : List (Str × V)) (k : Str) : Option V := (m.find? fun p => decide (p.1 = k)).map (·.2)
theorem kS_eq (p : Str × V) (k : Str) : decide ((kS p).1 = Sum.inr k) = decide (p.1 = k) := by
  by_cases h : p.1 = k
  · rw [decide_eq_true h, decide_eq_true (by rw [← h])]
  · rw [decide_eq_false h, decide_eq_false fun z => h (Sum.inr.inj z)]
theorem valV_ds (m : List (Str × V)) (k : Str) : valV (m.map kS) (Sum.inr k) = lks m k := by
  unfold valV lks
  induction m with
  | nil => rfl
  | cons a r ih =>
    rw [List.map_cons, List.find?_cons, List.find?_cons, kS_eq a k]
    cases decide (a.1 = k) with
    | true => rfl
    | false => exact ih
theorem get_ds {a : Addr} {m : List (Str × V)} {k : Str} (h : L2.Rd H a (DS m)) : DGet H a (.str k) (lks m k) := .inl ⟨_, Sum.inr k, h, rfl, (valV_ds m k).symm⟩
theorem dgetS {a : Addr} {m : List (Str × V)} {k : Str} (h : L2.Rd H a (DS m)) (e : lks m k = some v) (q : Q v H) : DgG Q (.ref a) (.str k) H := ⟨a, v, rfl, e ▸ get_ds h, q⟩
theorem dgetSo {a : Addr} {m : List (Str × V)} {k : Str} (h : H a = some (DS m)) (e : lks m k = some v) (q : Q v H) : DgG Q (.ref a) (.str k) H := dgetS (.inl h) e q
/-- a key that is new -/
theorem put_new {m : List (Str × V)} {k : Str} (h : ∀ p ∈ m, p.1 ≠ k) : putK (m.map kS) (Sum.inr k) v = (m ++ [(k, v)]).map kS := by
  unfold putK
  rw [if_neg, List.map_append]
  · rfl
  · rw [List.any_map]
    intro c
    obtain ⟨p, mp, e⟩ := List.any_eq_true.mp c
    have e : decide ((kS p).1 = Sum.inr k) = true := e
    rw [kS_eq] at e
    exact h p mp (of_decide_eq_true e)
theorem dputS {a : Addr} {m : List (Str × V)} {k : Str} (h : H a = some (DS m)) (n : ∀ p ∈ m, p.1 ≠ k) (l : m.length < 100000) (q : D.nx σ (upd H a (DS (m ++ [(k, v)])))) : DpG D σ (.ref a) (.str k) v H :=
  ⟨a, _, rfl, .inl ⟨_, Sum.inr k, h, rfl, by rw [List.length_map]; exact szl l, rfl⟩, by rw [put_new n]; exact q⟩
theorem merge_new : ∀ (m : List (Str × V)) (l : List (Str × V)), (l.map (·.1) ++ m.map (·.1)).Nodup → mergeK (l.map kS) (m.map kS) = (l ++ m).map kS
  | [], l, _ => by rw [List.append_nil]; rfl
  | p :: r, l, h => by
    have hn : ∀ q ∈ l, q.1 ≠ p.1 := fun q mq z => by
      rw [List.nodup_append] at h
      exact h.2.2 q.1 (List.mem_map_of_mem mq) p.1 (by simp) z
    have e : mergeK (l.map kS) ((p :: r).map kS) = mergeK (putK (l.map kS) (Sum.inr p.1) p.2) (r.map kS) := rfl
    rw [e, put_new hn, merge_new r (l ++ [(p.1, p.2)]) (by simpa using h)]
    simp
theorem inV_strz (x : Str) (r : List Str) : inV (.str x) (r.map V.str) = decide (x ∈ r) := by
  unfold inV
  rw [List.any_map]
  by_cases h : x ∈ r
  · rw [decide_eq_true h, List.any_eq_true]
    exact ⟨x, h, beq_self_eq_true x⟩
  · rw [decide_eq_false h, List.any_eq_false]
    intro y hy e
    have e2 : (y == x) = true := e
    rw [beq_iff_eq] at e2
    exact h (e2 ▸ hy)
theorem inStrs {p : Addr} {ns : List Str} {n : Str} (h : H p = some (.lst (ns.map V.str))) (q : Q (.bl (decide (n ∈ ns))) H) : rIn K false (.str n) (.ref p) H Q :=
  ⟨p, _, rfl, .inl (SqL.of h), rfl, flat_strs _, by rw [inV_strz]; exact q⟩
/-! ### a display -/
def DspG (Q : VK) (p : Addr) (ps : List (V × V)) (H2 : Hp) : Prop := H2 p = some (.dK []) ∧ ∃ kvs : List (Key × V), ps = kvs.map (fun kv => (kV kv.1, kv.2)) ∧ kvs.length ≤ 15 ∧ Q (.ref p) (upd H2 p (.dK (mergeK [] kvs)))
def NewP (trs : List (TE × TE)) (σ : L2.St) (Q : VK) (H : Hp) : Prop := ∀ p, H p = none → tPairs trs σ (upd H p (.dK [])) fun ps H2 => DspG Q p ps H2
theorem disp {trs : List (TE × TE)} (h : NewP trs σ Q H) : tDisp trs σ H Q := h
theorem dsp {trs : List (TE × TE)} (h : ∀ p H', H p = none → Same H H' → H' p = some (.dK []) → tPairs trs σ H' fun ps H2 => DspG Q p ps H2) : NewP trs σ Q H := fun p np => h p _ np (same_new np) upd_same
theorem pnil {Q : List (V × V) → Hp → Prop} (h : Q [] H) : tPairs [] σ H Q := h
theorem pcons {Q : List (V × V) → Hp → Prop} {tk tv : TE} {r : List (TE × TE)} (h : tk σ H fun x H1 => tv σ H1 fun y H2 => tPairs r σ H2 fun ps H3 => Q ((x, y) :: ps) H3) : tPairs ((tk, tv) :: r) σ H Q := h
theorem dspS {p : Addr} {ps : List (V × V)} (m : List (Str × V)) (e : ps = m.map fun q => (V.str q.1, q.2)) (hp : H p = some (.dK [])) (l : m.length ≤ 15) (n : (m.map (·.1)).Nodup) (q : Q (.ref p) (upd H p (DS m))) : DspG Q p ps H :=
  ⟨hp, m.map kS, by rw [e, List.map_map]; rfl, by rw [List.length_map]; exact l, by
    have := merge_new m [] (by simpa using n)
    rw [List.map_nil, List.nil_append] at this
    rw [this]; exact q⟩
end Rd

set_option Elab.async false
set_option linter.all false
set_option maxRecDepth 100000
/-! match over tuples: case ("word", a, _, b), several such patterns, several texts -/
namespace L2
open PySem PySem.Spec PyProof.Rows
/-- one place of a pattern: a written text, a name that is taken, anything -/
inductive Pl
  | txt (c : Str)
  | cap (i : Nat)
  | any
def fit : List Pl → List V → Option Bool
  | [], [] => some true
  | .txt c :: ps, .str z :: xs => if z = c then fit ps xs else some false
  | .cap _ :: ps, _ :: xs => fit ps xs
  | .any :: ps, _ :: xs => fit ps xs
  | _, _ => none
def fitA (ps : List Pl) (xs : List V) : Option Bool := if ps.length = xs.length then fit ps xs else some false
def fitO : List (List Pl) → List V → Option Bool
  | [], _ => some false
  | p :: r, xs => match fitA p xs with
    | some true => some true
    | some false => fitO r xs
    | none => none
def caps : List Pl → List V → List (Nat × V)
  | .cap i :: ps, v :: vs => (i, v) :: caps ps vs
  | .txt _ :: ps, _ :: vs => caps ps vs
  | .any :: ps, _ :: vs => caps ps vs
  | _, _ => []
def tBnd : List Pl → List V → St → Hp → (St → Hp → Prop) → Prop
  | .cap i :: ps, v :: vs => fun σ H Q => gName i v σ H fun σ' H' => tBnd ps vs σ' H' Q
  | .txt _ :: ps, _ :: vs => fun σ H Q => tBnd ps vs σ H Q
  | .any :: ps, _ :: vs => fun σ H Q => tBnd ps vs σ H Q
  | _, _ => fun σ H Q => Q σ H
inductive Pt
  | rest
  | seq (ps : List Pl)
  | ors (pss : List (List Pl))
def tCasesQ (xs : List V) : List (Pt × TS) → TS
  | [] => fun D σ H => D.nx σ H
  | (.rest, t) :: _ => t
  | (.seq ps, t) :: r => fun D σ H => ∃ b, fitA ps xs = some b ∧ if b = true then tBnd ps xs σ H (fun σ' H' => t D σ' H') else tCasesQ xs r D σ H
  | (.ors pss, t) :: r => fun D σ H => ∃ b, fitO pss xs = some b ∧ if b = true then t D σ H else tCasesQ xs r D σ H
def tMatchQ (K : PySem.W.Frag) (te : TE) (l : List (Pt × TS)) : TS := fun D σ H => te σ H fun x H1 => ∃ a xs, x = .ref a ∧ SqT K H1 a xs ∧ xs.length ≤ 1000 ∧ tCasesQ xs l D σ H1
inductive PMs (X : Cx) : List Pattern → List Pl → Prop
  | nil : PMs X [] []
  | txt {c : Str} {j : Nat} {p p2 : Pos} {r : List Pattern} {l : List Pl} : PMs X r l → PMs X (.MatchValue (.Constant (.str c) j p) p2 :: r) (.txt c :: l)
  | cap {x : Str} {i : Nat} {p : Pos} {r : List Pattern} {l : List Pl} (hN : X.N.Nodup) (hi : X.N[i]? = some x) (hx : Loc X.env.scope x) (hf : X.fn x = true ∨ X.env.scope.names.lookup x = some .local) : PMs X r l → PMs X (.MatchAs none (some x) p :: r) (.cap i :: l)
  | any {p : Pos} {r : List Pattern} {l : List Pl} : PMs X r l → PMs X (.MatchAs none none p :: r) (.any :: l)
theorem PMs.len {X : Cx} {ps : List Pattern} {ls : List Pl} (h : PMs X ps ls) : ps.length = ls.length := by
  induction h with
  | nil => rfl
  | txt _ ih => exact congrArg Nat.succ ih
  | cap _ _ _ _ _ ih => exact congrArg Nat.succ ih
  | any _ ih => exact congrArg Nat.succ ih
theorem PMs.star {X : Cx} {ps : List Pattern} {ls : List Pl} (h : PMs X ps ls) : ps.findIdx? (·.isStar) = none := by
  induction h with
  | nil => rfl
  | txt _ ih => rw [List.findIdx?_cons, ih]; rfl
  | cap _ _ _ _ _ ih => rw [List.findIdx?_cons, ih]; rfl
  | any _ ih => rw [List.findIdx?_cons, ih]; rfl
/-- what the captures hold -/
inductive CapR (X : Cx) : List (Nat × V) → List (Str × Value) → Prop
  | nil : CapR X [] []
  | cons {i : Nat} {v : V} {x : Str} {u : Value} {l : List (Nat × V)} {m : List (Str × Value)} (hN : X.N.Nodup) (hi : X.N[i]? = some x) (hx : Loc X.env.scope x) (hf : X.fn x = true ∨ X.env.scope.names.lookup x = some .local) (r : RelV v u) : CapR X l m → CapR X ((i, v) :: l) ((x, u) :: m)
def tCap : List (Nat × V) → St → Hp → (St → Hp → Prop) → Prop
  | [] => fun σ H Q => Q σ H
  | (i, v) :: r => fun σ H Q => gName i v σ H fun σ' H' => tCap r σ' H' Q
theorem tBnd_caps : ∀ (ps : List Pl) (vs : List V) (σ : St) (H : Hp) (Q : St → Hp → Prop), tBnd ps vs σ H Q → tCap (caps ps vs) σ H Q
  | [], [], σ, H, Q, h => h
  | [], _ :: _, σ, H, Q, h => h
  | .cap i :: ps, v :: vs, σ, H, Q, h => by
    show tCap (caps ps vs) _ _ _
    exact tBnd_caps ps vs _ _ _ h
  | .txt _ :: ps, _ :: vs, σ, H, Q, h => tBnd_caps ps vs σ H Q h
  | .any :: ps, _ :: vs, σ, H, Q, h => tBnd_caps ps vs σ H Q h
  | .cap _ :: _, [], σ, H, Q, h => h
  | .txt _ :: _, [], σ, H, Q, h => h
  | .any :: _, [], σ, H, Q, h => h
section
variable {X : Cx}
theorem each_ok {ps : List Pattern} {ls : List Pl} (h : PMs X ps ls) : ∀ {vs : List V} {us : List Value} {b : Bool} {pins : List (Addr × Obj)} {s : Shared} {σ : St} {H : Hp} {Q : Option (List (Str × Value)) → Shared → Prop}, Inv X pins σ H s → Vals vs us → fit ls vs = some b →
    (∀ s' r, Inv X pins σ H s' → (b = false → r = none) → (b = true → ∃ bs, r = some bs ∧ CapR X (caps ls vs) bs) → Q r s') → wpAny (model X.prog X.w) X.A (matchEach ps X.env us) Q X.xe s := by
  induction h with
  | nil =>
    intro vs us b pins s σ H Q I r hf q
    cases r with
    | nil =>
      cases hf
      exact wpAny_matchEach_nil (q s _ I (fun z => nomatch z) fun _ => ⟨[], rfl, .nil⟩)
    | cons _ _ => cases hf
  | @txt c j p p2 r0 l0 hr ih =>
    intro vs us b pins s σ H Q I r hf q
    cases r with
    | nil => cases hf
    | @cons v u vr ur rv rr =>
      cases v with
      | str z =>
        have hf' : (if z = c then fit l0 vr else some false) = some b := hf
        refine wpAny_matchEach_cons (wpAny_matchPattern_Value ?_)
        refine thn ((pe_str (X := X) (x := c)).run pins s σ H (fun v H' => v = .str c ∧ H' = H) I ⟨rfl, rfl⟩) fun v s1 hh => ?_
        obtain ⟨x, H1, I1, rx, ex, eH⟩ := hh
        subst ex
        subst eH
        refine thn (op_eq pins s1 σ H1 (.str z) (.str c) u v (fun y H' => y = .bl (decide (V.str z = V.str c)) ∧ H' = H1) I1 rv rx ⟨rfl, rfl, rfl⟩) fun y s2 hh => ?_
        obtain ⟨x, H2, I2, rx2, ex, eH⟩ := hh
        subst ex
        subst eH
        cases rx2
        refine wpAny_truthy_bool ?_
        by_cases e : z = c
        · rw [if_pos e] at hf'
          rw [decide_eq_true (by rw [e])]
          refine ih I2 rr hf' fun s' r' I' h1 h2 => ?_
          cases b with
          | false =>
            cases h1 rfl
            exact q s' _ I' (fun _ => rfl) fun z => nomatch z
          | true =>
            obtain ⟨bs, rfl, cr⟩ := h2 rfl
            exact q s' _ I' (fun z => nomatch z) fun _ => ⟨bs, rfl, cr⟩
        · rw [if_neg e] at hf'
          cases hf'
          rw [decide_eq_false (fun q => e (by injection q))]
          exact q s2 _ I2 (fun _ => rfl) fun z => nomatch z
      | _ => cases hf
  | @cap x i p r0 l0 hN hi hx hfn hr ih =>
    intro vs us b pins s σ H Q I r hf q
    cases r with
    | nil => cases hf
    | @cons v u vr ur rv rr =>
      have hf' : fit l0 vr = some b := hf
      refine wpAny_matchEach_cons (wpAny_matchPattern_Capture ?_)
      refine ih I rr hf' fun s' r' I' h1 h2 => ?_
      cases b with
      | false =>
        cases h1 rfl
        exact q s' _ I' (fun _ => rfl) fun z => nomatch z
      | true =>
        obtain ⟨bs, rfl, cr⟩ := h2 rfl
        exact q s' _ I' (fun z => nomatch z) fun _ => ⟨_, rfl, .cons hN hi hx hfn rv cr⟩
  | @any p r0 l0 hr ih =>
    intro vs us b pins s σ H Q I r hf q
    cases r with
    | nil => cases hf
    | @cons v u vr ur rv rr =>
      have hf' : fit l0 vr = some b := hf
      refine wpAny_matchEach_cons (wpAny_matchPattern_Capture ?_)
      refine ih I rr hf' fun s' r' I' h1 h2 => ?_
      cases b with
      | false =>
        cases h1 rfl
        exact q s' _ I' (fun _ => rfl) fun z => nomatch z
      | true =>
        obtain ⟨bs, rfl, cr⟩ := h2 rfl
        exact q s' _ I' (fun z => nomatch z) fun _ => ⟨_, rfl, cr⟩
/-- one pattern over a tuple -/
theorem seq_ok {ps : List Pattern} {ls : List Pl} {pos : Pos} (hc : X.calm = true) (h : PMs X ps ls) (hw : (ps.all fun p => p.isWildcard || (p.isStar && p.names.isEmpty)) = false) {a : Addr} {xs : List V} {b : Bool} {pins : List (Addr × Obj)} {s : Shared} {σ : St} {H : Hp} {Q : Option (List (Str × Value)) → Shared → Prop}
    (I : Inv X pins σ H s) (hq : SqT X.K H a xs) (hl : xs.length ≤ 1000) (hf : fitA ls xs = some b)
    (q : ∀ s' r, Inv X pins σ H s' → (b = false → r = none) → (b = true → ∃ bs, r = some bs ∧ CapR X (caps ls xs) bs) → Q r s') : wpAny (model X.prog X.w) X.A (matchPattern (.MatchSequence ps pos) X.env (.ref a)) Q X.xe s := by
  obtain ⟨its, rv, ht, hz⟩ := I.tuple hq
  have hfit : (its.toArray.size : Int) < 2 ^ 63 := by
    have := rv.length
    simp only [List.size_toArray]
    omega
  have el : its.toArray.size = xs.length := by simp only [List.size_toArray]; exact rv.length.symm
  refine wpAny_matchPattern_Sequence (wpAny_collectionFlag ht.typeIs flag_seq_tuple ?_) h.star hw
  rw [if_pos rfl]
  refine pyLen_tuple ht hfit ?_
  have I1 : Inv X pins σ H { s with toks := s.toks + 1 + 1 } := I.kept (t' := s.toks + 1 + 1) fun b o e => e
  by_cases e : ls.length = xs.length
  · have ep : its.toArray.size = ps.length := by rw [el, ← e, h.len]
    rw [if_neg (by simp only [ep]; simp)]
    have hf' : fit ls xs = some b := by unfold fitA at hf; rw [if_pos e] at hf; exact hf
    rw [← ep]
    refine unpackItems_tuple (I.ok.hd hc) (show IsTup _ a its.toArray from ht) fun h' hx => ?_
    have I2 : Inv X pins σ H { s with heap := h', toks := s.toks + 1 + 1 } := I.kept (t' := s.toks + 1 + 1) fun b o e => hx b o (Nat.ne_of_lt (Heap.lt_size e)) e
    exact each_ok h I2 (by simpa using rv) hf' q
  · rw [if_pos (by simp only [el]; rw [h.len]; simp; omega)]
    have hf' : b = false := by
      unfold fitA at hf
      rw [if_neg e] at hf
      exact (Option.some.inj hf).symm
    exact q _ _ I1 (fun _ => rfl) fun z => by rw [hf'] at z; cases z
theorem assign_caps : ∀ {l : List (Nat × V)} {bs : List (Str × Value)} {pins : List (Addr × Obj)} {s : Shared} {σ : St} {H : Hp} {Q : St → Hp → Prop}, CapR X l bs → Inv X pins σ H s → tCap l σ H Q →
    wpAny (model X.prog X.w) X.A (assignInOrder (bs.map fun (n, _) => bindName X.env n) (bs.map (·.2))) (fun _ s' => ∃ σ' H', Inv X pins σ' H' s' ∧ Q σ' H') X.xe s
  | _, _, pins, s, σ, H, Q, .nil, I, h => wpAny_assignInOrder_none ⟨σ, H, I, h⟩
  | _, _, pins, s, σ, H, Q, .cons hN hi hx hf r c, I, h => by
    refine wpAny_assignInOrder_more (wpAny_bindName (store_ok I hN hi hx r (fun s' I' => ?_) hf))
    exact assign_caps c I' h
inductive PMss (X : Cx) : List Pattern → List (List Pl) → Prop
  | nil : PMss X [] []
  | cons {ps : List Pattern} {pos : Pos} {ls : List Pl} {r : List Pattern} {l : List (List Pl)} (h : PMs X ps ls) (hw : (ps.all fun p => p.isWildcard || (p.isStar && p.names.isEmpty)) = false) : PMss X r l → PMss X (.MatchSequence ps pos :: r) (ls :: l)
theorem first_ok (hc : X.calm = true) {pts : List Pattern} {lss : List (List Pl)} (h : PMss X pts lss) {a : Addr} {xs : List V} : ∀ {b : Bool} {pins : List (Addr × Obj)} {s : Shared} {σ : St} {H : Hp} {Q : Option (List (Str × Value)) → Shared → Prop},
    Inv X pins σ H s → SqT X.K H a xs → xs.length ≤ 1000 → fitO lss xs = some b → (∀ s' r, Inv X pins σ H s' → (b = false → r = none) → (b = true → ∃ bs, r = some bs) → Q r s') → wpAny (model X.prog X.w) X.A (matchFirst pts X.env (.ref a)) Q X.xe s := by
  induction h with
  | nil =>
    intro b pins s σ H Q I hq hl hf q
    cases hf
    exact wpAny_matchFirst_nil (q s _ I (fun _ => rfl) fun z => nomatch z)
  | @cons ps pos ls r l h hw hr ih =>
    intro b pins s σ H Q I hq hl hf q
    refine wpAny_matchFirst_cons ?_
    have hf' : (match fitA ls xs with | some true => some true | some false => fitO l xs | none => none) = some b := hf
    cases e : fitA ls xs with
    | none => rw [e] at hf'; cases hf'
    | some b1 =>
      rw [e] at hf'
      refine seq_ok hc h hw I hq hl e fun s' r' I' h1 h2 => ?_
      cases b1 with
      | false =>
        cases h1 rfl
        exact ih I' hq hl hf' q
      | true =>
        obtain ⟨bs, rfl, _⟩ := h2 rfl
        cases hf'
        exact q s' _ I' (fun z => nomatch z) fun _ => ⟨_, rfl⟩
inductive PCq (X : Cx) : List MatchCase → List (Pt × TS) → Prop
  | nil : PCq X [] []
  | rest {body : List Stmt} {t : TS} {p : Pos} {r : List MatchCase} : PSs X body t → PCq X (⟨.MatchAs none none p, none, body⟩ :: r) [(.rest, t)]
  | seq {body : List Stmt} {t : TS} {ps : List Pattern} {ls : List Pl} {p : Pos} {r : List MatchCase} {l : List (Pt × TS)} (h : PMs X ps ls) (hb : PSs X body t) (hr : PCq X r l) (hw : (ps.all fun p => p.isWildcard || (p.isStar && p.names.isEmpty)) = false := by rfl) :
      PCq X (⟨.MatchSequence ps p, none, body⟩ :: r) ((.seq ls, t) :: l)
  | ors {body : List Stmt} {t : TS} {ps : List Pattern} {lss : List (List Pl)} {p : Pos} {r : List MatchCase} {l : List (Pt × TS)} (h : PMss X ps lss) (hb : PSs X body t) (hr : PCq X r l) (hn : namesOfAll (ps.take 1) = [] := by rfl) :
      PCq X (⟨.MatchOr ps p, none, body⟩ :: r) ((.ors lss, t) :: l)
theorem run_casesQ (hc : X.calm = true) {a : Addr} {xs : List V} (hl : xs.length ≤ 1000) {cs : List MatchCase} {l : List (Pt × TS)} (h : PCq X cs l) : ∀ (first : Bool) (pins : List (Addr × Obj)) (s : Shared) (σ : St) (H : Hp) (D : Ends), Inv X pins σ H s → SqT X.K H a xs → tCasesQ xs l D σ H →
    wpAny (model X.prog X.w) X.A (matchCases cs X.env (.ref a) first) (SP X pins D) X.xe s := by
  induction h with
  | nil => exact fun first pins s σ H D I hq h => wpAny_matchCases_nil ⟨σ, H, I, h⟩
  | rest hb =>
    intro first pins s σ H D I hq h
    refine wpAny_matchCases_cons (wpAny_matchPattern_Capture ?_)
    exact wpAny_assignInOrder_none (hb.run pins s σ H D I h)
  | @seq body t ps ls p r l hp hb hr hw ih =>
    intro first pins s σ H D I hq h
    obtain ⟨b, hf, h⟩ := h
    refine wpAny_matchCases_cons (seq_ok hc hp hw I hq hl hf fun s' r' I' h1 h2 => ?_)
    cases b with
    | false =>
      cases h1 rfl
      rw [if_neg (by simp)] at h
      exact ih false pins s' σ H D I' hq h
    | true =>
      obtain ⟨bs, rfl, cr⟩ := h2 rfl
      rw [if_pos rfl] at h
      refine thn (assign_caps cr I' (tBnd_caps _ _ _ _ _ h)) fun _ s1 hh => ?_
      obtain ⟨σ', H', I2, q⟩ := hh
      exact hb.run pins s1 σ' H' D I2 q
  | @ors body t ps lss p r l hp hb hr hn ih =>
    intro first pins s σ H D I hq h
    obtain ⟨b, hf, h⟩ := h
    refine wpAny_matchCases_cons (wpAny_matchPattern_Or (first_ok hc hp I hq hl hf fun s' r' I' h1 h2 => ?_))
    cases b with
    | false =>
      cases h1 rfl
      rw [if_neg (by simp)] at h
      exact ih false pins s' σ H D I' hq h
    | true =>
      obtain ⟨bs, rfl⟩ := h2 rfl
      rw [if_pos rfl] at h
      show wpAny _ _ (assignInOrder (((namesOfAll (ps.take 1)).filterMap fun n => (bs.lookup n).map (n, ·)).map _) _) _ _ _
      rw [hn]
      exact wpAny_assignInOrder_none (hb.run pins s' σ H D I' h)
theorem ps_matchQ {e : Expr} {te : TE} {cs : List MatchCase} {l : List (Pt × TS)} {pos : Pos} (hc : X.calm = true) (he : PE X e te) (hp : PCq X cs l) : PS X (.Match e cs pos) (tMatchQ X.K te l) := by
  refine ⟨fun pins s σ H D I h => wpAny_Match ?_⟩
  refine thn (he.run pins s σ H _ I h) fun u s1 hh => ?_
  obtain ⟨x, H1, I1, rx, a, xs, ex, hq, hl, hz⟩ := hh
  subst ex
  cases rx
  exact run_casesQ hc hl hp true pins s1 σ H1 D I1 hq hz
end
/-! ### match over texts with several of them -/
def tCasesO (z : Str) : List (Option (List Str) × TS) → TS
  | [] => fun D σ H => D.nx σ H
  | (none, t) :: _ => t
  | (some cs, t) :: r => fun D σ H => if z ∈ cs then t D σ H else tCasesO z r D σ H
def tMatchO (te : TE) (l : List (Option (List Str) × TS)) : TS := fun D σ H => te σ H fun x H1 => ∃ z : Str, x = .str z ∧ tCasesO z l D σ H1
inductive PVs (X : Cx) : List Pattern → List Str → Prop
  | nil : PVs X [] []
  | cons {c : Str} {j : Nat} {p p2 : Pos} {r : List Pattern} {l : List Str} : PVs X r l → PVs X (.MatchValue (.Constant (.str c) j p) p2 :: r) (c :: l)
inductive PCo (X : Cx) : List MatchCase → List (Option (List Str) × TS) → Prop
  | nil : PCo X [] []
  | rest {body : List Stmt} {t : TS} {p : Pos} {r : List MatchCase} : PSs X body t → PCo X (⟨.MatchAs none none p, none, body⟩ :: r) [(none, t)]
  | text {body : List Stmt} {t : TS} {c : Str} {j : Nat} {p p2 : Pos} {r : List MatchCase} {l : List (Option (List Str) × TS)} : PSs X body t → PCo X r l →
      PCo X (⟨.MatchValue (.Constant (.str c) j p) p2, none, body⟩ :: r) ((some [c], t) :: l)
  | ors {body : List Stmt} {t : TS} {ps : List Pattern} {cs : List Str} {p : Pos} {r : List MatchCase} {l : List (Option (List Str) × TS)} (h : PVs X ps cs) (hb : PSs X body t) (hr : PCo X r l) (hn : namesOfAll (ps.take 1) = [] := by rfl) :
      PCo X (⟨.MatchOr ps p, none, body⟩ :: r) ((some cs, t) :: l)
section
variable {X : Cx}
theorem val_ok {c z : Str} {u : Value} (ru : RelV (.str z) u) {j : Nat} {p p2 : Pos} {pins : List (Addr × Obj)} {s : Shared} {σ : St} {H : Hp} {Q : Option (List (Str × Value)) → Shared → Prop} (I : Inv X pins σ H s)
    (q : ∀ s', Inv X pins σ H s' → Q (if z = c then some [] else none) s') : wpAny (model X.prog X.w) X.A (matchPattern (.MatchValue (.Constant (.str c) j p) p2) X.env u) Q X.xe s := by
  refine wpAny_matchPattern_Value ?_
  refine thn ((pe_str (X := X) (x := c)).run pins s σ H (fun v H' => v = .str c ∧ H' = H) I ⟨rfl, rfl⟩) fun v s1 hh => ?_
  obtain ⟨x, H1, I1, rx, ex, eH⟩ := hh
  subst ex
  subst eH
  refine thn (op_eq pins s1 σ H1 (.str z) (.str c) u v (fun y H' => y = .bl (decide (V.str z = V.str c)) ∧ H' = H1) I1 ru rx ⟨rfl, rfl, rfl⟩) fun y s2 hh => ?_
  obtain ⟨x, H2, I2, rx2, ex, eH⟩ := hh
  subst ex
  subst eH
  cases rx2
  refine wpAny_truthy_bool ?_
  have q2 := q s2 I2
  by_cases e : z = c
  · rw [if_pos e] at q2
    rw [decide_eq_true (by rw [e])]
    exact q2
  · rw [if_neg e] at q2
    rw [decide_eq_false (fun q => e (by injection q))]
    exact q2
theorem vals_ok {z : Str} {u : Value} (ru : RelV (.str z) u) {ps : List Pattern} {cs : List Str} (h : PVs X ps cs) : ∀ {pins : List (Addr × Obj)} {s : Shared} {σ : St} {H : Hp} {Q : Option (List (Str × Value)) → Shared → Prop}, Inv X pins σ H s →
    (∀ s', Inv X pins σ H s' → Q (if z ∈ cs then some [] else none) s') → wpAny (model X.prog X.w) X.A (matchFirst ps X.env u) Q X.xe s := by
  induction h with
  | nil =>
    intro pins s σ H Q I q
    have q2 := q s I
    rw [if_neg List.not_mem_nil] at q2
    exact wpAny_matchFirst_nil q2
  | @cons c j p p2 r l hr ih =>
    intro pins s σ H Q I q
    refine wpAny_matchFirst_cons (val_ok ru I fun s' I' => ?_)
    by_cases e : z = c
    · rw [if_pos e]
      have q2 := q s' I'
      rw [if_pos (by rw [e]; exact List.mem_cons_self ..)] at q2
      exact q2
    · rw [if_neg e]
      refine ih I' fun s2 I2 => ?_
      have q2 := q s2 I2
      by_cases m : z ∈ l
      · rw [if_pos m]
        rw [if_pos (List.mem_cons_of_mem _ m)] at q2
        exact q2
      · rw [if_neg m]
        rw [if_neg (fun w => (List.mem_cons.mp w).elim e m)] at q2
        exact q2
theorem run_casesO {z : Str} {u : Value} (ru : RelV (.str z) u) {cs : List MatchCase} {l : List (Option (List Str) × TS)} (h : PCo X cs l) : ∀ (first : Bool) (pins : List (Addr × Obj)) (s : Shared) (σ : St) (H : Hp) (D : Ends), Inv X pins σ H s → tCasesO z l D σ H →
    wpAny (model X.prog X.w) X.A (matchCases cs X.env u first) (SP X pins D) X.xe s := by
  induction h with
  | nil => exact fun first pins s σ H D I h => wpAny_matchCases_nil ⟨σ, H, I, h⟩
  | rest hb =>
    intro first pins s σ H D I h
    refine wpAny_matchCases_cons (wpAny_matchPattern_Capture ?_)
    exact wpAny_assignInOrder_none (hb.run pins s σ H D I h)
  | @text body t c j p p2 r l hb hr ih =>
    intro first pins s σ H D I h
    refine wpAny_matchCases_cons (val_ok ru I fun s' I' => ?_)
    have h' : (if z ∈ [c] then t D σ H else tCasesO z l D σ H) := h
    by_cases e : z = c
    · rw [if_pos e]
      rw [if_pos (List.mem_singleton.mpr e)] at h'
      exact wpAny_assignInOrder_none (hb.run pins s' σ H D I' h')
    · rw [if_neg e]
      rw [if_neg (fun w => e (List.mem_singleton.mp w))] at h'
      exact ih false pins s' σ H D I' h'
  | @ors body t ps cs p r l hp hb hr hn ih =>
    intro first pins s σ H D I h
    refine wpAny_matchCases_cons (wpAny_matchPattern_Or (vals_ok ru hp I fun s' I' => ?_))
    have h' : (if z ∈ cs then t D σ H else tCasesO z l D σ H) := h
    by_cases e : z ∈ cs
    · rw [if_pos e]
      rw [if_pos e] at h'
      show wpAny _ _ (assignInOrder (((namesOfAll (ps.take 1)).filterMap fun n => (([] : List (Str × Value)).lookup n).map (n, ·)).map _) _) _ _ _
      rw [hn]
      exact wpAny_assignInOrder_none (hb.run pins s' σ H D I' h')
    · rw [if_neg e]
      rw [if_neg e] at h'
      exact ih false pins s' σ H D I' h'
theorem ps_matchO {e : Expr} {te : TE} {cs : List MatchCase} {l : List (Option (List Str) × TS)} {pos : Pos} (he : PE X e te) (hp : PCo X cs l) : PS X (.Match e cs pos) (tMatchO te l) := by
  refine ⟨fun pins s σ H D I h => wpAny_Match ?_⟩
  refine thn (he.run pins s σ H _ I h) fun u s1 hh => ?_
  obtain ⟨x, H1, I1, rx, z, ez, hz⟩ := hh
  subst ez
  exact run_casesO rx hp true pins s1 σ H1 D I1 hz
end
end L2
namespace Rd
open PySem PySem.Spec PyProof.Rows L2
variable {K : PySem.W.Frag} {σ : L2.St} {H : Hp} {D : Ends} {te : TE} {t : TS} {v : V} {vs xs : List V} {ps : List Pl} {pss : List (List Pl)} {r : List (Pt × TS)} {z c : Str}
theorem mtq {l : List (Pt × TS)} (h : te σ H fun x H1 => ∃ a xs, x = .ref a ∧ SqT K H1 a xs ∧ xs.length ≤ 1000 ∧ tCasesQ xs l D σ H1) : tMatchQ K te l D σ H := h
theorem mtqI {a : Addr} {l : List (Pt × TS)} (h : SqT K H a xs) (hl : xs.length ≤ 1000) (q : tCasesQ xs l D σ H) : ∃ a' xs, V.ref a = .ref a' ∧ SqT K H a' xs ∧ xs.length ≤ 1000 ∧ tCasesQ xs l D σ H := ⟨a, xs, rfl, h, hl, q⟩
theorem mtRest {r : List (Pt × TS)} (h : t D σ H) : tCasesQ xs ((.rest, t) :: r) D σ H := h
theorem mtEnd (h : D.nx σ H) : tCasesQ xs [] D σ H := h
/-- another length -/
theorem mtLen (e : (ps.length == xs.length) = false) (h : tCasesQ xs r D σ H) : tCasesQ xs ((.seq ps, t) :: r) D σ H :=
  ⟨false, by unfold fitA; rw [if_neg (by simpa using e)], if_f rfl h⟩
/-- another word in the first place -/
theorem mtNo (e : z ≠ c) (h : tCasesQ (.str z :: xs) r D σ H) : tCasesQ (.str z :: xs) ((.seq (.txt c :: ps), t) :: r) D σ H :=
  ⟨false, (by
    unfold fitA
    by_cases l : (Pl.txt c :: ps).length = (V.str z :: xs).length
    · rw [if_pos l]; show (if z = c then _ else _) = _; rw [if_neg e]
    · rw [if_neg l]), if_f rfl h⟩
theorem mtNo2 (e : z ≠ c) (h : tCasesQ (v :: .str z :: xs) r D σ H) : tCasesQ (v :: .str z :: xs) ((.seq (.any :: .txt c :: ps), t) :: r) D σ H :=
  ⟨false, (by
    unfold fitA
    by_cases l : (Pl.any :: Pl.txt c :: ps).length = (v :: V.str z :: xs).length
    · rw [if_pos l]; show (if z = c then _ else _) = _; rw [if_neg e]
    · rw [if_neg l]), if_f rfl h⟩
/-- it fits: the same word, the rest any -/
theorem mtYes (e : fitA ps xs = some true) (h : tBnd ps xs σ H (fun σ' H' => t D σ' H')) : tCasesQ (.str c :: xs) ((.seq (.txt c :: ps), t) :: r) D σ H :=
  ⟨true, (by
    unfold fitA at e ⊢
    by_cases l : ps.length = xs.length
    · rw [if_pos l] at e
      rw [if_pos (show (Pl.txt c :: ps).length = (V.str c :: xs).length from congrArg Nat.succ l)]
      show (if c = c then fit ps xs else _) = _
      rw [if_pos rfl]; exact e
    · rw [if_neg l] at e; cases e), if_t rfl h⟩
theorem mtFit (e : fitA ps xs = some true) (h : tBnd ps xs σ H (fun σ' H' => t D σ' H')) : tCasesQ xs ((.seq ps, t) :: r) D σ H := ⟨true, e, if_t rfl h⟩
theorem mtOY (e : fitO pss xs = some true) (h : t D σ H) : tCasesQ xs ((.ors pss, t) :: r) D σ H := ⟨true, e, if_t rfl h⟩
theorem mtON (e : fitO pss xs = some false) (h : tCasesQ xs r D σ H) : tCasesQ xs ((.ors pss, t) :: r) D σ H := ⟨false, e, if_f rfl h⟩
theorem tbC {i : Nat} {Q : L2.St → Hp → Prop} (h : gName i v σ H fun σ' H' => tBnd ps vs σ' H' Q) : tBnd (.cap i :: ps) (v :: vs) σ H Q := h
theorem tbT {Q : L2.St → Hp → Prop} (h : tBnd ps vs σ H Q) : tBnd (.txt c :: ps) (v :: vs) σ H Q := h
theorem tbA {Q : L2.St → Hp → Prop} (h : tBnd ps vs σ H Q) : tBnd (.any :: ps) (v :: vs) σ H Q := h
theorem tbN {Q : L2.St → Hp → Prop} (h : Q σ H) : tBnd [] [] σ H Q := h
theorem mto {l : List (Option (List Str) × TS)} (h : te σ H fun x H1 => ∃ z : Str, x = .str z ∧ tCasesO z l D σ H1) : tMatchO te l D σ H := h
theorem mtoI {l : List (Option (List Str) × TS)} (q : tCasesO z l D σ H) : ∃ z' : Str, V.str z = .str z' ∧ tCasesO z' l D σ H := ⟨z, rfl, q⟩
theorem moRest {r : List (Option (List Str) × TS)} (h : t D σ H) : tCasesO z ((none, t) :: r) D σ H := h
theorem moEnd (h : D.nx σ H) : tCasesO z [] D σ H := h
theorem moY {cs : List Str} {r : List (Option (List Str) × TS)} (e : z ∈ cs) (h : t D σ H) : tCasesO z ((some cs, t) :: r) D σ H := by
  show (if z ∈ cs then _ else _)
  rw [if_pos e]; exact h
theorem moN {cs : List Str} {r : List (Option (List Str) × TS)} (e : z ∉ cs) (h : tCasesO z r D σ H) : tCasesO z ((some cs, t) :: r) D σ H := by
  show (if z ∈ cs then _ else _)
  rw [if_neg e]; exact h
end Rd
namespace Rd
open PySem PySem.Spec PyProof.Rows L2
theorem inV_strT (x : Str) (r : List Str) : inV (.str x) (r.map V.str) = decide (x ∈ r) := by
  unfold inV
  rw [List.any_map]
  by_cases h : x ∈ r
  · rw [decide_eq_true h, List.any_eq_true]
    exact ⟨x, h, beq_self_eq_true x⟩
  · rw [decide_eq_false h, List.any_eq_false]
    intro y hy e
    have e2 : (y == x) = true := e
    rw [beq_iff_eq] at e2
    exact h (e2 ▸ hy)
theorem flat_strT : ∀ r : List Str, (r.map V.str).all flatV = true
  | [] => rfl
  | _ :: r => flat_strT r
/-- a text in a tuple of texts -/
theorem inStrT {K : PySem.W.Frag} {H : Hp} {Q : VK} {p : Addr} (ns : List Str) {n : Str} (h : SqT K H p (ns.map V.str)) (q : Q (.bl (decide (n ∈ ns))) H) : rIn K false (.str n) (.ref p) H Q :=
  ⟨p, _, rfl, .inr h, rfl, flat_strT _, by rw [inV_strT]; exact q⟩
end Rd

set_option Elab.async false
set_option linter.all false
set_option maxRecDepth 100000
/-! calls with keywords: pieces of their values; C(k = v, ..) within a try -/
namespace L2
open PySem PySem.Spec PyProof.Rows
open PySem.W (Looks)
theorem looks_for {α β : Type} {M : Model} {h : Heap} {f : α → β → Sem (ForInStep β)} (I : List α → β → Prop) {last : β} (end_ : ∀ b, I [] b → b = last) (step : ∀ a l b, I (a :: l) b → ∃ b', Looks M h (f a b) (.yield b') ∧ I l b') : ∀ (l : List α) (b : β), I l b → Looks M h (forIn l b f) last
  | [], b, i => by
    rw [List.forIn_nil, end_ b i]
    exact .now
  | a :: l, b, i => by
    obtain ⟨b', h1, h2⟩ := step a l b i
    rw [List.forIn_cons]
    exact h1.andThen (looks_for I end_ step l b' h2)
theorem lookup_some {β : Type} (k : Str) : ∀ (l : List (Str × β)), (l.lookup k).isSome = (l.map (·.1)).contains k
  | [] => rfl
  | (a, v) :: l => by
    rw [List.lookup_cons, List.map_cons, List.contains_cons, ← lookup_some k l]
    cases e : k == a <;> simp
theorem bind_kw {M : Model} {K : PySem.W.Frag} {h : Heap} {x qual : Str} {params : Arguments} {body : List Stmt} {scope : Scope} {D : Addr} {doc pm : Value} {an : Option Addr} {cdv ct : Value} {us : List Value} {kw ms : List (Str × Value)} {r : List (Str × Value)}
    {normal kwonly ks : List Str} (X : K.In h) (h1 : params.posonlyargs = []) (h2 : params.vararg = none) (h3 : params.kwarg = none) (h4 : params.args.map (·.arg) = normal) (h5 : params.kwonlyargs.map (·.arg) = kwonly) (e0 : us.length = normal.length) (e1 : kw.map (·.1) = ks)
    (hk : (ks.all fun k => kwonly.contains k) = true) (hnd : (normal ++ ks).Nodup) (hms : ms.map (·.1) = kwonly.filter fun n => !(normal ++ ks).contains n) (hkd : kwonly.Nodup) (hD : ∀ q ∈ ms, PySem.W.nsIn K D q.1 = some (some q.2))
    (hr : (normal ++ kwonly).filterMap (fun n => ((normal.zip us ++ kw ++ ms).lookup n).map (n, ·)) = r) :
    PySem.W.Looks M h (bindArgs (PySem.W.fnOf x qual params body scope .none (.ref D) doc pm an cdv ct) ⟨us, kw⟩) r := by
  have kz : (normal.zip us).map (·.1) = normal := by
    rw [List.map_fst_zip]
    omega
  unfold bindArgs
  simp only [PySem.W.fnOf, h1, h2, h3, List.map_nil, List.nil_append, Option.isNone_none, Option.isSome_none, h4, h5]
  refine Looks.andThen (a := (normal.zip us ++ kw, [])) (looks_for (fun l b => ∃ d, b = (normal.zip us ++ d, []) ∧ d ++ l = kw) (fun b ⟨d, e, e2⟩ => by rw [e, ← e2, List.append_nil]) (fun a l b ⟨d, e, e2⟩ => ?_) _ _ ⟨[], by rw [List.append_nil], rfl⟩) ?_
  rotate_left
  · subst e
    refine ⟨(normal.zip us ++ (d ++ [a]), []), ?_, d ++ [a], rfl, by rw [← e2, List.append_assoc]; rfl⟩
    have ma : a.1 ∈ ks := by rw [← e1, ← e2]; simp
    have c1 : kwonly.contains a.1 = true := (List.all_eq_true.mp hk) _ ma
    have c2 : ((normal.zip us ++ d).lookup a.1).isSome = false := by
      rw [lookup_some, List.map_append, kz]
      rw [← e1, ← e2, List.map_append, List.map_cons] at hnd
      have := (List.nodup_append.mp hnd)
      cases e : (normal ++ d.map (·.1)).contains a.1 with
      | false => rfl
      | true =>
        exfalso
        rw [List.contains_iff_mem, List.mem_append] at e
        rcases e with e | e
        · exact this.2.2 _ e _ (by simp) rfl
        · exact (List.nodup_append.mp this.2.1).2.2 _ e _ (by simp) rfl
    rw [c1, Bool.or_true, if_pos rfl]
    simp only [c2, Bool.false_eq_true, if_false]
    rw [← List.append_assoc]
    exact .now
  · refine Looks.andThen (a := none) .now ?_
    have g1 : ¬ ((decide (us.length > normal.length) && true) = true) := by rw [e0]; simp
    have g0 : ((none : Option (Array Value)).getD #[]).toList = [] := rfl
    simp only [g0, List.length_nil, List.drop_nil, Nat.sub_zero, List.zip_nil_right, if_neg g1]
    have g2 : (normal.take normal.length).filter (fun n => ((normal.zip us ++ kw).lookup n).isNone) = [] := by
      rw [List.filter_eq_nil_iff]
      intro n hn
      rw [List.take_length] at hn
      have : ((normal.zip us ++ kw).lookup n).isSome = true := by
        rw [lookup_some, List.map_append, kz]
        rw [List.contains_iff_mem]
        exact List.mem_append.mpr (.inl hn)
      rw [Option.isNone_iff_eq_none]
      intro z
      rw [z] at this
      cases this
    rw [g2]
    simp only [List.isEmpty_nil, Bool.not_true, Bool.false_eq_true, if_false]
    rw [List.forIn_nil, pure_bind]
    refine Looks.andThen (a := (normal.zip us ++ kw ++ ms, [])) (looks_for (fun l b => ∃ d k, d ++ l = kwonly ∧ b = (normal.zip us ++ kw ++ ms.take k, []) ∧ (ms.take k).map (·.1) = d.filter (fun n => !(normal ++ ks).contains n) ∧ (ms.drop k).map (·.1) = l.filter (fun n => !(normal ++ ks).contains n))
      (fun b ⟨d, k, e, e2, e3, e4⟩ => ?_) (fun a l b ⟨d, k, e, e2, e3, e4⟩ => ?_) _ _ ⟨[], 0, rfl, by rw [List.take_zero, List.append_nil], rfl, by rw [List.drop_zero]; exact hms⟩) ?_
    rotate_left
    · have : ms.drop k = [] := by
        have := congrArg List.length e4
        rw [List.length_map, List.filter_nil] at this
        exact List.eq_nil_of_length_eq_zero this
      rw [e2, show ms.take k = ms from by
        have h := List.take_append_drop k ms
        rw [this, List.append_nil] at h
        exact h]
    · subst e2
      have md : a ∉ d := fun m => by
        rw [← e] at hkd
        exact (List.nodup_append.mp hkd).2.2 a m a (List.mem_cons_self ..) rfl
      have ek : ((normal.zip us ++ kw ++ ms.take k).lookup a).isSome = (normal ++ ks).contains a := by
        rw [lookup_some, List.map_append, List.map_append, kz, e1, e3]
        rw [Bool.eq_iff_iff, List.contains_iff_mem, List.contains_iff_mem, List.mem_append, List.mem_filter]
        constructor
        · rintro (h | h)
          · exact h
          · exact absurd h.1 md
        · exact fun h => .inl h
      rw [List.filter_cons] at e4
      cases c : (normal ++ ks).contains a with
      | true =>
        rw [c] at ek e4
        refine ⟨_, ?_, d ++ [a], k, by rw [← e, List.append_assoc]; rfl, rfl, by rw [e3, List.filter_append, List.filter_cons, c]; simp, e4⟩
        have e0 : ((normal.zip us ++ kw ++ ms.take k).lookup a).isNone = false := by
          cases z : (normal.zip us ++ kw ++ ms.take k).lookup a with
          | none => rw [z] at ek; cases ek
          | some _ => rfl
        simp only [e0, Bool.false_eq_true, if_false]
        exact .now
      | false =>
        rw [c] at ek e4
        rw [Bool.not_false, if_pos rfl] at e4
        have e0 : ((normal.zip us ++ kw ++ ms.take k).lookup a).isNone = true := by
          cases z : (normal.zip us ++ kw ++ ms.take k).lookup a with
          | none => rfl
          | some _ => rw [z] at ek; cases ek
        obtain ⟨q, hq⟩ : ∃ q, ms[k]? = some q := by
          cases z : ms[k]? with
          | some q => exact ⟨q, rfl⟩
          | none =>
            rw [List.drop_eq_nil_of_le (List.getElem?_eq_none_iff.mp z)] at e4
            cases e4
        have hk' := (List.getElem?_eq_some_iff.mp hq).1
        have hqe := (List.getElem?_eq_some_iff.mp hq).2
        have ed : ms.drop k = q :: ms.drop (k + 1) := by rw [List.drop_eq_getElem_cons hk', hqe]
        have et : ms.take (k + 1) = ms.take k ++ [q] := by rw [List.take_succ, hq]; rfl
        rw [ed, List.map_cons] at e4
        injection e4 with e5 e6
        have hn := hD q (List.mem_of_getElem? hq)
        refine ⟨(normal.zip us ++ kw ++ ms.take (k + 1), []), ?_, d ++ [a], k + 1, by rw [← e, List.append_assoc]; rfl, rfl, by rw [et, List.map_append, e3, List.filter_append, List.filter_cons, c, e5.symm]; simp, e6⟩
        simp only [e0, if_true]
        refine Looks.andThen (PySem.W.looks_nsIn X (e5 ▸ hn)) ?_
        rw [et, ← List.append_assoc, show [q] = [(a, q.2)] from by rw [← e5]]
        exact .now
    · simp only [List.isEmpty_nil, Bool.not_true, Bool.false_eq_true, if_false]
      rw [hr]
      exact .now
/-- a call with keywords of a def without defaults but keyword-only ones -/
theorem kbn_mk {K : PySem.W.Frag} {x qual : Str} {params : Arguments} {body : List Stmt} {scope : Scope} {kws : List (Str × V)} {f : Addr} {fd : FuncData} (F : FunD K x qual params body scope [] kws f fd) (hk : kws ≠ [])
    {normal kwonly ks : List Str} (ms : List (Str × V)) (g : {α : Type} → List α → List α → List α → List α) (hm : ∀ q ∈ ms, q ∈ kws)
    (h1 : params.posonlyargs = []) (h2 : params.vararg = none) (h3 : params.kwarg = none) (h4 : params.args.map (·.arg) = normal) (h5 : params.kwonlyargs.map (·.arg) = kwonly)
    (hks : (ks.all fun k => kwonly.contains k) = true) (hnd : (normal ++ ks).Nodup) (hms : ms.map (·.1) = kwonly.filter fun n => !(normal ++ ks).contains n) (hkd : kwonly.Nodup)
    (hrel : ∀ {vs mz zs : List V} {us mv ws : List Value}, Vals vs us → Vals mz mv → Vals zs ws → Vals (g vs mz zs) (g us mv ws))
    (hr : ∀ us mv ws : List Value, us.length = normal.length → mv.length = ms.length → ws.length = ks.length →
      (normal ++ kwonly).filterMap (fun n => ((normal.zip us ++ ks.zip ws ++ (ms.map (·.1)).zip mv).lookup n).map (n, ·)) = (normal ++ kwonly).zip (g us mv ws)) :
    ∃ mv : List Value, KBn K fd (normal ++ kwonly) normal.length ks (fun us ws => g us mv ws) (fun vs zs => g vs (ms.map (·.2)) zs) := by
  obtain ⟨oc, od, dV, kV, doc, pm, an, cdv, ct, osl, rfl, lk, hcd, hD, hK⟩ := F.ex
  rcases hD with ⟨_, rfl⟩ | ⟨e, _⟩
  · rcases hK with e | ⟨D, rfl, hq⟩
    · exact absurd e hk
    · obtain ⟨mv, hl, rk, hv⟩ := kwd_vals (ms := ms) fun q h => hq q (hm q h)
      refine ⟨mv, ⟨fun s us ws X l1 l2 => BindsTo.of_looks fun M => bind_kw X h1 h2 h3 h4 h5 l1 ?_ hks hnd (ms := (ms.map (·.1)).zip mv) ?_ hkd hv (hr us mv ws l1 hl l2), fun r1 r2 => hrel r1 rk r2⟩⟩
      · rw [List.map_fst_zip]; omega
      · rw [List.map_fst_zip, hms]; rw [List.length_map]; omega
  · exact absurd rfl e
theorem _root_.L2.Vals.tk : ∀ {xs : List V} {us : List Value}, Vals xs us → ∀ (n : Nat), Vals (xs.take n) (us.take n)
  | _, _, .nil, n => by rw [List.take_nil, List.take_nil]; exact .nil
  | _, _, .cons _ _, 0 => .nil
  | _, _, .cons a r, n + 1 => .cons a (Vals.tk r n)
theorem _root_.Paired.tk {xs : List V} {us : List Value} (h : Vals xs us) (n : Nat) : Vals (xs.take n) (us.take n) := Vals.tk h n
section
variable {X : Cx} {CX : CXT} {k n : Nat} {f C : Addr} {fd : FuncData} {ps ks : List Str} {sp : Sp} {E : L2.St → XK} {x : Str} {p pos : Pos} {e : Expr} {es : List Expr} {kws : List Keyword} {t tk : TA} {g : List Value → List Value → List Value} {gV : List V → List V → List V}
theorem run_makeKS {EE : XK} {pins : List (Addr × Obj)} {σ : St} {H : Hp} {s : Shared} {Q : VK} {us ws : List Value} {vs zs : List V} (M : Mk X.K C f) (F : FnOk X.prog X.w X.K X.mg X.base CX k f fd ps sp) (hr : Room (k + 1) X.A) (hb : KBn X.K fd ps (n + 1) ks g gV) (hx : PassesAt CX X σ EE)
    (I : Inv X pins σ H s) (r : Vals vs us) (rz : Vals zs ws) (l1 : vs.length = n) (l2 : zs.length = ks.length)
    (h : ∀ x dx, H x = none → H dx = none → dx ≠ x → sp (gV (.ref x :: vs) zs) (upd (upd H dx (.own x)) x (.ins C dx [])) (fun v H2 => v = .non ∧ Q (.ref x) H2) EE) :
    wpAny (model X.prog X.w) X.A (call (.ref C) us (ks.zip ws)) (EP X pins σ Q) X.xe s := by
  have hq := h (s.heap.objs.size + 1) s.heap.objs.size (I.hok.fresh (Nat.le_succ _)) (I.hok.fresh (Nat.le_refl _)) (Nat.ne_of_lt (Nat.lt_succ_self _))
  have I2 := Inv.made (C := C) I
  have r1 : Vals (V.ref (s.heap.objs.size + 1) :: vs) (Value.ref (s.heap.objs.size + 1) :: us) := .cons rfl r
  have r2 := hb.rel r1 rz
  have n1 : (Value.ref (s.heap.objs.size + 1) :: us).length = n + 1 := by
    rw [List.length_cons, ← r.length, l1]
  refine wpAny_call (make_map (f := f) I.kIn M.makes M.init (beq_iff_eq.mp M.fn) (codeAny_mono (F.run _ X.stack _ _ ⟨Value.ref (s.heap.objs.size + 1) :: us, ks.zip ws⟩ (g (Value.ref (s.heap.objs.size + 1) :: us) ws) _ _ EE (hr.make C us (ks.zip ws))
    (I2.env0.make C us (ks.zip ws)) (hb.to _ (Value.ref (s.heap.objs.size + 1) :: us) ws I2.kIn n1 (rz.length.symm.trans l2)) r2 hq) fun r s' hq' => ?_))
  cases r with
  | error e => exact hx pins _ _ e s' I2 hq'
  | ok fl =>
    cases fl with
    | ret u =>
      obtain ⟨v, H', I3, rv, ev, q3⟩ := I2.after hq'
      subst ev
      exact ⟨rv, ⟨V.ref (s.heap.objs.size + 1), H', I3, rfl, q3⟩⟩
    | next => exact False.elim hq'
    | brk => exact False.elim hq'
    | cont => exact False.elim hq'
def tMakeKS (C : Addr) (m : Nat) (sp : Sp) (gV : List V → List V → List V) (E : L2.St → XK) (tk : TA) : TE := fun σ H Q => tk σ H fun zs H2 => zs.length = m ∧ ∀ x dx, H2 x = none → H2 dx = none → dx ≠ x →
  sp (gV [.ref x] zs) (upd (upd H2 dx (.own x)) x (.ins C dx [])) (fun v H3 => v = .non ∧ Q (.ref x) H3) (E σ)
/-- C(k = v, ..) within a try -/
theorem pe_makeKS (M : Mk X.K C f) (F : FnOk X.prog X.w X.K X.mg X.base CX k f fd ps sp) (hr : Room (k + 1) X.A) (hg : Gl X x) (hm : X.mg x = some (.ref C)) (hb : KBn X.K fd ps 1 ks g gV) (hx : ∀ σ, PassesAt CX X σ (E σ)) (hkw : PK X kws tk)
    (hall : (backToKw pos (keywordEach kws X.env)).all (·.1.isSome) = true := by rfl) (hks : (backToKw pos (keywordEach kws X.env)).filterMap (·.1) = ks := by rfl) (hdb : (x == ("__debug__" : Str)) = false := by decide)
    (hpl : ((backTo pos (starEach [] X.env)).any (·.1) || (backToKw pos (keywordEach kws X.env)).any (·.1.isNone)) = false := by rfl) :
    PE X (.Call (.Name x p) [] kws pos) (tMakeKS C ks.length sp gV E tk) := by
  refine ⟨fun pins s σ H Q I h => ?_⟩
  refine wpAny_Call_Name_kw (ld_glob I hg hm ?_ hdb)
  refine PySem.W.callWith_KW0 (h₀ := X.base) I.ok.mod.kin M.kp hall ?_ hpl
  refine thn (hkw.run pos pins s σ H _ I h) fun ws s2 ⟨zs, H2, I2, rz, l2, q2⟩ => ⟨I2.kIn, ?_⟩
  rw [hks]
  exact run_makeKS (us := []) (vs := []) M F hr hb (hx σ) I2 .nil rz rfl l2 q2
end
end L2
namespace L2
open PySem PySem.Spec PyProof.Rows
/-! o.f = x, o.g = y, ..: many fields set from slots -/
def tFlds (K : PySem.W.Frag) : List (Nat × Str) → TS
  | [] => tNext
  | [p] => sFld K (tVar 0) (tVar p.1) p.2
  | p :: q :: r => tSeq (sFld K (tVar 0) (tVar p.1) p.2) (tFlds K (q :: r))
def valAt (σ : L2.St) (i : Nat) : V := (σ[i]?.join).getD .non
def putAll (σ : L2.St) : List (Nat × Str) → List (Str × V) → List (Str × V)
  | [], fs => fs
  | p :: r, fs => putAll σ r (putF p.2 (valAt σ p.1) fs)
theorem len_putF (f : Str) (v : V) : ∀ fs : List (Str × V), (putF f v fs).length ≤ fs.length + 1
  | [] => Nat.le_refl _
  | (g, x) :: r => by
    show (if g = f then (g, v) :: r else (g, x) :: putF f v r).length ≤ _
    have := len_putF f v r
    split <;> simp only [List.length_cons] <;> omega
theorem flds_ok {K : PySem.W.Frag} {o C dx : Addr} {σ : L2.St} {D : Ends} (cl : Cls K C) (h0 : σ[0]? = some (some (.ref o))) : ∀ (l : List (Nat × Str)) (fs : List (Str × V)) (H : Hp), fs.length + l.length ≤ 900 → l ≠ [] → (∀ p ∈ l, NoAttr K C p.2) → (∀ p ∈ l, ∃ v, σ[p.1]? = some (some v)) → H o = some (.ins C dx fs) →
    (∀ H', H' o = some (.ins C dx (putAll σ l fs)) → (∀ b x, b ≠ o → H b = some x → H' b = some x) → D.nx σ H') → tFlds K l D σ H
  | [], fs, H, hl, hne, hn, hv, ho, q => absurd rfl hne
  | [p], fs, H, hl, hne, hn, hv, ho, q => by
    obtain ⟨v, ev⟩ := hv p (List.mem_cons_self ..)
    refine ⟨v, ev, _, h0, o, C, dx, fs, rfl, ho, cl, hn p (List.mem_cons_self ..), by omega, q _ ?_ fun b x nb e => by rw [upd_ne nb]; exact e⟩
    rw [upd_same]
    show _ = some (HO.ins C dx (putF p.2 (valAt σ p.1) fs))
    unfold valAt
    rw [ev]; rfl
  | p :: p2 :: r, fs, H, hl, hne, hn, hv, ho, q => by
    obtain ⟨v, ev⟩ := hv p (List.mem_cons_self ..)
    have e1 : valAt σ p.1 = v := by unfold valAt; rw [ev]; rfl
    refine ⟨v, ev, _, h0, o, C, dx, fs, rfl, ho, cl, hn p (List.mem_cons_self ..), by omega, ?_⟩
    refine flds_ok cl h0 (p2 :: r) (putF p.2 v fs) _ ?_ (List.cons_ne_nil _ _) (fun x m => hn x (List.mem_cons_of_mem _ m)) (fun x m => hv x (List.mem_cons_of_mem _ m)) upd_same fun H' h1 h2 => ?_
    · have := len_putF p.2 v fs
      simp only [List.length_cons] at hl ⊢
      omega
    · refine q H' ?_ fun b x nb e => h2 b x nb (by rw [upd_ne nb]; exact e)
      show _ = some (HO.ins C dx (putAll σ (p2 :: r) (putF p.2 (valAt σ p.1) fs)))
      rw [e1]; exact h1
end L2
namespace Rd
open PySem PySem.Spec PyProof.Rows L2
variable {σ : L2.St} {H : Hp} {Q : VK} {tk tv : TA} {C : Addr} {n m : Nat} {sp : Sp} {gV : List V → List V → List V} {E : XK} {ES : L2.St → XK}
theorem callS (h : tv σ H fun vs H1 => sp vs H1 Q (ES σ)) : tCallS sp ES tv σ H Q := h
theorem mkS (h : tv σ H fun vs H1 => ∀ x dx, H1 x = none → H1 dx = none → dx ≠ x → sp (.ref x :: vs) (upd (upd H1 dx (.own x)) x (.ins C dx [])) (fun v H2 => v = .non ∧ Q (.ref x) H2) (ES σ)) : tMakeS C sp ES tv σ H Q := h
theorem mkKS (h : tk σ H fun zs H2 => zs.length = m ∧ ∀ x dx, H2 x = none → H2 dx = none → dx ≠ x → sp (gV [.ref x] zs) (upd (upd H2 dx (.own x)) x (.ins C dx [])) (fun v H3 => v = .non ∧ Q (.ref x) H3) (ES σ)) : tMakeKS C m sp gV ES tk σ H Q := h
theorem mkK (h : tv σ H fun vs H1 => tk σ H1 fun zs H2 => vs.length = n ∧ zs.length = m ∧ ∀ x dx, H2 x = none → H2 dx = none → dx ≠ x → sp (gV (.ref x :: vs) zs) (upd (upd H2 dx (.own x)) x (.ins C dx [])) (fun v H3 => v = .non ∧ Q (.ref x) H3) E) : tMakeK C n m sp gV E tv tk σ H Q := h
theorem callN (h : tv σ H fun vs H1 => tk σ H1 fun zs H2 => vs.length = n ∧ zs.length = m ∧ sp (gV vs zs) H2 Q E) : tCallN n m sp gV E tv tk σ H Q := h
end Rd

set_option Elab.async false
set_option linter.all false
set_option maxRecDepth 100000
namespace L2
open PySem PySem.Spec PyProof.Rows
/-! set(xs) of a list of ints -/
/-- the set just made -/
abbrev eSet (w : World) : Obj := { cls := .type "set", dict := none, data := .set #[] 0 (.fresh 0 0 (!w.params.followText "set-order")) }
section
variable {P : Program} {w : World} {A : Around} {E : Value → Shared → Prop} {s : Shared}
/-- what the filling says of the heap behind it -/
def Filled (w : World) (s : Shared) (ns : List Int) (h' : Heap) (c : Nat) : Prop :=
  SetR w h' s.heap.objs.size (fun j => decide (j ∈ ns)) c ∧ c ≤ ns.length ∧ ∀ b o, s.heap.get? b = some o → h'.get? b = some o
set_option maxHeartbeats 3200000 in
theorem set_listI {l : Addr} {items : Array Value} (ns : List Int) {Q : Value → Shared → Prop} (hh : A.handled = none) (hl : s.heap.IsList l items) (hit : IntsAre items.toList ns) (hb : ns.length + 1 < scanBound)
    (h : ∀ (h' : Heap) (tk c : Nat), Filled w s ns h' c → Q (.ref s.heap.objs.size) { s with heap := h', toks := tk }) :
    wpAny (model P w) A (call (.type "set") [.ref l]) Q E s := by
  have hlS : l < s.heap.objs.size := by
    obtain ⟨ol, hol, _⟩ := hl
    exact Heap.lt_size hol
  have hisz : items.size = ns.length := by
    have q := IntsAre.length hit
    rwa [Array.length_toList] at q
  obtain ⟨c, tl, hmro⟩ := F.called_set.mro
  have hmade := F.called_set.made
  have hsub := F.called_set.sub
  have h1 := F.called_set.notType
  have h2 := F.called_set.canCreate
  have hct := F.typeCall_set_1 (.ref l)
  refine wpAny_call (codeAny_of_tree ?_)
  show wpAny _ _ (callAny (.type "set") _) _ _ _
  refine wpAny_pure ⟨Code.quiet_builtin _ (by decide +kernel), codeAny_builtin F.entry_type_call ?_⟩
  rw [Around.under_plain (weight_type_call_type "set" [.ref l] []) rfl]
  repeat (any_goals (first | assumption | wp_step))
  refine codeAny_mono (code_set_led1 (.ref l) (E := E) (Q₁ := fun obj s₁ => obj = .ref s.heap.objs.size ∧ s₁ = { s with heap := s.heap.push (eSet w) }) ⟨rfl, rfl⟩) fun r s₁ hr => ?_
  cases r with
  | error e => exact hr
  | ok fl =>
    cases fl with
    | ret obj =>
      obtain ⟨rfl, rfl⟩ := hr
      have hS : (s.heap.push (eSet w)).get? s.heap.objs.size = some (eSet w) := Heap.get?_push_size _ rfl
      have hT : Shared.TypeIs { s with heap := s.heap.push (eSet w) } (.ref s.heap.objs.size) "set" := ⟨_, hS, rfl⟩
      have hli := F.called_set.init.lookup
      have hbi := F.called_set.init.bind (.ref s.heap.objs.size)
      repeat (any_goals (first | assumption | wp_step))
      refine codeAny_mono (codeAny_call_builtin (R := wants (fun r s₂ => r = .none ∧ ∃ h' tk c, s₂ = { s with heap := h', toks := tk } ∧ Filled w s ns h' c) E) F.called_set.init.plain F.entry_set_init (check_set_init_1 hT ?_)) fun r₂ s₂ hr₂ => ?_
      · have hl1 : (s.heap.push (eSet w)).IsList l items := hl.push _
        obtain ⟨⟨ocls, odict, odata, oslots⟩, hol, hcl, nl, hdl⟩ := hl1
        simp only at hcl hdl
        subst hcl; subst hdl
        have hl1 : (s.heap.push (eSet w)).IsList l items := ⟨_, hol, rfl, nl, rfl⟩
        have hsls := F.sub_list_set
        have hslf := F.sub_list_frozenset
        have hne : (Value.type "list" == Value.type "dict") = false := by decide
        unfold Builtin.«set.__init__» noKeywords Builtin.Frozenset.updateFrom
        generalize hPI : pyIter = PI
        wp_walk
        subst hPI
        refine wpAny_pyIter_list hl1 ?_
        refine wpAny_bind (wpAny_runValue ?_)
        have hh3 : A.in1.in1.in1.handled = none := by simp [hh]
        have hneI : l ≠ (s.heap.push (eSet w)).objs.size := by
          rw [Heap.size_push]; exact Nat.ne_of_lt (Nat.lt_succ_of_lt hlS)
        have hSf : s.heap.objs.size ∉ [(s.heap.push (eSet w)).objs.size, l] := by
          rw [Heap.size_push]
          simp only [List.mem_cons, List.not_mem_nil, or_false, not_or]
          exact ⟨Nat.ne_of_lt (Nat.lt_succ_self _), Nat.ne_of_gt hlS⟩
        have hval : ∀ (i : Nat) (v : Value), items[i]? = some v → ∃ k t, ns[i]? = some k ∧ v = .int k t := fun i v hv => by
          have hi : i < ns.length := by rw [← hisz]; exact (Array.getElem?_eq_some_iff.mp hv).1
          obtain ⟨t, e⟩ := PyProof.Rows.IntsAre.int_at hit i v (by rw [Array.getElem?_toList]; exact hv)
          refine ⟨ns[i], t, List.getElem?_eq_getElem hi, ?_⟩
          rw [e, List.getD_eq_getElem?_getD, List.getElem?_eq_getElem hi] <;> rfl
        refine set_update_ints ((Walks.list hh3 _ l hneI items).toS) s.heap.objs.size hSf ns hisz hb hval (items.size - 0) 0 _ (by omega) (Nat.zero_le _)
          ⟨⟨_, Heap.get?_push_size _ rfl, rfl, rfl⟩, (hl1.push _)⟩ ⟨0, Nat.le_refl 0, setR_new_at (Heap.get?_push_of_some _ hS)⟩ ?_
        rintro ⟨h', g2, d', tk', os'⟩ c' hm hc' hS'
        have eg : g2 = s.gens := hm.gens
        have ed : d' = s.drawn := hm.drawn
        have eo : os' = s.os := hm.os
        subst eg; subst ed; subst eo
        show wpAny _ _ _ _ _ _
        refine wpAny_pure ?_
        show wpAny _ _ (ret Value.none) _ _ _
        refine wpAny_pure ⟨rfl, h', tk', c', rfl, hS', by omega, fun b o e => ?_⟩
        have hb0 : b < s.heap.objs.size := Heap.lt_size e
        refine hm.heap b o ?_ (Heap.get?_push_of_some _ (Heap.get?_push_of_some _ e))
        rw [Heap.size_push]
        simp only [List.mem_cons, List.not_mem_nil, or_false, not_or]
        exact ⟨Nat.ne_of_lt hb0, Nat.ne_of_lt (Nat.lt_succ_of_lt hb0)⟩
      · cases r₂ with
        | error e => exact hr₂
        | ok fl₂ =>
          cases fl₂ with
          | ret r =>
            obtain ⟨rfl, h', tk, c', rfl, hf⟩ := hr₂
            repeat (any_goals (first | assumption | wp_step))
            exact h _ _ _ hf
          | _ => exact hr₂.elim
    | _ => exact hr.elim
end
section
variable {X : Cx}
/-- set(xs) of a list of ints: its members, and at most as many as there are rows -/
def rSetI (K : PySem.W.Frag) (w : World) : List V → Hp → VK → Prop := fun xs H Q => ∃ (l : Addr) (ns : List Int), xs = [V.ref l] ∧ SqL K H l (ns.map V.int) ∧ ns.length + 1 < scanBound ∧
  ∀ (p : Addr) (c : Nat), c ≤ ns.length → (∃ ks : List Int, ks.Nodup ∧ (∀ k ∈ ks, k ∈ ns) ∧ ks.length = c) → H p = none → Q (.ref p) (upd H p (SetO w p (fun j => decide (j ∈ ns)) c))
theorem cr_setI (hc : X.calm = true) : CallR X (.type "set") (rSetI X.K X.w) := by
  intro pins s σ H xs us Q I r h
  obtain ⟨l, ns, rfl, hl, hb, q⟩ := h
  rw [Vals.ref1 r]
  obtain ⟨its, rv, pl, hz⟩ := I.list hl
  have hn : H s.heap.objs.size = none := I.hok.fresh (Nat.le_refl _)
  refine set_listI ns (I.ok.hd hc) pl.isList (by simpa using ints_of_vals rv) hb fun h' tk c hf => ?_
  exact ⟨.ref s.heap.objs.size, upd H s.heap.objs.size (SetO X.w s.heap.objs.size (fun j => decide (j ∈ ns)) c), I.laid (t' := tk) hf.2.2 (Nat.le_refl _) (setO_new hf.1), rfl, q _ c hf.2.1 (by
    obtain ⟨o, es, ep, t, ho, he, hd, hg, nd, mem, hs, hft, hn, _⟩ := hf.1
    exact ⟨_, nd, fun k m => of_decide_eq_true ((mem k).mpr m), by rw [List.length_map, Array.length_toList]; exact hn⟩) hn⟩
end
end L2


set_option Elab.async false
set_option linter.all false
set_option maxRecDepth 100000
set_option maxHeartbeats 400000


namespace Mine
open PySem PySem.Spec PyProof.Rows L2
local macro_rules | `(tactic| walk_at "my rn") => `(tactic| (repeat (first | with_reducible refine Rd.callS ?_ | with_reducible refine Rd.mkS ?_ | with_reducible refine Rd.mkKS ?_ | with_reducible refine Rd.mkK ?_ | with_reducible refine Rd.callN ?_ | with_reducible refine Rd.catQI ?_ | with_reducible refine Rd.revN ?_ | with_reducible refine Rd.lzip ?_ | with_reducible refine Rd.fld ?_ | with_reducible refine Rd.sfld ?_ | with_reducible refine Rd.meth ?_ | with_reducible refine Rd.make ?_ | with_reducible refine Rd.izip ?_ | with_reducible refine Rd.disp ?_ | with_reducible refine Rd.pcons ?_ | with_reducible refine Rd.pnil ?_ | with_reducible refine Rd.dsp ?_ | with_reducible refine Rd.dnew ?_ | with_reducible refine Rd.din ?_ | with_reducible refine Rd.dnot ?_ | with_reducible refine Rd.dget ?_ | with_reducible refine Rd.dget2 ?_ | with_reducible refine Rd.dput ?_ | with_reducible refine Rd.cbDictOf ?_ | with_reducible refine Rd.iitems ?_ | with_reducible refine Rd.ikeys ?_ | with_reducible refine Rd.dc ?_ | with_reducible refine Rd.nwD ?_ | with_reducible refine Rd.tupN ?_ | with_reducible refine Rd.lstN ?_ | with_reducible refine Rd.cbListOf ?_ | with_reducible refine Rd.cbListOfR ?_ | with_reducible refine Rd.catI ?_ | with_reducible refine Rd.slN ?_ | with_reducible refine Rd.cbSrtI ?_ | with_reducible refine Rd.seq ?_ | with_reducible refine Rd.next ?_ | with_reducible refine Rd.brk ?_ | with_reducible refine Rd.cont ?_ | with_reducible refine Rd.asg ?_ | with_reducible refine Rd.ret ?_ | with_reducible refine Rd.retN ?_ | with_reducible refine Rd.drop ?_ | with_reducible refine Rd.ifs ?_ | with_reducible refine Rd.ife ?_ | with_reducible refine Rd.test ?_ | with_reducible refine Rd.tb_ ?_ | with_reducible refine Rd.bl ?_ | with_reducible refine Rd.bl2 ?_ | with_reducible refine Rd.and_ ?_ | with_reducible refine Rd.or_ ?_ | with_reducible refine Rd.not_ ?_ | with_reducible refine Rd.andV ?_ | with_reducible refine Rd.orV ?_ | with_reducible refine Rd.notV ?_ | with_reducible refine Rd.op ?_ | with_reducible refine Rd.un ?_ | with_reducible refine Rd.I0 ?_ | with_reducible refine Rd.U ?_ | with_reducible refine Rd.ip ?_ | with_reducible refine Rd.c_ ?_ | with_reducible refine Rd.nil ?_ | with_reducible refine Rd.cons ?_ | with_reducible refine Rd.call ?_ | with_reducible refine Rd.cb ?_ | with_reducible refine Rd.bm ?_ | with_reducible refine Rd.bm0 ?_ | with_reducible refine Rd.nopart ?_ | with_reducible refine Rd.part ?_ | with_reducible refine Rd.int1 ?_ | with_reducible refine Rd.ints1 ?_ | with_reducible refine Rd.ints2 ?_ | with_reducible refine Rd.gcons ?_ | with_reducible refine Rd.gnil ?_ | with_reducible refine Rd.sub ?_ | with_reducible refine Rd.isN ?_ | with_reducible refine Rd.chain ?_ | with_reducible refine Rd.rf ?_ | with_reducible refine Rd.tyS ?_ | with_reducible refine Rd.intI ?_ | with_reducible refine Rd.lc ?_ | with_reducible refine Rd.for_ ?_ | with_reducible refine Rd.ilist ?_ | with_reducible refine Rd.itup ?_ | with_reducible refine Rd.irng1 ?_ | with_reducible refine Rd.irng2 ?_ | with_reducible refine Rd.ienum ?_ | with_reducible refine Rd.istr ?_ | with_reducible refine Rd.refA ?_ | with_reducible refine Rd.strA ?_ | with_reducible refine Rd.yes ?_ | with_reducible refine Rd.ifT ?_ | with_reducible refine Rd.ifF ?_ | with_reducible refine Rd.ifnT ?_ | with_reducible refine Rd.ifnF ?_ | with_reducible refine Rd.isi_ii ?_ | with_reducible refine Rd.isi_ib ?_ | with_reducible refine Rd.isi_is ?_ | with_reducible refine Rd.isi_il ?_ | with_reducible refine Rd.isi_it ?_ | with_reducible refine Rd.isi_id ?_ | with_reducible refine Rd.isi_bi ?_ | with_reducible refine Rd.isi_bb ?_ | with_reducible refine Rd.isi_bs ?_ | with_reducible refine Rd.isi_bl ?_ | with_reducible refine Rd.isi_bt ?_ | with_reducible refine Rd.isi_bd ?_ | with_reducible refine Rd.isi_si ?_ | with_reducible refine Rd.isi_sb ?_ | with_reducible refine Rd.isi_ss ?_ | with_reducible refine Rd.isi_sl ?_ | with_reducible refine Rd.isi_st ?_ | with_reducible refine Rd.isi_sd ?_ | with_reducible refine Rd.isi_ni ?_ | with_reducible refine Rd.isi_nb ?_ | with_reducible refine Rd.isi_ns ?_ | with_reducible refine Rd.isi_nl ?_ | with_reducible refine Rd.isi_nt ?_ | with_reducible refine Rd.isi_nd ?_ | with_reducible refine Rd.sl ?_ | with_reducible refine Rd.v0 ?_ | with_reducible refine Rd.v1 ?_ | with_reducible refine Rd.v2 ?_ | with_reducible refine Rd.v3 ?_ | with_reducible refine Rd.v4 ?_ | with_reducible refine Rd.v5 ?_ | with_reducible refine Rd.v6 ?_ | with_reducible refine Rd.v7 ?_ | with_reducible refine Rd.v8 ?_ | with_reducible refine Rd.v9 ?_ | with_reducible refine Rd.v10 ?_ | with_reducible refine Rd.v11 ?_ | with_reducible refine Rd.v12 ?_ | with_reducible refine Rd.v13 ?_ | with_reducible refine Rd.v14 ?_ | with_reducible refine Rd.v15 ?_ | with_reducible refine Rd.v16 ?_ | with_reducible refine Rd.v17 ?_ | with_reducible refine Rd.v18 ?_ | with_reducible refine Rd.v19 ?_ | with_reducible refine Rd.v20 ?_ | with_reducible refine Rd.v21 ?_ | with_reducible refine Rd.v22 ?_ | with_reducible refine Rd.v23 ?_ | with_reducible refine Rd.v24 ?_ | with_reducible refine Rd.v25 ?_ | with_reducible refine Rd.v26 ?_ | with_reducible refine Rd.v27 ?_ | with_reducible refine Rd.n0 ?_ | with_reducible refine Rd.n1 ?_ | with_reducible refine Rd.n2 ?_ | with_reducible refine Rd.n3 ?_ | with_reducible refine Rd.n4 ?_ | with_reducible refine Rd.n5 ?_ | with_reducible refine Rd.n6 ?_ | with_reducible refine Rd.n7 ?_ | with_reducible refine Rd.n8 ?_ | with_reducible refine Rd.n9 ?_ | with_reducible refine Rd.n10 ?_ | with_reducible refine Rd.n11 ?_ | with_reducible refine Rd.n12 ?_ | with_reducible refine Rd.n13 ?_ | with_reducible refine Rd.n14 ?_ | with_reducible refine Rd.n15 ?_ | with_reducible refine Rd.n16 ?_ | with_reducible refine Rd.n17 ?_ | with_reducible refine Rd.n18 ?_ | with_reducible refine Rd.n19 ?_ | with_reducible refine Rd.n20 ?_ | with_reducible refine Rd.n21 ?_ | with_reducible refine Rd.n22 ?_ | with_reducible refine Rd.n23 ?_ | with_reducible refine Rd.n24 ?_ | with_reducible refine Rd.n25 ?_ | with_reducible refine Rd.n26 ?_ | with_reducible refine Rd.n27 ?_ | with_reducible refine Rd.g0 ?_ | with_reducible refine Rd.g1 ?_ | with_reducible refine Rd.g2 ?_ | with_reducible refine Rd.g3 ?_ | with_reducible refine Rd.g4 ?_ | with_reducible refine Rd.g5 ?_ | with_reducible refine Rd.g6 ?_ | with_reducible refine Rd.g7 ?_ | with_reducible refine Rd.g8 ?_ | with_reducible refine Rd.g9 ?_ | with_reducible refine Rd.g10 ?_ | with_reducible refine Rd.g11 ?_ | with_reducible refine Rd.g12 ?_ | with_reducible refine Rd.g13 ?_ | with_reducible refine Rd.g14 ?_ | with_reducible refine Rd.g15 ?_ | with_reducible refine Rd.g16 ?_ | with_reducible refine Rd.g17 ?_ | with_reducible refine Rd.g18 ?_ | with_reducible refine Rd.g19 ?_ | with_reducible refine Rd.g20 ?_ | with_reducible refine Rd.g21 ?_ | with_reducible refine Rd.g22 ?_ | with_reducible refine Rd.g23 ?_ | with_reducible refine Rd.g24 ?_ | with_reducible refine Rd.g25 ?_ | with_reducible refine Rd.g26 ?_ | with_reducible refine Rd.g27 ?_ | ((with_reducible apply Rd.glst); (first | assumption | exact upd_same); exact rfl) | ((with_reducible apply Rd.gtP); assumption; assumption) | ((with_reducible apply Rd.revq); first | assumption | exact SqL.of (by assumption)) | ((with_reducible apply Rd.fldI); (first | assumption | exact upd_same); assumption; assumption; (first | assumption | with_unfolding_all rfl)) | ((with_reducible apply Rd.methI); (first | assumption | exact upd_same); (first | assumption | with_unfolding_all rfl)) | ((with_reducible apply Rd.sfldI); (first | assumption | exact upd_same); assumption; assumption; exact Nat.le_of_ble_eq_true rfl) | ((with_reducible apply Rd.maxL); assumption) | ((with_reducible apply Rd.anyL); assumption) | ((with_reducible apply Rd.sumL); assumption) | ((with_reducible refine Rd.izI (by assumption) (by assumption) ?_)) | with_reducible refine Rd.mtq ?_ | with_reducible refine Rd.mtRest ?_ | with_reducible refine Rd.mtEnd ?_ | with_reducible refine Rd.tbC ?_ | with_reducible refine Rd.tbT ?_ | with_reducible refine Rd.tbA ?_ | with_reducible refine Rd.tbN ?_ | with_reducible refine Rd.mto ?_ | with_reducible refine Rd.mtoI ?_ | with_reducible refine Rd.moRest ?_ | with_reducible refine Rd.moEnd ?_ | ((with_reducible apply Rd.mtqI); (first | assumption | exact SqT.of upd_same | exact SqT.of (by assumption)); exact Nat.le_of_ble_eq_true rfl) | ((with_reducible refine Rd.mtLen ?_ ?_); exact rfl) | ((with_reducible refine Rd.mtYes ?_ ?_); exact rfl) | ((with_reducible refine Rd.mtNo ?_ ?_); (first | assumption | decide +kernel)) | ((with_reducible refine Rd.mtOY ?_ ?_); exact rfl) | ((with_reducible refine Rd.mtON ?_ ?_); exact rfl) | ((with_reducible refine Rd.eq ?_ ?_); exact rfl) | ((with_reducible refine Rd.ne ?_ ?_); exact rfl) | ((with_reducible refine Rd.szA ?_ ?_); exact Nat.le_of_ble_eq_true rfl) | ((with_reducible refine Rd.I ?_ ?_); first | assumption | decide | exact Or.inr (by decide +kernel) | exact Or.inl (by decide +kernel) | exact ⟨by decide, by decide⟩ | exact ⟨by decide, by decide, by decide⟩ | omega) | ((with_reducible apply Rd.tyL); first | assumption | exact upd_same) | ((with_reducible apply Rd.tyLq); assumption) | ((with_reducible apply Rd.ixL); (first | assumption | exact upd_same); exact rfl) | ((with_reducible apply Rd.ixT); (first | assumption | exact upd_same); exact rfl) | ((with_reducible apply Rd.ixLq); assumption; exact rfl) | ((with_reducible apply Rd.ixTq); assumption; exact rfl) | ((with_reducible apply Rd.gtup); (first | assumption | exact upd_same); exact rfl) | ((with_reducible apply Rd.gtupq); assumption; exact rfl) | ((with_reducible apply Rd.sqAq); assumption) | ((with_reducible apply Rd.stAq); assumption) | ((with_reducible apply Rd.enAq); assumption) | ((with_reducible apply Rd.lenLq); assumption) | ((with_reducible apply Rd.lenTq); assumption) | ((with_reducible apply Rd.sqA); first | assumption | exact upd_same) | ((with_reducible apply Rd.stA); first | assumption | exact upd_same) | ((with_reducible apply Rd.enA); first | assumption | exact upd_same) | ((with_reducible apply Rd.lenL); first | assumption | exact upd_same) | ((with_reducible apply Rd.lenT); first | assumption | exact upd_same) | ((with_reducible refine Rd.nwT ?_ ?_); exact Nat.le_of_ble_eq_true rfl) | ((with_reducible refine Rd.nwL ?_ ?_); exact Nat.le_of_ble_eq_true rfl) | ((with_reducible apply Rd.isd); assumption) | ((with_reducible apply Rd.dictOf); assumption) | ((with_reducible refine Rd.isi_dd (by assumption) ?_)) | ((with_reducible apply Rd.itA); first | assumption | exact upd_same) | ((with_reducible apply Rd.ikA); first | assumption | exact upd_same) | ((with_reducible apply Rd.listOf); assumption) | ((with_reducible apply Rd.listOfq); assumption) | ((with_reducible apply Rd.slo); assumption) | ((with_reducible apply Rd.slq); assumption) | ((with_reducible apply Rd.srtI); assumption) | ((with_reducible apply Rd.srtIo); assumption) | ((with_reducible refine Rd.isi_li (by assumption) ?_)) | ((with_reducible refine Rd.isi_lb (by assumption) ?_)) | ((with_reducible refine Rd.isi_ls (by assumption) ?_)) | ((with_reducible refine Rd.isi_ll (by assumption) ?_)) | ((with_reducible refine Rd.isi_lt (by assumption) ?_)) | ((with_reducible refine Rd.isi_ld (by assumption) ?_)) | ((with_reducible refine Rd.isi_ti (by assumption) ?_)) | ((with_reducible refine Rd.isi_tb (by assumption) ?_)) | ((with_reducible refine Rd.isi_ts (by assumption) ?_)) | ((with_reducible refine Rd.isi_tl (by assumption) ?_)) | ((with_reducible refine Rd.isi_tt (by assumption) ?_)) | ((with_reducible refine Rd.isi_td (by assumption) ?_)))))
def topS (i : Nat) : Stmt := PySem.Challenge.pw_deadbeat_k21_costs_of_instructions.main.body.getD i (.Pass ⟨0, 0, 0, 0⟩)
abbrev s_decimal : Stmt := topS 3
theorem sc_decimal : FnScope ["n", "pieces", "rest", "low"] ["n"] (defScope s_decimal) := ⟨rfl, rfl, rfl, by decide +kernel, rfl, by decide +kernel, by decide +kernel⟩
abbrev s__law_start : Stmt := topS 18
theorem sc__law_start : FnScope ["script", "seed", "cell"] ["script"] (defScope s__law_start) := ⟨rfl, rfl, rfl, by decide +kernel, rfl, by decide +kernel, by decide +kernel⟩
abbrev s__law_draw : Stmt := topS 19
theorem sc__law_draw : FnScope ["state", "many", "found"] ["state", "many"] (defScope s__law_draw) := ⟨rfl, rfl, rfl, by decide +kernel, rfl, by decide +kernel, by decide +kernel⟩
abbrev s_Costs_init : Stmt := inClass (topS 11) 0
theorem sc_Costs_init : FnScope ["self", "fetch_hit", "fetch_miss", "plain", "mul", "div", "load_hit", "load_miss", "store", "taken", "count", "port", "release", "switch", "enter", "leave", "finish"] ["self", "fetch_hit", "fetch_miss", "plain", "mul", "div", "load_hit", "load_miss", "store", "taken", "count", "port", "release", "switch", "enter", "leave", "finish"] (defScope s_Costs_init) := ⟨rfl, rfl, rfl, by decide +kernel, rfl, by decide +kernel, by decide +kernel⟩
abbrev s__check_costs : Stmt := topS 12
theorem sc__check_costs : FnScope ["costs", "least", "cost"] ["costs", "least"] (defScope s__check_costs) := ⟨rfl, rfl, rfl, by decide +kernel, rfl, by decide +kernel, by decide +kernel⟩
abbrev s__check_miss : Stmt := topS 13
theorem sc__check_miss : FnScope ["hit", "miss"] ["hit", "miss"] (defScope s__check_miss) := ⟨rfl, rfl, rfl, by decide +kernel, rfl, by decide +kernel, by decide +kernel⟩
abbrev s_instruction_cost : Stmt := topS 14
theorem sc_instruction_cost : FnScope ["costs", "instruction", "fetch_hit", "load_hit", "taken", "cost"] ["costs", "instruction", "fetch_hit", "load_hit", "taken"] (defScope s_instruction_cost) := ⟨rfl, rfl, rfl, by decide +kernel, rfl, by decide +kernel, by decide +kernel⟩
abbrev s__execution_cost : Stmt := topS 15
theorem sc__execution_cost : FnScope ["costs", "instruction", "load_hit"] ["costs", "instruction", "load_hit"] (defScope s__execution_cost) := ⟨rfl, rfl, rfl, by decide +kernel, rfl, by decide +kernel, by decide +kernel⟩
abbrev s__calculation_cost : Stmt := topS 16
theorem sc__calculation_cost : FnScope ["costs", "operation"] ["costs", "operation"] (defScope s__calculation_cost) := ⟨rfl, rfl, rfl, by decide +kernel, rfl, by decide +kernel, by decide +kernel⟩
abbrev s__law_numbers : Stmt := topS 20
theorem sc__law_numbers : FnScope ["state", "numbers", "k"] ["state"] (defScope s__law_numbers) := ⟨rfl, rfl, rfl, by decide +kernel, rfl, by decide +kernel, by decide +kernel⟩
abbrev s__law_made : Stmt := topS 21
theorem sc__law_made : FnScope ["n", "e"] ["n"] (defScope s__law_made) := ⟨rfl, rfl, rfl, by decide +kernel, rfl, by decide +kernel, by decide +kernel⟩
abbrev s__law_instruction : Stmt := topS 22
theorem sc__law_instruction : FnScope ["state", "menu"] ["state"] (defScope s__law_instruction) := ⟨rfl, rfl, rfl, by decide +kernel, rfl, by decide +kernel, by decide +kernel⟩
abbrev s__law_expected : Stmt := topS 23
theorem sc__law_expected : FnScope ["n", "instruction", "fetch_hit", "load_hit", "taken", "name", "cost"] ["n", "instruction", "fetch_hit", "load_hit", "taken"] (defScope s__law_expected) := ⟨rfl, rfl, rfl, by decide +kernel, rfl, by decide +kernel, by decide +kernel⟩
abbrev s__law_fields : Stmt := topS 24
theorem sc__law_fields : FnScope ["costs", "n", "told"] ["costs", "n"] (defScope s__law_fields) := ⟨rfl, rfl, rfl, by decide +kernel, rfl, by decide +kernel, by decide +kernel⟩
abbrev s_law : Stmt := topS 25
theorem sc_law : FnScope ["script", "state", "n", "costs", "k", "instruction", "fetch_hit", "load_hit", "taken", "told", "bad", "at", "usual"] ["script"] (defScope s_law) := ⟨rfl, rfl, rfl, by decide +kernel, rfl, by decide +kernel, by decide +kernel⟩
abbrev kws_Costs_init : List (Str × V) := [("fetch_hit", .int (1)), ("fetch_miss", .int (11)), ("plain", .int (1)), ("mul", .int (3)), ("div", .int (8)), ("load_hit", .int (1)), ("load_miss", .int (11)), ("store", .int (4)), ("taken", .int (1)), ("count", .int (2)), ("port", .int (4)), ("release", .int (6)), ("switch", .int (12)), ("enter", .int (5)), ("leave", .int (5)), ("finish", .int (8))]
abbrev kws_instruction_cost : List (Str × V) := [("load_hit", .bl true), ("taken", .bl false)]
theorem kb_Costs_init_0 {K : PySem.W.Frag} {a : Addr} {d : FuncData} (F : FunD K "__init__" "Costs.__init__" (defArgs s_Costs_init) (defBody s_Costs_init) (defScope s_Costs_init) [] kws_Costs_init a d) :
    ∃ mv : List Value, KBn K d ["self", "fetch_hit", "fetch_miss", "plain", "mul", "div", "load_hit", "load_miss", "store", "taken", "count", "port", "release", "switch", "enter", "leave", "finish"] 1 ["fetch_hit", "fetch_miss", "plain", "mul", "div", "load_hit", "load_miss", "store", "taken", "count", "port", "release", "switch", "enter", "leave", "finish"] (fun vs zs => (fun (mz : List Value) => vs ++ ((zs.drop 0).take 16)) mv) (fun vs zs => (fun (mz : List V) => vs ++ ((zs.drop 0).take 16)) []) :=
  kbn_mk F (List.cons_ne_nil _ _) (normal := ["self"]) (kwonly := ["fetch_hit", "fetch_miss", "plain", "mul", "div", "load_hit", "load_miss", "store", "taken", "count", "port", "release", "switch", "enter", "leave", "finish"]) (ks := ["fetch_hit", "fetch_miss", "plain", "mul", "div", "load_hit", "load_miss", "store", "taken", "count", "port", "release", "switch", "enter", "leave", "finish"]) [] (fun vs mz zs => vs ++ ((zs.drop 0).take 16)) (by decide +kernel) rfl rfl rfl rfl rfl (by decide +kernel) (by decide +kernel) (by decide +kernel) (by decide +kernel) (fun hv hm hz => (hv.append ((hz.drop 0).tk 16))) fun us mv ws l1 l2 l3 => by
    match us, mv, ws, l1, l2, l3 with
    | [u0], [], [w0, w1, w2, w3, w4, w5, w6, w7, w8, w9, w10, w11, w12, w13, w14, w15], _, _, _ => kernel_rfl
theorem kb_Costs_init_1 {K : PySem.W.Frag} {a : Addr} {d : FuncData} (F : FunD K "__init__" "Costs.__init__" (defArgs s_Costs_init) (defBody s_Costs_init) (defScope s_Costs_init) [] kws_Costs_init a d) :
    ∃ mv : List Value, KBn K d ["self", "fetch_hit", "fetch_miss", "plain", "mul", "div", "load_hit", "load_miss", "store", "taken", "count", "port", "release", "switch", "enter", "leave", "finish"] 1 ["mul", "enter"] (fun vs zs => (fun (mz : List Value) => vs ++ ((mz.drop 0).take 3) ++ ((zs.drop 0).take 1) ++ ((mz.drop 3).take 9) ++ ((zs.drop 1).take 1) ++ ((mz.drop 12).take 2)) mv) (fun vs zs => (fun (mz : List V) => vs ++ ((mz.drop 0).take 3) ++ ((zs.drop 0).take 1) ++ ((mz.drop 3).take 9) ++ ((zs.drop 1).take 1) ++ ((mz.drop 12).take 2)) [.int (1), .int (11), .int (1), .int (8), .int (1), .int (11), .int (4), .int (1), .int (2), .int (4), .int (6), .int (12), .int (5), .int (8)]) :=
  kbn_mk F (List.cons_ne_nil _ _) (normal := ["self"]) (kwonly := ["fetch_hit", "fetch_miss", "plain", "mul", "div", "load_hit", "load_miss", "store", "taken", "count", "port", "release", "switch", "enter", "leave", "finish"]) (ks := ["mul", "enter"]) [("fetch_hit", .int (1)), ("fetch_miss", .int (11)), ("plain", .int (1)), ("div", .int (8)), ("load_hit", .int (1)), ("load_miss", .int (11)), ("store", .int (4)), ("taken", .int (1)), ("count", .int (2)), ("port", .int (4)), ("release", .int (6)), ("switch", .int (12)), ("leave", .int (5)), ("finish", .int (8))] (fun vs mz zs => vs ++ ((mz.drop 0).take 3) ++ ((zs.drop 0).take 1) ++ ((mz.drop 3).take 9) ++ ((zs.drop 1).take 1) ++ ((mz.drop 12).take 2)) (by decide +kernel) rfl rfl rfl rfl rfl (by decide +kernel) (by decide +kernel) (by decide +kernel) (by decide +kernel) (fun hv hm hz => (((((hv.append ((hm.drop 0).tk 3)).append ((hz.drop 0).tk 1)).append ((hm.drop 3).tk 9)).append ((hz.drop 1).tk 1)).append ((hm.drop 12).tk 2))) fun us mv ws l1 l2 l3 => by
    match us, mv, ws, l1, l2, l3 with
    | [u0], [m0, m1, m2, m3, m4, m5, m6, m7, m8, m9, m10, m11, m12, m13], [w0, w1], _, _, _ => kernel_rfl
theorem kb_instruction_cost_2 {K : PySem.W.Frag} {a : Addr} {d : FuncData} (F : FunD K "instruction_cost" "instruction_cost" (defArgs s_instruction_cost) (defBody s_instruction_cost) (defScope s_instruction_cost) [] kws_instruction_cost a d) :
    ∃ mv : List Value, KBn K d ["costs", "instruction", "fetch_hit", "load_hit", "taken"] 2 ["fetch_hit"] (fun vs zs => (fun (mz : List Value) => vs ++ ((zs.drop 0).take 1) ++ ((mz.drop 0).take 2)) mv) (fun vs zs => (fun (mz : List V) => vs ++ ((zs.drop 0).take 1) ++ ((mz.drop 0).take 2)) [.bl true, .bl false]) :=
  kbn_mk F (List.cons_ne_nil _ _) (normal := ["costs", "instruction"]) (kwonly := ["fetch_hit", "load_hit", "taken"]) (ks := ["fetch_hit"]) [("load_hit", .bl true), ("taken", .bl false)] (fun vs mz zs => vs ++ ((zs.drop 0).take 1) ++ ((mz.drop 0).take 2)) (by decide +kernel) rfl rfl rfl rfl rfl (by decide +kernel) (by decide +kernel) (by decide +kernel) (by decide +kernel) (fun hv hm hz => ((hv.append ((hz.drop 0).tk 1)).append ((hm.drop 0).tk 2))) fun us mv ws l1 l2 l3 => by
    match us, mv, ws, l1, l2, l3 with
    | [u0, u1], [m0, m1], [w0], _, _, _ => kernel_rfl
theorem kb_instruction_cost_3 {K : PySem.W.Frag} {a : Addr} {d : FuncData} (F : FunD K "instruction_cost" "instruction_cost" (defArgs s_instruction_cost) (defBody s_instruction_cost) (defScope s_instruction_cost) [] kws_instruction_cost a d) :
    ∃ mv : List Value, KBn K d ["costs", "instruction", "fetch_hit", "load_hit", "taken"] 2 ["fetch_hit", "load_hit", "taken"] (fun vs zs => (fun (mz : List Value) => vs ++ ((zs.drop 0).take 3)) mv) (fun vs zs => (fun (mz : List V) => vs ++ ((zs.drop 0).take 3)) []) :=
  kbn_mk F (List.cons_ne_nil _ _) (normal := ["costs", "instruction"]) (kwonly := ["fetch_hit", "load_hit", "taken"]) (ks := ["fetch_hit", "load_hit", "taken"]) [] (fun vs mz zs => vs ++ ((zs.drop 0).take 3)) (by decide +kernel) rfl rfl rfl rfl rfl (by decide +kernel) (by decide +kernel) (by decide +kernel) (by decide +kernel) (fun hv hm hz => (hv.append ((hz.drop 0).tk 3))) fun us mv ws l1 l2 l3 => by
    match us, mv, ws, l1, l2, l3 with
    | [u0, u1], [], [w0, w1, w2], _, _, _ => kernel_rfl
def parts_PlanError : List Expr := [(PySem.Expr.Constant (PySem.Const.str "value ") 0 ⟨20, 27, 20, 33⟩), (PySem.Expr.FormattedValue (value := (PySem.Expr.Call (func := (PySem.Expr.Name "decimal" ⟨20, 34, 20, 41⟩)) (args := [(PySem.Expr.Name "at" ⟨20, 42, 20, 44⟩)]) (keywords := []) (pos := ⟨20, 34, 20, 45⟩))) (conversion := (-1)) (format_spec := none) (pos := ⟨20, 33, 20, 46⟩))]
theorem fo_PlanError : PySem.Errs.FldOk "at" [("decimal", .globalImplicit)] parts_PlanError ⟨20, 25, 20, 47⟩ := ⟨rfl, rfl, rfl, rfl, rfl, (by decide), fun _ _ => rfl, fun _ _ => rfl, fun _ => rfl, fun _ _ _ _ _ _ _ _ _ _ _ _ _ => .of_eq rfl⟩
structure Top (P : Program) (K : PySem.W.Frag) (mg : Str → Option Value) where
  C_Costs : Addr
  gc_Costs : mg "Costs" = some (.ref C_Costs)
  C_PlanError : Addr
  gc_PlanError : mg "PlanError" = some (.ref C_PlanError)
  C_DeadbeatError : Addr
  gc_DeadbeatError : mg "DeadbeatError" = some (.ref C_DeadbeatError)
  f_PlanError : Addr
  x_PlanError : PySem.Errs.ErrTxt P K mg "PlanError" "at" [("decimal", .globalImplicit)] parts_PlanError ⟨20, 25, 20, 47⟩ C_PlanError f_PlanError
  xd_PlanError : ExcD K C_PlanError
  xf_PlanError : XfC K C_PlanError
  kt_PlanError_DeadbeatError : PySem.W.kitOne K (.ref C_PlanError) (.ref C_DeadbeatError) = some true
  cl_Costs : Cls K C_Costs
  eq_Costs : ClsEq K C_Costs
  n_Costs_count : NoAttr K C_Costs "count"
  n_Costs_div : NoAttr K C_Costs "div"
  n_Costs_enter : NoAttr K C_Costs "enter"
  n_Costs_fetch_hit : NoAttr K C_Costs "fetch_hit"
  n_Costs_fetch_miss : NoAttr K C_Costs "fetch_miss"
  n_Costs_finish : NoAttr K C_Costs "finish"
  n_Costs_leave : NoAttr K C_Costs "leave"
  n_Costs_load_hit : NoAttr K C_Costs "load_hit"
  n_Costs_load_miss : NoAttr K C_Costs "load_miss"
  n_Costs_mul : NoAttr K C_Costs "mul"
  n_Costs_plain : NoAttr K C_Costs "plain"
  n_Costs_port : NoAttr K C_Costs "port"
  n_Costs_release : NoAttr K C_Costs "release"
  n_Costs_store : NoAttr K C_Costs "store"
  n_Costs_switch : NoAttr K C_Costs "switch"
  n_Costs_taken : NoAttr K C_Costs "taken"
  a_decimal : Addr
  d_decimal : FuncData
  F_decimal : Fun K "decimal" "decimal" s_decimal a_decimal d_decimal
  g_decimal : mg "decimal" = some (.ref a_decimal)
  b_decimal : Binds K d_decimal ["n"] []
  a__law_start : Addr
  d__law_start : FuncData
  F__law_start : Fun K "_law_start" "_law_start" s__law_start a__law_start d__law_start
  g__law_start : mg "_law_start" = some (.ref a__law_start)
  b__law_start : Binds K d__law_start ["script"] []
  a__law_draw : Addr
  d__law_draw : FuncData
  F__law_draw : Fun K "_law_draw" "_law_draw" s__law_draw a__law_draw d__law_draw
  g__law_draw : mg "_law_draw" = some (.ref a__law_draw)
  b__law_draw : Binds K d__law_draw ["state", "many"] []
  a_Costs_init : Addr
  d_Costs_init : FuncData
  F_Costs_init : FunD K "__init__" "Costs.__init__" (defArgs s_Costs_init) (defBody s_Costs_init) (defScope s_Costs_init) [] kws_Costs_init a_Costs_init d_Costs_init
  M_Costs : Mk K C_Costs a_Costs_init
  a__check_costs : Addr
  d__check_costs : FuncData
  F__check_costs : Fun K "_check_costs" "_check_costs" s__check_costs a__check_costs d__check_costs
  g__check_costs : mg "_check_costs" = some (.ref a__check_costs)
  b__check_costs : Binds K d__check_costs ["costs", "least"] []
  a__check_miss : Addr
  d__check_miss : FuncData
  F__check_miss : Fun K "_check_miss" "_check_miss" s__check_miss a__check_miss d__check_miss
  g__check_miss : mg "_check_miss" = some (.ref a__check_miss)
  b__check_miss : Binds K d__check_miss ["hit", "miss"] []
  a_instruction_cost : Addr
  d_instruction_cost : FuncData
  F_instruction_cost : FunD K "instruction_cost" "instruction_cost" (defArgs s_instruction_cost) (defBody s_instruction_cost) (defScope s_instruction_cost) [] kws_instruction_cost a_instruction_cost d_instruction_cost
  g_instruction_cost : mg "instruction_cost" = some (.ref a_instruction_cost)
  a__execution_cost : Addr
  d__execution_cost : FuncData
  F__execution_cost : Fun K "_execution_cost" "_execution_cost" s__execution_cost a__execution_cost d__execution_cost
  g__execution_cost : mg "_execution_cost" = some (.ref a__execution_cost)
  b__execution_cost : Binds K d__execution_cost ["costs", "instruction", "load_hit"] []
  a__calculation_cost : Addr
  d__calculation_cost : FuncData
  F__calculation_cost : Fun K "_calculation_cost" "_calculation_cost" s__calculation_cost a__calculation_cost d__calculation_cost
  g__calculation_cost : mg "_calculation_cost" = some (.ref a__calculation_cost)
  b__calculation_cost : Binds K d__calculation_cost ["costs", "operation"] []
  a__law_numbers : Addr
  d__law_numbers : FuncData
  F__law_numbers : Fun K "_law_numbers" "_law_numbers" s__law_numbers a__law_numbers d__law_numbers
  g__law_numbers : mg "_law_numbers" = some (.ref a__law_numbers)
  b__law_numbers : Binds K d__law_numbers ["state"] []
  a__law_made : Addr
  d__law_made : FuncData
  F__law_made : Fun K "_law_made" "_law_made" s__law_made a__law_made d__law_made
  g__law_made : mg "_law_made" = some (.ref a__law_made)
  b__law_made : Binds K d__law_made ["n"] []
  a__law_instruction : Addr
  d__law_instruction : FuncData
  F__law_instruction : Fun K "_law_instruction" "_law_instruction" s__law_instruction a__law_instruction d__law_instruction
  g__law_instruction : mg "_law_instruction" = some (.ref a__law_instruction)
  b__law_instruction : Binds K d__law_instruction ["state"] []
  a__law_expected : Addr
  d__law_expected : FuncData
  F__law_expected : Fun K "_law_expected" "_law_expected" s__law_expected a__law_expected d__law_expected
  g__law_expected : mg "_law_expected" = some (.ref a__law_expected)
  b__law_expected : Binds K d__law_expected ["n", "instruction", "fetch_hit", "load_hit", "taken"] []
  a__law_fields : Addr
  d__law_fields : FuncData
  F__law_fields : Fun K "_law_fields" "_law_fields" s__law_fields a__law_fields d__law_fields
  g__law_fields : mg "_law_fields" = some (.ref a__law_fields)
  b__law_fields : Binds K d__law_fields ["costs", "n"] []
  a_law : Addr
  d_law : FuncData
  F_law : Fun K "law" "law" s_law a_law d_law
  g_law : mg "law" = some (.ref a_law)
  b_law : Binds K d_law ["script"] []
  m_str : mg "str" = none
  m_divmod : mg "divmod" = none
  m_abs : mg "abs" = none
  m_list : mg "list" = none
  m_int : mg "int" = none
  m_len : mg "len" = none
  m_min : mg "min" = none
  m_range : mg "range" = none
  m_isinstance : mg "isinstance" = none
  m_bool : mg "bool" = none
  t_PIECE : Tok
  c_PIECE : mg "PIECE" = some (.int 1000000000000000000 t_PIECE)
  t_PIECE_DIGITS : Tok
  c_PIECE_DIGITS : mg "PIECE_DIGITS" = some (.int 18 t_PIECE_DIGITS)
  t_GREATEST_COST : Tok
  c_GREATEST_COST : mg "GREATEST_COST" = some (.int 64 t_GREATEST_COST)
  p_TAKEN_AT_TIMES : Addr
  c_TAKEN_AT_TIMES : mg "TAKEN_AT_TIMES" = some (.ref p_TAKEN_AT_TIMES)
  l_TAKEN_AT_TIMES : ∃ o, K.lookup p_TAKEN_AT_TIMES = some o ∧ o.cls = .type "tuple" ∧ o.dict = none
  q_TAKEN_AT_TIMES : ∀ H, SqT K H p_TAKEN_AT_TIMES [.str "jzero", .str "again"]
  p_ALWAYS_TAKEN : Addr
  c_ALWAYS_TAKEN : mg "ALWAYS_TAKEN" = some (.ref p_ALWAYS_TAKEN)
  l_ALWAYS_TAKEN : ∃ o, K.lookup p_ALWAYS_TAKEN = some o ∧ o.cls = .type "tuple" ∧ o.dict = none
  q_ALWAYS_TAKEN : ∀ H, SqT K H p_ALWAYS_TAKEN [.str "jump", .str "link", .str "back"]
/-- the state of the law's draws: the list at p, the cells' copy at c -/
def StOk (H : Hp) (p c : Addr) : Prop := ∃ (ms : List Int) (k : Nat) (v sd : Int), p ≠ c ∧ H p = some (.lst [.ref c, .int k, .int v, .int sd]) ∧ H c = some (.lst (ms.map V.int)) ∧ ms.length ≤ 63 ∧ 0 ≤ v ∧ 0 ≤ sd ∧ sd ≤ 2147483647
/-- all but the object at p is as it was -/
def Keep (p : Addr) (H H' : Hp) : Prop := ∀ b o, b ≠ p → H b = some o → H' b = some o
theorem Keep.refl (p : Addr) (H : Hp) : Keep p H H := fun _ _ _ h => h
theorem Keep.trans {p : Addr} {H H1 H2 : Hp} (a : Keep p H H1) (b : Keep p H1 H2) : Keep p H H2 := fun x o h1 h => b x o h1 (a x o h1 h)
theorem Keep.same {p : Addr} {H H1 : Hp} (a : Same H H1) : Keep p H H1 := fun x o _ h => a x o h
theorem Keep.at {p : Addr} {H : Hp} {o : HO} : Keep p H (upd H p o) := fun x u h1 h => by
  rw [upd_ne h1]
  exact h
theorem StOk.same {H H' : Hp} {p c : Addr} (s : StOk H p c) (e : Same H H') : StOk H' p c := by
  obtain ⟨ms, k, v, sd, h1, h2, h3, h⟩ := s
  exact ⟨ms, k, v, sd, h1, e _ _ h2, e _ _ h3, h⟩
theorem StOk.ne {H : Hp} {p c l : Addr} (s : StOk H p c) (h : H l = Option.none) : l ≠ p ∧ l ≠ c := by
  obtain ⟨ms, k, v, sd, h1, h2, h3, _⟩ := s
  exact ⟨fun z => (by rw [z, h2] at h; cases h), fun z => (by rw [z, h3] at h; cases h)⟩
/-- an address that is free behind was free before -/
theorem Keep.free {p c : Addr} {H H' : Hp} (k : Keep p H H') (s : StOk H' p c) {l : Addr} (h : H' l = Option.none) : H l = Option.none := by
  cases e : H l with
  | none => rfl
  | some o =>
    rw [k l o (s.ne h).1 e] at h
    cases h
def absI (n : Int) : Int := if n < 0 then -n else n
theorem abs_nn (n : Int) : 0 ≤ absI n := by
  unfold absI
  split <;> omega
section
variable {P : Program} {w : World} {K : PySem.W.Frag} {mg : Str → Option Value} {base : Heap}
def sp__law_start (K : PySem.W.Frag) : Sp := fun vs H Q _ => ∃ (a : Addr) (ns : List Int), vs = [.ref a] ∧ SqL K H a (ns.map V.int) ∧ ns.length ≤ 63 ∧ ∀ (H' : Hp) (p c : Addr), Same H H' → H p = none → H c = none → StOk H' p c → Q (.ref p) H'
theorem ok__law_start (T : Top P K mg) : FnOk P w K mg base CX0 1 T.a__law_start T.d__law_start ["script"]  (sp__law_start K) := by
  refine T.F__law_start.ok sc__law_start (fun vs H Q E h => ?_) (fun cdv A outer s H vs Q E hr h => ?_)
  · obtain ⟨_, _, rfl, _⟩ := h
    rfl
  · obtain ⟨a, ns, rfl, hS, hlen, q⟩ := h
    refine ⟨_, (pss_cons (ps_set (i := 1) sc__law_start.nd rfl (by first | exact Or.inl rfl | exact Or.inr rfl) pe_int)
  (pss_cons (ps_for PassesOwn.never rfl (pi_list (pv 0)) (pg_name (i := 2) sc__law_start.nd rfl (by first | exact Or.inl rfl | exact Or.inr rfl))
  (pss_one (ps_set (i := 1) sc__law_start.nd rfl (by first | exact Or.inl rfl | exact Or.inr rfl) (pe_op op_mod (pe_callTy call_int1 (by rfl) T.m_int (by decide +kernel) (pa_cons (pe_op op_add (pe_op op_mul (pv 1) pe_int) (pv 2)) pa_nil)) pe_int))))
  (pss_one (ps_ret (pe_lst (pa_cons (pe_callTy call_list_of (by rfl) T.m_list (by decide +kernel) (pa_cons (pv 0) pa_nil)) (pa_cons pe_int (pa_cons pe_int (pa_cons (pe_op op_add (pv 1) pe_int) pa_nil))))))))), ?_⟩
    refine ⟨_, rfl, a, rfl, ⟨_, hS⟩, for_list (xs := ns.map V.int) (fun i σ H' => ∃ sd y2, σ = [some (.ref a), some (.int sd), y2] ∧ H' = H ∧ 0 ≤ sd ∧ sd < 1000003) ⟨7, none, rfl, rfl, by decide, by decide⟩ (fun i σ H' _ ⟨_, _, _, e, _⟩ => by rw [e]; exact hS) ?_ ?_⟩
    · rintro i x σ H' hi ⟨sd, y2, rfl, rfl, h0, h1⟩
      obtain ⟨n, _, rfl⟩ := List.mem_map.mp (List.mem_of_getElem? hi)
      refine ⟨_, rfl, _, _, rfl, rfl, .inl ⟨by omega, by omega⟩, _, rfl, _, _, rfl, rfl, .inl ⟨_, rfl, _, _, rfl, rfl, (by show (0 : Int) < 1000003; decide), ?_⟩⟩
      exact ⟨_, _, rfl, rfl, Int.emod_nonneg _ (by decide), Int.emod_lt_of_pos _ (by decide)⟩
    · rintro σ H' ⟨sd, y2, rfl, rfl, h0, h1⟩
      refine ⟨_, rfl, a, _, rfl, .inl hS, fun c hc => ?_⟩
      refine ⟨_, rfl, _, _, rfl, rfl, (by show 4 ≤ sizeLine; decide), fun p hp => ?_⟩
      have npc : p ≠ c := fun z => by rw [z, upd_same] at hp; cases hp
      refine q _ p c ((same_new hc).trans (same_new hp)) ((same_new hc).free hp) hc ⟨ns, 0, 0, sd + 1, npc, upd_same, ?_, hlen, by decide, by omega, by omega⟩
      rw [upd_ne npc.symm, upd_same]
      all_goals rfl
theorem ix4 {n : Nat} {i : Int} {j : Nat} (e : i = (j : Int)) (h : j < n) : ixN n i = some j := by
  subst e
  unfold ixN
  rw [if_pos (by omega), if_pos (by omega)]
  rfl
def sp__law_draw : Sp := fun vs H Q _ => ∃ (p c : Addr) (many : Int), vs = [.ref p, .int many] ∧ StOk H p c ∧ 0 < many ∧ many ≤ 1099511627775 ∧ ∀ (v : Int) (H' : Hp), 0 ≤ v → v < many → StOk H' p c → Keep p H H' → Q (.int v) H'
theorem ok__law_draw (T : Top P K mg) : FnOk P w K mg base CX0 1 T.a__law_draw T.d__law_draw ["state", "many"]  sp__law_draw := by
  refine T.F__law_draw.ok sc__law_draw (fun vs H Q E h => ?_) (fun cdv A outer s H vs Q E hr h => ?_)
  · obtain ⟨_, _, _, rfl, _⟩ := h
    rfl
  · obtain ⟨p, c, many, rfl, hst, hm0, hm1, q⟩ := h
    obtain ⟨ms, k, v, sd, npc, hp, hc, hl, v0, s0, s1⟩ := hst
    refine ⟨_, (pss_cons (ps_if (pt_cmpR op_eq (pe_ix ix_list (pv 0) pe_int (fun _ _ => rfl)) pe_int (nomark _))
  (pss_cons (ps_if (pt_cmpR op_lt (pe_ix ix_list (pv 0) pe_int (fun _ _ => rfl)) (pe_callB call_len_seq (by rfl) T.m_len PySem.boot_len (pa_cons (pe_ix ix_list (pv 0) pe_int (fun _ _ => rfl)) pa_nil)) (nomark _))
  (pss_one (ps_asg (pe_callB call_abs (by rfl) T.m_abs (by decide +kernel) (pa_cons (pe_ix ix_list (pe_ix ix_list (pv 0) pe_int (fun _ _ => rfl)) (pe_ix ix_list (pv 0) pe_int (fun _ _ => rfl)) (fun _ _ => rfl)) pa_nil)) (pg_sub (pv 0) pe_int set_list)))
  (pss_cons (ps_asg (pe_op op_mod (pe_callTy call_int1 (by rfl) T.m_int (by decide +kernel) (pa_cons (pe_op op_add (pe_op op_mul (pe_ix ix_list (pv 0) pe_int (fun _ _ => rfl)) pe_int) pe_int) pa_nil)) pe_int) (pg_sub (pv 0) pe_int set_list))
  (pss_one (ps_asg (pe_op op_fdivW (pe_callTy call_int1 (by rfl) T.m_int (by decide +kernel) (pa_cons (pe_ix ix_list (pv 0) pe_int (fun _ _ => rfl)) pa_nil)) pe_int) (pg_sub (pv 0) pe_int set_list)))))
  (pss_one (ps_asg (pe_op op_add (pe_ix ix_list (pv 0) pe_int (fun _ _ => rfl)) pe_int) (pg_sub (pv 0) pe_int set_list))))
  pss_nil)
  (pss_cons (ps_set (i := 2) sc__law_draw.nd rfl (by first | exact Or.inl rfl | exact Or.inr rfl) (pe_op op_mod (pe_callTy call_int1 (by rfl) T.m_int (by decide +kernel) (pa_cons (pe_ix ix_list (pv 0) pe_int (fun _ _ => rfl)) pa_nil)) (pv 1)))
  (pss_cons (ps_asg (pe_op op_fdivW (pe_callTy call_int1 (by rfl) T.m_int (by decide +kernel) (pa_cons (pe_ix ix_list (pv 0) pe_int (fun _ _ => rfl)) pa_nil)) (pv 1)) (pg_sub (pv 0) pe_int set_list))
  (pss_one (ps_ret (pv 2)))))), ?_⟩
    have fin : ∀ (k' : Nat) (v' sd' : Int) (H' : Hp), H' = upd H p (.lst [.ref c, .int k', .int v', .int sd']) → 0 ≤ v' → 0 ≤ sd' → sd' ≤ 2147483647 → Q (.int (v' % many)) (upd H' p (.lst [.ref c, .int k', .int (v' / many), .int sd'])) := fun k' v' sd' H' e hv h0 h1 => by
      subst e
      refine q _ _ (Int.emod_nonneg _ (by omega)) (Int.emod_lt_of_pos _ hm0) ⟨ms, k', v' / many, sd', npc, upd_same, ?_, hl, Int.ediv_nonneg hv (by omega), h0, h1⟩ ?_
      · rw [upd_ne npc.symm, upd_ne npc.symm]
        exact hc
      · exact Keep.at.trans Keep.at
    have hw : many.natAbs < 2 ^ 40 := by omega
    refine ⟨_, rfl, p, _, 2, .int v, rfl, rfl, SqL.of hp, atI_nat (j := 2) rfl, rfl, _, rfl, ite2 (fun cc => ?_) (fun cc => ?_)⟩
    · -- the next cell, or a mixed one
      have key : ∀ (v2 sd2 : Int) (H2 : Hp), H2 = upd H p (.lst [.ref c, .int k, .int v2, .int sd2]) → 0 ≤ v2 → 0 ≤ sd2 → sd2 ≤ 2147483647 → _ := fun v2 sd2 H2 e hv h0 h1 => fin (k + 1) v2 sd2 (upd H2 p (.lst [.ref c, .int ((k + 1 : Nat) : Int), .int v2, .int sd2])) (by rw [e, upd_upd]) hv h0 h1
      refine ⟨_, rfl, p, _, 1, .int k, rfl, rfl, SqL.of hp, atI_nat (j := 1) rfl, _, rfl, p, _, 0, .ref c, rfl, rfl, SqL.of hp, atI_nat (j := 0) rfl, c, _, rfl, .inl (SqL.of hc), _, _, rfl, rfl, _, rfl, ite2 (fun c2 => ?_) (fun c2 => ?_)⟩
      · have hk : k < ms.length := by
          have := of_decide_eq_true c2
          rw [List.length_map] at this
          omega
        obtain ⟨m, hm⟩ : ∃ m, ms[k]? = some m := ⟨_, List.getElem?_eq_getElem hk⟩
        refine ⟨_, rfl, p, _, 0, .ref c, rfl, rfl, SqL.of hp, atI_nat (j := 0) rfl, _, rfl, p, _, 1, .int k, rfl, rfl, SqL.of hp, atI_nat (j := 1) rfl, c, _, k, .int m, rfl, rfl, SqL.of hc, atI_nat (j := k) (by rw [List.getElem?_map, hm]; rfl), _, rfl, ?_⟩
        refine ⟨_, rfl, p, _, 2, 2, rfl, rfl, hp, rfl, ?_⟩
        refine ⟨_, rfl, p, _, 1, .int k, rfl, rfl, SqL.of upd_same, atI_nat (j := 1) rfl, _, _, rfl, rfl, _, rfl, p, _, 1, 1, rfl, rfl, upd_same, rfl, ?_⟩
        refine ⟨_, rfl, p, _, 2, .int (absI m), rfl, rfl, SqL.of upd_same, atI_nat (j := 2) rfl, .inl ⟨_, rfl, _, rfl, _, _, rfl, rfl, hm0, ?_⟩⟩
        refine ⟨_, rfl, p, _, 2, .int (absI m), rfl, rfl, SqL.of upd_same, atI_nat (j := 2) rfl, .inl ⟨_, rfl, _, rfl, _, _, rfl, rfl, wide_div hm0 hw (by decide) (by decide), _, rfl, p, _, 2, 2, rfl, rfl, upd_same, rfl, ?_⟩⟩
        exact ⟨_, rfl, key (absI m) sd _ rfl (abs_nn m) s0 s1⟩
      · have m0 := Int.emod_nonneg (sd * 48271 + 12345) (show (2147483647 : Int) ≠ 0 by decide)
        have m1 := Int.emod_lt_of_pos (sd * 48271 + 12345) (show (0 : Int) < 2147483647 by decide)
        refine ⟨_, rfl, p, _, 3, .int sd, rfl, rfl, SqL.of hp, atI_nat (j := 3) rfl, _, _, rfl, rfl, .inl ⟨by omega, by omega⟩, _, _, rfl, rfl, .inl ⟨_, rfl, _, _, rfl, rfl, (by show (0 : Int) < 2147483647; decide), ?_⟩⟩
        refine ⟨_, rfl, p, _, 3, 3, rfl, rfl, hp, rfl, ?_⟩
        refine ⟨_, rfl, p, _, 3, .int ((sd * 48271 + 12345) % 2147483647), rfl, rfl, SqL.of upd_same, atI_nat (j := 3) rfl, .inl ⟨_, rfl, _, _, rfl, rfl, wide_div (b := 10) (by decide) (by decide) (by decide) (by decide), _, rfl, p, _, 2, 2, rfl, rfl, upd_same, rfl, ?_⟩⟩
        refine ⟨_, rfl, p, _, 1, .int k, rfl, rfl, SqL.of upd_same, atI_nat (j := 1) rfl, _, _, rfl, rfl, _, rfl, p, _, 1, 1, rfl, rfl, upd_same, rfl, ?_⟩
        refine ⟨_, rfl, p, _, 2, .int ((sd * 48271 + 12345) % 2147483647 / 64), rfl, rfl, SqL.of upd_same, atI_nat (j := 2) rfl, .inl ⟨_, rfl, _, rfl, _, _, rfl, rfl, hm0, ?_⟩⟩
        refine ⟨_, rfl, p, _, 2, .int ((sd * 48271 + 12345) % 2147483647 / 64), rfl, rfl, SqL.of upd_same, atI_nat (j := 2) rfl, .inl ⟨_, rfl, _, rfl, _, _, rfl, rfl, wide_div hm0 hw (by decide) (by decide), _, rfl, p, _, 2, 2, rfl, rfl, upd_same, rfl, ?_⟩⟩
        exact ⟨_, rfl, key ((sd * 48271 + 12345) % 2147483647 / 64) ((sd * 48271 + 12345) % 2147483647) _ (by rw [upd_upd]; rfl) (Int.ediv_nonneg m0 (by decide)) m0 (by omega)⟩
    · refine ⟨_, rfl, p, _, 2, .int v, rfl, rfl, SqL.of hp, atI_nat (j := 2) rfl, .inl ⟨_, rfl, _, rfl, _, _, rfl, rfl, hm0, ?_⟩⟩
      refine ⟨_, rfl, p, _, 2, .int v, rfl, rfl, SqL.of hp, atI_nat (j := 2) rfl, .inl ⟨_, rfl, _, rfl, _, _, rfl, rfl, wide_div hm0 hw (by decide) (by decide), _, rfl, p, _, 2, 2, rfl, rfl, hp, rfl, ?_⟩⟩
      have := fin k v sd H (upd_self hp).symm v0 s0 s1
      exact ⟨_, rfl, this⟩
end

theorem bits_lt {n : Int} (h : Builtin.Int.intBits n ≤ 1048576) : n.natAbs < 2 ^ 1048576 := by
  unfold Builtin.Int.intBits at h
  by_cases e : n = 0
  · subst e; exact Nat.pow_pos (by decide)
  · have z : (n == 0) = false := by simpa using e
    rw [z] at h
    have h2 : n.natAbs.log2 < 1048576 := h
    exact (Nat.log2_lt (by omega)).mp h2
/-! ### deadbeat.words, decimal: an integer in decimal, some digits at a time -/
theorem dec_str (m : Nat) (h : m < 1000000000000000000) : (Str.ofString (toString ((m : Nat) : Int))).length ≤ 18 := by
  rw [SX.num_S m, SX.S_len]
  exact TL.numL_len (k := 18) (by decide) (by omega)
theorem dec_log (m : Nat) (h : m < 1000000000000000000) : ((m : Int).natAbs).log2 < 1920 := by
  by_cases h0 : m = 0
  · subst h0; decide
  · have z : ((m : Int).natAbs) = m := rfl
    rw [z]
    exact Nat.lt_trans ((Nat.log2_lt h0).mpr (show m < 2 ^ 60 by omega)) (by decide)
theorem zfill_le (x : Str) (h : x.length ≤ 18) : (Txt.zfill x 18).length ≤ 18 := by
  unfold Txt.zfill
  by_cases c : (18 : Int) ≤ x.length
  · rw [if_pos c]; exact h
  · rw [if_neg c]
    unfold PySem.zfilled
    have key : ∀ c, x.cps[0]? = some c → 1 ≤ x.length := fun c hc => (Array.getElem?_eq_some_iff.mp hc).1
    split
    · rename_i hc'
      have h2 := key _ hc'
      rw [PySem.size_cat, PySem.size_padded, PySem.size_strSub x 0 1 h2, PySem.size_strSub x 1 x.length (Nat.le_refl _)]; omega
    · rename_i hc'
      have h2 := key _ hc'
      rw [PySem.size_cat, PySem.size_padded, PySem.size_strSub x 0 1 h2, PySem.size_strSub x 1 x.length (Nat.le_refl _)]; omega
    · rw [PySem.size_padded]; omega
/-- the pieces so far: some short texts, what is left of n -/
structure DecInv (n : Int) (ps : List Str) (r : Int) : Prop where
  r0 : 0 ≤ r
  pos : ps = [] ∧ r = n.natAbs ∨ 1 ≤ r ∧ 1000000000000000000 ≤ n.natAbs
  le : r.toNat * (1000000000000000000 : Nat) ^ ps.length ≤ n.natAbs
  short : ∀ p ∈ ps, p.length ≤ 18
theorem dec_count {n : Int} {ps : List Str} {r : Int} (d : DecInv n ps r) (h : n.natAbs < 2 ^ 1048576) : ps.length ≤ 20000 := by
  rcases d.pos with ⟨e, _⟩ | e
  · rw [e]; exact Nat.zero_le _
  · have h1 : 1 ≤ r.toNat := by omega
    have h2 : (2 ^ 59 : Nat) ^ ps.length ≤ n.natAbs :=
      Nat.le_trans (Nat.pow_le_pow_left (show (2 ^ 59 : Nat) ≤ 1000000000000000000 by decide) _) (Nat.le_trans (Nat.le_mul_of_pos_left _ h1) d.le)
    rw [← Nat.pow_mul] at h2
    have h3 : 59 * ps.length < 1048576 := (Nat.pow_lt_pow_iff_right (by decide : 1 < 2)).mp (Nat.lt_of_le_of_lt h2 h)
    omega
theorem sum_short {ps : List Str} (h : ∀ p ∈ ps, p.length ≤ 18) : (ps.map (·.length)).sum ≤ 18 * ps.length := by
  induction ps with
  | nil => simp
  | cons a r ih =>
    have h1 := h a (by simp)
    have h2 := ih fun p hp => h p (by simp [hp])
    simp only [List.map_cons, List.sum_cons, List.length_cons]
    omega
section
variable {P : Program} {w : World} {K : PySem.W.Frag} {mg : Str → Option Value} {base : Heap}
def sp_decimal : Sp := fun vs H Q _ => ∃ n : Int, vs = [.int n] ∧ n.natAbs < 2 ^ 1048576 ∧
  ∀ (z : Str) (H' : Hp), z.length ≤ 1000000 → (0 ≤ n → n < 1000000000000000000 → z = toString n) → Same H H' → Q (.str z) H'
theorem ok_decimal (T : Top P K mg) : FnOk P w K mg base CX0 1 T.a_decimal T.d_decimal ["n"]  sp_decimal := by
  refine T.F_decimal.ok sc_decimal (fun vs H Q E h => ?_) (fun cdv A outer s H vs Q E hr h => ?_)
  · obtain ⟨_, rfl, _⟩ := h
    rfl
  · obtain ⟨n, rfl, hn, q⟩ := h
    refine ⟨_, (pss_cons (ps_set (i := 1) sc_decimal.nd rfl (by first | exact Or.inl rfl | exact Or.inr rfl) (pe_lst pa_nil))
  (pss_cons (ps_set (i := 2) sc_decimal.nd rfl (by first | exact Or.inl rfl | exact Or.inr rfl) (pe_callB call_abs (by rfl) T.m_abs (by decide +kernel) (pa_cons (pv 0) pa_nil)))
  (pss_cons (ps_while PassesOwn.never (pt_cmpR op_ge (pv 2) (pe_gi (by rfl) T.c_PIECE) (nomark _))
  (pss_cons (ps_asg (pe_callB call_divmodW (by rfl) T.m_divmod (by decide +kernel) (pa_cons (pv 2) (pa_cons (pe_gi (by rfl) T.c_PIECE) pa_nil))) (pg_tup rfl (pgs_cons (pg_name (i := 2) sc_decimal.nd rfl (by first | exact Or.inl rfl | exact Or.inr rfl)) (pgs_cons (pg_name (i := 3) sc_decimal.nd rfl (by first | exact Or.inl rfl | exact Or.inr rfl)) pgs_nil))))
  (pss_one (ps_expr (pe_bm PySem.F.plainAttrs_list PySem.F.slot_list_append PySem.F.type_list_append mt_append (pv 1) (pa_cons (pe_bm PySem.F.plainAttrs_str PySem.F.slot_str_zfill PySem.F.type_str_zfill mt_zfill (pe_callTy call_str_int (by rfl) T.m_str (by decide +kernel) (pa_cons (pv 3) pa_nil)) (pa_cons (pe_gi (by rfl) T.c_PIECE_DIGITS) pa_nil)) pa_nil))))))
  (pss_cons (ps_expr (pe_bm PySem.F.plainAttrs_list PySem.F.slot_list_append PySem.F.type_list_append mt_append (pv 1) (pa_cons (pe_callTy call_str_int (by rfl) T.m_str (by decide +kernel) (pa_cons (pv 2) pa_nil)) pa_nil)))
  (Evl.pss_cut (ps_if (pt_cmpR op_lt (pv 0) pe_int (nomark _))
  (pss_one (ps_expr (pe_bm PySem.F.plainAttrs_list PySem.F.slot_list_append PySem.F.type_list_append mt_append (pv 1) (pa_cons pe_str pa_nil))))
  pss_nil)
  (pss_one (ps_ret (pe_bm PySem.F.plainAttrs_str PySem.F.slot_str_join PySem.F.type_str_join mt_join pe_str (pa_cons (pe_revL (pv 1)) pa_nil))))))))), ?_⟩
    refine ⟨Nat.zero_le _, fun p np => ?_⟩
    refine ⟨_, rfl, n, rfl, ?_⟩
    have ea : (if n < 0 then -n else n) = ((n.natAbs : Nat) : Int) := by split <;> omega
    show gName 2 (V.int (if n < 0 then -n else n)) _ _ _
    rw [ea]
    refine while_by (fun σ H' => ∃ (ps : List Str) (r : Int) (y : Option V), σ = [some (.int n), some (.ref p), some (.int r), y] ∧ H' p = some (.lst (ps.map V.str)) ∧ Same H H' ∧ DecInv n ps r)
      (fun σ _ => match σ with | [_, _, some (.int r), _] => r.toNat | _ => 0) ⟨[], _, none, rfl, upd_same, same_new np, ⟨by omega, .inl ⟨rfl, rfl⟩, by simp, by simp⟩⟩ ?_ ?_
    rotate_left
    · intro σ H' Q1 Q2 f h
      obtain ⟨i, h1, j, h2, a, h3, h4, h5, h6⟩ := h
      exact ⟨i, h1, j, h2, a, h3, h4, h5, f _ _ h6⟩
    · rintro σ H1 ⟨ps, r, y, rfl, hp, sm, d⟩
      have hcnt := dec_count d hn
      refine ⟨_, rfl, _, _, rfl, rfl, _, rfl, ?_⟩
      by_cases c : (1000000000000000000 : Int) ≤ r
      · rw [decide_eq_true c]
        refine iteT ?_
        refine ⟨_, rfl, _, _, rfl, ⟨by decide, PyProof.noPylong_of_log2 (by decide)⟩, fun t nt => ?_⟩
        have tp : p ≠ t := ne_of_none hp nt
        obtain ⟨lo, elo⟩ : ∃ lo : Nat, r % 1000000000000000000 = (lo : Int) := ⟨(r % 1000000000000000000).toNat, by omega⟩
        have lo1 : lo < 1000000000000000000 := by omega
        rw [elo]
        refine ⟨t, _, rfl, SqT.of upd_same, rfl, _, _, rfl, _, _, rfl, rfl, ?_⟩
        have hp' : upd H1 t (.tup [.int (r / 1000000000000000000), .int (lo : Int)]) p = some (.lst (ps.map V.str)) := by rw [upd_ne tp]; exact hp
        refine ⟨_, rfl, .inl ⟨rfl, _, SqL.of hp'⟩, _, rfl, _, rfl, dec_log lo lo1, rfl, _, _, rfl, rfl, rfl, p, _, _, rfl, rfl, hp', ?_, ?_⟩
        · rw [List.length_map, sizeLine_eq]; omega
        have z1 := zfill_le _ (dec_str lo lo1)
        refine ⟨⟨ps ++ [Txt.zfill (Str.ofString (toString ((lo : Nat) : Int))) 18], _, _, rfl, by rw [upd_same, List.map_append]; rfl, (sm.off (sm.free nt)).off np, ?_⟩, ?_⟩
        · have big : 1000000000000000000 ≤ n.natAbs := by
            have := Nat.le_trans (Nat.le_mul_of_pos_right r.toNat (Nat.pow_pos (n := ps.length) (by decide : 0 < 1000000000000000000))) d.le
            omega
          refine ⟨by omega, .inr ⟨by omega, big⟩, ?_, fun x hx => ?_⟩
          · rw [List.length_append, List.length_singleton, Nat.pow_succ, Nat.mul_comm ((1000000000000000000 : Nat) ^ ps.length), ← Nat.mul_assoc]
            refine Nat.le_trans (Nat.mul_le_mul_right _ ?_) d.le
            omega
          · rcases List.mem_append.mp hx with hx | hx
            · exact d.short x hx
            · rw [List.mem_singleton.mp hx]; exact z1
        · show (r / 1000000000000000000).toNat < r.toNat
          omega
      · rw [decide_eq_false c]
        refine iteF ?_
        have r0 := d.r0
        obtain ⟨m, rfl⟩ : ∃ m : Nat, r = (m : Int) := ⟨r.toNat, by omega⟩
        have m1 : m < 1000000000000000000 := by omega
        refine ⟨_, rfl, .inl ⟨rfl, _, SqL.of hp⟩, _, rfl, _, rfl, dec_log m m1, p, _, _, rfl, rfl, hp, ?_, ?_⟩
        · rw [List.length_map, sizeLine_eq]; omega
        obtain ⟨qs, eqs⟩ : ∃ qs : List Str, qs = ps ++ [Str.ofString (toString ((m : Nat) : Int))] := ⟨_, rfl⟩
        have hq : upd H1 p (.lst (ps.map V.str ++ [V.str (Str.ofString (toString ((m : Nat) : Int)))])) p = some (.lst (qs.map V.str)) := by rw [upd_same, eqs, List.map_append]; rfl
        have sm2 : Same H (upd H1 p (.lst (ps.map V.str ++ [V.str (Str.ofString (toString ((m : Nat) : Int)))]))) := sm.off np
        have short : ∀ x ∈ qs, x.length ≤ 18 := fun x hx => by
          rw [eqs] at hx
          rcases List.mem_append.mp hx with hx | hx
          · exact d.short x hx
          · rw [List.mem_singleton.mp hx]; exact dec_str m m1
        have cnt : qs.length ≤ 20001 := by rw [eqs, List.length_append, List.length_singleton]; omega
        refine ⟨fun σ' H2 => ∃ rs : List Str, σ' = [some (.int n), some (.ref p), some (.int (m : Int)), y] ∧ (∀ x ∈ rs, x.length ≤ 18) ∧ rs.length ≤ 20002 ∧ H2 p = some (.lst (rs.map V.str)) ∧ Same H H2 ∧ (0 ≤ n → n < 1000000000000000000 → rs = [Str.ofString (toString n)]), ?_, ?_⟩
        · refine ⟨_, rfl, _, _, rfl, rfl, _, rfl, ite2 (fun c2 => ?_) (fun c2 => ?_)⟩
          · have neg := of_decide_eq_true c2
            refine ⟨_, rfl, .inl ⟨rfl, _, SqL.of hq⟩, p, _, _, rfl, rfl, hq, ?_, ?_⟩
            · rw [List.length_map, sizeLine_eq]; omega
            · refine ⟨qs ++ [("-" : Str)], rfl, fun x hx => ?_, ?_, (by rw [upd_same, List.map_append]; rfl), sm2.off np, fun a _ => absurd neg (by omega)⟩
              · rcases List.mem_append.mp hx with hx | hx
                · exact short x hx
                · rw [List.mem_singleton.mp hx]; decide
              · rw [List.length_append]; exact Nat.succ_le_succ cnt
          · refine ⟨qs, rfl, short, (by omega), hq, sm2, fun a b => ?_⟩
            rcases d.pos with ⟨e, e2⟩ | ⟨e, e2⟩
            · have e3 : n = (m : Int) := by omega
              rw [eqs, e, e3]
              rfl
            · omega
        · rintro σ' H2 ⟨rs, rfl, hs, hl, h2, s2, hz⟩
          have sum := sum_short (ps := rs.reverse) (fun x hx => hs x (List.mem_reverse.mp hx))
          rw [List.length_reverse] at sum
          have e0 : ("" : Str).length = 0 := rfl
          refine ⟨rfl, _, rfl, p, _, rfl, SqL.of h2, fun u nu => ⟨"", u, rs.reverse, rfl, rfl, .inl (SqL.of (by rw [upd_same, List.map_reverse])), ?_, q _ _ ?_ (fun a b => ?_) (s2.trans (same_new nu))⟩⟩
          · rw [e0]; omega
          · show (PySem.Builtin.Str.glued "" rs.reverse).length ≤ _
            rw [PySem.size_glued, e0]; omega
          · rw [hz a b]
            rfl
end

/-! ### the costs of the processor -/
structure Cost where
  (fh fm pl mu dv lh lm st tk ct po rl sw en lv fi : Int)
def Cost.l (c : Cost) : List Int := [c.fh, c.fm, c.pl, c.mu, c.dv, c.lh, c.lm, c.st, c.tk, c.ct, c.po, c.rl, c.sw, c.en, c.lv, c.fi]
def Cost.fs (c : Cost) : List (Str × V) := [("fetch_hit", .int c.fh), ("fetch_miss", .int c.fm), ("plain", .int c.pl), ("mul", .int c.mu), ("div", .int c.dv), ("load_hit", .int c.lh), ("load_miss", .int c.lm), ("store", .int c.st), ("taken", .int c.tk), ("count", .int c.ct), ("port", .int c.po), ("release", .int c.rl), ("switch", .int c.sw), ("enter", .int c.en), ("leave", .int c.lv), ("finish", .int c.fi)]
/-- all its numbers are small -/
def Cost.Sm (c : Cost) : Prop := ∀ x ∈ c.l, -1 ≤ x ∧ x ≤ 1000
structure Cost.Ok (c : Cost) : Prop where
  a : ∀ x ∈ [c.fh, c.fm, c.pl, c.mu, c.dv, c.lh, c.lm, c.st, c.tk, c.ct, c.po], 1 ≤ x ∧ x ≤ 64
  b : ∀ x ∈ [c.rl, c.sw, c.en, c.lv, c.fi], 0 ≤ x ∧ x ≤ 64
  f : c.fh ≤ c.fm
  l : c.lh ≤ c.lm
theorem Cost.sm1 {c : Cost} (h : c.Sm) : ∀ x ∈ [c.fh, c.fm, c.pl, c.mu, c.dv, c.lh, c.lm, c.st, c.tk, c.ct, c.po], -1 ≤ x ∧ x ≤ 1000 := fun x m => h x (List.mem_append_left [c.rl, c.sw, c.en, c.lv, c.fi] m)
theorem Cost.sm2 {c : Cost} (h : c.Sm) : ∀ x ∈ [c.rl, c.sw, c.en, c.lv, c.fi], -1 ≤ x ∧ x ≤ 1000 := fun x m => h x (List.mem_append_right [c.fh, c.fm, c.pl, c.mu, c.dv, c.lh, c.lm, c.st, c.tk, c.ct, c.po] m)
def CostsAt (C : Addr) (H : Hp) (o : Addr) (c : Cost) : Prop := ∃ dx, H o = some (.ins C dx c.fs)
theorem CostsAt.same {C : Addr} {H H' : Hp} {o : Addr} {c : Cost} (h : CostsAt C H o c) (s : Same H H') : CostsAt C H' o c := by
  obtain ⟨dx, h⟩ := h
  exact ⟨dx, s _ _ h⟩
theorem msg_pl {P : Program} {w : World} {K : PySem.W.Frag} {mg : Str → Option Value} {base : Heap} (T : Top P K mg) {CX : CXT} {N : List Str} {qual : Str} {scope : Scope} {f : Addr} {cd : Value} {A : Around} {outer : List Env} {s : Shared} {H : Hp} {E : XK} {mp : Pos} {n : Int} (h : -1 ≤ n) (h2 : n ≤ 100000) :
    MsgV (cxOf CX P w K mg base N qual scope f cd A outer s H E) 1 [("decimal", .globalImplicit)] parts_PlanError mp "at" (.int n) :=
  have hb : n.natAbs < 2 ^ 1048576 := Nat.lt_of_le_of_lt (show n.natAbs ≤ 100000 by omega) (Nat.lt_of_lt_of_le (show 100000 < 2 ^ 17 by decide) (Nat.pow_le_pow_right (by decide) (by decide)))
  msg_dec2 (X := cxOf CX P w K mg base N qual scope f cd A outer s H E) (ok_decimal T) T.g_decimal T.F_decimal.kp T.b_decimal (fun Q E q => ⟨n, rfl, hb, fun z H' hz _ _ => q z H' hz⟩) rfl rfl (by decide) (fun _ => rfl) (by decide)
theorem and_cut {a b : Prop} [Decidable a] [Decidable b] {G : Prop} (h : ¬ (a ∧ b)) (h1 : decide a = false → G) (h2 : decide a = true → decide b = false → G) : G := by
  by_cases ha : a
  · exact h2 (decide_eq_true ha) (decide_eq_false fun hb => h ⟨ha, hb⟩)
  · exact h1 (decide_eq_false ha)
def AtOut (C : Addr) (H : Hp) (E : XK) : Prop := ∀ (n : Int) H' d, Same H H' → H d = none → H' d = some (.xd [(("at" : Str), .int n)]) → E (.ref C) (some d) H'

section
variable {P : Program} {w : World} {K : PySem.W.Frag} {mg : Str → Option Value} {base : Heap}
def sp__check_costs (K : PySem.W.Frag) (PE : Addr) : Sp := fun vs H Q E => ∃ (l : Addr) (ns : List Int) (n : Int), vs = [.ref l, .int n] ∧ SqL K H l (ns.map V.int) ∧ ns.length ≤ 100 ∧ (∀ x ∈ ns, -1 ≤ x ∧ x ≤ 1000) ∧
  ((∀ x ∈ ns, n ≤ x ∧ x ≤ 64) → Q .non H) ∧ (¬ (∀ x ∈ ns, n ≤ x ∧ x ≤ 64) → AtOut PE H E)
theorem ok__check_costs (T : Top P K mg) : FnOk P w K mg base (L2.CX P w) 4 T.a__check_costs T.d__check_costs ["costs", "least"]  (sp__check_costs K T.C_PlanError) := by
  refine T.F__check_costs.okX sc__check_costs (fun vs H Q E h => ?_) (fun cdv A outer s H vs Q E hr h => ?_)
  · obtain ⟨_, _, _, rfl, _⟩ := h
    rfl
  · obtain ⟨l, ns, n, rfl, hl, ln, sm, q, qe⟩ := h
    refine ⟨_, (pss_one (ps_for (passes_of rfl) rfl (pi_list (pv 0)) (pg_name (i := 2) sc__check_costs.nd rfl (by first | exact Or.inl rfl | exact Or.inr rfl))
  (pss_one (ps_if (pt_not (pt_chain op_le op_le (pv 1) (pv 2) (pe_gi (by rfl) T.c_GREATEST_COST)))
  (pss_one (ps_raiseErr (lv := 1) rfl T.x_PlanError fo_PlanError hr (takes_of rfl rfl rfl rfl) (pa_cons (pv 2) pa_nil)))
  pss_nil)))), ?_⟩
    rw [show ∀ a0 a1 : V, L2.start ["costs", "least", "cost"] [a0, a1] = [some a0, some a1, none] from fun _ _ => rfl]
    walk_at "my rn"
    refine for_it (walk_list (xs := ns.map V.int)) (fun i σ H' => ∃ y, σ = [some (.ref l), some (.int n), y] ∧ H' = H ∧ ∀ x ∈ ns.take i, n ≤ x ∧ x ≤ 64) ⟨none, rfl, rfl, fun x m => by rw [List.take_zero] at m; cases m⟩ (fun i σ H' _ ⟨_, _, e, _⟩ => by rw [e]; exact hl) ?_ ?_
    · rintro i x σ Ho H' hi ⟨y, rfl, rfl, al⟩ ⟨rfl, hx⟩
      rw [List.getElem?_map] at hx
      obtain ⟨v, hv, rfl⟩ : ∃ v, ns[i]? = some v ∧ V.int v = x := by
        cases z : ns[i]? with
        | none => rw [z] at hx; cases hx
        | some v => rw [z] at hx; exact ⟨v, rfl, Option.some.inj hx⟩
      have mv := List.mem_of_getElem? hv
      have bv := sm v mv
      walk_at "my rn"
      refine Rd.ifD (fun h1 => ?_) fun h1 => ?_
      · walk_at "my rn"
        refine Rd.ifN (p := v ≤ 64) (fun h2 => ?_) fun h2 => ?_
        · refine ⟨_, rfl, _, rfl, msg_pl T (by omega) (by omega), fun d hd => ?_⟩
          exact qe (fun z => h2 (z v mv).2) _ _ d (same_new hd) hd upd_same
        · refine ⟨_, rfl, rfl, fun x m => ?_⟩
          rw [List.take_add_one, hv] at m
          rcases List.mem_append.mp m with m | m
          · exact al x m
          · rw [show x = v from by simpa using m]
            omega
      · walk_at "my rn"
        refine ⟨_, rfl, _, rfl, msg_pl T (by omega) (by omega), fun d hd => ?_⟩
        exact qe (fun z => h1 (z v mv).1) _ _ d (same_new hd) hd upd_same
    · rintro σ H' ⟨y, rfl, rfl, al⟩
      refine q fun x m => al x ?_
      rw [List.take_of_length_le (by rw [List.length_map]; exact Nat.le_refl _)]
      exact m
def sp__check_miss (PE : Addr) : Sp := fun vs H Q E => ∃ (a b : Int), vs = [.int a, .int b] ∧ -1 ≤ b ∧ b ≤ 1000 ∧ (a ≤ b → Q .non H) ∧ (¬ a ≤ b → AtOut PE H E)
theorem ok__check_miss (T : Top P K mg) : FnOk P w K mg base (L2.CX P w) 4 T.a__check_miss T.d__check_miss ["hit", "miss"]  (sp__check_miss T.C_PlanError) := by
  refine T.F__check_miss.okX sc__check_miss (fun vs H Q E h => ?_) (fun cdv A outer s H vs Q E hr h => ?_)
  · obtain ⟨_, _, rfl, _⟩ := h
    rfl
  · obtain ⟨a, b, rfl, b1, b2, q, qe⟩ := h
    refine ⟨_, (pss_one (ps_if (pt_cmpR op_lt (pv 1) (pv 0) (nomark _))
  (pss_one (ps_raiseErr (lv := 1) rfl T.x_PlanError fo_PlanError hr (takes_of rfl rfl rfl rfl) (pa_cons (pv 1) pa_nil)))
  pss_nil)), ?_⟩
    rw [show ∀ a0 a1 : V, L2.start ["hit", "miss"] [a0, a1] = [some a0, some a1] from fun _ _ => rfl]
    walk_at "my rn"
    refine Rd.ifD (fun h1 => ?_) fun h1 => ?_
    · refine ⟨_, rfl, _, rfl, msg_pl T (by omega) (by omega), fun d hd => ?_⟩
      exact qe (by omega) _ _ d (same_new hd) hd upd_same
    · exact q (by omega)
def sp_Costs_init (C PE : Addr) : Sp := fun vs H Q E => ∃ (o dx : Addr) (c : Cost), vs = .ref o :: c.l.map V.int ∧ c.Sm ∧ H o = some (.ins C dx []) ∧
  (c.Ok → ∀ (H' : Hp), H' o = some (.ins C dx c.fs) → (∀ b x, b ≠ o → H b = some x → H' b = some x) → Q .non H') ∧ (¬ c.Ok → AtOut PE H E)
theorem AtOut.same {C : Addr} {H H1 : Hp} {E : XK} (h : AtOut C H E) (s : Same H H1) : AtOut C H1 E := fun n H' d s1 nd hd => h n H' d (s.trans s1) (s.free nd) hd
theorem ok_Costs_init (T : Top P K mg) : FnOk P w K mg base (L2.CX P w) 5 T.a_Costs_init T.d_Costs_init ["self", "fetch_hit", "fetch_miss", "plain", "mul", "div", "load_hit", "load_miss", "store", "taken", "count", "port", "release", "switch", "enter", "leave", "finish"]  (sp_Costs_init T.C_Costs T.C_PlanError) := by
  refine T.F_Costs_init.ok sc_Costs_init (fun vs H Q E h => ?_) (fun cdv A outer s H vs Q E hr h => ?_)
  · obtain ⟨_, _, _, rfl, _⟩ := h
    rfl
  · obtain ⟨o, dx, c, rfl, sm, ho, q, qe⟩ := h
    refine ⟨_, (pss_cons (ps_expr (pe_callS (ok__check_costs T) (hr.mono (by decide)) (by rfl) T.g__check_costs T.F__check_costs.kp T.b__check_costs (fun σ => passAt (takes_of rfl rfl rfl rfl) σ) (pa_cons (pe_lst (pa_cons (pv 1) (pa_cons (pv 2) (pa_cons (pv 3) (pa_cons (pv 4) (pa_cons (pv 5) (pa_cons (pv 6) (pa_cons (pv 7) (pa_cons (pv 8) (pa_cons (pv 9) (pa_cons (pv 10) (pa_cons (pv 11) pa_nil)))))))))))) (pa_cons pe_int pa_nil))))
  (pss_cons (ps_expr (pe_callS (ok__check_costs T) (hr.mono (by decide)) (by rfl) T.g__check_costs T.F__check_costs.kp T.b__check_costs (fun σ => passAt (takes_of rfl rfl rfl rfl) σ) (pa_cons (pe_lst (pa_cons (pv 12) (pa_cons (pv 13) (pa_cons (pv 14) (pa_cons (pv 15) (pa_cons (pv 16) pa_nil)))))) (pa_cons pe_int pa_nil))))
  (pss_cons (ps_expr (pe_callS (ok__check_miss T) (hr.mono (by decide)) (by rfl) T.g__check_miss T.F__check_miss.kp T.b__check_miss (fun σ => passAt (takes_of rfl rfl rfl rfl) σ) (pa_cons (pv 1) (pa_cons (pv 2) pa_nil))))
  (pss_cons (ps_expr (pe_callS (ok__check_miss T) (hr.mono (by decide)) (by rfl) T.g__check_miss T.F__check_miss.kp T.b__check_miss (fun σ => passAt (takes_of rfl rfl rfl rfl) σ) (pa_cons (pv 6) (pa_cons (pv 7) pa_nil))))
  (pss_cons (ps_fld (pv 0) (pv 1) rfl)
  (pss_cons (ps_fld (pv 0) (pv 2) rfl)
  (pss_cons (ps_fld (pv 0) (pv 3) rfl)
  (pss_cons (ps_fld (pv 0) (pv 4) rfl)
  (pss_cons (ps_fld (pv 0) (pv 5) rfl)
  (pss_cons (ps_fld (pv 0) (pv 6) rfl)
  (pss_cons (ps_fld (pv 0) (pv 7) rfl)
  (pss_cons (ps_fld (pv 0) (pv 8) rfl)
  (pss_cons (ps_fld (pv 0) (pv 9) rfl)
  (pss_cons (ps_fld (pv 0) (pv 10) rfl)
  (pss_cons (ps_fld (pv 0) (pv 11) rfl)
  (pss_cons (ps_fld (pv 0) (pv 12) rfl)
  (pss_cons (ps_fld (pv 0) (pv 13) rfl)
  (pss_cons (ps_fld (pv 0) (pv 14) rfl)
  (pss_cons (ps_fld (pv 0) (pv 15) rfl)
  (pss_one (ps_fld (pv 0) (pv 16) rfl))))))))))))))))))))), ?_⟩
    unfold Cost.l
    simp only [List.map_cons, List.map_nil]
    rw [show ∀ a0 a1 a2 a3 a4 a5 a6 a7 a8 a9 a10 a11 a12 a13 a14 a15 a16 : V, L2.start ["self", "fetch_hit", "fetch_miss", "plain", "mul", "div", "load_hit", "load_miss", "store", "taken", "count", "port", "release", "switch", "enter", "leave", "finish"] [a0, a1, a2, a3, a4, a5, a6, a7, a8, a9, a10, a11, a12, a13, a14, a15, a16] = [some a0, some a1, some a2, some a3, some a4, some a5, some a6, some a7, some a8, some a9, some a10, some a11, some a12, some a13, some a14, some a15, some a16] from fun _ _ _ _ _ _ _ _ _ _ _ _ _ _ _ _ _ => rfl]
    have s1 := Cost.sm1 sm
    have s2 := Cost.sm2 sm
    have ne1 : ∀ {H1 : Hp}, Same H H1 → H1 o = some (.ins T.C_Costs dx []) := fun s => s _ _ ho
    walk_at "my rn"
    intro p1 H1 np1 sm1 hp1
    walk_at "my rn"
    refine ⟨p1, [c.fh, c.fm, c.pl, c.mu, c.dv, c.lh, c.lm, c.st, c.tk, c.ct, c.po], 1, rfl, SqL.of hp1, Nat.le_of_ble_eq_true rfl, s1, fun g1 => ?_, fun n1 => AtOut.same (qe fun ok => n1 ok.a) sm1⟩
    walk_at "my rn"
    intro p2 H2 np2 sm2 hp2
    walk_at "my rn"
    refine ⟨p2, [c.rl, c.sw, c.en, c.lv, c.fi], 0, rfl, SqL.of hp2, Nat.le_of_ble_eq_true rfl, s2, fun g2 => ?_, fun n1 => AtOut.same (qe fun ok => n1 ok.b) (sm1.trans sm2)⟩
    walk_at "my rn"
    refine ⟨c.fh, c.fm, rfl, (s1 _ (by simp)).1, (s1 _ (by simp)).2, fun g3 => ?_, fun n1 => AtOut.same (qe fun ok => n1 ok.f) (sm1.trans sm2)⟩
    walk_at "my rn"
    refine ⟨c.lh, c.lm, rfl, (s1 _ (by simp)).1, (s1 _ (by simp)).2, fun g4 => ?_, fun n1 => AtOut.same (qe fun ok => n1 ok.l) (sm1.trans sm2)⟩
    have ho2 := ne1 (sm1.trans sm2)
    refine flds_ok (o := o) (dx := dx) T.cl_Costs rfl [(1, "fetch_hit"), (2, "fetch_miss"), (3, "plain"), (4, "mul"), (5, "div"), (6, "load_hit"), (7, "load_miss"), (8, "store"), (9, "taken"), (10, "count"), (11, "port"), (12, "release"), (13, "switch"), (14, "enter"), (15, "leave"), (16, "finish")] [] H2 (by decide) (List.cons_ne_nil _ _) ?_ ?_ ho2 ?_
    · simp only [List.forall_mem_cons]
      exact ⟨T.n_Costs_fetch_hit, T.n_Costs_fetch_miss, T.n_Costs_plain, T.n_Costs_mul, T.n_Costs_div, T.n_Costs_load_hit, T.n_Costs_load_miss, T.n_Costs_store, T.n_Costs_taken, T.n_Costs_count, T.n_Costs_port, T.n_Costs_release, T.n_Costs_switch, T.n_Costs_enter, T.n_Costs_leave, T.n_Costs_finish, fun _ h => nomatch h⟩
    · simp only [List.forall_mem_cons]
      exact ⟨⟨_, rfl⟩, ⟨_, rfl⟩, ⟨_, rfl⟩, ⟨_, rfl⟩, ⟨_, rfl⟩, ⟨_, rfl⟩, ⟨_, rfl⟩, ⟨_, rfl⟩, ⟨_, rfl⟩, ⟨_, rfl⟩, ⟨_, rfl⟩, ⟨_, rfl⟩, ⟨_, rfl⟩, ⟨_, rfl⟩, ⟨_, rfl⟩, ⟨_, rfl⟩, fun _ h => nomatch h⟩
    · intro H3 h1 h2
      exact q ⟨g1, g2, g3, g4⟩ H3 h1 fun b x nb e => h2 b x nb ((sm1.trans sm2) b x e)
end

end Mine


set_option Elab.async false
set_option linter.all false
set_option maxRecDepth 100000
set_option maxHeartbeats 400000


namespace Mine
open PySem PySem.Spec PyProof.Rows L2
local macro_rules | `(tactic| walk_at "my rn") => `(tactic| (repeat (first | with_reducible refine Rd.callS ?_ | with_reducible refine Rd.mkS ?_ | with_reducible refine Rd.mkKS ?_ | with_reducible refine Rd.mkK ?_ | with_reducible refine Rd.callN ?_ | with_reducible refine Rd.catQI ?_ | with_reducible refine Rd.revN ?_ | with_reducible refine Rd.lzip ?_ | with_reducible refine Rd.fld ?_ | with_reducible refine Rd.sfld ?_ | with_reducible refine Rd.meth ?_ | with_reducible refine Rd.make ?_ | with_reducible refine Rd.izip ?_ | with_reducible refine Rd.disp ?_ | with_reducible refine Rd.pcons ?_ | with_reducible refine Rd.pnil ?_ | with_reducible refine Rd.dsp ?_ | with_reducible refine Rd.dnew ?_ | with_reducible refine Rd.din ?_ | with_reducible refine Rd.dnot ?_ | with_reducible refine Rd.dget ?_ | with_reducible refine Rd.dget2 ?_ | with_reducible refine Rd.dput ?_ | with_reducible refine Rd.cbDictOf ?_ | with_reducible refine Rd.iitems ?_ | with_reducible refine Rd.ikeys ?_ | with_reducible refine Rd.dc ?_ | with_reducible refine Rd.nwD ?_ | with_reducible refine Rd.tupN ?_ | with_reducible refine Rd.lstN ?_ | with_reducible refine Rd.cbListOf ?_ | with_reducible refine Rd.cbListOfR ?_ | with_reducible refine Rd.catI ?_ | with_reducible refine Rd.slN ?_ | with_reducible refine Rd.cbSrtI ?_ | with_reducible refine Rd.seq ?_ | with_reducible refine Rd.next ?_ | with_reducible refine Rd.brk ?_ | with_reducible refine Rd.cont ?_ | with_reducible refine Rd.asg ?_ | with_reducible refine Rd.ret ?_ | with_reducible refine Rd.retN ?_ | with_reducible refine Rd.drop ?_ | with_reducible refine Rd.ifs ?_ | with_reducible refine Rd.ife ?_ | with_reducible refine Rd.test ?_ | with_reducible refine Rd.tb_ ?_ | with_reducible refine Rd.bl ?_ | with_reducible refine Rd.bl2 ?_ | with_reducible refine Rd.and_ ?_ | with_reducible refine Rd.or_ ?_ | with_reducible refine Rd.not_ ?_ | with_reducible refine Rd.andV ?_ | with_reducible refine Rd.orV ?_ | with_reducible refine Rd.notV ?_ | with_reducible refine Rd.op ?_ | with_reducible refine Rd.un ?_ | with_reducible refine Rd.I0 ?_ | with_reducible refine Rd.U ?_ | with_reducible refine Rd.ip ?_ | with_reducible refine Rd.c_ ?_ | with_reducible refine Rd.nil ?_ | with_reducible refine Rd.cons ?_ | with_reducible refine Rd.call ?_ | with_reducible refine Rd.cb ?_ | with_reducible refine Rd.bm ?_ | with_reducible refine Rd.bm0 ?_ | with_reducible refine Rd.nopart ?_ | with_reducible refine Rd.part ?_ | with_reducible refine Rd.int1 ?_ | with_reducible refine Rd.ints1 ?_ | with_reducible refine Rd.ints2 ?_ | with_reducible refine Rd.gcons ?_ | with_reducible refine Rd.gnil ?_ | with_reducible refine Rd.sub ?_ | with_reducible refine Rd.isN ?_ | with_reducible refine Rd.chain ?_ | with_reducible refine Rd.rf ?_ | with_reducible refine Rd.tyS ?_ | with_reducible refine Rd.intI ?_ | with_reducible refine Rd.lc ?_ | with_reducible refine Rd.for_ ?_ | with_reducible refine Rd.ilist ?_ | with_reducible refine Rd.itup ?_ | with_reducible refine Rd.irng1 ?_ | with_reducible refine Rd.irng2 ?_ | with_reducible refine Rd.ienum ?_ | with_reducible refine Rd.istr ?_ | with_reducible refine Rd.refA ?_ | with_reducible refine Rd.strA ?_ | with_reducible refine Rd.yes ?_ | with_reducible refine Rd.ifT ?_ | with_reducible refine Rd.ifF ?_ | with_reducible refine Rd.ifnT ?_ | with_reducible refine Rd.ifnF ?_ | with_reducible refine Rd.isi_ii ?_ | with_reducible refine Rd.isi_ib ?_ | with_reducible refine Rd.isi_is ?_ | with_reducible refine Rd.isi_il ?_ | with_reducible refine Rd.isi_it ?_ | with_reducible refine Rd.isi_id ?_ | with_reducible refine Rd.isi_bi ?_ | with_reducible refine Rd.isi_bb ?_ | with_reducible refine Rd.isi_bs ?_ | with_reducible refine Rd.isi_bl ?_ | with_reducible refine Rd.isi_bt ?_ | with_reducible refine Rd.isi_bd ?_ | with_reducible refine Rd.isi_si ?_ | with_reducible refine Rd.isi_sb ?_ | with_reducible refine Rd.isi_ss ?_ | with_reducible refine Rd.isi_sl ?_ | with_reducible refine Rd.isi_st ?_ | with_reducible refine Rd.isi_sd ?_ | with_reducible refine Rd.isi_ni ?_ | with_reducible refine Rd.isi_nb ?_ | with_reducible refine Rd.isi_ns ?_ | with_reducible refine Rd.isi_nl ?_ | with_reducible refine Rd.isi_nt ?_ | with_reducible refine Rd.isi_nd ?_ | with_reducible refine Rd.sl ?_ | with_reducible refine Rd.v0 ?_ | with_reducible refine Rd.v1 ?_ | with_reducible refine Rd.v2 ?_ | with_reducible refine Rd.v3 ?_ | with_reducible refine Rd.v4 ?_ | with_reducible refine Rd.v5 ?_ | with_reducible refine Rd.v6 ?_ | with_reducible refine Rd.v7 ?_ | with_reducible refine Rd.v8 ?_ | with_reducible refine Rd.v9 ?_ | with_reducible refine Rd.v10 ?_ | with_reducible refine Rd.v11 ?_ | with_reducible refine Rd.v12 ?_ | with_reducible refine Rd.v13 ?_ | with_reducible refine Rd.v14 ?_ | with_reducible refine Rd.v15 ?_ | with_reducible refine Rd.v16 ?_ | with_reducible refine Rd.v17 ?_ | with_reducible refine Rd.v18 ?_ | with_reducible refine Rd.v19 ?_ | with_reducible refine Rd.v20 ?_ | with_reducible refine Rd.v21 ?_ | with_reducible refine Rd.v22 ?_ | with_reducible refine Rd.v23 ?_ | with_reducible refine Rd.v24 ?_ | with_reducible refine Rd.v25 ?_ | with_reducible refine Rd.v26 ?_ | with_reducible refine Rd.v27 ?_ | with_reducible refine Rd.n0 ?_ | with_reducible refine Rd.n1 ?_ | with_reducible refine Rd.n2 ?_ | with_reducible refine Rd.n3 ?_ | with_reducible refine Rd.n4 ?_ | with_reducible refine Rd.n5 ?_ | with_reducible refine Rd.n6 ?_ | with_reducible refine Rd.n7 ?_ | with_reducible refine Rd.n8 ?_ | with_reducible refine Rd.n9 ?_ | with_reducible refine Rd.n10 ?_ | with_reducible refine Rd.n11 ?_ | with_reducible refine Rd.n12 ?_ | with_reducible refine Rd.n13 ?_ | with_reducible refine Rd.n14 ?_ | with_reducible refine Rd.n15 ?_ | with_reducible refine Rd.n16 ?_ | with_reducible refine Rd.n17 ?_ | with_reducible refine Rd.n18 ?_ | with_reducible refine Rd.n19 ?_ | with_reducible refine Rd.n20 ?_ | with_reducible refine Rd.n21 ?_ | with_reducible refine Rd.n22 ?_ | with_reducible refine Rd.n23 ?_ | with_reducible refine Rd.n24 ?_ | with_reducible refine Rd.n25 ?_ | with_reducible refine Rd.n26 ?_ | with_reducible refine Rd.n27 ?_ | with_reducible refine Rd.g0 ?_ | with_reducible refine Rd.g1 ?_ | with_reducible refine Rd.g2 ?_ | with_reducible refine Rd.g3 ?_ | with_reducible refine Rd.g4 ?_ | with_reducible refine Rd.g5 ?_ | with_reducible refine Rd.g6 ?_ | with_reducible refine Rd.g7 ?_ | with_reducible refine Rd.g8 ?_ | with_reducible refine Rd.g9 ?_ | with_reducible refine Rd.g10 ?_ | with_reducible refine Rd.g11 ?_ | with_reducible refine Rd.g12 ?_ | with_reducible refine Rd.g13 ?_ | with_reducible refine Rd.g14 ?_ | with_reducible refine Rd.g15 ?_ | with_reducible refine Rd.g16 ?_ | with_reducible refine Rd.g17 ?_ | with_reducible refine Rd.g18 ?_ | with_reducible refine Rd.g19 ?_ | with_reducible refine Rd.g20 ?_ | with_reducible refine Rd.g21 ?_ | with_reducible refine Rd.g22 ?_ | with_reducible refine Rd.g23 ?_ | with_reducible refine Rd.g24 ?_ | with_reducible refine Rd.g25 ?_ | with_reducible refine Rd.g26 ?_ | with_reducible refine Rd.g27 ?_ | ((with_reducible apply Rd.glst); (first | assumption | exact upd_same); exact rfl) | ((with_reducible apply Rd.gtP); assumption; assumption) | ((with_reducible apply Rd.revq); first | assumption | exact SqL.of (by assumption)) | ((with_reducible apply Rd.fldI); (first | assumption | exact upd_same); assumption; assumption; (first | assumption | with_unfolding_all rfl)) | ((with_reducible apply Rd.methI); (first | assumption | exact upd_same); (first | assumption | with_unfolding_all rfl)) | ((with_reducible apply Rd.sfldI); (first | assumption | exact upd_same); assumption; assumption; exact Nat.le_of_ble_eq_true rfl) | ((with_reducible apply Rd.maxL); assumption) | ((with_reducible apply Rd.anyL); assumption) | ((with_reducible apply Rd.sumL); assumption) | ((with_reducible refine Rd.izI (by assumption) (by assumption) ?_)) | with_reducible refine Rd.mtq ?_ | with_reducible refine Rd.mtRest ?_ | with_reducible refine Rd.mtEnd ?_ | with_reducible refine Rd.tbC ?_ | with_reducible refine Rd.tbT ?_ | with_reducible refine Rd.tbA ?_ | with_reducible refine Rd.tbN ?_ | with_reducible refine Rd.mto ?_ | with_reducible refine Rd.mtoI ?_ | with_reducible refine Rd.moRest ?_ | with_reducible refine Rd.moEnd ?_ | ((with_reducible apply Rd.mtqI); (first | assumption | exact SqT.of upd_same | exact SqT.of (by assumption)); exact Nat.le_of_ble_eq_true rfl) | ((with_reducible refine Rd.mtLen ?_ ?_); exact rfl) | ((with_reducible refine Rd.mtYes ?_ ?_); exact rfl) | ((with_reducible refine Rd.mtNo ?_ ?_); (first | assumption | decide +kernel)) | ((with_reducible refine Rd.mtOY ?_ ?_); exact rfl) | ((with_reducible refine Rd.mtON ?_ ?_); exact rfl) | ((with_reducible refine Rd.eq ?_ ?_); exact rfl) | ((with_reducible refine Rd.ne ?_ ?_); exact rfl) | ((with_reducible refine Rd.szA ?_ ?_); exact Nat.le_of_ble_eq_true rfl) | ((with_reducible refine Rd.I ?_ ?_); first | assumption | decide | exact Or.inr (by decide +kernel) | exact Or.inl (by decide +kernel) | exact ⟨by decide, by decide⟩ | exact ⟨by decide, by decide, by decide⟩ | omega) | ((with_reducible apply Rd.tyL); first | assumption | exact upd_same) | ((with_reducible apply Rd.tyLq); assumption) | ((with_reducible apply Rd.ixL); (first | assumption | exact upd_same); exact rfl) | ((with_reducible apply Rd.ixT); (first | assumption | exact upd_same); exact rfl) | ((with_reducible apply Rd.ixLq); assumption; exact rfl) | ((with_reducible apply Rd.ixTq); assumption; exact rfl) | ((with_reducible apply Rd.gtup); (first | assumption | exact upd_same); exact rfl) | ((with_reducible apply Rd.gtupq); assumption; exact rfl) | ((with_reducible apply Rd.sqAq); assumption) | ((with_reducible apply Rd.stAq); assumption) | ((with_reducible apply Rd.enAq); assumption) | ((with_reducible apply Rd.lenLq); assumption) | ((with_reducible apply Rd.lenTq); assumption) | ((with_reducible apply Rd.sqA); first | assumption | exact upd_same) | ((with_reducible apply Rd.stA); first | assumption | exact upd_same) | ((with_reducible apply Rd.enA); first | assumption | exact upd_same) | ((with_reducible apply Rd.lenL); first | assumption | exact upd_same) | ((with_reducible apply Rd.lenT); first | assumption | exact upd_same) | ((with_reducible refine Rd.nwT ?_ ?_); exact Nat.le_of_ble_eq_true rfl) | ((with_reducible refine Rd.nwL ?_ ?_); exact Nat.le_of_ble_eq_true rfl) | ((with_reducible apply Rd.isd); assumption) | ((with_reducible apply Rd.dictOf); assumption) | ((with_reducible refine Rd.isi_dd (by assumption) ?_)) | ((with_reducible apply Rd.itA); first | assumption | exact upd_same) | ((with_reducible apply Rd.ikA); first | assumption | exact upd_same) | ((with_reducible apply Rd.listOf); assumption) | ((with_reducible apply Rd.listOfq); assumption) | ((with_reducible apply Rd.slo); assumption) | ((with_reducible apply Rd.slq); assumption) | ((with_reducible apply Rd.srtI); assumption) | ((with_reducible apply Rd.srtIo); assumption) | ((with_reducible refine Rd.isi_li (by assumption) ?_)) | ((with_reducible refine Rd.isi_lb (by assumption) ?_)) | ((with_reducible refine Rd.isi_ls (by assumption) ?_)) | ((with_reducible refine Rd.isi_ll (by assumption) ?_)) | ((with_reducible refine Rd.isi_lt (by assumption) ?_)) | ((with_reducible refine Rd.isi_ld (by assumption) ?_)) | ((with_reducible refine Rd.isi_ti (by assumption) ?_)) | ((with_reducible refine Rd.isi_tb (by assumption) ?_)) | ((with_reducible refine Rd.isi_ts (by assumption) ?_)) | ((with_reducible refine Rd.isi_tl (by assumption) ?_)) | ((with_reducible refine Rd.isi_tt (by assumption) ?_)) | ((with_reducible refine Rd.isi_td (by assumption) ?_)))))







/-! ### what an instruction costs -/
def calcCost (c : Cost) (op : Str) : Int := if op = "mul" then c.mu else if op = "div" ∨ op = "mod" then c.dv else c.pl
def exCost (c : Cost) (nm op : Str) (lh : Bool) : Int :=
  if nm ∈ (["load", "loadx"] : List Str) then (if lh = true then c.lh else c.lm) else if nm ∈ (["store", "storex"] : List Str) then c.st else if nm ∈ (["calc"] : List Str) then calcCost c op
  else if nm ∈ (["count", "again"] : List Str) then c.ct else if nm ∈ (["in", "out"] : List Str) then c.po else c.pl
def iCost (c : Cost) (nm op : Str) (fh lh tk : Bool) : Int := (if fh = true then c.fh else c.fm) + exCost c nm op lh + (if nm ∈ (["jump", "link", "back"] : List Str) ∨ (tk = true ∧ nm ∈ (["jzero", "again"] : List Str)) then c.tk else 0)
/-- an instruction: its name first; a calc has its operation behind -/
structure InsAt (K : PySem.W.Frag) (H : Hp) (t : Addr) (nm op : Str) : Prop where
  ex : ∃ xs, SqT K H t xs ∧ xs[0]? = some (.str nm) ∧ (nm = "calc" → xs[1]? = some (.str op))
theorem InsAt.same {K : PySem.W.Frag} {H H' : Hp} {t : Addr} {nm op : Str} (h : InsAt K H t nm op) (s : Same H H') : InsAt K H' t nm op := by
  obtain ⟨xs, h, e⟩ := h.ex
  exact ⟨xs, s.seqT h, e⟩
section
variable {P : Program} {w : World} {K : PySem.W.Frag} {mg : Str → Option Value} {base : Heap}
theorem Cost.look {c : Cost} : c.fs.lookup ("fetch_hit" : Str) = some (.int c.fh) ∧ c.fs.lookup ("fetch_miss" : Str) = some (.int c.fm) ∧ c.fs.lookup ("plain" : Str) = some (.int c.pl) ∧ c.fs.lookup ("mul" : Str) = some (.int c.mu) ∧ c.fs.lookup ("div" : Str) = some (.int c.dv) ∧
  c.fs.lookup ("load_hit" : Str) = some (.int c.lh) ∧ c.fs.lookup ("load_miss" : Str) = some (.int c.lm) ∧ c.fs.lookup ("store" : Str) = some (.int c.st) ∧ c.fs.lookup ("taken" : Str) = some (.int c.tk) ∧ c.fs.lookup ("count" : Str) = some (.int c.ct) ∧ c.fs.lookup ("port" : Str) = some (.int c.po) := by
  refine ⟨?_, ?_, ?_, ?_, ?_, ?_, ?_, ?_, ?_, ?_, ?_⟩ <;> with_unfolding_all rfl
theorem Cost.look2 {c : Cost} : c.fs.lookup ("release" : Str) = some (.int c.rl) ∧ c.fs.lookup ("switch" : Str) = some (.int c.sw) ∧ c.fs.lookup ("enter" : Str) = some (.int c.en) ∧ c.fs.lookup ("leave" : Str) = some (.int c.lv) ∧ c.fs.lookup ("finish" : Str) = some (.int c.fi) := by
  refine ⟨?_, ?_, ?_, ?_, ?_⟩ <;> with_unfolding_all rfl
def sp__calculation_cost (C : Addr) : Sp := fun vs H Q _ => ∃ (o : Addr) (c : Cost) (op : Str), vs = [.ref o, .str op] ∧ CostsAt C H o c ∧ Q (.int (calcCost c op)) H
theorem ok__calculation_cost (T : Top P K mg) : FnOk P w K mg base CX0 1 T.a__calculation_cost T.d__calculation_cost ["costs", "operation"]  (sp__calculation_cost T.C_Costs) := by
  refine T.F__calculation_cost.ok sc__calculation_cost (fun vs H Q E h => ?_) (fun cdv A outer s H vs Q E hr h => ?_)
  · obtain ⟨_, _, _, rfl, _⟩ := h
    rfl
  · obtain ⟨o, c, op, rfl, ⟨dx, ho⟩, q⟩ := h
    refine ⟨_, (pss_cons (ps_if (pt_cmpR op_eq (pv 1) pe_str (nomark _))
  (pss_one (ps_ret (pe_fld (pv 0) rfl)))
  pss_nil)
  (pss_cons (ps_if (pw_or (pt_cmpR op_eq (pv 1) pe_str (nomark _)) (pw_or1 (pt_cmpR op_eq (pv 1) pe_str (nomark _)))).pt
  (pss_one (ps_ret (pe_fld (pv 0) rfl)))
  pss_nil)
  (pss_one (ps_ret (pe_fld (pv 0) rfl))))), ?_⟩
    rw [show ∀ a0 a1 : V, L2.start ["costs", "operation"] [a0, a1] = [some a0, some a1] from fun _ _ => rfl]
    obtain ⟨l1, l2, l3, l4, l5, l6, l7, l8, l9, l10, l11⟩ := @Cost.look c
    have cl := T.cl_Costs
    have n0 := T.n_Costs_mul
    have n1 := T.n_Costs_div
    have n2 := T.n_Costs_plain
    unfold calcCost at q
    walk_at "my rn"
    refine Rd.ifD (fun h1 => ?_) fun h1 => ?_
    · rw [if_pos (V.str.inj h1)] at q
      walk_at "my rn"
      exact q
    · rw [if_neg (fun z => h1 (by rw [z]))] at q
      walk_at "my rn"
      refine Rd.ifD (fun h2 => ?_) fun h2 => ?_
      · rw [if_pos (.inl (V.str.inj h2))] at q
        walk_at "my rn"
        exact q
      · walk_at "my rn"
        refine Rd.ifD (fun h3 => ?_) fun h3 => ?_
        · rw [if_pos (.inr (V.str.inj h3))] at q
          walk_at "my rn"
          exact q
        · rw [if_neg (fun z => z.elim (fun z => h2 (by rw [z])) fun z => h3 (by rw [z]))] at q
          walk_at "my rn"
          exact q
def sp__execution_cost (K : PySem.W.Frag) (C : Addr) : Sp := fun vs H Q _ => ∃ (o t : Addr) (c : Cost) (nm op : Str) (lh : Bool), vs = [.ref o, .ref t, .bl lh] ∧ CostsAt C H o c ∧ InsAt K H t nm op ∧ Q (.int (exCost c nm op lh)) H
theorem ok__execution_cost (T : Top P K mg) : FnOk P w K mg base CX0 2 T.a__execution_cost T.d__execution_cost ["costs", "instruction", "load_hit"]  (sp__execution_cost K T.C_Costs) := by
  refine T.F__execution_cost.ok sc__execution_cost (fun vs H Q E h => ?_) (fun cdv A outer s H vs Q E hr h => ?_)
  · obtain ⟨_, _, _, _, _, _, rfl, _⟩ := h
    rfl
  · obtain ⟨o, t, c, nm, op, lh, rfl, ⟨dx, ho⟩, ⟨xs, ht, h0, h1⟩, q⟩ := h
    refine ⟨_, (pss_one (ps_matchO (pe_ix ix_tup (pv 1) pe_int (fun _ _ => rfl))
  (PCo.ors (PVs.cons (PVs.cons PVs.nil)) (pss_one (ps_ret (pe_ifExp (pt_val (pv 2)) (pe_fld (pv 0) rfl) (pe_fld (pv 0) rfl))))
  (PCo.ors (PVs.cons (PVs.cons PVs.nil)) (pss_one (ps_ret (pe_fld (pv 0) rfl)))
  (PCo.text (pss_one (ps_ret (pe_call (ok__calculation_cost T) (hr.mono (by decide)) (by rfl) T.g__calculation_cost T.F__calculation_cost.kp T.b__calculation_cost .nil pass0 (pa_cons (pv 0) (pa_cons (pe_ix ix_tup (pv 1) pe_int (fun _ _ => rfl)) pa_nil)))))
  (PCo.ors (PVs.cons (PVs.cons PVs.nil)) (pss_one (ps_ret (pe_fld (pv 0) rfl)))
  (PCo.ors (PVs.cons (PVs.cons PVs.nil)) (pss_one (ps_ret (pe_fld (pv 0) rfl)))
  (PCo.rest (pss_one (ps_ret (pe_fld (pv 0) rfl))))))))))), ?_⟩
    rw [show ∀ a0 a1 a2 : V, L2.start ["costs", "instruction", "load_hit"] [a0, a1, a2] = [some a0, some a1, some a2] from fun _ _ _ => rfl]
    obtain ⟨l1, l2, l3, l4, l5, l6, l7, l8, l9, l10, l11⟩ := @Cost.look c
    have cl := T.cl_Costs
    unfold exCost at q
    walk_at "my rn"
    refine Rd.ixTq ht (Rd.at_val (j := 0) rfl h0) ?_
    walk_at "my rn"
    have n0 := T.n_Costs_load_hit
    have n1 := T.n_Costs_load_miss
    have n2 := T.n_Costs_store
    have n3 := T.n_Costs_count
    have n4 := T.n_Costs_port
    have n5 := T.n_Costs_plain
    by_cases e : nm ∈ (["load", "loadx"] : List Str)
    · rw [if_pos e] at q
      refine Rd.moY e ?_
      walk_at "my rn"
      refine Rd.ifB (fun h => ?_) fun h => ?_
      · rw [if_pos h] at q
        walk_at "my rn"
        exact q
      · rw [if_neg (by rw [h]; simp)] at q
        walk_at "my rn"
        exact q
    · rw [if_neg e] at q
      refine Rd.moN e ?_
      by_cases e : nm ∈ (["store", "storex"] : List Str)
      · rw [if_pos e] at q
        refine Rd.moY e ?_
        walk_at "my rn"
        exact q
      · rw [if_neg e] at q
        refine Rd.moN e ?_
        by_cases e : nm ∈ (["calc"] : List Str)
        · rw [if_pos e] at q
          refine Rd.moY e ?_
          walk_at "my rn"
          refine Rd.ixTq ht (Rd.at_val (j := 1) rfl (h1 (List.mem_singleton.mp e))) ?_
          walk_at "my rn"
          exact ⟨o, c, op, rfl, ⟨dx, ho⟩, q⟩
        · rw [if_neg e] at q
          refine Rd.moN e ?_
          by_cases e : nm ∈ (["count", "again"] : List Str)
          · rw [if_pos e] at q
            refine Rd.moY e ?_
            walk_at "my rn"
            exact q
          · rw [if_neg e] at q
            refine Rd.moN e ?_
            by_cases e : nm ∈ (["in", "out"] : List Str)
            · rw [if_pos e] at q
              refine Rd.moY e ?_
              walk_at "my rn"
              exact q
            · rw [if_neg e] at q
              refine Rd.moN e ?_
              walk_at "my rn"
              exact q
def sp_instruction_cost (K : PySem.W.Frag) (C : Addr) : Sp := fun vs H Q _ => ∃ (o t : Addr) (c : Cost) (nm op : Str) (fh lh tk : Bool), vs = [.ref o, .ref t, .bl fh, .bl lh, .bl tk] ∧ CostsAt C H o c ∧ InsAt K H t nm op ∧ Q (.int (iCost c nm op fh lh tk)) H
theorem ok_instruction_cost (T : Top P K mg) : FnOk P w K mg base CX0 3 T.a_instruction_cost T.d_instruction_cost ["costs", "instruction", "fetch_hit", "load_hit", "taken"]  (sp_instruction_cost K T.C_Costs) := by
  refine T.F_instruction_cost.ok sc_instruction_cost (fun vs H Q E h => ?_) (fun cdv A outer s H vs Q E hr h => ?_)
  · obtain ⟨_, _, _, _, _, _, _, _, rfl, _⟩ := h
    rfl
  · obtain ⟨o, t, c, nm, op, fh, lh, tk, rfl, hc, hi, q⟩ := h
    obtain ⟨dx, ho⟩ := id hc
    obtain ⟨xs, ht, h0, h1⟩ := id hi
    refine ⟨_, (pss_cons (ps_set (i := 5) sc_instruction_cost.nd rfl (by first | exact Or.inl rfl | exact Or.inr rfl) (pe_ifExp (pt_val (pv 2)) (pe_fld (pv 0) rfl) (pe_fld (pv 0) rfl)))
  (pss_cons (ps_aug (i := 5) sc_instruction_cost.nd rfl (by first | exact Or.inl rfl | exact Or.inr rfl) (pe_call (ok__execution_cost T) (hr.mono (by decide)) (by rfl) T.g__execution_cost T.F__execution_cost.kp T.b__execution_cost .nil pass0 (pa_cons (pv 0) (pa_cons (pv 1) (pa_cons (pv 3) pa_nil)))) ip_add)
  (pss_cons (ps_if (pw_or (pt_cmpR op_in_seq (pe_ix ix_tup (pv 1) pe_int (fun _ _ => rfl)) (pe_gr (by rfl) T.c_ALWAYS_TAKEN) (by with_unfolding_all rfl)) (pw_or1 (pw_and (pt_val (pv 4)) (pw_and1 (pt_cmpR op_in_seq (pe_ix ix_tup (pv 1) pe_int (fun _ _ => rfl)) (pe_gr (by rfl) T.c_TAKEN_AT_TIMES) (by with_unfolding_all rfl)))).pt)).pt
  (pss_one (ps_aug (i := 5) sc_instruction_cost.nd rfl (by first | exact Or.inl rfl | exact Or.inr rfl) (pe_fld (pv 0) rfl) ip_add))
  pss_nil)
  (pss_one (ps_ret (pv 5)))))), ?_⟩
    rw [show ∀ a0 a1 a2 a3 a4 : V, L2.start ["costs", "instruction", "fetch_hit", "load_hit", "taken", "cost"] [a0, a1, a2, a3, a4] = [some a0, some a1, some a2, some a3, some a4, none] from fun _ _ _ _ _ => rfl]
    obtain ⟨l1, l2, l3, l4, l5, l6, l7, l8, l9, l10, l11⟩ := @Cost.look c
    have cl := T.cl_Costs
    have n0 := T.n_Costs_fetch_hit
    have n1 := T.n_Costs_fetch_miss
    have n2 := T.n_Costs_taken
    have n0 := T.n_Costs_fetch_hit
    have n1 := T.n_Costs_fetch_miss
    have n2 := T.n_Costs_taken
    unfold iCost at q
    have end_ : ∀ (f : Int), (if fh = true then c.fh else c.fm) = f → (∀ z, z = (if nm ∈ (["jump", "link", "back"] : List Str) ∨ (tk = true ∧ nm ∈ (["jzero", "again"] : List Str)) then c.tk else 0) → Q (.int (f + exCost c nm op lh + z)) H) := fun f e z ez => by
      rw [e] at q
      rw [ez]; exact q
    have b1 := Rd.at_val (j := 0) (xs := xs) rfl h0
    cases fh
    all_goals
      walk_at "my rn"
      refine ⟨o, t, c, nm, op, lh, rfl, hc, hi, ?_⟩
      walk_at "my rn"
      refine Rd.ixTq ht b1 ?_
      walk_at "my rn"
      refine Rd.inStrT ["jump", "link", "back"] (T.q_ALWAYS_TAKEN _) ?_
      walk_at "my rn"
      refine Rd.ifD (fun h2 => ?_) fun h2 => ?_
      · walk_at "my rn"
        exact end_ _ (by simp) _ (by rw [if_pos (.inl h2)])
      · walk_at "my rn"
        refine Rd.ifB (fun h3 => ?_) fun h3 => ?_
        · walk_at "my rn"
          refine Rd.ixTq ht b1 ?_
          walk_at "my rn"
          refine Rd.inStrT ["jzero", "again"] (T.q_TAKEN_AT_TIMES _) ?_
          walk_at "my rn"
          refine Rd.ifD (fun h4 => ?_) fun h4 => ?_
          · walk_at "my rn"
            exact end_ _ (by simp) _ (by rw [if_pos (.inr ⟨h3, h4⟩)])
          · walk_at "my rn"
            have := end_ _ rfl 0 (by rw [if_neg (fun z => z.elim h2 fun z => h4 z.2)])
            rw [Int.add_zero] at this
            exact this
        · walk_at "my rn"
          have := end_ _ rfl 0 (by rw [if_neg (fun z => z.elim h2 fun z => by rw [h3] at z; cases z.1)])
          rw [Int.add_zero] at this
          exact this
end

end Mine


set_option Elab.async false
set_option linter.all false
set_option maxRecDepth 100000
set_option maxHeartbeats 400000


namespace Mine
open PySem PySem.Spec PyProof.Rows L2
local macro_rules | `(tactic| walk_at "my rn") => `(tactic| (repeat (first | with_reducible refine Rd.callS ?_ | with_reducible refine Rd.mkS ?_ | with_reducible refine Rd.mkKS ?_ | with_reducible refine Rd.mkK ?_ | with_reducible refine Rd.callN ?_ | with_reducible refine Rd.catQI ?_ | with_reducible refine Rd.revN ?_ | with_reducible refine Rd.lzip ?_ | with_reducible refine Rd.fld ?_ | with_reducible refine Rd.sfld ?_ | with_reducible refine Rd.meth ?_ | with_reducible refine Rd.make ?_ | with_reducible refine Rd.izip ?_ | with_reducible refine Rd.disp ?_ | with_reducible refine Rd.pcons ?_ | with_reducible refine Rd.pnil ?_ | with_reducible refine Rd.dsp ?_ | with_reducible refine Rd.dnew ?_ | with_reducible refine Rd.din ?_ | with_reducible refine Rd.dnot ?_ | with_reducible refine Rd.dget ?_ | with_reducible refine Rd.dget2 ?_ | with_reducible refine Rd.dput ?_ | with_reducible refine Rd.cbDictOf ?_ | with_reducible refine Rd.iitems ?_ | with_reducible refine Rd.ikeys ?_ | with_reducible refine Rd.dc ?_ | with_reducible refine Rd.nwD ?_ | with_reducible refine Rd.tupN ?_ | with_reducible refine Rd.lstN ?_ | with_reducible refine Rd.cbListOf ?_ | with_reducible refine Rd.cbListOfR ?_ | with_reducible refine Rd.catI ?_ | with_reducible refine Rd.slN ?_ | with_reducible refine Rd.cbSrtI ?_ | with_reducible refine Rd.seq ?_ | with_reducible refine Rd.next ?_ | with_reducible refine Rd.brk ?_ | with_reducible refine Rd.cont ?_ | with_reducible refine Rd.asg ?_ | with_reducible refine Rd.ret ?_ | with_reducible refine Rd.retN ?_ | with_reducible refine Rd.drop ?_ | with_reducible refine Rd.ifs ?_ | with_reducible refine Rd.ife ?_ | with_reducible refine Rd.test ?_ | with_reducible refine Rd.tb_ ?_ | with_reducible refine Rd.bl ?_ | with_reducible refine Rd.bl2 ?_ | with_reducible refine Rd.and_ ?_ | with_reducible refine Rd.or_ ?_ | with_reducible refine Rd.not_ ?_ | with_reducible refine Rd.andV ?_ | with_reducible refine Rd.orV ?_ | with_reducible refine Rd.notV ?_ | with_reducible refine Rd.op ?_ | with_reducible refine Rd.un ?_ | with_reducible refine Rd.I0 ?_ | with_reducible refine Rd.U ?_ | with_reducible refine Rd.ip ?_ | with_reducible refine Rd.c_ ?_ | with_reducible refine Rd.nil ?_ | with_reducible refine Rd.cons ?_ | with_reducible refine Rd.call ?_ | with_reducible refine Rd.cb ?_ | with_reducible refine Rd.bm ?_ | with_reducible refine Rd.bm0 ?_ | with_reducible refine Rd.nopart ?_ | with_reducible refine Rd.part ?_ | with_reducible refine Rd.int1 ?_ | with_reducible refine Rd.ints1 ?_ | with_reducible refine Rd.ints2 ?_ | with_reducible refine Rd.gcons ?_ | with_reducible refine Rd.gnil ?_ | with_reducible refine Rd.sub ?_ | with_reducible refine Rd.isN ?_ | with_reducible refine Rd.chain ?_ | with_reducible refine Rd.rf ?_ | with_reducible refine Rd.tyS ?_ | with_reducible refine Rd.intI ?_ | with_reducible refine Rd.lc ?_ | with_reducible refine Rd.for_ ?_ | with_reducible refine Rd.ilist ?_ | with_reducible refine Rd.itup ?_ | with_reducible refine Rd.irng1 ?_ | with_reducible refine Rd.irng2 ?_ | with_reducible refine Rd.ienum ?_ | with_reducible refine Rd.istr ?_ | with_reducible refine Rd.refA ?_ | with_reducible refine Rd.strA ?_ | with_reducible refine Rd.yes ?_ | with_reducible refine Rd.ifT ?_ | with_reducible refine Rd.ifF ?_ | with_reducible refine Rd.ifnT ?_ | with_reducible refine Rd.ifnF ?_ | with_reducible refine Rd.isi_ii ?_ | with_reducible refine Rd.isi_ib ?_ | with_reducible refine Rd.isi_is ?_ | with_reducible refine Rd.isi_il ?_ | with_reducible refine Rd.isi_it ?_ | with_reducible refine Rd.isi_id ?_ | with_reducible refine Rd.isi_bi ?_ | with_reducible refine Rd.isi_bb ?_ | with_reducible refine Rd.isi_bs ?_ | with_reducible refine Rd.isi_bl ?_ | with_reducible refine Rd.isi_bt ?_ | with_reducible refine Rd.isi_bd ?_ | with_reducible refine Rd.isi_si ?_ | with_reducible refine Rd.isi_sb ?_ | with_reducible refine Rd.isi_ss ?_ | with_reducible refine Rd.isi_sl ?_ | with_reducible refine Rd.isi_st ?_ | with_reducible refine Rd.isi_sd ?_ | with_reducible refine Rd.isi_ni ?_ | with_reducible refine Rd.isi_nb ?_ | with_reducible refine Rd.isi_ns ?_ | with_reducible refine Rd.isi_nl ?_ | with_reducible refine Rd.isi_nt ?_ | with_reducible refine Rd.isi_nd ?_ | with_reducible refine Rd.sl ?_ | with_reducible refine Rd.v0 ?_ | with_reducible refine Rd.v1 ?_ | with_reducible refine Rd.v2 ?_ | with_reducible refine Rd.v3 ?_ | with_reducible refine Rd.v4 ?_ | with_reducible refine Rd.v5 ?_ | with_reducible refine Rd.v6 ?_ | with_reducible refine Rd.v7 ?_ | with_reducible refine Rd.v8 ?_ | with_reducible refine Rd.v9 ?_ | with_reducible refine Rd.v10 ?_ | with_reducible refine Rd.v11 ?_ | with_reducible refine Rd.v12 ?_ | with_reducible refine Rd.v13 ?_ | with_reducible refine Rd.v14 ?_ | with_reducible refine Rd.v15 ?_ | with_reducible refine Rd.v16 ?_ | with_reducible refine Rd.v17 ?_ | with_reducible refine Rd.v18 ?_ | with_reducible refine Rd.v19 ?_ | with_reducible refine Rd.v20 ?_ | with_reducible refine Rd.v21 ?_ | with_reducible refine Rd.v22 ?_ | with_reducible refine Rd.v23 ?_ | with_reducible refine Rd.v24 ?_ | with_reducible refine Rd.v25 ?_ | with_reducible refine Rd.v26 ?_ | with_reducible refine Rd.v27 ?_ | with_reducible refine Rd.n0 ?_ | with_reducible refine Rd.n1 ?_ | with_reducible refine Rd.n2 ?_ | with_reducible refine Rd.n3 ?_ | with_reducible refine Rd.n4 ?_ | with_reducible refine Rd.n5 ?_ | with_reducible refine Rd.n6 ?_ | with_reducible refine Rd.n7 ?_ | with_reducible refine Rd.n8 ?_ | with_reducible refine Rd.n9 ?_ | with_reducible refine Rd.n10 ?_ | with_reducible refine Rd.n11 ?_ | with_reducible refine Rd.n12 ?_ | with_reducible refine Rd.n13 ?_ | with_reducible refine Rd.n14 ?_ | with_reducible refine Rd.n15 ?_ | with_reducible refine Rd.n16 ?_ | with_reducible refine Rd.n17 ?_ | with_reducible refine Rd.n18 ?_ | with_reducible refine Rd.n19 ?_ | with_reducible refine Rd.n20 ?_ | with_reducible refine Rd.n21 ?_ | with_reducible refine Rd.n22 ?_ | with_reducible refine Rd.n23 ?_ | with_reducible refine Rd.n24 ?_ | with_reducible refine Rd.n25 ?_ | with_reducible refine Rd.n26 ?_ | with_reducible refine Rd.n27 ?_ | with_reducible refine Rd.g0 ?_ | with_reducible refine Rd.g1 ?_ | with_reducible refine Rd.g2 ?_ | with_reducible refine Rd.g3 ?_ | with_reducible refine Rd.g4 ?_ | with_reducible refine Rd.g5 ?_ | with_reducible refine Rd.g6 ?_ | with_reducible refine Rd.g7 ?_ | with_reducible refine Rd.g8 ?_ | with_reducible refine Rd.g9 ?_ | with_reducible refine Rd.g10 ?_ | with_reducible refine Rd.g11 ?_ | with_reducible refine Rd.g12 ?_ | with_reducible refine Rd.g13 ?_ | with_reducible refine Rd.g14 ?_ | with_reducible refine Rd.g15 ?_ | with_reducible refine Rd.g16 ?_ | with_reducible refine Rd.g17 ?_ | with_reducible refine Rd.g18 ?_ | with_reducible refine Rd.g19 ?_ | with_reducible refine Rd.g20 ?_ | with_reducible refine Rd.g21 ?_ | with_reducible refine Rd.g22 ?_ | with_reducible refine Rd.g23 ?_ | with_reducible refine Rd.g24 ?_ | with_reducible refine Rd.g25 ?_ | with_reducible refine Rd.g26 ?_ | with_reducible refine Rd.g27 ?_ | ((with_reducible apply Rd.glst); (first | assumption | exact upd_same); exact rfl) | ((with_reducible apply Rd.gtP); assumption; assumption) | ((with_reducible apply Rd.revq); first | assumption | exact SqL.of (by assumption)) | ((with_reducible apply Rd.fldI); (first | assumption | exact upd_same); assumption; assumption; (first | assumption | with_unfolding_all rfl)) | ((with_reducible apply Rd.methI); (first | assumption | exact upd_same); (first | assumption | with_unfolding_all rfl)) | ((with_reducible apply Rd.sfldI); (first | assumption | exact upd_same); assumption; assumption; exact Nat.le_of_ble_eq_true rfl) | ((with_reducible apply Rd.maxL); assumption) | ((with_reducible apply Rd.anyL); assumption) | ((with_reducible apply Rd.sumL); assumption) | ((with_reducible refine Rd.izI (by assumption) (by assumption) ?_)) | with_reducible refine Rd.mtq ?_ | with_reducible refine Rd.mtRest ?_ | with_reducible refine Rd.mtEnd ?_ | with_reducible refine Rd.tbC ?_ | with_reducible refine Rd.tbT ?_ | with_reducible refine Rd.tbA ?_ | with_reducible refine Rd.tbN ?_ | with_reducible refine Rd.mto ?_ | with_reducible refine Rd.mtoI ?_ | with_reducible refine Rd.moRest ?_ | with_reducible refine Rd.moEnd ?_ | ((with_reducible apply Rd.mtqI); (first | assumption | exact SqT.of upd_same | exact SqT.of (by assumption)); exact Nat.le_of_ble_eq_true rfl) | ((with_reducible refine Rd.mtLen ?_ ?_); exact rfl) | ((with_reducible refine Rd.mtYes ?_ ?_); exact rfl) | ((with_reducible refine Rd.mtNo ?_ ?_); (first | assumption | decide +kernel)) | ((with_reducible refine Rd.mtOY ?_ ?_); exact rfl) | ((with_reducible refine Rd.mtON ?_ ?_); exact rfl) | ((with_reducible refine Rd.eq ?_ ?_); exact rfl) | ((with_reducible refine Rd.ne ?_ ?_); exact rfl) | ((with_reducible refine Rd.szA ?_ ?_); exact Nat.le_of_ble_eq_true rfl) | ((with_reducible refine Rd.I ?_ ?_); first | assumption | decide | exact Or.inr (by decide +kernel) | exact Or.inl (by decide +kernel) | exact ⟨by decide, by decide⟩ | exact ⟨by decide, by decide, by decide⟩ | omega) | ((with_reducible apply Rd.tyL); first | assumption | exact upd_same) | ((with_reducible apply Rd.tyLq); assumption) | ((with_reducible apply Rd.ixL); (first | assumption | exact upd_same); exact rfl) | ((with_reducible apply Rd.ixT); (first | assumption | exact upd_same); exact rfl) | ((with_reducible apply Rd.ixLq); assumption; exact rfl) | ((with_reducible apply Rd.ixTq); assumption; exact rfl) | ((with_reducible apply Rd.gtup); (first | assumption | exact upd_same); exact rfl) | ((with_reducible apply Rd.gtupq); assumption; exact rfl) | ((with_reducible apply Rd.sqAq); assumption) | ((with_reducible apply Rd.stAq); assumption) | ((with_reducible apply Rd.enAq); assumption) | ((with_reducible apply Rd.lenLq); assumption) | ((with_reducible apply Rd.lenTq); assumption) | ((with_reducible apply Rd.sqA); first | assumption | exact upd_same) | ((with_reducible apply Rd.stA); first | assumption | exact upd_same) | ((with_reducible apply Rd.enA); first | assumption | exact upd_same) | ((with_reducible apply Rd.lenL); first | assumption | exact upd_same) | ((with_reducible apply Rd.lenT); first | assumption | exact upd_same) | ((with_reducible refine Rd.nwT ?_ ?_); exact Nat.le_of_ble_eq_true rfl) | ((with_reducible refine Rd.nwL ?_ ?_); exact Nat.le_of_ble_eq_true rfl) | ((with_reducible apply Rd.isd); assumption) | ((with_reducible apply Rd.dictOf); assumption) | ((with_reducible refine Rd.isi_dd (by assumption) ?_)) | ((with_reducible apply Rd.itA); first | assumption | exact upd_same) | ((with_reducible apply Rd.ikA); first | assumption | exact upd_same) | ((with_reducible apply Rd.listOf); assumption) | ((with_reducible apply Rd.listOfq); assumption) | ((with_reducible apply Rd.slo); assumption) | ((with_reducible apply Rd.slq); assumption) | ((with_reducible apply Rd.srtI); assumption) | ((with_reducible apply Rd.srtIo); assumption) | ((with_reducible refine Rd.isi_li (by assumption) ?_)) | ((with_reducible refine Rd.isi_lb (by assumption) ?_)) | ((with_reducible refine Rd.isi_ls (by assumption) ?_)) | ((with_reducible refine Rd.isi_ll (by assumption) ?_)) | ((with_reducible refine Rd.isi_lt (by assumption) ?_)) | ((with_reducible refine Rd.isi_ld (by assumption) ?_)) | ((with_reducible refine Rd.isi_ti (by assumption) ?_)) | ((with_reducible refine Rd.isi_tb (by assumption) ?_)) | ((with_reducible refine Rd.isi_ts (by assumption) ?_)) | ((with_reducible refine Rd.isi_tl (by assumption) ?_)) | ((with_reducible refine Rd.isi_tt (by assumption) ?_)) | ((with_reducible refine Rd.isi_td (by assumption) ?_)))))







section
variable {P : Program} {w : World} {K : PySem.W.Frag} {mg : Str → Option Value} {base : Heap}
theorem StOk.upd {H : Hp} {p c D : Addr} {o : HO} (s : StOk H p c) (n1 : D ≠ p) (n2 : D ≠ c) : StOk (L2.upd H D o) p c := by
  obtain ⟨ms, k, v, sd, a, b, d, r⟩ := s
  exact ⟨ms, k, v, sd, a, by rw [upd_ne n1.symm]; exact b, by rw [upd_ne n2.symm]; exact d, r⟩
theorem Keep.updN {p D : Addr} {H0 H : Hp} {o : HO} (k : Keep p H0 H) (n : H0 D = none) : Keep p H0 (L2.upd H D o) := fun b x nb e => by
  rw [upd_ne (fun z => by rw [z, n] at e; cases e)]
  exact k b x nb e
theorem at_mem {xs : List Int} {z : Int} (h0 : 0 ≤ z) (h1 : z < (xs.length : Int)) : ∃ e ∈ xs, atI (xs.map V.int) z = some (.int e) := by
  obtain ⟨n, rfl⟩ : ∃ n : Nat, z = n := ⟨z.toNat, by omega⟩
  have hn : n < xs.length := by omega
  exact ⟨xs[n], List.getElem_mem hn, Rd.at_int rfl (List.getElem?_eq_getElem hn)⟩
structure Cost.Rg (c : Cost) : Prop where
  a : ∀ x ∈ [c.fh, c.fm, c.pl, c.mu, c.dv, c.lh, c.lm, c.st, c.tk, c.ct, c.po], 1 ≤ x ∧ x ≤ 64
  b : ∀ x ∈ [c.rl, c.sw, c.en, c.lv, c.fi], 0 ≤ x ∧ x ≤ 64
theorem cost_of {ns ms : List Int} (h : ns.length = 11) (g : ms.length = 5) (hn : ∀ v ∈ ns, 1 ≤ v ∧ v ≤ 64) (hm : ∀ v ∈ ms, 0 ≤ v ∧ v ≤ 64) : ∃ c : Cost, c.Rg ∧ ns ++ ms = c.l := by
  match ns, ms, h, g with
  | [a0, a1, a2, a3, a4, a5, a6, a7, a8, a9, a10], [b0, b1, b2, b3, b4], _, _ => exact ⟨⟨a0, a1, a2, a3, a4, a5, a6, a7, a8, a9, a10, b0, b1, b2, b3, b4⟩, ⟨hn, hm⟩, rfl⟩
def sp__law_numbers : Sp := fun vs H Q _ => ∃ (p c : Addr), vs = [.ref p] ∧ StOk H p c ∧ ∀ (l : Addr) (ct : Cost) (H' : Hp), ct.Ok → H l = none → H' l = some (.lst (ct.l.map V.int)) → l ≠ p → StOk H' p c → Keep p H H' → Q (.ref l) H'
theorem ok__law_numbers (T : Top P K mg) : FnOk P w K mg base CX0 2 T.a__law_numbers T.d__law_numbers ["state"]  sp__law_numbers := by
  refine T.F__law_numbers.ok sc__law_numbers (fun vs H Q E h => ?_) (fun cdv A outer s H vs Q E hr h => ?_)
  · obtain ⟨_, _, rfl, _⟩ := h
    rfl
  · obtain ⟨p, c, rfl, st0, q⟩ := h
    refine ⟨_, (pss_cons (ps_set (i := 1) sc__law_numbers.nd rfl (by first | exact Or.inl rfl | exact Or.inr rfl) (pe_lst pa_nil))
  (pss_cons (ps_for PassesOwn.never rfl (pi_range1 (by rfl) T.m_range (pa_cons pe_int pa_nil)) (pg_name (i := 2) sc__law_numbers.nd rfl (by first | exact Or.inl rfl | exact Or.inr rfl))
  (pss_one (ps_expr (pe_bm PySem.F.plainAttrs_list PySem.F.slot_list_append PySem.F.type_list_append mt_append (pv 1) (pa_cons (pe_ix ix_list (pe_lst (pa_cons pe_int (pa_cons pe_int (pa_cons (pe_op op_add pe_int (pe_call (ok__law_draw T) (hr.mono (by decide)) (by rfl) T.g__law_draw T.F__law_draw.kp T.b__law_draw .nil pass0 (pa_cons (pv 0) (pa_cons pe_int pa_nil)))) (pa_cons (pe_op op_add pe_int (pe_call (ok__law_draw T) (hr.mono (by decide)) (by rfl) T.g__law_draw T.F__law_draw.kp T.b__law_draw .nil pass0 (pa_cons (pv 0) (pa_cons pe_int pa_nil)))) pa_nil))))) (pe_call (ok__law_draw T) (hr.mono (by decide)) (by rfl) T.g__law_draw T.F__law_draw.kp T.b__law_draw .nil pass0 (pa_cons (pv 0) (pa_cons pe_int pa_nil))) (fun _ _ => rfl)) pa_nil)))))
  (pss_cons (ps_for PassesOwn.never rfl (pi_range1 (by rfl) T.m_range (pa_cons pe_int pa_nil)) (pg_name (i := 2) sc__law_numbers.nd rfl (by first | exact Or.inl rfl | exact Or.inr rfl))
  (pss_one (ps_expr (pe_bm PySem.F.plainAttrs_list PySem.F.slot_list_append PySem.F.type_list_append mt_append (pv 1) (pa_cons (pe_ix ix_list (pe_lst (pa_cons pe_int (pa_cons pe_int (pa_cons (pe_call (ok__law_draw T) (hr.mono (by decide)) (by rfl) T.g__law_draw T.F__law_draw.kp T.b__law_draw .nil pass0 (pa_cons (pv 0) (pa_cons pe_int pa_nil))) (pa_cons (pe_call (ok__law_draw T) (hr.mono (by decide)) (by rfl) T.g__law_draw T.F__law_draw.kp T.b__law_draw .nil pass0 (pa_cons (pv 0) (pa_cons pe_int pa_nil))) pa_nil))))) (pe_call (ok__law_draw T) (hr.mono (by decide)) (by rfl) T.g__law_draw T.F__law_draw.kp T.b__law_draw .nil pass0 (pa_cons (pv 0) (pa_cons pe_int pa_nil))) (fun _ _ => rfl)) pa_nil)))))
  (pss_cons (ps_for PassesOwn.never rfl (pi_tup (pe_tup (pa_cons pe_int (pa_cons pe_int pa_nil)))) (pg_name (i := 2) sc__law_numbers.nd rfl (by first | exact Or.inl rfl | exact Or.inr rfl))
  (pss_one (ps_if (pt_cmpR op_lt (pe_ix ix_list (pv 1) (pe_op op_add (pv 2) pe_int) (fun _ _ => rfl)) (pe_ix ix_list (pv 1) (pv 2) (fun _ _ => rfl)) (nomark _))
  (pss_one (ps_asg (pe_callB (call_min2 rfl) (by rfl) T.m_min (by decide +kernel) (pa_cons pe_int (pa_cons (pe_op op_add (pe_ix ix_list (pv 1) (pv 2) (fun _ _ => rfl)) (pe_call (ok__law_draw T) (hr.mono (by decide)) (by rfl) T.g__law_draw T.F__law_draw.kp T.b__law_draw .nil pass0 (pa_cons (pv 0) (pa_cons pe_int pa_nil)))) pa_nil))) (pg_sub (pv 1) (pe_op op_add (pv 2) pe_int) set_list)))
  pss_nil)))
  (pss_one (ps_ret (pv 1))))))), ?_⟩
    rw [show ∀ a0 : V, L2.start ["state", "numbers", "k"] [a0] = [some a0, none, none] from fun _ => rfl]
    walk_at "my rn"
    intro D H1 nD s1 hD
    have Dn := st0.ne nD
    walk_at "my rn"
    refine ⟨by decide, by decide, for_it walk_range (fun i σ H' => ∃ (y : Option V) (ns : List Int), σ = [some (.ref p), some (.ref D), y] ∧ ns.length = i ∧ (∀ v ∈ ns, 1 ≤ v ∧ v ≤ 64) ∧ H' D = some (.lst (ns.map V.int)) ∧ StOk H' p c ∧ Keep p H H') ⟨none, [], rfl, rfl, (by simp), hD, st0.same s1, Keep.same s1⟩ (fun _ _ _ _ _ => trivial) ?_ ?_⟩
    · rintro i x σ Ho H' hi ⟨y, ns, rfl, rfl, gn, hD', st, kp⟩ yy
      obtain ⟨rfl, e3⟩ := Rd.zr yy
      subst e3
      walk_at "my rn"
      refine ⟨p, c, 64, rfl, st, by decide, by decide, fun v H2 v0 v1 st2 k2 => ?_⟩
      walk_at "my rn"
      refine ⟨p, c, 6, rfl, st2, by decide, by decide, fun u H3 u0 u1 st3 k3 => ?_⟩
      walk_at "my rn"
      intro B H4 nB s4 hB
      walk_at "my rn"
      refine ⟨p, c, 4, rfl, st3.same s4, by decide, by decide, fun z H5 z0 z1 st5 k5 => ?_⟩
      have hD5 : H5 D = some (.lst (ns.map V.int)) := k5 _ _ Dn.1 (s4 _ _ (k3 _ _ Dn.1 (k2 _ _ Dn.1 hD')))
      have Bp := st3.ne nB
      obtain ⟨e, me, he⟩ := at_mem (xs := [1, 64, 1 + v, 1 + u]) z0 z1
      refine Rd.ixL (k5 _ _ Bp.1 hB) he ?_
      walk_at "my rn"
      have kp5 : Keep p H H5 := kp.trans (k2.trans (k3.trans ((Keep.same s4).trans k5)))
      refine Rd.app hD5 (Rd.szl (by rw [List.length_map]; have : ns.length < 11 := hi; omega)) ?_
      refine ⟨_, ns ++ [e], rfl, by simp, fun w m => ?_, by rw [upd_same, List.map_append]; rfl, st5.upd Dn.1 Dn.2, kp5.updN nD⟩
      rcases List.mem_append.mp m with m | m
      · exact gn w m
      · rw [List.mem_singleton.mp m]
        simp only [List.mem_cons, List.mem_nil_iff, or_false] at me
        omega
    · rintro σ H2 ⟨y, n1, rfl, ln1, gn1, hD2, st2, kp2⟩
      have ln1 : n1.length = 11 := ln1
      walk_at "my rn"
      refine ⟨by decide, by decide, for_it walk_range (fun i σ H' => ∃ (y : Option V) (ns : List Int), σ = [some (.ref p), some (.ref D), y] ∧ ns.length = i ∧ (∀ v ∈ ns, 0 ≤ v ∧ v ≤ 64) ∧ H' D = some (.lst ((n1 ++ ns).map V.int)) ∧ StOk H' p c ∧ Keep p H H') ⟨y, [], rfl, rfl, (by simp), by rw [List.append_nil]; exact hD2, st2, kp2⟩ (fun _ _ _ _ _ => trivial) ?_ ?_⟩
      · rintro i x σ Ho H' hi ⟨y, ns, rfl, rfl, gn, hD', st, kp⟩ yy
        obtain ⟨rfl, e3⟩ := Rd.zr yy
        subst e3
        walk_at "my rn"
        refine ⟨p, c, 65, rfl, st, by decide, by decide, fun v H2 v0 v1 st2 k2 => ?_⟩
        walk_at "my rn"
        refine ⟨p, c, 6, rfl, st2, by decide, by decide, fun u H3 u0 u1 st3 k3 => ?_⟩
        walk_at "my rn"
        intro B H4 nB s4 hB
        walk_at "my rn"
        refine ⟨p, c, 4, rfl, st3.same s4, by decide, by decide, fun z H5 z0 z1 st5 k5 => ?_⟩
        have hD5 : H5 D = some (.lst ((n1 ++ ns).map V.int)) := k5 _ _ Dn.1 (s4 _ _ (k3 _ _ Dn.1 (k2 _ _ Dn.1 hD')))
        have Bp := st3.ne nB
        obtain ⟨e, me, he⟩ := at_mem (xs := [0, 64, v, u]) z0 z1
        refine Rd.ixL (k5 _ _ Bp.1 hB) he ?_
        walk_at "my rn"
        have kp5 : Keep p H H5 := kp.trans (k2.trans (k3.trans ((Keep.same s4).trans k5)))
        refine Rd.app hD5 (Rd.szl (by rw [List.length_map, List.length_append]; have : ns.length < 5 := hi; omega)) ?_
        refine ⟨_, ns ++ [e], rfl, by simp, fun w m => ?_, by rw [upd_same, ← List.append_assoc, List.map_append (l₁ := n1 ++ ns)]; rfl, st5.upd Dn.1 Dn.2, kp5.updN nD⟩
        rcases List.mem_append.mp m with m | m
        · exact gn w m
        · rw [List.mem_singleton.mp m]
          simp only [List.mem_cons, List.mem_nil_iff, or_false] at me
          omega
      · rintro σ H3 ⟨y3, n2, rfl, ln2, gn2, hD3, st3, kp3⟩
        obtain ⟨c0, cr, ec⟩ := cost_of ln1 ln2 gn1 gn2
        rw [ec] at hD3
        walk_at "my rn"
        intro Z H4 nZ s4 hZ
        walk_at "my rn"
        refine for_it (walk_tup (xs := [.int 0, .int 5])) (fun i σ H' => ∃ (y : Option V) (ct : Cost), σ = [some (.ref p), some (.ref D), y] ∧ ct.Rg ∧ (1 ≤ i → ct.fh ≤ ct.fm) ∧ (2 ≤ i → ct.lh ≤ ct.lm) ∧ H' Z = some (.tup [.int 0, .int 5]) ∧ H' D = some (.lst (ct.l.map V.int)) ∧ StOk H' p c ∧ Keep p H H') ⟨y3, c0, rfl, cr, fun z => absurd z (by decide), fun z => absurd z (by decide), hZ, s4 _ _ hD3, st3.same s4, kp3.trans (Keep.same s4)⟩ (fun _ _ _ _ ⟨_, _, _, _, _, _, h, _⟩ => SqT.of h) ?_ ?_
        · rintro i x σ Ho H5 hi ⟨y5, ct, rfl, cr, o1, o2, hZ5, hD5, st5, kp5⟩ ⟨e5, hx⟩
          subst e5
          have Zp := st3.ne nZ
          have i2 : i = 0 ∨ i = 1 := by have : i < 2 := hi; omega
          rcases i2 with rfl | rfl
          · cases hx
            walk_at "my rn"
            refine Rd.ifD (fun h1 => ?_) fun h1 => ?_
            · walk_at "my rn"
              refine ⟨p, c, 3, rfl, st5, by decide, by decide, fun v H6 v0 v1 st6 k6 => ?_⟩
              walk_at "my rn"
              have fa := cr.a ct.fh (by simp)
              obtain ⟨m, em⟩ : ∃ m, m = (if ct.fh + v < 64 then ct.fh + v else 64) := ⟨_, rfl⟩
              rw [← em]
              have bm : ct.fh ≤ m ∧ 1 ≤ m ∧ m ≤ 64 := by rw [em]; split <;> omega
              refine Rd.setL (j := 1) (k6 _ _ Dn.1 hD5) rfl ?_
              walk_at "my rn"
              refine ⟨_, { ct with fm := m }, rfl, ⟨fun x hx => ?_, cr.b⟩, fun _ => ?_, fun z => absurd z (by decide), by rw [upd_ne (fun z => by rw [z] at hZ5; rw [hZ5] at hD5; cases hD5)]; exact k6 _ _ Zp.1 hZ5, upd_same, st6.upd Dn.1 Dn.2, (kp5.trans k6).updN nD⟩
              · simp only [List.mem_cons, List.mem_nil_iff, or_false] at hx
                have := cr.a
                simp only [List.mem_cons, List.mem_nil_iff, or_false] at this
                rcases hx with hx | hx | hx | hx | hx | hx | hx | hx | hx | hx | hx
                all_goals first | (rw [hx]; exact ⟨bm.2.1, bm.2.2⟩) | exact this x (by simp [hx])
              · exact bm.1
            · walk_at "my rn"
              exact ⟨_, ct, rfl, cr, fun _ => by omega, fun z => absurd z (by decide), hZ5, hD5, st5, kp5⟩
          · cases hx
            walk_at "my rn"
            refine Rd.ifD (fun h1 => ?_) fun h1 => ?_
            · walk_at "my rn"
              refine ⟨p, c, 3, rfl, st5, by decide, by decide, fun v H6 v0 v1 st6 k6 => ?_⟩
              walk_at "my rn"
              have fa := cr.a ct.lh (by simp)
              obtain ⟨m, em⟩ : ∃ m, m = (if ct.lh + v < 64 then ct.lh + v else 64) := ⟨_, rfl⟩
              rw [← em]
              have bm : ct.lh ≤ m ∧ 1 ≤ m ∧ m ≤ 64 := by rw [em]; split <;> omega
              refine Rd.setL (j := 6) (k6 _ _ Dn.1 hD5) rfl ?_
              walk_at "my rn"
              refine ⟨_, { ct with lm := m }, rfl, ⟨fun x hx => ?_, cr.b⟩, fun _ => o1 (by decide), fun _ => ?_, by rw [upd_ne (fun z => by rw [z] at hZ5; rw [hZ5] at hD5; cases hD5)]; exact k6 _ _ Zp.1 hZ5, upd_same, st6.upd Dn.1 Dn.2, (kp5.trans k6).updN nD⟩
              · simp only [List.mem_cons, List.mem_nil_iff, or_false] at hx
                have := cr.a
                simp only [List.mem_cons, List.mem_nil_iff, or_false] at this
                rcases hx with hx | hx | hx | hx | hx | hx | hx | hx | hx | hx | hx
                all_goals first | (rw [hx]; exact ⟨bm.2.1, bm.2.2⟩) | exact this x (by simp [hx])
              · exact bm.1
            · walk_at "my rn"
              exact ⟨_, ct, rfl, cr, fun _ => o1 (by decide), fun _ => by omega, hZ5, hD5, st5, kp5⟩
        · rintro σ H5 ⟨y5, ct, rfl, cr, o1, o2, hZ5, hD5, st5, kp5⟩
          walk_at "my rn"
          exact q D ct H5 ⟨cr.a, cr.b, o1 (by decide), o2 (by decide)⟩ nD hD5 Dn.1 st5 kp5
def sp__law_made (K : PySem.W.Frag) (C : Addr) : Sp := fun vs H Q _ => ∃ (l : Addr) (c : Cost), vs = [.ref l] ∧ SqL K H l (c.l.map V.int) ∧ c.Sm ∧
  (c.Ok → ∀ (H' : Hp) (o : Addr), CostsAt C H' o c → Same H H' → H o = none → Q (.ref o) H') ∧ (¬ c.Ok → ∀ H', Same H H' → Q .non H')
theorem ok__law_made (T : Top P K mg) : FnOk P w K mg base CX0 7 T.a__law_made T.d__law_made ["n"]  (sp__law_made K T.C_Costs) := by
  refine T.F__law_made.ok sc__law_made (fun vs H Q E h => ?_) (fun cdv A outer s H vs Q E hr h => ?_)
  · obtain ⟨_, _, rfl, _⟩ := h
    rfl
  · obtain ⟨l, ct, rfl, hl, sm, q, qn⟩ := h
    refine ⟨_, (pss_one (ps_try_as (i := 1) (Wout := fun _ _ _ _ => False) rfl rfl sc__law_made.nd rfl rfl ⟨rfl, by decide, Or.inl T.gc_PlanError⟩ takes0 (fun W pn xe tk _ => (pss_one (ps_ret (pe_makeKS T.M_Costs (ok_Costs_init T) (hr.mono (by decide)) (by rfl) T.gc_Costs (kb_Costs_init_0 T.F_Costs_init).choose_spec (fun σ => passAt tk σ) (pk_cons (pe_ix (r := rIxL K) ix_list (pv 0) pe_int (fun _ _ => rfl)) (pk_cons (pe_ix (r := rIxL K) ix_list (pv 0) pe_int (fun _ _ => rfl)) (pk_cons (pe_ix (r := rIxL K) ix_list (pv 0) pe_int (fun _ _ => rfl)) (pk_cons (pe_ix (r := rIxL K) ix_list (pv 0) pe_int (fun _ _ => rfl)) (pk_cons (pe_ix (r := rIxL K) ix_list (pv 0) pe_int (fun _ _ => rfl)) (pk_cons (pe_ix (r := rIxL K) ix_list (pv 0) pe_int (fun _ _ => rfl)) (pk_cons (pe_ix (r := rIxL K) ix_list (pv 0) pe_int (fun _ _ => rfl)) (pk_cons (pe_ix (r := rIxL K) ix_list (pv 0) pe_int (fun _ _ => rfl)) (pk_cons (pe_ix (r := rIxL K) ix_list (pv 0) pe_int (fun _ _ => rfl)) (pk_cons (pe_ix (r := rIxL K) ix_list (pv 0) pe_int (fun _ _ => rfl)) (pk_cons (pe_ix (r := rIxL K) ix_list (pv 0) pe_int (fun _ _ => rfl)) (pk_cons (pe_ix (r := rIxL K) ix_list (pv 0) pe_int (fun _ _ => rfl)) (pk_cons (pe_ix (r := rIxL K) ix_list (pv 0) pe_int (fun _ _ => rfl)) (pk_cons (pe_ix (r := rIxL K) ix_list (pv 0) pe_int (fun _ _ => rfl)) (pk_cons (pe_ix (r := rIxL K) ix_list (pv 0) pe_int (fun _ _ => rfl)) (pk_cons (pe_ix (r := rIxL K) ix_list (pv 0) pe_int (fun _ _ => rfl)) pk_nil)))))))))))))))))))) (fun a oe cls d pn hz hf => (pss_cons (ps_if (PW.pt (pw_or (pt_not (pt_val (pe_callB (call_isD T.xd_PlanError hz hf) (by rfl) T.m_isinstance (by decide +kernel) (pa_cons (pv 1) (pa_cons (pe_gr (by rfl) T.gc_DeadbeatError) pa_nil))))) (pw_or1 (pt_not (pt_val (pe_callB (show CallR _ (Value.builtin "isinstance") (rIsi K) from call_isi) (by rfl) T.m_isinstance (by decide +kernel) (by exact (pa_cons (pe_xf T.xf_PlanError T.x_PlanError.noN hz hf (pv 1)) (pa_cons (pe_ty (T := "int") (by rfl) T.m_int (by decide +kernel)) pa_nil)))))))))
  (pss_one (ps_ret pe_int))
  pss_nil)
  (pss_one (ps_ret pe_non)))))), ?_⟩
    rw [show ∀ a0 : V, L2.start ["n", "e"] [a0] = [some a0, none] from fun _ => rfl]
    unfold Cost.l at hl
    walk_at "my rn"
    refine ⟨rfl, fun x dx nx nd ned => ?_⟩
    have s0 : Same H (L2.upd (L2.upd H dx (.own x)) x (.ins T.C_Costs dx [])) := fun b y e => by
      rw [upd_ne (ne_of_none e nx), upd_ne (ne_of_none e nd)]
      exact e
    refine ⟨x, dx, ct, rfl, sm, upd_same, fun ok H' h1 h2 => ⟨rfl, ?_⟩, fun no n H1 d sm hd hx => ?_⟩
    · exact q ok H' x ⟨dx, h1⟩ (fun b y e => h2 b y (ne_of_none e nx) (s0 b y e)) nx
    · refine ⟨true, T.x_PlanError.te, fun _ a na => ?_, fun q => Bool.noConfusion q⟩
      refine if_or (a := false) (b := false) (fun Q' q' => ⟨_, rfl, _, (.ref T.C_DeadbeatError), true, d, _, rfl, rfl, rfl, fun u h => h, T.kt_PlanError_DeadbeatError, hx, true, rfl, q'⟩)
        (fun _ Q' q' => ⟨_, rfl, rfl, rfl, d, _, _, rfl, hx, rfl, _, _, _, _, true, rfl, .ty _, .base (.int _), kit_ty (by decide +kernel), true, rfl, q'⟩) (iteF ?_)
      exact qn no H1 (s0.trans sm)
end

end Mine


set_option Elab.async false
set_option linter.all false
set_option maxRecDepth 100000
set_option maxHeartbeats 400000


namespace Mine
open PySem PySem.Spec PyProof.Rows L2
local macro_rules | `(tactic| walk_at "my rn") => `(tactic| (repeat (first | with_reducible refine Rd.callS ?_ | with_reducible refine Rd.mkS ?_ | with_reducible refine Rd.mkKS ?_ | with_reducible refine Rd.mkK ?_ | with_reducible refine Rd.callN ?_ | with_reducible refine Rd.catQI ?_ | with_reducible refine Rd.revN ?_ | with_reducible refine Rd.lzip ?_ | with_reducible refine Rd.fld ?_ | with_reducible refine Rd.sfld ?_ | with_reducible refine Rd.meth ?_ | with_reducible refine Rd.make ?_ | with_reducible refine Rd.izip ?_ | with_reducible refine Rd.disp ?_ | with_reducible refine Rd.pcons ?_ | with_reducible refine Rd.pnil ?_ | with_reducible refine Rd.dsp ?_ | with_reducible refine Rd.dnew ?_ | with_reducible refine Rd.din ?_ | with_reducible refine Rd.dnot ?_ | with_reducible refine Rd.dget ?_ | with_reducible refine Rd.dget2 ?_ | with_reducible refine Rd.dput ?_ | with_reducible refine Rd.cbDictOf ?_ | with_reducible refine Rd.iitems ?_ | with_reducible refine Rd.ikeys ?_ | with_reducible refine Rd.dc ?_ | with_reducible refine Rd.nwD ?_ | with_reducible refine Rd.tupN ?_ | with_reducible refine Rd.lstN ?_ | with_reducible refine Rd.cbListOf ?_ | with_reducible refine Rd.cbListOfR ?_ | with_reducible refine Rd.catI ?_ | with_reducible refine Rd.slN ?_ | with_reducible refine Rd.cbSrtI ?_ | with_reducible refine Rd.seq ?_ | with_reducible refine Rd.next ?_ | with_reducible refine Rd.brk ?_ | with_reducible refine Rd.cont ?_ | with_reducible refine Rd.asg ?_ | with_reducible refine Rd.ret ?_ | with_reducible refine Rd.retN ?_ | with_reducible refine Rd.drop ?_ | with_reducible refine Rd.ifs ?_ | with_reducible refine Rd.ife ?_ | with_reducible refine Rd.test ?_ | with_reducible refine Rd.tb_ ?_ | with_reducible refine Rd.bl ?_ | with_reducible refine Rd.bl2 ?_ | with_reducible refine Rd.and_ ?_ | with_reducible refine Rd.or_ ?_ | with_reducible refine Rd.not_ ?_ | with_reducible refine Rd.andV ?_ | with_reducible refine Rd.orV ?_ | with_reducible refine Rd.notV ?_ | with_reducible refine Rd.op ?_ | with_reducible refine Rd.un ?_ | with_reducible refine Rd.I0 ?_ | with_reducible refine Rd.U ?_ | with_reducible refine Rd.ip ?_ | with_reducible refine Rd.c_ ?_ | with_reducible refine Rd.nil ?_ | with_reducible refine Rd.cons ?_ | with_reducible refine Rd.call ?_ | with_reducible refine Rd.cb ?_ | with_reducible refine Rd.bm ?_ | with_reducible refine Rd.bm0 ?_ | with_reducible refine Rd.nopart ?_ | with_reducible refine Rd.part ?_ | with_reducible refine Rd.int1 ?_ | with_reducible refine Rd.ints1 ?_ | with_reducible refine Rd.ints2 ?_ | with_reducible refine Rd.gcons ?_ | with_reducible refine Rd.gnil ?_ | with_reducible refine Rd.sub ?_ | with_reducible refine Rd.isN ?_ | with_reducible refine Rd.chain ?_ | with_reducible refine Rd.rf ?_ | with_reducible refine Rd.tyS ?_ | with_reducible refine Rd.intI ?_ | with_reducible refine Rd.lc ?_ | with_reducible refine Rd.for_ ?_ | with_reducible refine Rd.ilist ?_ | with_reducible refine Rd.itup ?_ | with_reducible refine Rd.irng1 ?_ | with_reducible refine Rd.irng2 ?_ | with_reducible refine Rd.ienum ?_ | with_reducible refine Rd.istr ?_ | with_reducible refine Rd.refA ?_ | with_reducible refine Rd.strA ?_ | with_reducible refine Rd.yes ?_ | with_reducible refine Rd.ifT ?_ | with_reducible refine Rd.ifF ?_ | with_reducible refine Rd.ifnT ?_ | with_reducible refine Rd.ifnF ?_ | with_reducible refine Rd.isi_ii ?_ | with_reducible refine Rd.isi_ib ?_ | with_reducible refine Rd.isi_is ?_ | with_reducible refine Rd.isi_il ?_ | with_reducible refine Rd.isi_it ?_ | with_reducible refine Rd.isi_id ?_ | with_reducible refine Rd.isi_bi ?_ | with_reducible refine Rd.isi_bb ?_ | with_reducible refine Rd.isi_bs ?_ | with_reducible refine Rd.isi_bl ?_ | with_reducible refine Rd.isi_bt ?_ | with_reducible refine Rd.isi_bd ?_ | with_reducible refine Rd.isi_si ?_ | with_reducible refine Rd.isi_sb ?_ | with_reducible refine Rd.isi_ss ?_ | with_reducible refine Rd.isi_sl ?_ | with_reducible refine Rd.isi_st ?_ | with_reducible refine Rd.isi_sd ?_ | with_reducible refine Rd.isi_ni ?_ | with_reducible refine Rd.isi_nb ?_ | with_reducible refine Rd.isi_ns ?_ | with_reducible refine Rd.isi_nl ?_ | with_reducible refine Rd.isi_nt ?_ | with_reducible refine Rd.isi_nd ?_ | with_reducible refine Rd.sl ?_ | with_reducible refine Rd.v0 ?_ | with_reducible refine Rd.v1 ?_ | with_reducible refine Rd.v2 ?_ | with_reducible refine Rd.v3 ?_ | with_reducible refine Rd.v4 ?_ | with_reducible refine Rd.v5 ?_ | with_reducible refine Rd.v6 ?_ | with_reducible refine Rd.v7 ?_ | with_reducible refine Rd.v8 ?_ | with_reducible refine Rd.v9 ?_ | with_reducible refine Rd.v10 ?_ | with_reducible refine Rd.v11 ?_ | with_reducible refine Rd.v12 ?_ | with_reducible refine Rd.v13 ?_ | with_reducible refine Rd.v14 ?_ | with_reducible refine Rd.v15 ?_ | with_reducible refine Rd.v16 ?_ | with_reducible refine Rd.v17 ?_ | with_reducible refine Rd.v18 ?_ | with_reducible refine Rd.v19 ?_ | with_reducible refine Rd.v20 ?_ | with_reducible refine Rd.v21 ?_ | with_reducible refine Rd.v22 ?_ | with_reducible refine Rd.v23 ?_ | with_reducible refine Rd.v24 ?_ | with_reducible refine Rd.v25 ?_ | with_reducible refine Rd.v26 ?_ | with_reducible refine Rd.v27 ?_ | with_reducible refine Rd.n0 ?_ | with_reducible refine Rd.n1 ?_ | with_reducible refine Rd.n2 ?_ | with_reducible refine Rd.n3 ?_ | with_reducible refine Rd.n4 ?_ | with_reducible refine Rd.n5 ?_ | with_reducible refine Rd.n6 ?_ | with_reducible refine Rd.n7 ?_ | with_reducible refine Rd.n8 ?_ | with_reducible refine Rd.n9 ?_ | with_reducible refine Rd.n10 ?_ | with_reducible refine Rd.n11 ?_ | with_reducible refine Rd.n12 ?_ | with_reducible refine Rd.n13 ?_ | with_reducible refine Rd.n14 ?_ | with_reducible refine Rd.n15 ?_ | with_reducible refine Rd.n16 ?_ | with_reducible refine Rd.n17 ?_ | with_reducible refine Rd.n18 ?_ | with_reducible refine Rd.n19 ?_ | with_reducible refine Rd.n20 ?_ | with_reducible refine Rd.n21 ?_ | with_reducible refine Rd.n22 ?_ | with_reducible refine Rd.n23 ?_ | with_reducible refine Rd.n24 ?_ | with_reducible refine Rd.n25 ?_ | with_reducible refine Rd.n26 ?_ | with_reducible refine Rd.n27 ?_ | with_reducible refine Rd.g0 ?_ | with_reducible refine Rd.g1 ?_ | with_reducible refine Rd.g2 ?_ | with_reducible refine Rd.g3 ?_ | with_reducible refine Rd.g4 ?_ | with_reducible refine Rd.g5 ?_ | with_reducible refine Rd.g6 ?_ | with_reducible refine Rd.g7 ?_ | with_reducible refine Rd.g8 ?_ | with_reducible refine Rd.g9 ?_ | with_reducible refine Rd.g10 ?_ | with_reducible refine Rd.g11 ?_ | with_reducible refine Rd.g12 ?_ | with_reducible refine Rd.g13 ?_ | with_reducible refine Rd.g14 ?_ | with_reducible refine Rd.g15 ?_ | with_reducible refine Rd.g16 ?_ | with_reducible refine Rd.g17 ?_ | with_reducible refine Rd.g18 ?_ | with_reducible refine Rd.g19 ?_ | with_reducible refine Rd.g20 ?_ | with_reducible refine Rd.g21 ?_ | with_reducible refine Rd.g22 ?_ | with_reducible refine Rd.g23 ?_ | with_reducible refine Rd.g24 ?_ | with_reducible refine Rd.g25 ?_ | with_reducible refine Rd.g26 ?_ | with_reducible refine Rd.g27 ?_ | ((with_reducible apply Rd.glst); (first | assumption | exact upd_same); exact rfl) | ((with_reducible apply Rd.gtP); assumption; assumption) | ((with_reducible apply Rd.revq); first | assumption | exact SqL.of (by assumption)) | ((with_reducible apply Rd.fldI); (first | assumption | exact upd_same); assumption; assumption; (first | assumption | with_unfolding_all rfl)) | ((with_reducible apply Rd.methI); (first | assumption | exact upd_same); (first | assumption | with_unfolding_all rfl)) | ((with_reducible apply Rd.sfldI); (first | assumption | exact upd_same); assumption; assumption; exact Nat.le_of_ble_eq_true rfl) | ((with_reducible apply Rd.maxL); assumption) | ((with_reducible apply Rd.anyL); assumption) | ((with_reducible apply Rd.sumL); assumption) | ((with_reducible refine Rd.izI (by assumption) (by assumption) ?_)) | with_reducible refine Rd.mtq ?_ | with_reducible refine Rd.mtRest ?_ | with_reducible refine Rd.mtEnd ?_ | with_reducible refine Rd.tbC ?_ | with_reducible refine Rd.tbT ?_ | with_reducible refine Rd.tbA ?_ | with_reducible refine Rd.tbN ?_ | with_reducible refine Rd.mto ?_ | with_reducible refine Rd.mtoI ?_ | with_reducible refine Rd.moRest ?_ | with_reducible refine Rd.moEnd ?_ | ((with_reducible apply Rd.mtqI); (first | assumption | exact SqT.of upd_same | exact SqT.of (by assumption)); exact Nat.le_of_ble_eq_true rfl) | ((with_reducible refine Rd.mtLen ?_ ?_); exact rfl) | ((with_reducible refine Rd.mtYes ?_ ?_); exact rfl) | ((with_reducible refine Rd.mtNo ?_ ?_); (first | assumption | decide +kernel)) | ((with_reducible refine Rd.mtOY ?_ ?_); exact rfl) | ((with_reducible refine Rd.mtON ?_ ?_); exact rfl) | ((with_reducible refine Rd.eq ?_ ?_); exact rfl) | ((with_reducible refine Rd.ne ?_ ?_); exact rfl) | ((with_reducible refine Rd.szA ?_ ?_); exact Nat.le_of_ble_eq_true rfl) | ((with_reducible refine Rd.I ?_ ?_); first | assumption | decide | exact Or.inr (by decide +kernel) | exact Or.inl (by decide +kernel) | exact ⟨by decide, by decide⟩ | exact ⟨by decide, by decide, by decide⟩ | omega) | ((with_reducible apply Rd.tyL); first | assumption | exact upd_same) | ((with_reducible apply Rd.tyLq); assumption) | ((with_reducible apply Rd.ixL); (first | assumption | exact upd_same); exact rfl) | ((with_reducible apply Rd.ixT); (first | assumption | exact upd_same); exact rfl) | ((with_reducible apply Rd.ixLq); assumption; exact rfl) | ((with_reducible apply Rd.ixTq); assumption; exact rfl) | ((with_reducible apply Rd.gtup); (first | assumption | exact upd_same); exact rfl) | ((with_reducible apply Rd.gtupq); assumption; exact rfl) | ((with_reducible apply Rd.sqAq); assumption) | ((with_reducible apply Rd.stAq); assumption) | ((with_reducible apply Rd.enAq); assumption) | ((with_reducible apply Rd.lenLq); assumption) | ((with_reducible apply Rd.lenTq); assumption) | ((with_reducible apply Rd.sqA); first | assumption | exact upd_same) | ((with_reducible apply Rd.stA); first | assumption | exact upd_same) | ((with_reducible apply Rd.enA); first | assumption | exact upd_same) | ((with_reducible apply Rd.lenL); first | assumption | exact upd_same) | ((with_reducible apply Rd.lenT); first | assumption | exact upd_same) | ((with_reducible refine Rd.nwT ?_ ?_); exact Nat.le_of_ble_eq_true rfl) | ((with_reducible refine Rd.nwL ?_ ?_); exact Nat.le_of_ble_eq_true rfl) | ((with_reducible apply Rd.isd); assumption) | ((with_reducible apply Rd.dictOf); assumption) | ((with_reducible refine Rd.isi_dd (by assumption) ?_)) | ((with_reducible apply Rd.itA); first | assumption | exact upd_same) | ((with_reducible apply Rd.ikA); first | assumption | exact upd_same) | ((with_reducible apply Rd.listOf); assumption) | ((with_reducible apply Rd.listOfq); assumption) | ((with_reducible apply Rd.slo); assumption) | ((with_reducible apply Rd.slq); assumption) | ((with_reducible apply Rd.srtI); assumption) | ((with_reducible apply Rd.srtIo); assumption) | ((with_reducible refine Rd.isi_li (by assumption) ?_)) | ((with_reducible refine Rd.isi_lb (by assumption) ?_)) | ((with_reducible refine Rd.isi_ls (by assumption) ?_)) | ((with_reducible refine Rd.isi_ll (by assumption) ?_)) | ((with_reducible refine Rd.isi_lt (by assumption) ?_)) | ((with_reducible refine Rd.isi_ld (by assumption) ?_)) | ((with_reducible refine Rd.isi_ti (by assumption) ?_)) | ((with_reducible refine Rd.isi_tb (by assumption) ?_)) | ((with_reducible refine Rd.isi_ts (by assumption) ?_)) | ((with_reducible refine Rd.isi_tl (by assumption) ?_)) | ((with_reducible refine Rd.isi_tt (by assumption) ?_)) | ((with_reducible refine Rd.isi_td (by assumption) ?_)))))







section
variable {P : Program} {w : World} {K : PySem.W.Frag} {mg : Str → Option Value} {base : Heap}
def IsIns (K : PySem.W.Frag) (H : Hp) (v : V) : Prop := ∃ t nm op, v = .ref t ∧ InsAt K H t nm op
theorem IsIns.same {K : PySem.W.Frag} {H H' : Hp} {v : V} (h : IsIns K H v) (s : Same H H') : IsIns K H' v := by
  obtain ⟨t, nm, op, e, h⟩ := h
  exact ⟨t, nm, op, e, h.same s⟩
theorem isIns1 {K : PySem.W.Frag} {H : Hp} {t : Addr} {nm : Str} {xs : List V} (h : H t = some (.tup (.str nm :: xs))) (n : nm ≠ "calc") : IsIns K H (.ref t) := ⟨t, nm, "", rfl, ⟨_, SqT.of h, rfl, fun z => absurd z n⟩⟩
theorem isIns2 {K : PySem.W.Frag} {H : Hp} {t : Addr} {nm op : Str} {xs : List V} (h : H t = some (.tup (.str nm :: .str op :: xs))) : IsIns K H (.ref t) := ⟨t, nm, op, rfl, ⟨_, SqT.of h, rfl, fun _ => rfl⟩⟩
theorem at_memV {xs : List V} {z : Int} (h0 : 0 ≤ z) (h1 : z < (xs.length : Int)) : ∃ e ∈ xs, atI xs z = some e := by
  obtain ⟨n, rfl⟩ : ∃ n : Nat, z = n := ⟨z.toNat, by omega⟩
  have hn : n < xs.length := by omega
  exact ⟨xs[n], List.getElem_mem hn, Rd.at_val rfl (List.getElem?_eq_getElem hn)⟩
theorem at_memH {xs : List V} {z : Int} {H : Hp} {a : Addr} {n : Nat} (_h : H a = some (.lst xs)) (e : xs.length = n) (h0 : 0 ≤ z) (h1 : z < (n : Int)) : ∃ e ∈ xs, atI xs z = some e := at_memV h0 (by omega)
theorem Keep.seqT {K : PySem.W.Frag} {p c t : Addr} {H H' : Hp} {xs : List V} (k : Keep p H H') (s : StOk H p c) (h : SqT K H t xs) : SqT K H' t xs := by
  obtain ⟨ms, j, v, sd, _, hp, _⟩ := s
  rcases h with h | h
  · rcases h with h | ⟨o, h⟩
    · exact .inl (.inl (k _ _ (fun z => by rw [z, hp] at h; cases h) h))
    · exact .inl (.inr ⟨o, k _ _ (fun z => by rw [z, hp] at h; cases h) h⟩)
  · exact .inr h
theorem InsAt.keep {K : PySem.W.Frag} {p c t : Addr} {H H' : Hp} {nm op : Str} (h : InsAt K H t nm op) (s : StOk H p c) (k : Keep p H H') : InsAt K H' t nm op := by
  obtain ⟨xs, h, e⟩ := h.ex
  exact ⟨xs, k.seqT s h, e⟩
def sp__law_instruction (K : PySem.W.Frag) : Sp := fun vs H Q _ => ∃ (p c : Addr), vs = [.ref p] ∧ StOk H p c ∧ ∀ (t : Addr) (nm op : Str) (H' : Hp), InsAt K H' t nm op → StOk H' p c → Keep p H H' → Q (.ref t) H'
theorem ok__law_instruction (T : Top P K mg) : FnOk P w K mg base CX0 2 T.a__law_instruction T.d__law_instruction ["state"]  (sp__law_instruction K) := by
  refine T.F__law_instruction.ok sc__law_instruction (fun vs H Q E h => ?_) (fun cdv A outer s H vs Q E hr h => ?_)
  · obtain ⟨_, _, rfl, _⟩ := h
    rfl
  · obtain ⟨p, c, rfl, st0, q⟩ := h
    refine ⟨_, (pss_cons (ps_set (i := 1) sc__law_instruction.nd rfl (by first | exact Or.inl rfl | exact Or.inr rfl) (pe_lst (pa_cons (pe_tup (pa_cons pe_str (pa_cons pe_int (pa_cons pe_int pa_nil)))) (pa_cons (pe_tup (pa_cons pe_str (pa_cons pe_int (pa_cons pe_int pa_nil)))) (pa_cons (pe_tup (pa_cons pe_str (pa_cons pe_str (pa_cons pe_int (pa_cons pe_int (pa_cons pe_int pa_nil)))))) (pa_cons (pe_tup (pa_cons pe_str (pa_cons pe_str (pa_cons pe_int (pa_cons pe_int (pa_cons pe_int pa_nil)))))) (pa_cons (pe_tup (pa_cons pe_str (pa_cons pe_str (pa_cons pe_int (pa_cons pe_int (pa_cons pe_int pa_nil)))))) pa_nil)))))))
  (pss_cons (ps_set (i := 1) sc__law_instruction.nd rfl (by first | exact Or.inl rfl | exact Or.inr rfl) (pe_op op_catQ (pv 1) (pe_lst (pa_cons (pe_tup (pa_cons pe_str (pa_cons pe_str (pa_cons pe_int (pa_cons pe_int (pa_cons pe_int pa_nil)))))) (pa_cons (pe_tup (pa_cons pe_str (pa_cons pe_str (pa_cons pe_int (pa_cons pe_int (pa_cons pe_int pa_nil)))))) (pa_cons (pe_tup (pa_cons pe_str (pa_cons pe_int (pa_cons pe_int pa_nil)))) (pa_cons (pe_tup (pa_cons pe_str (pa_cons pe_int (pa_cons pe_int (pa_cons pe_int (pa_cons pe_int pa_nil)))))) pa_nil)))))))
  (pss_cons (ps_set (i := 1) sc__law_instruction.nd rfl (by first | exact Or.inl rfl | exact Or.inr rfl) (pe_op op_catQ (pv 1) (pe_lst (pa_cons (pe_tup (pa_cons pe_str (pa_cons pe_int (pa_cons pe_int pa_nil)))) (pa_cons (pe_tup (pa_cons pe_str (pa_cons pe_int (pa_cons pe_int (pa_cons pe_int (pa_cons pe_int pa_nil)))))) (pa_cons (pe_tup (pa_cons pe_str (pa_cons pe_int pa_nil))) (pa_cons (pe_tup (pa_cons pe_str (pa_cons pe_int (pa_cons pe_int pa_nil)))) (pa_cons (pe_tup (pa_cons pe_str (pa_cons pe_int (pa_cons pe_int pa_nil)))) pa_nil))))))))
  (pss_cons (ps_set (i := 1) sc__law_instruction.nd rfl (by first | exact Or.inl rfl | exact Or.inr rfl) (pe_op op_catQ (pv 1) (pe_lst (pa_cons (pe_tup (pa_cons pe_str (pa_cons pe_int (pa_cons pe_int pa_nil)))) (pa_cons (pe_tup (pa_cons pe_str (pa_cons pe_int pa_nil))) (pa_cons (pe_tup (pa_cons pe_str pa_nil)) (pa_cons (pe_tup (pa_cons pe_str pa_nil)) (pa_cons (pe_tup (pa_cons pe_str (pa_cons pe_int pa_nil))) (pa_cons (pe_tup (pa_cons pe_str (pa_cons pe_int pa_nil))) (pa_cons (pe_tup (pa_cons pe_str (pa_cons pe_int (pa_cons pe_int pa_nil)))) pa_nil))))))))))
  (pss_cons (ps_set (i := 1) sc__law_instruction.nd rfl (by first | exact Or.inl rfl | exact Or.inr rfl) (pe_op op_catQ (pv 1) (pe_lst (pa_cons (pe_tup (pa_cons pe_str (pa_cons pe_int (pa_cons pe_int pa_nil)))) pa_nil))))
  (pss_one (ps_ret (pe_ix ix_list (pv 1) (pe_call (ok__law_draw T) (hr.mono (by decide)) (by rfl) T.g__law_draw T.F__law_draw.kp T.b__law_draw .nil pass0 (pa_cons (pv 0) (pa_cons pe_int pa_nil))) (fun _ _ => rfl))))))))), ?_⟩
    rw [show ∀ a0 : V, L2.start ["state", "menu"] [a0] = [some a0, none] from fun _ => rfl]
    have s0 : Same H H := Same.refl _
    walk_at "my rn"
    intro a1 H1 n1 b1 h1
    walk_at "my rn"
    intro a2 H2 n2 b2 h2
    walk_at "my rn"
    intro a3 H3 n3 b3 h3
    walk_at "my rn"
    intro a4 H4 n4 b4 h4
    walk_at "my rn"
    intro a5 H5 n5 b5 h5
    walk_at "my rn"
    intro a6 H6 n6 b6 h6
    have x6_6 : Same H6 H6 := Same.refl _
    have x5_6 : Same H5 H6 := b6.trans x6_6
    have x4_6 : Same H4 H6 := b5.trans x5_6
    have x3_6 : Same H3 H6 := b4.trans x4_6
    have x2_6 : Same H2 H6 := b3.trans x3_6
    have x1_6 : Same H1 H6 := b2.trans x2_6
    have y6 : Same H H6 := b1.trans x1_6
    have f6 : ∀ v ∈ ([.ref a1, .ref a2, .ref a3, .ref a4, .ref a5] : List V), IsIns K H6 v := by
      simp only [List.forall_mem_cons]
      exact ⟨(isIns1 h1 (by decide +kernel)).same x1_6, (isIns1 h2 (by decide +kernel)).same x2_6, (isIns2 h3).same x3_6, (isIns2 h4).same x4_6, (isIns2 h5).same x5_6, fun _ h => nomatch h⟩
    have g6 := f6
    have z6 : H6 a6 = some (.lst [.ref a1, .ref a2, .ref a3, .ref a4, .ref a5]) := h6
    have S6 : Same H H6 := y6
    walk_at "my rn"
    intro a7 H7 n7 b7 h7
    walk_at "my rn"
    intro a8 H8 n8 b8 h8
    walk_at "my rn"
    intro a9 H9 n9 b9 h9
    walk_at "my rn"
    intro a10 H10 n10 b10 h10
    walk_at "my rn"
    intro a11 H11 n11 b11 h11
    have x11_11 : Same H11 H11 := Same.refl _
    have x10_11 : Same H10 H11 := b11.trans x11_11
    have x9_11 : Same H9 H11 := b10.trans x10_11
    have x8_11 : Same H8 H11 := b9.trans x9_11
    have x7_11 : Same H7 H11 := b8.trans x8_11
    have y11 : Same H6 H11 := b7.trans x7_11
    have f11 : ∀ v ∈ ([.ref a7, .ref a8, .ref a9, .ref a10] : List V), IsIns K H11 v := by
      simp only [List.forall_mem_cons]
      exact ⟨(isIns2 h7).same x7_11, (isIns2 h8).same x8_11, (isIns1 h9 (by decide +kernel)).same x9_11, (isIns1 h10 (by decide +kernel)).same x10_11, fun _ h => nomatch h⟩
    walk_at "my rn"
    refine Rd.catQ (SqL.of (y11 _ _ h6)) (SqL.of h11) (Nat.le_of_ble_eq_true rfl) fun a12 H12 n12 b12 h12 => ?_
    have g12 : ∀ v ∈ _, IsIns K H12 v := List.forall_mem_append.mpr ⟨fun v m => (g6 v m).same (y11.trans b12), fun v m => (f11 v m).same b12⟩
    have S12 : Same H H12 := S6.trans (y11.trans b12)
    walk_at "my rn"
    intro a13 H13 n13 b13 h13
    walk_at "my rn"
    intro a14 H14 n14 b14 h14
    walk_at "my rn"
    intro a15 H15 n15 b15 h15
    walk_at "my rn"
    intro a16 H16 n16 b16 h16
    walk_at "my rn"
    intro a17 H17 n17 b17 h17
    walk_at "my rn"
    intro a18 H18 n18 b18 h18
    have x18_18 : Same H18 H18 := Same.refl _
    have x17_18 : Same H17 H18 := b18.trans x18_18
    have x16_18 : Same H16 H18 := b17.trans x17_18
    have x15_18 : Same H15 H18 := b16.trans x16_18
    have x14_18 : Same H14 H18 := b15.trans x15_18
    have x13_18 : Same H13 H18 := b14.trans x14_18
    have y18 : Same H12 H18 := b13.trans x13_18
    have f18 : ∀ v ∈ ([.ref a13, .ref a14, .ref a15, .ref a16, .ref a17] : List V), IsIns K H18 v := by
      simp only [List.forall_mem_cons]
      exact ⟨(isIns1 h13 (by decide +kernel)).same x13_18, (isIns1 h14 (by decide +kernel)).same x14_18, (isIns1 h15 (by decide +kernel)).same x15_18, (isIns1 h16 (by decide +kernel)).same x16_18, (isIns1 h17 (by decide +kernel)).same x17_18, fun _ h => nomatch h⟩
    walk_at "my rn"
    refine Rd.catQ (SqL.of (y18 _ _ h12)) (SqL.of h18) (Nat.le_of_ble_eq_true rfl) fun a19 H19 n19 b19 h19 => ?_
    have g19 : ∀ v ∈ _, IsIns K H19 v := List.forall_mem_append.mpr ⟨fun v m => (g12 v m).same (y18.trans b19), fun v m => (f18 v m).same b19⟩
    have S19 : Same H H19 := S12.trans (y18.trans b19)
    walk_at "my rn"
    intro a20 H20 n20 b20 h20
    walk_at "my rn"
    intro a21 H21 n21 b21 h21
    walk_at "my rn"
    intro a22 H22 n22 b22 h22
    walk_at "my rn"
    intro a23 H23 n23 b23 h23
    walk_at "my rn"
    intro a24 H24 n24 b24 h24
    walk_at "my rn"
    intro a25 H25 n25 b25 h25
    walk_at "my rn"
    intro a26 H26 n26 b26 h26
    walk_at "my rn"
    intro a27 H27 n27 b27 h27
    have x27_27 : Same H27 H27 := Same.refl _
    have x26_27 : Same H26 H27 := b27.trans x27_27
    have x25_27 : Same H25 H27 := b26.trans x26_27
    have x24_27 : Same H24 H27 := b25.trans x25_27
    have x23_27 : Same H23 H27 := b24.trans x24_27
    have x22_27 : Same H22 H27 := b23.trans x23_27
    have x21_27 : Same H21 H27 := b22.trans x22_27
    have x20_27 : Same H20 H27 := b21.trans x21_27
    have y27 : Same H19 H27 := b20.trans x20_27
    have f27 : ∀ v ∈ ([.ref a20, .ref a21, .ref a22, .ref a23, .ref a24, .ref a25, .ref a26] : List V), IsIns K H27 v := by
      simp only [List.forall_mem_cons]
      exact ⟨(isIns1 h20 (by decide +kernel)).same x20_27, (isIns1 h21 (by decide +kernel)).same x21_27, (isIns1 h22 (by decide +kernel)).same x22_27, (isIns1 h23 (by decide +kernel)).same x23_27, (isIns1 h24 (by decide +kernel)).same x24_27, (isIns1 h25 (by decide +kernel)).same x25_27, (isIns1 h26 (by decide +kernel)).same x26_27, fun _ h => nomatch h⟩
    walk_at "my rn"
    refine Rd.catQ (SqL.of (y27 _ _ h19)) (SqL.of h27) (Nat.le_of_ble_eq_true rfl) fun a28 H28 n28 b28 h28 => ?_
    have g28 : ∀ v ∈ _, IsIns K H28 v := List.forall_mem_append.mpr ⟨fun v m => (g19 v m).same (y27.trans b28), fun v m => (f27 v m).same b28⟩
    have S28 : Same H H28 := S19.trans (y27.trans b28)
    walk_at "my rn"
    intro a29 H29 n29 b29 h29
    walk_at "my rn"
    intro a30 H30 n30 b30 h30
    have x30_30 : Same H30 H30 := Same.refl _
    have x29_30 : Same H29 H30 := b30.trans x30_30
    have y30 : Same H28 H30 := b29.trans x29_30
    have f30 : ∀ v ∈ ([.ref a29] : List V), IsIns K H30 v := by
      simp only [List.forall_mem_cons]
      exact ⟨(isIns1 h29 (by decide +kernel)).same x29_30, fun _ h => nomatch h⟩
    walk_at "my rn"
    refine Rd.catQ (SqL.of (y30 _ _ h28)) (SqL.of h30) (Nat.le_of_ble_eq_true rfl) fun a31 H31 n31 b31 h31 => ?_
    have g31 : ∀ v ∈ _, IsIns K H31 v := List.forall_mem_append.mpr ⟨fun v m => (g28 v m).same (y30.trans b31), fun v m => (f30 v m).same b31⟩
    have S31 : Same H H31 := S28.trans (y30.trans b31)
    walk_at "my rn"
    refine ⟨p, c, 22, rfl, st0.same S31, by decide, by decide, fun v H' v0 v1 st k => ?_⟩
    have ne := (st0.same (S28.trans y30)).ne n31
    obtain ⟨e, me, he⟩ := at_memH h31 (n := 22) rfl v0 v1
    refine Rd.ixL (k _ _ ne.1 h31) he ?_
    obtain ⟨t, nm, op, rfl, hi⟩ := g31 e me
    exact q t nm op H' (hi.keep (st0.same S31) k) st ((Keep.same S31).trans k)
end

end Mine


set_option Elab.async false
set_option linter.all false
set_option maxRecDepth 100000
set_option maxHeartbeats 400000


namespace Mine
open PySem PySem.Spec PyProof.Rows L2
local macro_rules | `(tactic| walk_at "my rn") => `(tactic| (repeat (first | with_reducible refine Rd.callS ?_ | with_reducible refine Rd.mkS ?_ | with_reducible refine Rd.mkKS ?_ | with_reducible refine Rd.mkK ?_ | with_reducible refine Rd.callN ?_ | with_reducible refine Rd.catQI ?_ | with_reducible refine Rd.revN ?_ | with_reducible refine Rd.lzip ?_ | with_reducible refine Rd.fld ?_ | with_reducible refine Rd.sfld ?_ | with_reducible refine Rd.meth ?_ | with_reducible refine Rd.make ?_ | with_reducible refine Rd.izip ?_ | with_reducible refine Rd.disp ?_ | with_reducible refine Rd.pcons ?_ | with_reducible refine Rd.pnil ?_ | with_reducible refine Rd.dsp ?_ | with_reducible refine Rd.dnew ?_ | with_reducible refine Rd.din ?_ | with_reducible refine Rd.dnot ?_ | with_reducible refine Rd.dget ?_ | with_reducible refine Rd.dget2 ?_ | with_reducible refine Rd.dput ?_ | with_reducible refine Rd.cbDictOf ?_ | with_reducible refine Rd.iitems ?_ | with_reducible refine Rd.ikeys ?_ | with_reducible refine Rd.dc ?_ | with_reducible refine Rd.nwD ?_ | with_reducible refine Rd.tupN ?_ | with_reducible refine Rd.lstN ?_ | with_reducible refine Rd.cbListOf ?_ | with_reducible refine Rd.cbListOfR ?_ | with_reducible refine Rd.catI ?_ | with_reducible refine Rd.slN ?_ | with_reducible refine Rd.cbSrtI ?_ | with_reducible refine Rd.seq ?_ | with_reducible refine Rd.next ?_ | with_reducible refine Rd.brk ?_ | with_reducible refine Rd.cont ?_ | with_reducible refine Rd.asg ?_ | with_reducible refine Rd.ret ?_ | with_reducible refine Rd.retN ?_ | with_reducible refine Rd.drop ?_ | with_reducible refine Rd.ifs ?_ | with_reducible refine Rd.ife ?_ | with_reducible refine Rd.test ?_ | with_reducible refine Rd.tb_ ?_ | with_reducible refine Rd.bl ?_ | with_reducible refine Rd.bl2 ?_ | with_reducible refine Rd.and_ ?_ | with_reducible refine Rd.or_ ?_ | with_reducible refine Rd.not_ ?_ | with_reducible refine Rd.andV ?_ | with_reducible refine Rd.orV ?_ | with_reducible refine Rd.notV ?_ | with_reducible refine Rd.op ?_ | with_reducible refine Rd.un ?_ | with_reducible refine Rd.I0 ?_ | with_reducible refine Rd.U ?_ | with_reducible refine Rd.ip ?_ | with_reducible refine Rd.c_ ?_ | with_reducible refine Rd.nil ?_ | with_reducible refine Rd.cons ?_ | with_reducible refine Rd.call ?_ | with_reducible refine Rd.cb ?_ | with_reducible refine Rd.bm ?_ | with_reducible refine Rd.bm0 ?_ | with_reducible refine Rd.nopart ?_ | with_reducible refine Rd.part ?_ | with_reducible refine Rd.int1 ?_ | with_reducible refine Rd.ints1 ?_ | with_reducible refine Rd.ints2 ?_ | with_reducible refine Rd.gcons ?_ | with_reducible refine Rd.gnil ?_ | with_reducible refine Rd.sub ?_ | with_reducible refine Rd.isN ?_ | with_reducible refine Rd.chain ?_ | with_reducible refine Rd.rf ?_ | with_reducible refine Rd.tyS ?_ | with_reducible refine Rd.intI ?_ | with_reducible refine Rd.lc ?_ | with_reducible refine Rd.for_ ?_ | with_reducible refine Rd.ilist ?_ | with_reducible refine Rd.itup ?_ | with_reducible refine Rd.irng1 ?_ | with_reducible refine Rd.irng2 ?_ | with_reducible refine Rd.ienum ?_ | with_reducible refine Rd.istr ?_ | with_reducible refine Rd.refA ?_ | with_reducible refine Rd.strA ?_ | with_reducible refine Rd.yes ?_ | with_reducible refine Rd.ifT ?_ | with_reducible refine Rd.ifF ?_ | with_reducible refine Rd.ifnT ?_ | with_reducible refine Rd.ifnF ?_ | with_reducible refine Rd.isi_ii ?_ | with_reducible refine Rd.isi_ib ?_ | with_reducible refine Rd.isi_is ?_ | with_reducible refine Rd.isi_il ?_ | with_reducible refine Rd.isi_it ?_ | with_reducible refine Rd.isi_id ?_ | with_reducible refine Rd.isi_bi ?_ | with_reducible refine Rd.isi_bb ?_ | with_reducible refine Rd.isi_bs ?_ | with_reducible refine Rd.isi_bl ?_ | with_reducible refine Rd.isi_bt ?_ | with_reducible refine Rd.isi_bd ?_ | with_reducible refine Rd.isi_si ?_ | with_reducible refine Rd.isi_sb ?_ | with_reducible refine Rd.isi_ss ?_ | with_reducible refine Rd.isi_sl ?_ | with_reducible refine Rd.isi_st ?_ | with_reducible refine Rd.isi_sd ?_ | with_reducible refine Rd.isi_ni ?_ | with_reducible refine Rd.isi_nb ?_ | with_reducible refine Rd.isi_ns ?_ | with_reducible refine Rd.isi_nl ?_ | with_reducible refine Rd.isi_nt ?_ | with_reducible refine Rd.isi_nd ?_ | with_reducible refine Rd.sl ?_ | with_reducible refine Rd.v0 ?_ | with_reducible refine Rd.v1 ?_ | with_reducible refine Rd.v2 ?_ | with_reducible refine Rd.v3 ?_ | with_reducible refine Rd.v4 ?_ | with_reducible refine Rd.v5 ?_ | with_reducible refine Rd.v6 ?_ | with_reducible refine Rd.v7 ?_ | with_reducible refine Rd.v8 ?_ | with_reducible refine Rd.v9 ?_ | with_reducible refine Rd.v10 ?_ | with_reducible refine Rd.v11 ?_ | with_reducible refine Rd.v12 ?_ | with_reducible refine Rd.v13 ?_ | with_reducible refine Rd.v14 ?_ | with_reducible refine Rd.v15 ?_ | with_reducible refine Rd.v16 ?_ | with_reducible refine Rd.v17 ?_ | with_reducible refine Rd.v18 ?_ | with_reducible refine Rd.v19 ?_ | with_reducible refine Rd.v20 ?_ | with_reducible refine Rd.v21 ?_ | with_reducible refine Rd.v22 ?_ | with_reducible refine Rd.v23 ?_ | with_reducible refine Rd.v24 ?_ | with_reducible refine Rd.v25 ?_ | with_reducible refine Rd.v26 ?_ | with_reducible refine Rd.v27 ?_ | with_reducible refine Rd.n0 ?_ | with_reducible refine Rd.n1 ?_ | with_reducible refine Rd.n2 ?_ | with_reducible refine Rd.n3 ?_ | with_reducible refine Rd.n4 ?_ | with_reducible refine Rd.n5 ?_ | with_reducible refine Rd.n6 ?_ | with_reducible refine Rd.n7 ?_ | with_reducible refine Rd.n8 ?_ | with_reducible refine Rd.n9 ?_ | with_reducible refine Rd.n10 ?_ | with_reducible refine Rd.n11 ?_ | with_reducible refine Rd.n12 ?_ | with_reducible refine Rd.n13 ?_ | with_reducible refine Rd.n14 ?_ | with_reducible refine Rd.n15 ?_ | with_reducible refine Rd.n16 ?_ | with_reducible refine Rd.n17 ?_ | with_reducible refine Rd.n18 ?_ | with_reducible refine Rd.n19 ?_ | with_reducible refine Rd.n20 ?_ | with_reducible refine Rd.n21 ?_ | with_reducible refine Rd.n22 ?_ | with_reducible refine Rd.n23 ?_ | with_reducible refine Rd.n24 ?_ | with_reducible refine Rd.n25 ?_ | with_reducible refine Rd.n26 ?_ | with_reducible refine Rd.n27 ?_ | with_reducible refine Rd.g0 ?_ | with_reducible refine Rd.g1 ?_ | with_reducible refine Rd.g2 ?_ | with_reducible refine Rd.g3 ?_ | with_reducible refine Rd.g4 ?_ | with_reducible refine Rd.g5 ?_ | with_reducible refine Rd.g6 ?_ | with_reducible refine Rd.g7 ?_ | with_reducible refine Rd.g8 ?_ | with_reducible refine Rd.g9 ?_ | with_reducible refine Rd.g10 ?_ | with_reducible refine Rd.g11 ?_ | with_reducible refine Rd.g12 ?_ | with_reducible refine Rd.g13 ?_ | with_reducible refine Rd.g14 ?_ | with_reducible refine Rd.g15 ?_ | with_reducible refine Rd.g16 ?_ | with_reducible refine Rd.g17 ?_ | with_reducible refine Rd.g18 ?_ | with_reducible refine Rd.g19 ?_ | with_reducible refine Rd.g20 ?_ | with_reducible refine Rd.g21 ?_ | with_reducible refine Rd.g22 ?_ | with_reducible refine Rd.g23 ?_ | with_reducible refine Rd.g24 ?_ | with_reducible refine Rd.g25 ?_ | with_reducible refine Rd.g26 ?_ | with_reducible refine Rd.g27 ?_ | ((with_reducible apply Rd.glst); (first | assumption | exact upd_same); exact rfl) | ((with_reducible apply Rd.gtP); assumption; assumption) | ((with_reducible apply Rd.revq); first | assumption | exact SqL.of (by assumption)) | ((with_reducible apply Rd.fldI); (first | assumption | exact upd_same); assumption; assumption; (first | assumption | with_unfolding_all rfl)) | ((with_reducible apply Rd.methI); (first | assumption | exact upd_same); (first | assumption | with_unfolding_all rfl)) | ((with_reducible apply Rd.sfldI); (first | assumption | exact upd_same); assumption; assumption; exact Nat.le_of_ble_eq_true rfl) | ((with_reducible apply Rd.maxL); assumption) | ((with_reducible apply Rd.anyL); assumption) | ((with_reducible apply Rd.sumL); assumption) | ((with_reducible refine Rd.izI (by assumption) (by assumption) ?_)) | with_reducible refine Rd.mtq ?_ | with_reducible refine Rd.mtRest ?_ | with_reducible refine Rd.mtEnd ?_ | with_reducible refine Rd.tbC ?_ | with_reducible refine Rd.tbT ?_ | with_reducible refine Rd.tbA ?_ | with_reducible refine Rd.tbN ?_ | with_reducible refine Rd.mto ?_ | with_reducible refine Rd.mtoI ?_ | with_reducible refine Rd.moRest ?_ | with_reducible refine Rd.moEnd ?_ | ((with_reducible apply Rd.mtqI); (first | assumption | exact SqT.of upd_same | exact SqT.of (by assumption)); exact Nat.le_of_ble_eq_true rfl) | ((with_reducible refine Rd.mtLen ?_ ?_); exact rfl) | ((with_reducible refine Rd.mtYes ?_ ?_); exact rfl) | ((with_reducible refine Rd.mtNo ?_ ?_); (first | assumption | decide +kernel)) | ((with_reducible refine Rd.mtOY ?_ ?_); exact rfl) | ((with_reducible refine Rd.mtON ?_ ?_); exact rfl) | ((with_reducible refine Rd.eq ?_ ?_); exact rfl) | ((with_reducible refine Rd.ne ?_ ?_); exact rfl) | ((with_reducible refine Rd.szA ?_ ?_); exact Nat.le_of_ble_eq_true rfl) | ((with_reducible refine Rd.I ?_ ?_); first | assumption | decide | exact Or.inr (by decide +kernel) | exact Or.inl (by decide +kernel) | exact ⟨by decide, by decide⟩ | exact ⟨by decide, by decide, by decide⟩ | omega) | ((with_reducible apply Rd.tyL); first | assumption | exact upd_same) | ((with_reducible apply Rd.tyLq); assumption) | ((with_reducible apply Rd.ixL); (first | assumption | exact upd_same); exact rfl) | ((with_reducible apply Rd.ixT); (first | assumption | exact upd_same); exact rfl) | ((with_reducible apply Rd.ixLq); assumption; exact rfl) | ((with_reducible apply Rd.ixTq); assumption; exact rfl) | ((with_reducible apply Rd.gtup); (first | assumption | exact upd_same); exact rfl) | ((with_reducible apply Rd.gtupq); assumption; exact rfl) | ((with_reducible apply Rd.sqAq); assumption) | ((with_reducible apply Rd.stAq); assumption) | ((with_reducible apply Rd.enAq); assumption) | ((with_reducible apply Rd.lenLq); assumption) | ((with_reducible apply Rd.lenTq); assumption) | ((with_reducible apply Rd.sqA); first | assumption | exact upd_same) | ((with_reducible apply Rd.stA); first | assumption | exact upd_same) | ((with_reducible apply Rd.enA); first | assumption | exact upd_same) | ((with_reducible apply Rd.lenL); first | assumption | exact upd_same) | ((with_reducible apply Rd.lenT); first | assumption | exact upd_same) | ((with_reducible refine Rd.nwT ?_ ?_); exact Nat.le_of_ble_eq_true rfl) | ((with_reducible refine Rd.nwL ?_ ?_); exact Nat.le_of_ble_eq_true rfl) | ((with_reducible apply Rd.isd); assumption) | ((with_reducible apply Rd.dictOf); assumption) | ((with_reducible refine Rd.isi_dd (by assumption) ?_)) | ((with_reducible apply Rd.itA); first | assumption | exact upd_same) | ((with_reducible apply Rd.ikA); first | assumption | exact upd_same) | ((with_reducible apply Rd.listOf); assumption) | ((with_reducible apply Rd.listOfq); assumption) | ((with_reducible apply Rd.slo); assumption) | ((with_reducible apply Rd.slq); assumption) | ((with_reducible apply Rd.srtI); assumption) | ((with_reducible apply Rd.srtIo); assumption) | ((with_reducible refine Rd.isi_li (by assumption) ?_)) | ((with_reducible refine Rd.isi_lb (by assumption) ?_)) | ((with_reducible refine Rd.isi_ls (by assumption) ?_)) | ((with_reducible refine Rd.isi_ll (by assumption) ?_)) | ((with_reducible refine Rd.isi_lt (by assumption) ?_)) | ((with_reducible refine Rd.isi_ld (by assumption) ?_)) | ((with_reducible refine Rd.isi_ti (by assumption) ?_)) | ((with_reducible refine Rd.isi_tb (by assumption) ?_)) | ((with_reducible refine Rd.isi_ts (by assumption) ?_)) | ((with_reducible refine Rd.isi_tl (by assumption) ?_)) | ((with_reducible refine Rd.isi_tt (by assumption) ?_)) | ((with_reducible refine Rd.isi_td (by assumption) ?_)))))







/-! ### what == and index compare: data under an object -/
def DOk (n : Nat) (d : PyData) : Prop := d.canLay0 = true ∧ d.depth ≤ n
theorem DOk.shaped {n : Nat} {d : PyData} (h : DOk n d) (hn : n ≤ 64) : SeqAt.shaped d = true := by
  unfold SeqAt.shaped
  rw [h.1, decide_eq_true (Nat.le_trans h.2 hn)]
  rfl
theorem DOk.mono {n m : Nat} {d : PyData} (h : DOk n d) (hn : n ≤ m) : DOk m d := ⟨h.1, Nat.le_trans h.2 hn⟩
theorem dok_int {n : Nat} {i : Int} : DOk n (.int i) := ⟨by simp only [PyData.canLay0], by simp only [PyData.depth]; exact Nat.zero_le _⟩
theorem dok_non {n : Nat} : DOk n .none := ⟨by simp only [PyData.canLay0], by simp only [PyData.depth]; exact Nat.zero_le _⟩
theorem dok_bl {n : Nat} {b : Bool} : DOk n (.bool b) := ⟨by simp only [PyData.canLay0], by simp only [PyData.depth]; exact Nat.zero_le _⟩
theorem dok_str {n : Nat} {x : Str} (h : PyData.strOk x = true) : DOk n (.str x) := ⟨by simp only [PyData.canLay0]; exact h, by simp only [PyData.depth]; exact Nat.zero_le _⟩
theorem dok_all {n : Nat} : ∀ {ds : List PyData}, (∀ d ∈ ds, DOk n d) → PyData.canLayAll0 ds = true ∧ PyData.depthAll ds ≤ n
  | [], _ => ⟨by simp only [PyData.canLayAll0], by simp only [PyData.depthAll]; exact Nat.zero_le _⟩
  | d :: r, h => by
    obtain ⟨a, b⟩ := dok_all (ds := r) fun x m => h x (List.mem_cons_of_mem _ m)
    obtain ⟨c, e⟩ := h d List.mem_cons_self
    exact ⟨by simp only [PyData.canLayAll0, c, a] <;> rfl, by simp only [PyData.depthAll]; omega⟩
theorem dok_list {n : Nat} {ds : List PyData} (h : ∀ d ∈ ds, DOk n d) : DOk (n + 1) (.list ds) := by
  obtain ⟨a, b⟩ := dok_all h
  exact ⟨by simp only [PyData.canLay0]; exact a, by simp only [PyData.depth]; omega⟩
theorem dok_tup {n : Nat} {ds : List PyData} (h : ∀ d ∈ ds, DOk n d) : DOk (n + 1) (.tuple ds) := by
  obtain ⟨a, b⟩ := dok_all h
  exact ⟨by simp only [PyData.canLay0]; exact a, by simp only [PyData.depth]; omega⟩
theorem dpAll_map {K : PySem.W.Frag} {H : Hp} (f : V → PyData) : ∀ {zs : List V}, (∀ v ∈ zs, Dp K H v (f v)) → DpAll K H zs (zs.map f)
  | [], _ => .nil
  | z :: r, h => .cons (h z List.mem_cons_self) (dpAll_map f fun v m => h v (List.mem_cons_of_mem _ m))
theorem dpAll_ints {K : PySem.W.Frag} {H : Hp} : ∀ {ns : List Int}, DpAll K H (ns.map V.int) (ns.map PyData.int)
  | [] => .nil
  | n :: r => .cons (.int n) dpAll_ints
theorem dp_ints {K : PySem.W.Frag} {H : Hp} {a : Addr} {ns : List Int} (h : SqL K H a (ns.map V.int)) : Dp K H (.ref a) (.list (ns.map PyData.int)) := .lst h dpAll_ints
theorem dp_intsT {K : PySem.W.Frag} {H : Hp} {a : Addr} {ns : List Int} (h : SqT K H a (ns.map V.int)) : Dp K H (.ref a) (.tuple (ns.map PyData.int)) := .tup h dpAll_ints
theorem ints_dok (n : Nat) (ns : List Int) : DOk (n + 1) (.list (ns.map PyData.int)) := dok_list fun d m => by
  obtain ⟨i, _, rfl⟩ := List.mem_map.mp m
  exact dok_int
theorem ints_shaped (ns : List Int) : SeqAt.shaped (.list (ns.map PyData.int)) = true := (ints_dok 0 ns).shaped (by decide)
theorem eqvAll_ints : ∀ ns ms : List Int, PyData.eqvAll (ns.map PyData.int) (ms.map PyData.int) = decide (ns = ms)
  | [], [] => by simp [PyData.eqvAll]
  | [], b :: s => by simp [PyData.eqvAll]
  | a :: r, [] => by simp [PyData.eqvAll]
  | a :: r, b :: s => by
    rw [List.map_cons, List.map_cons, PyData.eqvAll, eqvAll_ints r s, PyData.eqv]
    by_cases h : a = b <;> by_cases h2 : r = s <;> simp [h, h2]
theorem eqv_ints (ns ms : List Int) : PyData.eqv (.list (ns.map PyData.int)) (.list (ms.map PyData.int)) = decide (ns = ms) := by
  rw [PyData.eqv, eqvAll_ints]
theorem eqv_intsT (ns ms : List Int) : PyData.eqv (.tuple (ns.map PyData.int)) (.tuple (ms.map PyData.int)) = decide (ns = ms) := by
  rw [PyData.eqv, eqvAll_ints]

section
variable {P : Program} {w : World} {K : PySem.W.Frag} {mg : Str → Option Value} {base : Heap}
theorem ex_count {c : Cost} {nm op : Str} {lh : Bool} (h : nm ∈ (["count", "again"] : List Str)) : exCost c nm op lh = c.ct := by
  simp only [List.mem_cons, List.mem_nil_iff, or_false] at h
  rcases h with rfl | rfl <;> (unfold exCost; rw [if_neg (by decide +kernel), if_neg (by decide +kernel), if_neg (by decide +kernel), if_pos (by decide +kernel)])
theorem ex_in {c : Cost} {nm op : Str} {lh : Bool} (h : nm ∈ (["in", "out"] : List Str)) : exCost c nm op lh = c.po := by
  simp only [List.mem_cons, List.mem_nil_iff, or_false] at h
  rcases h with rfl | rfl <;> (unfold exCost; rw [if_neg (by decide +kernel), if_neg (by decide +kernel), if_neg (by decide +kernel), if_neg (by decide +kernel), if_pos (by decide +kernel)])
theorem ex_calc {c : Cost} {nm op : Str} {lh : Bool} {z : Int} (h : nm = "calc") (e : calcCost c op = z) : exCost c nm op lh = z := by
  subst h
  unfold exCost; rw [if_neg (by decide +kernel), if_neg (by decide +kernel), if_pos (by decide +kernel), e]
def sp__law_expected (K : PySem.W.Frag) : Sp := fun vs H Q _ => ∃ (l t : Addr) (c : Cost) (nm op : Str) (fh lh tk : Bool), vs = [.ref l, .ref t, .bl fh, .bl lh, .bl tk] ∧ SqL K H l (c.l.map V.int) ∧ InsAt K H t nm op ∧ ∀ H', Same H H' → Q (.int (iCost c nm op fh lh tk)) H'
theorem ok__law_expected (T : Top P K mg) : FnOk P w K mg base CX0 1 T.a__law_expected T.d__law_expected ["n", "instruction", "fetch_hit", "load_hit", "taken"]  (sp__law_expected K) := by
  refine T.F__law_expected.ok sc__law_expected (fun vs H Q E h => ?_) (fun cdv A outer s H vs Q E hr h => ?_)
  · obtain ⟨_, _, _, _, _, _, _, _, rfl, _⟩ := h
    rfl
  · obtain ⟨l, t, c, nm, op, fh, lh, tk, rfl, hl, ⟨xs, ht, h0, h1⟩, q⟩ := h
    refine ⟨_, (pss_cons (ps_set (i := 5) sc__law_expected.nd rfl (by first | exact Or.inl rfl | exact Or.inr rfl) (pe_ix ix_tup (pv 1) pe_int (fun _ _ => rfl)))
  (pss_cons (ps_set (i := 6) sc__law_expected.nd rfl (by first | exact Or.inl rfl | exact Or.inr rfl) (pe_ifExp (pt_val (pv 2)) (pe_ix ix_list (pv 0) pe_int (fun _ _ => rfl)) (pe_ix ix_list (pv 0) pe_int (fun _ _ => rfl))))
  (Evl.pss_cut (ps_if (pt_cmpR op_in_seq (pv 5) (pe_tup (pa_cons pe_str (pa_cons pe_str pa_nil))) (by with_unfolding_all rfl))
  (pss_one (ps_set (i := 6) sc__law_expected.nd rfl (by first | exact Or.inl rfl | exact Or.inr rfl) (pe_op op_add (pv 6) (pe_ifExp (pt_val (pv 3)) (pe_ix ix_list (pv 0) pe_int (fun _ _ => rfl)) (pe_ix ix_list (pv 0) pe_int (fun _ _ => rfl))))))
  (pss_one (ps_if (pt_cmpR op_in_seq (pv 5) (pe_tup (pa_cons pe_str (pa_cons pe_str pa_nil))) (by with_unfolding_all rfl))
  (pss_one (ps_set (i := 6) sc__law_expected.nd rfl (by first | exact Or.inl rfl | exact Or.inr rfl) (pe_op op_add (pv 6) (pe_ix ix_list (pv 0) pe_int (fun _ _ => rfl)))))
  (pss_one (ps_if (pt_cmpR op_in_seq (pv 5) (pe_tup (pa_cons pe_str (pa_cons pe_str pa_nil))) (by with_unfolding_all rfl))
  (pss_one (ps_set (i := 6) sc__law_expected.nd rfl (by first | exact Or.inl rfl | exact Or.inr rfl) (pe_op op_add (pv 6) (pe_ix ix_list (pv 0) pe_int (fun _ _ => rfl)))))
  (pss_one (ps_if (pt_cmpR op_in_seq (pv 5) (pe_tup (pa_cons pe_str (pa_cons pe_str pa_nil))) (by with_unfolding_all rfl))
  (pss_one (ps_set (i := 6) sc__law_expected.nd rfl (by first | exact Or.inl rfl | exact Or.inr rfl) (pe_op op_add (pv 6) (pe_ix ix_list (pv 0) pe_int (fun _ _ => rfl)))))
  (pss_one (ps_if (pw_and (pt_cmpR op_eq (pv 5) pe_str (nomark _)) (pw_and1 (pt_cmpR op_eq (pe_ix ix_tup (pv 1) pe_int (fun _ _ => rfl)) pe_str (nomark _)))).pt
  (pss_one (ps_set (i := 6) sc__law_expected.nd rfl (by first | exact Or.inl rfl | exact Or.inr rfl) (pe_op op_add (pv 6) (pe_ix ix_list (pv 0) pe_int (fun _ _ => rfl)))))
  (pss_one (ps_if (pw_and (pt_cmpR op_eq (pv 5) pe_str (nomark _)) (pw_and1 (pt_cmpR op_in_seq (pe_ix ix_tup (pv 1) pe_int (fun _ _ => rfl)) (pe_tup (pa_cons pe_str (pa_cons pe_str pa_nil))) (by with_unfolding_all rfl)))).pt
  (pss_one (ps_set (i := 6) sc__law_expected.nd rfl (by first | exact Or.inl rfl | exact Or.inr rfl) (pe_op op_add (pv 6) (pe_ix ix_list (pv 0) pe_int (fun _ _ => rfl)))))
  (pss_one (ps_set (i := 6) sc__law_expected.nd rfl (by first | exact Or.inl rfl | exact Or.inr rfl) (pe_op op_add (pv 6) (pe_ix ix_list (pv 0) pe_int (fun _ _ => rfl))))))))))))))))
  (pss_cons (ps_if (pw_or (pt_cmpR op_in_seq (pv 5) (pe_tup (pa_cons pe_str (pa_cons pe_str (pa_cons pe_str pa_nil)))) (by with_unfolding_all rfl)) (pw_or1 (pw_and (pt_val (pv 4)) (pw_and1 (pt_cmpR op_in_seq (pv 5) (pe_tup (pa_cons pe_str (pa_cons pe_str pa_nil))) (by with_unfolding_all rfl)))).pt)).pt
  (pss_one (ps_set (i := 6) sc__law_expected.nd rfl (by first | exact Or.inl rfl | exact Or.inr rfl) (pe_op op_add (pv 6) (pe_ix ix_list (pv 0) pe_int (fun _ _ => rfl)))))
  pss_nil)
  (pss_one (ps_ret (pv 6))))))), ?_⟩
    rw [show ∀ a0 a1 a2 a3 a4 : V, L2.start ["n", "instruction", "fetch_hit", "load_hit", "taken", "name", "cost"] [a0, a1, a2, a3, a4] = [some a0, some a1, some a2, some a3, some a4, none, none] from fun _ _ _ _ _ => rfl]
    unfold Cost.l at hl
    have b0 := Rd.at_val (j := 0) (xs := xs) rfl h0
    walk_at "my rn"
    refine Rd.ixTq ht b0 ?_
    walk_at "my rn"
    obtain ⟨f, ef⟩ : ∃ f, f = (if fh = true then c.fh else c.fm) := ⟨_, rfl⟩
    have q : ∀ (ex z : Int) H', Same H H' → exCost c nm op lh = ex → (if nm ∈ (["jump", "link", "back"] : List Str) ∨ (tk = true ∧ nm ∈ (["jzero", "again"] : List Str)) then c.tk else 0) = z → Q (.int (f + ex + z)) H' := fun ex z H' s e1 e2 => by
      have := q H' s
      unfold iCost at this
      rw [← ef, e1, e2] at this
      exact this
    refine Rd.ifB (fun e => ?_) fun e => ?_
    all_goals
      first | rw [if_pos e] at ef | rw [if_neg (by rw [e]; simp)] at ef
      walk_at "my rn"
      rw [← ef]
      refine ⟨fun σ' H' => ∃ ex, exCost c nm op lh = ex ∧ σ' = [some (.ref l), some (.ref t), some (.bl fh), some (.bl lh), some (.bl tk), some (.str nm), some (.int (f + ex))] ∧ Same H H', ?_, ?_⟩
      · walk_at "my rn"
        intro p1 H1 m1 s1 g1
        have hl1 := s1.seq hl
        refine Rd.inStrT ["load", "loadx"] (SqT.of g1) ?_
        walk_at "my rn"
        refine Rd.ifD (fun e1 => ?_) fun e1 => ?_
        · walk_at "my rn"
          refine Rd.ifB (fun e9 => ?_) fun e9 => ?_
          · walk_at "my rn"
            exact ⟨_, by unfold exCost; rw [if_pos e1, if_pos e9], rfl, s1⟩
          · walk_at "my rn"
            exact ⟨_, by unfold exCost; rw [if_pos e1, if_neg (by rw [e9]; simp)], rfl, s1⟩
        · walk_at "my rn"
          intro p2 H2 m2 s2 g2
          have s12 := s1.trans s2
          have hl2 := s12.seq hl
          refine Rd.inStrT ["store", "storex"] (SqT.of g2) ?_
          walk_at "my rn"
          refine Rd.ifD (fun e2 => ?_) fun e2 => ?_
          · walk_at "my rn"
            exact ⟨_, by unfold exCost; rw [if_neg e1, if_pos e2], rfl, s12⟩
          · walk_at "my rn"
            intro p3 H3 m3 s3 g3
            have s13 := s12.trans s3
            have hl3 := s13.seq hl
            refine Rd.inStrT ["count", "again"] (SqT.of g3) ?_
            walk_at "my rn"
            refine Rd.ifD (fun e3 => ?_) fun e3 => ?_
            · walk_at "my rn"
              exact ⟨_, ex_count e3, rfl, s13⟩
            · walk_at "my rn"
              intro p4 H4 m4 s4 g4
              have s14 := s13.trans s4
              have hl4 := s14.seq hl
              refine Rd.inStrT ["in", "out"] (SqT.of g4) ?_
              walk_at "my rn"
              refine Rd.ifD (fun e4 => ?_) fun e4 => ?_
              · walk_at "my rn"
                exact ⟨_, ex_in e4, rfl, s14⟩
              · walk_at "my rn"
                by_cases e5 : nm = "calc"
                · have h1' := h1 e5
                  rw [decide_eq_true (by rw [e5])]
                  refine Rd.ifT ?_
                  walk_at "my rn"
                  refine Rd.ixTq (s14.seqT ht) (Rd.at_val (j := 1) rfl h1') ?_
                  walk_at "my rn"
                  refine Rd.ifD (fun e6 => ?_) fun e6 => ?_
                  · walk_at "my rn"
                    exact ⟨_, ex_calc e5 (by unfold calcCost; rw [if_pos (V.str.inj e6)]), rfl, s14⟩
                  · walk_at "my rn"
                    rw [decide_eq_true (by rw [e5])]
                    refine Rd.ifT ?_
                    walk_at "my rn"
                    refine Rd.ixTq (s14.seqT ht) (Rd.at_val (j := 1) rfl h1') ?_
                    walk_at "my rn"
                    intro p5 H5 m5 s5 g5
                    have s15 := s14.trans s5
                    have hl5 := s15.seq hl
                    refine Rd.inStrT ["div", "mod"] (SqT.of g5) ?_
                    walk_at "my rn"
                    refine Rd.ifD (fun e7 => ?_) fun e7 => ?_
                    · walk_at "my rn"
                      exact ⟨_, ex_calc e5 (by unfold calcCost; rw [if_neg (fun z => e6 (by rw [z])), if_pos (by simpa using e7)]), rfl, s15⟩
                    · walk_at "my rn"
                      exact ⟨_, ex_calc e5 (by unfold calcCost; rw [if_neg (fun z => e6 (by rw [z])), if_neg (by simpa using e7)]), rfl, s15⟩
                · rw [decide_eq_false (fun z => e5 (V.str.inj z))]
                  refine Rd.ifF ?_
                  walk_at "my rn"
                  rw [decide_eq_false (fun z => e5 (V.str.inj z))]
                  refine Rd.ifF ?_
                  walk_at "my rn"
                  exact ⟨_, by unfold exCost; rw [if_neg e1, if_neg e2, if_neg (by simpa using e5), if_neg e3, if_neg e4], rfl, s14⟩
      · rintro σ' H' ⟨ex, e1, rfl, s1⟩
        have hl1 := s1.seq hl
        walk_at "my rn"
        intro p2 H2 m2 s2 g2
        have s12 := s1.trans s2
        have hl2 := s12.seq hl
        refine Rd.inStrT ["jump", "link", "back"] (SqT.of g2) ?_
        walk_at "my rn"
        refine Rd.ifD (fun e2 => ?_) fun e2 => ?_
        · walk_at "my rn"
          exact q ex _ H2 s12 e1 (by rw [if_pos (.inl e2)])
        · walk_at "my rn"
          refine Rd.ifB (fun e3 => ?_) fun e3 => ?_
          · walk_at "my rn"
            intro p3 H3 m3 s3 g3
            have s13 := s12.trans s3
            have hl3 := s13.seq hl
            refine Rd.inStrT ["jzero", "again"] (SqT.of g3) ?_
            walk_at "my rn"
            refine Rd.ifD (fun e4 => ?_) fun e4 => ?_
            · walk_at "my rn"
              exact q ex _ H3 s13 e1 (by rw [if_pos (.inr ⟨e3, e4⟩)])
            · walk_at "my rn"
              have := q ex 0 H3 s13 e1 (by rw [if_neg (fun z => z.elim e2 fun z => e4 z.2)])
              rw [Int.add_zero] at this
              exact this
          · walk_at "my rn"
            have := q ex 0 H2 s12 e1 (by rw [if_neg (fun z => z.elim e2 fun z => by rw [e3] at z; cases z.1)])
            rw [Int.add_zero] at this
            exact this
def sp__law_fields (K : PySem.W.Frag) (C : Addr) : Sp := fun vs H Q _ => ∃ (o l : Addr) (c : Cost) (ns : List Int), vs = [.ref o, .ref l] ∧ CostsAt C H o c ∧ H l = some (.lst (ns.map V.int)) ∧ ∀ H', Same H H' → Q (.bl (decide (c.l = ns))) H'
theorem ok__law_fields (T : Top P K mg) : FnOk P w K mg base CX0 1 T.a__law_fields T.d__law_fields ["costs", "n"]  (sp__law_fields K T.C_Costs) := by
  refine T.F__law_fields.ok sc__law_fields (fun vs H Q E h => ?_) (fun cdv A outer s H vs Q E hr h => ?_)
  · obtain ⟨_, _, _, _, rfl, _⟩ := h
    rfl
  · obtain ⟨o, l, c, ns, rfl, ⟨dx, ho⟩, hl, q⟩ := h
    refine ⟨_, (pss_cons (ps_set (i := 2) sc__law_fields.nd rfl (by first | exact Or.inl rfl | exact Or.inr rfl) (pe_lst (pa_cons (pe_fld (pv 0) rfl) (pa_cons (pe_fld (pv 0) rfl) (pa_cons (pe_fld (pv 0) rfl) (pa_cons (pe_fld (pv 0) rfl) (pa_cons (pe_fld (pv 0) rfl) (pa_cons (pe_fld (pv 0) rfl) (pa_cons (pe_fld (pv 0) rfl) pa_nil)))))))))
  (pss_cons (ps_set (i := 2) sc__law_fields.nd rfl (by first | exact Or.inl rfl | exact Or.inr rfl) (pe_op op_catQ (pv 2) (pe_lst (pa_cons (pe_fld (pv 0) rfl) (pa_cons (pe_fld (pv 0) rfl) (pa_cons (pe_fld (pv 0) rfl) (pa_cons (pe_fld (pv 0) rfl) (pa_cons (pe_fld (pv 0) rfl) (pa_cons (pe_fld (pv 0) rfl) (pa_cons (pe_fld (pv 0) rfl) pa_nil))))))))))
  (pss_one (ps_ret (pe_cmpR (op_eqD hr.units) (pe_op op_catQ (pv 2) (pe_lst (pa_cons (pe_fld (pv 0) rfl) (pa_cons (pe_fld (pv 0) rfl) pa_nil)))) (pv 1) (nomark _)))))), ?_⟩
    rw [show ∀ a0 a1 : V, L2.start ["costs", "n", "told"] [a0, a1] = [some a0, some a1, none] from fun _ _ => rfl]
    obtain ⟨l1, l2, l3, l4, l5, l6, l7, l8, l9, l10, l11⟩ := @Cost.look c
    obtain ⟨l12, l13, l14, l15, l16⟩ := @Cost.look2 c
    have n0 := T.n_Costs_fetch_hit
    have n1 := T.n_Costs_fetch_miss
    have n2 := T.n_Costs_plain
    have n3 := T.n_Costs_mul
    have n4 := T.n_Costs_div
    have n5 := T.n_Costs_load_hit
    have n6 := T.n_Costs_load_miss
    have n7 := T.n_Costs_store
    have n8 := T.n_Costs_taken
    have n9 := T.n_Costs_count
    have n10 := T.n_Costs_port
    have n11 := T.n_Costs_release
    have n12 := T.n_Costs_switch
    have n13 := T.n_Costs_enter
    have n14 := T.n_Costs_leave
    have n15 := T.n_Costs_finish
    have cl := T.cl_Costs
    walk_at "my rn"
    intro p1 H1 m1 s1 h1
    have ho1 := s1 _ _ ho
    walk_at "my rn"
    intro p2 H2 m2 s2 h2
    have ho2 := s2 _ _ (s1 _ _ ho)
    walk_at "my rn"
    refine Rd.catQ (SqL.of (s2 _ _ h1)) (SqL.of h2) (Nat.le_of_ble_eq_true rfl) fun p3 H3 m3 s3 h3 => ?_
    have ho3 := s3 _ _ ho2
    walk_at "my rn"
    intro p4 H4 m4 s4 h4
    walk_at "my rn"
    refine Rd.catQ (SqL.of (s4 _ _ h3)) (SqL.of h4) (Nat.le_of_ble_eq_true rfl) fun p5 H5 m5 s5 h5 => ?_
    have s05 := s1.trans (s2.trans (s3.trans (s4.trans s5)))
    walk_at "my rn"
    refine Rd.eqD (dp_ints (ns := c.l) (SqL.of h5)) (dp_ints (SqL.of (s05 _ _ hl))) (ints_shaped _) (ints_shaped _) ?_
    rw [eqv_ints]
    exact q _ s05
end

end Mine


set_option Elab.async false
set_option linter.all false
set_option maxRecDepth 100000
set_option maxHeartbeats 400000


namespace Mine
open PySem PySem.Spec PyProof.Rows L2
local macro_rules | `(tactic| walk_at "my rn") => `(tactic| (repeat (first | with_reducible refine Rd.callS ?_ | with_reducible refine Rd.mkS ?_ | with_reducible refine Rd.mkKS ?_ | with_reducible refine Rd.mkK ?_ | with_reducible refine Rd.callN ?_ | with_reducible refine Rd.catQI ?_ | with_reducible refine Rd.revN ?_ | with_reducible refine Rd.lzip ?_ | with_reducible refine Rd.fld ?_ | with_reducible refine Rd.sfld ?_ | with_reducible refine Rd.meth ?_ | with_reducible refine Rd.make ?_ | with_reducible refine Rd.izip ?_ | with_reducible refine Rd.disp ?_ | with_reducible refine Rd.pcons ?_ | with_reducible refine Rd.pnil ?_ | with_reducible refine Rd.dsp ?_ | with_reducible refine Rd.dnew ?_ | with_reducible refine Rd.din ?_ | with_reducible refine Rd.dnot ?_ | with_reducible refine Rd.dget ?_ | with_reducible refine Rd.dget2 ?_ | with_reducible refine Rd.dput ?_ | with_reducible refine Rd.cbDictOf ?_ | with_reducible refine Rd.iitems ?_ | with_reducible refine Rd.ikeys ?_ | with_reducible refine Rd.dc ?_ | with_reducible refine Rd.nwD ?_ | with_reducible refine Rd.tupN ?_ | with_reducible refine Rd.lstN ?_ | with_reducible refine Rd.cbListOf ?_ | with_reducible refine Rd.cbListOfR ?_ | with_reducible refine Rd.catI ?_ | with_reducible refine Rd.slN ?_ | with_reducible refine Rd.cbSrtI ?_ | with_reducible refine Rd.seq ?_ | with_reducible refine Rd.next ?_ | with_reducible refine Rd.brk ?_ | with_reducible refine Rd.cont ?_ | with_reducible refine Rd.asg ?_ | with_reducible refine Rd.ret ?_ | with_reducible refine Rd.retN ?_ | with_reducible refine Rd.drop ?_ | with_reducible refine Rd.ifs ?_ | with_reducible refine Rd.ife ?_ | with_reducible refine Rd.test ?_ | with_reducible refine Rd.tb_ ?_ | with_reducible refine Rd.bl ?_ | with_reducible refine Rd.bl2 ?_ | with_reducible refine Rd.and_ ?_ | with_reducible refine Rd.or_ ?_ | with_reducible refine Rd.not_ ?_ | with_reducible refine Rd.andV ?_ | with_reducible refine Rd.orV ?_ | with_reducible refine Rd.notV ?_ | with_reducible refine Rd.op ?_ | with_reducible refine Rd.un ?_ | with_reducible refine Rd.I0 ?_ | with_reducible refine Rd.U ?_ | with_reducible refine Rd.ip ?_ | with_reducible refine Rd.c_ ?_ | with_reducible refine Rd.nil ?_ | with_reducible refine Rd.cons ?_ | with_reducible refine Rd.call ?_ | with_reducible refine Rd.cb ?_ | with_reducible refine Rd.bm ?_ | with_reducible refine Rd.bm0 ?_ | with_reducible refine Rd.nopart ?_ | with_reducible refine Rd.part ?_ | with_reducible refine Rd.int1 ?_ | with_reducible refine Rd.ints1 ?_ | with_reducible refine Rd.ints2 ?_ | with_reducible refine Rd.gcons ?_ | with_reducible refine Rd.gnil ?_ | with_reducible refine Rd.sub ?_ | with_reducible refine Rd.isN ?_ | with_reducible refine Rd.chain ?_ | with_reducible refine Rd.rf ?_ | with_reducible refine Rd.tyS ?_ | with_reducible refine Rd.intI ?_ | with_reducible refine Rd.lc ?_ | with_reducible refine Rd.for_ ?_ | with_reducible refine Rd.ilist ?_ | with_reducible refine Rd.itup ?_ | with_reducible refine Rd.irng1 ?_ | with_reducible refine Rd.irng2 ?_ | with_reducible refine Rd.ienum ?_ | with_reducible refine Rd.istr ?_ | with_reducible refine Rd.refA ?_ | with_reducible refine Rd.strA ?_ | with_reducible refine Rd.yes ?_ | with_reducible refine Rd.ifT ?_ | with_reducible refine Rd.ifF ?_ | with_reducible refine Rd.ifnT ?_ | with_reducible refine Rd.ifnF ?_ | with_reducible refine Rd.isi_ii ?_ | with_reducible refine Rd.isi_ib ?_ | with_reducible refine Rd.isi_is ?_ | with_reducible refine Rd.isi_il ?_ | with_reducible refine Rd.isi_it ?_ | with_reducible refine Rd.isi_id ?_ | with_reducible refine Rd.isi_bi ?_ | with_reducible refine Rd.isi_bb ?_ | with_reducible refine Rd.isi_bs ?_ | with_reducible refine Rd.isi_bl ?_ | with_reducible refine Rd.isi_bt ?_ | with_reducible refine Rd.isi_bd ?_ | with_reducible refine Rd.isi_si ?_ | with_reducible refine Rd.isi_sb ?_ | with_reducible refine Rd.isi_ss ?_ | with_reducible refine Rd.isi_sl ?_ | with_reducible refine Rd.isi_st ?_ | with_reducible refine Rd.isi_sd ?_ | with_reducible refine Rd.isi_ni ?_ | with_reducible refine Rd.isi_nb ?_ | with_reducible refine Rd.isi_ns ?_ | with_reducible refine Rd.isi_nl ?_ | with_reducible refine Rd.isi_nt ?_ | with_reducible refine Rd.isi_nd ?_ | with_reducible refine Rd.sl ?_ | with_reducible refine Rd.v0 ?_ | with_reducible refine Rd.v1 ?_ | with_reducible refine Rd.v2 ?_ | with_reducible refine Rd.v3 ?_ | with_reducible refine Rd.v4 ?_ | with_reducible refine Rd.v5 ?_ | with_reducible refine Rd.v6 ?_ | with_reducible refine Rd.v7 ?_ | with_reducible refine Rd.v8 ?_ | with_reducible refine Rd.v9 ?_ | with_reducible refine Rd.v10 ?_ | with_reducible refine Rd.v11 ?_ | with_reducible refine Rd.v12 ?_ | with_reducible refine Rd.v13 ?_ | with_reducible refine Rd.v14 ?_ | with_reducible refine Rd.v15 ?_ | with_reducible refine Rd.v16 ?_ | with_reducible refine Rd.v17 ?_ | with_reducible refine Rd.v18 ?_ | with_reducible refine Rd.v19 ?_ | with_reducible refine Rd.v20 ?_ | with_reducible refine Rd.v21 ?_ | with_reducible refine Rd.v22 ?_ | with_reducible refine Rd.v23 ?_ | with_reducible refine Rd.v24 ?_ | with_reducible refine Rd.v25 ?_ | with_reducible refine Rd.v26 ?_ | with_reducible refine Rd.v27 ?_ | with_reducible refine Rd.n0 ?_ | with_reducible refine Rd.n1 ?_ | with_reducible refine Rd.n2 ?_ | with_reducible refine Rd.n3 ?_ | with_reducible refine Rd.n4 ?_ | with_reducible refine Rd.n5 ?_ | with_reducible refine Rd.n6 ?_ | with_reducible refine Rd.n7 ?_ | with_reducible refine Rd.n8 ?_ | with_reducible refine Rd.n9 ?_ | with_reducible refine Rd.n10 ?_ | with_reducible refine Rd.n11 ?_ | with_reducible refine Rd.n12 ?_ | with_reducible refine Rd.n13 ?_ | with_reducible refine Rd.n14 ?_ | with_reducible refine Rd.n15 ?_ | with_reducible refine Rd.n16 ?_ | with_reducible refine Rd.n17 ?_ | with_reducible refine Rd.n18 ?_ | with_reducible refine Rd.n19 ?_ | with_reducible refine Rd.n20 ?_ | with_reducible refine Rd.n21 ?_ | with_reducible refine Rd.n22 ?_ | with_reducible refine Rd.n23 ?_ | with_reducible refine Rd.n24 ?_ | with_reducible refine Rd.n25 ?_ | with_reducible refine Rd.n26 ?_ | with_reducible refine Rd.n27 ?_ | with_reducible refine Rd.g0 ?_ | with_reducible refine Rd.g1 ?_ | with_reducible refine Rd.g2 ?_ | with_reducible refine Rd.g3 ?_ | with_reducible refine Rd.g4 ?_ | with_reducible refine Rd.g5 ?_ | with_reducible refine Rd.g6 ?_ | with_reducible refine Rd.g7 ?_ | with_reducible refine Rd.g8 ?_ | with_reducible refine Rd.g9 ?_ | with_reducible refine Rd.g10 ?_ | with_reducible refine Rd.g11 ?_ | with_reducible refine Rd.g12 ?_ | with_reducible refine Rd.g13 ?_ | with_reducible refine Rd.g14 ?_ | with_reducible refine Rd.g15 ?_ | with_reducible refine Rd.g16 ?_ | with_reducible refine Rd.g17 ?_ | with_reducible refine Rd.g18 ?_ | with_reducible refine Rd.g19 ?_ | with_reducible refine Rd.g20 ?_ | with_reducible refine Rd.g21 ?_ | with_reducible refine Rd.g22 ?_ | with_reducible refine Rd.g23 ?_ | with_reducible refine Rd.g24 ?_ | with_reducible refine Rd.g25 ?_ | with_reducible refine Rd.g26 ?_ | with_reducible refine Rd.g27 ?_ | ((with_reducible apply Rd.glst); (first | assumption | exact upd_same); exact rfl) | ((with_reducible apply Rd.gtP); assumption; assumption) | ((with_reducible apply Rd.revq); first | assumption | exact SqL.of (by assumption)) | ((with_reducible apply Rd.fldI); (first | assumption | exact upd_same); assumption; assumption; (first | assumption | with_unfolding_all rfl)) | ((with_reducible apply Rd.methI); (first | assumption | exact upd_same); (first | assumption | with_unfolding_all rfl)) | ((with_reducible apply Rd.sfldI); (first | assumption | exact upd_same); assumption; assumption; exact Nat.le_of_ble_eq_true rfl) | ((with_reducible apply Rd.maxL); assumption) | ((with_reducible apply Rd.anyL); assumption) | ((with_reducible apply Rd.sumL); assumption) | ((with_reducible refine Rd.izI (by assumption) (by assumption) ?_)) | with_reducible refine Rd.mtq ?_ | with_reducible refine Rd.mtRest ?_ | with_reducible refine Rd.mtEnd ?_ | with_reducible refine Rd.tbC ?_ | with_reducible refine Rd.tbT ?_ | with_reducible refine Rd.tbA ?_ | with_reducible refine Rd.tbN ?_ | with_reducible refine Rd.mto ?_ | with_reducible refine Rd.mtoI ?_ | with_reducible refine Rd.moRest ?_ | with_reducible refine Rd.moEnd ?_ | ((with_reducible apply Rd.mtqI); (first | assumption | exact SqT.of upd_same | exact SqT.of (by assumption)); exact Nat.le_of_ble_eq_true rfl) | ((with_reducible refine Rd.mtLen ?_ ?_); exact rfl) | ((with_reducible refine Rd.mtYes ?_ ?_); exact rfl) | ((with_reducible refine Rd.mtNo ?_ ?_); (first | assumption | decide +kernel)) | ((with_reducible refine Rd.mtOY ?_ ?_); exact rfl) | ((with_reducible refine Rd.mtON ?_ ?_); exact rfl) | ((with_reducible refine Rd.eq ?_ ?_); exact rfl) | ((with_reducible refine Rd.ne ?_ ?_); exact rfl) | ((with_reducible refine Rd.szA ?_ ?_); exact Nat.le_of_ble_eq_true rfl) | ((with_reducible refine Rd.I ?_ ?_); first | assumption | decide | exact Or.inr (by decide +kernel) | exact Or.inl (by decide +kernel) | exact ⟨by decide, by decide⟩ | exact ⟨by decide, by decide, by decide⟩ | omega) | ((with_reducible apply Rd.tyL); first | assumption | exact upd_same) | ((with_reducible apply Rd.tyLq); assumption) | ((with_reducible apply Rd.ixL); (first | assumption | exact upd_same); exact rfl) | ((with_reducible apply Rd.ixT); (first | assumption | exact upd_same); exact rfl) | ((with_reducible apply Rd.ixLq); assumption; exact rfl) | ((with_reducible apply Rd.ixTq); assumption; exact rfl) | ((with_reducible apply Rd.gtup); (first | assumption | exact upd_same); exact rfl) | ((with_reducible apply Rd.gtupq); assumption; exact rfl) | ((with_reducible apply Rd.sqAq); assumption) | ((with_reducible apply Rd.stAq); assumption) | ((with_reducible apply Rd.enAq); assumption) | ((with_reducible apply Rd.lenLq); assumption) | ((with_reducible apply Rd.lenTq); assumption) | ((with_reducible apply Rd.sqA); first | assumption | exact upd_same) | ((with_reducible apply Rd.stA); first | assumption | exact upd_same) | ((with_reducible apply Rd.enA); first | assumption | exact upd_same) | ((with_reducible apply Rd.lenL); first | assumption | exact upd_same) | ((with_reducible apply Rd.lenT); first | assumption | exact upd_same) | ((with_reducible refine Rd.nwT ?_ ?_); exact Nat.le_of_ble_eq_true rfl) | ((with_reducible refine Rd.nwL ?_ ?_); exact Nat.le_of_ble_eq_true rfl) | ((with_reducible apply Rd.isd); assumption) | ((with_reducible apply Rd.dictOf); assumption) | ((with_reducible refine Rd.isi_dd (by assumption) ?_)) | ((with_reducible apply Rd.itA); first | assumption | exact upd_same) | ((with_reducible apply Rd.ikA); first | assumption | exact upd_same) | ((with_reducible apply Rd.listOf); assumption) | ((with_reducible apply Rd.listOfq); assumption) | ((with_reducible apply Rd.slo); assumption) | ((with_reducible apply Rd.slq); assumption) | ((with_reducible apply Rd.srtI); assumption) | ((with_reducible apply Rd.srtIo); assumption) | ((with_reducible refine Rd.isi_li (by assumption) ?_)) | ((with_reducible refine Rd.isi_lb (by assumption) ?_)) | ((with_reducible refine Rd.isi_ls (by assumption) ?_)) | ((with_reducible refine Rd.isi_ll (by assumption) ?_)) | ((with_reducible refine Rd.isi_lt (by assumption) ?_)) | ((with_reducible refine Rd.isi_ld (by assumption) ?_)) | ((with_reducible refine Rd.isi_ti (by assumption) ?_)) | ((with_reducible refine Rd.isi_tb (by assumption) ?_)) | ((with_reducible refine Rd.isi_ts (by assumption) ?_)) | ((with_reducible refine Rd.isi_tl (by assumption) ?_)) | ((with_reducible refine Rd.isi_tt (by assumption) ?_)) | ((with_reducible refine Rd.isi_td (by assumption) ?_)))))







section
variable {P : Program} {w : World} {K : PySem.W.Frag} {mg : Str → Option Value} {base : Heap}
theorem Cost.Ok.sm {c : Cost} (h : c.Ok) : c.Sm := fun x m => by
  rcases List.mem_append.mp (show x ∈ [c.fh, c.fm, c.pl, c.mu, c.dv, c.lh, c.lm, c.st, c.tk, c.ct, c.po] ++ [c.rl, c.sw, c.en, c.lv, c.fi] from m) with m | m
  · have := h.a x m; omega
  · have := h.b x m; omega
theorem Cost.Ok.at {c : Cost} (h : c.Ok) {j : Nat} {x : Int} (e : c.l[j]? = some x) : (if j < 11 then 1 else 0) ≤ x ∧ x ≤ 64 := by
  have e : ([c.fh, c.fm, c.pl, c.mu, c.dv, c.lh, c.lm, c.st, c.tk, c.ct, c.po] ++ [c.rl, c.sw, c.en, c.lv, c.fi])[j]? = some x := e
  by_cases hj : j < 11
  · rw [if_pos hj]
    rw [List.getElem?_append_left hj] at e
    exact h.a x (List.mem_of_getElem? e)
  · rw [if_neg hj]
    rw [List.getElem?_append_right (by exact Nat.le_of_not_lt hj)] at e
    exact h.b x (List.mem_of_getElem? e)
theorem cost_l {xs : List Int} (h : xs.length = 16) : ∃ c : Cost, c.l = xs := by
  match xs, h with
  | [a0, a1, a2, a3, a4, a5, a6, a7, a8, a9, a10, b0, b1, b2, b3, b4], _ => exact ⟨⟨a0, a1, a2, a3, a4, a5, a6, a7, a8, a9, a10, b0, b1, b2, b3, b4⟩, rfl⟩
theorem Cost.sm_set {c c' : Cost} {j : Nat} {v : Int} (h : c.Sm) (e : c'.l = c.l.set j v) (hv : -1 ≤ v ∧ v ≤ 1000) : c'.Sm := fun x m => by
  rw [e] at m
  rcases List.mem_or_eq_of_mem_set m with m | m
  · exact h x m
  · rw [m]; exact hv
def sp_law (K : PySem.W.Frag) : Sp := fun vs H Q _ => ∃ (a : Addr) (ns : List Int), vs = [.ref a] ∧ SqL K H a (ns.map V.int) ∧ ns.length ≤ 63 ∧ ∀ H', Q (.bl true) H'
theorem ok_law (T : Top P K mg) : FnOk P w K mg base CX0 8 T.a_law T.d_law ["script"]  (sp_law K) := by
  refine T.F_law.ok sc_law (fun vs H Q E h => ?_) (fun cdv A outer s H vs Q E hr h => ?_)
  · obtain ⟨_, _, rfl, _⟩ := h
    rfl
  · obtain ⟨l, ns, rfl, hS, hlen, q⟩ := h
    refine ⟨_, (pss_cons (ps_set (i := 1) sc_law.nd rfl (by first | exact Or.inl rfl | exact Or.inr rfl) (pe_call (ok__law_start T) (hr.mono (by decide)) (by rfl) T.g__law_start T.F__law_start.kp T.b__law_start .nil pass0 (pa_cons (pv 0) pa_nil)))
  (pss_cons (ps_set (i := 2) sc_law.nd rfl (by first | exact Or.inl rfl | exact Or.inr rfl) (pe_call (ok__law_numbers T) (hr.mono (by decide)) (by rfl) T.g__law_numbers T.F__law_numbers.kp T.b__law_numbers .nil pass0 (pa_cons (pv 1) pa_nil)))
  (pss_cons (ps_set (i := 3) sc_law.nd rfl (by first | exact Or.inl rfl | exact Or.inr rfl) (pe_call (ok__law_made T) (hr.mono (by decide)) (by rfl) T.g__law_made T.F__law_made.kp T.b__law_made .nil pass0 (pa_cons (pv 2) pa_nil)))
  (pss_cons (ps_if (pw_or (pt_cmpR op_isN (pv 3) pe_non (nomark _)) (pw_or (pt_cmpR (op_eqOI T.eq_Costs hr.units0) (pv 3) pe_int (nomark _)) (pw_or1 (pt_not (pt_val (pe_call (ok__law_fields T) (hr.mono (by decide)) (by rfl) T.g__law_fields T.F__law_fields.kp T.b__law_fields .nil pass0 (pa_cons (pv 3) (pa_cons (pv 2) pa_nil)))))))).pt
  (pss_one (ps_ret pe_bl))
  pss_nil)
  (pss_cons (ps_for PassesOwn.never rfl (pi_range1 (by rfl) T.m_range (pa_cons pe_int pa_nil)) (pg_name (i := 4) sc_law.nd rfl (by first | exact Or.inl rfl | exact Or.inr rfl))
  (pss_cons (ps_set (i := 5) sc_law.nd rfl (by first | exact Or.inl rfl | exact Or.inr rfl) (pe_call (ok__law_instruction T) (hr.mono (by decide)) (by rfl) T.g__law_instruction T.F__law_instruction.kp T.b__law_instruction .nil pass0 (pa_cons (pv 1) pa_nil)))
  (pss_cons (ps_set (i := 6) sc_law.nd rfl (by first | exact Or.inl rfl | exact Or.inr rfl) (pe_cmpR op_eq (pe_call (ok__law_draw T) (hr.mono (by decide)) (by rfl) T.g__law_draw T.F__law_draw.kp T.b__law_draw .nil pass0 (pa_cons (pv 1) (pa_cons pe_int pa_nil))) pe_int (nomark _)))
  (pss_cons (ps_set (i := 7) sc_law.nd rfl (by first | exact Or.inl rfl | exact Or.inr rfl) (pe_cmpR op_eq (pe_call (ok__law_draw T) (hr.mono (by decide)) (by rfl) T.g__law_draw T.F__law_draw.kp T.b__law_draw .nil pass0 (pa_cons (pv 1) (pa_cons pe_int pa_nil))) pe_int (nomark _)))
  (pss_cons (ps_set (i := 8) sc_law.nd rfl (by first | exact Or.inl rfl | exact Or.inr rfl) (pe_cmpR op_eq (pe_call (ok__law_draw T) (hr.mono (by decide)) (by rfl) T.g__law_draw T.F__law_draw.kp T.b__law_draw .nil pass0 (pa_cons (pv 1) (pa_cons pe_int pa_nil))) pe_int (nomark _)))
  (pss_cons (ps_set (i := 9) sc_law.nd rfl (by first | exact Or.inl rfl | exact Or.inr rfl) (pe_callN (ok_instruction_cost T) (hr.mono (by decide)) (by rfl) T.g_instruction_cost T.F_instruction_cost.kp (kb_instruction_cost_3 T.F_instruction_cost).choose_spec pass0 (pa_cons (pv 3) (pa_cons (pv 5) pa_nil)) (pk_cons (pv 6) (pk_cons (pv 7) (pk_cons (pv 8) pk_nil)))))
  (pss_cons (ps_if (pw_or (pt_val (pe_callB call_isi (by rfl) T.m_isinstance (by decide +kernel) (pa_cons (pv 9) (pa_cons (pe_ty (T := "bool") (by rfl) T.m_bool (by decide +kernel)) pa_nil)))) (pw_or1 (pt_cmpR op_ne (pv 9) (pe_call (ok__law_expected T) (hr.mono (by decide)) (by rfl) T.g__law_expected T.F__law_expected.kp T.b__law_expected .nil pass0 (pa_cons (pv 2) (pa_cons (pv 5) (pa_cons (pv 6) (pa_cons (pv 7) (pa_cons (pv 8) pa_nil)))))) (nomark _)))).pt
  (pss_one (ps_ret pe_bl))
  pss_nil)
  (pss_cons (ps_set (i := 9) sc_law.nd rfl (by first | exact Or.inl rfl | exact Or.inr rfl) (pe_callN (ok_instruction_cost T) (hr.mono (by decide)) (by rfl) T.g_instruction_cost T.F_instruction_cost.kp (kb_instruction_cost_2 T.F_instruction_cost).choose_spec pass0 (pa_cons (pv 3) (pa_cons (pv 5) pa_nil)) (pk_cons (pv 6) pk_nil)))
  (pss_one (ps_if (pt_cmpR op_ne (pv 9) (pe_call (ok__law_expected T) (hr.mono (by decide)) (by rfl) T.g__law_expected T.F__law_expected.kp T.b__law_expected .nil pass0 (pa_cons (pv 2) (pa_cons (pv 5) (pa_cons (pv 6) (pa_cons pe_bl (pa_cons pe_bl pa_nil)))))) (nomark _))
  (pss_one (ps_ret pe_bl))
  pss_nil))))))))))
  (pss_cons (ps_set (i := 10) sc_law.nd rfl (by first | exact Or.inl rfl | exact Or.inr rfl) (pe_callTy call_list_of (by rfl) T.m_list (by decide +kernel) (pa_cons (pv 2) pa_nil)))
  (pss_cons (ps_set (i := 11) sc_law.nd rfl (by first | exact Or.inl rfl | exact Or.inr rfl) (pe_call (ok__law_draw T) (hr.mono (by decide)) (by rfl) T.g__law_draw T.F__law_draw.kp T.b__law_draw .nil pass0 (pa_cons (pv 1) (pa_cons pe_int pa_nil))))
  (Evl.pss_cut (ps_if (pt_cmpR op_lt (pv 11) pe_int (nomark _))
  (pss_one (ps_asg (pe_ix ix_list (pe_lst (pa_cons (pe_ifExp (pt_cmpR op_gt (pv 11) pe_int (nomark _)) (pe_un un_neg pe_int) pe_int) (pa_cons pe_int pa_nil))) (pe_call (ok__law_draw T) (hr.mono (by decide)) (by rfl) T.g__law_draw T.F__law_draw.kp T.b__law_draw .nil pass0 (pa_cons (pv 1) (pa_cons pe_int pa_nil))) (fun _ _ => rfl)) (pg_sub (pv 10) (pv 11) set_list)))
  (pss_cons (ps_asg (pe_op op_add pe_int (pe_call (ok__law_draw T) (hr.mono (by decide)) (by rfl) T.g__law_draw T.F__law_draw.kp T.b__law_draw .nil pass0 (pa_cons (pv 1) (pa_cons pe_int pa_nil)))) (pg_sub (pv 10) (pe_op op_mul (pe_op op_sub (pv 11) pe_int) pe_int) set_list))
  (pss_one (ps_asg (pe_op op_sub (pe_ix ix_list (pv 10) (pe_op op_mul (pe_op op_sub (pv 11) pe_int) pe_int) (fun _ _ => rfl)) pe_int) (pg_sub (pv 10) (pe_op op_add (pe_op op_mul (pe_op op_sub (pv 11) pe_int) pe_int) pe_int) set_list)))))
  (pss_cons (ps_if (pt_cmpR op_notN (pe_call (ok__law_made T) (hr.mono (by decide)) (by rfl) T.g__law_made T.F__law_made.kp T.b__law_made .nil pass0 (pa_cons (pv 10) pa_nil)) pe_non (nomark _))
  (pss_one (ps_ret pe_bl))
  pss_nil)
  (pss_cons (ps_set (i := 12) sc_law.nd rfl (by first | exact Or.inl rfl | exact Or.inr rfl) (pe_makeK0 T.M_Costs (ok_Costs_init T) (hr.mono (by decide)) (by rfl) T.gc_Costs (kb_Costs_init_1 T.F_Costs_init).choose_spec pass_no (pk_cons (pe_ix ix_list (pv 2) pe_int (fun _ _ => rfl)) (pk_cons (pe_ix ix_list (pv 2) pe_int (fun _ _ => rfl)) pk_nil))))
  (pss_one (ps_ret (pe_call (ok__law_fields T) (hr.mono (by decide)) (by rfl) T.g__law_fields T.F__law_fields.kp T.b__law_fields .nil pass0 (pa_cons (pv 12) (pa_cons (pe_lst (pa_cons pe_int (pa_cons pe_int (pa_cons pe_int (pa_cons (pe_ix ix_list (pv 2) pe_int (fun _ _ => rfl)) (pa_cons pe_int (pa_cons pe_int (pa_cons pe_int (pa_cons pe_int (pa_cons pe_int (pa_cons pe_int (pa_cons pe_int (pa_cons pe_int (pa_cons pe_int (pa_cons (pe_ix ix_list (pv 2) pe_int (fun _ _ => rfl)) (pa_cons pe_int (pa_cons pe_int pa_nil))))))))))))))))) pa_nil))))))))))))))), ?_⟩
    rw [show ∀ a0 : V, L2.start ["script", "state", "n", "costs", "k", "instruction", "fetch_hit", "load_hit", "taken", "told", "bad", "at", "usual"] [a0] = [some a0, none, none, none, none, none, none, none, none, none, none, none, none] from fun _ => rfl]
    walk_at "my rn"
    refine ⟨l, ns, rfl, hS, hlen, fun H0 p c s0 np nc st0 => ?_⟩
    walk_at "my rn"
    refine ⟨p, c, rfl, st0, fun L ct H1 ok nL hL Lp st1 k1 => ?_⟩
    walk_at "my rn"
    refine ⟨L, ct, rfl, SqL.of hL, ok.sm, fun _ H2 o hc s2 no => ?_, fun z => absurd ok z⟩
    walk_at "my rn"
    rw [decide_eq_false (by intro z; cases z)]
    refine Rd.ifF ?_
    walk_at "my rn"
    obtain ⟨dx, ho⟩ := id hc
    refine ⟨o, dx, _, 0, rfl, rfl, ho, ?_⟩
    walk_at "my rn"
    refine ⟨o, L, ct, ct.l, rfl, hc, s2 _ _ hL, fun H3 s3 => ?_⟩
    rw [decide_eq_true rfl]
    walk_at "my rn"
    have hc3 := hc.same s3
    have st3 := st1.same (s2.trans s3)
    have hL3 := s3 _ _ (s2 _ _ hL)
    have op_ : o ≠ p := fun z => by
      obtain ⟨ms, j, v, sd, _, hp, _⟩ := st1.same s2
      rw [z, hp] at ho; cases ho
    refine ⟨by decide, by decide, for_it walk_range (fun i σ H' => ∃ (y4 y5 y6 y7 y8 y9 : Option V), σ = [some (.ref l), some (.ref p), some (.ref L), some (.ref o), y4, y5, y6, y7, y8, y9, none, none, none] ∧ CostsAt T.C_Costs H' o ct ∧ H' L = some (.lst (ct.l.map V.int)) ∧ StOk H' p c) ⟨none, none, none, none, none, none, rfl, hc3, hL3, st3⟩ (fun _ _ _ _ _ => trivial) ?_ ?_⟩
    · rintro i x σ Ho H' hi ⟨y4, y5, y6, y7, y8, y9, rfl, hc', hL', st'⟩ yy
      obtain ⟨rfl, e3⟩ := Rd.zr yy
      subst e3
      walk_at "my rn"
      refine ⟨p, c, rfl, st', fun t nm op H4 hi4 st4 k4 => ?_⟩
      walk_at "my rn"
      refine ⟨p, c, 2, rfl, st4, by decide, by decide, fun v5 H5 _ _ st5 k5 => ?_⟩
      walk_at "my rn"
      refine ⟨p, c, 2, rfl, st5, by decide, by decide, fun v6 H6 _ _ st6 k6 => ?_⟩
      walk_at "my rn"
      refine ⟨p, c, 2, rfl, st6, by decide, by decide, fun v7 H7 _ _ st7 k7 => ?_⟩
      walk_at "my rn"
      have kk : Keep p H4 H7 := k5.trans (k6.trans k7)
      have hi7 := hi4.keep st4 kk
      have kc := k4.trans kk
      have hc7 : CostsAt T.C_Costs H7 o ct := by
        obtain ⟨d, h⟩ := hc'
        exact ⟨d, kc _ _ op_ h⟩
      have hL7 := kc _ _ Lp hL'
      refine ⟨rfl, rfl, o, t, ct, nm, op, _, _, _, rfl, hc7, hi7, ?_⟩
      walk_at "my rn"
      refine ⟨L, t, ct, nm, op, _, _, _, rfl, SqL.of hL7, hi7, fun H8 s8 => ?_⟩
      walk_at "my rn"
      rw [decide_eq_true rfl]
      refine Rd.ifnT ?_
      walk_at "my rn"
      refine ⟨rfl, rfl, o, t, ct, nm, op, _, _, _, rfl, hc7.same s8, hi7.same s8, ?_⟩
      walk_at "my rn"
      refine ⟨L, t, ct, nm, op, _, _, _, rfl, SqL.of (s8 _ _ hL7), hi7.same s8, fun H9 s9 => ?_⟩
      walk_at "my rn"
      rw [decide_eq_true rfl]
      refine Rd.ifnT ?_
      exact ⟨_, _, _, _, _, _, rfl, hc7.same (s8.trans s9), s9 _ _ (s8 _ _ hL7), st7.same (s8.trans s9)⟩
    · rintro σ H4 ⟨y4, y5, y6, y7, y8, y9, rfl, hc4, hL4, st4⟩
      walk_at "my rn"
      intro B H5 nB s5 hB
      walk_at "my rn"
      refine ⟨p, c, 18, rfl, st4.same s5, by decide, by decide, fun v H6 v0 v1 st6 k6 => ?_⟩
      have Bn := st4.ne nB
      have hB6 := k6 _ _ Bn.1 hB
      have hL6 := k6 _ _ Lp (s5 _ _ hL4)
      walk_at "my rn"
      refine ⟨fun σ' H' => ∃ c' : Cost, σ' = [some (.ref l), some (.ref p), some (.ref L), some (.ref o), y4, y5, y6, y7, y8, y9, some (.ref B), some (.int v), none] ∧ H' B = some (.lst (c'.l.map V.int)) ∧ c'.Sm ∧ ¬ c'.Ok ∧ H' L = some (.lst (ct.l.map V.int)), ?_, ?_⟩
      · walk_at "my rn"
        refine Rd.ifD (fun h1 => ?_) fun h1 => ?_
        · obtain ⟨j, rfl⟩ : ∃ j : Nat, v = j := ⟨v.toNat, by omega⟩
          have put : ∀ (b : Int) (H7 : Hp), b = 65 ∨ b = (if j < 11 then 0 else -1) → H7 B = some (.lst (ct.l.map V.int)) → H7 L = some (.lst (ct.l.map V.int)) →
              ∃ c' : Cost, (L2.upd H7 B (.lst ((ct.l.map V.int).set j (.int b)))) B = some (.lst (c'.l.map V.int)) ∧ c'.Sm ∧ ¬ c'.Ok ∧ (L2.upd H7 B (.lst ((ct.l.map V.int).set j (.int b)))) L = some (.lst (ct.l.map V.int)) := fun b H7 eb h7 l7 => by
            obtain ⟨c', e⟩ := cost_l (xs := ct.l.set j b) (by rw [List.length_set]; rfl)
            have bb : -1 ≤ b ∧ b ≤ 1000 := by
              rcases eb with rfl | rfl
              · decide
              · split <;> decide
            refine ⟨c', by rw [upd_same, e, List.map_set], Cost.sm_set ok.sm e bb, fun z => ?_, ?_⟩
            · have g : c'.l[j]? = some b := by rw [e, List.getElem?_set_self (by show j < 16; omega)]
              have := z.at g
              rcases eb with rfl | rfl
              · omega
              · by_cases q : j < 11
                · rw [if_pos q, if_pos q] at this; omega
                · rw [if_neg q, if_neg q] at this; omega
            · rw [upd_ne (fun z => by rw [← z] at nB; rw [nB] at hL4; cases hL4)]; exact l7
          walk_at "my rn"
          have both : ∀ (b : Int) (H7 : Hp) (Z : Addr), b = (if j < 11 then 0 else -1) → H6 Z = none → Same H6 H7 → H7 Z = some (.lst [.int b, .int 65]) → StOk H7 p c ∧ ∀ (u : Int) (H8 : Hp), 0 ≤ u → u < 2 → Keep p H7 H8 → ∃ x, (x = 65 ∨ x = (if j < 11 then 0 else -1)) ∧ atI [V.int b, V.int 65] u = some (.int x) ∧ H8 Z = some (.lst [.int b, .int 65]) ∧ H8 B = some (.lst (ct.l.map V.int)) ∧ H8 L = some (.lst (ct.l.map V.int)) := fun b H7 Z eb nZ s7 hZ => by
            refine ⟨st6.same s7, fun u H8 u0 u1 k8 => ?_⟩
            have Zn := st6.ne nZ
            obtain ⟨x, mx, hx⟩ := at_mem (xs := [b, 65]) u0 u1
            refine ⟨x, ?_, hx, k8 _ _ Zn.1 hZ, k8 _ _ Bn.1 (s7 _ _ hB6), k8 _ _ Lp (s7 _ _ hL6)⟩
            simp only [List.mem_cons, List.mem_nil_iff, or_false] at mx
            rcases mx with rfl | rfl
            · exact .inr eb
            · exact .inl rfl
          refine Rd.ifD (fun h2 => ?_) fun h2 => ?_
          all_goals
            walk_at "my rn"
            intro Z H7 nZ s7 hZ
            walk_at "my rn"
            obtain ⟨st7, g7⟩ := both _ H7 Z (by first | rw [if_neg (by omega)] | rw [if_pos (by omega)]) nZ s7 hZ
            refine ⟨p, c, 2, rfl, st7, by decide, by decide, fun u H8 u0 u1 st8 k8 => ?_⟩
            obtain ⟨x, ex, hx, hZ8, hB8, hL8⟩ := g7 u H8 u0 u1 k8
            refine Rd.ixL hZ8 hx ?_
            walk_at "my rn"
            refine Rd.setL (j := j) hB8 (ix4 rfl (by rw [List.length_map]; show j < 16; omega)) ?_
            walk_at "my rn"
            obtain ⟨c', a1, a2, a3, a4⟩ := put x H8 ex hB8 hL8
            exact ⟨c', rfl, a1, a2, a3, a4⟩
        · have v67 : v = 16 ∨ v = 17 := by omega
          rcases v67 with rfl | rfl
          · walk_at "my rn"
            refine ⟨p, c, 63, rfl, st6, by decide, by decide, fun u H7 u0 u1 st7 k7 => ?_⟩
            have hB7 := k7 _ _ Bn.1 hB6
            have hL7 := k7 _ _ Lp hL6
            walk_at "my rn"
            refine Rd.setL (j := 0) hB7 rfl ?_
            obtain ⟨H8, e8⟩ : ∃ H8, H8 = L2.upd H7 B (.lst ((List.map V.int ct.l).set 0 (.int (2 + u)))) := ⟨_, rfl⟩
            have hB8 : H8 B = some (.lst ((List.map V.int ct.l).set 0 (.int (2 + u)))) := by rw [e8, upd_same]
            have hL8 : H8 L = some (.lst (ct.l.map V.int)) := (by rw [e8, upd_ne (fun z => by rw [← z] at nB; rw [nB] at hL4; cases hL4)]; exact hL7)
            rw [← e8]
            walk_at "my rn"
            refine Rd.setL (j := 1) hB8 rfl ?_
            walk_at "my rn"
            refine ⟨{ ct with fh := 2 + u, fm := 2 + u - 1 }, rfl, upd_same, fun x m => ?_, fun z => ?_, by rw [upd_ne (fun z => by rw [← z] at nB; rw [nB] at hL4; cases hL4)]; exact hL8⟩
            · have := ok.sm
              unfold Cost.Sm Cost.l at this
              unfold Cost.l at m
              simp only [List.forall_mem_cons] at this
              simp only [List.mem_cons, List.mem_nil_iff, or_false] at m
              omega
            · have := z.f
              have : 2 + u ≤ 2 + u - 1 := this
              omega
          · walk_at "my rn"
            refine ⟨p, c, 63, rfl, st6, by decide, by decide, fun u H7 u0 u1 st7 k7 => ?_⟩
            have hB7 := k7 _ _ Bn.1 hB6
            have hL7 := k7 _ _ Lp hL6
            walk_at "my rn"
            refine Rd.setL (j := 5) hB7 rfl ?_
            obtain ⟨H8, e8⟩ : ∃ H8, H8 = L2.upd H7 B (.lst ((List.map V.int ct.l).set 5 (.int (2 + u)))) := ⟨_, rfl⟩
            have hB8 : H8 B = some (.lst ((List.map V.int ct.l).set 5 (.int (2 + u)))) := by rw [e8, upd_same]
            have hL8 : H8 L = some (.lst (ct.l.map V.int)) := (by rw [e8, upd_ne (fun z => by rw [← z] at nB; rw [nB] at hL4; cases hL4)]; exact hL7)
            rw [← e8]
            walk_at "my rn"
            refine Rd.setL (j := 6) hB8 rfl ?_
            walk_at "my rn"
            refine ⟨{ ct with lh := 2 + u, lm := 2 + u - 1 }, rfl, upd_same, fun x m => ?_, fun z => ?_, by rw [upd_ne (fun z => by rw [← z] at nB; rw [nB] at hL4; cases hL4)]; exact hL8⟩
            · have := ok.sm
              unfold Cost.Sm Cost.l at this
              unfold Cost.l at m
              simp only [List.forall_mem_cons] at this
              simp only [List.mem_cons, List.mem_nil_iff, or_false] at m
              omega
            · have := z.l
              have : 2 + u ≤ 2 + u - 1 := this
              omega
      · rintro σ' H7 ⟨c', rfl, hB7, sm7, no7, hL7⟩
        walk_at "my rn"
        refine ⟨B, c', rfl, SqL.of hB7, sm7, fun z => absurd z no7, fun _ H8 s8 => ?_⟩
        walk_at "my rn"
        rw [decide_eq_true rfl]
        refine Rd.ifnT ?_
        have hL8 := s8 _ _ hL7
        unfold Cost.l at hL8
        walk_at "my rn"
        refine ⟨rfl, rfl, fun x dx nx nd ned => ?_⟩
        have sx : Same H8 (L2.upd (L2.upd H8 dx (.own x)) x (.ins T.C_Costs dx [])) := fun b y e => by
          rw [upd_ne (ne_of_none e nx), upd_ne (ne_of_none e nd)]
          exact e
        obtain ⟨cu, ecu⟩ : ∃ cu : Cost, cu = ⟨1, 11, 1, ct.mu, 8, 1, 11, 4, 1, 2, 4, 6, 12, ct.en, 5, 8⟩ := ⟨_, rfl⟩
        have m1 := ok.a ct.mu (by simp)
        have m2 := ok.b ct.en (by simp)
        have cok : cu.Ok := by
          rw [ecu]
          refine ⟨fun x m => ?_, fun x m => ?_, (by show (1 : Int) ≤ 11; decide), (by show (1 : Int) ≤ 11; decide)⟩
          · simp only [List.mem_cons, List.mem_nil_iff, or_false] at m
            omega
          · simp only [List.mem_cons, List.mem_nil_iff, or_false] at m
            omega
        refine ⟨x, dx, cu, by rw [ecu]; rfl, cok.sm, upd_same, fun _ H9 h1 h2 => ⟨rfl, ?_⟩, fun z => absurd cok z⟩
        have s9 : Same H8 H9 := fun b y e => h2 b y (ne_of_none e nx) (sx b y e)
        have hL9 := s9 _ _ hL8
        walk_at "my rn"
        intro Z H10 nZ s10 hZ
        walk_at "my rn"
        refine ⟨x, Z, cu, cu.l, rfl, ⟨dx, s10 _ _ h1⟩, by rw [hZ, ecu]; rfl, fun H11 s11 => ?_⟩
        rw [decide_eq_true rfl]
        exact q _
end

def top_mk {P : Program} {w : World} {K : PySem.W.Frag} {h : Heap} {mg : Str → Option Value} (X : K.In h) (G : h.Ns mainGlobals mg)
    {a_decimal : Addr} {od_decimal an_decimal : Option Addr} {sl_decimal : Array (Option Value)} {oc_decimal kV_decimal dc_decimal pm_decimal cd_decimal ct_decimal : Value}
    {a__law_start : Addr} {od__law_start an__law_start : Option Addr} {sl__law_start : Array (Option Value)} {oc__law_start kV__law_start dc__law_start pm__law_start cd__law_start ct__law_start : Value}
    {a__law_draw : Addr} {od__law_draw an__law_draw : Option Addr} {sl__law_draw : Array (Option Value)} {oc__law_draw kV__law_draw dc__law_draw pm__law_draw cd__law_draw ct__law_draw : Value}
    {a_Costs_init : Addr} {od_Costs_init an_Costs_init : Option Addr} {sl_Costs_init : Array (Option Value)} {oc_Costs_init dc_Costs_init pm_Costs_init cd_Costs_init ct_Costs_init : Value}
    {kD_Costs_init : Addr}
    {kt_Costs_init_fetch_hit : Tok}
    {kt_Costs_init_fetch_miss : Tok}
    {kt_Costs_init_plain : Tok}
    {kt_Costs_init_mul : Tok}
    {kt_Costs_init_div : Tok}
    {kt_Costs_init_load_hit : Tok}
    {kt_Costs_init_load_miss : Tok}
    {kt_Costs_init_store : Tok}
    {kt_Costs_init_taken : Tok}
    {kt_Costs_init_count : Tok}
    {kt_Costs_init_port : Tok}
    {kt_Costs_init_release : Tok}
    {kt_Costs_init_switch : Tok}
    {kt_Costs_init_enter : Tok}
    {kt_Costs_init_leave : Tok}
    {kt_Costs_init_finish : Tok}
    {a__check_costs : Addr} {od__check_costs an__check_costs : Option Addr} {sl__check_costs : Array (Option Value)} {oc__check_costs kV__check_costs dc__check_costs pm__check_costs cd__check_costs ct__check_costs : Value}
    {a__check_miss : Addr} {od__check_miss an__check_miss : Option Addr} {sl__check_miss : Array (Option Value)} {oc__check_miss kV__check_miss dc__check_miss pm__check_miss cd__check_miss ct__check_miss : Value}
    {a_instruction_cost : Addr} {od_instruction_cost an_instruction_cost : Option Addr} {sl_instruction_cost : Array (Option Value)} {oc_instruction_cost dc_instruction_cost pm_instruction_cost cd_instruction_cost ct_instruction_cost : Value}
    {kD_instruction_cost : Addr}
    {a__execution_cost : Addr} {od__execution_cost an__execution_cost : Option Addr} {sl__execution_cost : Array (Option Value)} {oc__execution_cost kV__execution_cost dc__execution_cost pm__execution_cost cd__execution_cost ct__execution_cost : Value}
    {a__calculation_cost : Addr} {od__calculation_cost an__calculation_cost : Option Addr} {sl__calculation_cost : Array (Option Value)} {oc__calculation_cost kV__calculation_cost dc__calculation_cost pm__calculation_cost cd__calculation_cost ct__calculation_cost : Value}
    {a__law_numbers : Addr} {od__law_numbers an__law_numbers : Option Addr} {sl__law_numbers : Array (Option Value)} {oc__law_numbers kV__law_numbers dc__law_numbers pm__law_numbers cd__law_numbers ct__law_numbers : Value}
    {a__law_made : Addr} {od__law_made an__law_made : Option Addr} {sl__law_made : Array (Option Value)} {oc__law_made kV__law_made dc__law_made pm__law_made cd__law_made ct__law_made : Value}
    {a__law_instruction : Addr} {od__law_instruction an__law_instruction : Option Addr} {sl__law_instruction : Array (Option Value)} {oc__law_instruction kV__law_instruction dc__law_instruction pm__law_instruction cd__law_instruction ct__law_instruction : Value}
    {a__law_expected : Addr} {od__law_expected an__law_expected : Option Addr} {sl__law_expected : Array (Option Value)} {oc__law_expected kV__law_expected dc__law_expected pm__law_expected cd__law_expected ct__law_expected : Value}
    {a__law_fields : Addr} {od__law_fields an__law_fields : Option Addr} {sl__law_fields : Array (Option Value)} {oc__law_fields kV__law_fields dc__law_fields pm__law_fields cd__law_fields ct__law_fields : Value}
    {a_law : Addr} {od_law an_law : Option Addr} {sl_law : Array (Option Value)} {oc_law kV_law dc_law pm_law cd_law ct_law : Value}
    {C_Costs : Addr}
    {C_PlanError : Addr}
    {C_DeadbeatError : Addr}
    {f_PlanError cda_PlanError cc_PlanError N_PlanError : Addr} {nm_PlanError q_PlanError file_PlanError : Str} {bs_PlanError bm_PlanError sub_PlanError : List Value} {sn_PlanError : List Str} {ab_PlanError : Bool} {col_PlanError : Option Bool} {dd_PlanError od_PlanError an_PlanError cdd_PlanError cld_PlanError : Option Addr} {m0_PlanError m1_PlanError m2_PlanError m3_PlanError m5_PlanError : Option Value} {oc_PlanError dc_PlanError pm_PlanError ct_PlanError ccl_PlanError cl_PlanError : Value} {osl_PlanError ccs_PlanError csl_PlanError : Array (Option Value)} {vs_PlanError : Array Value} {tq_PlanError tf_PlanError : Tok}
    {t_PIECE : Tok}
    {t_PIECE_DIGITS : Tok}
    {t_GREATEST_COST : Tok}
    {p_TAKEN_AT_TIMES : Addr} {n_TAKEN_AT_TIMES : Nat} {us_TAKEN_AT_TIMES : Array Value} {sl_TAKEN_AT_TIMES : Array (Option Value)}
    {p_ALWAYS_TAKEN : Addr} {n_ALWAYS_TAKEN : Nat} {us_ALWAYS_TAKEN : Array Value} {sl_ALWAYS_TAKEN : Array (Option Value)}
    (n_decimal : PySem.W.nsIn K mainGlobals "decimal" = some (some (.ref a_decimal)))
    (n__law_start : PySem.W.nsIn K mainGlobals "_law_start" = some (some (.ref a__law_start)))
    (n__law_draw : PySem.W.nsIn K mainGlobals "_law_draw" = some (some (.ref a__law_draw)))
    (n__check_costs : PySem.W.nsIn K mainGlobals "_check_costs" = some (some (.ref a__check_costs)))
    (n__check_miss : PySem.W.nsIn K mainGlobals "_check_miss" = some (some (.ref a__check_miss)))
    (n_instruction_cost : PySem.W.nsIn K mainGlobals "instruction_cost" = some (some (.ref a_instruction_cost)))
    (n__execution_cost : PySem.W.nsIn K mainGlobals "_execution_cost" = some (some (.ref a__execution_cost)))
    (n__calculation_cost : PySem.W.nsIn K mainGlobals "_calculation_cost" = some (some (.ref a__calculation_cost)))
    (n__law_numbers : PySem.W.nsIn K mainGlobals "_law_numbers" = some (some (.ref a__law_numbers)))
    (n__law_made : PySem.W.nsIn K mainGlobals "_law_made" = some (some (.ref a__law_made)))
    (n__law_instruction : PySem.W.nsIn K mainGlobals "_law_instruction" = some (some (.ref a__law_instruction)))
    (n__law_expected : PySem.W.nsIn K mainGlobals "_law_expected" = some (some (.ref a__law_expected)))
    (n__law_fields : PySem.W.nsIn K mainGlobals "_law_fields" = some (some (.ref a__law_fields)))
    (n_law : PySem.W.nsIn K mainGlobals "law" = some (some (.ref a_law)))
    (nc_Costs : PySem.W.nsIn K mainGlobals "Costs" = some (some (.ref C_Costs)))
    (nc_PlanError : PySem.W.nsIn K mainGlobals "PlanError" = some (some (.ref C_PlanError)))
    (nc_DeadbeatError : PySem.W.nsIn K mainGlobals "DeadbeatError" = some (some (.ref C_DeadbeatError)))
    (l_decimal : K.lookup a_decimal = some ⟨oc_decimal, od_decimal, .func (PySem.W.fnOf "decimal" "decimal" (defArgs s_decimal) (defBody s_decimal) (defScope s_decimal) .none kV_decimal dc_decimal pm_decimal an_decimal cd_decimal ct_decimal), sl_decimal⟩)
    (c_decimal : PySem.W.codeIn K cd_decimal "decimal" = true)
    (k_decimal : PySem.W.keepIn K (.ref a_decimal) = true)
    (l__law_start : K.lookup a__law_start = some ⟨oc__law_start, od__law_start, .func (PySem.W.fnOf "_law_start" "_law_start" (defArgs s__law_start) (defBody s__law_start) (defScope s__law_start) .none kV__law_start dc__law_start pm__law_start an__law_start cd__law_start ct__law_start), sl__law_start⟩)
    (c__law_start : PySem.W.codeIn K cd__law_start "_law_start" = true)
    (k__law_start : PySem.W.keepIn K (.ref a__law_start) = true)
    (l__law_draw : K.lookup a__law_draw = some ⟨oc__law_draw, od__law_draw, .func (PySem.W.fnOf "_law_draw" "_law_draw" (defArgs s__law_draw) (defBody s__law_draw) (defScope s__law_draw) .none kV__law_draw dc__law_draw pm__law_draw an__law_draw cd__law_draw ct__law_draw), sl__law_draw⟩)
    (c__law_draw : PySem.W.codeIn K cd__law_draw "_law_draw" = true)
    (k__law_draw : PySem.W.keepIn K (.ref a__law_draw) = true)
    (fi_Costs_init : PySem.W.findIn K (.ref C_Costs) "__init__" = some (some (.ref a_Costs_init)))
    (fn_Costs_init : PySem.W.isFn K (.ref a_Costs_init) = true)
    (l_Costs_init : K.lookup a_Costs_init = some ⟨oc_Costs_init, od_Costs_init, .func (PySem.W.fnOf "__init__" "Costs.__init__" (defArgs s_Costs_init) (defBody s_Costs_init) (defScope s_Costs_init) .none (.ref kD_Costs_init) dc_Costs_init pm_Costs_init an_Costs_init cd_Costs_init ct_Costs_init), sl_Costs_init⟩)
    (kw_Costs_init_fetch_hit : PySem.W.nsIn K kD_Costs_init "fetch_hit" = some (some (.int (1) kt_Costs_init_fetch_hit)))
    (kw_Costs_init_fetch_miss : PySem.W.nsIn K kD_Costs_init "fetch_miss" = some (some (.int (11) kt_Costs_init_fetch_miss)))
    (kw_Costs_init_plain : PySem.W.nsIn K kD_Costs_init "plain" = some (some (.int (1) kt_Costs_init_plain)))
    (kw_Costs_init_mul : PySem.W.nsIn K kD_Costs_init "mul" = some (some (.int (3) kt_Costs_init_mul)))
    (kw_Costs_init_div : PySem.W.nsIn K kD_Costs_init "div" = some (some (.int (8) kt_Costs_init_div)))
    (kw_Costs_init_load_hit : PySem.W.nsIn K kD_Costs_init "load_hit" = some (some (.int (1) kt_Costs_init_load_hit)))
    (kw_Costs_init_load_miss : PySem.W.nsIn K kD_Costs_init "load_miss" = some (some (.int (11) kt_Costs_init_load_miss)))
    (kw_Costs_init_store : PySem.W.nsIn K kD_Costs_init "store" = some (some (.int (4) kt_Costs_init_store)))
    (kw_Costs_init_taken : PySem.W.nsIn K kD_Costs_init "taken" = some (some (.int (1) kt_Costs_init_taken)))
    (kw_Costs_init_count : PySem.W.nsIn K kD_Costs_init "count" = some (some (.int (2) kt_Costs_init_count)))
    (kw_Costs_init_port : PySem.W.nsIn K kD_Costs_init "port" = some (some (.int (4) kt_Costs_init_port)))
    (kw_Costs_init_release : PySem.W.nsIn K kD_Costs_init "release" = some (some (.int (6) kt_Costs_init_release)))
    (kw_Costs_init_switch : PySem.W.nsIn K kD_Costs_init "switch" = some (some (.int (12) kt_Costs_init_switch)))
    (kw_Costs_init_enter : PySem.W.nsIn K kD_Costs_init "enter" = some (some (.int (5) kt_Costs_init_enter)))
    (kw_Costs_init_leave : PySem.W.nsIn K kD_Costs_init "leave" = some (some (.int (5) kt_Costs_init_leave)))
    (kw_Costs_init_finish : PySem.W.nsIn K kD_Costs_init "finish" = some (some (.int (8) kt_Costs_init_finish)))
    (c_Costs_init : PySem.W.codeIn K cd_Costs_init "Costs.__init__" = true)
    (k_Costs_init : PySem.W.keepIn K (.ref a_Costs_init) = true)
    (l__check_costs : K.lookup a__check_costs = some ⟨oc__check_costs, od__check_costs, .func (PySem.W.fnOf "_check_costs" "_check_costs" (defArgs s__check_costs) (defBody s__check_costs) (defScope s__check_costs) .none kV__check_costs dc__check_costs pm__check_costs an__check_costs cd__check_costs ct__check_costs), sl__check_costs⟩)
    (c__check_costs : PySem.W.codeIn K cd__check_costs "_check_costs" = true)
    (k__check_costs : PySem.W.keepIn K (.ref a__check_costs) = true)
    (l__check_miss : K.lookup a__check_miss = some ⟨oc__check_miss, od__check_miss, .func (PySem.W.fnOf "_check_miss" "_check_miss" (defArgs s__check_miss) (defBody s__check_miss) (defScope s__check_miss) .none kV__check_miss dc__check_miss pm__check_miss an__check_miss cd__check_miss ct__check_miss), sl__check_miss⟩)
    (c__check_miss : PySem.W.codeIn K cd__check_miss "_check_miss" = true)
    (k__check_miss : PySem.W.keepIn K (.ref a__check_miss) = true)
    (l_instruction_cost : K.lookup a_instruction_cost = some ⟨oc_instruction_cost, od_instruction_cost, .func (PySem.W.fnOf "instruction_cost" "instruction_cost" (defArgs s_instruction_cost) (defBody s_instruction_cost) (defScope s_instruction_cost) .none (.ref kD_instruction_cost) dc_instruction_cost pm_instruction_cost an_instruction_cost cd_instruction_cost ct_instruction_cost), sl_instruction_cost⟩)
    (kw_instruction_cost_load_hit : PySem.W.nsIn K kD_instruction_cost "load_hit" = some (some (.bool true)))
    (kw_instruction_cost_taken : PySem.W.nsIn K kD_instruction_cost "taken" = some (some (.bool false)))
    (c_instruction_cost : PySem.W.codeIn K cd_instruction_cost "instruction_cost" = true)
    (k_instruction_cost : PySem.W.keepIn K (.ref a_instruction_cost) = true)
    (l__execution_cost : K.lookup a__execution_cost = some ⟨oc__execution_cost, od__execution_cost, .func (PySem.W.fnOf "_execution_cost" "_execution_cost" (defArgs s__execution_cost) (defBody s__execution_cost) (defScope s__execution_cost) .none kV__execution_cost dc__execution_cost pm__execution_cost an__execution_cost cd__execution_cost ct__execution_cost), sl__execution_cost⟩)
    (c__execution_cost : PySem.W.codeIn K cd__execution_cost "_execution_cost" = true)
    (k__execution_cost : PySem.W.keepIn K (.ref a__execution_cost) = true)
    (l__calculation_cost : K.lookup a__calculation_cost = some ⟨oc__calculation_cost, od__calculation_cost, .func (PySem.W.fnOf "_calculation_cost" "_calculation_cost" (defArgs s__calculation_cost) (defBody s__calculation_cost) (defScope s__calculation_cost) .none kV__calculation_cost dc__calculation_cost pm__calculation_cost an__calculation_cost cd__calculation_cost ct__calculation_cost), sl__calculation_cost⟩)
    (c__calculation_cost : PySem.W.codeIn K cd__calculation_cost "_calculation_cost" = true)
    (k__calculation_cost : PySem.W.keepIn K (.ref a__calculation_cost) = true)
    (l__law_numbers : K.lookup a__law_numbers = some ⟨oc__law_numbers, od__law_numbers, .func (PySem.W.fnOf "_law_numbers" "_law_numbers" (defArgs s__law_numbers) (defBody s__law_numbers) (defScope s__law_numbers) .none kV__law_numbers dc__law_numbers pm__law_numbers an__law_numbers cd__law_numbers ct__law_numbers), sl__law_numbers⟩)
    (c__law_numbers : PySem.W.codeIn K cd__law_numbers "_law_numbers" = true)
    (k__law_numbers : PySem.W.keepIn K (.ref a__law_numbers) = true)
    (l__law_made : K.lookup a__law_made = some ⟨oc__law_made, od__law_made, .func (PySem.W.fnOf "_law_made" "_law_made" (defArgs s__law_made) (defBody s__law_made) (defScope s__law_made) .none kV__law_made dc__law_made pm__law_made an__law_made cd__law_made ct__law_made), sl__law_made⟩)
    (c__law_made : PySem.W.codeIn K cd__law_made "_law_made" = true)
    (k__law_made : PySem.W.keepIn K (.ref a__law_made) = true)
    (l__law_instruction : K.lookup a__law_instruction = some ⟨oc__law_instruction, od__law_instruction, .func (PySem.W.fnOf "_law_instruction" "_law_instruction" (defArgs s__law_instruction) (defBody s__law_instruction) (defScope s__law_instruction) .none kV__law_instruction dc__law_instruction pm__law_instruction an__law_instruction cd__law_instruction ct__law_instruction), sl__law_instruction⟩)
    (c__law_instruction : PySem.W.codeIn K cd__law_instruction "_law_instruction" = true)
    (k__law_instruction : PySem.W.keepIn K (.ref a__law_instruction) = true)
    (l__law_expected : K.lookup a__law_expected = some ⟨oc__law_expected, od__law_expected, .func (PySem.W.fnOf "_law_expected" "_law_expected" (defArgs s__law_expected) (defBody s__law_expected) (defScope s__law_expected) .none kV__law_expected dc__law_expected pm__law_expected an__law_expected cd__law_expected ct__law_expected), sl__law_expected⟩)
    (c__law_expected : PySem.W.codeIn K cd__law_expected "_law_expected" = true)
    (k__law_expected : PySem.W.keepIn K (.ref a__law_expected) = true)
    (l__law_fields : K.lookup a__law_fields = some ⟨oc__law_fields, od__law_fields, .func (PySem.W.fnOf "_law_fields" "_law_fields" (defArgs s__law_fields) (defBody s__law_fields) (defScope s__law_fields) .none kV__law_fields dc__law_fields pm__law_fields an__law_fields cd__law_fields ct__law_fields), sl__law_fields⟩)
    (c__law_fields : PySem.W.codeIn K cd__law_fields "_law_fields" = true)
    (k__law_fields : PySem.W.keepIn K (.ref a__law_fields) = true)
    (l_law : K.lookup a_law = some ⟨oc_law, od_law, .func (PySem.W.fnOf "law" "law" (defArgs s_law) (defBody s_law) (defScope s_law) .none kV_law dc_law pm_law an_law cd_law ct_law), sl_law⟩)
    (c_law : PySem.W.codeIn K cd_law "law" = true)
    (k_law : PySem.W.keepIn K (.ref a_law) = true)
    (kpg_Costs : PySem.W.plainGet K C_Costs Str.empty = true)
    (khd_Costs : PySem.W.hasDictIn K C_Costs = true)
    (kpo_Costs : PySem.W.plainOver K C_Costs = true)
    (ksa_Costs : PySem.W.findIn K (.ref C_Costs) "__setattr__" = some (some (.builtin "object.__setattr__")))
    (kmk_Costs : PySem.W.makesIn K C_Costs = true)
    (kkc_Costs : PySem.W.keepIn K (.ref C_Costs) = true)
    (ke_Costs : PySem.W.findIn K (.ref C_Costs) "__eq__" = some (some (.builtin "object.__eq__")))
    (ko_Costs : PySem.W.mroIn K C_Costs (.type "object") = some true)
    (ki_Costs : PySem.W.subIn K (.type "int") (.ref C_Costs) = some false)
    (kn_Costs_count : PySem.W.findIn K (.ref C_Costs) "count" = some none)
    (kn_Costs_div : PySem.W.findIn K (.ref C_Costs) "div" = some none)
    (kn_Costs_enter : PySem.W.findIn K (.ref C_Costs) "enter" = some none)
    (kn_Costs_fetch_hit : PySem.W.findIn K (.ref C_Costs) "fetch_hit" = some none)
    (kn_Costs_fetch_miss : PySem.W.findIn K (.ref C_Costs) "fetch_miss" = some none)
    (kn_Costs_finish : PySem.W.findIn K (.ref C_Costs) "finish" = some none)
    (kn_Costs_leave : PySem.W.findIn K (.ref C_Costs) "leave" = some none)
    (kn_Costs_load_hit : PySem.W.findIn K (.ref C_Costs) "load_hit" = some none)
    (kn_Costs_load_miss : PySem.W.findIn K (.ref C_Costs) "load_miss" = some none)
    (kn_Costs_mul : PySem.W.findIn K (.ref C_Costs) "mul" = some none)
    (kn_Costs_plain : PySem.W.findIn K (.ref C_Costs) "plain" = some none)
    (kn_Costs_port : PySem.W.findIn K (.ref C_Costs) "port" = some none)
    (kn_Costs_release : PySem.W.findIn K (.ref C_Costs) "release" = some none)
    (kn_Costs_store : PySem.W.findIn K (.ref C_Costs) "store" = some none)
    (kn_Costs_switch : PySem.W.findIn K (.ref C_Costs) "switch" = some none)
    (kn_Costs_taken : PySem.W.findIn K (.ref C_Costs) "taken" = some none)
    (zs_super : PySem.W.nsIn K mainGlobals "super" = some none)
    (zt_third : PySem.W.nsIn K PySem.cStatics "thirdparty.any" = some none)
    (zq_top : (List.lookup (PySem.Str.ofString "super") P.main.scope.names).isSome = false)
    (xl_PlanError : K.lookup C_PlanError = some (excClassObj nm_PlanError q_PlanError C_PlanError N_PlanError bs_PlanError bm_PlanError true sn_PlanError sub_PlanError ab_PlanError col_PlanError dd_PlanError m0_PlanError m1_PlanError m2_PlanError m3_PlanError m5_PlanError "ValueError.__new__"))
    (xb_PlanError : PySem.HandSPX.refsVE bm_PlanError = true)
    (xi_PlanError : PySem.W.excInitIn K C_PlanError PySem.HandSPX.veTail "ValueError.__new__" = true)
    (xs_PlanError : PySem.W.ks_superIn K C_PlanError C_PlanError "__init__" = some (some (.builtin "ValueError.__init__")))
    (xv_PlanError : PySem.W.subIn K (.ref C_PlanError) (.type "ValueError") = some true)
    (xm_PlanError : PySem.W.mroIn K C_PlanError (.ref C_PlanError) = some true)
    (xo_PlanError : PySem.W.mroIn K C_PlanError (.type "object") = some true)
    (xa_PlanError : PySem.W.findIn K (.ref C_PlanError) "__setattr__" = some (some (.builtin "object.__setattr__")))
    (xg_PlanError : PySem.W.findIn K (.ref C_PlanError) "__getattribute__" = some (some (.builtin "BaseException.__getattribute__")))
    (xh_PlanError : PySem.W.findIn K (.ref C_PlanError) "__getattr__" = some none)
    (xn_PlanError : PySem.W.findIn K (.ref C_PlanError) "at" = some none)
    (xc_PlanError : PySem.W.findIn K (.ref C_PlanError) "__class__" = some (some (.builtin "object.__class__")))
    (xf_PlanError : PySem.W.findIn K (.ref C_PlanError) "__init__" = some (some (.ref f_PlanError)))
    (xt_PlanError : PySem.W.typeIn K (.ref f_PlanError) = some (.type "function"))
    (xk_PlanError : PySem.W.keepIn K (.ref C_PlanError) = true)
    (xe_PlanError : PySem.W.subIn K (.ref C_PlanError) (.type "BaseException") = some true)
    (xy_PlanError : PySem.W.typeIn K (.ref C_PlanError) = some (.type "type"))
    (xd_PlanError : PySem.W.hasDictIn K C_PlanError = true)
    (xu_PlanError : PySem.W.isClsIn K C_PlanError = true)
    (xw_PlanError : PySem.W.subIn K (.ref C_PlanError) (.ref C_PlanError) = some true)
    (xp_PlanError : PySem.W.specialIn K (.builtin "object.__class__") "__get__" = some (some (.builtin "getset_descriptor.__get__")))
    (xq_PlanError : PySem.W.takesIn K (.builtin "object.__class__") = some true)
    (l_PlanError : K.lookup f_PlanError = some ⟨oc_PlanError, od_PlanError, .func (PySem.W.ksFn "__init__" "PlanError.__init__" (PySem.Errs.eA "at" ⟨19, 17, 19, 21⟩ ⟨19, 23, 19, 25⟩) (PySem.Errs.eB "at" parts_PlanError ⟨20, 25, 20, 47⟩ ⟨20, 8, 20, 13⟩ ⟨20, 8, 20, 15⟩ ⟨20, 8, 20, 24⟩ ⟨20, 8, 20, 48⟩ ⟨20, 8, 20, 48⟩ ⟨21, 8, 21, 12⟩ ⟨21, 8, 21, 15⟩ ⟨21, 18, 21, 20⟩ ⟨21, 8, 21, 20⟩) (PySem.Errs.eS "at" [("decimal", .globalImplicit)]) .none .none dc_PlanError pm_PlanError an_PlanError (.ref cda_PlanError) ct_PlanError cc_PlanError), osl_PlanError⟩)
    (d_PlanError : K.lookup cda_PlanError = some ⟨ccl_PlanError, cdd_PlanError, .fields vs_PlanError, ccs_PlanError⟩)
    (e_PlanError : vs_PlanError[1]? = some (.str "PlanError.__init__" tq_PlanError))
    (g_PlanError : vs_PlanError[2]? = some (.str file_PlanError tf_PlanError))
    (h_PlanError : (P.main.file == file_PlanError) = true)
    (i_PlanError : K.lookup cc_PlanError = some ⟨cl_PlanError, cld_PlanError, .cell (some (.ref C_PlanError)), csl_PlanError⟩)
    (kt_PlanError_DeadbeatError : PySem.W.kitOne K (.ref C_PlanError) (.ref C_DeadbeatError) = some true)
    (z_str : PySem.W.nsIn K mainGlobals "str" = some none)
    (z_divmod : PySem.W.nsIn K mainGlobals "divmod" = some none)
    (z_abs : PySem.W.nsIn K mainGlobals "abs" = some none)
    (z_list : PySem.W.nsIn K mainGlobals "list" = some none)
    (z_int : PySem.W.nsIn K mainGlobals "int" = some none)
    (z_len : PySem.W.nsIn K mainGlobals "len" = some none)
    (z_min : PySem.W.nsIn K mainGlobals "min" = some none)
    (z_range : PySem.W.nsIn K mainGlobals "range" = some none)
    (z_isinstance : PySem.W.nsIn K mainGlobals "isinstance" = some none)
    (z_bool : PySem.W.nsIn K mainGlobals "bool" = some none)
    (v_PIECE : PySem.W.nsIn K mainGlobals "PIECE" = some (some (.int 1000000000000000000 t_PIECE)))
    (v_PIECE_DIGITS : PySem.W.nsIn K mainGlobals "PIECE_DIGITS" = some (some (.int 18 t_PIECE_DIGITS)))
    (v_GREATEST_COST : PySem.W.nsIn K mainGlobals "GREATEST_COST" = some (some (.int 64 t_GREATEST_COST)))
    (v_TAKEN_AT_TIMES : PySem.W.nsIn K mainGlobals "TAKEN_AT_TIMES" = some (some (.ref p_TAKEN_AT_TIMES)))
    (w_TAKEN_AT_TIMES : K.lookup p_TAKEN_AT_TIMES = some ⟨.type "tuple", none, .seq us_TAKEN_AT_TIMES n_TAKEN_AT_TIMES, sl_TAKEN_AT_TIMES⟩)
    (y_TAKEN_AT_TIMES : Vals [.str "jzero", .str "again"] us_TAKEN_AT_TIMES.toList)
    (v_ALWAYS_TAKEN : PySem.W.nsIn K mainGlobals "ALWAYS_TAKEN" = some (some (.ref p_ALWAYS_TAKEN)))
    (w_ALWAYS_TAKEN : K.lookup p_ALWAYS_TAKEN = some ⟨.type "tuple", none, .seq us_ALWAYS_TAKEN n_ALWAYS_TAKEN, sl_ALWAYS_TAKEN⟩)
    (y_ALWAYS_TAKEN : Vals [.str "jump", .str "link", .str "back"] us_ALWAYS_TAKEN.toList) :
    Top P K mg :=
  { a_decimal := a_decimal,
    d_decimal := _,
    F_decimal := fun_mk (st := s_decimal) l_decimal c_decimal k_decimal,
    g_decimal := PySem.W.mg_of X G n_decimal,
    b_decimal := (fun_mk (st := s_decimal) l_decimal c_decimal k_decimal).binds (ps := ["n"]) fun _ _ _ _ _ _ us hl => match us, hl with | [_], _ => rfl,
    a__law_start := a__law_start,
    d__law_start := _,
    F__law_start := fun_mk (st := s__law_start) l__law_start c__law_start k__law_start,
    g__law_start := PySem.W.mg_of X G n__law_start,
    b__law_start := (fun_mk (st := s__law_start) l__law_start c__law_start k__law_start).binds (ps := ["script"]) fun _ _ _ _ _ _ us hl => match us, hl with | [_], _ => rfl,
    a__law_draw := a__law_draw,
    d__law_draw := _,
    F__law_draw := fun_mk (st := s__law_draw) l__law_draw c__law_draw k__law_draw,
    g__law_draw := PySem.W.mg_of X G n__law_draw,
    b__law_draw := (fun_mk (st := s__law_draw) l__law_draw c__law_draw k__law_draw).binds (ps := ["state", "many"]) fun _ _ _ _ _ _ us hl => match us, hl with | [_, _], _ => rfl,
    a_Costs_init := a_Costs_init,
    d_Costs_init := _,
    F_Costs_init := ⟨⟨_, _, _, _, _, _, _, _, _, _, rfl, l_Costs_init, c_Costs_init, .inl ⟨rfl, rfl⟩, .inr ⟨_, rfl, List.forall_mem_cons.mpr ⟨⟨_, kw_Costs_init_fetch_hit, ⟨_, rfl⟩⟩, List.forall_mem_cons.mpr ⟨⟨_, kw_Costs_init_fetch_miss, ⟨_, rfl⟩⟩, List.forall_mem_cons.mpr ⟨⟨_, kw_Costs_init_plain, ⟨_, rfl⟩⟩, List.forall_mem_cons.mpr ⟨⟨_, kw_Costs_init_mul, ⟨_, rfl⟩⟩, List.forall_mem_cons.mpr ⟨⟨_, kw_Costs_init_div, ⟨_, rfl⟩⟩, List.forall_mem_cons.mpr ⟨⟨_, kw_Costs_init_load_hit, ⟨_, rfl⟩⟩, List.forall_mem_cons.mpr ⟨⟨_, kw_Costs_init_load_miss, ⟨_, rfl⟩⟩, List.forall_mem_cons.mpr ⟨⟨_, kw_Costs_init_store, ⟨_, rfl⟩⟩, List.forall_mem_cons.mpr ⟨⟨_, kw_Costs_init_taken, ⟨_, rfl⟩⟩, List.forall_mem_cons.mpr ⟨⟨_, kw_Costs_init_count, ⟨_, rfl⟩⟩, List.forall_mem_cons.mpr ⟨⟨_, kw_Costs_init_port, ⟨_, rfl⟩⟩, List.forall_mem_cons.mpr ⟨⟨_, kw_Costs_init_release, ⟨_, rfl⟩⟩, List.forall_mem_cons.mpr ⟨⟨_, kw_Costs_init_switch, ⟨_, rfl⟩⟩, List.forall_mem_cons.mpr ⟨⟨_, kw_Costs_init_enter, ⟨_, rfl⟩⟩, List.forall_mem_cons.mpr ⟨⟨_, kw_Costs_init_leave, ⟨_, rfl⟩⟩, List.forall_mem_cons.mpr ⟨⟨_, kw_Costs_init_finish, ⟨_, rfl⟩⟩, fun _ h => nomatch h⟩⟩⟩⟩⟩⟩⟩⟩⟩⟩⟩⟩⟩⟩⟩⟩⟩⟩, k_Costs_init⟩,
    M_Costs := ⟨kmk_Costs, fi_Costs_init, fn_Costs_init, kkc_Costs⟩,
    a__check_costs := a__check_costs,
    d__check_costs := _,
    F__check_costs := fun_mk (st := s__check_costs) l__check_costs c__check_costs k__check_costs,
    g__check_costs := PySem.W.mg_of X G n__check_costs,
    b__check_costs := (fun_mk (st := s__check_costs) l__check_costs c__check_costs k__check_costs).binds (ps := ["costs", "least"]) fun _ _ _ _ _ _ us hl => match us, hl with | [_, _], _ => rfl,
    a__check_miss := a__check_miss,
    d__check_miss := _,
    F__check_miss := fun_mk (st := s__check_miss) l__check_miss c__check_miss k__check_miss,
    g__check_miss := PySem.W.mg_of X G n__check_miss,
    b__check_miss := (fun_mk (st := s__check_miss) l__check_miss c__check_miss k__check_miss).binds (ps := ["hit", "miss"]) fun _ _ _ _ _ _ us hl => match us, hl with | [_, _], _ => rfl,
    a_instruction_cost := a_instruction_cost,
    d_instruction_cost := _,
    F_instruction_cost := ⟨⟨_, _, _, _, _, _, _, _, _, _, rfl, l_instruction_cost, c_instruction_cost, .inl ⟨rfl, rfl⟩, .inr ⟨_, rfl, List.forall_mem_cons.mpr ⟨⟨_, kw_instruction_cost_load_hit, rfl⟩, List.forall_mem_cons.mpr ⟨⟨_, kw_instruction_cost_taken, rfl⟩, fun _ h => nomatch h⟩⟩⟩⟩, k_instruction_cost⟩,
    g_instruction_cost := PySem.W.mg_of X G n_instruction_cost,
    a__execution_cost := a__execution_cost,
    d__execution_cost := _,
    F__execution_cost := fun_mk (st := s__execution_cost) l__execution_cost c__execution_cost k__execution_cost,
    g__execution_cost := PySem.W.mg_of X G n__execution_cost,
    b__execution_cost := (fun_mk (st := s__execution_cost) l__execution_cost c__execution_cost k__execution_cost).binds (ps := ["costs", "instruction", "load_hit"]) fun _ _ _ _ _ _ us hl => match us, hl with | [_, _, _], _ => rfl,
    a__calculation_cost := a__calculation_cost,
    d__calculation_cost := _,
    F__calculation_cost := fun_mk (st := s__calculation_cost) l__calculation_cost c__calculation_cost k__calculation_cost,
    g__calculation_cost := PySem.W.mg_of X G n__calculation_cost,
    b__calculation_cost := (fun_mk (st := s__calculation_cost) l__calculation_cost c__calculation_cost k__calculation_cost).binds (ps := ["costs", "operation"]) fun _ _ _ _ _ _ us hl => match us, hl with | [_, _], _ => rfl,
    a__law_numbers := a__law_numbers,
    d__law_numbers := _,
    F__law_numbers := fun_mk (st := s__law_numbers) l__law_numbers c__law_numbers k__law_numbers,
    g__law_numbers := PySem.W.mg_of X G n__law_numbers,
    b__law_numbers := (fun_mk (st := s__law_numbers) l__law_numbers c__law_numbers k__law_numbers).binds (ps := ["state"]) fun _ _ _ _ _ _ us hl => match us, hl with | [_], _ => rfl,
    a__law_made := a__law_made,
    d__law_made := _,
    F__law_made := fun_mk (st := s__law_made) l__law_made c__law_made k__law_made,
    g__law_made := PySem.W.mg_of X G n__law_made,
    b__law_made := (fun_mk (st := s__law_made) l__law_made c__law_made k__law_made).binds (ps := ["n"]) fun _ _ _ _ _ _ us hl => match us, hl with | [_], _ => rfl,
    a__law_instruction := a__law_instruction,
    d__law_instruction := _,
    F__law_instruction := fun_mk (st := s__law_instruction) l__law_instruction c__law_instruction k__law_instruction,
    g__law_instruction := PySem.W.mg_of X G n__law_instruction,
    b__law_instruction := (fun_mk (st := s__law_instruction) l__law_instruction c__law_instruction k__law_instruction).binds (ps := ["state"]) fun _ _ _ _ _ _ us hl => match us, hl with | [_], _ => rfl,
    a__law_expected := a__law_expected,
    d__law_expected := _,
    F__law_expected := fun_mk (st := s__law_expected) l__law_expected c__law_expected k__law_expected,
    g__law_expected := PySem.W.mg_of X G n__law_expected,
    b__law_expected := (fun_mk (st := s__law_expected) l__law_expected c__law_expected k__law_expected).binds (ps := ["n", "instruction", "fetch_hit", "load_hit", "taken"]) fun _ _ _ _ _ _ us hl => match us, hl with | [_, _, _, _, _], _ => rfl,
    a__law_fields := a__law_fields,
    d__law_fields := _,
    F__law_fields := fun_mk (st := s__law_fields) l__law_fields c__law_fields k__law_fields,
    g__law_fields := PySem.W.mg_of X G n__law_fields,
    b__law_fields := (fun_mk (st := s__law_fields) l__law_fields c__law_fields k__law_fields).binds (ps := ["costs", "n"]) fun _ _ _ _ _ _ us hl => match us, hl with | [_, _], _ => rfl,
    a_law := a_law,
    d_law := _,
    F_law := fun_mk (st := s_law) l_law c_law k_law,
    g_law := PySem.W.mg_of X G n_law,
    b_law := (fun_mk (st := s_law) l_law c_law k_law).binds (ps := ["script"]) fun _ _ _ _ _ _ us hl => match us, hl with | [_], _ => rfl,
    C_Costs := C_Costs,
    gc_Costs := PySem.W.mg_of X G nc_Costs,
    eq_Costs := ⟨ke_Costs, ko_Costs, ki_Costs⟩,
    cl_Costs := ⟨kpg_Costs, khd_Costs, kpo_Costs, ksa_Costs⟩,
    n_Costs_count := kn_Costs_count,
    n_Costs_div := kn_Costs_div,
    n_Costs_enter := kn_Costs_enter,
    n_Costs_fetch_hit := kn_Costs_fetch_hit,
    n_Costs_fetch_miss := kn_Costs_fetch_miss,
    n_Costs_finish := kn_Costs_finish,
    n_Costs_leave := kn_Costs_leave,
    n_Costs_load_hit := kn_Costs_load_hit,
    n_Costs_load_miss := kn_Costs_load_miss,
    n_Costs_mul := kn_Costs_mul,
    n_Costs_plain := kn_Costs_plain,
    n_Costs_port := kn_Costs_port,
    n_Costs_release := kn_Costs_release,
    n_Costs_store := kn_Costs_store,
    n_Costs_switch := kn_Costs_switch,
    n_Costs_taken := kn_Costs_taken,
    C_PlanError := C_PlanError,
    gc_PlanError := PySem.W.mg_of X G nc_PlanError,
    C_DeadbeatError := C_DeadbeatError,
    gc_DeadbeatError := PySem.W.mg_of X G nc_DeadbeatError,
    f_PlanError := f_PlanError,
    x_PlanError := { gC := PySem.W.mg_of X G nc_PlanError, noSuper := PySem.W.mg_none_of X G zs_super, noTop := zq_top, cls := ⟨_, _, _, _, _, _, _, _, _, _, _, _, _, _, _, xl_PlanError, xb_PlanError⟩, ini := xi_PlanError, sup := xs_PlanError, subV := xv_PlanError, mroS := xm_PlanError, third := zt_third, sa := xa_PlanError, ga := xg_PlanError, gg := xh_PlanError, noN := xn_PlanError, iC := xf_PlanError, tC := xt_PlanError, kC := xk_PlanError, exC := xe_PlanError, tyC := xy_PlanError, hdC := xd_PlanError, te := exm_own xe_PlanError xu_PlanError xy_PlanError xw_PlanError, fn := ⟨_, _, _, _, _, _, _, _, _, _, _, _, _, _, _, _, _, _, _, _, _, _, _, _, _, _, _, _, _, _, _, fun _ => ⟨_, rfl⟩, l_PlanError, d_PlanError, e_PlanError, g_PlanError, h_PlanError, i_PlanError⟩ },
    xd_PlanError := ⟨xu_PlanError, xg_PlanError, xh_PlanError, xe_PlanError, xc_PlanError, xp_PlanError, xq_PlanError, xo_PlanError⟩,
    xf_PlanError := ⟨xg_PlanError, xh_PlanError, xe_PlanError, xd_PlanError⟩,
    kt_PlanError_DeadbeatError := kt_PlanError_DeadbeatError,
    m_str := PySem.W.mg_none_of X G z_str,
    m_divmod := PySem.W.mg_none_of X G z_divmod,
    m_abs := PySem.W.mg_none_of X G z_abs,
    m_list := PySem.W.mg_none_of X G z_list,
    m_int := PySem.W.mg_none_of X G z_int,
    m_len := PySem.W.mg_none_of X G z_len,
    m_min := PySem.W.mg_none_of X G z_min,
    m_range := PySem.W.mg_none_of X G z_range,
    m_isinstance := PySem.W.mg_none_of X G z_isinstance,
    m_bool := PySem.W.mg_none_of X G z_bool,
    t_PIECE := t_PIECE,
    c_PIECE := PySem.W.mg_of X G v_PIECE,
    t_PIECE_DIGITS := t_PIECE_DIGITS,
    c_PIECE_DIGITS := PySem.W.mg_of X G v_PIECE_DIGITS,
    t_GREATEST_COST := t_GREATEST_COST,
    c_GREATEST_COST := PySem.W.mg_of X G v_GREATEST_COST,
    p_TAKEN_AT_TIMES := p_TAKEN_AT_TIMES,
    c_TAKEN_AT_TIMES := PySem.W.mg_of X G v_TAKEN_AT_TIMES,
    l_TAKEN_AT_TIMES := ⟨_, w_TAKEN_AT_TIMES, rfl, rfl⟩,
    q_TAKEN_AT_TIMES := fun H => sqT_lit w_TAKEN_AT_TIMES y_TAKEN_AT_TIMES,
    p_ALWAYS_TAKEN := p_ALWAYS_TAKEN,
    c_ALWAYS_TAKEN := PySem.W.mg_of X G v_ALWAYS_TAKEN,
    l_ALWAYS_TAKEN := ⟨_, w_ALWAYS_TAKEN, rfl, rfl⟩,
    q_ALWAYS_TAKEN := fun H => sqT_lit w_ALWAYS_TAKEN y_ALWAYS_TAKEN }
theorem all_mk {l : PySem.W.OpenLaw} {w : World} {K : PySem.W.Frag} {mg : Str → Option Value} {fa : Addr} (T : Top l.prog K mg) (hfa : mg "law" = some (.ref fa)) :
    ∃ fd : FuncData, (∀ (s : Shared) (v : Value), BindsTo s fd ⟨[v], []⟩ [("script", v)]) ∧ ∀ base : Heap, K.In base → base.Ns mainGlobals mg → FnOk l.prog w K mg base CX0 8 fa fd ["script"] (sp_law K) := by
  have e := hfa.symm.trans T.g_law
  cases e
  refine ⟨T.d_law, fun s v => ?_, fun base _ _ => ok_law T⟩
  obtain ⟨oc, od, kV, doc, pm, an, cdv, ct, osl, e, lk, hcd⟩ := T.F_law.ex
  rw [e]
  exact .of_eq rfl
end Mine
open PySem PySem.W PyProof.Rows
set_option maxHeartbeats 0 in
theorem PySem.Challenge.cw_deadbeat_k21_costs_of_instructions_holds : PySem.Challenge.rw_deadbeat_k21_costs_of_instructions.Holds := by
  w_on; o_law; k_head; (case hw => w_witness2)
  k_fill
  refine L2.walk_of (l := PySem.Challenge.rw_deadbeat_k21_costs_of_instructions) (n := 63) (k := 8) (x := "script") (CX := fun _ => L2.CX0) (sp := fun w => Mine.sp_law _) rfl (by decide) rfl ⟨rfl, by decide, by decide⟩ (fun w h Y => PySem.W.kIn_of Y) ?F (fun _ _ a ns hl _ hS => ⟨a, ns, rfl, hS, hl, fun _ => rfl⟩) (fun _ _ _ _ _ h => h)
  case F =>
    intro w mg fa h KX G hmg
    refine' Mine.all_mk (Mine.top_mk (P := PySem.Challenge.rw_deadbeat_k21_costs_of_instructions.prog) (w := w) KX G ?n_decimal ?n__law_start ?n__law_draw ?n__check_costs ?n__check_miss ?n_instruction_cost ?n__execution_cost ?n__calculation_cost ?n__law_numbers ?n__law_made ?n__law_instruction ?n__law_expected ?n__law_fields ?n_law ?nc_Costs ?nc_PlanError ?nc_DeadbeatError ?l_decimal ?c_decimal ?k_decimal ?l__law_start ?c__law_start ?k__law_start ?l__law_draw ?c__law_draw ?k__law_draw ?fi_Costs_init ?fn_Costs_init ?l_Costs_init ?kw_Costs_init_fetch_hit ?kw_Costs_init_fetch_miss ?kw_Costs_init_plain ?kw_Costs_init_mul ?kw_Costs_init_div ?kw_Costs_init_load_hit ?kw_Costs_init_load_miss ?kw_Costs_init_store ?kw_Costs_init_taken ?kw_Costs_init_count ?kw_Costs_init_port ?kw_Costs_init_release ?kw_Costs_init_switch ?kw_Costs_init_enter ?kw_Costs_init_leave ?kw_Costs_init_finish ?c_Costs_init ?k_Costs_init ?l__check_costs ?c__check_costs ?k__check_costs ?l__check_miss ?c__check_miss ?k__check_miss ?l_instruction_cost ?kw_instruction_cost_load_hit ?kw_instruction_cost_taken ?c_instruction_cost ?k_instruction_cost ?l__execution_cost ?c__execution_cost ?k__execution_cost ?l__calculation_cost ?c__calculation_cost ?k__calculation_cost ?l__law_numbers ?c__law_numbers ?k__law_numbers ?l__law_made ?c__law_made ?k__law_made ?l__law_instruction ?c__law_instruction ?k__law_instruction ?l__law_expected ?c__law_expected ?k__law_expected ?l__law_fields ?c__law_fields ?k__law_fields ?l_law ?c_law ?k_law ?kpg_Costs ?khd_Costs ?kpo_Costs ?ksa_Costs ?kmk_Costs ?kkc_Costs ?ke_Costs ?ko_Costs ?ki_Costs ?kn_Costs_count ?kn_Costs_div ?kn_Costs_enter ?kn_Costs_fetch_hit ?kn_Costs_fetch_miss ?kn_Costs_finish ?kn_Costs_leave ?kn_Costs_load_hit ?kn_Costs_load_miss ?kn_Costs_mul ?kn_Costs_plain ?kn_Costs_port ?kn_Costs_release ?kn_Costs_store ?kn_Costs_switch ?kn_Costs_taken ?zs_super ?zt_third ?zq_top ?xl_PlanError ?xb_PlanError ?xi_PlanError ?xs_PlanError ?xv_PlanError ?xm_PlanError ?xo_PlanError ?xa_PlanError ?xg_PlanError ?xh_PlanError ?xn_PlanError ?xc_PlanError ?xf_PlanError ?xt_PlanError ?xk_PlanError ?xe_PlanError ?xy_PlanError ?xd_PlanError ?xu_PlanError ?xw_PlanError ?xp_PlanError ?xq_PlanError ?l_PlanError ?d_PlanError ?e_PlanError ?g_PlanError ?h_PlanError ?i_PlanError ?kt_PlanError_DeadbeatError ?z_str ?z_divmod ?z_abs ?z_list ?z_int ?z_len ?z_min ?z_range ?z_isinstance ?z_bool ?v_PIECE ?v_PIECE_DIGITS ?v_GREATEST_COST ?v_TAKEN_AT_TIMES ?w_TAKEN_AT_TIMES ?y_TAKEN_AT_TIMES ?v_ALWAYS_TAKEN ?w_ALWAYS_TAKEN ?y_ALWAYS_TAKEN) hmg
    (case n_decimal => k_is); (case n__law_start => k_is); (case n__law_draw => k_is); (case n__check_costs => k_is); (case n__check_miss => k_is); (case n_instruction_cost => k_is); (case n__execution_cost => k_is); (case n__calculation_cost => k_is); (case n__law_numbers => k_is); (case n__law_made => k_is); (case n__law_instruction => k_is); (case n__law_expected => k_is); (case n__law_fields => k_is); (case n_law => k_is); (case nc_Costs => k_is); (case nc_PlanError => k_is); (case nc_DeadbeatError => k_is); (case l_decimal => k_is); (case c_decimal => k_is); (case k_decimal => k_is); (case l__law_start => k_is); (case c__law_start => k_is); (case k__law_start => k_is); (case l__law_draw => k_is); (case c__law_draw => k_is); (case k__law_draw => k_is); (case fi_Costs_init => k_is); (case fn_Costs_init => k_is); (case l_Costs_init => k_is); (case kw_Costs_init_fetch_hit => k_is); (case kw_Costs_init_fetch_miss => k_is); (case kw_Costs_init_plain => k_is); (case kw_Costs_init_mul => k_is); (case kw_Costs_init_div => k_is); (case kw_Costs_init_load_hit => k_is); (case kw_Costs_init_load_miss => k_is); (case kw_Costs_init_store => k_is); (case kw_Costs_init_taken => k_is); (case kw_Costs_init_count => k_is); (case kw_Costs_init_port => k_is); (case kw_Costs_init_release => k_is); (case kw_Costs_init_switch => k_is); (case kw_Costs_init_enter => k_is); (case kw_Costs_init_leave => k_is); (case kw_Costs_init_finish => k_is); (case c_Costs_init => k_is); (case k_Costs_init => k_is); (case l__check_costs => k_is); (case c__check_costs => k_is); (case k__check_costs => k_is); (case l__check_miss => k_is); (case c__check_miss => k_is); (case k__check_miss => k_is); (case l_instruction_cost => k_is); (case kw_instruction_cost_load_hit => k_is); (case kw_instruction_cost_taken => k_is); (case c_instruction_cost => k_is); (case k_instruction_cost => k_is); (case l__execution_cost => k_is); (case c__execution_cost => k_is); (case k__execution_cost => k_is); (case l__calculation_cost => k_is); (case c__calculation_cost => k_is); (case k__calculation_cost => k_is); (case l__law_numbers => k_is); (case c__law_numbers => k_is); (case k__law_numbers => k_is); (case l__law_made => k_is); (case c__law_made => k_is); (case k__law_made => k_is); (case l__law_instruction => k_is); (case c__law_instruction => k_is); (case k__law_instruction => k_is); (case l__law_expected => k_is); (case c__law_expected => k_is); (case k__law_expected => k_is); (case l__law_fields => k_is); (case c__law_fields => k_is); (case k__law_fields => k_is); (case l_law => k_is); (case c_law => k_is); (case k_law => k_is); (case kpg_Costs => k_is); (case khd_Costs => k_is); (case kpo_Costs => k_is); (case ksa_Costs => k_is); (case kmk_Costs => k_is); (case kkc_Costs => k_is); (case ke_Costs => k_is); (case ko_Costs => k_is); (case ki_Costs => k_is); (case kn_Costs_count => k_is); (case kn_Costs_div => k_is); (case kn_Costs_enter => k_is); (case kn_Costs_fetch_hit => k_is); (case kn_Costs_fetch_miss => k_is); (case kn_Costs_finish => k_is); (case kn_Costs_leave => k_is); (case kn_Costs_load_hit => k_is); (case kn_Costs_load_miss => k_is); (case kn_Costs_mul => k_is); (case kn_Costs_plain => k_is); (case kn_Costs_port => k_is); (case kn_Costs_release => k_is); (case kn_Costs_store => k_is); (case kn_Costs_switch => k_is); (case kn_Costs_taken => k_is); (case zs_super => k_is); (case zt_third => k_is); (case zq_top => first | rfl | k_is | kx_is | ks_is | decide +kernel | kernel_rfl | with_unfolding_all rfl); (case xl_PlanError => k_is); (case xb_PlanError => first | rfl | k_is | kx_is | ks_is | decide +kernel | kernel_rfl | with_unfolding_all rfl); (case xi_PlanError => first | rfl | k_is | kx_is | ks_is | decide +kernel | kernel_rfl | with_unfolding_all rfl); (case xs_PlanError => first | rfl | k_is | kx_is | ks_is | decide +kernel | kernel_rfl | with_unfolding_all rfl); (case xv_PlanError => k_is); (case xm_PlanError => k_is); (case xo_PlanError => k_is); (case xa_PlanError => k_is); (case xg_PlanError => k_is); (case xh_PlanError => k_is); (case xn_PlanError => k_is); (case xc_PlanError => k_is); (case xf_PlanError => k_is); (case xt_PlanError => k_is); (case xk_PlanError => k_is); (case xe_PlanError => k_is); (case xy_PlanError => k_is); (case xd_PlanError => k_is); (case xu_PlanError => k_is); (case xw_PlanError => k_is); (case xp_PlanError => k_is); (case xq_PlanError => k_is); (case l_PlanError => k_is); (case d_PlanError => k_is); (case e_PlanError => first | rfl | k_is | kx_is | ks_is | decide +kernel | kernel_rfl | with_unfolding_all rfl); (case g_PlanError => first | rfl | k_is | kx_is | ks_is | decide +kernel | kernel_rfl | with_unfolding_all rfl); (case h_PlanError => first | rfl | k_is | kx_is | ks_is | decide +kernel | kernel_rfl | with_unfolding_all rfl); (case i_PlanError => k_is); (case kt_PlanError_DeadbeatError => first | rfl | k_is | kx_is | ks_is | decide +kernel | kernel_rfl | with_unfolding_all rfl); (case z_str => k_is); (case z_divmod => k_is); (case z_abs => k_is); (case z_list => k_is); (case z_int => k_is); (case z_len => k_is); (case z_min => k_is); (case z_range => k_is); (case z_isinstance => k_is); (case z_bool => k_is); (case v_PIECE => k_is); (case v_PIECE_DIGITS => k_is); (case v_GREATEST_COST => k_is); (case v_TAKEN_AT_TIMES => k_is); (case w_TAKEN_AT_TIMES => k_is); (case y_TAKEN_AT_TIMES => first | k_is | (repeat (first | exact .nil | refine .cons ⟨_, rfl⟩ ?_))); (case v_ALWAYS_TAKEN => k_is); (case w_ALWAYS_TAKEN => k_is); (case y_ALWAYS_TAKEN => first | k_is | (repeat (first | exact .nil | refine .cons ⟨_, rfl⟩ ?_)))
