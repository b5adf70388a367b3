import PyProof.Rows.All
import Wide.All
import OpenK.AllK
import Wide.FinOn
import PyProof.RulesMatch
import HandS.Base
import HandS.Call
import HandS.Words
import HandS.IsInst
import HandS.ForExc
import HandS.Zip
import HandS.Walk
import HandS.Strs
import KE.KExcSuper
import KE.KSuperObj
import KE.KSuper
import HandS.ForMost
import HandS.ExcInit
import HandS.ExcSuper
import HandS.ExcField
import HandS.ExcIs
import KE.KExcIs
import KE.KIsAll
import HandS.RaiseMore
import PyProof.InstEq
import HandS.TupSets
import PyProof.EqKinds
import PyProof.NeKinds
import HandS.Evl
import HandS.SortInts
import HandS.List
import HandS.DictComp
import HandS.More
import KE.KDictZip
import KE.KDictItemsList
import HandS.ListItems
import HandS.Style
import HandS.RevRange
import HandS.TupLe
import HandS.TryOnly
import PyProof.RulesMatchSeq
import PyProof.Rows.MatchSeqLen
import PyProof.Rows.TupIter
import HandS.Defaults
import HandS.MakeKwOnly
import HandS.SetFor
import PySem.Challenge.RW_deadbeat_k23_whole_steps_with_caches
import HandS.Wide
import HandS.WideBits
import HandS.EndBits
import HandS.StrMore
import HandS.IntHex
import HandS.ReSub
import HandS.Codes
import HandS.Conv
set_option Elab.async false
set_option linter.all false
set_option maxRecDepth 100000
namespace L2
open PySem PySem.Spec PyProof.Rows
/-- the cases of a match over texts: a written text or whatever is left, and what is done -/
def tCases (z : Str) : List (Option Str × TS) → TS
  | [] => fun D σ H => D.nx σ H
  | (none, t) :: _ => t
  | (some c, t) :: r => fun D σ H => if z = c then t D σ H else tCases z r D σ H
def tMatch (te : TE) (l : List (Option Str × TS)) : TS := fun D σ H => te σ H fun x H1 => ∃ z : Str, x = .str z ∧ tCases z l D σ H1
inductive PCs (X : Cx) : List MatchCase → List (Option Str × TS) → Prop
  | nil : PCs X [] []
  | rest {body : List Stmt} {t : TS} {p : Pos} {r : List MatchCase} : PSs X body t → PCs X (⟨.MatchAs none none p, none, body⟩ :: r) [(none, t)]
  | text {body : List Stmt} {t : TS} {c : Str} {j : Nat} {p p2 : Pos} {r : List MatchCase} {l : List (Option Str × TS)} : PSs X body t → PCs X r l →
      PCs X (⟨.MatchValue (.Constant (.str c) j p) p2, none, body⟩ :: r) ((some c, t) :: l)
theorem run_cases {X : Cx} {z : Str} {u : Value} (ru : RelV (.str z) u) : ∀ {cs : List MatchCase} {l : List (Option Str × TS)}, PCs X cs l → ∀ (first : Bool) (pins : List (Addr × Obj)) (s : Shared) (σ : St) (H : Hp) (D : Ends), Inv X pins σ H s → tCases z l D σ H →
    wpAny (model X.prog X.w) X.A (matchCases cs X.env u first) (SP X pins D) X.xe s
  | _, _, .nil, first, pins, s, σ, H, D, I, h => wpAny_matchCases_nil ⟨σ, H, I, h⟩
  | _, _, .rest hb, first, pins, s, σ, H, D, I, h => by
    refine wpAny_matchCases_cons (wpAny_matchPattern_Capture ?_)
    exact wpAny_assignInOrder_none (hb.run pins s σ H D I h)
  | _, _, .text (c := c) (l := l) hb hr, first, pins, s, σ, H, D, I, h => by
    refine wpAny_matchCases_cons (wpAny_matchPattern_Value ?_)
    refine thn ((pe_str (X := X) (x := c)).run pins s σ H (fun v H' => v = .str c ∧ H' = H) I ⟨rfl, rfl⟩) fun v s1 hh => ?_
    obtain ⟨x, H1, I1, rx, ex, eH⟩ := hh
    subst ex
    subst eH
    refine thn (op_eq pins s1 σ H1 (.str z) (.str c) u v (fun y H' => y = .bl (decide (V.str z = V.str c)) ∧ H' = H1) I1 ru rx ⟨rfl, rfl, rfl⟩) fun y s2 hh => ?_
    obtain ⟨x, H2, I2, rx2, ex, eH⟩ := hh
    subst ex
    subst eH
    cases rx2
    refine wpAny_truthy_bool ?_
    have h' : (if z = c then _ else _) := h
    by_cases e : z = c
    · rw [if_pos e] at h'
      rw [decide_eq_true (by rw [e])]
      exact wpAny_assignInOrder_none (hb.run pins s2 σ H2 D I2 h')
    · rw [if_neg e] at h'
      rw [decide_eq_false (fun q => e (by injection q))]
      exact run_cases ru hr false pins s2 σ H2 D I2 h'
theorem ps_match {X : Cx} {e : Expr} {te : TE} {cs : List MatchCase} {l : List (Option Str × TS)} {pos : Pos} (he : PE X e te) (hc : PCs X cs l) : PS X (.Match e cs pos) (tMatch te l) := by
  refine ⟨fun pins s σ H D I h => wpAny_Match ?_⟩
  refine thn (he.run pins s σ H _ I h) fun u s1 hh => ?_
  obtain ⟨x, H1, I1, rx, z, ez, hz⟩ := hh
  subst ez
  exact run_cases rx hc true pins s1 σ H1 D I1 hz
/-- a module's constant: an int, a text, an object -/
theorem pe_gi {X : Cx} {x : Str} {n : Int} {t : Tok} {pos : Pos} (hg : Gl X x) (hm : X.mg x = some (.int n t)) (hd : (x == ("__debug__" : Str)) = false := by decide) : PE X (.Name x pos) (tC (.int n)) := pe_glob hg hm ⟨_, rfl⟩ hd
theorem pe_gs {X : Cx} {x : Str} {z : Str} {t : Tok} {pos : Pos} (hg : Gl X x) (hm : X.mg x = some (.str z t)) (hd : (x == ("__debug__" : Str)) = false := by decide) : PE X (.Name x pos) (tC (.str z)) := pe_glob hg hm ⟨_, rfl⟩ hd
theorem pe_gr {X : Cx} {x : Str} {a : Addr} {pos : Pos} (hg : Gl X x) (hm : X.mg x = some (.ref a)) (hd : (x == ("__debug__" : Str)) = false := by decide) : PE X (.Name x pos) (tC (.ref a)) := pe_glob (v := .ref a) hg hm rfl hd
/-- a built-in type as a value -/
theorem pe_ty {X : Cx} {x : Str} {T : String} {pos : Pos} (hg : Gl X x) (hm : X.mg x = none) (hv : bootBuiltins x = some (.type T)) (hn : x ≠ "__name__" := by decide) (hd : (x == ("__debug__" : Str)) = false := by decide) : PE X (.Name x pos) (tC (.ty T)) :=
  ⟨fun _ s _ H _ I h => ld_blt I hg hm hv ⟨.ty T, H, I, rfl, h⟩ hn hd⟩
/-- isinstance of a plain value and a built-in type -/
theorem isi_int {K : PySem.W.Frag} {H : Hp} {Q : VK} {i : Int} (q : Q (.bl true) H) : rIsi K [.int i, .ty "int"] H Q := ⟨_, _, _, _, true, rfl, .ty _, .base (.int _), kit_ty (by decide +kernel), q⟩
theorem isi_int_bool {K : PySem.W.Frag} {H : Hp} {Q : VK} {i : Int} (q : Q (.bl false) H) : rIsi K [.int i, .ty "bool"] H Q := ⟨_, _, _, _, false, rfl, .ty _, .base (.int _), kit_ty (by decide +kernel), q⟩
theorem Same.none {H H' : Hp} (e : Same H H') {p : Addr} (h : H' p = Option.none) : H p = Option.none := Same.free e h
theorem same_new {H : Hp} {p : Addr} {o : HO} (h : H p = Option.none) : Same H (upd H p o) := fun b x e => by
  rw [upd_ne (ne_of_none e h)]
  exact e
theorem or_test {t u : TT} {σ : St} {H : Hp} {a b : Bool} {Q : Bool → Hp → Prop} (h1 : ∀ Q' : Bool → Hp → Prop, Q' a H → t σ H Q') (h2 : a = false → ∀ Q' : Bool → Hp → Prop, Q' b H → u σ H Q') (q : Q (a || b) H) : tOr t u σ H Q := by
  refine h1 _ ?_
  cases a with
  | true => exact iteT q
  | false => exact iteF (h2 rfl _ q)
theorem and_test {t u : TT} {σ : St} {H : Hp} {a b : Bool} {Q : Bool → Hp → Prop} (h1 : ∀ Q' : Bool → Hp → Prop, Q' a H → t σ H Q') (h2 : a = true → ∀ Q' : Bool → Hp → Prop, Q' b H → u σ H Q') (q : Q (a && b) H) : tAnd t u σ H Q := by
  refine h1 _ ?_
  cases a with
  | true => exact iteT (h2 rfl _ q)
  | false => exact iteF q
theorem if_or {t u : TT} {a b : Bool} {A B : TS} {D : Ends} {σ : St} {H : Hp} (h1 : ∀ Q' : Bool → Hp → Prop, Q' a H → t σ H Q') (h2 : a = false → ∀ Q' : Bool → Hp → Prop, Q' b H → u σ H Q') (q : if (a || b) = true then A D σ H else B D σ H) : tIfS (tOr t u) A B D σ H := or_test h1 h2 q
theorem if_and {t u : TT} {a b : Bool} {A B : TS} {D : Ends} {σ : St} {H : Hp} (h1 : ∀ Q' : Bool → Hp → Prop, Q' a H → t σ H Q') (h2 : a = true → ∀ Q' : Bool → Hp → Prop, Q' b H → u σ H Q') (q : if (a && b) = true then A D σ H else B D σ H) : tIfS (tAnd t u) A B D σ H := and_test h1 h2 q
theorem Same.off {H H1 : Hp} {D : Addr} {x : HO} (k : Same H H1) (n : H D = Option.none) : Same H (upd H1 D x) := fun b y e => by
  rw [upd_ne (ne_of_none e n)]
  exact k b y e
theorem Same.seqT {K : PySem.W.Frag} {H H' : Hp} {a : Addr} {xs : List V} (e : Same H H') (h : SqT K H a xs) : SqT K H' a xs := by
  rcases h with h | h
  · rcases h with h | ⟨o, h⟩
    · exact .inl (.inl (e _ _ h))
    · exact .inl (.inr ⟨o, e _ _ h⟩)
  · exact .inr h
/-- a def that may raise, called where it does not -/
theorem pass_no {X : Cx} : Passes (L2.CX X.prog X.w) X (fun _ _ _ => False) := fun _ _ _ _ _ _ _ c => by
  obtain ⟨_, _, _, _, _, _, _, _, _, _, _, _, z⟩ := c
  exact z.elim
def rListOf (K : PySem.W.Frag) : List V → Hp → VK → Prop := fun xs H Q => ∃ p ys, xs = [V.ref p] ∧ (SqL K H p ys ∨ SqT K H p ys) ∧ ∀ l, H l = Option.none → Q (.ref l) (upd H l (.lst ys))
theorem if_t {b : Bool} {A B : Prop} (h : b = true) (q : A) : if b = true then A else B := by
  rw [if_pos h]
  exact q
theorem if_f {b : Bool} {A B : Prop} (h : b = false) (q : B) : if b = true then A else B := by
  rw [if_neg (by rw [h]; exact Bool.noConfusion)]
  exact q
/-- a tuple of the written part, as it stands there -/
theorem sqT_lit {K : PySem.W.Frag} {p : Addr} {dd : Option Addr} {us : Array Value} {n : Nat} {sl : Array (Option Value)} {xs : List V} {H : Hp} (w : K.lookup p = some ⟨.type "tuple", dd, .seq us n, sl⟩) (y : Vals xs us.toList) (hl : xs.length ≤ sizeLine := by decide) : SqT K H p xs :=
  .inr ⟨_, us, n, w, rfl, rfl, Nat.le_trans (Nat.le_of_eq (by rw [← Array.length_toList]; exact (Paired.length y).symm)) hl, y⟩
end L2

set_option Elab.async false
set_option linter.all false
set_option maxRecDepth 100000
set_option maxHeartbeats 4000000
/-! # An error of the program's own: its maker calls that of ValueError with a text, then keeps one value -/
namespace PySem
namespace Errs
open PySem.W PySem.Calls PyProof.Rows PySem.HandSPX
/-! ### the text of the maker -/
def eA (fld : Str) (p1 p2 : Pos) : Arguments :=
  { posonlyargs := [], args := [⟨"self", none, p1⟩, ⟨fld, none, p2⟩], vararg := none, kwonlyargs := [], kw_defaults := [], kwarg := none, defaults := [] }
def eB (fld : Str) (parts : List Expr) (mp : Pos) (q1 q2 q3 q4 q5 q6 q7 q8 q9 : Pos) : List Stmt :=
  [.Expr (.Call (.Attribute (.Call (.Name "super" q1) [] [] q2) "__init__" q3) [.JoinedStr parts mp] [] q4) q5,
   .Assign [.Attribute (.Name "self" q6) fld q7] (.Name fld q8) q9]
def eS (fld : Str) (ex : List (Str × NameKind)) : Scope :=
  { kind := .function, names := [(PySem.Str.ofString "self", .local), (fld, .local), (PySem.Str.ofString "__class__", .free), (PySem.Str.ofString "super", .globalImplicit)] ++ ex, isGenerator := false, isCoroutine := false, more := [] }
/-- all is kept but the slots of the frames at fs -/
structure KeepF (fs : List Addr) (h h' : Heap) : Prop where
  keep : ∀ b o, b ∉ fs → h.get? b = some o → h'.get? b = some o
  slot : ∀ b o, h.get? b = some o → ∃ sl, h'.get? b = some { o with slots := sl }
theorem KeepF.of {fs : List Addr} {h h' : Heap} (k : ∀ b o, h.get? b = some o → h'.get? b = some o) : KeepF fs h h' := ⟨fun b o _ e => k b o e, fun b o e => ⟨o.slots, k b o e⟩⟩
theorem KeepF.of_un {fs : List Addr} {h h' : Heap} {H' : L2.Hp} (u : L2.Un fs [] (fun _ => none) H' h h') : KeepF fs h h' :=
  ⟨fun b o n e => u.keep b o e rfl n (by simp), fun b o e => u.any e rfl (by simp)⟩
/-- the message comes to some text; what stood is kept -/
def MsgOk (P : Program) (w : World) (K : Frag) (mg : Str → Option Value) (base : Heap) (lv : Nat) (ex : List (Str × NameKind)) (parts : List Expr) (mp : Pos) (fld : Str) (v : Value) : Prop :=
  ∀ (A : Around) (outer : List Env) (E : Value → Shared → Prop) (s : Shared) (env : Env) (m : Str → Option Value) (Q : Value → Shared → Prop),
    env.scope = eS fld ex → env.globals = mainGlobals → env.builtins = builtinsNs → L2.Room lv A → L2.Env0 P w K mg base A outer s (fun _ => none) →
    s.heap.Ns env.locals m → m fld = some v → (∀ u s', s'.os = s.os → AllBare s'.gens → KeepF (L2.frs outer) s.heap s'.heap → Q u s') →
    wpAny (model P w) A (eval (.JoinedStr parts mp) env) Q E s
def SupEq (parts : List Expr) (mp q1 q2 q3 q4 : Pos) : Prop :=
  ∀ env : Env, ∃ pl : Sem Bool, eval (.Call (.Attribute (.Call (.Name "super" q1) [] [] q2) "__init__" q3) [.JoinedStr parts mp] [] q4) env = (do
    let ov ← attributeBase (.Call (.Name "super" q1) [] [] q2) "__init__" env (eval (.Call (.Name "super" q1) [] [] q2) env)
    standAt q3.atName
    let __x ← holding [ov] (getMethod ov "__init__" pl)
    match __x with
    | (f, first) => callWith q4 f first (backTo q4 (starEach [.JoinedStr parts mp] env)) [])
/-- what the written part says of the class at C and of its maker at fI -/
structure ErrTxt (P : Program) (K : Frag) (mg : Str → Option Value) (nm fld : Str) (ex : List (Str × NameKind)) (parts : List Expr) (mp : Pos) (C fI : Addr) : Prop where
  gC : mg nm = some (.ref C)
  noSuper : mg "super" = none
  noTop : (List.lookup (PySem.Str.ofString "super") P.main.scope.names).isSome = false
  cls : ∃ nm q N bs bm sn sub ab col dd k0 k1 k2 k3 k5, K.lookup C = some (excClassObj nm q C N bs bm true sn sub ab col dd k0 k1 k2 k3 k5 "ValueError.__new__") ∧ refsVE bm = true
  ini : excInitIn K C veTail "ValueError.__new__" = true
  sup : ks_superIn K C C "__init__" = some (some (.builtin "ValueError.__init__"))
  subV : subIn K (.ref C) (.type "ValueError") = some true
  mroS : mroIn K C (.ref C) = some true
  third : nsIn K cStatics "thirdparty.any" = some none
  sa : findIn K (.ref C) "__setattr__" = some (some (.builtin "object.__setattr__"))
  ga : findIn K (.ref C) "__getattribute__" = some (some (.builtin "BaseException.__getattribute__"))
  gg : findIn K (.ref C) "__getattr__" = some none
  noN : findIn K (.ref C) fld = some none
  iC : findIn K (.ref C) "__init__" = some (some (.ref fI))
  tC : typeIn K (.ref fI) = some (.type "function")
  kC : keepIn K (.ref C) = true
  exC : subIn K (.ref C) (.type "BaseException") = some true
  tyC : typeIn K (.ref C) = some (.type "type")
  hdC : hasDictIn K C = true
  te : exmOne K (.ref C) (.ref C) = some true
  fn : ∃ (oc : Value) (od : Option Addr) (doc pm : Value) (an : Option Addr) (ct : Value) (osl : Array (Option Value)) (qual : Str) (cda cc : Addr)
      (ccl : Value) (cdd : Option Addr) (ccs : Array (Option Value)) (vs : Array Value) (tq tf : Tok) (file : Str) (cl : Value) (cld : Option Addr) (csl : Array (Option Value))
      (p1 p2 q1 q2 q3 q4 q5 q6 q7 q8 q9 : Pos), SupEq parts mp q1 q2 q3 q4 ∧
    K.lookup fI = some ⟨oc, od, .func (ksFn "__init__" qual (eA fld p1 p2) (eB fld parts mp q1 q2 q3 q4 q5 q6 q7 q8 q9) (eS fld ex) .none .none doc pm an (.ref cda) ct cc), osl⟩ ∧
    K.lookup cda = some ⟨ccl, cdd, .fields vs, ccs⟩ ∧ vs[1]? = some (.str qual tq) ∧ vs[2]? = some (.str file tf) ∧ (P.main.file == file) = true ∧
    K.lookup cc = some ⟨cl, cld, .cell (some (.ref C)), csl⟩
/-- the heap without the object at x -/
def without (h : Heap) (x : Addr) : Heap := { h with objs := h.objs.setIfInBounds x { cls := .none, data := .freed } }
theorem without_size (h : Heap) (x : Addr) : (without h x).objs.size = h.objs.size := by simp [without]
theorem without_at (h : Heap) (x : Addr) : (without h x).get? x = none := by
  unfold without Heap.get?
  by_cases e : x < h.objs.size
  · simp [Array.getElem?_setIfInBounds, e]
  · simp [Array.getElem?_setIfInBounds, e]
theorem without_ne (h : Heap) (x b : Addr) (hb : b ≠ x) : (without h x).get? b = h.get? b := by
  unfold without Heap.get?
  simp [Array.getElem?_setIfInBounds, Ne.symm hb]
/-- the heap below L without the object at x -/
def cutH (h : Heap) (L x : Addr) : Heap := { h with objs := (h.objs.extract 0 L).setIfInBounds x { cls := .none, data := .freed } }
theorem cut_size (h : Heap) (L x : Addr) : (cutH h L x).objs.size ≤ L := by simp [cutH]; omega
theorem cut_at (h : Heap) (L x : Addr) : (cutH h L x).get? x = none := by
  unfold cutH Heap.get?
  by_cases e : x < (h.objs.extract 0 L).size
  · rw [Array.getElem?_setIfInBounds_self_of_lt e]
  · have z : ((h.objs.extract 0 L).setIfInBounds x { cls := .none, data := .freed })[x]? = none := by
      rw [Array.getElem?_eq_none_iff]; simp at e ⊢; omega
    rw [z]
theorem cut_big (h : Heap) (L x b : Addr) (hb : L ≤ b) : (cutH h L x).get? b = none := Heap.get?_none_of_le (Nat.le_trans (cut_size h L x) hb)
theorem cut_lt (h : Heap) (L x b : Nat) (hb : b < L) (hx : b ≠ x) : (cutH h L x).get? b = h.get? b := by
  unfold cutH Heap.get?
  show (match ((h.objs.extract 0 L).setIfInBounds x { cls := .none, data := .freed })[b]? with | some ⟨_, _, .freed, _⟩ => none | o => o) = _
  rw [Array.getElem?_setIfInBounds_ne (Ne.symm hx)]
  have z : (h.objs.extract 0 L)[b]? = h.objs[b]? := by
    rw [Array.getElem?_extract]
    by_cases q : b < h.objs.size
    · rw [if_pos (by omega)]; simp
    · rw [if_neg (by omega)]
      exact (Array.getElem?_eq_none_iff.mpr (by omega)).symm
  rw [z]
  rfl
/-- what the maker leaves of a fresh exception at x; fs: the callers' frames -/
structure InitEnd (fs : List Addr) (fld : Str) (h h' : Heap) (x C dx : Addr) (v : Value) : Prop where
  keep : ∀ b o, b ≠ x → b ∉ fs → h.get? b = some o → h'.get? b = some o
  slot : ∀ b o, b ≠ x → h.get? b = some o → ∃ sl, h'.get? b = some { o with slots := sl }
  obj : ∃ t1 : Addr, h'.get? x = some { cls := .ref C, dict := some dx, data := .fields #[.ref t1, .none, .none, .none, .bool false, .none] }
  dbig : h.objs.size ≤ dx
  dne : dx ≠ x
  ns : h'.Ns1 dx (fun y => if y = fld then some v else none)
/-- a made error -/
structure OwnMade (fs : List Addr) (fld : Str) (h h' : Heap) (e C d : Addr) (v : Value) : Prop where
  keep : KeepF fs h h'
  new : h.objs.size ≤ e
  obj : ∃ oe vs, h'.get? e = some oe ∧ oe.cls = .ref C ∧ oe.dict = some d ∧ oe.data = .fields vs ∧ vs[1]? = some .none
  dbig : h.objs.size ≤ d
  dne : d ≠ e
  ns : h'.Ns1 d (fun y => if y = fld then some v else none)
theorem ld1 {M : Model} {A : Around} {E : Value → Shared → Prop} {s : Shared} {env : Env} {m : Str → Option Value} {x : Str} {pos : Pos} {v : Value} {Q : Value → Shared → Prop}
    (hn : s.heap.Ns env.locals m) (hv : m x = some v) (h : Q v s) (hk : env.scope.kind = .function) (hl : env.kindOf x = some .local) (hd : (x == ("__debug__" : Str)) = false) :
    wpAny M A (eval (.Name x pos) env) Q E s := wpAny_Name (wpAny_loadName_local hk hl hn hv h) hd
/-- the facts of the field's name -/
structure FldOk (fld : Str) (ex : List (Str × NameKind)) (parts : List Expr) (mp : Pos) : Prop where
  lkF : List.lookup fld (eS fld ex).names = some .local
  lkS : List.lookup ("self" : Str) (eS fld ex).names = some .local
  lkC : List.lookup ("__class__" : Str) (eS fld ex).names = some .free
  lkU : List.lookup ("super" : Str) (eS fld ex).names = some .globalImplicit
  dbg : (fld == ("__debug__" : Str)) = false
  noc : ∀ y ∈ (eS fld ex).names, y.2 ≠ .cell
  bf : ∀ x v : Value, List.lookup fld [(("self" : Str), x), (fld, v)].reverse = some v
  bs : ∀ x v : Value, List.lookup ("self" : Str) [(("self" : Str), x), (fld, v)].reverse = some x
  star : ∀ env : Env, starEach [.JoinedStr parts mp] env = (false, eval (.JoinedStr parts mp) env) :: starEach [] env
  bnd : ∀ (s : Shared) (x v : Value) (q : Str) (p1 p2 : Pos) (b : List Stmt) (doc pm cd ct : Value) (an : Option Addr) (cc : Addr),
    BindsTo s (ksFn "__init__" q (eA fld p1 p2) b (eS fld ex) .none .none doc pm an cd ct cc) ⟨[x, v], []⟩ [(("self" : Str), x), (fld, v)]
theorem env0_none {P : Program} {w : World} {K : Frag} {mg : Str → Option Value} {base : Heap} {A : Around} {outer : List Env} {s : Shared} {H : L2.Hp} (e : L2.Env0 P w K mg base A outer s H) :
    L2.Env0 P w K mg base A outer s (fun _ => none) :=
  ⟨e.frames, e.mod, fun b o q => ⟨(e.bs b o q).1, rfl⟩, e.bsz, e.funs, fun _ _ => rfl, fun a o q => (by cases q), e.bare⟩
section
variable {prog : Program} {w : World} {A : Around} {R : Result → Shared → Prop} {s : Shared} {K : Frag} {mg : Str → Option Value} {base : Heap} {lv : Nat} {outer : List Env} {nm fld : Str} {ex : List (Str × NameKind)} {parts : List Expr} {mp : Pos} {C fI : Addr}
theorem err_init (T : ErrTxt prog K mg nm fld ex parts mp C fI) (G : FldOk fld ex parts mp) {x t0 : Addr} {v : Value} (M : MsgOk prog w K mg base lv ex parts mp fld v)
    (e0 : L2.Env0 prog w K mg base A outer s (fun _ => none)) (hx : s.heap.get? x = some (excO C t0)) (hnx : K.lookup x = none) (hbx : base.get? x = none) (hr : L2.Room (lv + 1) A)
    (hq : ∀ s' dx, s'.os = s.os → AllBare s'.gens → InitEnd (L2.frs outer) fld s.heap s'.heap x C dx v → R (.ok (.ret .none)) s') :
    codeAny (model prog w) A (.call (.ref fI) ⟨[.ref x, v], []⟩) R s := by
  have X : K.In s.heap := e0.mod.kin.keeps fun b o e => (e0.bs b o e).1
  have hlim : s.heap.NoLimit := e0.mod.nolimit.keeps fun b o e => (e0.bs b o e).1
  have hg : s.heap.Ns mainGlobals mg := e0.mod.glob.keeps fun b o e => (e0.bs b o e).1
  obtain ⟨mb, hb0, hmb0⟩ := e0.mod.blt
  have hb : s.heap.Ns builtinsNs mb := hb0.keeps fun b o e => (e0.bs b o e).1
  have hmb : mb "super" = some (.type "super") := hmb0 _ (by decide)
  obtain ⟨oc, od, doc, pm, an, ct, osl, qual, cda, cc, ccl, cdd, ccs, vs, tq, tf, file, cl, cld, csl, p1, p2, q1, q2, q3, q4, q5, q6, q7, q8, q9, hev, ho, hcd, hvq, hvf, hfile, hcell⟩ := T.fn
  obtain ⟨nm, q, N, bs, bm, sn, sub, ab, col, dd, k0, k1, k2, k3, k5, hC, hbm⟩ := T.cls
  have hcl : clsIn K C = some { name := nm, bases := bs, mro := .ref C :: bm, ns := N, qualname := q, hasDict := true, slotNames := sn, subclasses := sub, abstract := ab, collection := col, hasDel := false } := by unfold clsIn; rw [hC] <;> rfl
  refine ks_codeAny_call_defAt (binds := [("self", .ref x), (fld, v)]) hr.depth (X _ _ ho) rfl hlim ⟨cda, _, vs, tq, rfl, X _ _ hcd, rfl, hvq⟩ rfl (G.bnd _ _ _ _ _ _ _ _ _ _ _ _ _) G.noc ?_ ?_ rfl rfl rfl
  · intro y hy
    simp only [List.mem_cons, List.not_mem_nil, or_false] at hy
    rcases hy with rfl | rfl
    · exact G.lkS
    · exact G.lkF
  intro h₁ hn k
  have X₁ : K.In h₁ := X.keeps k
  have hx₁ := k _ _ hx
  have hxL : x < s.heap.objs.size := Heap.lt_size hx
  have X₀ : K.In (without s.heap x) := fun a o e => by
    have ne : a ≠ x := fun z => by rw [z, hnx] at e; cases e
    rw [without_ne _ _ _ ne]; exact X a o e
  obtain ⟨env, henv⟩ : ∃ env, env = callEnv (ksFn "__init__" qual (eA fld p1 p2) (eB fld parts mp q1 q2 q3 q4 q5 q6 q7 q8 q9) (eS fld ex) .none .none doc pm an (.ref cda) ct cc) s.heap.objs.size fI := ⟨_, rfl⟩
  obtain ⟨pl, hpl⟩ := hev (callEnv (ksFn "__init__" qual (eA fld p1 p2) (eB fld parts mp q1 q2 q3 q4 q5 q6 q7 q8 q9) (eS fld ex) .none .none doc pm an (.ref cda) ct cc) s.heap.objs.size fI)
  refine ks_wpAt_execs_cons (ks_wpAt_Expr_any (ks_wpAt_MethodCall (he := hpl) (ks_wpAt_super_base G.lkU G.lkC (by decide) (f := fI) rfl (k _ _ (X _ _ ho)) rfl rfl rfl (k _ _ (X _ _ hcd)) rfl hvf hfile T.noTop ?_)))
  refine ks_loadName_global rfl G.lkU (loadGlobal_builtin (hg.keeps k) T.noSuper (hb.keeps k) hmb ⟨rfl, ?_⟩)
  refine wpAny_loadName_free rfl G.lkC (c := cc) (v := .ref C) rfl ⟨_, k _ _ (X _ _ hcell), rfl⟩ ?_
  refine wpAny_loadName_local rfl G.lkS hn (G.bs _ _) ?_
  refine ks_wpAny_isType_cls (k _ _ (X _ _ hC)) rfl ⟨rfl, ?_⟩
  refine ks_wpAny_call_super (k _ _ (X _ _ hC)) rfl hx₁ rfl (fun c e => by cases e) (looks_mroIn X₁ T.mroS) fun h₂ hso k₂ => ?_
  have zL : s.heap.objs.size < h₁.objs.size := hn.lt
  have F2 : Fr (without s.heap x) s.heap.objs.size h₂ (fun y => List.lookup y [(("self" : Str), Value.ref x), (fld, v)].reverse) :=
    ⟨hn.keeps k₂, fun b o e => by
      by_cases hb : b = x
      · rw [hb, without_at] at e; cases e
      · rw [without_ne _ _ _ hb] at e; exact k₂ _ _ (k _ _ e), by rw [without_size]; exact Nat.le_refl _⟩
  have N2 : News (without s.heap x) s.heap.objs.size h₂ [(h₁.objs.size, ks_superObj C x C), (x, excObj C t0 none .none)] := by
    intro p hp
    simp only [List.mem_cons, List.not_mem_nil, or_false] at hp
    rcases hp with rfl | rfl
    · refine ⟨hso, Nat.ne_of_gt zL, ?_⟩
      rw [without_ne _ _ _ (Nat.ne_of_gt (Nat.lt_trans hxL zL))]
      cases e : s.heap.get? h₁.objs.size with
      | none => rfl
      | some o => exact absurd (Heap.lt_size e) (Nat.not_lt.mpr (Nat.le_of_lt zL))
    · exact ⟨k₂ _ _ hx₁, Nat.ne_of_lt hxL, without_at _ _⟩
  refine kxs_method kxs_ValueError F2 X₀ N2 List.mem_cons_self (.of_exc0 N2 (List.mem_cons_of_mem _ List.mem_cons_self)) T.third T.sup T.subV (by decide) fun u h₃ F3 N3 lt3 => ?_
  refine kxs_callWith1 N3 List.mem_cons_self (spliced_more ?_ (G.star _)) (G.star _) rfl
  rw [← henv]
  have k3 : ∀ b o, b ≠ x → s.heap.get? b = some o → h₃.get? b = some o := fun b o hb e => F3.keep b o (by rw [without_ne _ _ _ hb]; exact e)
  have kb : ∀ b o, base.get? b = some o → h₃.get? b = some o := fun b o e => k3 b o (fun z => by rw [z, hbx] at e; cases e) (e0.bs b o e).1
  have fne : ∀ b ∈ L2.frs outer, b ≠ x := fun b hb z => by
    obtain ⟨_, o, ho', hf⟩ := e0.funs.mem (b := b) hb
    rw [z, hx] at ho'; cases ho'
    exact hf _ rfl
  have funs3 : h₃.FunFrames base outer := e0.funs.of_keeps fun b o e hf => by
    refine ⟨o, k3 b o (fun z => ?_) e, rfl⟩
    rw [z, hx] at e; cases e
    exact hf _ rfl
  have hL3 : base.get? s.heap.objs.size = none := Heap.get?_none_of_le e0.bsz
  have efr : env.frame = some s.heap.objs.size := by rw [henv] <;> rfl
  have elo : env.locals = s.heap.objs.size := by rw [henv] <;> rfl
  have ens : h₃.Ns env.locals (fun y => List.lookup y [(("self" : Str), Value.ref x), (fld, v)].reverse) := by rw [elo]; exact F3.ns
  have e3 : ∀ tk, L2.Env0 prog w K mg base (A.deeper env) (env :: outer) { s with heap := h₃, toks := tk } (fun _ => none) := fun tk =>
    ⟨Around.frames_deeper e0.frames, e0.mod, fun b o e => ⟨kb b o e, rfl⟩, Nat.le_trans e0.bsz (Nat.le_of_lt F3.ns.lt), .cons (by rw [henv]; intro z; cases z) efr (by rw [← elo]; exact ens) hL3 funs3, fun _ _ => rfl, fun a o q => (by cases q), e0.bare⟩
  refine M (A.deeper env) (env :: outer) _ _ env _ _ (by rw [henv] <;> rfl) (by rw [henv] <;> rfl) (by rw [henv] <;> rfl) (hr.deeper env) (e3 _) ens (G.bf _ _) fun um s4 os4 bare4 K4 => spliced_none ?_
  have efs : L2.frs (env :: outer) = s.heap.objs.size :: L2.frs outer := by unfold L2.frs; rw [List.filterMap_cons, efr]
  rw [efs] at K4
  obtain ⟨h4, g4, d4, t4, o4⟩ := s4
  obtain rfl : o4 = s.os := os4
  -- what stands beside the frames
  have nf : ∀ p ∈ (u, kxs_mw "ValueError.__init__" x) :: [(h₁.objs.size, ks_superObj C x C), (x, excObj C t0 none .none)], p.1 ∉ s.heap.objs.size :: L2.frs outer := by
    intro p hp z
    rcases List.mem_cons.mp z with z | z
    · exact (N3 p hp).2.1 z
    · obtain ⟨_, o, ho', hf⟩ := e0.funs.mem (b := p.1) z
      have lt := Heap.lt_size ho'
      simp only [List.mem_cons, List.not_mem_nil, or_false] at hp
      rcases hp with rfl | rfl | rfl
      · exact absurd (Nat.lt_trans (Nat.lt_trans lt zL) (lt3 _ List.mem_cons_self)) (Nat.lt_irrefl _)
      · exact absurd (Nat.lt_trans lt zL) (Nat.lt_irrefl _)
      · exact fne _ z rfl
  have F4 : Fr (cutH h4 s.heap.objs.size x) s.heap.objs.size h4 (fun y => List.lookup y [(("self" : Str), Value.ref x), (fld, v)].reverse) := by
    refine ⟨?_, fun b o e => ?_, cut_size _ _ _⟩
    · obtain ⟨o', es', ep', ho', r'⟩ := F3.ns
      obtain ⟨sl, z⟩ := K4.slot _ _ ho'
      exact ⟨_, es', ep', z, r'⟩
    · by_cases hb : b = x
      · rw [hb, cut_at] at e; cases e
      · by_cases hl : b < s.heap.objs.size
        · rw [cut_lt _ _ _ _ hl hb] at e; exact e
        · rw [cut_big _ _ _ _ (Nat.le_of_not_lt hl)] at e; cases e
  have N4 : News (cutH h4 s.heap.objs.size x) s.heap.objs.size h4 ((u, kxs_mw "ValueError.__init__" x) :: [(h₁.objs.size, ks_superObj C x C), (x, excObj C t0 none .none)]) := by
    intro p hp
    refine ⟨K4.keep _ _ (nf p hp) (N3 p hp).1, (N3 p hp).2.1, ?_⟩
    simp only [List.mem_cons, List.not_mem_nil, or_false] at hp
    rcases hp with rfl | rfl | rfl
    · exact cut_big _ _ _ _ (Nat.le_of_lt (Nat.lt_trans zL (lt3 _ List.mem_cons_self)))
    · exact cut_big _ _ _ _ (Nat.le_of_lt zL)
    · exact cut_at _ _ _
  have old4 : ∀ b o, b ≠ x → b ∉ L2.frs outer → s.heap.get? b = some o → h4.get? b = some o := fun b o hb hf e =>
    K4.keep b o (fun z => (List.mem_cons.mp z).elim (fun z => absurd (Heap.lt_size e) (by rw [z]; exact Nat.lt_irrefl _)) hf) (k3 b o hb e)
  have base4 : ∀ b o, base.get? b = some o → b ≠ x ∧ b < s.heap.objs.size ∧ h4.get? b = some o := fun b o e => by
    have hb : b ≠ x := fun z => by rw [z, hbx] at e; cases e
    have e' := (e0.bs b o e).1
    exact ⟨hb, Heap.lt_size e', old4 b o hb (fun z => by have := (e0.funs.mem (b := b) z).1; rw [e] at this; cases this) e'⟩
  have X4 : K.In (cutH h4 s.heap.objs.size x) := fun a o e => by
    obtain ⟨p, q, r⟩ := base4 a o (e0.mod.kin a o e)
    rw [cut_lt _ _ _ _ q p]; exact r
  refine ⟨kxs_at N4 List.mem_cons_self, ?_⟩
  refine kxs_call (bmB := veTail) (newId := "ValueError.__new__") (dv := none) (c2 := .none) (t := t0) F4 X4 N4 F.excBase_ValueError T.ini List.mem_cons_self (.tail ?_ (.tail ?_ (.head ?_))) ?_ fun t' h₅ F5 N5 lt5 => ?_
  · exact Nat.ne_of_gt (lt3 _ (List.mem_cons_of_mem _ List.mem_cons_self))
  · exact Nat.ne_of_gt (Nat.lt_trans hxL zL)
  · intro p hp; cases hp
  · rw [sizeLine_eq]; exact (by decide : 1 ≤ 16777216)
  rw [henv] at *
  refine wpAt_of_wpAny ?_
  have hx5 : h₅.get? x = some (excO C t') := (N5 (x, excObj C t' none .none) (by simp)).1
  have c5 : ∀ b o, b ≠ x → b < s.heap.objs.size → h4.get? b = some o → h₅.get? b = some o := fun b o hb hl e => F5.keep b o (by rw [cut_lt _ _ _ _ hl hb]; exact e)
  have k5 : ∀ b o, b ≠ x → b ∉ L2.frs outer → s.heap.get? b = some o → h₅.get? b = some o := fun b o hb hf e => c5 b o hb (Heap.lt_size e) (old4 b o hb hf e)
  have s5 : ∀ b o, b ≠ x → s.heap.get? b = some o → ∃ sl, h₅.get? b = some { o with slots := sl } := fun b o hb e => by
    obtain ⟨sl, z⟩ := K4.slot b o (k3 b o hb e)
    exact ⟨sl, c5 b _ hb (Heap.lt_size e) z⟩
  have X5 : K.In h₅ := fun a o e => by
    obtain ⟨p, q, r⟩ := base4 a o (e0.mod.kin a o e)
    exact c5 a o p q r
  refine wpAny_execs_cons (plainObj_wpAny_Assign_Attribute ?_)
  refine ld1 (v := v) F5.ns (G.bf _ _) (ld1 (v := .ref x) F5.ns (G.bs _ _) ?_ rfl G.lkS (by decide)) rfl G.lkF G.dbg
  refine set_plain X5 (ox := excO C t') (od := none) ⟨hx5, rfl, rfl, trivial⟩ T.sa ?_
  refine exc_osa X5 hx5 hcl (show refsVE (.ref C :: bm) = true from hbm) rfl T.noN (fun h₆ tk₆ dx k₆ dn dne hx₆ hn₆ => ?_)
  exact wpAny_execs_nil (hq _ dx rfl bare4 ⟨fun b o hb hf e => k₆ b o hb (k5 b o hb hf e), fun b o hb e => let ⟨sl, z⟩ := s5 b o hb e; ⟨sl, k₆ b _ hb z⟩, ⟨t', hx₆⟩, Nat.le_of_lt (Nat.lt_of_lt_of_le F5.ns.lt dn), dne, hn₆⟩)
theorem err_made (T : ErrTxt prog K mg nm fld ex parts mp C fI) (G : FldOk fld ex parts mp) {v : Value} (M : MsgOk prog w K mg base lv ex parts mp fld v)
    (e0 : L2.Env0 prog w K mg base A outer s (fun _ => none)) (hr : L2.Room (lv + 2) A)
    (hq : ∀ s' e d, s'.os = s.os → AllBare s'.gens → OwnMade (L2.frs outer) fld s.heap s'.heap e C d v → R (.ok (.ret (.ref e))) s') :
    codeAny (model prog w) A (.call (.ref C) ⟨[v], []⟩) R s := by
  obtain ⟨nm, q, N, bs, bm, sn, sub, ab, col, dd, k0, k1, k2, k3, k5, hC, hbm⟩ := T.cls
  obtain ⟨hp, g, dr, tk, os⟩ := s
  have X : K.In hp := e0.mod.kin.keeps fun b o e => (e0.bs b o e).1
  have k : ∀ b o, hp.get? b = some o → ((hp.push (kdv_tup [v])).push (excO C hp.objs.size)).get? b = some o := fun b o e => Heap.get?_push_of_some _ (Heap.get?_push_of_some _ e)
  have hget : ((hp.push (kdv_tup [v])).push (excO C hp.objs.size)).get? (hp.objs.size + 1) = some (excO C hp.objs.size) := by heap_get
  have hnx : K.lookup (hp.objs.size + 1) = none := by
    cases e : K.lookup (hp.objs.size + 1) with
    | none => rfl
    | some o =>
      have z : hp.get? (hp.objs.size + 1) = some o := X _ _ e
      exact absurd (Nat.lt_of_succ_lt (Heap.lt_size z)) (Nat.lt_irrefl _)
  have hbx : base.get? (hp.objs.size + 1) = none := Heap.get?_none_of_le (Nat.le_trans e0.bsz (Nat.le_succ _))
  have sz : ((hp.push (kdv_tup [v])).push (excO C hp.objs.size)).objs.size = hp.objs.size + 1 + 1 := by
    first
      | rfl
      | simp [Heap.size_push]
  refine call_own F.excBase_ValueError (fun X => refsVE_contains X bm hbm) (X _ _ hC) (looks_findIn X T.iC) (fun self => bind_fn X self T.tC) (by rw [sizeLine_eq]; exact (by decide : 1 ≤ 16777216)) ?_
  have e1 := e0.make C [v] []
  have e2 : L2.Env0 prog w K mg base (A.under (.builtin "type.__call__" ⟨.ref C :: [v], []⟩)) outer ⟨(hp.push (kdv_tup [v])).push (excO C hp.objs.size), g, dr, tk, os⟩ (fun _ => none) :=
    ⟨e1.frames, e1.mod, fun b o e => ⟨k b o (e1.bs b o e).1, rfl⟩, by show base.objs.size ≤ ((hp.push (kdv_tup [v])).push (excO C hp.objs.size)).objs.size; rw [sz]; exact Nat.le_trans e1.bsz (Nat.le_trans (Nat.le_succ _) (Nat.le_succ _)),
      e1.funs.of_keeps fun b o e _ => ⟨o, k b o e, rfl⟩, fun _ _ => rfl, fun a o q => (by cases q), e1.bare⟩
  refine err_init (s := ⟨(hp.push (kdv_tup [v])).push (excO C hp.objs.size), g, dr, tk, os⟩) T G M e2 hget hnx hbx (hr.make C [v] []) fun s' dx os' bare' ⟨k', s', ⟨t1, hx⟩, dn, dne, hns⟩ => ?_
  have z : hp.objs.size + 1 + 1 ≤ dx := by rw [← sz]; exact dn
  refine ⟨rfl, hq _ (hp.objs.size + 1) dx os' bare' ⟨⟨fun b o hf e => k' b o (Nat.ne_of_lt (Nat.lt_succ_of_lt (Heap.lt_size e))) hf (k b o e), fun b o e => s' b o (Nat.ne_of_lt (Nat.lt_succ_of_lt (Heap.lt_size e))) (k b o e)⟩, Nat.le_succ _, ⟨_, _, hx, rfl, rfl, rfl, rfl⟩, Nat.le_trans (Nat.le_trans (Nat.le_succ _) (Nat.le_succ _)) z, dne, hns⟩⟩
end
end Errs
end PySem

set_option Elab.async false
set_option linter.all false
set_option maxRecDepth 100000
set_option maxHeartbeats 4000000
namespace L2
open PySem PySem.Spec PyProof.Rows
theorem relO_fld {v : V} {v' : Value} (fld : Str) (r : RelV v v') (f : Str) : RelO (List.lookup f [(fld, v)]) (if f = fld then some v' else none) := by
  by_cases hw : f = fld
  · subst hw
    rw [if_pos rfl]
    have q : List.lookup f [(f, v)] = some v := by simp [List.lookup]
    rw [q]
    exact r
  · rw [if_neg hw]
    have qw : (f == fld) = false := by simpa using hw
    have q2 : List.lookup f [(fld, v)] = none := by simp [List.lookup, qw]
    rw [q2]
    trivial
/-- the message of this value is written, whatever stands for it -/
def MsgV (X : Cx) (lv : Nat) (ex : List (Str × NameKind)) (parts : List Expr) (mp : Pos) (fld : Str) (v : V) : Prop := ∀ u, RelV v u → PySem.Errs.MsgOk X.prog X.w X.K X.mg X.base lv ex parts mp fld u
section
variable {X : Cx} {nm fld : Str} {ex : List (Str × NameKind)} {parts : List Expr} {mp : Pos} {C fI : Addr} {lv : Nat}
/-- NAME(e) -/
def tMkErr (Mv : V → Prop) (fld : Str) (C : Addr) (ta : TA) : St → Hp → XK → Prop := fun σ H Q => ta σ H fun vs H1 => ∃ v, vs = [v] ∧ Mv v ∧ ∀ d, H1 d = none → Q (.ref C) (some d) (upd H1 d (.xd [(fld, v)]))
theorem pmk_err {a : Expr} {ta : TA} {p pos : Pos} {k : Nat} (T : PySem.Errs.ErrTxt X.prog X.K X.mg nm fld ex parts mp C fI) (G : PySem.Errs.FldOk fld ex parts mp) (hr : Room k X.A) (ha : PA X [a] ta) (hlv : lv + 2 ≤ k := by decide) (hg : Gl X nm := by rfl)
    (hdb : (nm == PySem.Str.ofString "__debug__") = false := by decide)
    (he : starEach (a :: []) X.env = (false, eval a X.env) :: starEach [] X.env := by rfl) (hpl : (backTo pos (starEach [] X.env)).any (·.1) = false := by rfl) :
    PMk X (.Call (.Name nm p) [a] [] pos) (tMkErr (MsgV X lv ex parts mp fld) fld C ta) := by
  intro pins s σ H Q I h
  refine wpAny_Call_Name_kw (ld_glob I hg T.gC ?_ hdb)
  refine PySem.W.callWith_K (h₀ := X.base) I.ok.mod.kin T.kC (thn (ha.run pos pins s σ H _ I h) fun us s1 hh => ?_) he hpl
  obtain ⟨vs, H1, I1, r1, v, ev, mv, q1⟩ := hh
  subst ev
  refine ⟨I1.kIn, ?_⟩
  cases r1 with
  | cons rv rn =>
    rename_i v' us'
    cases rn
    show wpAny _ _ (call (.ref C) [v']) _ _ _
    have e0 := PySem.Errs.env0_none I1.env0
    refine wpAny_call (PySem.Errs.err_made T G (mv v' rv) e0 (hr.mono hlv) fun s' e d os' bare' M => ?_)
    obtain ⟨hp, g, dr, tk, os⟩ := s1
    obtain ⟨h', g', dr', tk', os2⟩ := s'
    obtain rfl : os2 = os := os'
    show MkP X pins σ Q (.ref e) ⟨h', g', dr', tk', os2⟩
    obtain ⟨oe, fv, hoe, hc, hd, hdat, h1⟩ := M.obj
    have hns := M.ns
    have hnew : hp.objs.size ≤ e := M.new
    have hdbig : hp.objs.size ≤ d := M.dbig
    have fe : H1 e = none := I1.hok.fresh hnew
    have fd : H1 d = none := I1.hok.fresh hdbig
    obtain ⟨G', g1, g2⟩ := restrict h' fun b => decide (b ≠ e)
    have gk : ∀ b, b ≠ e → G'.get? b = h'.get? b := fun b hb => g1 b (decide_eq_true hb)
    have ge : G'.get? e = none := g2 e (by simp)
    have ne : ∀ b o, hp.get? b = some o → b ≠ e := fun b o q => Nat.ne_of_lt (Nat.lt_of_lt_of_le (Heap.lt_size q) hnew)
    have nd : ∀ b o, hp.get? b = some o → b ≠ d := fun b o q => Nat.ne_of_lt (Nat.lt_of_lt_of_le (Heap.lt_size q) hdbig)
    have k1 : ∀ b o, b ∉ frs X.stack → hp.get? b = some o → G'.get? b = some o := fun b o hf q => (gk b (ne b o q)).trans (M.keep.keep b o hf q)
    have k2 : ∀ b o, hp.get? b = some o → ∃ sl, G'.get? b = some { o with slots := sl } := fun b o q => let ⟨sl, z⟩ := M.keep.slot b o q; ⟨sl, (gk b (ne b o q)).trans z⟩
    have ob : ObjOk X.prog X.w (upd H1 d (.xd [(fld, v)])) G' d (.xd [(fld, v)]) :=
      ⟨_, hns.at (fun o q => (gk d M.dne).trans q), fun f => relO_fld fld rv f⟩
    have tne : ∀ b o, H1 b = some o → b ≠ d := fun b o q z => by rw [z, fd] at q; cases q
    have un : Un (frs X.stack) [] H1 (upd H1 d (.xd [(fld, v)])) hp G' :=
      ⟨fun b o q _ hf _ => k1 b o hf q, fun b o q _ _ _ => k2 b o q, fun b o q n _ => by rw [upd_ne (nd b o q)]; exact n, fun b o q _ => let ⟨sl, z⟩ := k2 b o q; ⟨_, z⟩,
        fun b xs q => by rw [upd_ne (tne b _ q)]; exact q, fun b u xs q => by rw [upd_ne (tne b _ q)]; exact q, fun b ps q => ⟨#[], by rw [upd_ne (tne b _ q), q]; simp⟩⟩
    have free := I1.stkFree
    have hok : HOk X.prog X.w (upd H1 d (.xd [(fld, v)])) G' := fun b u q => by
      by_cases hb : b = d
      · subst hb; rw [upd_same] at q; cases q; exact ob
      · rw [upd_ne hb] at q
        refine (I1.hok b u q).stay (fun c o hc z => k1 c o (fun hf => ?_) z) (fun c z => by rw [upd_ne (tne c _ z)]; exact z) fun c xs z => by rw [upd_ne (tne c _ z)]; exact z
        have fc := free c hf
        rcases hc with rfl | hc
        · rw [q] at fc; cases fc
        · rw [hc] at fc; cases fc
    have J : Inv X pins σ (upd H1 d (.xd [(fld, v)])) ⟨G', g', dr', tk', os2⟩ := I1.call (g' := g') (t' := tk') (d' := dr') (ch := []) un hok bare' (fun _ z => nomatch z)
    refine ⟨e, oe, fv, ⟨G', g', dr', tk', os2⟩, _, .ref C, some d, rfl, J, fun b o q => ?_, ge, hoe, ⟨hc, hd⟩, hdat, h1, ?_, rfl, bare', raises_own T.exC T.tyC, q1 d fd⟩
    · by_cases hb : b = e
      · have q' : G'.get? b = some o := q
        rw [hb, ge] at q'; cases q'
      · exact (gk b hb).symm.trans q
    · rw [upd_ne (Ne.symm M.dne)]
      exact fe
/-- raise NAME(e) -/
def tRaiseErr (Mv : V → Prop) (fld : Str) (C : Addr) (W : WX) (ta : TA) : TS := fun _ σ H => tMkErr Mv fld C ta σ H fun cls d H' => W cls d σ H'
theorem ps_raiseErr {a : Expr} {ta : TA} {W : WX} {p pos pos2 : Pos} {k : Nat} (hc : X.calm = true) (T : PySem.Errs.ErrTxt X.prog X.K X.mg nm fld ex parts mp C fI) (G : PySem.Errs.FldOk fld ex parts mp) (hr : Room k X.A) (tk : Takes X W) (ha : PA X [a] ta) (hlv : lv + 2 ≤ k := by decide) (hg : Gl X nm := by rfl)
    (hdb : (nm == PySem.Str.ofString "__debug__") = false := by decide)
    (he : starEach (a :: []) X.env = (false, eval a X.env) :: starEach [] X.env := by rfl) (hpl : (backTo pos (starEach [] X.env)).any (·.1) = false := by rfl) :
    PS X (.Raise (some (.Call (.Name nm p) [a] [] pos)) none pos2) (tRaiseErr (MsgV X lv ex parts mp fld) fld C W ta) := ps_raise hc tk (pmk_err T G hr ha hlv hg hdb he hpl)
/-! ### the messages -/
/-- decimal(e) in a message -/
theorem dec_part {f : Addr} {fd : FuncData} {sp : Sp} {v : V} {u : Value} {p1 p2 p3 : Pos} (F : FnOk X.prog X.w X.K X.mg X.base CX0 lv f fd ["n"] sp) (gf : X.mg "decimal" = some (.ref f)) (kp : PySem.W.keepIn X.K (.ref f) = true) (hb : Binds X.K fd ["n"] [])
    (hsp : ∀ (Q : VK) (E : XK), (∀ z H', z.length ≤ 1000000 → Q (.str z) H') → sp [v] (fun _ => none) Q E) (r : RelV v u)
    {A : Around} {outer : List Env} {E : Value → Shared → Prop} {s : Shared} {env : Env} {m : Str → Option Value} {Q : Value → Shared → Prop}
    (hs : env.scope = PySem.Errs.eS fld [("decimal", .globalImplicit)]) (hgl : env.globals = mainGlobals) (hr : Room lv A) (e0 : Env0 X.prog X.w X.K X.mg X.base A outer s (fun _ => none))
    (hn : s.heap.Ns env.locals m) (hm : m fld = some u) (h1 : List.lookup fld (PySem.Errs.eS fld [("decimal", .globalImplicit)]).names = some .local) (h2 : List.lookup ("decimal" : Str) (PySem.Errs.eS fld [("decimal", .globalImplicit)]).names = some .globalImplicit)
    (hd : (fld == ("__debug__" : Str)) = false) (hst : starEach [.Name fld p2] env = (false, eval (.Name fld p2) env) :: starEach [] env) (hpl : (backTo p3 (starEach [] env)).any (·.1) = false)
    (h : ∀ z tk s', z.length ≤ 1000000 → s'.os = s.os → AllBare s'.gens → PySem.Errs.KeepF (frs outer) s.heap s'.heap → Q (.str z tk) s') :
    wpAny (model X.prog X.w) A (eval (.Call (.Name "decimal" p1) [.Name fld p2] [] p3) env) Q E s := by
  have kin : X.K.In s.heap := e0.mod.kin.keeps fun b o e => (e0.bs b o e).1
  have hkd : env.scope.kind = .function := by rw [hs] <;> rfl
  refine wpAny_Call_Name_kw (Calls.Name_function_global hkd (by show env.scope.names.lookup _ = _; rw [hs]; exact h2) (Calls.loadGlobal_global (by rw [hgl]; exact e0.mod.glob.keeps fun b o e => (e0.bs b o e).1) gf ?_) (by decide))
  refine PySem.W.callWith_K (h₀ := X.base) e0.mod.kin kp (PyProof.Rows.spliced_more ?_ hst) hst hpl
  refine PySem.Errs.ld1 hn hm ?_ hkd (by show env.scope.names.lookup _ = _; rw [hs]; exact h1) hd
  refine PyProof.Rows.spliced_none ⟨kin, ?_⟩
  have b0 := hb s [u] kin rfl
  refine wpAny_call (codeAny_mono (F.run A outer s _ ⟨[u], []⟩ [u] [v] _ (fun _ _ _ => False) hr e0 b0 (.cons r .nil) (hsp (fun x H' => ∃ z, x = .str z ∧ z.length ≤ 1000000) _ fun z H' hz => ⟨z, rfl, hz⟩)) fun res s' got => ?_)
  match res, got with
  | .error e, got => exact False.elim got
  | .ok (.ret y), got =>
    obtain ⟨x, H', os', bare', un, hok, rv, z, rfl, hz⟩ := got
    obtain ⟨tk, rfl⟩ := rv
    exact h z tk s' hz os' bare' (PySem.Errs.KeepF.of_un un)
  | .ok .next, got => cases got
  | .ok .brk, got => cases got
  | .ok .cont, got => cases got
theorem msg_dec2 {f : Addr} {fd : FuncData} {sp : Sp} {v : V} {a : Str} {k1 : Nat} {p1 p2 p3 p4 p5 mp : Pos} (F : FnOk X.prog X.w X.K X.mg X.base CX0 lv f fd ["n"] sp) (gf : X.mg "decimal" = some (.ref f)) (kp : PySem.W.keepIn X.K (.ref f) = true) (hb : Binds X.K fd ["n"] [])
    (hsp : ∀ (Q : VK) (E : XK), (∀ z H', z.length ≤ 1000000 → Q (.str z) H') → sp [v] (fun _ => none) Q E)
    (h1 : List.lookup fld (PySem.Errs.eS fld [("decimal", .globalImplicit)]).names = some .local) (h2 : List.lookup ("decimal" : Str) (PySem.Errs.eS fld [("decimal", .globalImplicit)]).names = some .globalImplicit) (hd : (fld == ("__debug__" : Str)) = false)
    (hst : ∀ env : Env, starEach [.Name fld p2] env = (false, eval (.Name fld p2) env) :: starEach [] env) (hl : a.length ≤ 100) :
    MsgV X lv [("decimal", .globalImplicit)] [.Constant (.str a) k1 p4, .FormattedValue (.Call (.Name "decimal" p1) [.Name fld p2] [] p3) (-1) none p5] mp fld v := by
  intro u r A outer E s env m Q hs hgl hbl hr e0 hn hm hQ
  refine JoinedStr_many (joinParts_cons ?_)
  refine wpAny_Constant_str ?_
  have l0 : Str.empty.length = 0 := rfl
  refine ⟨by rw [sizeLine_eq, Str.length_append]; omega, ?_⟩
  refine joinParts_cons (FormattedValue_plain ?_)
  refine dec_part F gf kp hb hsp r hs hgl hr (e0 := ⟨e0.frames, e0.mod, e0.bs, e0.bsz, e0.funs, e0.frf, e0.hok, e0.bare⟩) hn hm h1 h2 hd (hst _) rfl fun z tk s' hz os' bare' K' => ?_
  refine formatField_str (fun t' tk' => ?_) (by rw [sizeLine_eq]; omega)
  refine ⟨by rw [sizeLine_eq, Str.length_append, Str.length_append]; omega, ?_⟩
  refine joinParts_nilE (joinParts_nil ?_ ?_)
  · exact hQ _ _ os' bare' K'
  · rw [sizeLine_eq, Str.length_append, Str.length_append]; omega
theorem msg_dec3 {f : Addr} {fd : FuncData} {sp : Sp} {v : V} {a b : Str} {k1 k2 : Nat} {p1 p2 p3 p4 p5 p6 mp : Pos} (F : FnOk X.prog X.w X.K X.mg X.base CX0 lv f fd ["n"] sp) (gf : X.mg "decimal" = some (.ref f)) (kp : PySem.W.keepIn X.K (.ref f) = true) (hb : Binds X.K fd ["n"] [])
    (hsp : ∀ (Q : VK) (E : XK), (∀ z H', z.length ≤ 1000000 → Q (.str z) H') → sp [v] (fun _ => none) Q E)
    (h1 : List.lookup fld (PySem.Errs.eS fld [("decimal", .globalImplicit)]).names = some .local) (h2 : List.lookup ("decimal" : Str) (PySem.Errs.eS fld [("decimal", .globalImplicit)]).names = some .globalImplicit) (hd : (fld == ("__debug__" : Str)) = false)
    (hst : ∀ env : Env, starEach [.Name fld p2] env = (false, eval (.Name fld p2) env) :: starEach [] env) (hl : a.length ≤ 100 ∧ b.length ≤ 100) :
    MsgV X lv [("decimal", .globalImplicit)] [.Constant (.str a) k1 p4, .FormattedValue (.Call (.Name "decimal" p1) [.Name fld p2] [] p3) (-1) none p5, .Constant (.str b) k2 p6] mp fld v := by
  intro u r A outer E s env m Q hs hgl hbl hr e0 hn hm hQ
  refine JoinedStr_many (joinParts_cons ?_)
  refine wpAny_Constant_str ?_
  have l0 : Str.empty.length = 0 := rfl
  refine ⟨by rw [sizeLine_eq, Str.length_append]; omega, ?_⟩
  refine joinParts_cons (FormattedValue_plain ?_)
  refine dec_part F gf kp hb hsp r hs hgl hr (e0 := ⟨e0.frames, e0.mod, e0.bs, e0.bsz, e0.funs, e0.frf, e0.hok, e0.bare⟩) hn hm h1 h2 hd (hst _) rfl fun z tk s' hz os' bare' K' => ?_
  refine formatField_str (fun t' tk' => ?_) (by rw [sizeLine_eq]; omega)
  refine ⟨by rw [sizeLine_eq, Str.length_append, Str.length_append]; omega, ?_⟩
  refine joinParts_consE (joinParts_cons ?_)
  refine wpAny_Constant_str ?_
  refine ⟨by rw [sizeLine_eq, Str.length_append, Str.length_append, Str.length_append]; omega, ?_⟩
  refine joinParts_nilE (joinParts_nil ?_ ?_)
  · exact hQ _ _ os' bare' K'
  · rw [sizeLine_eq, Str.length_append, Str.length_append, Str.length_append]; omega
theorem msg_str2 {a : Str} {k1 : Nat} {p1 p2 p3 mp : Pos} {z : Str} (h1 : List.lookup fld (PySem.Errs.eS fld []).names = some .local) (hd : (fld == ("__debug__" : Str)) = false)
    (hl : a.length ≤ 100) (ht : z.length ≤ 10000) :
    MsgV X lv [] [.Constant (.str a) k1 p1, .FormattedValue (.Name fld p2) (-1) none p3] mp fld (.str z) := by
  intro u r
  obtain ⟨tk, rfl⟩ := r
  intro A outer E s env m Q hs hgl hbl hr e0 hn hm hQ
  refine JoinedStr_many (joinParts_cons ?_)
  refine wpAny_Constant_str ?_
  have l0 : Str.empty.length = 0 := rfl
  refine ⟨by rw [sizeLine_eq, Str.length_append]; omega, ?_⟩
  refine joinParts_cons (FormattedValue_plain ?_)
  refine PySem.Errs.ld1 hn hm ?_ (by rw [hs] <;> rfl) (by show env.scope.names.lookup _ = _; rw [hs]; exact h1) hd
  refine formatField_str (fun t' tk' => ?_) (by rw [sizeLine_eq]; omega)
  refine ⟨by rw [sizeLine_eq, Str.length_append, Str.length_append]; omega, ?_⟩
  refine joinParts_nilE (joinParts_nil ?_ ?_)
  · exact hQ _ _ rfl e0.bare (.of fun _ _ e => e)
  · rw [sizeLine_eq, Str.length_append, Str.length_append]; omega
/-! ### isinstance(e, CLASS) of a caught error that keeps values -/
structure ExcD (K : PySem.W.Frag) (D : Addr) : Prop where
  cl : (PySem.W.clsIn K D).isSome = true
  ga : PySem.W.findIn K (.ref D) "__getattribute__" = some (some (.builtin "BaseException.__getattribute__"))
  gg : PySem.W.findIn K (.ref D) "__getattr__" = some none
  ex : PySem.W.subIn K (.ref D) (.type "BaseException") = some true
  cc : PySem.W.findIn K (.ref D) "__class__" = some (some (.builtin "object.__class__"))
  sp : PySem.W.specialIn K (.builtin "object.__class__") "__get__" = some (some (.builtin "getset_descriptor.__get__"))
  tk : PySem.W.takesIn K (.builtin "object.__class__") = some true
  mo : PySem.W.mroIn K D (.type "object") = some true
def rIsD (K : PySem.W.Frag) (D : Addr) (a : Addr) (cls : Value) (d : Option Addr) : List V → Hp → VK → Prop := fun xs H Q =>
  ∃ c cv b dd fl, xs = [.ref a, c] ∧ cls = .ref D ∧ d = some dd ∧ (∀ u, RelV c u → u = cv) ∧ PySem.W.kitOne K (.ref D) cv = some b ∧ H dd = some (.xd fl) ∧ Q (.bl b) H
theorem call_isD {X : Cx} {a D : Addr} {cls : Value} {do_ : Option Addr} {oe : Obj} {pn : List (Addr × Obj)} (C : ExcD X.K D) (hz : Zc cls do_ oe) (hf : ∃ vs, oe.data = .fields vs) :
    CallR (X.suite a ((a, oe) :: pn)) (.builtin "isinstance") (rIsD X.K D a cls do_) := by
  intro pins s σ H xs us Q I r h
  obtain ⟨c, cv, b, d, fl, rfl, rfl, rfl, hcv, e, hd, q⟩ := h
  cases r with
  | cons rx rr =>
    cases rr with
    | cons rt rn =>
      cases rn
      obtain rfl := hcv _ rt
      obtain rfl : _ = Value.ref a := rx
      obtain ⟨ha, _⟩ := I.pin (a, oe) (List.mem_append_left _ List.mem_cons_self)
      obtain ⟨vs, hv⟩ := hf
      have hx : ObjOk X.prog X.w H s.heap d (.xd fl) := I.hok d _ hd
      obtain ⟨mA, hns, hr⟩ := hx
      obtain ⟨od, ho, hl⟩ := lookIn_ns hns
      have J : PySem.W.InstAt s.heap a oe D (some od) := ⟨ha, hz.1, by unfold PySem.W.notCls; rw [hv] <;> rfl, by rw [hz.2]; exact ho⟩
      exact PySem.W.kia_one (PySem.W.kitx_exc C.cl C.ga C.gg C.ex C.cc C.sp C.tk C.mo) I.kIn J e (by intro z; cases z) fun tk => ⟨V.bl b, H, I.tok _, rfl, q⟩
end
end L2
namespace Mine
open PySem
/-- an error of the class at S is what the clause that names S takes -/
theorem exm_own {K : PySem.W.Frag} {S : Addr} (h1 : PySem.W.subIn K (.ref S) (.type "BaseException") = some true) (h2 : PySem.W.isClsIn K S = true) (h3 : PySem.W.typeIn K (.ref S) = some (.type "type")) (h4 : PySem.W.subIn K (.ref S) (.ref S) = some true) :
    PySem.W.exmOne K (.ref S) (.ref S) = some true := by
  have e1 : (PySem.W.subIn K (.ref S) (.type "BaseException") == some true) = true := by rw [h1] <;> rfl
  have e2 : ((PySem.W.clsIn K S).isSome && PySem.W.typeIn K (.ref S) == some (.type "type")) = true := by
    have h2' : (PySem.W.clsIn K S).isSome = true := h2
    rw [h2', h3] <;> rfl
  show (if (PySem.W.subIn K (.ref S) (.type "BaseException") == some true) = true then (if ((PySem.W.clsIn K S).isSome && PySem.W.typeIn K (.ref S) == some (.type "type")) = true then PySem.W.subIn K (.ref S) (.ref S) else none) else none) = some true
  rw [if_pos e1, if_pos e2]
  exact h4
end Mine

set_option Elab.async false
set_option linter.all false
set_option maxRecDepth 100000
namespace L2
open PySem PySem.Spec PyProof.Rows
/-! an own object, and a method, whose def may raise, within a try's body -/
section
variable {X : Cx} {CX : CXT} {lv : Nat} {fa cA : Addr} {fd : FuncData} {pn : List Str} {sp : Sp} {nm mm : Str} {p1 p2 p3 : Pos} {e1 oe : Expr} {er : List Expr} {to' : TE} {tr : TA}
theorem mkS_run {EE : XK} {pins : List (Addr × Obj)} {σ : St} {H : Hp} {s : Shared} {Q : VK} {us : List Value} {vs : List V}
    (M : Mk X.K cA fa) (F : FnOk X.prog X.w X.K X.mg X.base CX lv fa fd pn sp) (rm : Room (lv + 1) X.A)
    (bi : Binds X.K fd pn []) (out : PassesAt CX X σ EE) (I : Inv X pins σ H s) (r : Vals vs us)
    (h : ∀ x dx, H x = none → H dx = none → dx ≠ x →
      sp (.ref x :: vs) (upd (upd H dx (.own x)) x (.ins cA dx [])) (fun v H2 => v = .non ∧ Q (.ref x) H2) EE) :
    wpAny (model X.prog X.w) X.A (call (.ref cA) us) (EP X pins σ Q) X.xe s := by
  have J := Inv.made (C := cA) I
  obtain ⟨n, en⟩ : ∃ n, n = s.heap.objs.size := ⟨_, rfl⟩
  have q0 := h _ _ (I.hok.fresh (Nat.le_succ _)) (I.hok.fresh (Nat.le_refl _)) (Nat.ne_of_lt (Nat.lt_succ_self _))
  have rr : Vals (V.ref (s.heap.objs.size + 1) :: vs) (Value.ref (s.heap.objs.size + 1) :: us) := .cons rfl r
  have ln : (Value.ref (s.heap.objs.size + 1) :: us).length = pn.length :=
    rr.length.symm.trans (F.len _ _ _ _ q0)
  have bb := bi _ (Value.ref (s.heap.objs.size + 1) :: us) J.kIn (by rw [List.append_nil]; exact ln)
  rw [List.append_nil] at bb
  have run := F.run _ X.stack _ _ ⟨Value.ref (s.heap.objs.size + 1) :: us, []⟩ _ _ _ EE
    (rm.make cA us []) (J.env0.make cA us []) bb rr q0
  refine wpAny_call (make_map (f := fa) I.kIn M.makes M.init (beq_iff_eq.mp M.fn) (codeAny_mono run fun res s' got => ?_))
  match res, got with
  | .error e, got => exact out pins _ _ e s' J got
  | .ok (.ret u), got =>
    obtain ⟨v, H', J3, rv, ev, q3⟩ := J.after got
    rw [ev] at rv
    exact ⟨rv, V.ref (s.heap.objs.size + 1), H', J3, rfl, q3⟩
  | .ok .next, got => cases got
  | .ok .brk, got => cases got
  | .ok .cont, got => cases got
def tMakeS (C : Addr) (sp : Sp) (E : St → XK) (t : TA) : TE := fun σ H Q => t σ H fun vs H1 => ∀ x dx, H1 x = none → H1 dx = none → dx ≠ x →
  sp (.ref x :: vs) (upd (upd H1 dx (.own x)) x (.ins C dx [])) (fun v H2 => v = .non ∧ Q (.ref x) H2) (E σ)
theorem pe_makeS {EE : St → XK} (M : Mk X.K cA fa) (F : FnOk X.prog X.w X.K X.mg X.base CX lv fa fd pn sp)
    (rm : Room (lv + 1) X.A) (hg : Gl X nm) (hm : X.mg nm = some (.ref cA)) (bi : Binds X.K fd pn [])
    (out : ∀ σ, PassesAt CX X σ (EE σ)) (ha : PA X (e1 :: er) tr) (nd : (nm == ("__debug__" : Str)) = false := by decide)
    (t1 : starEach (e1 :: er) X.env = (false, eval e1 X.env) :: starEach er X.env := by rfl)
    (t2 : (backTo p2 (starEach er X.env)).any (·.1) = false := by rfl) :
    PE X (.Call (.Name nm p1) (e1 :: er) [] p2) (tMakeS cA sp EE tr) := by
  constructor
  intro pins s σ H Q I h
  refine wpAny_Call_Name_kw (ld_glob I hg hm (PySem.W.callWith_K (h₀ := X.base) I.ok.mod.kin M.kp ?_ t1 t2) nd)
  exact thn (ha.run p2 pins s σ H _ I h) fun us s1 ⟨vs, H1, I1, r, q⟩ => ⟨I1.kIn, mkS_run M F rm bi (out σ) I1 r q⟩
def tMethX (C : Addr) (m : Str) (sp : Sp) (E : St → XK) (ta : TE) (t : TA) : TE := fun σ H Q => ta σ H fun x H1 => ∃ a dx fs, x = .ref a ∧ H1 a = some (.ins C dx fs) ∧ fs.lookup m = none ∧
  t σ H1 fun vs H2 => sp (x :: vs) H2 Q (E σ)
theorem pe_methX {EE : St → XK} {pl : Sem Bool} (ho : PE X oe to') (c : Cls X.K cA) (hm : Meth X.K cA mm fa)
    (F : FnOk X.prog X.w X.K X.mg X.base CX lv fa fd pn sp) (rm : Room lv X.A) (bi : Binds X.K fd pn [])
    (out : ∀ σ, PassesAt CX X σ (EE σ)) (ha : PA X (e1 :: er) tr)
    (t1 : starEach (e1 :: er) X.env = (false, eval e1 X.env) :: starEach er X.env := by rfl)
    (t2 : (backTo p2 (starEach er X.env)).any (·.1) = false := by rfl)
    (ev : eval (.Call (.Attribute oe mm p3) (e1 :: er) [] p2) X.env = (do
      let ov ← eval oe X.env
      standAt p3.atName
      let (f, first) ← holding [ov] (getMethod ov mm pl)
      callWith p2 f first (backTo p2 (starEach (e1 :: er) X.env)) (backToKw p2 (keywordEach [] X.env))) := by rfl) :
    PE X (.Call (.Attribute oe mm p3) (e1 :: er) [] p2) (tMethX cA mm sp EE to' tr) := by
  constructor
  intro pins s σ H Q I h
  refine PySem.W.methodCall_KW (pl := pl) (thn (ho.run pins s σ H _ I h) fun u s1 got => ?_) ev
  obtain ⟨x, H1, I1, rx, a, dx, fs, rfl, ea, l, q⟩ := got
  cases (show u = Value.ref a from rx)
  refine getmeth_ok I1 ea c hm l (PySem.W.callWith_K (first := [.ref a]) (h₀ := X.base) I.ok.mod.kin hm.kp ?_ t1 t2)
  exact thn (ha.run p2 pins s1 σ H1 _ I1 q) fun us s2 ⟨vs, H2, I2, r, q2⟩ => ⟨I2.kIn, run_fnS (us := .ref a :: us) (vs := .ref a :: vs) F rm bi (out σ) I2 (.cons rfl r) q2⟩
end
end L2

set_option Elab.async false
set_option linter.all false
set_option maxRecDepth 100000
namespace L2
open PySem PySem.Spec PySem.Calls PyProof.Rows
/-! an own object without a == of its own, against an integer -/
theorem int_eq_declines_ins (b : Int) (u : Tok) (a C dx : Addr) :
    Meets (Builtin.«int.__eq__» ⟨[.int b u, .ref a], []⟩) (fun _ R s => s.heap.get? a = some (PySem.W.instObj C dx) ∧ R (.ok (.ret .notImplemented)) s) :=
  .of_wp fun prog w A R s h => by
    obtain ⟨hp, g, d, tk, os⟩ := s
    obtain ⟨hl, h⟩ := h
    unfold PySem.W.instObj at hl
    wp_walk using wpAny_loadPart' hl, wpAny_load hl
    exact ⟨_, rfl, h⟩
section
variable {prog : Program} {w : World} {A : Around} {E : Value → Shared → Prop} {s : Shared} {K : PySem.W.Frag} {x C dx : Addr} {od : Option Obj}
theorem ifBound_B {name : Str} {id : String} {args : List Value} {Q : Option Value → Shared → Prop} (X : K.In s.heap) (I : PySem.W.InstAt s.heap x (PySem.W.instObj C dx) C od)
    (hs : PySem.W.findIn K (.ref C) name = some (some (.builtin id))) (hb : ∀ self, bindSpecial (.builtin id) self = pure (.builtin id, [self]))
    (h : wpAny (model prog w) A (call (.builtin id) (.ref x :: args)) (fun v => Q (some v)) E s) : wpAny (model prog w) A (callSpecialIfBound? (.ref x) name args) Q E s := by
  simp only [callSpecialIfBound?, bindSpecialIfBound?]
  refine wpAny_holding (wpAny_bind (wpAny_bind (wpAny_bind (I.type.here ((PySem.W.looks_findIn X hs).here ?_)))))
  simp only [hb]
  refine wpAny_bind (wpAny_askSetting (wpAny_ite ?_))
  have fin : wpAny (model prog w) A (call (.builtin id) ([.ref x] ++ args) >>= fun v => pure (some v)) Q E s := wpAny_bind (wpAny_mono h (fun v s' h' => wpAny_pure h') fun _ _ h' => h')
  split
  · exact wpAny_bind (wpAny_pure (by exact wpAny_pure fin))
  · exact wpAny_tryCatch (wpAny_bind (wpAny_pure (by exact wpAny_pure fin)))
theorem call_objEq_int {n : Int} {t : Tok} {Q : Value → Shared → Prop} (X : K.In s.heap) (I : PySem.W.InstAt s.heap x (PySem.W.instObj C dx) C od)
    (ho : PySem.W.mroIn K C (.type "object") = some true) (hq : Q .notImplemented s) :
    wpAny (model prog w) A (call (.builtin "object.__eq__") [.ref x, .int n t]) Q E s := by
  refine wpAny_call (codeAny_call_builtin F.cmp_object.eq.plain F.cmpEntry_eq ?_)
  simp only [checkBuiltinCall, F.cmpKind_eq, F.cmpSplit_eq]
  refine wpAny_bind ?_
  unfold isInstance
  refine wpAny_bind (I.type.here ((PySem.W.looks_subIn (t := .ref C) X ho).here ?_))
  have body : wpAny (model prog w) A.in1 (Builtin.«object.__eq__» ⟨[.ref x, .int n t], []⟩) (fun fin s' => fin = .done (.ret .notImplemented) ∧ s' = s) E s := by
    unfold Builtin.«object.__eq__»
    have q : isSame (.ref x) (.int n t) = pure false := rfl
    repeat (first | rw [q] | wp_step)
    exact ⟨rfl, rfl⟩
  have fin : wpAny (model prog w) A.in1 (Builtin.«object.__eq__» ⟨[.ref x, .int n t], []⟩) (fun fin s' => match fin with
      | .done f => (match (Except.ok f : Result) with | .ok (.ret v) => Q v s' | .ok _ => False | .error e => E e s')
      | .again c' => c'.quiet = true ∧ codeAny (model prog w) A c' (fun r s' => match r with | .ok (.ret v) => Q v s' | .ok _ => False | .error e => E e s') s') (fun e s' => E e s') s :=
    wpAny_mono body (fun f s' h => by obtain ⟨rfl, rfl⟩ := h; exact hq) (fun _ _ e => e)
  cases hsig : Manifest.signature? "object.__eq__" with
  | none => exact wpAny_pure fin
  | some sig =>
    have ha := F.cmpArgs_eq (.ref x) (.int n t)
    simp only [argsOk, hsig] at ha
    have h2 : Bind.checkArgs "object.__eq__" sig ⟨[.ref x, .int n t], []⟩ = pure () := ha
    show wpAny (model prog w) A.in1 (Bind.checkArgs "object.__eq__" sig ⟨[.ref x, .int n t], []⟩) _ _ s
    rw [h2]
    exact wpAny_pure fin
theorem richCompare_inst_int {n : Int} {t : Tok} {Q : Value → Shared → Prop} (hu : A.units < cLine) (X : K.In s.heap) (I : PySem.W.InstAt s.heap x (PySem.W.instObj C dx) C od)
    (hs : PySem.W.findIn K (.ref C) "__eq__" = some (some (.builtin "object.__eq__"))) (ho : PySem.W.mroIn K C (.type "object") = some true)
    (hn : PySem.W.subIn K (.type "int") (.ref C) = some false) (hq : Q (.bool false) s) : wpAny (model prog w) A (richCompare .Eq (.ref x) (.int n t)) Q E s := by
  unfold richCompare
  simp only [oneThing_ref]
  refine wpAny_holding (wpAny_bind (wpAny_cRoomFor hu ?_))
  refine wpAny_bind (I.type.here (wpAny_bind (wpAny_typeOf (typeIs_int s n t) ?_)))
  have e1 : (Value.ref C != Value.type "int") = true := by rfl
  simp only [e1, if_true]
  refine wpAny_bind ((PySem.W.looks_subIn X hn).here ?_)
  simp only [Bool.false_eq_true, if_false, Bool.not_false, if_true]
  refine wpAny_bind (m := tryCompare (.ref x) _ (.int n t)) ?_
  unfold tryCompare
  refine wpAny_bind (ifBound_B X I hs F.cmp_object.eq.bind (call_objEq_int X I ho ?_))
  refine wpAny_pure ?_
  refine wpAny_bind (m := tryCompare (.int n t) _ (.ref x)) (wpAny_tryCompare_declines (typeIs_int s n t) F.slot_int_eq_refl (call_meets F.slot_int_eq_refl (typeIs_int s n t) F.entry_int_eq (F.args_int_eq_2 _ _) (int_eq_declines_ins n t x C dx) ⟨I.at_, rfl, ?_⟩))
  exact wpAny_bind (wpAny_rule (wpAny_bind (wpAny_of_eq (rfl : isSame (.ref x) (.int n t) = pure false) (wpAny_pure hq))))
end
structure ClsEq (K : PySem.W.Frag) (C : Addr) : Prop where
  eq : PySem.W.findIn K (.ref C) "__eq__" = some (some (.builtin "object.__eq__"))
  ob : PySem.W.mroIn K C (.type "object") = some true
  nt : PySem.W.subIn K (.type "int") (.ref C) = some false
section
variable {X : Cx}
def rEqOI (C : Addr) : R2 := fun x y H Q => ∃ (a dx : Addr) (fs : List (Str × V)) (i : Int), x = .ref a ∧ y = .int i ∧ H a = some (.ins C dx fs) ∧ Q (.bl false) H
theorem op_eqOI {C : Addr} (q : ClsEq X.K C) (hu : X.A.units < cLine) : OpR X (compareOp .Eq) (rEqOI C) := by
  intro pins s σ H x y v u Q I rx ry h
  obtain ⟨a, dx, fs, i, rfl, rfl, ha, hq⟩ := h
  cases (show v = Value.ref a from rx)
  obtain ⟨t, rfl⟩ := ry
  obtain ⟨mA, J, _⟩ := ins_get I.hok ha
  obtain ⟨od, J, _⟩ := J.look
  exact richCompare_inst_int hu I.kIn J q.eq q.ob q.nt ⟨.bl false, H, I, rfl, hq⟩
/-! ### len(set(xs)) for any ints -/
def distinct (ns : List Int) : Nat := (firstMet (fun i => ns.getD i 0) ns.length).length
theorem distinct_nodup {ns : List Int} (h : ns.Nodup) : distinct ns = ns.length := by
  unfold distinct
  rw [firstMet_nodup ns h ns.length (Nat.le_refl _), List.take_length]
theorem distinct_two {x : Int} : distinct [x, x] = 1 := by
  simp [distinct, firstMet, step_dedup, List.range_succ]
def tLenSetD (K : PySem.W.Frag) (ta : TE) : TE := fun σ H Q => ta σ H fun x H1 => ∃ (l : Addr) (ns : List Int), x = V.ref l ∧ SqL K H1 l (ns.map V.int) ∧ ns.length < 64 ∧ Q (.int (distinct ns)) H1
theorem pe_lenSetD {a : Expr} {ta : TE} {p p2 q pos : Pos} (hc : X.calm = true) (hg : Gl X "len") (hm : X.mg "len" = none) (hg2 : Gl X "set") (hm2 : X.mg "set" = none) (ha : PE X a ta)
    (na : starEach [a] X.env = (false, eval a X.env) :: starEach [] X.env := by rfl) : PE X (.Call (.Name "len" p) [.Call (.Name "set" p2) [a] [] q] [] pos) (tLenSetD X.K ta) := by
  refine ⟨fun pins s σ H Q I h => ?_⟩
  refine Call_ (ld_blt I hg hm PySem.boot_len ?_)
  refine PyProof.Rows.callWith_builtin1 (PyProof.Rows.args_cons ?_ rfl) rfl rfl
  refine Call_ (ld_blt I hg2 hm2 PyProof.Rows.boot_set ?_)
  refine PyProof.Rows.callWith_type1 (PyProof.Rows.args_cons (thn (ha.run pins s σ H _ I h) fun v s1 ⟨x, H1, I1, r1, q1⟩ => PyProof.Rows.args_nil ?_) na) na rfl
  obtain ⟨l, ns, rfl, hq, h1, q1⟩ := q1
  cases r1
  obtain ⟨its, r, pl, hz⟩ := I1.list hq
  have hl : its.toArray.size = ns.length := by rw [List.size_toArray, ← r.length, List.length_map]
  refine call_set_list (I1.ok.hd hc) pl.isList (ns := ns) (by simpa using r.ints) (by unfold scanBound; omega) fun h' tk hS hk => ?_
  rw [hl] at hS
  refine PyProof.Rows.args_nil ?_
  obtain ⟨o, es, ep, t, ho, hex, hd, _, _, _, hf, hn⟩ := hS
  have I2 : Inv X pins σ H1 { s1 with heap := h', toks := tk } := I1.kept fun b o e => hk b o (Heap.lt_size e) e
  have dl : (firstMet (fun i => ns.getD i 0) ns.length).length < 64 := Nat.lt_of_le_of_lt (firstMet_length_le _ _) h1
  refine call_len_set ho hex hd hf (by rw [hn] <;> omega) ⟨.int (distinct ns), H1, I2.tok _, ⟨_, by rw [hn]; rfl⟩, q1⟩
end
theorem for_enum {K : PySem.W.Frag} {a : Addr} {xs : List V} {g : TG} {tb : TS} {D : Ends} {σ : St} {H : Hp} (Pv : Nat → St → Hp → Prop) (h0 : Pv 0 σ H) (hl : ∀ i σ H, i ≤ xs.length → Pv i σ H → SqL K H a xs)
    (hs : ∀ (i : Nat) x T σ H, xs[i]? = some x → Pv i σ H → H T = none → g (.ref T) σ (upd H T (.tup [.int i, x])) fun σ2 H2 => tb { D with nx := Pv (i + 1), ct := Pv (i + 1), bk := D.nx } σ2 H2) (hd : ∀ σ H, Pv xs.length σ H → D.nx σ H) :
    ∃ W : Nat → Nat → St → Hp → Prop, (∃ m, W 0 m σ H) ∧ ∀ i m σ H, W i m σ H →
      ((Ite K a).stop i H ∧ D.nx σ H) ∨ ((Ite K a).go i H ∧ ∃ N : St → Hp → Prop, (∀ σ' H', N σ' H' → ∃ m', m' < m ∧ W (i + 1) m' σ' H') ∧ ∀ x H', (Ite K a).yld i H x H' → g x σ H' fun σ2 H2 => tb { D with nx := N, ct := N, bk := D.nx } σ2 H2) := by
  refine ⟨fun i m σ H => m = xs.length - i ∧ i ≤ xs.length ∧ Pv i σ H, ⟨xs.length, by simp, Nat.zero_le _, h0⟩, ?_⟩
  rintro i m σ H ⟨rfl, hi, p⟩
  have q := hl i σ H hi p
  by_cases hlt : i < xs.length
  · refine .inr ⟨⟨xs, xs[i], q, by simp [hlt]⟩, Pv (i + 1), fun σ' H' p' => ⟨xs.length - (i + 1), by omega, rfl, hlt, p'⟩, fun x H' y => ?_⟩
    obtain ⟨T, v, rfl, n, rfl, y⟩ := y
    exact hs i v T σ H (y xs q) p n
  · have e : i = xs.length := by omega
    subst e
    exact .inl ⟨⟨xs, q, Nat.le_refl _⟩, hd σ H p⟩
end L2

set_option Elab.async false
set_option linter.all false
set_option maxRecDepth 100000
namespace Rd
open PySem PySem.Spec PyProof.Rows L2
variable {K : PySem.W.Frag} {σ : L2.St} {H : Hp} {D : Ends} {Q : VK} {ta tb te tc : TE} {t u c : TT} {ts tu : TS} {g : TG} {x y v : V} {vs : List V} {tr : TA} {a b : Option V} {r : L2.St}
theorem seq (h : ts { D with nx := tu D } σ H) : tSeq ts tu D σ H := h
theorem next (h : D.nx σ H) : tNext D σ H := h
theorem brk (h : D.bk σ H) : tBreak D σ H := h
theorem cont (h : D.ct σ H) : tCont D σ H := h
theorem asg (h : te σ H fun x H1 => g x σ H1 D.nx) : tAsg te g D σ H := h
theorem ret (h : te σ H D.rt) : tRet te D σ H := h
theorem retN (h : D.rt .non H) : tRetN D σ H := h
theorem drop (h : te σ H fun _ H1 => D.nx σ H1) : tDrop te D σ H := h
theorem ifs (h : c σ H fun b H1 => if b = true then ts D σ H1 else tu D σ H1) : tIfS c ts tu D σ H := h
theorem ife (h : t σ H fun b H1 => if b = true then ta σ H1 Q else tb σ H1 Q) : tIf t ta tb σ H Q := h
theorem test {Q : Bool → Hp → Prop} (h : te σ H fun x H1 => ∃ k, x = .bl k ∧ Q k H1) : tTest te σ H Q := h
theorem tb_ {Q : Bool → Hp → Prop} (h : te σ H fun x H1 => ∃ k, x = .bl k ∧ Q k H1) : tB te σ H Q := h
theorem bl {b : Bool} {Q : Bool → Hp → Prop} (h : Q b H) : ∃ k, V.bl b = .bl k ∧ Q k H := ⟨b, rfl, h⟩
theorem bl2 {b : Bool} {P : Bool → Prop} (h : P b) : ∃ k, V.bl b = .bl k ∧ P k := ⟨b, rfl, h⟩
theorem and_ {Q : Bool → Hp → Prop} (h : t σ H fun c H1 => if c = true then u σ H1 Q else Q false H1) : tAnd t u σ H Q := h
theorem or_ {Q : Bool → Hp → Prop} (h : t σ H fun c H1 => if c = true then Q true H1 else u σ H1 Q) : tOr t u σ H Q := h
theorem not_ {Q : Bool → Hp → Prop} (h : t σ H fun c H1 => Q (!c) H1) : tNot t σ H Q := h
theorem andV (h : ta σ H fun x H1 => ∃ c, x = .bl c ∧ if c = true then tb σ H1 Q else Q (.bl false) H1) : tAndV ta tb σ H Q := h
theorem orV (h : ta σ H fun x H1 => ∃ c, x = .bl c ∧ if c = true then Q (.bl true) H1 else tb σ H1 Q) : tOrV ta tb σ H Q := h
theorem notV (h : ta σ H fun x H1 => ∃ c, x = .bl c ∧ Q (.bl (!c)) H1) : tNotV ta σ H Q := h
theorem op {r : R2} (h : ta σ H fun x H1 => tb σ H1 fun y H2 => r x y H2 Q) : tOp r ta tb σ H Q := h
theorem un {r : V → Hp → VK → Prop} (h : ta σ H fun x H1 => r x H1 Q) : tUn r ta σ H Q := h
theorem I0 {f : Int → Int → V} {i j : Int} (h : Q (f i j) H) : rI0 f (.int i) (.int j) H Q := ⟨i, j, rfl, rfl, h⟩
theorem I {C : Int → Int → Prop} {f : Int → Int → V} {i j : Int} (c : C i j) (h : Q (f i j) H) : rI C f (.int i) (.int j) H Q := ⟨i, j, rfl, rfl, c, h⟩
theorem U {f : Int → V} {i : Int} (h : Q (f i) H) : rU f (.int i) H Q := ⟨i, rfl, h⟩
theorem ip {f : Int → Int → Int} {i j : Int} (h : Q (.int (f i j)) H) : ipI f (.int i) (.int j) H Q := ⟨i, j, rfl, rfl, h⟩
theorem eq (s : scal x y = true) (h : Q (.bl (decide (x = y))) H) : rEq x y H Q := ⟨s, h⟩
theorem ne (s : scal x y = true) (h : Q (.bl (!decide (x = y))) H) : rNe x y H Q := ⟨s, h⟩
theorem c_ (h : Q v H) : tC v σ H Q := h
theorem nil {Q : List V → Hp → Prop} (h : Q [] H) : tNil σ H Q := h
theorem cons {Q : List V → Hp → Prop} (h : ta σ H fun x H1 => tr σ H1 fun xs H2 => Q (x :: xs) H2) : tCons ta tr σ H Q := h
theorem tup (h : tr σ H fun xs H1 => xs.length ≤ sizeLine ∧ ∀ p, H1 p = none → Q (.ref p) (upd H1 p (.tup xs))) : tTup tr σ H Q := h
theorem lst (h : tr σ H fun xs H1 => xs.length ≤ sizeLine ∧ ∀ p, H1 p = none → Q (.ref p) (upd H1 p (.lst xs))) : tLst tr σ H Q := h
theorem newT {xs : List V} (s : xs.length ≤ sizeLine) (h : ∀ p, H p = none → Q (.ref p) (upd H p (.tup xs))) : xs.length ≤ sizeLine ∧ ∀ p, H p = none → Q (.ref p) (upd H p (.tup xs)) := ⟨s, h⟩
theorem newL {xs : List V} (s : xs.length ≤ sizeLine) (h : ∀ p, H p = none → Q (.ref p) (upd H p (.lst xs))) : xs.length ≤ sizeLine ∧ ∀ p, H p = none → Q (.ref p) (upd H p (.lst xs)) := ⟨s, h⟩
theorem szA {xs : List V} {A : Prop} (s : xs.length ≤ sizeLine) (h : A) : xs.length ≤ sizeLine ∧ A := ⟨s, h⟩
theorem call {sp : Sp} {dvs : List V} {E : XK} (h : tr σ H fun vs H1 => sp (vs ++ dvs) H1 Q E) : tCall sp dvs E tr σ H Q := h
theorem cb {f : List V → Hp → VK → Prop} (h : tr σ H fun vs H1 => f vs H1 Q) : tCB f tr σ H Q := h
theorem bm {T : String} {f : V → List V → Hp → VK → Prop} (h : te σ H fun x H1 => tyV K T x H1 ∧ tr σ H1 fun xs H2 => f x xs H2 Q) : tBM K T f te tr σ H Q := h
theorem bm0 {T : String} {f : V → List V → Hp → VK → Prop} (h : te σ H fun x H1 => tyV K T x H1 ∧ f x [] H1 Q) : tBM0 K T f te σ H Q := h
theorem tyL {p : Addr} {xs : List V} {A : Prop} (s : H p = some (.lst xs)) (h : A) : tyV K "list" (.ref p) H ∧ A := ⟨.inl ⟨rfl, _, SqL.of s⟩, h⟩
theorem tyLq {p : Addr} {xs : List V} {A : Prop} (s : SqL K H p xs) (h : A) : tyV K "list" (.ref p) H ∧ A := ⟨.inl ⟨rfl, _, s⟩, h⟩
theorem tyS {z : Str} {A : Prop} (h : A) : tyV K "str" (.str z) H ∧ A := ⟨rfl, h⟩
theorem app {l : Addr} {xs : List V} (h : H l = some (.lst xs)) (s : xs.length < sizeLine) (q : Q .non (upd H l (.lst (xs ++ [y])))) : rAppend (.ref l) [y] H Q := ⟨l, xs, y, rfl, rfl, h, s, q⟩
theorem sl {f : V → Option Int → Option Int → Hp → VK → Prop} {tl th : TO} (h : te σ H fun x H1 => tl σ H1 fun l H2 => th σ H2 fun u H3 => f x l u H3 Q) : L2.tSl f te tl th σ H Q := h
theorem nopart {Q : Option Int → Hp → Prop} (h : Q none H) : tNoPart σ H Q := h
theorem part {Q : Option Int → Hp → Prop} (h : te σ H fun x H1 => ∃ i, x = .int i ∧ Q (some i) H1) : tPart te σ H Q := h
theorem int1 {i : Int} {P : Int → Prop} (h : P i) : ∃ j, V.int i = .int j ∧ P j := ⟨i, rfl, h⟩
theorem ints1 {i : Int} {P : Int → Prop} (h : P i) : ∃ j, [V.int i] = [.int j] ∧ P j := ⟨i, rfl, h⟩
theorem ints2 {i j : Int} {P : Int → Int → Prop} (h : P i j) : ∃ a b, [V.int i, V.int j] = [.int a, .int b] ∧ P a b := ⟨i, j, rfl, h⟩
theorem ixLq {p : Addr} {xs : List V} {i : Int} (h : SqL K H p xs) (e : atI xs i = some v) (q : Q v H) : rIxL K (.ref p) (.int i) H Q := ⟨p, xs, i, v, rfl, rfl, h, e, q⟩
theorem ixL {p : Addr} {xs : List V} {i : Int} (h : H p = some (.lst xs)) (e : atI xs i = some v) (q : Q v H) : rIxL K (.ref p) (.int i) H Q := ⟨p, xs, i, v, rfl, rfl, SqL.of h, e, q⟩
theorem ixT {p : Addr} {xs : List V} {i : Int} (h : H p = some (.tup xs)) (e : atI xs i = some v) (q : Q v H) : rIxT K (.ref p) (.int i) H Q := ⟨p, xs, i, v, rfl, rfl, SqT.of h, e, q⟩
theorem ixTq {p : Addr} {xs : List V} {i : Int} (h : SqT K H p xs) (e : atI xs i = some v) (q : Q v H) : rIxT K (.ref p) (.int i) H Q := ⟨p, xs, i, v, rfl, rfl, h, e, q⟩
theorem gtup {p : Addr} {xs : List V} {n : Nat} {f : TGs} {Q : L2.St → Hp → Prop} (h : H p = some (.tup xs)) (l : xs.length = n) (q : f xs σ H Q) : gTup K n f (.ref p) σ H Q := ⟨p, xs, rfl, SqT.of h, l, q⟩
theorem gtupq {p : Addr} {xs : List V} {n : Nat} {f : TGs} {Q : L2.St → Hp → Prop} (h : SqT K H p xs) (l : xs.length = n) (q : f xs σ H Q) : gTup K n f (.ref p) σ H Q := ⟨p, xs, rfl, h, l, q⟩
theorem yes {Q : Bool → Hp → Prop} (h : Q true H) : tYes σ H Q := h
theorem gcons {f : TGs} {Q : L2.St → Hp → Prop} (q : g v σ H fun σ' H' => f vs σ' H' Q) : gCons g f (v :: vs) σ H Q := ⟨v, vs, rfl, q⟩
theorem gnil {Q : L2.St → Hp → Prop} (q : Q σ H) : gNil [] σ H Q := ⟨rfl, q⟩
theorem sub {to ti : TE} {f : TSet} {Q : L2.St → Hp → Prop} (h : to σ H fun o H1 => ti σ H1 fun i H2 => f o i v H2 fun H3 => Q σ H3) : gSub to ti f v σ H Q := h
theorem setL {l : Addr} {xs : List V} {j : Nat} {i : Int} {Q : Hp → Prop} (h : H l = some (.lst xs)) (e : ixN xs.length i = some j) (q : Q (upd H l (.lst (xs.set j v)))) : rSetL (.ref l) (.int i) v H Q := ⟨l, xs, i, j, rfl, rfl, h, e, q⟩
theorem isN (h : ta σ H fun x H1 => Q (.bl (decide (x = .non))) H1) : tIsN ta σ H Q := h
theorem rf {α : Type} {a : α} {A : Prop} (h : A) : a = a ∧ A := ⟨rfl, h⟩
theorem sz {n : Nat} (h : n ≤ 100000) : n ≤ sizeLine := Nat.le_trans h (by decide)
theorem szl {n : Nat} (h : n < 100000) : n < sizeLine := Nat.lt_of_lt_of_le h (by decide)
theorem chain {r r' : R2} (h : ta σ H fun x H1 => tb σ H1 fun y H2 => r x y H2 fun z H3 => ∃ k, z = .bl k ∧ if k = true then tc σ H3 fun w H4 => r' y w H4 Q else Q (.bl false) H3) : tChain r r' ta tb tc σ H Q := h

theorem v0 (h : Q v H) : tVar 0 (some v :: r) H Q := ⟨v, rfl, h⟩
theorem n0 {Q : L2.St → Hp → Prop} (h : Q (some v :: r) H) : gName 0 v (a :: r) H Q := h
theorem g0 {ti : TIp} (h : te (some x :: r) H fun y H1 => ti x y H1 fun z H2 => D.nx (some z :: r) H2) : tAug 0 te ti D (some x :: r) H := ⟨x, rfl, h⟩
theorem v1 {a0 : Option V} (h : Q v H) : tVar 1 (a0 :: some v :: r) H Q := ⟨v, rfl, h⟩
theorem n1 {a0 : Option V} {Q : L2.St → Hp → Prop} (h : Q (a0 :: some v :: r) H) : gName 1 v (a0 :: a :: r) H Q := h
theorem g1 {a0 : Option V} {ti : TIp} (h : te (a0 :: some x :: r) H fun y H1 => ti x y H1 fun z H2 => D.nx (a0 :: some z :: r) H2) : tAug 1 te ti D (a0 :: some x :: r) H := ⟨x, rfl, h⟩
theorem v2 {a0 a1 : Option V} (h : Q v H) : tVar 2 (a0 :: a1 :: some v :: r) H Q := ⟨v, rfl, h⟩
theorem n2 {a0 a1 : Option V} {Q : L2.St → Hp → Prop} (h : Q (a0 :: a1 :: some v :: r) H) : gName 2 v (a0 :: a1 :: a :: r) H Q := h
theorem g2 {a0 a1 : Option V} {ti : TIp} (h : te (a0 :: a1 :: some x :: r) H fun y H1 => ti x y H1 fun z H2 => D.nx (a0 :: a1 :: some z :: r) H2) : tAug 2 te ti D (a0 :: a1 :: some x :: r) H := ⟨x, rfl, h⟩
theorem v3 {a0 a1 a2 : Option V} (h : Q v H) : tVar 3 (a0 :: a1 :: a2 :: some v :: r) H Q := ⟨v, rfl, h⟩
theorem n3 {a0 a1 a2 : Option V} {Q : L2.St → Hp → Prop} (h : Q (a0 :: a1 :: a2 :: some v :: r) H) : gName 3 v (a0 :: a1 :: a2 :: a :: r) H Q := h
theorem g3 {a0 a1 a2 : Option V} {ti : TIp} (h : te (a0 :: a1 :: a2 :: some x :: r) H fun y H1 => ti x y H1 fun z H2 => D.nx (a0 :: a1 :: a2 :: some z :: r) H2) : tAug 3 te ti D (a0 :: a1 :: a2 :: some x :: r) H := ⟨x, rfl, h⟩
theorem v4 {a0 a1 a2 a3 : Option V} (h : Q v H) : tVar 4 (a0 :: a1 :: a2 :: a3 :: some v :: r) H Q := ⟨v, rfl, h⟩
theorem n4 {a0 a1 a2 a3 : Option V} {Q : L2.St → Hp → Prop} (h : Q (a0 :: a1 :: a2 :: a3 :: some v :: r) H) : gName 4 v (a0 :: a1 :: a2 :: a3 :: a :: r) H Q := h
theorem g4 {a0 a1 a2 a3 : Option V} {ti : TIp} (h : te (a0 :: a1 :: a2 :: a3 :: some x :: r) H fun y H1 => ti x y H1 fun z H2 => D.nx (a0 :: a1 :: a2 :: a3 :: some z :: r) H2) : tAug 4 te ti D (a0 :: a1 :: a2 :: a3 :: some x :: r) H := ⟨x, rfl, h⟩
theorem v5 {a0 a1 a2 a3 a4 : Option V} (h : Q v H) : tVar 5 (a0 :: a1 :: a2 :: a3 :: a4 :: some v :: r) H Q := ⟨v, rfl, h⟩
theorem n5 {a0 a1 a2 a3 a4 : Option V} {Q : L2.St → Hp → Prop} (h : Q (a0 :: a1 :: a2 :: a3 :: a4 :: some v :: r) H) : gName 5 v (a0 :: a1 :: a2 :: a3 :: a4 :: a :: r) H Q := h
theorem g5 {a0 a1 a2 a3 a4 : Option V} {ti : TIp} (h : te (a0 :: a1 :: a2 :: a3 :: a4 :: some x :: r) H fun y H1 => ti x y H1 fun z H2 => D.nx (a0 :: a1 :: a2 :: a3 :: a4 :: some z :: r) H2) : tAug 5 te ti D (a0 :: a1 :: a2 :: a3 :: a4 :: some x :: r) H := ⟨x, rfl, h⟩
theorem v6 {a0 a1 a2 a3 a4 a5 : Option V} (h : Q v H) : tVar 6 (a0 :: a1 :: a2 :: a3 :: a4 :: a5 :: some v :: r) H Q := ⟨v, rfl, h⟩
theorem n6 {a0 a1 a2 a3 a4 a5 : Option V} {Q : L2.St → Hp → Prop} (h : Q (a0 :: a1 :: a2 :: a3 :: a4 :: a5 :: some v :: r) H) : gName 6 v (a0 :: a1 :: a2 :: a3 :: a4 :: a5 :: a :: r) H Q := h
theorem g6 {a0 a1 a2 a3 a4 a5 : Option V} {ti : TIp} (h : te (a0 :: a1 :: a2 :: a3 :: a4 :: a5 :: some x :: r) H fun y H1 => ti x y H1 fun z H2 => D.nx (a0 :: a1 :: a2 :: a3 :: a4 :: a5 :: some z :: r) H2) : tAug 6 te ti D (a0 :: a1 :: a2 :: a3 :: a4 :: a5 :: some x :: r) H := ⟨x, rfl, h⟩
theorem v7 {a0 a1 a2 a3 a4 a5 a6 : Option V} (h : Q v H) : tVar 7 (a0 :: a1 :: a2 :: a3 :: a4 :: a5 :: a6 :: some v :: r) H Q := ⟨v, rfl, h⟩
theorem n7 {a0 a1 a2 a3 a4 a5 a6 : Option V} {Q : L2.St → Hp → Prop} (h : Q (a0 :: a1 :: a2 :: a3 :: a4 :: a5 :: a6 :: some v :: r) H) : gName 7 v (a0 :: a1 :: a2 :: a3 :: a4 :: a5 :: a6 :: a :: r) H Q := h
theorem g7 {a0 a1 a2 a3 a4 a5 a6 : Option V} {ti : TIp} (h : te (a0 :: a1 :: a2 :: a3 :: a4 :: a5 :: a6 :: some x :: r) H fun y H1 => ti x y H1 fun z H2 => D.nx (a0 :: a1 :: a2 :: a3 :: a4 :: a5 :: a6 :: some z :: r) H2) : tAug 7 te ti D (a0 :: a1 :: a2 :: a3 :: a4 :: a5 :: a6 :: some x :: r) H := ⟨x, rfl, h⟩
theorem v8 {a0 a1 a2 a3 a4 a5 a6 a7 : Option V} (h : Q v H) : tVar 8 (a0 :: a1 :: a2 :: a3 :: a4 :: a5 :: a6 :: a7 :: some v :: r) H Q := ⟨v, rfl, h⟩
theorem n8 {a0 a1 a2 a3 a4 a5 a6 a7 : Option V} {Q : L2.St → Hp → Prop} (h : Q (a0 :: a1 :: a2 :: a3 :: a4 :: a5 :: a6 :: a7 :: some v :: r) H) : gName 8 v (a0 :: a1 :: a2 :: a3 :: a4 :: a5 :: a6 :: a7 :: a :: r) H Q := h
theorem g8 {a0 a1 a2 a3 a4 a5 a6 a7 : Option V} {ti : TIp} (h : te (a0 :: a1 :: a2 :: a3 :: a4 :: a5 :: a6 :: a7 :: some x :: r) H fun y H1 => ti x y H1 fun z H2 => D.nx (a0 :: a1 :: a2 :: a3 :: a4 :: a5 :: a6 :: a7 :: some z :: r) H2) : tAug 8 te ti D (a0 :: a1 :: a2 :: a3 :: a4 :: a5 :: a6 :: a7 :: some x :: r) H := ⟨x, rfl, h⟩
theorem v9 {a0 a1 a2 a3 a4 a5 a6 a7 a8 : Option V} (h : Q v H) : tVar 9 (a0 :: a1 :: a2 :: a3 :: a4 :: a5 :: a6 :: a7 :: a8 :: some v :: r) H Q := ⟨v, rfl, h⟩
theorem n9 {a0 a1 a2 a3 a4 a5 a6 a7 a8 : Option V} {Q : L2.St → Hp → Prop} (h : Q (a0 :: a1 :: a2 :: a3 :: a4 :: a5 :: a6 :: a7 :: a8 :: some v :: r) H) : gName 9 v (a0 :: a1 :: a2 :: a3 :: a4 :: a5 :: a6 :: a7 :: a8 :: a :: r) H Q := h
theorem g9 {a0 a1 a2 a3 a4 a5 a6 a7 a8 : Option V} {ti : TIp} (h : te (a0 :: a1 :: a2 :: a3 :: a4 :: a5 :: a6 :: a7 :: a8 :: some x :: r) H fun y H1 => ti x y H1 fun z H2 => D.nx (a0 :: a1 :: a2 :: a3 :: a4 :: a5 :: a6 :: a7 :: a8 :: some z :: r) H2) : tAug 9 te ti D (a0 :: a1 :: a2 :: a3 :: a4 :: a5 :: a6 :: a7 :: a8 :: some x :: r) H := ⟨x, rfl, h⟩
theorem v10 {a0 a1 a2 a3 a4 a5 a6 a7 a8 a9 : Option V} (h : Q v H) : tVar 10 (a0 :: a1 :: a2 :: a3 :: a4 :: a5 :: a6 :: a7 :: a8 :: a9 :: some v :: r) H Q := ⟨v, rfl, h⟩
theorem n10 {a0 a1 a2 a3 a4 a5 a6 a7 a8 a9 : Option V} {Q : L2.St → Hp → Prop} (h : Q (a0 :: a1 :: a2 :: a3 :: a4 :: a5 :: a6 :: a7 :: a8 :: a9 :: some v :: r) H) : gName 10 v (a0 :: a1 :: a2 :: a3 :: a4 :: a5 :: a6 :: a7 :: a8 :: a9 :: a :: r) H Q := h
theorem g10 {a0 a1 a2 a3 a4 a5 a6 a7 a8 a9 : Option V} {ti : TIp} (h : te (a0 :: a1 :: a2 :: a3 :: a4 :: a5 :: a6 :: a7 :: a8 :: a9 :: some x :: r) H fun y H1 => ti x y H1 fun z H2 => D.nx (a0 :: a1 :: a2 :: a3 :: a4 :: a5 :: a6 :: a7 :: a8 :: a9 :: some z :: r) H2) : tAug 10 te ti D (a0 :: a1 :: a2 :: a3 :: a4 :: a5 :: a6 :: a7 :: a8 :: a9 :: some x :: r) H := ⟨x, rfl, h⟩
theorem v11 {a0 a1 a2 a3 a4 a5 a6 a7 a8 a9 a10 : Option V} (h : Q v H) : tVar 11 (a0 :: a1 :: a2 :: a3 :: a4 :: a5 :: a6 :: a7 :: a8 :: a9 :: a10 :: some v :: r) H Q := ⟨v, rfl, h⟩
theorem n11 {a0 a1 a2 a3 a4 a5 a6 a7 a8 a9 a10 : Option V} {Q : L2.St → Hp → Prop} (h : Q (a0 :: a1 :: a2 :: a3 :: a4 :: a5 :: a6 :: a7 :: a8 :: a9 :: a10 :: some v :: r) H) : gName 11 v (a0 :: a1 :: a2 :: a3 :: a4 :: a5 :: a6 :: a7 :: a8 :: a9 :: a10 :: a :: r) H Q := h
theorem g11 {a0 a1 a2 a3 a4 a5 a6 a7 a8 a9 a10 : Option V} {ti : TIp} (h : te (a0 :: a1 :: a2 :: a3 :: a4 :: a5 :: a6 :: a7 :: a8 :: a9 :: a10 :: some x :: r) H fun y H1 => ti x y H1 fun z H2 => D.nx (a0 :: a1 :: a2 :: a3 :: a4 :: a5 :: a6 :: a7 :: a8 :: a9 :: a10 :: some z :: r) H2) : tAug 11 te ti D (a0 :: a1 :: a2 :: a3 :: a4 :: a5 :: a6 :: a7 :: a8 :: a9 :: a10 :: some x :: r) H := ⟨x, rfl, h⟩
theorem v12 {a0 a1 a2 a3 a4 a5 a6 a7 a8 a9 a10 a11 : Option V} (h : Q v H) : tVar 12 (a0 :: a1 :: a2 :: a3 :: a4 :: a5 :: a6 :: a7 :: a8 :: a9 :: a10 :: a11 :: some v :: r) H Q := ⟨v, rfl, h⟩
theorem n12 {a0 a1 a2 a3 a4 a5 a6 a7 a8 a9 a10 a11 : Option V} {Q : L2.St → Hp → Prop} (h : Q (a0 :: a1 :: a2 :: a3 :: a4 :: a5 :: a6 :: a7 :: a8 :: a9 :: a10 :: a11 :: some v :: r) H) : gName 12 v (a0 :: a1 :: a2 :: a3 :: a4 :: a5 :: a6 :: a7 :: a8 :: a9 :: a10 :: a11 :: a :: r) H Q := h
theorem g12 {a0 a1 a2 a3 a4 a5 a6 a7 a8 a9 a10 a11 : Option V} {ti : TIp} (h : te (a0 :: a1 :: a2 :: a3 :: a4 :: a5 :: a6 :: a7 :: a8 :: a9 :: a10 :: a11 :: some x :: r) H fun y H1 => ti x y H1 fun z H2 => D.nx (a0 :: a1 :: a2 :: a3 :: a4 :: a5 :: a6 :: a7 :: a8 :: a9 :: a10 :: a11 :: some z :: r) H2) : tAug 12 te ti D (a0 :: a1 :: a2 :: a3 :: a4 :: a5 :: a6 :: a7 :: a8 :: a9 :: a10 :: a11 :: some x :: r) H := ⟨x, rfl, h⟩
theorem v13 {a0 a1 a2 a3 a4 a5 a6 a7 a8 a9 a10 a11 a12 : Option V} (h : Q v H) : tVar 13 (a0 :: a1 :: a2 :: a3 :: a4 :: a5 :: a6 :: a7 :: a8 :: a9 :: a10 :: a11 :: a12 :: some v :: r) H Q := ⟨v, rfl, h⟩
theorem n13 {a0 a1 a2 a3 a4 a5 a6 a7 a8 a9 a10 a11 a12 : Option V} {Q : L2.St → Hp → Prop} (h : Q (a0 :: a1 :: a2 :: a3 :: a4 :: a5 :: a6 :: a7 :: a8 :: a9 :: a10 :: a11 :: a12 :: some v :: r) H) : gName 13 v (a0 :: a1 :: a2 :: a3 :: a4 :: a5 :: a6 :: a7 :: a8 :: a9 :: a10 :: a11 :: a12 :: a :: r) H Q := h
theorem g13 {a0 a1 a2 a3 a4 a5 a6 a7 a8 a9 a10 a11 a12 : Option V} {ti : TIp} (h : te (a0 :: a1 :: a2 :: a3 :: a4 :: a5 :: a6 :: a7 :: a8 :: a9 :: a10 :: a11 :: a12 :: some x :: r) H fun y H1 => ti x y H1 fun z H2 => D.nx (a0 :: a1 :: a2 :: a3 :: a4 :: a5 :: a6 :: a7 :: a8 :: a9 :: a10 :: a11 :: a12 :: some z :: r) H2) : tAug 13 te ti D (a0 :: a1 :: a2 :: a3 :: a4 :: a5 :: a6 :: a7 :: a8 :: a9 :: a10 :: a11 :: a12 :: some x :: r) H := ⟨x, rfl, h⟩
theorem v14 {a0 a1 a2 a3 a4 a5 a6 a7 a8 a9 a10 a11 a12 a13 : Option V} (h : Q v H) : tVar 14 (a0 :: a1 :: a2 :: a3 :: a4 :: a5 :: a6 :: a7 :: a8 :: a9 :: a10 :: a11 :: a12 :: a13 :: some v :: r) H Q := ⟨v, rfl, h⟩
theorem n14 {a0 a1 a2 a3 a4 a5 a6 a7 a8 a9 a10 a11 a12 a13 : Option V} {Q : L2.St → Hp → Prop} (h : Q (a0 :: a1 :: a2 :: a3 :: a4 :: a5 :: a6 :: a7 :: a8 :: a9 :: a10 :: a11 :: a12 :: a13 :: some v :: r) H) : gName 14 v (a0 :: a1 :: a2 :: a3 :: a4 :: a5 :: a6 :: a7 :: a8 :: a9 :: a10 :: a11 :: a12 :: a13 :: a :: r) H Q := h
theorem g14 {a0 a1 a2 a3 a4 a5 a6 a7 a8 a9 a10 a11 a12 a13 : Option V} {ti : TIp} (h : te (a0 :: a1 :: a2 :: a3 :: a4 :: a5 :: a6 :: a7 :: a8 :: a9 :: a10 :: a11 :: a12 :: a13 :: some x :: r) H fun y H1 => ti x y H1 fun z H2 => D.nx (a0 :: a1 :: a2 :: a3 :: a4 :: a5 :: a6 :: a7 :: a8 :: a9 :: a10 :: a11 :: a12 :: a13 :: some z :: r) H2) : tAug 14 te ti D (a0 :: a1 :: a2 :: a3 :: a4 :: a5 :: a6 :: a7 :: a8 :: a9 :: a10 :: a11 :: a12 :: a13 :: some x :: r) H := ⟨x, rfl, h⟩
theorem v15 {a0 a1 a2 a3 a4 a5 a6 a7 a8 a9 a10 a11 a12 a13 a14 : Option V} (h : Q v H) : tVar 15 (a0 :: a1 :: a2 :: a3 :: a4 :: a5 :: a6 :: a7 :: a8 :: a9 :: a10 :: a11 :: a12 :: a13 :: a14 :: some v :: r) H Q := ⟨v, rfl, h⟩
theorem n15 {a0 a1 a2 a3 a4 a5 a6 a7 a8 a9 a10 a11 a12 a13 a14 : Option V} {Q : L2.St → Hp → Prop} (h : Q (a0 :: a1 :: a2 :: a3 :: a4 :: a5 :: a6 :: a7 :: a8 :: a9 :: a10 :: a11 :: a12 :: a13 :: a14 :: some v :: r) H) : gName 15 v (a0 :: a1 :: a2 :: a3 :: a4 :: a5 :: a6 :: a7 :: a8 :: a9 :: a10 :: a11 :: a12 :: a13 :: a14 :: a :: r) H Q := h
theorem g15 {a0 a1 a2 a3 a4 a5 a6 a7 a8 a9 a10 a11 a12 a13 a14 : Option V} {ti : TIp} (h : te (a0 :: a1 :: a2 :: a3 :: a4 :: a5 :: a6 :: a7 :: a8 :: a9 :: a10 :: a11 :: a12 :: a13 :: a14 :: some x :: r) H fun y H1 => ti x y H1 fun z H2 => D.nx (a0 :: a1 :: a2 :: a3 :: a4 :: a5 :: a6 :: a7 :: a8 :: a9 :: a10 :: a11 :: a12 :: a13 :: a14 :: some z :: r) H2) : tAug 15 te ti D (a0 :: a1 :: a2 :: a3 :: a4 :: a5 :: a6 :: a7 :: a8 :: a9 :: a10 :: a11 :: a12 :: a13 :: a14 :: some x :: r) H := ⟨x, rfl, h⟩
theorem room65 {k : Nat} {A : Around} (r : Room k A) : A.units + 65 < cLine := by
  have := r.un
  omega
/-! ### iterators -/
def lcRest (g : TG) (tt : TT) (te : TE) (vs : List Nat) (σ : L2.St) (Q : VK) (J : It) (H1 : Hp) : Prop := ∀ D, H1 D = none → ∃ W : Nat → Nat → Hp → Prop, (∃ m, W 0 m (upd H1 D (.lst []))) ∧ ∀ i m H, W i m H →
  (J.stop i H ∧ Q (.ref D) H) ∨ (J.go i H ∧ ∃ Nx : Hp → Prop, (∀ H', Nx H' → ∃ m', m' < m ∧ W (i + 1) m' H') ∧ ∀ x H', J.yld i H x H' → g x (wipe σ vs) H' fun σ2 H2 => wipe σ2 vs = wipe σ vs ∧ tt σ2 H2 fun b H3 =>
    if b = true then te σ2 H3 fun y H4 => ∃ acc, H4 D = some (.lst acc) ∧ acc.length < sizeLine ∧ Nx (upd H4 D (.lst (acc ++ [y]))) else Nx H3)
theorem lc {wi : TI} {tt : TT} {ws : List Nat} (h : wi σ H (lcRest g tt te ws σ Q)) : tLc wi g tt te ws σ H Q := h
def forRest (g : TG) (tb : TS) (D : Ends) (σ0 : L2.St) (J : It) (H1 : Hp) : Prop := ∃ W : Nat → Nat → L2.St → Hp → Prop, (∃ m, W 0 m σ0 H1) ∧ ∀ i m σ H, W i m σ H →
  (J.stop i H ∧ D.nx σ H) ∨ (J.go i H ∧ ∃ N : L2.St → Hp → Prop, (∀ σ' H', N σ' H' → ∃ m', m' < m ∧ W (i + 1) m' σ' H') ∧ ∀ x H', J.yld i H x H' → g x σ H' fun σ2 H2 => tb { D with nx := N, ct := N, bk := D.nx } σ2 H2)
theorem for_ {wi : TI} {tb : TS} (h : wi σ H (forRest g tb D σ)) : tFor wi g tb D σ H := h
variable {R : It → Hp → Prop}
theorem ilist (h : te σ H fun x H1 => ∃ a, x = .ref a ∧ (∃ xs, SqL K H1 a xs) ∧ R (Itl K a) H1) : iList K te σ H R := h
theorem itup (h : te σ H fun x H1 => ∃ a, x = .ref a ∧ (∃ xs, SqT K H1 a xs) ∧ R (Itt K a) H1) : iTup K te σ H R := h
theorem irng1 (h : tr σ H fun vs H1 => ∃ j : Int, vs = [.int j] ∧ -(2 ^ 62) ≤ j ∧ j < 2 ^ 62 ∧ R (Itr 0 j.toNat) H1) : iRng1 tr σ H R := h
theorem irng2 (h : tr σ H fun vs H1 => ∃ i j : Int, vs = [.int i, .int j] ∧ (-(2 ^ 62) ≤ i ∧ i < 2 ^ 62 ∧ -(2 ^ 62) ≤ j ∧ j < 2 ^ 62) ∧ R (Itr i (j - i).toNat) H1) : iRng2 tr σ H R := h
theorem ienum (h : tr σ H fun vs H1 => ∃ a xs, vs = [.ref a] ∧ SqL K H1 a xs ∧ R (Ite K a) H1) : iEnum K tr σ H R := h
theorem istr (h : te σ H fun v H1 => ∃ x, v = .str x ∧ R (Its x) H1) : iStr te σ H R := h
theorem refA {a : Addr} {P : Addr → Prop} (h : P a) : ∃ b, V.ref a = .ref b ∧ P b := ⟨a, rfl, h⟩
theorem strA {a : Str} {P : Str → Prop} (h : P a) : ∃ b, V.str a = .str b ∧ P b := ⟨a, rfl, h⟩
theorem sqA {l : Addr} {xs : List V} {A : Prop} (h : H l = some (.lst xs)) (q : A) : (∃ xs, SqL K H l xs) ∧ A := ⟨⟨_, SqL.of h⟩, q⟩
theorem sqAq {l : Addr} {xs : List V} {A : Prop} (h : SqL K H l xs) (q : A) : (∃ xs, SqL K H l xs) ∧ A := ⟨⟨_, h⟩, q⟩
theorem stA {l : Addr} {xs : List V} {A : Prop} (h : H l = some (.tup xs)) (q : A) : (∃ xs, SqT K H l xs) ∧ A := ⟨⟨_, SqT.of h⟩, q⟩
theorem stAq {l : Addr} {xs : List V} {A : Prop} (h : SqT K H l xs) (q : A) : (∃ xs, SqT K H l xs) ∧ A := ⟨⟨_, h⟩, q⟩
theorem enA {l : Addr} {xs : List V} {P : Addr → Prop} (h : H l = some (.lst xs)) (q : P l) : ∃ a ys, [V.ref l] = [.ref a] ∧ SqL K H a ys ∧ P a := ⟨l, xs, rfl, SqL.of h, q⟩
theorem enAq {l : Addr} {xs : List V} {P : Addr → Prop} (h : SqL K H l xs) (q : P l) : ∃ a ys, [V.ref l] = [.ref a] ∧ SqL K H a ys ∧ P a := ⟨l, xs, rfl, h, q⟩
theorem lenL {l : Addr} {xs : List V} {P : List V → Prop} (h : H l = some (.lst xs)) (q : P xs) : ∃ p ys, [V.ref l] = [.ref p] ∧ (SqL K H p ys ∨ SqT K H p ys) ∧ P ys := ⟨l, xs, rfl, .inl (SqL.of h), q⟩
theorem lenLq {l : Addr} {xs : List V} {P : List V → Prop} (h : SqL K H l xs) (q : P xs) : ∃ p ys, [V.ref l] = [.ref p] ∧ (SqL K H p ys ∨ SqT K H p ys) ∧ P ys := ⟨l, xs, rfl, .inl h, q⟩
theorem lenTq {l : Addr} {xs : List V} {P : List V → Prop} (h : SqT K H l xs) (q : P xs) : ∃ p ys, [V.ref l] = [.ref p] ∧ (SqL K H p ys ∨ SqT K H p ys) ∧ P ys := ⟨l, xs, rfl, .inr h, q⟩
theorem lenT {l : Addr} {xs : List V} {P : List V → Prop} (h : H l = some (.tup xs)) (q : P xs) : ∃ p ys, [V.ref l] = [.ref p] ∧ (SqL K H p ys ∨ SqT K H p ys) ∧ P ys := ⟨l, xs, rfl, .inr (SqT.of h), q⟩
/-! ### comprehensions: each element by a relation -/
def But (D : Addr) (H H' : Hp) : Prop := ∀ b o, b ≠ D → H b = some o → H' b = some o
theorem But.refl {D : Addr} : But D H H := fun _ _ _ h => h
theorem But.trans {D : Addr} {H H1 H2 : Hp} (a : But D H H1) (b : But D H1 H2) : But D H H2 := fun x o n h => b x o n (a x o n h)
theorem But.same {D : Addr} {H H1 : Hp} (a : Same H H1) : But D H H1 := fun x o _ h => a x o h
theorem But.at_ {D : Addr} {o : HO} : But D H (upd H D o) := fun x u n h => by rw [upd_ne n]; exact h
theorem But.to {D : Addr} {H H1 : Hp} (a : But D H H1) (n : H D = none) : Same H H1 := fun x o h => a x o (fun z => by rw [z, n] at h; cases h) h
theorem lc_rel {J : It} {n : Nat} {G : Hp → Prop} {Y : Nat → Hp → V → Hp → Prop} (w : Walk J n G Y) {g : TG} {te : TE} {vs : List Nat} {σ : L2.St} {H1 : Hp} {D : Addr} {Qd : Hp → Prop} (R : Nat → V → Hp → Prop)
    (nD : H1 D = none) (hn : n ≤ 100000) (mono : ∀ i v H H', R i v H → But D H H' → R i v H') (hG : ∀ H, But D H1 H → G H)
    (hs : ∀ i x H H' (Kt : VK), i < n → But D H1 H → (∃ xs, H D = some (.lst xs)) → Y i H x H' → (∀ y H4, R i y H4 → Same H H4 → Kt y H4) → g x (wipe σ vs) H' fun σ2 H2 => wipe σ2 vs = wipe σ vs ∧ te σ2 H2 Kt)
    (hd : ∀ H ys, ys.length = n → (∀ i v, ys[i]? = some v → R i v H) → Same H1 H → H D = some (.lst ys) → Qd H) :
    ∃ W : Nat → Nat → Hp → Prop, (∃ m, W 0 m (upd H1 D (.lst []))) ∧ ∀ i m H, W i m H →
      (J.stop i H ∧ Qd H) ∨ (J.go i H ∧ ∃ Nx : Hp → Prop, (∀ H', Nx H' → ∃ m', m' < m ∧ W (i + 1) m' H') ∧ ∀ x H', J.yld i H x H' → g x (wipe σ vs) H' fun σ2 H2 => wipe σ2 vs = wipe σ vs ∧ tYes σ2 H2 fun b H3 =>
        if b = true then te σ2 H3 fun y H4 => ∃ acc, H4 D = some (.lst acc) ∧ acc.length < sizeLine ∧ Nx (upd H4 D (.lst (acc ++ [y]))) else Nx H3) := by
  refine lc_it w (fun i H => ∃ ys, ys.length = i ∧ (∀ i v, ys[i]? = some v → R i v H) ∧ But D H1 H ∧ H D = some (.lst ys)) ⟨[], rfl, fun i v h => by simp at h, But.at_, upd_same⟩ (fun i H _ h => ?_) (fun i x H H' hi h y => ?_) (fun H h => ?_)
  · obtain ⟨_, _, _, b, _⟩ := h
    exact hG H b
  · obtain ⟨ys, hl, hr, b, hD⟩ := h
    refine hs i x H H' _ hi b ⟨_, hD⟩ y fun v H4 r sm => ?_
    refine ⟨ys, sm _ _ hD, szl (by omega), ys ++ [v], by simp [hl], fun j u hj => ?_, (b.trans (But.same sm)).trans But.at_, upd_same⟩
    by_cases hj2 : j < ys.length
    · rw [List.getElem?_append_left hj2] at hj
      exact mono _ _ _ _ (hr j u hj) ((But.same sm).trans But.at_)
    · have e : j = ys.length := by
        have := (List.getElem?_eq_some_iff.mp hj).1
        simp at this; omega
      subst e
      rw [List.getElem?_append_right (Nat.le_refl _)] at hj
      simp at hj
      subst hj
      rw [hl]
      exact mono _ _ _ _ r But.at_
  · obtain ⟨ys, hl, hr, b, hD⟩ := h
    exact hd H ys hl hr (b.to nD) hD
/-! ### tests, ints in lists -/
theorem ifD {p : Prop} [Decidable p] {A B : Prop} (h1 : p → A) (h2 : ¬ p → B) : if decide p = true then A else B := by
  by_cases h : p
  · rw [decide_eq_true h, if_pos rfl]; exact h1 h
  · rw [decide_eq_false h, if_neg Bool.false_ne_true]; exact h2 h
theorem ifN {p : Prop} [Decidable p] {A B : Prop} (h1 : ¬ p → A) (h2 : p → B) : if (!decide p) = true then A else B := by
  by_cases h : p
  · rw [decide_eq_true h, if_neg (by decide)]; exact h2 h
  · rw [decide_eq_false h, if_pos (by decide)]; exact h1 h
theorem ifT {A B : Prop} (h : A) : if true = true then A else B := by rw [if_pos rfl]; exact h
theorem ifF {A B : Prop} (h : B) : if false = true then A else B := by rw [if_neg Bool.false_ne_true]; exact h
theorem ifB {b : Bool} {A B : Prop} (h1 : b = true → A) (h2 : b = false → B) : if b = true then A else B := by
  cases b with
  | true => exact ifT (h1 rfl)
  | false => exact ifF (h2 rfl)
theorem ifNB {b : Bool} {A B : Prop} (h1 : b = false → A) (h2 : b = true → B) : if (!b) = true then A else B := by
  cases b with
  | true => exact ifF (h2 rfl)
  | false => exact ifT (h1 rfl)
theorem flat_ints (ns : List Int) : (ns.map V.int).all flatV = true := by
  rw [List.all_eq_true]
  intro x hx
  obtain ⟨i, _, rfl⟩ := List.mem_map.mp hx
  rfl
theorem flat_strs (ns : List Str) : (ns.map V.str).all flatV = true := by
  rw [List.all_eq_true]
  intro x hx
  obtain ⟨i, _, rfl⟩ := List.mem_map.mp hx
  rfl
theorem eqV_ints (a b : Int) : eqV (.int a) (.int b) = decide (a = b) := by
  by_cases h : a = b <;> simp [eqV, h]
theorem inV_ints (x : Int) (r : List Int) : inV (.int x) (r.map V.int) = decide (x ∈ r) := by
  unfold inV
  rw [List.any_map]
  by_cases h : x ∈ r
  · rw [decide_eq_true h, List.any_eq_true]
    exact ⟨x, h, beq_self_eq_true x⟩
  · rw [decide_eq_false h, List.any_eq_false]
    intro y hy e
    have e2 : (y == x) = true := e
    exact h (by rw [← eq_of_beq e2]; exact hy)
theorem first_at (ns : List Int) (n : Int) (h : n ∈ ns) : ∃ j : Nat, ns[j]? = some n ∧ ∀ i, i < j → ns[i]? ≠ some n := by
  induction ns with
  | nil => simp at h
  | cons a r ih =>
    by_cases e : a = n
    · exact ⟨0, by simp [e], fun i hi => absurd hi (Nat.not_lt_zero _)⟩
    · obtain ⟨j, h1, h2⟩ := ih ((List.mem_cons.mp h).resolve_left fun z => e z.symm)
      refine ⟨j + 1, by simpa using h1, fun i hi => ?_⟩
      cases i with
      | zero => simp [e]
      | succ i => simpa using h2 i (by omega)
theorem inI {p : Addr} {ns : List Int} {n : Int} (h : H p = some (.lst (ns.map V.int))) (q : Q (.bl (decide (n ∈ ns))) H) : rIn K false (.int n) (.ref p) H Q :=
  ⟨p, _, rfl, .inl (SqL.of h), rfl, flat_ints _, by rw [inV_ints]; exact q⟩
theorem ninI {p : Addr} {ns : List Int} {n : Int} (h : H p = some (.lst (ns.map V.int))) (q : Q (.bl (!decide (n ∈ ns))) H) : rIn K true (.int n) (.ref p) H Q :=
  ⟨p, _, rfl, .inl (SqL.of h), rfl, flat_ints _, by rw [inV_ints]; exact q⟩
theorem idxI {a : Addr} {ns : List Int} {n : Int} {j : Nat} (h : H a = some (.lst (ns.map V.int))) (hj : ns[j]? = some n) (hf : ∀ i, i < j → ns[i]? ≠ some n) (q : Q (.int (j : Nat)) H) : rIndex K (.ref a) [.int n] H Q :=
  ⟨a, _, _, j, .int n, rfl, rfl, SqL.of h, rfl, flat_ints _, by rw [List.getElem?_map, hj]; rfl, by rw [eqV_ints, decide_eq_true rfl], fun m z' hm hz => by
    rw [List.getElem?_map] at hz
    cases e : ns[m]? with
    | none => rw [e] at hz; cases hz
    | some x =>
      rw [e] at hz; cases hz
      rw [eqV_ints]
      exact decide_eq_false fun e2 => hf m hm (by rw [e, e2]), q⟩
theorem vals_map {n : Nat} {ns : List V} (f : Nat → Int) (ln : ns.length = n) (hn : ∀ (i : Nat) v, ns[i]? = some v → v = .int (f i)) : ns = ((List.range n).map f).map V.int := by
  refine List.ext_getElem? fun i => ?_
  rw [List.map_map, List.getElem?_map]
  by_cases hi : i < n
  · obtain ⟨v, hv⟩ : ∃ v, ns[i]? = some v := ⟨_, List.getElem?_eq_getElem (by omega)⟩
    rw [hv, List.getElem?_range hi, hn i v hv]
    rfl
  · rw [List.getElem?_eq_none (by omega), List.getElem?_eq_none (by rw [List.length_range]; omega)]
    rfl
theorem at_int {ns : List Int} {i : Int} {j : Nat} {n : Int} (e : i = (j : Int)) (h : ns[j]? = some n) : atI (ns.map V.int) i = some (.int n) := by
  subst e
  exact atI_nat (by rw [List.getElem?_map, h]; rfl)
theorem at_val {xs : List V} {i : Int} {j : Nat} (e : i = (j : Int)) (h : xs[j]? = some v) : atI xs i = some v := by
  subst e
  exact atI_nat h
theorem zr {i : Nat} {H H' : Hp} (y : YFn (fun (i : Nat) => V.int ((0 : Int) + (i : Int))) i H x H') : x = .int (i : Int) ∧ H' = H := by
  obtain ⟨a, b⟩ := y
  exact ⟨by rw [b]; show V.int (0 + (i : Int)) = _; rw [Int.zero_add], a⟩
/-! ### new objects, by what they leave -/
def NewT (Q : VK) (xs : List V) (H : Hp) : Prop := xs.length ≤ sizeLine ∧ ∀ p, H p = none → Q (.ref p) (upd H p (.tup xs))
def NewL (Q : VK) (xs : List V) (H : Hp) : Prop := xs.length ≤ sizeLine ∧ ∀ p, H p = none → Q (.ref p) (upd H p (.lst xs))
theorem tupN (h : tr σ H (NewT Q)) : tTup tr σ H Q := h
theorem lstN (h : tr σ H (NewL Q)) : tLst tr σ H Q := h
theorem nwT {xs : List V} (s : xs.length ≤ sizeLine) (h : ∀ p H', H p = none → Same H H' → H' p = some (.tup xs) → Q (.ref p) H') : NewT Q xs H := ⟨s, fun p np => h p _ np (same_new np) upd_same⟩
theorem nwL {xs : List V} (s : xs.length ≤ sizeLine) (h : ∀ p H', H p = none → Same H H' → H' p = some (.lst xs) → Q (.ref p) H') : NewL Q xs H := ⟨s, fun p np => h p _ np (same_new np) upd_same⟩
def ListOf (K : PySem.W.Frag) (Q : VK) (vs : List V) (H : Hp) : Prop := ∃ p ys, vs = [.ref p] ∧ (SqL K H p ys ∨ SqT K H p ys) ∧ ∀ l, H l = none → Q (.ref l) (upd H l (.lst ys))
theorem cbListOf (h : tr σ H (ListOf K Q)) : tCB (fun xs H Q => ∃ p ys, xs = [.ref p] ∧ (SqL K H p ys ∨ SqT K H p ys) ∧ ∀ l, H l = none → Q (.ref l) (upd H l (.lst ys))) tr σ H Q := h
theorem listOfq {a : Addr} {ys : List V} (s : SqL K H a ys) (h : ∀ p H', H p = none → Same H H' → H' p = some (.lst ys) → Q (.ref p) H') : ListOf K Q [.ref a] H := ⟨a, ys, rfl, .inl s, fun p np => h p _ np (same_new np) upd_same⟩
theorem listOf {a : Addr} {ys : List V} (s : H a = some (.lst ys)) (h : ∀ p H', H p = none → Same H H' → H' p = some (.lst ys) → Q (.ref p) H') : ListOf K Q [.ref a] H := listOfq (SqL.of s) h
def SlL (K : PySem.W.Frag) (x : V) (lo hi : Option Int) (Q : VK) (H : Hp) : Prop := ∃ a xs, x = .ref a ∧ SqL K H a xs ∧ ∀ p, H p = none → Q (.ref p) (upd H p (.lst (cutV xs lo hi)))
theorem slN {tl th : TO} (h : te σ H fun x H1 => tl σ H1 fun l H2 => th σ H2 fun u H3 => SlL K x l u Q H3) : L2.tSl (rSlL K) te tl th σ H Q := h
theorem slq {a : Addr} {xs : List V} {lo hi : Option Int} (s : SqL K H a xs) (h : ∀ p H', H p = none → Same H H' → H' p = some (.lst (cutV xs lo hi)) → Q (.ref p) H') : SlL K (.ref a) lo hi Q H := ⟨a, xs, rfl, s, fun p np => h p _ np (same_new np) upd_same⟩
theorem slo {a : Addr} {xs : List V} {lo hi : Option Int} (s : H a = some (.lst xs)) (h : ∀ p H', H p = none → Same H H' → H' p = some (.lst (cutV xs lo hi)) → Q (.ref p) H') : SlL K (.ref a) lo hi Q H := slq (SqL.of s) h
def SrtI (K : PySem.W.Frag) (Q : VK) (vs : List V) (H : Hp) : Prop := rSortedI K vs H Q
theorem cbSrtI (h : tr σ H (SrtI K Q)) : tCB (rSortedI K) tr σ H Q := h
theorem srtI {a : Addr} {ns : List Int} (s : SqL K H a (ns.map V.int)) (h : ∀ (ns' : List Int) p H', ns'.Perm ns → ns'.Pairwise (· ≤ ·) → H p = none → Same H H' → H' p = some (.lst (ns'.map V.int)) → Q (.ref p) H') : SrtI K Q [.ref a] H :=
  ⟨a, ns, rfl, s, fun ns' p e1 e2 np => h ns' p _ e1 e2 np (same_new np) upd_same⟩
theorem srtIo {a : Addr} {ns : List Int} (s : H a = some (.lst (ns.map V.int))) (h : ∀ (ns' : List Int) p H', ns'.Perm ns → ns'.Pairwise (· ≤ ·) → H p = none → Same H H' → H' p = some (.lst (ns'.map V.int)) → Q (.ref p) H') : SrtI K Q [.ref a] H := srtI (SqL.of s) h
theorem eqD {d e : PyData} (h1 : Dp K H x d) (h2 : Dp K H y e) (s1 : SeqAt.shaped d = true) (s2 : SeqAt.shaped e = true) (q : Q (.bl (PyData.eqv d e)) H) : rEqD K x y H Q := ⟨d, e, h1, h2, s1, s2, q⟩
theorem neD {d e : PyData} (h1 : Dp K H x d) (h2 : Dp K H y e) (s1 : SeqAt.shaped d = true) (s2 : SeqAt.shaped e = true) (q : Q (.bl (!PyData.eqv d e)) H) : rNeD K x y H Q := ⟨d, e, h1, h2, s1, s2, q⟩
/-! ### isinstance -/
theorem isi {T U : String} {b : Bool} (t : TyX K H x (.type T)) (k : kitB T U = some b) (q : Q (.bl b) H) : rIsi K [x, .ty U] H Q := ⟨x, .ty U, _, _, b, rfl, .ty _, t, kit_ty k, q⟩
theorem isi_ii {n : Int} (q : Q (.bl true) H) : rIsi K [.int n, .ty "int"] H Q := isi (.base (.int _)) (by decide +kernel) q
theorem isi_ib {n : Int} (q : Q (.bl false) H) : rIsi K [.int n, .ty "bool"] H Q := isi (.base (.int _)) (by decide +kernel) q
theorem isi_is {n : Int} (q : Q (.bl false) H) : rIsi K [.int n, .ty "str"] H Q := isi (.base (.int _)) (by decide +kernel) q
theorem isi_il {n : Int} (q : Q (.bl false) H) : rIsi K [.int n, .ty "list"] H Q := isi (.base (.int _)) (by decide +kernel) q
theorem isi_it {n : Int} (q : Q (.bl false) H) : rIsi K [.int n, .ty "tuple"] H Q := isi (.base (.int _)) (by decide +kernel) q
theorem isi_id {n : Int} (q : Q (.bl false) H) : rIsi K [.int n, .ty "dict"] H Q := isi (.base (.int _)) (by decide +kernel) q
theorem isi_bi {n : Bool} (q : Q (.bl true) H) : rIsi K [.bl n, .ty "int"] H Q := isi (.base (.bl _)) (by decide +kernel) q
theorem isi_bb {n : Bool} (q : Q (.bl true) H) : rIsi K [.bl n, .ty "bool"] H Q := isi (.base (.bl _)) (by decide +kernel) q
theorem isi_bs {n : Bool} (q : Q (.bl false) H) : rIsi K [.bl n, .ty "str"] H Q := isi (.base (.bl _)) (by decide +kernel) q
theorem isi_bl {n : Bool} (q : Q (.bl false) H) : rIsi K [.bl n, .ty "list"] H Q := isi (.base (.bl _)) (by decide +kernel) q
theorem isi_bt {n : Bool} (q : Q (.bl false) H) : rIsi K [.bl n, .ty "tuple"] H Q := isi (.base (.bl _)) (by decide +kernel) q
theorem isi_bd {n : Bool} (q : Q (.bl false) H) : rIsi K [.bl n, .ty "dict"] H Q := isi (.base (.bl _)) (by decide +kernel) q
theorem isi_si {n : Str} (q : Q (.bl false) H) : rIsi K [.str n, .ty "int"] H Q := isi (.base (.str _)) (by decide +kernel) q
theorem isi_sb {n : Str} (q : Q (.bl false) H) : rIsi K [.str n, .ty "bool"] H Q := isi (.base (.str _)) (by decide +kernel) q
theorem isi_ss {n : Str} (q : Q (.bl true) H) : rIsi K [.str n, .ty "str"] H Q := isi (.base (.str _)) (by decide +kernel) q
theorem isi_sl {n : Str} (q : Q (.bl false) H) : rIsi K [.str n, .ty "list"] H Q := isi (.base (.str _)) (by decide +kernel) q
theorem isi_st {n : Str} (q : Q (.bl false) H) : rIsi K [.str n, .ty "tuple"] H Q := isi (.base (.str _)) (by decide +kernel) q
theorem isi_sd {n : Str} (q : Q (.bl false) H) : rIsi K [.str n, .ty "dict"] H Q := isi (.base (.str _)) (by decide +kernel) q
theorem isi_li {n : Addr} {xs : List V} (h : H n = some (.lst xs)) (q : Q (.bl false) H) : rIsi K [.ref n, .ty "int"] H Q := isi (.base (.lst h)) (by decide +kernel) q
theorem isi_lb {n : Addr} {xs : List V} (h : H n = some (.lst xs)) (q : Q (.bl false) H) : rIsi K [.ref n, .ty "bool"] H Q := isi (.base (.lst h)) (by decide +kernel) q
theorem isi_ls {n : Addr} {xs : List V} (h : H n = some (.lst xs)) (q : Q (.bl false) H) : rIsi K [.ref n, .ty "str"] H Q := isi (.base (.lst h)) (by decide +kernel) q
theorem isi_ll {n : Addr} {xs : List V} (h : H n = some (.lst xs)) (q : Q (.bl true) H) : rIsi K [.ref n, .ty "list"] H Q := isi (.base (.lst h)) (by decide +kernel) q
theorem isi_lt {n : Addr} {xs : List V} (h : H n = some (.lst xs)) (q : Q (.bl false) H) : rIsi K [.ref n, .ty "tuple"] H Q := isi (.base (.lst h)) (by decide +kernel) q
theorem isi_ld {n : Addr} {xs : List V} (h : H n = some (.lst xs)) (q : Q (.bl false) H) : rIsi K [.ref n, .ty "dict"] H Q := isi (.base (.lst h)) (by decide +kernel) q
theorem isi_ti {n : Addr} {xs : List V} (h : H n = some (.tup xs)) (q : Q (.bl false) H) : rIsi K [.ref n, .ty "int"] H Q := isi (.base (.tup h)) (by decide +kernel) q
theorem isi_tb {n : Addr} {xs : List V} (h : H n = some (.tup xs)) (q : Q (.bl false) H) : rIsi K [.ref n, .ty "bool"] H Q := isi (.base (.tup h)) (by decide +kernel) q
theorem isi_ts {n : Addr} {xs : List V} (h : H n = some (.tup xs)) (q : Q (.bl false) H) : rIsi K [.ref n, .ty "str"] H Q := isi (.base (.tup h)) (by decide +kernel) q
theorem isi_tl {n : Addr} {xs : List V} (h : H n = some (.tup xs)) (q : Q (.bl false) H) : rIsi K [.ref n, .ty "list"] H Q := isi (.base (.tup h)) (by decide +kernel) q
theorem isi_tt {n : Addr} {xs : List V} (h : H n = some (.tup xs)) (q : Q (.bl true) H) : rIsi K [.ref n, .ty "tuple"] H Q := isi (.base (.tup h)) (by decide +kernel) q
theorem isi_td {n : Addr} {xs : List V} (h : H n = some (.tup xs)) (q : Q (.bl false) H) : rIsi K [.ref n, .ty "dict"] H Q := isi (.base (.tup h)) (by decide +kernel) q
theorem isi_ni  (q : Q (.bl false) H) : rIsi K [.non, .ty "int"] H Q := isi (.base .non) (by decide +kernel) q
theorem isi_nb  (q : Q (.bl false) H) : rIsi K [.non, .ty "bool"] H Q := isi (.base .non) (by decide +kernel) q
theorem isi_ns  (q : Q (.bl false) H) : rIsi K [.non, .ty "str"] H Q := isi (.base .non) (by decide +kernel) q
theorem isi_nl  (q : Q (.bl false) H) : rIsi K [.non, .ty "list"] H Q := isi (.base .non) (by decide +kernel) q
theorem isi_nt  (q : Q (.bl false) H) : rIsi K [.non, .ty "tuple"] H Q := isi (.base .non) (by decide +kernel) q
theorem isi_nd  (q : Q (.bl false) H) : rIsi K [.non, .ty "dict"] H Q := isi (.base .non) (by decide +kernel) q
/-! ### slices of lists -/
theorem cut_to (xs : List V) (n : Nat) : cutV xs none (some (n : Int)) = xs.take n := by
  unfold cutV
  rw [HT.sIx_nat, HT.sIx_none, List.drop_zero, Nat.sub_zero]
  rcases Nat.le_total n xs.length with h | h
  · rw [Nat.min_eq_left h]
  · rw [Nat.min_eq_right h, List.take_of_length_le (Nat.le_refl _), List.take_of_length_le h]
theorem cut_from (xs : List V) (n : Nat) : cutV xs (some (n : Int)) none = xs.drop n := by
  unfold cutV
  rw [HT.sIx_nat, HT.sIx_none]
  rcases Nat.le_total n xs.length with h | h
  · rw [Nat.min_eq_left h, List.take_of_length_le (by rw [List.length_drop]; omega)]
  · rw [Nat.min_eq_right h, List.drop_of_length_le h, List.drop_of_length_le (Nat.le_refl _), List.take_nil]
theorem eqv_self (d : PyData) (h : d.canLay0 = true) : PyData.eqv d d = true := PySem.SeqAt.eqv_refl d h
/-! ### ints of a list, filtered -/
theorem lc_fl {a : Addr} {ns : List Int} {g : TG} {tt : TT} {te : TE} {vs : List Nat} {σ : L2.St} {H1 : Hp} {C : Addr} {Qd : Hp → Prop} (p : Int → Bool) (hS : SqL K H1 a (ns.map V.int)) (nD : H1 C = none) (hn : ns.length ≤ 90000)
    (hs : ∀ (i : Nat) H (n : Int) (Kt : VK) (Kn : Hp → Prop), ns[i]? = some n → But C H1 H → (p n = true → Kt (.int n) H) → (p n = false → Kn H) → g (.int n) (wipe σ vs) H fun σ2 H2 => wipe σ2 vs = wipe σ vs ∧ tt σ2 H2 fun b H3 => if b = true then te σ2 H3 Kt else Kn H3)
    (hd : ∀ H, Same H1 H → H C = some (.lst ((ns.filter p).map V.int)) → Qd H) :
    ∃ W : Nat → Nat → Hp → Prop, (∃ m, W 0 m (upd H1 C (.lst []))) ∧ ∀ i m H, W i m H →
      ((Itl K a).stop i H ∧ Qd H) ∨ ((Itl K a).go i H ∧ ∃ Nx : Hp → Prop, (∀ H', Nx H' → ∃ m', m' < m ∧ W (i + 1) m' H') ∧ ∀ x H', (Itl K a).yld i H x H' → g x (wipe σ vs) H' fun σ2 H2 => wipe σ2 vs = wipe σ vs ∧ tt σ2 H2 fun b H3 =>
        if b = true then te σ2 H3 fun y H4 => ∃ acc, H4 C = some (.lst acc) ∧ acc.length < sizeLine ∧ Nx (upd H4 C (.lst (acc ++ [y]))) else Nx H3) := by
  refine lc_it (walk_list (xs := ns.map V.int)) (fun i H => But C H1 H ∧ H C = some (.lst (((ns.take i).filter p).map V.int))) ⟨But.at_, by simp [upd_same]⟩ (fun i H _ h => (h.1.to nD).seq hS) (fun i x H H' hi ⟨b, hD⟩ y => ?_) (fun H ⟨b, hD⟩ => ?_)
  · obtain ⟨rfl, hx⟩ := y
    rw [List.getElem?_map] at hx
    obtain ⟨n, hn2, rfl⟩ : ∃ n, ns[i]? = some n ∧ V.int n = x := by
      cases e : ns[i]? with
      | none => rw [e] at hx; cases hx
      | some n => rw [e] at hx; exact ⟨n, rfl, Option.some.inj hx⟩
    have tk : (ns.take (i + 1)).filter p = (ns.take i).filter p ++ [n].filter p := by
      rw [List.take_add_one, hn2, List.filter_append]; rfl
    refine hs i _ n _ _ hn2 b (fun hp => ?_) (fun hp => ?_)
    · refine ⟨_, hD, szl ?_, b.trans But.at_, ?_⟩
      · rw [List.length_map]
        have := List.length_filter_le p (ns.take i)
        rw [List.length_take] at this
        omega
      · rw [upd_same, tk, List.filter_cons_of_pos hp]
        simp
    · refine ⟨b, ?_⟩
      rw [tk, List.filter_cons_of_neg (by simp [hp])]
      simpa using hD
  · rw [List.length_map, List.take_of_length_le (Nat.le_refl _)] at hD
    exact hd H (b.to nD) hD
theorem intI {i : Int} {A : Int → Prop} {B : Prop} (h : A i) : (∃ j, [V.int i] = [.int j] ∧ A j) ∨ B := .inl ⟨i, rfl, h⟩
theorem pos_ne {i : Int} (h : 0 < i) : i ≠ 0 := by omega
theorem ifnT {A B : Prop} (h : B) : if (!true) = true then A else B := by rw [if_neg (by decide)]; exact h
theorem ifnF {A B : Prop} (h : A) : if (!false) = true then A else B := by rw [if_pos (by decide)]; exact h
theorem cbListOfR {tr : TA} (h : tr σ H (ListOf K Q)) : tCB (rListOf K) tr σ H Q := h
def CatL (Q : VK) (x y : V) (H : Hp) : Prop := ∃ l b xs zs, x = .ref l ∧ y = .ref b ∧ H l = some (.lst xs) ∧ H b = some (.lst zs) ∧ xs.length + zs.length ≤ sizeLine ∧ ∀ p, H p = none → Q (.ref p) (upd H p (.lst (xs ++ zs)))
theorem catI (h : CatL Q x y H) : rCat x y H Q := h
theorem cat {a b : Addr} {xs zs : List V} (h1 : H a = some (.lst xs)) (h2 : H b = some (.lst zs)) (s : xs.length + zs.length ≤ 100000) (h : ∀ p H', H p = none → Same H H' → H' p = some (.lst (xs ++ zs)) → Q (.ref p) H') : CatL Q (.ref a) (.ref b) H := ⟨a, b, xs, zs, rfl, rfl, h1, h2, sz s, fun p np => h p _ np (same_new np) upd_same⟩
theorem v16 {a0 a1 a2 a3 a4 a5 a6 a7 a8 a9 a10 a11 a12 a13 a14 a15 : Option V} (h : Q v H) : tVar 16 (a0 :: a1 :: a2 :: a3 :: a4 :: a5 :: a6 :: a7 :: a8 :: a9 :: a10 :: a11 :: a12 :: a13 :: a14 :: a15 :: some v :: r) H Q := ⟨v, rfl, h⟩
theorem n16 {a0 a1 a2 a3 a4 a5 a6 a7 a8 a9 a10 a11 a12 a13 a14 a15 : Option V} {Q : L2.St → Hp → Prop} (h : Q (a0 :: a1 :: a2 :: a3 :: a4 :: a5 :: a6 :: a7 :: a8 :: a9 :: a10 :: a11 :: a12 :: a13 :: a14 :: a15 :: some v :: r) H) : gName 16 v (a0 :: a1 :: a2 :: a3 :: a4 :: a5 :: a6 :: a7 :: a8 :: a9 :: a10 :: a11 :: a12 :: a13 :: a14 :: a15 :: a :: r) H Q := h
theorem g16 {a0 a1 a2 a3 a4 a5 a6 a7 a8 a9 a10 a11 a12 a13 a14 a15 : Option V} {ti : TIp} (h : te (a0 :: a1 :: a2 :: a3 :: a4 :: a5 :: a6 :: a7 :: a8 :: a9 :: a10 :: a11 :: a12 :: a13 :: a14 :: a15 :: some x :: r) H fun y H1 => ti x y H1 fun z H2 => D.nx (a0 :: a1 :: a2 :: a3 :: a4 :: a5 :: a6 :: a7 :: a8 :: a9 :: a10 :: a11 :: a12 :: a13 :: a14 :: a15 :: some z :: r) H2) : tAug 16 te ti D (a0 :: a1 :: a2 :: a3 :: a4 :: a5 :: a6 :: a7 :: a8 :: a9 :: a10 :: a11 :: a12 :: a13 :: a14 :: a15 :: some x :: r) H := ⟨x, rfl, h⟩
theorem v17 {a0 a1 a2 a3 a4 a5 a6 a7 a8 a9 a10 a11 a12 a13 a14 a15 a16 : Option V} (h : Q v H) : tVar 17 (a0 :: a1 :: a2 :: a3 :: a4 :: a5 :: a6 :: a7 :: a8 :: a9 :: a10 :: a11 :: a12 :: a13 :: a14 :: a15 :: a16 :: some v :: r) H Q := ⟨v, rfl, h⟩
theorem n17 {a0 a1 a2 a3 a4 a5 a6 a7 a8 a9 a10 a11 a12 a13 a14 a15 a16 : Option V} {Q : L2.St → Hp → Prop} (h : Q (a0 :: a1 :: a2 :: a3 :: a4 :: a5 :: a6 :: a7 :: a8 :: a9 :: a10 :: a11 :: a12 :: a13 :: a14 :: a15 :: a16 :: some v :: r) H) : gName 17 v (a0 :: a1 :: a2 :: a3 :: a4 :: a5 :: a6 :: a7 :: a8 :: a9 :: a10 :: a11 :: a12 :: a13 :: a14 :: a15 :: a16 :: a :: r) H Q := h
theorem g17 {a0 a1 a2 a3 a4 a5 a6 a7 a8 a9 a10 a11 a12 a13 a14 a15 a16 : Option V} {ti : TIp} (h : te (a0 :: a1 :: a2 :: a3 :: a4 :: a5 :: a6 :: a7 :: a8 :: a9 :: a10 :: a11 :: a12 :: a13 :: a14 :: a15 :: a16 :: some x :: r) H fun y H1 => ti x y H1 fun z H2 => D.nx (a0 :: a1 :: a2 :: a3 :: a4 :: a5 :: a6 :: a7 :: a8 :: a9 :: a10 :: a11 :: a12 :: a13 :: a14 :: a15 :: a16 :: some z :: r) H2) : tAug 17 te ti D (a0 :: a1 :: a2 :: a3 :: a4 :: a5 :: a6 :: a7 :: a8 :: a9 :: a10 :: a11 :: a12 :: a13 :: a14 :: a15 :: a16 :: some x :: r) H := ⟨x, rfl, h⟩
theorem v18 {a0 a1 a2 a3 a4 a5 a6 a7 a8 a9 a10 a11 a12 a13 a14 a15 a16 a17 : Option V} (h : Q v H) : tVar 18 (a0 :: a1 :: a2 :: a3 :: a4 :: a5 :: a6 :: a7 :: a8 :: a9 :: a10 :: a11 :: a12 :: a13 :: a14 :: a15 :: a16 :: a17 :: some v :: r) H Q := ⟨v, rfl, h⟩
theorem n18 {a0 a1 a2 a3 a4 a5 a6 a7 a8 a9 a10 a11 a12 a13 a14 a15 a16 a17 : Option V} {Q : L2.St → Hp → Prop} (h : Q (a0 :: a1 :: a2 :: a3 :: a4 :: a5 :: a6 :: a7 :: a8 :: a9 :: a10 :: a11 :: a12 :: a13 :: a14 :: a15 :: a16 :: a17 :: some v :: r) H) : gName 18 v (a0 :: a1 :: a2 :: a3 :: a4 :: a5 :: a6 :: a7 :: a8 :: a9 :: a10 :: a11 :: a12 :: a13 :: a14 :: a15 :: a16 :: a17 :: a :: r) H Q := h
theorem g18 {a0 a1 a2 a3 a4 a5 a6 a7 a8 a9 a10 a11 a12 a13 a14 a15 a16 a17 : Option V} {ti : TIp} (h : te (a0 :: a1 :: a2 :: a3 :: a4 :: a5 :: a6 :: a7 :: a8 :: a9 :: a10 :: a11 :: a12 :: a13 :: a14 :: a15 :: a16 :: a17 :: some x :: r) H fun y H1 => ti x y H1 fun z H2 => D.nx (a0 :: a1 :: a2 :: a3 :: a4 :: a5 :: a6 :: a7 :: a8 :: a9 :: a10 :: a11 :: a12 :: a13 :: a14 :: a15 :: a16 :: a17 :: some z :: r) H2) : tAug 18 te ti D (a0 :: a1 :: a2 :: a3 :: a4 :: a5 :: a6 :: a7 :: a8 :: a9 :: a10 :: a11 :: a12 :: a13 :: a14 :: a15 :: a16 :: a17 :: some x :: r) H := ⟨x, rfl, h⟩
theorem v19 {a0 a1 a2 a3 a4 a5 a6 a7 a8 a9 a10 a11 a12 a13 a14 a15 a16 a17 a18 : Option V} (h : Q v H) : tVar 19 (a0 :: a1 :: a2 :: a3 :: a4 :: a5 :: a6 :: a7 :: a8 :: a9 :: a10 :: a11 :: a12 :: a13 :: a14 :: a15 :: a16 :: a17 :: a18 :: some v :: r) H Q := ⟨v, rfl, h⟩
theorem n19 {a0 a1 a2 a3 a4 a5 a6 a7 a8 a9 a10 a11 a12 a13 a14 a15 a16 a17 a18 : Option V} {Q : L2.St → Hp → Prop} (h : Q (a0 :: a1 :: a2 :: a3 :: a4 :: a5 :: a6 :: a7 :: a8 :: a9 :: a10 :: a11 :: a12 :: a13 :: a14 :: a15 :: a16 :: a17 :: a18 :: some v :: r) H) : gName 19 v (a0 :: a1 :: a2 :: a3 :: a4 :: a5 :: a6 :: a7 :: a8 :: a9 :: a10 :: a11 :: a12 :: a13 :: a14 :: a15 :: a16 :: a17 :: a18 :: a :: r) H Q := h
theorem g19 {a0 a1 a2 a3 a4 a5 a6 a7 a8 a9 a10 a11 a12 a13 a14 a15 a16 a17 a18 : Option V} {ti : TIp} (h : te (a0 :: a1 :: a2 :: a3 :: a4 :: a5 :: a6 :: a7 :: a8 :: a9 :: a10 :: a11 :: a12 :: a13 :: a14 :: a15 :: a16 :: a17 :: a18 :: some x :: r) H fun y H1 => ti x y H1 fun z H2 => D.nx (a0 :: a1 :: a2 :: a3 :: a4 :: a5 :: a6 :: a7 :: a8 :: a9 :: a10 :: a11 :: a12 :: a13 :: a14 :: a15 :: a16 :: a17 :: a18 :: some z :: r) H2) : tAug 19 te ti D (a0 :: a1 :: a2 :: a3 :: a4 :: a5 :: a6 :: a7 :: a8 :: a9 :: a10 :: a11 :: a12 :: a13 :: a14 :: a15 :: a16 :: a17 :: a18 :: some x :: r) H := ⟨x, rfl, h⟩
theorem v20 {a0 a1 a2 a3 a4 a5 a6 a7 a8 a9 a10 a11 a12 a13 a14 a15 a16 a17 a18 a19 : Option V} (h : Q v H) : tVar 20 (a0 :: a1 :: a2 :: a3 :: a4 :: a5 :: a6 :: a7 :: a8 :: a9 :: a10 :: a11 :: a12 :: a13 :: a14 :: a15 :: a16 :: a17 :: a18 :: a19 :: some v :: r) H Q := ⟨v, rfl, h⟩
theorem n20 {a0 a1 a2 a3 a4 a5 a6 a7 a8 a9 a10 a11 a12 a13 a14 a15 a16 a17 a18 a19 : Option V} {Q : L2.St → Hp → Prop} (h : Q (a0 :: a1 :: a2 :: a3 :: a4 :: a5 :: a6 :: a7 :: a8 :: a9 :: a10 :: a11 :: a12 :: a13 :: a14 :: a15 :: a16 :: a17 :: a18 :: a19 :: some v :: r) H) : gName 20 v (a0 :: a1 :: a2 :: a3 :: a4 :: a5 :: a6 :: a7 :: a8 :: a9 :: a10 :: a11 :: a12 :: a13 :: a14 :: a15 :: a16 :: a17 :: a18 :: a19 :: a :: r) H Q := h
theorem g20 {a0 a1 a2 a3 a4 a5 a6 a7 a8 a9 a10 a11 a12 a13 a14 a15 a16 a17 a18 a19 : Option V} {ti : TIp} (h : te (a0 :: a1 :: a2 :: a3 :: a4 :: a5 :: a6 :: a7 :: a8 :: a9 :: a10 :: a11 :: a12 :: a13 :: a14 :: a15 :: a16 :: a17 :: a18 :: a19 :: some x :: r) H fun y H1 => ti x y H1 fun z H2 => D.nx (a0 :: a1 :: a2 :: a3 :: a4 :: a5 :: a6 :: a7 :: a8 :: a9 :: a10 :: a11 :: a12 :: a13 :: a14 :: a15 :: a16 :: a17 :: a18 :: a19 :: some z :: r) H2) : tAug 20 te ti D (a0 :: a1 :: a2 :: a3 :: a4 :: a5 :: a6 :: a7 :: a8 :: a9 :: a10 :: a11 :: a12 :: a13 :: a14 :: a15 :: a16 :: a17 :: a18 :: a19 :: some x :: r) H := ⟨x, rfl, h⟩
theorem v21 {a0 a1 a2 a3 a4 a5 a6 a7 a8 a9 a10 a11 a12 a13 a14 a15 a16 a17 a18 a19 a20 : Option V} (h : Q v H) : tVar 21 (a0 :: a1 :: a2 :: a3 :: a4 :: a5 :: a6 :: a7 :: a8 :: a9 :: a10 :: a11 :: a12 :: a13 :: a14 :: a15 :: a16 :: a17 :: a18 :: a19 :: a20 :: some v :: r) H Q := ⟨v, rfl, h⟩
theorem n21 {a0 a1 a2 a3 a4 a5 a6 a7 a8 a9 a10 a11 a12 a13 a14 a15 a16 a17 a18 a19 a20 : Option V} {Q : L2.St → Hp → Prop} (h : Q (a0 :: a1 :: a2 :: a3 :: a4 :: a5 :: a6 :: a7 :: a8 :: a9 :: a10 :: a11 :: a12 :: a13 :: a14 :: a15 :: a16 :: a17 :: a18 :: a19 :: a20 :: some v :: r) H) : gName 21 v (a0 :: a1 :: a2 :: a3 :: a4 :: a5 :: a6 :: a7 :: a8 :: a9 :: a10 :: a11 :: a12 :: a13 :: a14 :: a15 :: a16 :: a17 :: a18 :: a19 :: a20 :: a :: r) H Q := h
theorem g21 {a0 a1 a2 a3 a4 a5 a6 a7 a8 a9 a10 a11 a12 a13 a14 a15 a16 a17 a18 a19 a20 : Option V} {ti : TIp} (h : te (a0 :: a1 :: a2 :: a3 :: a4 :: a5 :: a6 :: a7 :: a8 :: a9 :: a10 :: a11 :: a12 :: a13 :: a14 :: a15 :: a16 :: a17 :: a18 :: a19 :: a20 :: some x :: r) H fun y H1 => ti x y H1 fun z H2 => D.nx (a0 :: a1 :: a2 :: a3 :: a4 :: a5 :: a6 :: a7 :: a8 :: a9 :: a10 :: a11 :: a12 :: a13 :: a14 :: a15 :: a16 :: a17 :: a18 :: a19 :: a20 :: some z :: r) H2) : tAug 21 te ti D (a0 :: a1 :: a2 :: a3 :: a4 :: a5 :: a6 :: a7 :: a8 :: a9 :: a10 :: a11 :: a12 :: a13 :: a14 :: a15 :: a16 :: a17 :: a18 :: a19 :: a20 :: some x :: r) H := ⟨x, rfl, h⟩
theorem v22 {a0 a1 a2 a3 a4 a5 a6 a7 a8 a9 a10 a11 a12 a13 a14 a15 a16 a17 a18 a19 a20 a21 : Option V} (h : Q v H) : tVar 22 (a0 :: a1 :: a2 :: a3 :: a4 :: a5 :: a6 :: a7 :: a8 :: a9 :: a10 :: a11 :: a12 :: a13 :: a14 :: a15 :: a16 :: a17 :: a18 :: a19 :: a20 :: a21 :: some v :: r) H Q := ⟨v, rfl, h⟩
theorem n22 {a0 a1 a2 a3 a4 a5 a6 a7 a8 a9 a10 a11 a12 a13 a14 a15 a16 a17 a18 a19 a20 a21 : Option V} {Q : L2.St → Hp → Prop} (h : Q (a0 :: a1 :: a2 :: a3 :: a4 :: a5 :: a6 :: a7 :: a8 :: a9 :: a10 :: a11 :: a12 :: a13 :: a14 :: a15 :: a16 :: a17 :: a18 :: a19 :: a20 :: a21 :: some v :: r) H) : gName 22 v (a0 :: a1 :: a2 :: a3 :: a4 :: a5 :: a6 :: a7 :: a8 :: a9 :: a10 :: a11 :: a12 :: a13 :: a14 :: a15 :: a16 :: a17 :: a18 :: a19 :: a20 :: a21 :: a :: r) H Q := h
theorem g22 {a0 a1 a2 a3 a4 a5 a6 a7 a8 a9 a10 a11 a12 a13 a14 a15 a16 a17 a18 a19 a20 a21 : Option V} {ti : TIp} (h : te (a0 :: a1 :: a2 :: a3 :: a4 :: a5 :: a6 :: a7 :: a8 :: a9 :: a10 :: a11 :: a12 :: a13 :: a14 :: a15 :: a16 :: a17 :: a18 :: a19 :: a20 :: a21 :: some x :: r) H fun y H1 => ti x y H1 fun z H2 => D.nx (a0 :: a1 :: a2 :: a3 :: a4 :: a5 :: a6 :: a7 :: a8 :: a9 :: a10 :: a11 :: a12 :: a13 :: a14 :: a15 :: a16 :: a17 :: a18 :: a19 :: a20 :: a21 :: some z :: r) H2) : tAug 22 te ti D (a0 :: a1 :: a2 :: a3 :: a4 :: a5 :: a6 :: a7 :: a8 :: a9 :: a10 :: a11 :: a12 :: a13 :: a14 :: a15 :: a16 :: a17 :: a18 :: a19 :: a20 :: a21 :: some x :: r) H := ⟨x, rfl, h⟩
theorem v23 {a0 a1 a2 a3 a4 a5 a6 a7 a8 a9 a10 a11 a12 a13 a14 a15 a16 a17 a18 a19 a20 a21 a22 : Option V} (h : Q v H) : tVar 23 (a0 :: a1 :: a2 :: a3 :: a4 :: a5 :: a6 :: a7 :: a8 :: a9 :: a10 :: a11 :: a12 :: a13 :: a14 :: a15 :: a16 :: a17 :: a18 :: a19 :: a20 :: a21 :: a22 :: some v :: r) H Q := ⟨v, rfl, h⟩
theorem n23 {a0 a1 a2 a3 a4 a5 a6 a7 a8 a9 a10 a11 a12 a13 a14 a15 a16 a17 a18 a19 a20 a21 a22 : Option V} {Q : L2.St → Hp → Prop} (h : Q (a0 :: a1 :: a2 :: a3 :: a4 :: a5 :: a6 :: a7 :: a8 :: a9 :: a10 :: a11 :: a12 :: a13 :: a14 :: a15 :: a16 :: a17 :: a18 :: a19 :: a20 :: a21 :: a22 :: some v :: r) H) : gName 23 v (a0 :: a1 :: a2 :: a3 :: a4 :: a5 :: a6 :: a7 :: a8 :: a9 :: a10 :: a11 :: a12 :: a13 :: a14 :: a15 :: a16 :: a17 :: a18 :: a19 :: a20 :: a21 :: a22 :: a :: r) H Q := h
theorem g23 {a0 a1 a2 a3 a4 a5 a6 a7 a8 a9 a10 a11 a12 a13 a14 a15 a16 a17 a18 a19 a20 a21 a22 : Option V} {ti : TIp} (h : te (a0 :: a1 :: a2 :: a3 :: a4 :: a5 :: a6 :: a7 :: a8 :: a9 :: a10 :: a11 :: a12 :: a13 :: a14 :: a15 :: a16 :: a17 :: a18 :: a19 :: a20 :: a21 :: a22 :: some x :: r) H fun y H1 => ti x y H1 fun z H2 => D.nx (a0 :: a1 :: a2 :: a3 :: a4 :: a5 :: a6 :: a7 :: a8 :: a9 :: a10 :: a11 :: a12 :: a13 :: a14 :: a15 :: a16 :: a17 :: a18 :: a19 :: a20 :: a21 :: a22 :: some z :: r) H2) : tAug 23 te ti D (a0 :: a1 :: a2 :: a3 :: a4 :: a5 :: a6 :: a7 :: a8 :: a9 :: a10 :: a11 :: a12 :: a13 :: a14 :: a15 :: a16 :: a17 :: a18 :: a19 :: a20 :: a21 :: a22 :: some x :: r) H := ⟨x, rfl, h⟩
theorem v24 {a0 a1 a2 a3 a4 a5 a6 a7 a8 a9 a10 a11 a12 a13 a14 a15 a16 a17 a18 a19 a20 a21 a22 a23 : Option V} (h : Q v H) : tVar 24 (a0 :: a1 :: a2 :: a3 :: a4 :: a5 :: a6 :: a7 :: a8 :: a9 :: a10 :: a11 :: a12 :: a13 :: a14 :: a15 :: a16 :: a17 :: a18 :: a19 :: a20 :: a21 :: a22 :: a23 :: some v :: r) H Q := ⟨v, rfl, h⟩
theorem n24 {a0 a1 a2 a3 a4 a5 a6 a7 a8 a9 a10 a11 a12 a13 a14 a15 a16 a17 a18 a19 a20 a21 a22 a23 : Option V} {Q : L2.St → Hp → Prop} (h : Q (a0 :: a1 :: a2 :: a3 :: a4 :: a5 :: a6 :: a7 :: a8 :: a9 :: a10 :: a11 :: a12 :: a13 :: a14 :: a15 :: a16 :: a17 :: a18 :: a19 :: a20 :: a21 :: a22 :: a23 :: some v :: r) H) : gName 24 v (a0 :: a1 :: a2 :: a3 :: a4 :: a5 :: a6 :: a7 :: a8 :: a9 :: a10 :: a11 :: a12 :: a13 :: a14 :: a15 :: a16 :: a17 :: a18 :: a19 :: a20 :: a21 :: a22 :: a23 :: a :: r) H Q := h
theorem g24 {a0 a1 a2 a3 a4 a5 a6 a7 a8 a9 a10 a11 a12 a13 a14 a15 a16 a17 a18 a19 a20 a21 a22 a23 : Option V} {ti : TIp} (h : te (a0 :: a1 :: a2 :: a3 :: a4 :: a5 :: a6 :: a7 :: a8 :: a9 :: a10 :: a11 :: a12 :: a13 :: a14 :: a15 :: a16 :: a17 :: a18 :: a19 :: a20 :: a21 :: a22 :: a23 :: some x :: r) H fun y H1 => ti x y H1 fun z H2 => D.nx (a0 :: a1 :: a2 :: a3 :: a4 :: a5 :: a6 :: a7 :: a8 :: a9 :: a10 :: a11 :: a12 :: a13 :: a14 :: a15 :: a16 :: a17 :: a18 :: a19 :: a20 :: a21 :: a22 :: a23 :: some z :: r) H2) : tAug 24 te ti D (a0 :: a1 :: a2 :: a3 :: a4 :: a5 :: a6 :: a7 :: a8 :: a9 :: a10 :: a11 :: a12 :: a13 :: a14 :: a15 :: a16 :: a17 :: a18 :: a19 :: a20 :: a21 :: a22 :: a23 :: some x :: r) H := ⟨x, rfl, h⟩
theorem v25 {a0 a1 a2 a3 a4 a5 a6 a7 a8 a9 a10 a11 a12 a13 a14 a15 a16 a17 a18 a19 a20 a21 a22 a23 a24 : Option V} (h : Q v H) : tVar 25 (a0 :: a1 :: a2 :: a3 :: a4 :: a5 :: a6 :: a7 :: a8 :: a9 :: a10 :: a11 :: a12 :: a13 :: a14 :: a15 :: a16 :: a17 :: a18 :: a19 :: a20 :: a21 :: a22 :: a23 :: a24 :: some v :: r) H Q := ⟨v, rfl, h⟩
theorem n25 {a0 a1 a2 a3 a4 a5 a6 a7 a8 a9 a10 a11 a12 a13 a14 a15 a16 a17 a18 a19 a20 a21 a22 a23 a24 : Option V} {Q : L2.St → Hp → Prop} (h : Q (a0 :: a1 :: a2 :: a3 :: a4 :: a5 :: a6 :: a7 :: a8 :: a9 :: a10 :: a11 :: a12 :: a13 :: a14 :: a15 :: a16 :: a17 :: a18 :: a19 :: a20 :: a21 :: a22 :: a23 :: a24 :: some v :: r) H) : gName 25 v (a0 :: a1 :: a2 :: a3 :: a4 :: a5 :: a6 :: a7 :: a8 :: a9 :: a10 :: a11 :: a12 :: a13 :: a14 :: a15 :: a16 :: a17 :: a18 :: a19 :: a20 :: a21 :: a22 :: a23 :: a24 :: a :: r) H Q := h
theorem g25 {a0 a1 a2 a3 a4 a5 a6 a7 a8 a9 a10 a11 a12 a13 a14 a15 a16 a17 a18 a19 a20 a21 a22 a23 a24 : Option V} {ti : TIp} (h : te (a0 :: a1 :: a2 :: a3 :: a4 :: a5 :: a6 :: a7 :: a8 :: a9 :: a10 :: a11 :: a12 :: a13 :: a14 :: a15 :: a16 :: a17 :: a18 :: a19 :: a20 :: a21 :: a22 :: a23 :: a24 :: some x :: r) H fun y H1 => ti x y H1 fun z H2 => D.nx (a0 :: a1 :: a2 :: a3 :: a4 :: a5 :: a6 :: a7 :: a8 :: a9 :: a10 :: a11 :: a12 :: a13 :: a14 :: a15 :: a16 :: a17 :: a18 :: a19 :: a20 :: a21 :: a22 :: a23 :: a24 :: some z :: r) H2) : tAug 25 te ti D (a0 :: a1 :: a2 :: a3 :: a4 :: a5 :: a6 :: a7 :: a8 :: a9 :: a10 :: a11 :: a12 :: a13 :: a14 :: a15 :: a16 :: a17 :: a18 :: a19 :: a20 :: a21 :: a22 :: a23 :: a24 :: some x :: r) H := ⟨x, rfl, h⟩
theorem v26 {a0 a1 a2 a3 a4 a5 a6 a7 a8 a9 a10 a11 a12 a13 a14 a15 a16 a17 a18 a19 a20 a21 a22 a23 a24 a25 : Option V} (h : Q v H) : tVar 26 (a0 :: a1 :: a2 :: a3 :: a4 :: a5 :: a6 :: a7 :: a8 :: a9 :: a10 :: a11 :: a12 :: a13 :: a14 :: a15 :: a16 :: a17 :: a18 :: a19 :: a20 :: a21 :: a22 :: a23 :: a24 :: a25 :: some v :: r) H Q := ⟨v, rfl, h⟩
theorem n26 {a0 a1 a2 a3 a4 a5 a6 a7 a8 a9 a10 a11 a12 a13 a14 a15 a16 a17 a18 a19 a20 a21 a22 a23 a24 a25 : Option V} {Q : L2.St → Hp → Prop} (h : Q (a0 :: a1 :: a2 :: a3 :: a4 :: a5 :: a6 :: a7 :: a8 :: a9 :: a10 :: a11 :: a12 :: a13 :: a14 :: a15 :: a16 :: a17 :: a18 :: a19 :: a20 :: a21 :: a22 :: a23 :: a24 :: a25 :: some v :: r) H) : gName 26 v (a0 :: a1 :: a2 :: a3 :: a4 :: a5 :: a6 :: a7 :: a8 :: a9 :: a10 :: a11 :: a12 :: a13 :: a14 :: a15 :: a16 :: a17 :: a18 :: a19 :: a20 :: a21 :: a22 :: a23 :: a24 :: a25 :: a :: r) H Q := h
theorem g26 {a0 a1 a2 a3 a4 a5 a6 a7 a8 a9 a10 a11 a12 a13 a14 a15 a16 a17 a18 a19 a20 a21 a22 a23 a24 a25 : Option V} {ti : TIp} (h : te (a0 :: a1 :: a2 :: a3 :: a4 :: a5 :: a6 :: a7 :: a8 :: a9 :: a10 :: a11 :: a12 :: a13 :: a14 :: a15 :: a16 :: a17 :: a18 :: a19 :: a20 :: a21 :: a22 :: a23 :: a24 :: a25 :: some x :: r) H fun y H1 => ti x y H1 fun z H2 => D.nx (a0 :: a1 :: a2 :: a3 :: a4 :: a5 :: a6 :: a7 :: a8 :: a9 :: a10 :: a11 :: a12 :: a13 :: a14 :: a15 :: a16 :: a17 :: a18 :: a19 :: a20 :: a21 :: a22 :: a23 :: a24 :: a25 :: some z :: r) H2) : tAug 26 te ti D (a0 :: a1 :: a2 :: a3 :: a4 :: a5 :: a6 :: a7 :: a8 :: a9 :: a10 :: a11 :: a12 :: a13 :: a14 :: a15 :: a16 :: a17 :: a18 :: a19 :: a20 :: a21 :: a22 :: a23 :: a24 :: a25 :: some x :: r) H := ⟨x, rfl, h⟩
theorem v27 {a0 a1 a2 a3 a4 a5 a6 a7 a8 a9 a10 a11 a12 a13 a14 a15 a16 a17 a18 a19 a20 a21 a22 a23 a24 a25 a26 : Option V} (h : Q v H) : tVar 27 (a0 :: a1 :: a2 :: a3 :: a4 :: a5 :: a6 :: a7 :: a8 :: a9 :: a10 :: a11 :: a12 :: a13 :: a14 :: a15 :: a16 :: a17 :: a18 :: a19 :: a20 :: a21 :: a22 :: a23 :: a24 :: a25 :: a26 :: some v :: r) H Q := ⟨v, rfl, h⟩
theorem n27 {a0 a1 a2 a3 a4 a5 a6 a7 a8 a9 a10 a11 a12 a13 a14 a15 a16 a17 a18 a19 a20 a21 a22 a23 a24 a25 a26 : Option V} {Q : L2.St → Hp → Prop} (h : Q (a0 :: a1 :: a2 :: a3 :: a4 :: a5 :: a6 :: a7 :: a8 :: a9 :: a10 :: a11 :: a12 :: a13 :: a14 :: a15 :: a16 :: a17 :: a18 :: a19 :: a20 :: a21 :: a22 :: a23 :: a24 :: a25 :: a26 :: some v :: r) H) : gName 27 v (a0 :: a1 :: a2 :: a3 :: a4 :: a5 :: a6 :: a7 :: a8 :: a9 :: a10 :: a11 :: a12 :: a13 :: a14 :: a15 :: a16 :: a17 :: a18 :: a19 :: a20 :: a21 :: a22 :: a23 :: a24 :: a25 :: a26 :: a :: r) H Q := h
theorem g27 {a0 a1 a2 a3 a4 a5 a6 a7 a8 a9 a10 a11 a12 a13 a14 a15 a16 a17 a18 a19 a20 a21 a22 a23 a24 a25 a26 : Option V} {ti : TIp} (h : te (a0 :: a1 :: a2 :: a3 :: a4 :: a5 :: a6 :: a7 :: a8 :: a9 :: a10 :: a11 :: a12 :: a13 :: a14 :: a15 :: a16 :: a17 :: a18 :: a19 :: a20 :: a21 :: a22 :: a23 :: a24 :: a25 :: a26 :: some x :: r) H fun y H1 => ti x y H1 fun z H2 => D.nx (a0 :: a1 :: a2 :: a3 :: a4 :: a5 :: a6 :: a7 :: a8 :: a9 :: a10 :: a11 :: a12 :: a13 :: a14 :: a15 :: a16 :: a17 :: a18 :: a19 :: a20 :: a21 :: a22 :: a23 :: a24 :: a25 :: a26 :: some z :: r) H2) : tAug 27 te ti D (a0 :: a1 :: a2 :: a3 :: a4 :: a5 :: a6 :: a7 :: a8 :: a9 :: a10 :: a11 :: a12 :: a13 :: a14 :: a15 :: a16 :: a17 :: a18 :: a19 :: a20 :: a21 :: a22 :: a23 :: a24 :: a25 :: a26 :: some x :: r) H := ⟨x, rfl, h⟩
end Rd

set_option Elab.async false
set_option linter.all false
set_option maxRecDepth 100000
namespace Rd
open PySem PySem.Spec PyProof.Rows L2
variable {K : PySem.W.Frag} {σ : L2.St} {H : Hp} {D : Ends} {Q : VK} {v : V} {vs : List V}
theorem vv {i : Nat} (e : σ[i]? = some (some v)) (h : Q v H) : tVar i σ H Q := ⟨v, e, h⟩
theorem gdN {i : Nat} {Q : L2.St → Hp → Prop} (h : gName i v σ H Q) : gName i v σ H Q := h
theorem gdG {i : Nat} {te : TE} {ti : TIp} (h : tAug i te ti D σ H) : tAug i te ti D σ H := h
theorem gdI (h : rIsi K vs H Q) : rIsi K vs H Q := h
end Rd

set_option Elab.async false
set_option linter.all false
set_option maxRecDepth 100000
namespace Rd
open PySem PySem.Spec PyProof.Rows L2
variable {K : PySem.W.Frag} {σ : L2.St} {H : Hp} {D : Ends} {Q : VK} {ta tb te tv : TE} {x y v : V} {tr : TA} {f m : Str} {C : Addr} {sp : Sp} {dvs : List V} {E : XK}
/-! ### objects of own classes -/
def FldG (K : PySem.W.Frag) (x : V) (f : Str) (Q : VK) (H : Hp) : Prop := ∃ a C dx fs v, x = .ref a ∧ H a = some (.ins C dx fs) ∧ Cls K C ∧ NoAttr K C f ∧ fs.lookup f = some v ∧ Q v H
theorem fld (h : te σ H fun x H1 => FldG K x f Q H1) : tFld K te f σ H Q := h
theorem fldI {a dx : Addr} {fs : List (Str × V)} (h : H a = some (.ins C dx fs)) (c : Cls K C) (n : NoAttr K C f) (e : fs.lookup f = some v) (q : Q v H) : FldG K (.ref a) f Q H := ⟨a, C, dx, fs, v, rfl, h, c, n, e, q⟩
def SfG (K : PySem.W.Frag) (x : V) (f : Str) (y : V) (D : Ends) (σ : L2.St) (H : Hp) : Prop := ∃ a C dx fs, x = .ref a ∧ H a = some (.ins C dx fs) ∧ Cls K C ∧ NoAttr K C f ∧ fs.length < 1000 ∧ D.nx σ (upd H a (.ins C dx (putF f y fs)))
theorem sfld (h : tv σ H fun y H1 => ta σ H1 fun x H2 => SfG K x f y D σ H2) : sFld K ta tv f D σ H := h
theorem sfldI {a dx : Addr} {fs : List (Str × V)} (h : H a = some (.ins C dx fs)) (c : Cls K C) (n : NoAttr K C f) (l : fs.length < 1000) (q : D.nx σ (upd H a (.ins C dx (putF f y fs)))) : SfG K (.ref a) f y D σ H := ⟨a, C, dx, fs, rfl, h, c, n, l, q⟩
def MtG (C : Addr) (m : Str) (sp : Sp) (dvs : List V) (E : XK) (t : TA) (σ : L2.St) (Q : VK) (x : V) (H : Hp) : Prop := ∃ a dx fs, x = .ref a ∧ H a = some (.ins C dx fs) ∧ fs.lookup m = none ∧ t σ H fun vs H2 => sp (x :: (vs ++ dvs)) H2 Q E
theorem meth (h : ta σ H fun x H1 => MtG C m sp dvs E tr σ Q x H1) : tMeth C m sp dvs E ta tr σ H Q := h
theorem methI {a dx : Addr} {fs : List (Str × V)} (h : H a = some (.ins C dx fs)) (n : fs.lookup m = none) (q : tr σ H fun vs H2 => sp (.ref a :: (vs ++ dvs)) H2 Q E) : MtG C m sp dvs E tr σ Q (.ref a) H := ⟨a, dx, fs, rfl, h, n, q⟩
def MkG (C : Addr) (sp : Sp) (dvs : List V) (E : XK) (Q : VK) (vs : List V) (H1 : Hp) : Prop := ∀ x dx, H1 x = none → H1 dx = none → dx ≠ x → sp (.ref x :: (vs ++ dvs)) (upd (upd H1 dx (.own x)) x (.ins C dx [])) (fun v H2 => v = .non ∧ Q (.ref x) H2) E
theorem make (h : tr σ H fun vs H1 => MkG C sp dvs E Q vs H1) : tMake C sp dvs E tr σ H Q := h
theorem popI {l : Addr} {xs : List V} (h : H l = some (.lst xs)) (e : xs[xs.length - 1]? = some y) (q : Q y (upd H l (.lst xs.dropLast))) : rPop (.ref l) [] H Q := ⟨l, xs, y, rfl, rfl, h, e, q⟩
theorem maxL {a : Addr} {ns : List Int} (h : H a = some (.lst (ns.map V.int))) (l : 0 < ns.length) (q : ∀ m, m ∈ ns → (∀ y, y ∈ ns → y ≤ m) → Q (.int m) H) : rMax K [.ref a] H Q := ⟨a, ns, rfl, SqL.of h, l, q⟩
theorem anyL {a : Addr} {bs : List Bool} (h : H a = some (.lst (bs.map V.bl))) (q : Q (.bl (bs.any id)) H) : rAny K [.ref a] H Q := ⟨a, bs, rfl, SqL.of h, q⟩
theorem sumL {a : Addr} {ns : List Int} (h : H a = some (.lst (ns.map V.int))) (q : Q (.int ns.sum) H) : rSum K [.ref a] H Q := ⟨a, ns, rfl, SqL.of h, q⟩
variable {R : It → Hp → Prop}
theorem izip (h : tr σ H fun vs H1 => ∃ a b xs ys, vs = [.ref a, .ref b] ∧ ((SqL K H1 a xs ∧ SqL K H1 b ys ∧ R (Itz K a b) H1) ∨ (SqT K H1 a xs ∧ SqT K H1 b ys ∧ R (RZ.ItzT K a b) H1))) : RZ.iZipA K tr σ H R := h
theorem izI {a b : Addr} {xs ys : List V} {A : Addr → Addr → Prop} {B : Addr → Addr → Prop} (h1 : H a = some (.lst xs)) (h2 : H b = some (.lst ys)) (q : A a b) : ∃ a' b' xs ys, [V.ref a, .ref b] = [.ref a', .ref b'] ∧ ((SqL K H a' xs ∧ SqL K H b' ys ∧ A a' b') ∨ (SqT K H a' xs ∧ SqT K H b' ys ∧ B a' b')) := ⟨a, b, xs, ys, rfl, .inl ⟨SqL.of h1, SqL.of h2, q⟩⟩
end Rd

set_option Elab.async false
set_option linter.all false
set_option maxRecDepth 100000
/-! dicts whose keys are ints: what a reading asks of them, over lists of pairs -/
namespace L2
open PySem PySem.Spec PyProof.Rows
section
variable {X : Cx}
/-- name = {..} on one line, the name a local: the dict comprehension's form of the rule for a list -/
theorem ps_setDc {i : Nat} {y : Str} {py : Pos} {kx vx tg iter : Expr} {ifs : List Expr} {scope : Scope} {own : List (Str × Nat)} {pos spos : Pos} {wi : TI} {g : TG} {tt : TT} {tk tv : TE} (hc : X.calm = true) (hN : X.N.Nodup) (hy : X.N[i]? = some y) (hyl : X.env.scope.names.lookup y = some .local)
    (hsw : swapsWith (.DictComp kx vx [⟨tg, iter, ifs, 0⟩] scope pos) (some (.Name y py)) spos.line X.env = pure true) (hi : PI X tg iter wi) (ok : BlkOk X.N X.env.scope scope own)
    (hg : ∀ (s : Shared) (H : Hp) (C : Addr) (cl : List (Str × Addr)) (fp : List Addr), PG (X.blk s H scope (compEnvC scope cl C X.env) fp) tg g) (ht : ∀ (s : Shared) (H : Hp) (C : Addr) (cl : List (Str × Addr)) (fp : List Addr), PTs (X.blk s H scope (compEnvC scope cl C X.env) fp) ifs tt)
    (hk : ∀ (s : Shared) (H : Hp) (C : Addr) (cl : List (Str × Addr)) (fp : List Addr), PE (X.blk s H scope (compEnvC scope cl C X.env) fp) kx tk)
    (he : ∀ (s : Shared) (H : Hp) (C : Addr) (cl : List (Str × Addr)) (fp : List Addr), PE (X.blk s H scope (compEnvC scope cl C X.env) fp) vx tv) (hs : ∀ x, foldedSetIterable iter X.env x = pure x := by intro _; rfl) :
    PS X (.Assign [.Name y py] (.DictComp kx vx [⟨tg, iter, ifs, 0⟩] scope pos) spos) (tAsg (tDc wi g tt tk tv (own.map (·.2))) (gName i)) := by
  refine ⟨fun pins s σ H D I h => ?_⟩
  rw [exec_Assign_Name_used _ _ _ _ hsw]
  refine wpAny_bind (wpAny_standAt (wpAny_bind ?_))
  show wpAny _ X.A (do let _ ← comprehension (.DictComp kx vx [⟨tg, iter, ifs, 0⟩] scope pos) scope X.env (firstIterPos [⟨tg, iter, ifs, 0⟩] pos) newDict false (eval iter X.env) (some (assign (.Name y py) X.env))) _ _ s
  have h : tDc wi g tt tk tv (own.map (·.2)) σ H (fun x H1 => gName i x σ H1 D.nx) := h
  refine wpAny_bind (thn (dc_core (Qf := fun _ s' => SP X pins D .next s') hc hN I hi ok hg ht hk he hs h fun L C s' m H' I' q hn f => ?_) fun _ s' hq => wpAny_pure (wpAny_pure hq))
  show wpAny _ _ (assign (.Name y py) X.env (.ref L)) _ _ _
  refine wpAny_assign_Name (store_ok2 (v := V.ref L) I' hN hy (.inl hyl) rfl (fun s2 I2 ⟨a, sb, ha⟩ => ?_) (.inr hyl))
  obtain ⟨f0, f1, f2, f3, f4, f5⟩ := f
  have haC : C ≠ a := by
    rcases ha with z | z
    · rw [z]; exact f1
    · exact fun e => f4 y a z e.symm
  refine ⟨m, hn.sameBut sb haC, fun h3 sb3 => ?_⟩
  exact ⟨_, H', I2.turned (t' := s2.toks) (fun b o hb e => (sb3.2 b hb).trans e) f0 f1 f3 f4 f5, q⟩
theorem sw_trueD {kx vx : Expr} {gs : List Comprehension} {scope : Scope} {pos py : Pos} {y : Str} {l : Nat} {env : Env} (hk : env.scope.kind = .function) (hy : env.scope.names.lookup y = some .local) (hl : (py.line == pos.line) = true)
    (ha : (scope.names.any fun (n, k) => n == y && (k == .local || k == .cell)) = false) : swapsWith (.DictComp kx vx gs scope pos) (some (.Name y py)) l env = pure true := by
  have ky : env.kindOf y = some .local := hy
  have hb : env.blockKind = .function := by unfold Env.blockKind; rw [hk]; rfl
  unfold swapsWith
  simp only [hb, ky, ha, Expr.pos, hl]
  rfl
end
end L2
namespace Rd
open PySem PySem.Spec PyProof.Rows L2
variable {K : PySem.W.Frag} {σ : L2.St} {H : Hp} {D : Ends} {Q : VK} {ta tb te tc td ty tx : TE} {x y v : V}
/-- a dict of ints to values, in order -/
abbrev DI (m : List (Int × V)) : HO := .dK (m.map fun p => (Sum.inl p.1, p.2))
def lk (m : List (Int × V)) (k : Int) : Option V := (m.find? fun p => decide (p.1 = k)).map (·.2)
def pt (m : List (Int × V)) (k : Int) (v : V) : List (Int × V) := if (m.any fun p => decide (p.1 = k)) = true then m.map (fun p => if p.1 = k then (p.1, v) else p) else m ++ [(k, v)]
theorem valV_di (m : List (Int × V)) (k : Int) : valV (m.map fun p => ((Sum.inl p.1 : Key), p.2)) (Sum.inl k) = lk m k := by
  unfold valV lk
  induction m with
  | nil => rfl
  | cons a r ih =>
    rw [List.map_cons, List.find?_cons, List.find?_cons]
    by_cases h : a.1 = k
    · have e : decide ((Sum.inl a.1 : Key) = Sum.inl k) = true := decide_eq_true (by rw [h])
      rw [e, decide_eq_true h]; rfl
    · have e : decide ((Sum.inl a.1 : Key) = Sum.inl k) = false := decide_eq_false fun z => h (Sum.inl.inj z)
      rw [e, decide_eq_false h]; exact ih
theorem putK_di (m : List (Int × V)) (k : Int) (v : V) : putK (m.map fun p => ((Sum.inl p.1 : Key), p.2)) (Sum.inl k) v = (pt m k v).map fun p => ((Sum.inl p.1 : Key), p.2) := by
  have e : ∀ p : Int × V, decide ((Sum.inl p.1 : Key) = Sum.inl k) = decide (p.1 = k) := fun p => by
    by_cases h : p.1 = k
    · rw [decide_eq_true h, decide_eq_true (by rw [h])]
    · rw [decide_eq_false h, decide_eq_false fun z => h (Sum.inl.inj z)]
  unfold putK pt
  rw [List.any_map]
  have e2 : (m.any ((fun kv : Key × V => decide (kv.1 = Sum.inl k)) ∘ fun p => ((Sum.inl p.1 : Key), p.2))) = m.any fun p => decide (p.1 = k) := by
    congr 1; funext p; exact e p
  rw [e2]
  split
  · rw [List.map_map, List.map_map]
    congr 1; funext p
    show (if (Sum.inl p.1 : Key) = Sum.inl k then ((Sum.inl p.1 : Key), v) else (Sum.inl p.1, p.2)) = _
    by_cases h : p.1 = k
    · simp [h]
    · have h2 : ¬ (Sum.inl p.1 : Key) = Sum.inl k := fun z => h (Sum.inl.inj z)
      simp [h]
  · rw [List.map_append]; rfl
theorem get_di {a : Addr} {m : List (Int × V)} {k : Int} (h : Rd H a (DI m)) : DGet H a (.int k) (lk m k) := .inl ⟨_, Sum.inl k, h, rfl, (valV_di m k).symm⟩
theorem rd_of {a : Addr} {u : HO} (h : H a = some u) : L2.Rd H a u := .inl h
theorem rd_fz {a : Addr} {u : HO} {o : Obj} (h : H a = some (.frz o u)) : L2.Rd H a u := .inr ⟨o, h⟩
theorem lk_pt (m : List (Int × V)) (k k' : Int) (v : V) : lk (pt m k v) k' = if k' = k then some v else lk m k' := by
  unfold pt
  split
  · rename_i c
    unfold lk
    induction m with
    | nil => simp at c
    | cons a r ih =>
      rw [List.map_cons, List.find?_cons, List.find?_cons]
      by_cases h : a.1 = k
      · rw [if_pos h]
        by_cases h2 : k' = k
        · rw [if_pos h2, decide_eq_true (by rw [h, h2])]; rfl
        · have e : ¬ a.1 = k' := fun z => h2 (by rw [← z, h])
          rw [if_neg h2, decide_eq_false e]
          have e2 : List.map (fun p => if p.1 = k then (p.1, v) else p) r = List.map (fun p => if p.1 = k then (p.1, v) else p) r := rfl
          have : (List.find? (fun p => decide (p.1 = k')) (List.map (fun p => if p.1 = k then (p.1, v) else p) r)).map (·.2) = (List.find? (fun p => decide (p.1 = k')) r).map (·.2) := by
            clear ih c e2
            induction r with
            | nil => rfl
            | cons b r ih =>
              rw [List.map_cons, List.find?_cons, List.find?_cons]
              by_cases h3 : b.1 = k
              · rw [if_pos h3, decide_eq_false (fun z : b.1 = k' => h2 (by rw [← z, h3]))]; exact ih
              · rw [if_neg h3]
                by_cases h4 : b.1 = k'
                · rw [decide_eq_true h4]
                · rw [decide_eq_false h4]; exact ih
          exact this
      · rw [if_neg h]
        have c2 : (r.any fun p => decide (p.1 = k)) = true := by
          rw [List.any_cons, decide_eq_false h, Bool.false_or] at c; exact c
        by_cases h4 : a.1 = k'
        · have e : ¬ k' = k := fun z => h (by rw [h4, z])
          rw [decide_eq_true h4, if_neg e]
        · rw [decide_eq_false h4]; exact ih c2
  · rename_i c
    unfold lk
    rw [List.find?_append]
    have nk : ∀ p ∈ m, ¬ p.1 = k := fun p hp z => c (List.any_eq_true.mpr ⟨p, hp, decide_eq_true z⟩)
    by_cases h2 : k' = k
    · rw [if_pos h2, h2]
      have e : List.find? (fun p => decide (p.1 = k)) m = none := List.find?_eq_none.mpr fun p hp z => nk p hp (of_decide_eq_true z)
      rw [e]; simp
    · rw [if_neg h2]
      have e : ¬ k = k' := fun z => h2 z.symm
      have e2 : List.find? (fun p : Int × V => decide (p.1 = k')) [(k, v)] = none := by simp [e]
      rw [e2, Option.or_none]
theorem pt_len {m : List (Int × V)} {k : Int} {v : V} : (pt m k v).length ≤ m.length + 1 := by
  unfold pt
  split <;> simp
/-! ### expressions -/
def NewD (Q : VK) (H : Hp) : Prop := ∀ p, H p = none → Q (.ref p) (upd H p (.dK []))
theorem dnew (h : NewD Q H) : tDNewK σ H Q := h
theorem nwD (h : ∀ p H', H p = none → Same H H' → H' p = some (DI []) → Q (.ref p) H') : NewD Q H := fun p np => h p _ np (same_new np) upd_same
def DinG (Q : VK) (x y : V) (H : Hp) : Prop := ∃ a o, x = .ref a ∧ DGet H a y o ∧ Q (.bl o.isSome) H
theorem din (h : ty σ H fun y H1 => td σ H1 fun x H2 => DinG Q x y H2) : tDIn ty td σ H Q := h
theorem dinI {a : Addr} {m : List (Int × V)} {k : Int} (h : L2.Rd H a (DI m)) (q : Q (.bl (lk m k).isSome) H) : DinG Q (.ref a) (.int k) H := ⟨a, _, rfl, get_di h, q⟩
def DnotG (Q : VK) (x y : V) (H : Hp) : Prop := ∃ a o, x = .ref a ∧ DGet H a y o ∧ Q (.bl (!o.isSome)) H
theorem dnot (h : ty σ H fun y H1 => td σ H1 fun x H2 => DnotG Q x y H2) : tDNotIn ty td σ H Q := h
theorem dnotI {a : Addr} {m : List (Int × V)} {k : Int} (h : L2.Rd H a (DI m)) (q : Q (.bl (!(lk m k).isSome)) H) : DnotG Q (.ref a) (.int k) H := ⟨a, _, rfl, get_di h, q⟩
def DgG (Q : VK) (x y : V) (H : Hp) : Prop := ∃ a v, x = .ref a ∧ DGet H a y (some v) ∧ Q v H
theorem dget (h : td σ H fun x H1 => ty σ H1 fun y H2 => DgG Q x y H2) : tDGet td ty σ H Q := h
theorem dgetI {a : Addr} {m : List (Int × V)} {k : Int} (h : L2.Rd H a (DI m)) (e : lk m k = some v) (q : Q v H) : DgG Q (.ref a) (.int k) H := ⟨a, v, rfl, e ▸ get_di h, q⟩
def Dg2G (Q : VK) (a : Addr) (y z : V) (H : Hp) : Prop := ∃ o, DGet H a y o ∧ Q (o.getD z) H
theorem dget2 (h : td σ H fun x H1 => ∃ a, x = .ref a ∧ IsD H1 a ∧ ty σ H1 fun y H2 => tx σ H2 fun z H3 => Dg2G Q a y z H3) : tDGet2 td ty tx σ H Q := h
theorem isd {a : Addr} {m : List (Int × V)} {A : Prop} (h : H a = some (DI m)) (q : A) : IsD H a ∧ A := ⟨.inl ⟨_, .inl h⟩, q⟩
theorem dget2I {a : Addr} {m : List (Int × V)} {k : Int} {z : V} (h : L2.Rd H a (DI m)) (q : Q ((lk m k).getD z) H) : Dg2G Q a (.int k) z H := ⟨_, get_di h, q⟩
def DpG (D : Ends) (σ : L2.St) (x y v : V) (H : Hp) : Prop := ∃ a H4, x = .ref a ∧ DPut H a y v H4 ∧ D.nx σ H4
theorem dput {tv : TE} (h : tv σ H fun v H1 => td σ H1 fun x H2 => ty σ H2 fun y H3 => DpG D σ x y v H3) : sDPut td ty tv D σ H := h
theorem dputI {a : Addr} {m : List (Int × V)} {k : Int} (h : H a = some (DI m)) (l : m.length < 100000) (q : D.nx σ (upd H a (DI (pt m k v)))) : DpG D σ (.ref a) (.int k) v H :=
  ⟨a, _, rfl, .inl ⟨_, Sum.inl k, h, rfl, by rw [List.length_map]; exact szl l, rfl⟩, by rw [putK_di]; exact q⟩
/-- dict(d) -/
def DictOf (Q : VK) (vs : List V) (H : Hp) : Prop := ∃ (a : Addr) (kvs : List (Key × V)), vs = [.ref a] ∧ L2.Rd H a (.dK kvs) ∧ ∀ p, H p = none → Q (.ref p) (upd H p (.dK kvs))
theorem cbDictOf {tr : TA} (h : tr σ H (DictOf Q)) : tCB (fun xs H Q => ∃ (a : Addr) (kvs : List (Key × V)), xs = [.ref a] ∧ L2.Rd H a (.dK kvs) ∧ ∀ p, H p = none → Q (.ref p) (upd H p (.dK kvs))) tr σ H Q := h
theorem dictOf {a : Addr} {m : List (Int × V)} (s : H a = some (DI m)) (h : ∀ p H', H p = none → Same H H' → H' p = some (DI m) → Q (.ref p) H') : DictOf Q [.ref a] H := ⟨a, _, rfl, .inl s, fun p np => h p _ np (same_new np) upd_same⟩
theorem isi_dd {n : Addr} {m : List (Int × V)} (h : H n = some (DI m)) (q : Q (.bl true) H) : rIsi K [.ref n, .ty "dict"] H Q := isi (.base (.dK h)) (by decide +kernel) q
/-! ### == -/
theorem neDict {a b : Addr} {m n : List (Int × V)} (ea : H a = some (DI m)) (eb : H b = some (DI n)) (l : m.length = n.length) (e : ∀ p ∈ m, lk n p.1 = some p.2 ∧ flatB p.2 = true) (q : Q (.bl false) H) : rNeDA (.ref a) (.ref b) H Q :=
  ⟨a, b, _, _, rfl, rfl, ea, eb, by rw [List.length_map, List.length_map]; exact l, fun p hp => by
    obtain ⟨x, hx, rfl⟩ := List.mem_map.mp hp
    rw [valV_di]; exact e x hx, q⟩
theorem eqDict {a b : Addr} {m n : List (Int × V)} (ea : H a = some (DI m)) (eb : H b = some (DI n)) (l : m.length = n.length) (e : ∀ p ∈ m, lk n p.1 = some p.2 ∧ flatB p.2 = true) (q : Q (.bl true) H) : rEqDA (.ref a) (.ref b) H Q :=
  ⟨a, b, _, _, rfl, rfl, ea, eb, by rw [List.length_map, List.length_map]; exact l, fun p hp => by
    obtain ⟨x, hx, rfl⟩ := List.mem_map.mp hp
    rw [valV_di]; exact e x hx, q⟩
/-! ### walks -/
variable {R : It → Hp → Prop}
theorem iitems (h : te σ H fun x H1 => ∃ d o kvs, x = .ref d ∧ H1 d = some (.frz o (.dK kvs)) ∧ R (Iti d o kvs) H1) : iItems te σ H R := h
theorem itA {d : Addr} {o : Obj} {kvs : List (Key × V)} {P : Addr → Obj → List (Key × V) → Prop} (h : H d = some (.frz o (.dK kvs))) (q : P d o kvs) : ∃ d' o' kvs', V.ref d = .ref d' ∧ H d' = some (.frz o' (.dK kvs')) ∧ P d' o' kvs' := ⟨d, o, kvs, rfl, h, q⟩
theorem ikeys (h : te σ H fun x H1 => ∃ d o, x = .ref d ∧ ((∃ kvs, H1 d = some (.frz o (.dK kvs)) ∧ R (Itk d o kvs) H1) ∨ ∃ kvs, H1 d = some (.frz o (.dT kvs)) ∧ R (Itkt d o kvs) H1)) : iKeys te σ H R := h
theorem ikA {d : Addr} {o : Obj} {kvs : List (Key × V)} {P : Addr → Obj → List (Key × V) → Prop} {B : Addr → Obj → Prop} (h : H d = some (.frz o (.dK kvs))) (q : P d o kvs) : ∃ d' o', V.ref d = .ref d' ∧ ((∃ kvs', H d' = some (.frz o' (.dK kvs')) ∧ P d' o' kvs') ∨ B d' o') := ⟨d, o, rfl, .inl ⟨kvs, h, q⟩⟩
theorem lockS {t : TS} {d : Addr} {m : List (Int × V)} (h : H d = some (DI m)) (q : ∀ od, t ⟨fun σ' H' => H' d = some (.frz od (DI m)) ∧ D.nx σ' (upd H' d (DI m)), fun v H' => H' d = some (.frz od (DI m)) ∧ D.rt v (upd H' d (DI m)), fun σ' H' => H' d = some (.frz od (DI m)) ∧ D.bk σ' (upd H' d (DI m)), fun σ' H' => H' d = some (.frz od (DI m)) ∧ D.ct σ' (upd H' d (DI m))⟩ σ (upd H d (.frz od (DI m)))) : tLock t D σ H :=
  ⟨d, _, h, trivial, q⟩
theorem lockE {t : TE} {d : Addr} {m : List (Int × V)} (h : H d = some (DI m)) (q : ∀ od, t σ (upd H d (.frz od (DI m))) fun v H' => H' d = some (.frz od (DI m)) ∧ Q v (upd H' d (DI m))) : tLockE t σ H Q := ⟨d, _, h, trivial, q⟩
/-- the dict given back: all is kept -/
theorem unlock {H' : Hp} {d : Addr} {u : HO} (h : H d = some u) (b : But d H H') : Same H (upd H' d u) := fun c o e => by
  by_cases z : c = d
  · subst z; rw [upd_same]; exact h.symm.trans e
  · rw [upd_ne z]; exact b c o z e
theorem lock {d : Addr} {u : HO} : But d H (upd H d u) := But.at_
/-- the i-th pair of a walk over items: a new tuple -/
theorem items_at {m : List (Int × V)} {i : Nat} {x : V} {H H' : Hp} (y : YPair (fun i => ((m.map fun p => ((Sum.inl p.1 : Key), p.2))[i]?).map fun kv => kV kv.1) (fun i => ((m.map fun p => ((Sum.inl p.1 : Key), p.2))[i]?).map Prod.snd) i H x H') :
    ∃ (T : Addr) (p : Int × V), m[i]? = some p ∧ x = .ref T ∧ H T = none ∧ H' = upd H T (.tup [.int p.1, p.2]) := by
  obtain ⟨T, a, b, e1, e2, e3, e4, e5⟩ := y
  dsimp only at e4 e5
  rw [List.getElem?_map] at e4 e5
  cases e : m[i]? with
  | none => rw [e] at e4; cases e4
  | some p =>
    rw [e] at e4 e5
    cases e4; cases e5
    exact ⟨T, p, rfl, e1, e2, e3⟩
theorem keys_at {m : List (Int × V)} {i : Nat} {x : V} {H H' : Hp} (y : H' = H ∧ ∃ k v, (m.map fun p => ((Sum.inl p.1 : Key), p.2))[i]? = some (k, v) ∧ x = kV k) : H' = H ∧ ∃ p : Int × V, m[i]? = some p ∧ x = .int p.1 := by
  obtain ⟨e, k, v, h, rfl⟩ := y
  rw [List.getElem?_map] at h
  cases e2 : m[i]? with
  | none => rw [e2] at h; cases h
  | some p => rw [e2] at h; cases h; exact ⟨e, p, rfl, rfl⟩
/-! ### comprehensions -/
theorem dc {wi : TI} {g : TG} {tt : TT} {tk tv : TE} {ws : List Nat} (h : wi σ H fun J H1 => ∀ D, H1 D = none → ∃ W : Nat → Nat → Hp → Prop, (∃ m, W 0 m (upd H1 D (.dK []))) ∧ ∀ i m H, W i m H →
  (J.stop i H ∧ Q (.ref D) H) ∨ (J.go i H ∧ ∃ Nx : Hp → Prop, (∀ H', Nx H' → ∃ m', m' < m ∧ W (i + 1) m' H') ∧ ∀ x H', J.yld i H x H' → g x (wipe σ ws) H' fun σ2 H2 => wipe σ2 ws = wipe σ ws ∧ tt σ2 H2 fun b H3 =>
    if b = true then tk σ2 H3 fun y H4 => tv σ2 H4 fun z H5 => ∃ kvs k, y = kV k ∧ H5 D = some (.dK kvs) ∧ kvs.length < sizeLine ∧ Nx (upd H5 D (.dK (putK kvs k z))) else Nx H3)) : tDc wi g tt tk tv ws σ H Q := h
theorem dc_it {J : It} {n : Nat} {G : Hp → Prop} {Y : Nat → Hp → V → Hp → Prop} (w : Walk J n G Y) {g : TG} {tt : TT} {tk tv : TE} {vs : List Nat} {H1 : Hp} {d : Addr} {Qd : Hp → Prop} (Pv : Nat → Hp → Prop) (h0 : Pv 0 (upd H1 d (DI []))) (hG : ∀ i H, i ≤ n → Pv i H → G H)
    (hs : ∀ i x H H' (Kt : V → V → Hp → Prop) (Kn : Hp → Prop), i < n → Pv i H → Y i H x H' → (∀ m k z H5, H5 d = some (DI m) → m.length < 100000 → Pv (i + 1) (upd H5 d (DI (pt m k z))) → Kt (.int k) z H5) → (∀ H3, Pv (i + 1) H3 → Kn H3) →
      g x (wipe σ vs) H' fun σ2 H2 => wipe σ2 vs = wipe σ vs ∧ tt σ2 H2 fun b H3 => if b = true then tk σ2 H3 fun y H4 => tv σ2 H4 fun z H5 => Kt y z H5 else Kn H3)
    (hd : ∀ H, Pv n H → Qd H) :
    ∃ W : Nat → Nat → Hp → Prop, (∃ m, W 0 m (upd H1 d (.dK []))) ∧ ∀ i m H, W i m H →
      (J.stop i H ∧ Qd H) ∨ (J.go i H ∧ ∃ Nx : Hp → Prop, (∀ H', Nx H' → ∃ m', m' < m ∧ W (i + 1) m' H') ∧ ∀ x H', J.yld i H x H' → g x (wipe σ vs) H' fun σ2 H2 => wipe σ2 vs = wipe σ vs ∧ tt σ2 H2 fun b H3 =>
        if b = true then tk σ2 H3 fun y H4 => tv σ2 H4 fun z H5 => ∃ kvs k, y = kV k ∧ H5 d = some (.dK kvs) ∧ kvs.length < sizeLine ∧ Nx (upd H5 d (.dK (putK kvs k z))) else Nx H3) := by
  refine ⟨fun i m H => m = n - i ∧ i ≤ n ∧ Pv i H, ⟨n, by simp, Nat.zero_le _, h0⟩, ?_⟩
  rintro i m H ⟨rfl, hi, p⟩
  have q := hG i H hi p
  by_cases hlt : i < n
  · refine .inr ⟨w.goes i H hlt q, Pv (i + 1), fun H' p' => ⟨n - (i + 1), by omega, rfl, hlt, p'⟩, fun x H' y => ?_⟩
    exact hs i x H H' (fun y z H5 => ∃ kvs k, y = kV k ∧ H5 d = some (.dK kvs) ∧ kvs.length < sizeLine ∧ Pv (i + 1) (upd H5 d (.dK (putK kvs k z)))) _ hlt p (w.yields i H x H' hlt q y)
      (fun m k z H5 h5 hl r => ⟨_, Sum.inl k, rfl, h5, by rw [List.length_map]; exact szl hl, by rw [putK_di]; exact r⟩) fun _ h => h
  · have e : i = n := by omega
    subst e
    exact .inl ⟨w.stops H q, hd H p⟩
end Rd

set_option Elab.async false
set_option linter.all false
set_option maxRecDepth 100000
set_option maxHeartbeats 2000000
/-! list(zip(xs, ys)) of two lists -/
namespace Zl
open PySem PySem.Calls PyProof.Rows PyProof.V PySem.Spec PySem.W
/-- the addresses as hold the pairs so far -/
structure PairsG (xs ys : Array Value) (lo : Addr) (h : Heap) (as : List Addr) : Prop where
  rise : as.Pairwise (· < ·)
  above : ∀ a ∈ as, lo < a
  pairs : ∀ (j : Nat) (a : Addr), as[j]? = some a → ∃ x y, xs[j]? = some x ∧ ys[j]? = some y ∧ IsPair h a x y
theorem PairsG.there {xs ys : Array Value} {lo : Addr} {h : Heap} {as : List Addr} (g : PairsG xs ys lo h as) {a : Addr} (ha : a ∈ as) : a < h.objs.size := by
  obtain ⟨j, hj⟩ := List.mem_iff_getElem?.mp ha
  obtain ⟨_, _, _, _, e⟩ := g.pairs j a hj
  exact Heap.lt_size e
/-- the zip under way, its list at S -/
def ZSt (z TI TO i1 i2 l1 l2 S : Addr) (xs ys : Array Value) (i : Nat) (h : Heap) : Prop :=
  IsPair h TI (.ref i1) (.ref i2) ∧ h.IsListIter i1 l1 i ∧ h.IsListIter i2 l2 i ∧ h.IsList l1 xs ∧ h.IsList l2 ys ∧
    ((IsZip h z TI TO .none ∧ ∃ a b, IsPair h TO a b) ∨ ∃ T f oT, IsZipHeld h z TI TO T f ∧ h.get? T = some oT ∧ T ≠ z ∧ T ≠ i1 ∧ T ≠ i2 ∧ T ≠ S)
structure Off (z TI TO i1 i2 l1 l2 S : Addr) : Prop where
  z : z < S
  TI : TI < S
  TO : TO < S
  i1 : i1 < S
  i2 : i2 < S
  l1 : l1 < S
  l2 : l2 < S
section
variable {prog : Program} {w : World} {A : Around} {E : Value → Shared → Prop} {s : Shared} {z TI TO i1 i2 l1 l2 S : Addr} {xs ys : Array Value}
theorem ZSt.push {h h' : Heap} {i : Nat} (O : Off z TI TO i1 i2 l1 l2 S) (st : ZSt z TI TO i1 i2 l1 l2 S xs ys i h) (hk : ∀ b o, b ≠ S → h.get? b = some o → h'.get? b = some o) : ZSt z TI TO i1 i2 l1 l2 S xs ys i h' := by
  obtain ⟨hTI, h1, h2, hl1, hl2, hz⟩ := st
  refine ⟨hk _ _ (Nat.ne_of_lt O.TI) hTI, h1.at fun o e => hk _ o (Nat.ne_of_lt O.i1) e, h2.at fun o e => hk _ o (Nat.ne_of_lt O.i2) e, hl1.at fun o e => hk _ o (Nat.ne_of_lt O.l1) e, hl2.at fun o e => hk _ o (Nat.ne_of_lt O.l2) e, ?_⟩
  rcases hz with ⟨hz, a, b, hTO⟩ | ⟨T, f, oT, hz, hT, r1, r2, r3, r4⟩
  · exact .inl ⟨hk _ _ (Nat.ne_of_lt O.z) hz, a, b, hk _ _ (Nat.ne_of_lt O.TO) hTO⟩
  · exact .inr ⟨T, f, oT, hk _ _ (Nat.ne_of_lt O.z) hz, hk _ _ r4 hT, r1, r2, r3, r4⟩
theorem zl_item {i : Nat} {x y : Value} {Q : Option Value → Shared → Prop} (D : ZipApart z TI TO i1 i2 l1 l2) (st : ZSt z TI TO i1 i2 l1 l2 S xs ys i s.heap) (hS : S < s.heap.objs.size) (hx : xs[i]? = some x) (hy : ys[i]? = some y)
    (hQ : ∀ h', ZSt z TI TO i1 i2 l1 l2 S xs ys (i + 1) h' → IsPair h' s.heap.objs.size x y → h'.objs.size = s.heap.objs.size + 1 → (∀ b o, b ≠ z → b ≠ TO → b ≠ i1 → b ≠ i2 → s.heap.get? b = some o → h'.get? b = some o) → Q (some (.ref s.heap.objs.size)) { s with heap := h' }) :
    wpAny (model prog w) A (pyNext (.ref z)) Q E s := by
  obtain ⟨hTI, h1, h2, hl1, hl2, hz⟩ := st
  have lt : ∀ {c o}, s.heap.get? c = some o → s.heap.objs.size ≠ c := fun e => Nat.ne_of_gt (Heap.lt_size e)
  have n1 : s.heap.objs.size ≠ i1 := let ⟨_, e, _⟩ := h1; lt e
  have n2 : s.heap.objs.size ≠ i2 := let ⟨_, e, _⟩ := h2; lt e
  rcases hz with ⟨hz, a, b, hTO⟩ | ⟨T, f, oT, hz, hT, r1, r2, r3, r4⟩
  · refine wpAny_pyNext_zip_item D hz hTI hTO h1 h2 hl1 hl2 hx hy fun h' a1 a2 a3 a4 a5 a6 hk => ?_
    exact hQ h' ⟨hk _ _ D.TIz D.TITO D.TIi1 D.TIi2 hTI, a3, a4, hl1.at fun o e => hk _ o D.l1z D.l1TO D.l1i1 D.l1i2 e, hl2.at fun o e => hk _ o D.l2z D.l2TO D.l2i1 D.l2i2 e,
      .inr ⟨s.heap.objs.size, false, _, a1, a5, lt hz, n1, n2, Nat.ne_of_gt hS⟩⟩ a5 a6 hk
  · refine wpAny_pyNext_zip_item_held D hz hT hTI h1 h2 hl1 hl2 hx hy fun h' a1 a3 a4 a5 a6 hk => ?_
    exact hQ h' ⟨hk _ _ D.TIz D.TIi1 D.TIi2 hTI, a3, a4, hl1.at fun o e => hk _ o D.l1z D.l1i1 D.l1i2 e, hl2.at fun o e => hk _ o D.l2z D.l2i1 D.l2i2 e,
      .inr ⟨T, true, oT, a1, hk _ _ r1 r2 r3 hT, r1, r2, r3, r4⟩⟩ a5 a6 fun b o c1 _ c3 c4 e => hk b o c1 c3 c4 e
theorem zl_done {i : Nat} {Q : Option Value → Shared → Prop} (hh : A.handled = none) (D : ZipApart z TI TO i1 i2 l1 l2) (st : ZSt z TI TO i1 i2 l1 l2 S xs ys i s.heap) (hend : xs[i]? = none ∨ ys[i]? = none)
    (hQ : ∀ h', (∀ b o, b ≠ z → b ≠ TO → b ≠ i1 → b ≠ i2 → s.heap.get? b = some o → h'.get? b = some o) → Q none { s with heap := h' }) :
    wpAny (model prog w) A (pyNext (.ref z)) Q E s := by
  obtain ⟨hTI, h1, h2, hl1, hl2, hz⟩ := st
  rcases hz with ⟨hz, a, b, hTO⟩ | ⟨T, f, oT, hz, hT, r1, r2, r3, r4⟩
  · exact wpAny_pyNext_zip_end hh D hz hTI hTO h1 h2 hl1 hl2 hend fun h' hk => hQ h' hk
  · exact wpAny_pyNext_zip_end_held hh D hz hT hTI h1 h2 hl1 hl2 hend fun h' hk => hQ h' fun b o c1 _ c3 c4 e => hk b o c1 c3 c4 e
end
section
variable {prog : Program} {w : World} {A : Around} {s : Shared} {R : Result → Shared → Prop} {z TI TO i1 i2 l1 l2 S : Addr} {xs ys : Array Value}
theorem zl_loop (hh : A.handled = none) (D : ZipApart z TI TO i1 i2 l1 l2) (O : Off z TI TO i1 i2 l1 l2 S) (hxy : xs.size = ys.size) (hn : xs.size ≤ sizeLine) (res : Value) {h₁ : Heap}
    (hR : ∀ h' tk acc c as, (∀ b o, b ≠ S → b ≠ z → b ≠ TO → b ≠ i1 → b ≠ i2 → h₁.get? b = some o → h'.get? b = some o) → h'.get? S = some { cls := .type "list", dict := none, data := .seq acc c, slots := #[] } → as.length = xs.size → PairsG xs ys S h' as →
      acc.toList = as.map Value.ref → R (.ok (.ret res)) { s with heap := h', toks := tk }) :
    ∀ (k i : Nat) (h : Heap) (tk c : Nat) (acc : Array Value) (as : List Addr), xs.size - i = k → i ≤ xs.size → ZSt z TI TO i1 i2 l1 l2 S xs ys i h → (∀ b o, b ≠ S → b ≠ z → b ≠ TO → b ≠ i1 → b ≠ i2 → h₁.get? b = some o → h.get? b = some o) →
      h.get? S = some { cls := .type "list", dict := none, data := .seq acc c, slots := #[] } → acc.toList = as.map Value.ref → as.length = i → PairsG xs ys S h as →
      codeAny (model prog w) A (.builtin "list.extend.loop" ⟨[.ref S, .ref z, res], []⟩) R { s with heap := h, toks := tk } := by
  intro k
  induction k with
  | zero =>
    intro i h tk c acc as hk hi hst hkeep hS hacc hal hG
    have hin : i = xs.size := by omega
    refine codeAny_builtin PySem.F.entry_extend_loop ?_
    rw [Around.under_plainId PySem.F.plain_extend_loop _]
    show wpAny _ A.in1 (pyNext (.ref z) >>= _) _ _ _
    refine wpAny_bind (zl_done (s := { s with heap := h, toks := tk }) (A := A.in1) hh D hst (.inl (Array.getElem?_eq_none (by omega))) fun h' he => ?_)
    refine wpAny_pure (hR h' tk acc c as (fun b o h0 h1 h2 h3 h4 e => he b o h1 h2 h3 h4 (hkeep b o h0 h1 h2 h3 h4 e)) (he S _ (Nat.ne_of_gt O.z) (Nat.ne_of_gt O.TO) (Nat.ne_of_gt O.i1) (Nat.ne_of_gt O.i2) hS) (by omega) ⟨hG.rise, hG.above, fun j a hj => ?_⟩ hacc)
    obtain ⟨x, y, e1, e2, e3⟩ := hG.pairs j a hj
    have ab := hG.above a (List.mem_of_getElem? hj)
    exact ⟨x, y, e1, e2, he a _ (Nat.ne_of_gt (Nat.lt_trans O.z ab)) (Nat.ne_of_gt (Nat.lt_trans O.TO ab)) (Nat.ne_of_gt (Nat.lt_trans O.i1 ab)) (Nat.ne_of_gt (Nat.lt_trans O.i2 ab)) e3⟩
  | succ k ih =>
    intro i h tk c acc as hk hi hst hkeep hS hacc hal hG
    have hlt : i < xs.size := by omega
    have hlt2 : i < ys.size := by omega
    have hsz : acc.size = i := by rw [← Array.length_toList, hacc, List.length_map, hal]
    refine codeAny_builtin PySem.F.entry_extend_loop ?_
    rw [Around.under_plainId PySem.F.plain_extend_loop _]
    show wpAny _ A.in1 (pyNext (.ref z) >>= _) _ _ _
    have hSl : S < h.objs.size := Heap.lt_size hS
    refine wpAny_bind (zl_item (s := { s with heap := h, toks := tk }) D hst hSl (Array.getElem?_eq_getElem hlt) (Array.getElem?_eq_getElem hlt2) fun h' hst' ht hz hkp => ?_)
    dsimp only at ht hz hkp ⊢
    have hS' := hkp S _ (Nat.ne_of_gt O.z) (Nat.ne_of_gt O.TO) (Nat.ne_of_gt O.i1) (Nat.ne_of_gt O.i2) hS
    have up : ∀ b o, b ≠ S → h'.get? b = some o → (h'.update S (Obj.mapSeq (·.push (Value.ref h.objs.size)))).get? b = some o := fun b o hb e => (Heap.get?_update_other _ _ (Ne.symm hb)).trans e
    show wpAny _ A.in1 (updateSeq S (·.push (Value.ref h.objs.size)) >>= _) _ _ _
    refine wpAny_bind ?_
    refine wpAny_updateSeq hS' rfl (wpAny_pure ⟨plainId_quiet PySem.F.plain_extend_loop _, ih (i + 1) _ tk _ (acc.push (Value.ref h.objs.size)) (as ++ [h.objs.size]) (by omega) hlt (hst'.push O up)
      (fun b o h0 h1 h2 h3 h4 e => up b o h0 (hkp b o h1 h2 h3 h4 (hkeep b o h0 h1 h2 h3 h4 e))) (Heap.get?_update_self _ hS' rfl) (by rw [Array.toList_push, hacc, List.map_append]; rfl) (by rw [List.length_append, hal]; rfl) ⟨?_, ?_, ?_⟩⟩) (by rw [hsz]; omega) (by show (acc.push (Value.ref h.objs.size)).size ≤ sizeLine + 1; rw [Array.size_push, hsz]; omega)
    · refine List.pairwise_append.mpr ⟨hG.rise, List.pairwise_singleton _ _, fun a ha b hb => ?_⟩
      rw [List.mem_singleton.mp hb]
      exact hG.there ha
    · intro a ha
      rcases List.mem_append.mp ha with ha | ha
      · exact hG.above a ha
      · rw [List.mem_singleton.mp ha]; exact hSl
    · intro j b hj
      rcases Nat.lt_trichotomy j as.length with h1 | h1 | h1
      · rw [List.getElem?_append_left h1] at hj
        obtain ⟨x, y, e1, e2, e3⟩ := hG.pairs j b hj
        have ab := hG.above b (List.mem_of_getElem? hj)
        exact ⟨x, y, e1, e2, up b _ (Nat.ne_of_gt ab) (hkp b _ (Nat.ne_of_gt (Nat.lt_trans O.z ab)) (Nat.ne_of_gt (Nat.lt_trans O.TO ab)) (Nat.ne_of_gt (Nat.lt_trans O.i1 ab)) (Nat.ne_of_gt (Nat.lt_trans O.i2 ab)) e3)⟩
      · subst h1
        have hb : h.objs.size = b := by simpa using hj
        subst hb
        subst hal
        exact ⟨_, _, Array.getElem?_eq_getElem hlt, Array.getElem?_eq_getElem hlt2, up _ _ (Nat.ne_of_gt hSl) ht⟩
      · have hnone : (as ++ [h.objs.size])[j]? = none := List.getElem?_eq_none (by rw [List.length_append, List.length_singleton]; omega)
        rw [hnone] at hj; cases hj
end
theorem zip_no_len : typeLookup (.type "zip") "__len__" = pure none := by rw [typeLookup_type, builtinLookup_eq_fast]; kernel_rfl
theorem zip_no_hint : typeLookup (.type "zip") "__length_hint__" = pure none := by rw [typeLookup_type, builtinLookup_eq_fast]; kernel_rfl
section
variable {prog : Program} {w : World} {A : Around} {E : Value → Shared → Prop} {s : Shared} {z TI TO i1 i2 l1 l2 : Addr} {xs ys : Array Value}
theorem zl_extend {R : Result → Shared → Prop} (hh : A.handled = none) (S : Addr) (D : ZipApart z TI TO i1 i2 l1 l2) (O : Off z TI TO i1 i2 l1 l2 S) (hxy : xs.size = ys.size) (hn : xs.size ≤ sizeLine) (hst : ZSt z TI TO i1 i2 l1 l2 S xs ys 0 s.heap) (hzz : IsZip s.heap z TI TO .none) (res : Value) (c₀ : Nat) (hS : s.heap.get? S = some { cls := .type "list", data := .seq #[] c₀ })
    (hR : ∀ h' tk acc c as, (∀ b o, b ≠ S → b ≠ z → b ≠ TO → b ≠ i1 → b ≠ i2 → s.heap.get? b = some o → h'.get? b = some o) → h'.get? S = some { cls := .type "list", dict := none, data := .seq acc c, slots := #[] } → as.length = xs.size → PairsG xs ys S h' as →
      acc.toList = as.map Value.ref → R (.ok (.ret res)) { s with heap := h', toks := tk }) :
    wpAny (model prog w) A.in1 (Builtin.List.listExtendWith (.ref S) (.ref z) res)
      (fun fin s' => match fin with | .done f => R (.ok f) s' | .again c' => c'.quiet = true ∧ codeAny (model prog w) A c' R s') (fun e s' => R (.error e) s') s := by
  have hT : s.TypeIs (.ref z) "zip" := ⟨_, hzz, rfl⟩
  have hSz : S ≠ z := Nat.ne_of_gt O.z
  unfold Builtin.List.listExtendWith
  refine wpAny_bind (wpAny_typeOf hT ?_)
  have h1 : Builtin.List.listSameRef (.ref S) (.ref z) = false := by simp [Builtin.List.listSameRef, hSz]
  have h2 : (Value.type "zip" == Value.type "list") = false := by decide
  have h3 : (Value.type "zip" == Value.type "tuple") = false := by decide
  simp only [h1, h2, h3, Bool.or_false, Bool.false_eq_true, if_false]
  refine wpAny_bind (wpAny_pyIter_zip hzz ?_)
  refine wpAny_bind (wpAny_holding ?_)
  unfold Builtin.List.listLengthHint
  refine wpAny_bind (wpAny_specialOf hT zip_no_len ?_)
  show wpAny _ A.in1 (specialOf (Value.ref z) (Str.ofString "__length_hint__") >>= _) _ _ _
  refine wpAny_bind (wpAny_specialOf hT zip_no_hint ?_)
  refine wpAny_pure ?_
  show wpAny _ A.in1 (rule "list.extend.makes-room" >>= fun _ => Builtin.List.listTouch (.ref S) >>= fun _ =>
    again (.builtin "list.extend.loop" ⟨[.ref S, .ref z, res], []⟩)) _ _ _
  refine wpAny_bind (wpAny_rule ?_)
  refine wpAny_bind ?_
  show wpAny _ A.in1 (updateSeq S (·.push .none) >>= fun _ => updateSeq S (·.pop)) _ _ _
  refine wpAny_bind (wpAny_updateSeq hS rfl ?_)
  have hS₂ := Heap.get?_update_self (Obj.mapSeq (·.push Value.none)) hS rfl
  refine wpAny_updateSeq (hz := by seq_fits) hS₂ rfl ?_
  have hS₃ := Heap.get?_update_self (Obj.mapSeq (·.pop)) hS₂ rfl
  have oth : ∀ b o, b ≠ S → s.heap.get? b = some o → ((s.heap.update S (Obj.mapSeq (·.push Value.none))).update S (Obj.mapSeq (·.pop))).get? b = some o :=
    fun b o hb e => (Heap.get?_update_other _ _ (Ne.symm hb)).trans ((Heap.get?_update_other _ _ (Ne.symm hb)).trans e)
  refine wpAny_pure ⟨plainId_quiet F.plain_extend_loop _, zl_loop (s := s) (h₁ := s.heap) hh D O hxy hn res hR (xs.size - 0) 0 _ _ _ _ [] rfl (Nat.zero_le _) (hst.push O oth) (fun b o h0 _ _ _ _ e => oth b o h0 e) hS₃ rfl rfl ⟨.nil, by simp, fun j a h => by simp at h⟩⟩
theorem zl_call {Q : Value → Shared → Prop} (hh : A.handled = none) (D : ZipApart z TI TO i1 i2 l1 l2) (hlt : z < s.heap.objs.size ∧ TI < s.heap.objs.size ∧ TO < s.heap.objs.size ∧ i1 < s.heap.objs.size ∧ i2 < s.heap.objs.size ∧ l1 < s.heap.objs.size ∧ l2 < s.heap.objs.size) (hxy : xs.size = ys.size) (hn : xs.size ≤ sizeLine)
    (hTI : IsPair s.heap TI (.ref i1) (.ref i2)) (h1 : s.heap.IsListIter i1 l1 0) (h2 : s.heap.IsListIter i2 l2 0) (hl1 : s.heap.IsList l1 xs) (hl2 : s.heap.IsList l2 ys) (hz : IsZip s.heap z TI TO .none) (hTO : ∃ a b, IsPair s.heap TO a b)
    (hQ : ∀ h' tk acc c as, (∀ b o, b ≠ z → b ≠ TO → b ≠ i1 → b ≠ i2 → s.heap.get? b = some o → h'.get? b = some o) → h'.get? s.heap.objs.size = some { cls := .type "list", dict := none, data := .seq acc c, slots := #[] } → as.length = xs.size → PairsG xs ys s.heap.objs.size h' as →
      acc.toList = as.map Value.ref → Q (.ref s.heap.objs.size) { s with heap := h', toks := tk }) :
    wpAny (model prog w) A (call (.type "list") [.ref z]) Q E s := by
  refine callType_codes (Q₁ := fun obj s₁ => obj = .ref s.heap.objs.size ∧ s₁ = { s with heap := s.heap.push { cls := .type "list", data := .seq #[] } }) PySem.F.called_list (PySem.F.typeCall_list_1 _) PySem.F.entry_list_init
    (code_list_new _ ⟨rfl, rfl⟩) fun obj s₁ h₁ => ?_
  obtain ⟨rfl, rfl⟩ := h₁
  have hS : (s.heap.push { cls := .type "list", data := .seq #[] }).get? s.heap.objs.size = some { cls := .type "list", data := .seq #[] } := Heap.get?_push_size _ rfl
  obtain ⟨g1, g2, g3, g4, g5, g6, g7⟩ := hlt
  have O : Off z TI TO i1 i2 l1 l2 s.heap.objs.size := ⟨g1, g2, g3, g4, g5, g6, g7⟩
  have up : ∀ b o, s.heap.get? b = some o → (s.heap.push { cls := .type "list", data := .seq #[] }).get? b = some o := fun b o e => Heap.get?_push_of_some _ e
  have hst : ZSt z TI TO i1 i2 l1 l2 s.heap.objs.size xs ys 0 s.heap := ⟨hTI, h1, h2, hl1, hl2, .inl ⟨hz, hTO⟩⟩
  refine ⟨⟨_, hS, rfl⟩, PySem.F.args_list_init_2 _ _, ?_⟩
  show wpAny _ _ (do let old ← Builtin.List.listItems (.ref s.heap.objs.size); Builtin.List.listUpdate (.ref s.heap.objs.size) (fun _ => #[]); letGo old.toList.reverse; Builtin.List.listExtendWith (.ref s.heap.objs.size) (.ref z) .none) _ _ _
  refine wpAny_bind ?_
  unfold Builtin.List.listItems
  refine wpAny_bind (wpAny_seqItems hS rfl (wpAny_pure ?_))
  show wpAny _ _ (updateSeq s.heap.objs.size (fun _ => #[]) >>= fun _ => letGo (#[] : Array Value).toList.reverse >>= fun _ => Builtin.List.listExtendWith (.ref s.heap.objs.size) (.ref z) .none) _ _ _
  refine wpAny_bind (wpAny_updateSeq hS rfl ?_)
  have hS₂ := Heap.get?_update_self (Obj.mapSeq (fun _ => (#[] : Array Value))) hS rfl
  have oth : ∀ b o, b ≠ s.heap.objs.size → s.heap.get? b = some o → ((s.heap.push { cls := .type "list", data := .seq #[] }).update s.heap.objs.size (Obj.mapSeq (fun _ => (#[] : Array Value)))).get? b = some o :=
    fun b o hb e => (Heap.get?_update_other _ _ (Ne.symm hb)).trans (up b o e)
  refine wpAny_bind (wpAny_letGo ?_)
  refine zl_extend (A := A.in1) hh _ D O hxy hn (hst.push O oth) (oth _ _ (Nat.ne_of_lt g1) hz) .none _ hS₂ fun h' tk acc c as hk hS' hl hG hacc => ?_
  exact ⟨rfl, hQ h' tk acc c as (fun b o b1 b2 b3 b4 e => hk b o (Nat.ne_of_lt (Heap.lt_size e)) b1 b2 b3 b4 (oth b o (Nat.ne_of_lt (Heap.lt_size e)) e)) hS' hl hG hacc⟩
end
end Zl
namespace L2
open PySem PySem.Spec PyProof.Rows
def putP : Hp → List Addr → List V → List V → Hp
  | H, a :: as, x :: xs, y :: ys => putP (upd H a (.tup [x, y])) as xs ys
  | H, _, _, _ => H
theorem putP_off {b : Addr} : ∀ (as : List Addr) (xs ys : List V) (H : Hp), b ∉ as → putP H as xs ys b = H b
  | [], _, _, _, _ => rfl
  | _ :: _, [], _, _, _ => rfl
  | _ :: _, _ :: _, [], _, _ => rfl
  | a :: as, x :: xs, y :: ys, H, h => by
    show putP (upd H a (.tup [x, y])) as xs ys b = H b
    rw [putP_off as xs ys _ (fun z => h (List.mem_cons_of_mem _ z)), upd_ne (fun z => h (by rw [z]; exact List.mem_cons_self))]
theorem putP_at : ∀ (as : List Addr) (xs ys : List V) (H : Hp), as.length = xs.length → xs.length = ys.length → as.Nodup → ∀ (j : Nat) t, as[j]? = some t → ∃ x y, xs[j]? = some x ∧ ys[j]? = some y ∧ putP H as xs ys t = some (.tup [x, y])
  | [], _, _, _, _, _, _, _, _, h => by simp at h
  | _ :: _, [], _, _, h, _, _, _, _, _ => by simp at h
  | _ :: _, _ :: _, [], _, _, h, _, _, _, _ => by simp at h
  | a :: as, x :: xs, y :: ys, H, h1, h2, hn, j, t, ht => by
    have hn' := List.nodup_cons.mp hn
    cases j with
    | zero =>
      simp at ht; subst ht
      refine ⟨x, y, rfl, rfl, ?_⟩
      show putP (upd H a (.tup [x, y])) as xs ys a = _
      rw [putP_off as xs ys _ hn'.1, upd_same]
    | succ j =>
      obtain ⟨x', y', e1, e2, e3⟩ := putP_at as xs ys (upd H a (.tup [x, y])) (Nat.succ.inj h1) (Nat.succ.inj h2) hn'.2 j t (by simpa using ht)
      exact ⟨x', y', by simpa using e1, by simpa using e2, e3⟩
def tListZip (K : PySem.W.Frag) (ta : TA) : TE := fun σ H Q => ta σ H fun vs H1 => ∃ a b xs ys, vs = [V.ref a, .ref b] ∧ SqL K H1 a xs ∧ SqL K H1 b ys ∧ xs.length = ys.length ∧
  ∀ (p : Addr) (ts : List Addr) (H2 : Hp), Same H1 H2 → H1 p = none → H2 p = some (.lst (ts.map V.ref)) → ts.length = xs.length → (∀ (j : Nat) t, ts[j]? = some t → ∃ x y, xs[j]? = some x ∧ ys[j]? = some y ∧ H2 t = some (.tup [x, y])) → Q (.ref p) H2
section
variable {X : Cx}
theorem zip_laid {pins : List (Addr × Obj)} {σ : L2.St} {H : Hp} {s : Shared} {h' : Heap} {tk S : Nat} {xs ys : List V} {us ws : List Value} {acc : Array Value} {c : Nat} {as : List Addr} (I : Inv X pins σ H s) (hz : xs.length ≤ sizeLine) (hxy : xs.length = ys.length) (rx : Vals xs us) (ry : Vals ys ws) (hSS : s.heap.objs.size ≤ S)
    (hk : ∀ b o, s.heap.get? b = some o → h'.get? b = some o) (hS : h'.get? S = some { cls := .type "list", dict := none, data := .seq acc c, slots := #[] }) (hl : as.length = xs.length) (hG : Zl.PairsG us.toArray ws.toArray S h' as) (hacc : acc.toList = as.map Value.ref) :
    ∃ H' : Hp, Same H H' ∧ H S = none ∧ H' S = some (.lst (as.map V.ref)) ∧ (∀ (j : Nat) t, as[j]? = some t → ∃ x y, xs[j]? = some x ∧ ys[j]? = some y ∧ H' t = some (.tup [x, y])) ∧ Inv X pins σ H' { s with heap := h', toks := tk } := by
  have hSn : S ∉ as := fun z => Nat.lt_irrefl _ (hG.above _ z)
  have nd : as.Nodup := List.Pairwise.imp (fun {a b} (h : a < b) => Nat.ne_of_lt h) hG.rise
  have new : ∀ t ∈ as, H t = none := fun t ht => I.hok.fresh (Nat.le_trans hSS (Nat.le_of_lt (hG.above t ht)))
  have newS : H S = none := I.hok.fresh hSS
  have atP := putP_at as xs ys (upd H S (.lst (as.map V.ref))) hl hxy nd
  have off : ∀ b, b ∉ as → b ≠ S → putP (upd H S (.lst (as.map V.ref))) as xs ys b = H b := fun b h1 h2 => by rw [putP_off as xs ys _ h1, upd_ne h2]
  have low : ∀ b o, s.heap.get? b = some o → b ∉ as ∧ b ≠ S := fun b o e => ⟨fun z => absurd (Heap.lt_size e) (Nat.not_lt.mpr (Nat.le_trans hSS (Nat.le_of_lt (hG.above b z)))), Nat.ne_of_lt (Nat.lt_of_lt_of_le (Heap.lt_size e) hSS)⟩
  have kp : ∀ b u, H b = some u → (putP (upd H S (.lst (as.map V.ref))) as xs ys) b = some u := fun b u e => by
    rw [off b (fun z => by rw [new b z] at e; cases e) (fun z => by rw [z, newS] at e; cases e)]
    exact e
  have eS : putP (upd H S (.lst (as.map V.ref))) as xs ys S = some (.lst (as.map V.ref)) := by rw [putP_off as xs ys _ hSn, upd_same]
  refine ⟨putP (upd H S (.lst (as.map V.ref))) as xs ys, kp, newS, eS, atP, ?_⟩
  refine I.call' (ch := []) rfl ⟨fun b o q _ _ _ => hk b o q, fun b o q _ _ _ => ⟨o.slots, hk b o q⟩, fun b o q n _ => ?_, fun b o q _ => ⟨o, hk b o q⟩, fun b xs q => kp b _ q, fun b o u q => kp b _ q, fun b ps q => ⟨#[], by rw [kp b _ q]; simp⟩⟩ (fun b u q => ?_) I.bare fun b z => by simp at z
  · obtain ⟨z1, z2⟩ := low b o q
    rw [off b z1 z2]
    exact n
  · by_cases hb : b ∈ as
    · obtain ⟨j, e1⟩ := List.mem_iff_getElem?.mp hb
      obtain ⟨x, y, e2, e3, e4⟩ := atP j b e1
      rw [e4] at q
      cases q
      obtain ⟨u1, u2, f1, f2, f3⟩ := hG.pairs j b e1
      obtain ⟨v1, g1, g2⟩ := rx.get e2
      obtain ⟨v2, g3, g4⟩ := ry.get e3
      have f1 : us[j]? = some u1 := by simpa using f1
      have f2 : ws[j]? = some u2 := by simpa using f2
      rw [g1] at f1; cases f1
      rw [g3] at f2; cases f2
      exact ⟨by show 2 ≤ sizeLine; decide, [u1, u2], .cons g2 (.cons g4 .nil), ⟨_, f3, rfl, _, rfl⟩⟩
    · by_cases hb2 : b = S
      · rw [hb2] at q ⊢
        rw [eS] at q
        cases q
        refine ⟨by rw [List.length_map]; omega, acc.toList, c, by rw [hacc]; exact LiI.vals_refs as, ?_⟩
        rw [Array.toArray_toList]
        exact hS
      · rw [off b hb hb2] at q
        exact (I.hok b u q).stay (fun d v _ y => hk d v y) (fun d y => kp d _ y) fun d xs y => kp d _ y
theorem pe_listZip {e e2 : Expr} {ta : TA} {p p2 q pos : Pos} (hc : X.calm = true) (hg : Gl X "list") (hm : X.mg "list" = none) (hv : bootBuiltins "list" = some (.type "list")) (hg2 : Gl X "zip") (hm2 : X.mg "zip" = none) (ha : PA X [e, e2] ta)
    (hs : starEach [e, e2] X.env = (false, eval e X.env) :: starEach [e2] X.env := by rfl) (hpl : (backTo q (starEach [e2] X.env)).any (·.1) = false := by rfl) :
    PE X (.Call (.Name "list" p) [.Call (.Name "zip" p2) [e, e2] [] q] [] pos) (tListZip X.K ta) := by
  refine ⟨fun pins s σ H Q I h => ?_⟩
  refine Call_ (ld_blt I hg hm hv ?_)
  refine PyProof.Rows.callWith_type1 (PyProof.Rows.args_cons ?_ rfl) rfl rfl
  refine Call_ (ld_blt I hg2 hm2 PyProof.Rows.boot_zip (PyProof.Rows.callWith_type1 (thn (ha.run q pins s σ H _ I h) fun us s1 ⟨vs, H1, I1, r1, q1⟩ => ?_) hs hpl))
  obtain ⟨a, b, xs, ys, ex, hqx, hqy, hxy, q1⟩ := q1
  subst ex
  cases r1 with
  | cons r rr =>
    cases rr with
    | cons r' rr =>
      cases rr
      cases r
      cases r'
      obtain ⟨its, rv, p1, hz1⟩ := I1.list hqx
      obtain ⟨its2, rv2, pp2, hz2⟩ := I1.list hqy
      have ln1 : xs.length = its.length := rv.length
      have ln2 : ys.length = its2.length := rv2.length
      refine call_zip_2 p1.isList pp2.isList fun h' hz hTI hTO h1 h2 hsz hk => PyProof.Rows.args_nil ?_
      have D := PySem.W.ktu_apart s1.heap.objs.size a b p1.lt pp2.lt
      have la := p1.lt
      have lb := pp2.lt
      refine Zl.zl_call (s := { s1 with heap := h' }) (I1.ok.hd hc) D ?_ (by simp; omega) (by simp; omega) hTI h1 h2 (p1.isList.at fun o e => hk _ o e) (pp2.isList.at fun o e => hk _ o e) hz ⟨_, _, hTO⟩ fun h2' tk acc c as hk2 hS hl hG hacc => ?_
      · have up : ∀ k : Nat, k < s1.heap.objs.size + 5 → k < h'.objs.size := fun k hk => by rw [hsz]; exact hk
        exact ⟨up _ (Nat.add_lt_add_left (by decide) _), up _ (Nat.add_lt_add_left (by decide) _), up _ (Nat.add_lt_add_left (by decide) _), up _ (Nat.lt_add_of_pos_right (by decide)), up _ (Nat.add_lt_add_left (by decide) _), up _ (Nat.lt_add_right _ la), up _ (Nat.lt_add_right _ lb)⟩
      · have hS5 : s1.heap.objs.size ≤ h'.objs.size := by omega
        obtain ⟨H', k1, k2, k3, k4, J⟩ := zip_laid (tk := tk) (S := h'.objs.size) I1 hz1 hxy rv rv2 hS5 (fun b o e => hk2 b o (Nat.ne_of_lt (Nat.lt_add_right _ (Heap.lt_size e))) (Nat.ne_of_lt (Nat.lt_add_right _ (Heap.lt_size e))) (Nat.ne_of_lt (Heap.lt_size e)) (Nat.ne_of_lt (Nat.lt_add_right _ (Heap.lt_size e))) (hk b o e)) hS (by rw [hl]; simp; omega) hG hacc
        exact ⟨.ref _, H', J, rfl, q1 _ as H' k1 k2 k3 (by rw [hl]; simp; omega) k4⟩
end
end L2

set_option Elab.async false
set_option linter.all false
set_option maxRecDepth 100000
namespace L2
open PySem PySem.Spec PyProof.Rows
/-! list + list of lists that are read -/
def rCatQ (K : PySem.W.Frag) : R2 := fun x y H Q => ∃ l b xs zs, x = .ref l ∧ y = .ref b ∧ SqL K H l xs ∧ SqL K H b zs ∧ xs.length + zs.length ≤ sizeLine ∧ ∀ p, H p = none → Q (.ref p) (upd H p (.lst (xs ++ zs)))
theorem op_catQ {X : Cx} : OpR X (binaryOp .Add) (rCatQ X.K) := by
  intro pins s σ H x y v u Q I rx ry h
  obtain ⟨l, b, xs, zs, rfl, rfl, hH, hB, hz, q⟩ := h
  cases rx
  cases ry
  obtain ⟨its, r, pl, z⟩ := I.list hH
  obtain ⟨its2, r2, pl2, z2⟩ := I.list hB
  have hl := r.length
  have hl2 := r2.length
  obtain ⟨⟨cls, dd, data, sl⟩, ho, hc, n, hd⟩ := pl.isList
  obtain ⟨⟨cls2, dd2, data2, sl2⟩, ho2, hc2, n2, hd2⟩ := pl2.isList
  simp only at hc hd hc2 hd2
  subst hc hd hc2 hd2
  refine concat_meets ⟨_, ho, rfl⟩ ⟨_, ho2, rfl⟩ noFill_list_add seq_list_add PySem.F.slot_list_add PySem.F.entry_list_add (PySem.F.args_list_add_2 _ _) (list_addW l b its.toArray its2.toArray n n2 dd dd2 sl sl2 (by simp; omega)) ⟨ho, ho2, ?_⟩
  have ea : its.toArray ++ its2.toArray = (its ++ its2).toArray := by simp
  rw [ea]
  exact ⟨.ref _, _, I.lnew (t' := s.toks) (r.append r2) (by rw [List.length_append]; omega), rfl, q _ I.fresh⟩
end L2
namespace Rd
open PySem PySem.Spec PyProof.Rows L2
variable {K : PySem.W.Frag} {σ : L2.St} {H : Hp} {D : Ends} {Q : VK} {ta tb te tv : TE} {x y v : V} {tr : TA}
def CatQ (K : PySem.W.Frag) (Q : VK) (x y : V) (H : Hp) : Prop := rCatQ K x y H Q
theorem catQI (h : CatQ K Q x y H) : rCatQ K x y H Q := h
theorem catQ {a b : Addr} {xs zs : List V} (h1 : SqL K H a xs) (h2 : SqL K H b zs) (s : xs.length + zs.length ≤ 100000) (h : ∀ p H', H p = none → Same H H' → H' p = some (.lst (xs ++ zs)) → Q (.ref p) H') : CatQ K Q (.ref a) (.ref b) H := ⟨a, b, xs, zs, rfl, rfl, h1, h2, sz s, fun p np => h p _ np (same_new np) upd_same⟩
def RevL (K : PySem.W.Frag) (Q : VK) (x : V) (H : Hp) : Prop := ∃ a xs, x = .ref a ∧ SqL K H a xs ∧ ∀ p, H p = none → Q (.ref p) (upd H p (.lst xs.reverse))
theorem revN (h : te σ H (RevL K Q)) : tRevL K te σ H Q := h
theorem revq {a : Addr} {xs : List V} (s : SqL K H a xs) (h : ∀ p H', H p = none → Same H H' → H' p = some (.lst xs.reverse) → Q (.ref p) H') : RevL K Q (.ref a) H := ⟨a, xs, rfl, s, fun p np => h p _ np (same_new np) upd_same⟩
theorem ext {l b : Addr} {xs zs : List V} (h : H l = some (.lst xs)) (hb : H b = some (.lst zs)) (s : xs.length + zs.length ≤ 100000) (q : Q .non (upd H l (.lst (xs ++ zs)))) : rExtend (.ref l) [.ref b] H Q := ⟨l, b, xs, zs, rfl, rfl, h, hb, sz s, q⟩
def LzG (K : PySem.W.Frag) (Q : VK) (vs : List V) (H1 : Hp) : Prop := ∃ a b xs ys, vs = [V.ref a, .ref b] ∧ SqL K H1 a xs ∧ SqL K H1 b ys ∧ xs.length = ys.length ∧
  ∀ (p : Addr) (ts : List Addr) (H2 : Hp), Same H1 H2 → H1 p = none → H2 p = some (.lst (ts.map V.ref)) → ts.length = xs.length → (∀ (j : Nat) t, ts[j]? = some t → ∃ x y, xs[j]? = some x ∧ ys[j]? = some y ∧ H2 t = some (.tup [x, y])) → Q (.ref p) H2
theorem lzip (h : tr σ H (LzG K Q)) : tListZip K tr σ H Q := h
theorem lz {a b : Addr} {xs ys : List V} (h1 : SqL K H a xs) (h2 : SqL K H b ys) (l : xs.length = ys.length) (q : ∀ (p : Addr) (ts : List Addr) (H2 : Hp), Same H H2 → H p = none → H2 p = some (.lst (ts.map V.ref)) → ts.length = xs.length → (∀ (j : Nat) t, ts[j]? = some t → ∃ x y, xs[j]? = some x ∧ ys[j]? = some y ∧ H2 t = some (.tup [x, y])) → Q (.ref p) H2) : LzG K Q [.ref a, .ref b] H := ⟨a, b, xs, ys, rfl, h1, h2, l, q⟩
end Rd
namespace L2
open PySem PySem.Spec PyProof.Rows
/-- (n1, n2) > (m1, m2) -/
def rGtP (K : PySem.W.Frag) : R2 := fun x y H Q => ∃ (a b : Addr) (n1 n2 m1 m2 : Int), x = .ref a ∧ y = .ref b ∧ SqT K H a [.int n1, .int n2] ∧ SqT K H b [.int m1, .int m2] ∧ Q (.bl (decide (m1 < n1 ∨ (n1 = m1 ∧ m2 < n2)))) H
theorem op_gtP {X : Cx} (hu : X.A.units < cLine) : OpR X (compareOp .Gt) (rGtP X.K) := by
  intro pins s σ H x y v u Q I rx ry h
  obtain ⟨a, b, n1, n2, m1, m2, rfl, rfl, ha, hb, q⟩ := h
  cases rx
  cases ry
  obtain ⟨its, r1, p1, _⟩ := I.tuple ha
  obtain ⟨its2, r2, p2, _⟩ := I.tuple hb
  have i1 : IntsAre its [n1, n2] := Vals.ints (ns := [n1, n2]) r1
  have i2 : IntsAre its2 [m1, m2] := Vals.ints (ns := [m1, m2]) r2
  have e1 : its.toArray.size = 2 := by rw [List.size_toArray]; exact i1.length
  have e2 : its2.toArray.size = 2 := by rw [List.size_toArray]; exact i2.length
  have at1 : ∀ j (h1 : j < its.toArray.size), ∃ t, its.toArray[j] = .int ([n1, n2].getD j 0) t := fun j h1 => PyProof.Rows.IntsAre.int_at i1 _ _ (by simp at h1; simp [h1])
  have at2 : ∀ j (h1 : j < its2.toArray.size), ∃ t, its2.toArray[j] = .int ([m1, m2].getD j 0) t := fun j h1 => PyProof.Rows.IntsAre.int_at i2 _ _ (by simp at h1; simp [h1])
  have R := Ob.RcOp.tuples_gt (A := X.A) (s := s) (e := fun j => decide ([n1, n2].getD j 0 = [m1, m2].getD j 0)) (r := fun j => decide ([m1, m2].getD j 0 < [n1, n2].getD j 0)) p1 p2 hu (fun j h1 h2 => by
    obtain ⟨t, et⟩ := at1 j h1
    obtain ⟨t', et'⟩ := at2 j h2
    rw [et, et']
    have z : ([n1, n2].getD j 0 == [m1, m2].getD j 0) = decide ([n1, n2].getD j 0 = [m1, m2].getD j 0) := by
      by_cases q : [n1, n2].getD j 0 = [m1, m2].getD j 0
      · rw [decide_eq_true q]; exact beq_iff_eq.mpr q
      · rw [decide_eq_false q]; exact beq_eq_false_iff_ne.mpr q
    rw [← z]
    exact SeqAt.EqAt.int_int _ _ _ _) (fun j h1 h2 _ => by
    obtain ⟨t, et⟩ := at1 j h1
    obtain ⟨t', et'⟩ := at2 j h2
    rw [et, et']
    exact Ob.RcOp.gt_int _ _ _ _)
  rw [e1, e2] at R
  have ev : Ob.lexAt (fun j => decide ([n1, n2].getD j 0 = [m1, m2].getD j 0)) (fun j => decide ([m1, m2].getD j 0 < [n1, n2].getD j 0)) (decide (2 > 2)) 0 (min 2 2) = decide (m1 < n1 ∨ (n1 = m1 ∧ m2 < n2)) := by
    show Ob.lexAt _ _ _ 0 2 = _
    rw [Ob.lexAt_succ, Ob.lexAt_succ, Ob.lexAt_zero]
    show (if decide (n1 = m1) = true then (if decide (n2 = m2) = true then decide (2 > 2) else decide (m2 < n2)) else decide (m1 < n1)) = _
    by_cases h1 : n1 = m1
    · rw [if_pos (decide_eq_true h1)]
      by_cases h2 : n2 = m2
      · rw [if_pos (decide_eq_true h2)]
        exact (decide_eq_false (by omega)).trans (decide_eq_false (by omega)).symm
      · rw [if_neg (by simp [h2])]
        exact decide_eq_decide.mpr (by omega)
    · rw [if_neg (by simp [h1])]
      exact decide_eq_decide.mpr (by omega)
  exact R _ _ _ _ ⟨.bl _, H, I, rfl, by rw [ev]; exact q⟩
end L2
namespace Rd
open PySem PySem.Spec PyProof.Rows L2
theorem gtP {K : PySem.W.Frag} {H : Hp} {Q : VK} {a b : Addr} {n1 n2 m1 m2 : Int} (h1 : H a = some (.tup [.int n1, .int n2])) (h2 : H b = some (.tup [.int m1, .int m2])) (q : Q (.bl (decide (m1 < n1 ∨ (n1 = m1 ∧ m2 < n2)))) H) : rGtP K (.ref a) (.ref b) H Q := ⟨a, b, n1, n2, m1, m2, rfl, rfl, SqT.of h1, SqT.of h2, q⟩
theorem glst {K : PySem.W.Frag} {H : Hp} {σ : L2.St} {p : Addr} {xs : List V} {n : Nat} {f : TGs} {Q : L2.St → Hp → Prop} (h : H p = some (.lst xs)) (l : xs.length = n) (q : f xs σ H Q) : gLst K n f (.ref p) σ H Q := ⟨p, xs, rfl, SqL.of h, l, q⟩
end Rd
namespace Rd
open PySem PySem.Spec PyProof.Rows L2
theorem revR1 {te : TE} {σ : L2.St} {H : Hp} {R : It → Hp → Prop} (h : te σ H fun x H1 => ∃ n, x = .int n ∧ (-(2 ^ 62) ≤ (0 : Int) ∧ (0 : Int) < 2 ^ 62 ∧ -(2 ^ 62) ≤ n ∧ n < 2 ^ 62 ∧ R (Itc ((0 : Int) + (((n - 0).toNat : Nat) : Int) - 1) (-1) (n - 0).toNat) H1)) : iRevR (tRg1 te) σ H R := h
end Rd

set_option Elab.async false
set_option linter.all false
set_option maxRecDepth 100000
/-! dicts whose keys are texts: what a reading asks of them, over lists of pairs -/
namespace Rd
open PySem PySem.Spec PyProof.Rows L2
variable {K : PySem.W.Frag} {σ : L2.St} {H : Hp} {D : Ends} {Q : VK} {ta tb te tc td ty tx : TE} {x y v : V}
abbrev kS (p : Str × V) : Key × V := (Sum.inr p.1, p.2)
/-- a dict of texts to values, in order -/
abbrev DS (m : List (Str × V)) : HO := .dK (m.map kS)
def lks (m : List (Str × V)) (k : Str) : Option V := (m.find? fun p => decide (p.1 = k)).map (·.2)
theorem kS_eq (p : Str × V) (k : Str) : decide ((kS p).1 = Sum.inr k) = decide (p.1 = k) := by
  by_cases h : p.1 = k
  · rw [decide_eq_true h, decide_eq_true (by rw [← h])]
  · rw [decide_eq_false h, decide_eq_false fun z => h (Sum.inr.inj z)]
theorem valV_ds (m : List (Str × V)) (k : Str) : valV (m.map kS) (Sum.inr k) = lks m k := by
  unfold valV lks
  induction m with
  | nil => rfl
  | cons a r ih =>
    rw [List.map_cons, List.find?_cons, List.find?_cons, kS_eq a k]
    cases decide (a.1 = k) with
    | true => rfl
    | false => exact ih
theorem get_ds {a : Addr} {m : List (Str × V)} {k : Str} (h : L2.Rd H a (DS m)) : DGet H a (.str k) (lks m k) := .inl ⟨_, Sum.inr k, h, rfl, (valV_ds m k).symm⟩
theorem dgetS {a : Addr} {m : List (Str × V)} {k : Str} (h : L2.Rd H a (DS m)) (e : lks m k = some v) (q : Q v H) : DgG Q (.ref a) (.str k) H := ⟨a, v, rfl, e ▸ get_ds h, q⟩
theorem dgetSo {a : Addr} {m : List (Str × V)} {k : Str} (h : H a = some (DS m)) (e : lks m k = some v) (q : Q v H) : DgG Q (.ref a) (.str k) H := dgetS (.inl h) e q
/-- a key that is new -/
theorem put_new {m : List (Str × V)} {k : Str} (h : ∀ p ∈ m, p.1 ≠ k) : putK (m.map kS) (Sum.inr k) v = (m ++ [(k, v)]).map kS := by
  unfold putK
  rw [if_neg, List.map_append]
  · rfl
  · rw [List.any_map]
    intro c
    obtain ⟨p, mp, e⟩ := List.any_eq_true.mp c
    have e : decide ((kS p).1 = Sum.inr k) = true := e
    rw [kS_eq] at e
    exact h p mp (of_decide_eq_true e)
theorem dputS {a : Addr} {m : List (Str × V)} {k : Str} (h : H a = some (DS m)) (n : ∀ p ∈ m, p.1 ≠ k) (l : m.length < 100000) (q : D.nx σ (upd H a (DS (m ++ [(k, v)])))) : DpG D σ (.ref a) (.str k) v H :=
  ⟨a, _, rfl, .inl ⟨_, Sum.inr k, h, rfl, by rw [List.length_map]; exact szl l, rfl⟩, by rw [put_new n]; exact q⟩
theorem merge_new : ∀ (m : List (Str × V)) (l : List (Str × V)), (l.map (·.1) ++ m.map (·.1)).Nodup → mergeK (l.map kS) (m.map kS) = (l ++ m).map kS
  | [], l, _ => by rw [List.append_nil]; rfl
  | p :: r, l, h => by
    have hn : ∀ q ∈ l, q.1 ≠ p.1 := fun q mq z => by
      rw [List.nodup_append] at h
      exact h.2.2 q.1 (List.mem_map_of_mem mq) p.1 (by simp) z
    have e : mergeK (l.map kS) ((p :: r).map kS) = mergeK (putK (l.map kS) (Sum.inr p.1) p.2) (r.map kS) := rfl
    rw [e, put_new hn, merge_new r (l ++ [(p.1, p.2)]) (by simpa using h)]
    simp
theorem inV_strz (x : Str) (r : List Str) : inV (.str x) (r.map V.str) = decide (x ∈ r) := by
  unfold inV
  rw [List.any_map]
  by_cases h : x ∈ r
  · rw [decide_eq_true h, List.any_eq_true]
    exact ⟨x, h, beq_self_eq_true x⟩
  · rw [decide_eq_false h, List.any_eq_false]
    intro y hy e
    have e2 : (y == x) = true := e
    rw [beq_iff_eq] at e2
    exact h (e2 ▸ hy)
theorem inStrs {p : Addr} {ns : List Str} {n : Str} (h : H p = some (.lst (ns.map V.str))) (q : Q (.bl (decide (n ∈ ns))) H) : rIn K false (.str n) (.ref p) H Q :=
  ⟨p, _, rfl, .inl (SqL.of h), rfl, flat_strs _, by rw [inV_strz]; exact q⟩
/-! ### a display -/
def DspG (Q : VK) (p : Addr) (ps : List (V × V)) (H2 : Hp) : Prop := H2 p = some (.dK []) ∧ ∃ kvs : List (Key × V), ps = kvs.map (fun kv => (kV kv.1, kv.2)) ∧ kvs.length ≤ 15 ∧ Q (.ref p) (upd H2 p (.dK (mergeK [] kvs)))
def NewP (trs : List (TE × TE)) (σ : L2.St) (Q : VK) (H : Hp) : Prop := ∀ p, H p = none → tPairs trs σ (upd H p (.dK [])) fun ps H2 => DspG Q p ps H2
theorem disp {trs : List (TE × TE)} (h : NewP trs σ Q H) : tDisp trs σ H Q := h
theorem dsp {trs : List (TE × TE)} (h : ∀ p H', H p = none → Same H H' → H' p = some (.dK []) → tPairs trs σ H' fun ps H2 => DspG Q p ps H2) : NewP trs σ Q H := fun p np => h p _ np (same_new np) upd_same
theorem pnil {Q : List (V × V) → Hp → Prop} (h : Q [] H) : tPairs [] σ H Q := h
theorem pcons {Q : List (V × V) → Hp → Prop} {tk tv : TE} {r : List (TE × TE)} (h : tk σ H fun x H1 => tv σ H1 fun y H2 => tPairs r σ H2 fun ps H3 => Q ((x, y) :: ps) H3) : tPairs ((tk, tv) :: r) σ H Q := h
theorem dspS {p : Addr} {ps : List (V × V)} (m : List (Str × V)) (e : ps = m.map fun q => (V.str q.1, q.2)) (hp : H p = some (.dK [])) (l : m.length ≤ 15) (n : (m.map (·.1)).Nodup) (q : Q (.ref p) (upd H p (DS m))) : DspG Q p ps H :=
  ⟨hp, m.map kS, by rw [e, List.map_map]; rfl, by rw [List.length_map]; exact l, by
    have := merge_new m [] (by simpa using n)
    rw [List.map_nil, List.nil_append] at this
    rw [this]; exact q⟩
end Rd

set_option Elab.async false
set_option linter.all false
set_option maxRecDepth 100000
/-! match over tuples: case ("word", a, _, b), several such patterns, several texts -/
namespace L2
open PySem PySem.Spec PyProof.Rows
/-- one place of a pattern: a written text, a name that is taken, anything -/
inductive Pl
  | txt (c : Str)
  | cap (i : Nat)
  | any
def fit : List Pl → List V → Option Bool
  | [], [] => some true
  | .txt c :: ps, .str z :: xs => if z = c then fit ps xs else some false
  | .cap _ :: ps, _ :: xs => fit ps xs
  | .any :: ps, _ :: xs => fit ps xs
  | _, _ => none
def fitA (ps : List Pl) (xs : List V) : Option Bool := if ps.length = xs.length then fit ps xs else some false
def fitO : List (List Pl) → List V → Option Bool
  | [], _ => some false
  | p :: r, xs => match fitA p xs with
    | some true => some true
    | some false => fitO r xs
    | none => none
def caps : List Pl → List V → List (Nat × V)
  | .cap i :: ps, v :: vs => (i, v) :: caps ps vs
  | .txt _ :: ps, _ :: vs => caps ps vs
  | .any :: ps, _ :: vs => caps ps vs
  | _, _ => []
def tBnd : List Pl → List V → St → Hp → (St → Hp → Prop) → Prop
  | .cap i :: ps, v :: vs => fun σ H Q => gName i v σ H fun σ' H' => tBnd ps vs σ' H' Q
  | .txt _ :: ps, _ :: vs => fun σ H Q => tBnd ps vs σ H Q
  | .any :: ps, _ :: vs => fun σ H Q => tBnd ps vs σ H Q
  | _, _ => fun σ H Q => Q σ H
inductive Pt
  | rest
  | seq (ps : List Pl)
  | ors (pss : List (List Pl))
def tCasesQ (xs : List V) : List (Pt × TS) → TS
  | [] => fun D σ H => D.nx σ H
  | (.rest, t) :: _ => t
  | (.seq ps, t) :: r => fun D σ H => ∃ b, fitA ps xs = some b ∧ if b = true then tBnd ps xs σ H (fun σ' H' => t D σ' H') else tCasesQ xs r D σ H
  | (.ors pss, t) :: r => fun D σ H => ∃ b, fitO pss xs = some b ∧ if b = true then t D σ H else tCasesQ xs r D σ H
def tMatchQ (K : PySem.W.Frag) (te : TE) (l : List (Pt × TS)) : TS := fun D σ H => te σ H fun x H1 => ∃ a xs, x = .ref a ∧ SqT K H1 a xs ∧ xs.length ≤ 1000 ∧ tCasesQ xs l D σ H1
inductive PMs (X : Cx) : List Pattern → List Pl → Prop
  | nil : PMs X [] []
  | txt {c : Str} {j : Nat} {p p2 : Pos} {r : List Pattern} {l : List Pl} : PMs X r l → PMs X (.MatchValue (.Constant (.str c) j p) p2 :: r) (.txt c :: l)
  | cap {x : Str} {i : Nat} {p : Pos} {r : List Pattern} {l : List Pl} (hN : X.N.Nodup) (hi : X.N[i]? = some x) (hx : Loc X.env.scope x) (hf : X.fn x = true ∨ X.env.scope.names.lookup x = some .local) : PMs X r l → PMs X (.MatchAs none (some x) p :: r) (.cap i :: l)
  | any {p : Pos} {r : List Pattern} {l : List Pl} : PMs X r l → PMs X (.MatchAs none none p :: r) (.any :: l)
theorem PMs.len {X : Cx} {ps : List Pattern} {ls : List Pl} (h : PMs X ps ls) : ps.length = ls.length := by
  induction h with
  | nil => rfl
  | txt _ ih => exact congrArg Nat.succ ih
  | cap _ _ _ _ _ ih => exact congrArg Nat.succ ih
  | any _ ih => exact congrArg Nat.succ ih
theorem PMs.star {X : Cx} {ps : List Pattern} {ls : List Pl} (h : PMs X ps ls) : ps.findIdx? (·.isStar) = none := by
  induction h with
  | nil => rfl
  | txt _ ih => rw [List.findIdx?_cons, ih]; rfl
  | cap _ _ _ _ _ ih => rw [List.findIdx?_cons, ih]; rfl
  | any _ ih => rw [List.findIdx?_cons, ih]; rfl
/-- what the captures hold -/
inductive CapR (X : Cx) : List (Nat × V) → List (Str × Value) → Prop
  | nil : CapR X [] []
  | cons {i : Nat} {v : V} {x : Str} {u : Value} {l : List (Nat × V)} {m : List (Str × Value)} (hN : X.N.Nodup) (hi : X.N[i]? = some x) (hx : Loc X.env.scope x) (hf : X.fn x = true ∨ X.env.scope.names.lookup x = some .local) (r : RelV v u) : CapR X l m → CapR X ((i, v) :: l) ((x, u) :: m)
def tCap : List (Nat × V) → St → Hp → (St → Hp → Prop) → Prop
  | [] => fun σ H Q => Q σ H
  | (i, v) :: r => fun σ H Q => gName i v σ H fun σ' H' => tCap r σ' H' Q
theorem tBnd_caps : ∀ (ps : List Pl) (vs : List V) (σ : St) (H : Hp) (Q : St → Hp → Prop), tBnd ps vs σ H Q → tCap (caps ps vs) σ H Q
  | [], [], σ, H, Q, h => h
  | [], _ :: _, σ, H, Q, h => h
  | .cap i :: ps, v :: vs, σ, H, Q, h => by
    show tCap (caps ps vs) _ _ _
    exact tBnd_caps ps vs _ _ _ h
  | .txt _ :: ps, _ :: vs, σ, H, Q, h => tBnd_caps ps vs σ H Q h
  | .any :: ps, _ :: vs, σ, H, Q, h => tBnd_caps ps vs σ H Q h
  | .cap _ :: _, [], σ, H, Q, h => h
  | .txt _ :: _, [], σ, H, Q, h => h
  | .any :: _, [], σ, H, Q, h => h
section
variable {X : Cx}
theorem each_ok {ps : List Pattern} {ls : List Pl} (h : PMs X ps ls) : ∀ {vs : List V} {us : List Value} {b : Bool} {pins : List (Addr × Obj)} {s : Shared} {σ : St} {H : Hp} {Q : Option (List (Str × Value)) → Shared → Prop}, Inv X pins σ H s → Vals vs us → fit ls vs = some b →
    (∀ s' r, Inv X pins σ H s' → (b = false → r = none) → (b = true → ∃ bs, r = some bs ∧ CapR X (caps ls vs) bs) → Q r s') → wpAny (model X.prog X.w) X.A (matchEach ps X.env us) Q X.xe s := by
  induction h with
  | nil =>
    intro vs us b pins s σ H Q I r hf q
    cases r with
    | nil =>
      cases hf
      exact wpAny_matchEach_nil (q s _ I (fun z => nomatch z) fun _ => ⟨[], rfl, .nil⟩)
    | cons _ _ => cases hf
  | @txt c j p p2 r0 l0 hr ih =>
    intro vs us b pins s σ H Q I r hf q
    cases r with
    | nil => cases hf
    | @cons v u vr ur rv rr =>
      cases v with
      | str z =>
        have hf' : (if z = c then fit l0 vr else some false) = some b := hf
        refine wpAny_matchEach_cons (wpAny_matchPattern_Value ?_)
        refine thn ((pe_str (X := X) (x := c)).run pins s σ H (fun v H' => v = .str c ∧ H' = H) I ⟨rfl, rfl⟩) fun v s1 hh => ?_
        obtain ⟨x, H1, I1, rx, ex, eH⟩ := hh
        subst ex
        subst eH
        refine thn (op_eq pins s1 σ H1 (.str z) (.str c) u v (fun y H' => y = .bl (decide (V.str z = V.str c)) ∧ H' = H1) I1 rv rx ⟨rfl, rfl, rfl⟩) fun y s2 hh => ?_
        obtain ⟨x, H2, I2, rx2, ex, eH⟩ := hh
        subst ex
        subst eH
        cases rx2
        refine wpAny_truthy_bool ?_
        by_cases e : z = c
        · rw [if_pos e] at hf'
          rw [decide_eq_true (by rw [e])]
          refine ih I2 rr hf' fun s' r' I' h1 h2 => ?_
          cases b with
          | false =>
            cases h1 rfl
            exact q s' _ I' (fun _ => rfl) fun z => nomatch z
          | true =>
            obtain ⟨bs, rfl, cr⟩ := h2 rfl
            exact q s' _ I' (fun z => nomatch z) fun _ => ⟨bs, rfl, cr⟩
        · rw [if_neg e] at hf'
          cases hf'
          rw [decide_eq_false (fun q => e (by injection q))]
          exact q s2 _ I2 (fun _ => rfl) fun z => nomatch z
      | _ => cases hf
  | @cap x i p r0 l0 hN hi hx hfn hr ih =>
    intro vs us b pins s σ H Q I r hf q
    cases r with
    | nil => cases hf
    | @cons v u vr ur rv rr =>
      have hf' : fit l0 vr = some b := hf
      refine wpAny_matchEach_cons (wpAny_matchPattern_Capture ?_)
      refine ih I rr hf' fun s' r' I' h1 h2 => ?_
      cases b with
      | false =>
        cases h1 rfl
        exact q s' _ I' (fun _ => rfl) fun z => nomatch z
      | true =>
        obtain ⟨bs, rfl, cr⟩ := h2 rfl
        exact q s' _ I' (fun z => nomatch z) fun _ => ⟨_, rfl, .cons hN hi hx hfn rv cr⟩
  | @any p r0 l0 hr ih =>
    intro vs us b pins s σ H Q I r hf q
    cases r with
    | nil => cases hf
    | @cons v u vr ur rv rr =>
      have hf' : fit l0 vr = some b := hf
      refine wpAny_matchEach_cons (wpAny_matchPattern_Capture ?_)
      refine ih I rr hf' fun s' r' I' h1 h2 => ?_
      cases b with
      | false =>
        cases h1 rfl
        exact q s' _ I' (fun _ => rfl) fun z => nomatch z
      | true =>
        obtain ⟨bs, rfl, cr⟩ := h2 rfl
        exact q s' _ I' (fun z => nomatch z) fun _ => ⟨_, rfl, cr⟩
/-- one pattern over a tuple -/
theorem seq_ok {ps : List Pattern} {ls : List Pl} {pos : Pos} (hc : X.calm = true) (h : PMs X ps ls) (hw : (ps.all fun p => p.isWildcard || (p.isStar && p.names.isEmpty)) = false) {a : Addr} {xs : List V} {b : Bool} {pins : List (Addr × Obj)} {s : Shared} {σ : St} {H : Hp} {Q : Option (List (Str × Value)) → Shared → Prop}
    (I : Inv X pins σ H s) (hq : SqT X.K H a xs) (hl : xs.length ≤ 1000) (hf : fitA ls xs = some b)
    (q : ∀ s' r, Inv X pins σ H s' → (b = false → r = none) → (b = true → ∃ bs, r = some bs ∧ CapR X (caps ls xs) bs) → Q r s') : wpAny (model X.prog X.w) X.A (matchPattern (.MatchSequence ps pos) X.env (.ref a)) Q X.xe s := by
  obtain ⟨its, rv, ht, hz⟩ := I.tuple hq
  have hfit : (its.toArray.size : Int) < 2 ^ 63 := by
    have := rv.length
    simp only [List.size_toArray]
    omega
  have el : its.toArray.size = xs.length := by simp only [List.size_toArray]; exact rv.length.symm
  refine wpAny_matchPattern_Sequence (wpAny_collectionFlag ht.typeIs flag_seq_tuple ?_) h.star hw
  rw [if_pos rfl]
  refine pyLen_tuple ht hfit ?_
  have I1 : Inv X pins σ H { s with toks := s.toks + 1 + 1 } := I.kept (t' := s.toks + 1 + 1) fun b o e => e
  by_cases e : ls.length = xs.length
  · have ep : its.toArray.size = ps.length := by rw [el, ← e, h.len]
    rw [if_neg (by simp only [ep]; simp)]
    have hf' : fit ls xs = some b := by unfold fitA at hf; rw [if_pos e] at hf; exact hf
    rw [← ep]
    refine unpackItems_tuple (I.ok.hd hc) (show IsTup _ a its.toArray from ht) fun h' hx => ?_
    have I2 : Inv X pins σ H { s with heap := h', toks := s.toks + 1 + 1 } := I.kept (t' := s.toks + 1 + 1) fun b o e => hx b o (Nat.ne_of_lt (Heap.lt_size e)) e
    exact each_ok h I2 (by simpa using rv) hf' q
  · rw [if_pos (by simp only [el]; rw [h.len]; simp; omega)]
    have hf' : b = false := by
      unfold fitA at hf
      rw [if_neg e] at hf
      exact (Option.some.inj hf).symm
    exact q _ _ I1 (fun _ => rfl) fun z => by rw [hf'] at z; cases z
theorem assign_caps : ∀ {l : List (Nat × V)} {bs : List (Str × Value)} {pins : List (Addr × Obj)} {s : Shared} {σ : St} {H : Hp} {Q : St → Hp → Prop}, CapR X l bs → Inv X pins σ H s → tCap l σ H Q →
    wpAny (model X.prog X.w) X.A (assignInOrder (bs.map fun (n, _) => bindName X.env n) (bs.map (·.2))) (fun _ s' => ∃ σ' H', Inv X pins σ' H' s' ∧ Q σ' H') X.xe s
  | _, _, pins, s, σ, H, Q, .nil, I, h => wpAny_assignInOrder_none ⟨σ, H, I, h⟩
  | _, _, pins, s, σ, H, Q, .cons hN hi hx hf r c, I, h => by
    refine wpAny_assignInOrder_more (wpAny_bindName (store_ok I hN hi hx r (fun s' I' => ?_) hf))
    exact assign_caps c I' h
inductive PMss (X : Cx) : List Pattern → List (List Pl) → Prop
  | nil : PMss X [] []
  | cons {ps : List Pattern} {pos : Pos} {ls : List Pl} {r : List Pattern} {l : List (List Pl)} (h : PMs X ps ls) (hw : (ps.all fun p => p.isWildcard || (p.isStar && p.names.isEmpty)) = false) : PMss X r l → PMss X (.MatchSequence ps pos :: r) (ls :: l)
theorem first_ok (hc : X.calm = true) {pts : List Pattern} {lss : List (List Pl)} (h : PMss X pts lss) {a : Addr} {xs : List V} : ∀ {b : Bool} {pins : List (Addr × Obj)} {s : Shared} {σ : St} {H : Hp} {Q : Option (List (Str × Value)) → Shared → Prop},
    Inv X pins σ H s → SqT X.K H a xs → xs.length ≤ 1000 → fitO lss xs = some b → (∀ s' r, Inv X pins σ H s' → (b = false → r = none) → (b = true → ∃ bs, r = some bs) → Q r s') → wpAny (model X.prog X.w) X.A (matchFirst pts X.env (.ref a)) Q X.xe s := by
  induction h with
  | nil =>
    intro b pins s σ H Q I hq hl hf q
    cases hf
    exact wpAny_matchFirst_nil (q s _ I (fun _ => rfl) fun z => nomatch z)
  | @cons ps pos ls r l h hw hr ih =>
    intro b pins s σ H Q I hq hl hf q
    refine wpAny_matchFirst_cons ?_
    have hf' : (match fitA ls xs with | some true => some true | some false => fitO l xs | none => none) = some b := hf
    cases e : fitA ls xs with
    | none => rw [e] at hf'; cases hf'
    | some b1 =>
      rw [e] at hf'
      refine seq_ok hc h hw I hq hl e fun s' r' I' h1 h2 => ?_
      cases b1 with
      | false =>
        cases h1 rfl
        exact ih I' hq hl hf' q
      | true =>
        obtain ⟨bs, rfl, _⟩ := h2 rfl
        cases hf'
        exact q s' _ I' (fun z => nomatch z) fun _ => ⟨_, rfl⟩
inductive PCq (X : Cx) : List MatchCase → List (Pt × TS) → Prop
  | nil : PCq X [] []
  | rest {body : List Stmt} {t : TS} {p : Pos} {r : List MatchCase} : PSs X body t → PCq X (⟨.MatchAs none none p, none, body⟩ :: r) [(.rest, t)]
  | seq {body : List Stmt} {t : TS} {ps : List Pattern} {ls : List Pl} {p : Pos} {r : List MatchCase} {l : List (Pt × TS)} (h : PMs X ps ls) (hb : PSs X body t) (hr : PCq X r l) (hw : (ps.all fun p => p.isWildcard || (p.isStar && p.names.isEmpty)) = false := by rfl) :
      PCq X (⟨.MatchSequence ps p, none, body⟩ :: r) ((.seq ls, t) :: l)
  | ors {body : List Stmt} {t : TS} {ps : List Pattern} {lss : List (List Pl)} {p : Pos} {r : List MatchCase} {l : List (Pt × TS)} (h : PMss X ps lss) (hb : PSs X body t) (hr : PCq X r l) (hn : namesOfAll (ps.take 1) = [] := by rfl) :
      PCq X (⟨.MatchOr ps p, none, body⟩ :: r) ((.ors lss, t) :: l)
theorem run_casesQ (hc : X.calm = true) {a : Addr} {xs : List V} (hl : xs.length ≤ 1000) {cs : List MatchCase} {l : List (Pt × TS)} (h : PCq X cs l) : ∀ (first : Bool) (pins : List (Addr × Obj)) (s : Shared) (σ : St) (H : Hp) (D : Ends), Inv X pins σ H s → SqT X.K H a xs → tCasesQ xs l D σ H →
    wpAny (model X.prog X.w) X.A (matchCases cs X.env (.ref a) first) (SP X pins D) X.xe s := by
  induction h with
  | nil => exact fun first pins s σ H D I hq h => wpAny_matchCases_nil ⟨σ, H, I, h⟩
  | rest hb =>
    intro first pins s σ H D I hq h
    refine wpAny_matchCases_cons (wpAny_matchPattern_Capture ?_)
    exact wpAny_assignInOrder_none (hb.run pins s σ H D I h)
  | @seq body t ps ls p r l hp hb hr hw ih =>
    intro first pins s σ H D I hq h
    obtain ⟨b, hf, h⟩ := h
    refine wpAny_matchCases_cons (seq_ok hc hp hw I hq hl hf fun s' r' I' h1 h2 => ?_)
    cases b with
    | false =>
      cases h1 rfl
      rw [if_neg (by simp)] at h
      exact ih false pins s' σ H D I' hq h
    | true =>
      obtain ⟨bs, rfl, cr⟩ := h2 rfl
      rw [if_pos rfl] at h
      refine thn (assign_caps cr I' (tBnd_caps _ _ _ _ _ h)) fun _ s1 hh => ?_
      obtain ⟨σ', H', I2, q⟩ := hh
      exact hb.run pins s1 σ' H' D I2 q
  | @ors body t ps lss p r l hp hb hr hn ih =>
    intro first pins s σ H D I hq h
    obtain ⟨b, hf, h⟩ := h
    refine wpAny_matchCases_cons (wpAny_matchPattern_Or (first_ok hc hp I hq hl hf fun s' r' I' h1 h2 => ?_))
    cases b with
    | false =>
      cases h1 rfl
      rw [if_neg (by simp)] at h
      exact ih false pins s' σ H D I' hq h
    | true =>
      obtain ⟨bs, rfl⟩ := h2 rfl
      rw [if_pos rfl] at h
      show wpAny _ _ (assignInOrder (((namesOfAll (ps.take 1)).filterMap fun n => (bs.lookup n).map (n, ·)).map _) _) _ _ _
      rw [hn]
      exact wpAny_assignInOrder_none (hb.run pins s' σ H D I' h)
theorem ps_matchQ {e : Expr} {te : TE} {cs : List MatchCase} {l : List (Pt × TS)} {pos : Pos} (hc : X.calm = true) (he : PE X e te) (hp : PCq X cs l) : PS X (.Match e cs pos) (tMatchQ X.K te l) := by
  refine ⟨fun pins s σ H D I h => wpAny_Match ?_⟩
  refine thn (he.run pins s σ H _ I h) fun u s1 hh => ?_
  obtain ⟨x, H1, I1, rx, a, xs, ex, hq, hl, hz⟩ := hh
  subst ex
  cases rx
  exact run_casesQ hc hl hp true pins s1 σ H1 D I1 hq hz
end
/-! ### match over texts with several of them -/
def tCasesO (z : Str) : List (Option (List Str) × TS) → TS
  | [] => fun D σ H => D.nx σ H
  | (none, t) :: _ => t
  | (some cs, t) :: r => fun D σ H => if z ∈ cs then t D σ H else tCasesO z r D σ H
def tMatchO (te : TE) (l : List (Option (List Str) × TS)) : TS := fun D σ H => te σ H fun x H1 => ∃ z : Str, x = .str z ∧ tCasesO z l D σ H1
inductive PVs (X : Cx) : List Pattern → List Str → Prop
  | nil : PVs X [] []
  | cons {c : Str} {j : Nat} {p p2 : Pos} {r : List Pattern} {l : List Str} : PVs X r l → PVs X (.MatchValue (.Constant (.str c) j p) p2 :: r) (c :: l)
inductive PCo (X : Cx) : List MatchCase → List (Option (List Str) × TS) → Prop
  | nil : PCo X [] []
  | rest {body : List Stmt} {t : TS} {p : Pos} {r : List MatchCase} : PSs X body t → PCo X (⟨.MatchAs none none p, none, body⟩ :: r) [(none, t)]
  | text {body : List Stmt} {t : TS} {c : Str} {j : Nat} {p p2 : Pos} {r : List MatchCase} {l : List (Option (List Str) × TS)} : PSs X body t → PCo X r l →
      PCo X (⟨.MatchValue (.Constant (.str c) j p) p2, none, body⟩ :: r) ((some [c], t) :: l)
  | ors {body : List Stmt} {t : TS} {ps : List Pattern} {cs : List Str} {p : Pos} {r : List MatchCase} {l : List (Option (List Str) × TS)} (h : PVs X ps cs) (hb : PSs X body t) (hr : PCo X r l) (hn : namesOfAll (ps.take 1) = [] := by rfl) :
      PCo X (⟨.MatchOr ps p, none, body⟩ :: r) ((some cs, t) :: l)
section
variable {X : Cx}
theorem val_ok {c z : Str} {u : Value} (ru : RelV (.str z) u) {j : Nat} {p p2 : Pos} {pins : List (Addr × Obj)} {s : Shared} {σ : St} {H : Hp} {Q : Option (List (Str × Value)) → Shared → Prop} (I : Inv X pins σ H s)
    (q : ∀ s', Inv X pins σ H s' → Q (if z = c then some [] else none) s') : wpAny (model X.prog X.w) X.A (matchPattern (.MatchValue (.Constant (.str c) j p) p2) X.env u) Q X.xe s := by
  refine wpAny_matchPattern_Value ?_
  refine thn ((pe_str (X := X) (x := c)).run pins s σ H (fun v H' => v = .str c ∧ H' = H) I ⟨rfl, rfl⟩) fun v s1 hh => ?_
  obtain ⟨x, H1, I1, rx, ex, eH⟩ := hh
  subst ex
  subst eH
  refine thn (op_eq pins s1 σ H1 (.str z) (.str c) u v (fun y H' => y = .bl (decide (V.str z = V.str c)) ∧ H' = H1) I1 ru rx ⟨rfl, rfl, rfl⟩) fun y s2 hh => ?_
  obtain ⟨x, H2, I2, rx2, ex, eH⟩ := hh
  subst ex
  subst eH
  cases rx2
  refine wpAny_truthy_bool ?_
  have q2 := q s2 I2
  by_cases e : z = c
  · rw [if_pos e] at q2
    rw [decide_eq_true (by rw [e])]
    exact q2
  · rw [if_neg e] at q2
    rw [decide_eq_false (fun q => e (by injection q))]
    exact q2
theorem vals_ok {z : Str} {u : Value} (ru : RelV (.str z) u) {ps : List Pattern} {cs : List Str} (h : PVs X ps cs) : ∀ {pins : List (Addr × Obj)} {s : Shared} {σ : St} {H : Hp} {Q : Option (List (Str × Value)) → Shared → Prop}, Inv X pins σ H s →
    (∀ s', Inv X pins σ H s' → Q (if z ∈ cs then some [] else none) s') → wpAny (model X.prog X.w) X.A (matchFirst ps X.env u) Q X.xe s := by
  induction h with
  | nil =>
    intro pins s σ H Q I q
    have q2 := q s I
    rw [if_neg List.not_mem_nil] at q2
    exact wpAny_matchFirst_nil q2
  | @cons c j p p2 r l hr ih =>
    intro pins s σ H Q I q
    refine wpAny_matchFirst_cons (val_ok ru I fun s' I' => ?_)
    by_cases e : z = c
    · rw [if_pos e]
      have q2 := q s' I'
      rw [if_pos (by rw [e]; exact List.mem_cons_self ..)] at q2
      exact q2
    · rw [if_neg e]
      refine ih I' fun s2 I2 => ?_
      have q2 := q s2 I2
      by_cases m : z ∈ l
      · rw [if_pos m]
        rw [if_pos (List.mem_cons_of_mem _ m)] at q2
        exact q2
      · rw [if_neg m]
        rw [if_neg (fun w => (List.mem_cons.mp w).elim e m)] at q2
        exact q2
theorem run_casesO {z : Str} {u : Value} (ru : RelV (.str z) u) {cs : List MatchCase} {l : List (Option (List Str) × TS)} (h : PCo X cs l) : ∀ (first : Bool) (pins : List (Addr × Obj)) (s : Shared) (σ : St) (H : Hp) (D : Ends), Inv X pins σ H s → tCasesO z l D σ H →
    wpAny (model X.prog X.w) X.A (matchCases cs X.env u first) (SP X pins D) X.xe s := by
  induction h with
  | nil => exact fun first pins s σ H D I h => wpAny_matchCases_nil ⟨σ, H, I, h⟩
  | rest hb =>
    intro first pins s σ H D I h
    refine wpAny_matchCases_cons (wpAny_matchPattern_Capture ?_)
    exact wpAny_assignInOrder_none (hb.run pins s σ H D I h)
  | @text body t c j p p2 r l hb hr ih =>
    intro first pins s σ H D I h
    refine wpAny_matchCases_cons (val_ok ru I fun s' I' => ?_)
    have h' : (if z ∈ [c] then t D σ H else tCasesO z l D σ H) := h
    by_cases e : z = c
    · rw [if_pos e]
      rw [if_pos (List.mem_singleton.mpr e)] at h'
      exact wpAny_assignInOrder_none (hb.run pins s' σ H D I' h')
    · rw [if_neg e]
      rw [if_neg (fun w => e (List.mem_singleton.mp w))] at h'
      exact ih false pins s' σ H D I' h'
  | @ors body t ps cs p r l hp hb hr hn ih =>
    intro first pins s σ H D I h
    refine wpAny_matchCases_cons (wpAny_matchPattern_Or (vals_ok ru hp I fun s' I' => ?_))
    have h' : (if z ∈ cs then t D σ H else tCasesO z l D σ H) := h
    by_cases e : z ∈ cs
    · rw [if_pos e]
      rw [if_pos e] at h'
      show wpAny _ _ (assignInOrder (((namesOfAll (ps.take 1)).filterMap fun n => (([] : List (Str × Value)).lookup n).map (n, ·)).map _) _) _ _ _
      rw [hn]
      exact wpAny_assignInOrder_none (hb.run pins s' σ H D I' h')
    · rw [if_neg e]
      rw [if_neg e] at h'
      exact ih false pins s' σ H D I' h'
theorem ps_matchO {e : Expr} {te : TE} {cs : List MatchCase} {l : List (Option (List Str) × TS)} {pos : Pos} (he : PE X e te) (hp : PCo X cs l) : PS X (.Match e cs pos) (tMatchO te l) := by
  refine ⟨fun pins s σ H D I h => wpAny_Match ?_⟩
  refine thn (he.run pins s σ H _ I h) fun u s1 hh => ?_
  obtain ⟨x, H1, I1, rx, z, ez, hz⟩ := hh
  subst ez
  exact run_casesO rx hp true pins s1 σ H1 D I1 hz
end
end L2
namespace Rd
open PySem PySem.Spec PyProof.Rows L2
variable {K : PySem.W.Frag} {σ : L2.St} {H : Hp} {D : Ends} {te : TE} {t : TS} {v : V} {vs xs : List V} {ps : List Pl} {pss : List (List Pl)} {r : List (Pt × TS)} {z c : Str}
theorem mtq {l : List (Pt × TS)} (h : te σ H fun x H1 => ∃ a xs, x = .ref a ∧ SqT K H1 a xs ∧ xs.length ≤ 1000 ∧ tCasesQ xs l D σ H1) : tMatchQ K te l D σ H := h
theorem mtqI {a : Addr} {l : List (Pt × TS)} (h : SqT K H a xs) (hl : xs.length ≤ 1000) (q : tCasesQ xs l D σ H) : ∃ a' xs, V.ref a = .ref a' ∧ SqT K H a' xs ∧ xs.length ≤ 1000 ∧ tCasesQ xs l D σ H := ⟨a, xs, rfl, h, hl, q⟩
theorem mtRest {r : List (Pt × TS)} (h : t D σ H) : tCasesQ xs ((.rest, t) :: r) D σ H := h
theorem mtEnd (h : D.nx σ H) : tCasesQ xs [] D σ H := h
/-- another length -/
theorem mtLen (e : (ps.length == xs.length) = false) (h : tCasesQ xs r D σ H) : tCasesQ xs ((.seq ps, t) :: r) D σ H :=
  ⟨false, by unfold fitA; rw [if_neg (by simpa using e)], if_f rfl h⟩
/-- another word in the first place -/
theorem mtNo (e : z ≠ c) (h : tCasesQ (.str z :: xs) r D σ H) : tCasesQ (.str z :: xs) ((.seq (.txt c :: ps), t) :: r) D σ H :=
  ⟨false, (by
    unfold fitA
    by_cases l : (Pl.txt c :: ps).length = (V.str z :: xs).length
    · rw [if_pos l]; show (if z = c then _ else _) = _; rw [if_neg e]
    · rw [if_neg l]), if_f rfl h⟩
theorem mtNo2 (e : z ≠ c) (h : tCasesQ (v :: .str z :: xs) r D σ H) : tCasesQ (v :: .str z :: xs) ((.seq (.any :: .txt c :: ps), t) :: r) D σ H :=
  ⟨false, (by
    unfold fitA
    by_cases l : (Pl.any :: Pl.txt c :: ps).length = (v :: V.str z :: xs).length
    · rw [if_pos l]; show (if z = c then _ else _) = _; rw [if_neg e]
    · rw [if_neg l]), if_f rfl h⟩
/-- it fits: the same word, the rest any -/
theorem mtYes (e : fitA ps xs = some true) (h : tBnd ps xs σ H (fun σ' H' => t D σ' H')) : tCasesQ (.str c :: xs) ((.seq (.txt c :: ps), t) :: r) D σ H :=
  ⟨true, (by
    unfold fitA at e ⊢
    by_cases l : ps.length = xs.length
    · rw [if_pos l] at e
      rw [if_pos (show (Pl.txt c :: ps).length = (V.str c :: xs).length from congrArg Nat.succ l)]
      show (if c = c then fit ps xs else _) = _
      rw [if_pos rfl]; exact e
    · rw [if_neg l] at e; cases e), if_t rfl h⟩
theorem mtFit (e : fitA ps xs = some true) (h : tBnd ps xs σ H (fun σ' H' => t D σ' H')) : tCasesQ xs ((.seq ps, t) :: r) D σ H := ⟨true, e, if_t rfl h⟩
theorem mtOY (e : fitO pss xs = some true) (h : t D σ H) : tCasesQ xs ((.ors pss, t) :: r) D σ H := ⟨true, e, if_t rfl h⟩
theorem mtON (e : fitO pss xs = some false) (h : tCasesQ xs r D σ H) : tCasesQ xs ((.ors pss, t) :: r) D σ H := ⟨false, e, if_f rfl h⟩
theorem tbC {i : Nat} {Q : L2.St → Hp → Prop} (h : gName i v σ H fun σ' H' => tBnd ps vs σ' H' Q) : tBnd (.cap i :: ps) (v :: vs) σ H Q := h
theorem tbT {Q : L2.St → Hp → Prop} (h : tBnd ps vs σ H Q) : tBnd (.txt c :: ps) (v :: vs) σ H Q := h
theorem tbA {Q : L2.St → Hp → Prop} (h : tBnd ps vs σ H Q) : tBnd (.any :: ps) (v :: vs) σ H Q := h
theorem tbN {Q : L2.St → Hp → Prop} (h : Q σ H) : tBnd [] [] σ H Q := h
theorem mto {l : List (Option (List Str) × TS)} (h : te σ H fun x H1 => ∃ z : Str, x = .str z ∧ tCasesO z l D σ H1) : tMatchO te l D σ H := h
theorem mtoI {l : List (Option (List Str) × TS)} (q : tCasesO z l D σ H) : ∃ z' : Str, V.str z = .str z' ∧ tCasesO z' l D σ H := ⟨z, rfl, q⟩
theorem moRest {r : List (Option (List Str) × TS)} (h : t D σ H) : tCasesO z ((none, t) :: r) D σ H := h
theorem moEnd (h : D.nx σ H) : tCasesO z [] D σ H := h
theorem moY {cs : List Str} {r : List (Option (List Str) × TS)} (e : z ∈ cs) (h : t D σ H) : tCasesO z ((some cs, t) :: r) D σ H := by
  show (if z ∈ cs then _ else _)
  rw [if_pos e]; exact h
theorem moN {cs : List Str} {r : List (Option (List Str) × TS)} (e : z ∉ cs) (h : tCasesO z r D σ H) : tCasesO z ((some cs, t) :: r) D σ H := by
  show (if z ∈ cs then _ else _)
  rw [if_neg e]; exact h
end Rd
namespace Rd
open PySem PySem.Spec PyProof.Rows L2
theorem inV_strT (x : Str) (r : List Str) : inV (.str x) (r.map V.str) = decide (x ∈ r) := by
  unfold inV
  rw [List.any_map]
  by_cases h : x ∈ r
  · rw [decide_eq_true h, List.any_eq_true]
    exact ⟨x, h, beq_self_eq_true x⟩
  · rw [decide_eq_false h, List.any_eq_false]
    intro y hy e
    have e2 : (y == x) = true := e
    rw [beq_iff_eq] at e2
    exact h (e2 ▸ hy)
theorem flat_strT : ∀ r : List Str, (r.map V.str).all flatV = true
  | [] => rfl
  | _ :: r => flat_strT r
/-- a text in a tuple of texts -/
theorem inStrT {K : PySem.W.Frag} {H : Hp} {Q : VK} {p : Addr} (ns : List Str) {n : Str} (h : SqT K H p (ns.map V.str)) (q : Q (.bl (decide (n ∈ ns))) H) : rIn K false (.str n) (.ref p) H Q :=
  ⟨p, _, rfl, .inr h, rfl, flat_strT _, by rw [inV_strT]; exact q⟩
end Rd
namespace Rd
open PySem PySem.Spec PyProof.Rows L2
variable {σ : L2.St} {H : Hp} {D : Ends} {te : TE} {t : TS} {z c : Str}
/-! match over written texts -/
theorem mch {l : List (Option Str × TS)} (h : te σ H fun x H1 => ∃ z : Str, x = .str z ∧ tCases z l D σ H1) : tMatch te l D σ H := h
theorem mchI {l : List (Option Str × TS)} (q : tCases z l D σ H) : ∃ z' : Str, V.str z = .str z' ∧ tCases z' l D σ H := ⟨z, rfl, q⟩
theorem mchY {r : List (Option Str × TS)} (h : t D σ H) : tCases c ((some c, t) :: r) D σ H := by
  show (if c = c then _ else _)
  rw [if_pos rfl]; exact h
theorem mchN {r : List (Option Str × TS)} (e : z ≠ c) (h : tCases z r D σ H) : tCases z ((some c, t) :: r) D σ H := by
  show (if z = c then _ else _)
  rw [if_neg e]; exact h
theorem mchE (h : z = c → t D σ H) {r : List (Option Str × TS)} (g : z ≠ c → tCases z r D σ H) : tCases z ((some c, t) :: r) D σ H := by
  show (if z = c then _ else _)
  by_cases e : z = c
  · rw [if_pos e]; exact h e
  · rw [if_neg e]; exact g e
theorem mchRest {r : List (Option Str × TS)} (h : t D σ H) : tCases z ((none, t) :: r) D σ H := h
end Rd

set_option Elab.async false
set_option linter.all false
set_option maxRecDepth 100000
/-! calls with keywords: pieces of their values; C(k = v, ..) within a try -/
namespace L2
open PySem PySem.Spec PyProof.Rows
open PySem.W (Looks)
theorem looks_for {α β : Type} {M : Model} {h : Heap} {f : α → β → Sem (ForInStep β)} (I : List α → β → Prop) {last : β} (end_ : ∀ b, I [] b → b = last) (step : ∀ a l b, I (a :: l) b → ∃ b', Looks M h (f a b) (.yield b') ∧ I l b') : ∀ (l : List α) (b : β), I l b → Looks M h (forIn l b f) last
  | [], b, i => by
    rw [List.forIn_nil, end_ b i]
    exact .now
  | a :: l, b, i => by
    obtain ⟨b', h1, h2⟩ := step a l b i
    rw [List.forIn_cons]
    exact h1.andThen (looks_for I end_ step l b' h2)
theorem lookup_some {β : Type} (k : Str) : ∀ (l : List (Str × β)), (l.lookup k).isSome = (l.map (·.1)).contains k
  | [] => rfl
  | (a, v) :: l => by
    rw [List.lookup_cons, List.map_cons, List.contains_cons, ← lookup_some k l]
    cases e : k == a <;> simp
theorem bind_kw {M : Model} {K : PySem.W.Frag} {h : Heap} {x qual : Str} {params : Arguments} {body : List Stmt} {scope : Scope} {D : Addr} {doc pm : Value} {an : Option Addr} {cdv ct : Value} {us : List Value} {kw ms : List (Str × Value)} {r : List (Str × Value)}
    {normal kwonly ks : List Str} (X : K.In h) (h1 : params.posonlyargs = []) (h2 : params.vararg = none) (h3 : params.kwarg = none) (h4 : params.args.map (·.arg) = normal) (h5 : params.kwonlyargs.map (·.arg) = kwonly) (e0 : us.length = normal.length) (e1 : kw.map (·.1) = ks)
    (hk : (ks.all fun k => kwonly.contains k) = true) (hnd : (normal ++ ks).Nodup) (hms : ms.map (·.1) = kwonly.filter fun n => !(normal ++ ks).contains n) (hkd : kwonly.Nodup) (hD : ∀ q ∈ ms, PySem.W.nsIn K D q.1 = some (some q.2))
    (hr : (normal ++ kwonly).filterMap (fun n => ((normal.zip us ++ kw ++ ms).lookup n).map (n, ·)) = r) :
    PySem.W.Looks M h (bindArgs (PySem.W.fnOf x qual params body scope .none (.ref D) doc pm an cdv ct) ⟨us, kw⟩) r := by
  have kz : (normal.zip us).map (·.1) = normal := by
    rw [List.map_fst_zip]
    omega
  unfold bindArgs
  simp only [PySem.W.fnOf, h1, h2, h3, List.map_nil, List.nil_append, Option.isNone_none, Option.isSome_none, h4, h5]
  refine Looks.andThen (a := (normal.zip us ++ kw, [])) (looks_for (fun l b => ∃ d, b = (normal.zip us ++ d, []) ∧ d ++ l = kw) (fun b ⟨d, e, e2⟩ => by rw [e, ← e2, List.append_nil]) (fun a l b ⟨d, e, e2⟩ => ?_) _ _ ⟨[], by rw [List.append_nil], rfl⟩) ?_
  rotate_left
  · subst e
    refine ⟨(normal.zip us ++ (d ++ [a]), []), ?_, d ++ [a], rfl, by rw [← e2, List.append_assoc]; rfl⟩
    have ma : a.1 ∈ ks := by rw [← e1, ← e2]; simp
    have c1 : kwonly.contains a.1 = true := (List.all_eq_true.mp hk) _ ma
    have c2 : ((normal.zip us ++ d).lookup a.1).isSome = false := by
      rw [lookup_some, List.map_append, kz]
      rw [← e1, ← e2, List.map_append, List.map_cons] at hnd
      have := (List.nodup_append.mp hnd)
      cases e : (normal ++ d.map (·.1)).contains a.1 with
      | false => rfl
      | true =>
        exfalso
        rw [List.contains_iff_mem, List.mem_append] at e
        rcases e with e | e
        · exact this.2.2 _ e _ (by simp) rfl
        · exact (List.nodup_append.mp this.2.1).2.2 _ e _ (by simp) rfl
    rw [c1, Bool.or_true, if_pos rfl]
    simp only [c2, Bool.false_eq_true, if_false]
    rw [← List.append_assoc]
    exact .now
  · refine Looks.andThen (a := none) .now ?_
    have g1 : ¬ ((decide (us.length > normal.length) && true) = true) := by rw [e0]; simp
    have g0 : ((none : Option (Array Value)).getD #[]).toList = [] := rfl
    simp only [g0, List.length_nil, List.drop_nil, Nat.sub_zero, List.zip_nil_right, if_neg g1]
    have g2 : (normal.take normal.length).filter (fun n => ((normal.zip us ++ kw).lookup n).isNone) = [] := by
      rw [List.filter_eq_nil_iff]
      intro n hn
      rw [List.take_length] at hn
      have : ((normal.zip us ++ kw).lookup n).isSome = true := by
        rw [lookup_some, List.map_append, kz]
        rw [List.contains_iff_mem]
        exact List.mem_append.mpr (.inl hn)
      rw [Option.isNone_iff_eq_none]
      intro z
      rw [z] at this
      cases this
    rw [g2]
    simp only [List.isEmpty_nil, Bool.not_true, Bool.false_eq_true, if_false]
    rw [List.forIn_nil, pure_bind]
    refine Looks.andThen (a := (normal.zip us ++ kw ++ ms, [])) (looks_for (fun l b => ∃ d k, d ++ l = kwonly ∧ b = (normal.zip us ++ kw ++ ms.take k, []) ∧ (ms.take k).map (·.1) = d.filter (fun n => !(normal ++ ks).contains n) ∧ (ms.drop k).map (·.1) = l.filter (fun n => !(normal ++ ks).contains n))
      (fun b ⟨d, k, e, e2, e3, e4⟩ => ?_) (fun a l b ⟨d, k, e, e2, e3, e4⟩ => ?_) _ _ ⟨[], 0, rfl, by rw [List.take_zero, List.append_nil], rfl, by rw [List.drop_zero]; exact hms⟩) ?_
    rotate_left
    · have : ms.drop k = [] := by
        have := congrArg List.length e4
        rw [List.length_map, List.filter_nil] at this
        exact List.eq_nil_of_length_eq_zero this
      rw [e2, show ms.take k = ms from by
        have h := List.take_append_drop k ms
        rw [this, List.append_nil] at h
        exact h]
    · subst e2
      have md : a ∉ d := fun m => by
        rw [← e] at hkd
        exact (List.nodup_append.mp hkd).2.2 a m a (List.mem_cons_self ..) rfl
      have ek : ((normal.zip us ++ kw ++ ms.take k).lookup a).isSome = (normal ++ ks).contains a := by
        rw [lookup_some, List.map_append, List.map_append, kz, e1, e3]
        rw [Bool.eq_iff_iff, List.contains_iff_mem, List.contains_iff_mem, List.mem_append, List.mem_filter]
        constructor
        · rintro (h | h)
          · exact h
          · exact absurd h.1 md
        · exact fun h => .inl h
      rw [List.filter_cons] at e4
      cases c : (normal ++ ks).contains a with
      | true =>
        rw [c] at ek e4
        refine ⟨_, ?_, d ++ [a], k, by rw [← e, List.append_assoc]; rfl, rfl, by rw [e3, List.filter_append, List.filter_cons, c]; simp, e4⟩
        have e0 : ((normal.zip us ++ kw ++ ms.take k).lookup a).isNone = false := by
          cases z : (normal.zip us ++ kw ++ ms.take k).lookup a with
          | none => rw [z] at ek; cases ek
          | some _ => rfl
        simp only [e0, Bool.false_eq_true, if_false]
        exact .now
      | false =>
        rw [c] at ek e4
        rw [Bool.not_false, if_pos rfl] at e4
        have e0 : ((normal.zip us ++ kw ++ ms.take k).lookup a).isNone = true := by
          cases z : (normal.zip us ++ kw ++ ms.take k).lookup a with
          | none => rfl
          | some _ => rw [z] at ek; cases ek
        obtain ⟨q, hq⟩ : ∃ q, ms[k]? = some q := by
          cases z : ms[k]? with
          | some q => exact ⟨q, rfl⟩
          | none =>
            rw [List.drop_eq_nil_of_le (List.getElem?_eq_none_iff.mp z)] at e4
            cases e4
        have hk' := (List.getElem?_eq_some_iff.mp hq).1
        have hqe := (List.getElem?_eq_some_iff.mp hq).2
        have ed : ms.drop k = q :: ms.drop (k + 1) := by rw [List.drop_eq_getElem_cons hk', hqe]
        have et : ms.take (k + 1) = ms.take k ++ [q] := by rw [List.take_succ, hq]; rfl
        rw [ed, List.map_cons] at e4
        injection e4 with e5 e6
        have hn := hD q (List.mem_of_getElem? hq)
        refine ⟨(normal.zip us ++ kw ++ ms.take (k + 1), []), ?_, d ++ [a], k + 1, by rw [← e, List.append_assoc]; rfl, rfl, by rw [et, List.map_append, e3, List.filter_append, List.filter_cons, c, e5.symm]; simp, e6⟩
        simp only [e0, if_true]
        refine Looks.andThen (PySem.W.looks_nsIn X (e5 ▸ hn)) ?_
        rw [et, ← List.append_assoc, show [q] = [(a, q.2)] from by rw [← e5]]
        exact .now
    · simp only [List.isEmpty_nil, Bool.not_true, Bool.false_eq_true, if_false]
      rw [hr]
      exact .now
/-- a call with keywords of a def without defaults but keyword-only ones -/
theorem kbn_mk {K : PySem.W.Frag} {x qual : Str} {params : Arguments} {body : List Stmt} {scope : Scope} {kws : List (Str × V)} {f : Addr} {fd : FuncData} (F : FunD K x qual params body scope [] kws f fd) (hk : kws ≠ [])
    {normal kwonly ks : List Str} (ms : List (Str × V)) (g : {α : Type} → List α → List α → List α → List α) (hm : ∀ q ∈ ms, q ∈ kws)
    (h1 : params.posonlyargs = []) (h2 : params.vararg = none) (h3 : params.kwarg = none) (h4 : params.args.map (·.arg) = normal) (h5 : params.kwonlyargs.map (·.arg) = kwonly)
    (hks : (ks.all fun k => kwonly.contains k) = true) (hnd : (normal ++ ks).Nodup) (hms : ms.map (·.1) = kwonly.filter fun n => !(normal ++ ks).contains n) (hkd : kwonly.Nodup)
    (hrel : ∀ {vs mz zs : List V} {us mv ws : List Value}, Vals vs us → Vals mz mv → Vals zs ws → Vals (g vs mz zs) (g us mv ws))
    (hr : ∀ us mv ws : List Value, us.length = normal.length → mv.length = ms.length → ws.length = ks.length →
      (normal ++ kwonly).filterMap (fun n => ((normal.zip us ++ ks.zip ws ++ (ms.map (·.1)).zip mv).lookup n).map (n, ·)) = (normal ++ kwonly).zip (g us mv ws)) :
    ∃ mv : List Value, KBn K fd (normal ++ kwonly) normal.length ks (fun us ws => g us mv ws) (fun vs zs => g vs (ms.map (·.2)) zs) := by
  obtain ⟨oc, od, dV, kV, doc, pm, an, cdv, ct, osl, rfl, lk, hcd, hD, hK⟩ := F.ex
  rcases hD with ⟨_, rfl⟩ | ⟨e, _⟩
  · rcases hK with e | ⟨D, rfl, hq⟩
    · exact absurd e hk
    · obtain ⟨mv, hl, rk, hv⟩ := kwd_vals (ms := ms) fun q h => hq q (hm q h)
      refine ⟨mv, ⟨fun s us ws X l1 l2 => BindsTo.of_looks fun M => bind_kw X h1 h2 h3 h4 h5 l1 ?_ hks hnd (ms := (ms.map (·.1)).zip mv) ?_ hkd hv (hr us mv ws l1 hl l2), fun r1 r2 => hrel r1 rk r2⟩⟩
      · rw [List.map_fst_zip]; omega
      · rw [List.map_fst_zip, hms]; rw [List.length_map]; omega
  · exact absurd rfl e
theorem _root_.L2.Vals.tk : ∀ {xs : List V} {us : List Value}, Vals xs us → ∀ (n : Nat), Vals (xs.take n) (us.take n)
  | _, _, .nil, n => by rw [List.take_nil, List.take_nil]; exact .nil
  | _, _, .cons _ _, 0 => .nil
  | _, _, .cons a r, n + 1 => .cons a (Vals.tk r n)
theorem _root_.Paired.tk {xs : List V} {us : List Value} (h : Vals xs us) (n : Nat) : Vals (xs.take n) (us.take n) := Vals.tk h n
section
variable {X : Cx} {CX : CXT} {k n : Nat} {f C : Addr} {fd : FuncData} {ps ks : List Str} {sp : Sp} {E : L2.St → XK} {x : Str} {p pos : Pos} {e : Expr} {es : List Expr} {kws : List Keyword} {t tk : TA} {g : List Value → List Value → List Value} {gV : List V → List V → List V}
theorem run_makeKS {EE : XK} {pins : List (Addr × Obj)} {σ : St} {H : Hp} {s : Shared} {Q : VK} {us ws : List Value} {vs zs : List V} (M : Mk X.K C f) (F : FnOk X.prog X.w X.K X.mg X.base CX k f fd ps sp) (hr : Room (k + 1) X.A) (hb : KBn X.K fd ps (n + 1) ks g gV) (hx : PassesAt CX X σ EE)
    (I : Inv X pins σ H s) (r : Vals vs us) (rz : Vals zs ws) (l1 : vs.length = n) (l2 : zs.length = ks.length)
    (h : ∀ x dx, H x = none → H dx = none → dx ≠ x → sp (gV (.ref x :: vs) zs) (upd (upd H dx (.own x)) x (.ins C dx [])) (fun v H2 => v = .non ∧ Q (.ref x) H2) EE) :
    wpAny (model X.prog X.w) X.A (call (.ref C) us (ks.zip ws)) (EP X pins σ Q) X.xe s := by
  have hq := h (s.heap.objs.size + 1) s.heap.objs.size (I.hok.fresh (Nat.le_succ _)) (I.hok.fresh (Nat.le_refl _)) (Nat.ne_of_lt (Nat.lt_succ_self _))
  have I2 := Inv.made (C := C) I
  have r1 : Vals (V.ref (s.heap.objs.size + 1) :: vs) (Value.ref (s.heap.objs.size + 1) :: us) := .cons rfl r
  have r2 := hb.rel r1 rz
  have n1 : (Value.ref (s.heap.objs.size + 1) :: us).length = n + 1 := by
    rw [List.length_cons, ← r.length, l1]
  refine wpAny_call (make_map (f := f) I.kIn M.makes M.init (beq_iff_eq.mp M.fn) (codeAny_mono (F.run _ X.stack _ _ ⟨Value.ref (s.heap.objs.size + 1) :: us, ks.zip ws⟩ (g (Value.ref (s.heap.objs.size + 1) :: us) ws) _ _ EE (hr.make C us (ks.zip ws))
    (I2.env0.make C us (ks.zip ws)) (hb.to _ (Value.ref (s.heap.objs.size + 1) :: us) ws I2.kIn n1 (rz.length.symm.trans l2)) r2 hq) fun r s' hq' => ?_))
  cases r with
  | error e => exact hx pins _ _ e s' I2 hq'
  | ok fl =>
    cases fl with
    | ret u =>
      obtain ⟨v, H', I3, rv, ev, q3⟩ := I2.after hq'
      subst ev
      exact ⟨rv, ⟨V.ref (s.heap.objs.size + 1), H', I3, rfl, q3⟩⟩
    | next => exact False.elim hq'
    | brk => exact False.elim hq'
    | cont => exact False.elim hq'
def tMakeKS (C : Addr) (m : Nat) (sp : Sp) (gV : List V → List V → List V) (E : L2.St → XK) (tk : TA) : TE := fun σ H Q => tk σ H fun zs H2 => zs.length = m ∧ ∀ x dx, H2 x = none → H2 dx = none → dx ≠ x →
  sp (gV [.ref x] zs) (upd (upd H2 dx (.own x)) x (.ins C dx [])) (fun v H3 => v = .non ∧ Q (.ref x) H3) (E σ)
/-- C(k = v, ..) within a try -/
theorem pe_makeKS (M : Mk X.K C f) (F : FnOk X.prog X.w X.K X.mg X.base CX k f fd ps sp) (hr : Room (k + 1) X.A) (hg : Gl X x) (hm : X.mg x = some (.ref C)) (hb : KBn X.K fd ps 1 ks g gV) (hx : ∀ σ, PassesAt CX X σ (E σ)) (hkw : PK X kws tk)
    (hall : (backToKw pos (keywordEach kws X.env)).all (·.1.isSome) = true := by rfl) (hks : (backToKw pos (keywordEach kws X.env)).filterMap (·.1) = ks := by rfl) (hdb : (x == ("__debug__" : Str)) = false := by decide)
    (hpl : ((backTo pos (starEach [] X.env)).any (·.1) || (backToKw pos (keywordEach kws X.env)).any (·.1.isNone)) = false := by rfl) :
    PE X (.Call (.Name x p) [] kws pos) (tMakeKS C ks.length sp gV E tk) := by
  refine ⟨fun pins s σ H Q I h => ?_⟩
  refine wpAny_Call_Name_kw (ld_glob I hg hm ?_ hdb)
  refine PySem.W.callWith_KW0 (h₀ := X.base) I.ok.mod.kin M.kp hall ?_ hpl
  refine thn (hkw.run pos pins s σ H _ I h) fun ws s2 ⟨zs, H2, I2, rz, l2, q2⟩ => ⟨I2.kIn, ?_⟩
  rw [hks]
  exact run_makeKS (us := []) (vs := []) M F hr hb (hx σ) I2 .nil rz rfl l2 q2
end
end L2
namespace L2
open PySem PySem.Spec PyProof.Rows
/-! o.f = x, o.g = y, ..: many fields set from slots -/
def tFlds (K : PySem.W.Frag) : List (Nat × Str) → TS
  | [] => tNext
  | [p] => sFld K (tVar 0) (tVar p.1) p.2
  | p :: q :: r => tSeq (sFld K (tVar 0) (tVar p.1) p.2) (tFlds K (q :: r))
def valAt (σ : L2.St) (i : Nat) : V := (σ[i]?.join).getD .non
def putAll (σ : L2.St) : List (Nat × Str) → List (Str × V) → List (Str × V)
  | [], fs => fs
  | p :: r, fs => putAll σ r (putF p.2 (valAt σ p.1) fs)
theorem len_putF (f : Str) (v : V) : ∀ fs : List (Str × V), (putF f v fs).length ≤ fs.length + 1
  | [] => Nat.le_refl _
  | (g, x) :: r => by
    show (if g = f then (g, v) :: r else (g, x) :: putF f v r).length ≤ _
    have := len_putF f v r
    split <;> simp only [List.length_cons] <;> omega
theorem flds_ok {K : PySem.W.Frag} {o C dx : Addr} {σ : L2.St} {D : Ends} (cl : Cls K C) (h0 : σ[0]? = some (some (.ref o))) : ∀ (l : List (Nat × Str)) (fs : List (Str × V)) (H : Hp), fs.length + l.length ≤ 900 → l ≠ [] → (∀ p ∈ l, NoAttr K C p.2) → (∀ p ∈ l, ∃ v, σ[p.1]? = some (some v)) → H o = some (.ins C dx fs) →
    (∀ H', H' o = some (.ins C dx (putAll σ l fs)) → (∀ b x, b ≠ o → H b = some x → H' b = some x) → D.nx σ H') → tFlds K l D σ H
  | [], fs, H, hl, hne, hn, hv, ho, q => absurd rfl hne
  | [p], fs, H, hl, hne, hn, hv, ho, q => by
    obtain ⟨v, ev⟩ := hv p (List.mem_cons_self ..)
    refine ⟨v, ev, _, h0, o, C, dx, fs, rfl, ho, cl, hn p (List.mem_cons_self ..), by omega, q _ ?_ fun b x nb e => by rw [upd_ne nb]; exact e⟩
    rw [upd_same]
    show _ = some (HO.ins C dx (putF p.2 (valAt σ p.1) fs))
    unfold valAt
    rw [ev]; rfl
  | p :: p2 :: r, fs, H, hl, hne, hn, hv, ho, q => by
    obtain ⟨v, ev⟩ := hv p (List.mem_cons_self ..)
    have e1 : valAt σ p.1 = v := by unfold valAt; rw [ev]; rfl
    refine ⟨v, ev, _, h0, o, C, dx, fs, rfl, ho, cl, hn p (List.mem_cons_self ..), by omega, ?_⟩
    refine flds_ok cl h0 (p2 :: r) (putF p.2 v fs) _ ?_ (List.cons_ne_nil _ _) (fun x m => hn x (List.mem_cons_of_mem _ m)) (fun x m => hv x (List.mem_cons_of_mem _ m)) upd_same fun H' h1 h2 => ?_
    · have := len_putF p.2 v fs
      simp only [List.length_cons] at hl ⊢
      omega
    · refine q H' ?_ fun b x nb e => h2 b x nb (by rw [upd_ne nb]; exact e)
      show _ = some (HO.ins C dx (putAll σ (p2 :: r) (putF p.2 (valAt σ p.1) fs)))
      rw [e1]; exact h1
end L2
namespace Rd
open PySem PySem.Spec PyProof.Rows L2
variable {σ : L2.St} {H : Hp} {Q : VK} {tk tv : TA} {C : Addr} {n m : Nat} {sp : Sp} {gV : List V → List V → List V} {E : XK} {ES : L2.St → XK}
theorem callS (h : tv σ H fun vs H1 => sp vs H1 Q (ES σ)) : tCallS sp ES tv σ H Q := h
theorem mkS (h : tv σ H fun vs H1 => ∀ x dx, H1 x = none → H1 dx = none → dx ≠ x → sp (.ref x :: vs) (upd (upd H1 dx (.own x)) x (.ins C dx [])) (fun v H2 => v = .non ∧ Q (.ref x) H2) (ES σ)) : tMakeS C sp ES tv σ H Q := h
theorem mkKS (h : tk σ H fun zs H2 => zs.length = m ∧ ∀ x dx, H2 x = none → H2 dx = none → dx ≠ x → sp (gV [.ref x] zs) (upd (upd H2 dx (.own x)) x (.ins C dx [])) (fun v H3 => v = .non ∧ Q (.ref x) H3) (ES σ)) : tMakeKS C m sp gV ES tk σ H Q := h
theorem mkK (h : tv σ H fun vs H1 => tk σ H1 fun zs H2 => vs.length = n ∧ zs.length = m ∧ ∀ x dx, H2 x = none → H2 dx = none → dx ≠ x → sp (gV (.ref x :: vs) zs) (upd (upd H2 dx (.own x)) x (.ins C dx [])) (fun v H3 => v = .non ∧ Q (.ref x) H3) E) : tMakeK C n m sp gV E tv tk σ H Q := h
theorem callN (h : tv σ H fun vs H1 => tk σ H1 fun zs H2 => vs.length = n ∧ zs.length = m ∧ sp (gV vs zs) H2 Q E) : tCallN n m sp gV E tv tk σ H Q := h
end Rd

set_option Elab.async false
set_option linter.all false
namespace L2
open PySem PySem.Spec PyProof.Rows
theorem relabel_look {env : Env} : ∀ {names : List (Str × NameKind)} {x : Str}, (names.lookup x = some .cell ∨ names.lookup x = some .free) →
    ((names.map fun (n, k) => if (k == NameKind.free && env.scope.kind == .function && env.kindOf n == some .cell) then (n, NameKind.cell) else (n, k)).lookup x = some .cell ∨ (names.map fun (n, k) => if (k == NameKind.free && env.scope.kind == .function && env.kindOf n == some .cell) then (n, NameKind.cell) else (n, k)).lookup x = some .free)
  | [], _, h => by simp at h
  | (n, k) :: r, x, h => by
    have ih := @relabel_look env r x
    by_cases c : (k == NameKind.free && env.scope.kind == .function && env.kindOf n == some .cell) = true
    · show List.lookup x ((if (k == NameKind.free && env.scope.kind == .function && env.kindOf n == some .cell) = true then (n, NameKind.cell) else (n, k)) :: _) = _ ∨ List.lookup x ((if (k == NameKind.free && env.scope.kind == .function && env.kindOf n == some .cell) = true then (n, NameKind.cell) else (n, k)) :: _) = _
      rw [if_pos c]
      by_cases e : x = n
      · subst e
        rw [List.lookup_cons_self]
        exact .inl rfl
      · have ne : (x == n) = false := by simp [e]
        rw [List.lookup_cons, ne] at h
        rw [List.lookup_cons, ne]
        exact ih h
    · show List.lookup x ((if (k == NameKind.free && env.scope.kind == .function && env.kindOf n == some .cell) = true then (n, NameKind.cell) else (n, k)) :: _) = _ ∨ List.lookup x ((if (k == NameKind.free && env.scope.kind == .function && env.kindOf n == some .cell) = true then (n, NameKind.cell) else (n, k)) :: _) = _
      rw [if_neg c]
      by_cases e : x = n
      · subst e
        rw [List.lookup_cons_self] at h ⊢
        exact h
      · have ne : (x == n) = false := by simp [e]
        rw [List.lookup_cons, ne] at h
        rw [List.lookup_cons, ne]
        exact ih h
theorem blkOk_rel {N : List Str} {sc scope : Scope} {own : List (Str × Nat)} {env : Env} (h : blkC N sc scope own = true) : BlkOk N (relabel sc env) scope own := by
  obtain ⟨h1, h2, h3, h4, h5⟩ := blkOk_by h
  exact ⟨h1, h2, h3, fun y m e => relabel_look (h4 y m e), h5⟩
end L2

set_option Elab.async false
set_option linter.all false
set_option maxRecDepth 100000
namespace L2
open PySem PySem.Spec PyProof.Rows
/-! set(xs) of a list of ints -/
/-- the set just made -/
abbrev eSet (w : World) : Obj := { cls := .type "set", dict := none, data := .set #[] 0 (.fresh 0 0 (!w.params.followText "set-order")) }
section
variable {P : Program} {w : World} {A : Around} {E : Value → Shared → Prop} {s : Shared}
/-- what the filling says of the heap behind it -/
def Filled (w : World) (s : Shared) (ns : List Int) (h' : Heap) (c : Nat) : Prop :=
  SetR w h' s.heap.objs.size (fun j => decide (j ∈ ns)) c ∧ c ≤ ns.length ∧ ∀ b o, s.heap.get? b = some o → h'.get? b = some o
set_option maxHeartbeats 3200000 in
theorem set_listI {l : Addr} {items : Array Value} (ns : List Int) {Q : Value → Shared → Prop} (hh : A.handled = none) (hl : s.heap.IsList l items) (hit : IntsAre items.toList ns) (hb : ns.length + 1 < scanBound)
    (h : ∀ (h' : Heap) (tk c : Nat), Filled w s ns h' c → Q (.ref s.heap.objs.size) { s with heap := h', toks := tk }) :
    wpAny (model P w) A (call (.type "set") [.ref l]) Q E s := by
  have hlS : l < s.heap.objs.size := by
    obtain ⟨ol, hol, _⟩ := hl
    exact Heap.lt_size hol
  have hisz : items.size = ns.length := by
    have q := IntsAre.length hit
    rwa [Array.length_toList] at q
  obtain ⟨c, tl, hmro⟩ := F.called_set.mro
  have hmade := F.called_set.made
  have hsub := F.called_set.sub
  have h1 := F.called_set.notType
  have h2 := F.called_set.canCreate
  have hct := F.typeCall_set_1 (.ref l)
  refine wpAny_call (codeAny_of_tree ?_)
  show wpAny _ _ (callAny (.type "set") _) _ _ _
  refine wpAny_pure ⟨Code.quiet_builtin _ (by decide +kernel), codeAny_builtin F.entry_type_call ?_⟩
  rw [Around.under_plain (weight_type_call_type "set" [.ref l] []) rfl]
  repeat (any_goals (first | assumption | wp_step))
  refine codeAny_mono (code_set_led1 (.ref l) (E := E) (Q₁ := fun obj s₁ => obj = .ref s.heap.objs.size ∧ s₁ = { s with heap := s.heap.push (eSet w) }) ⟨rfl, rfl⟩) fun r s₁ hr => ?_
  cases r with
  | error e => exact hr
  | ok fl =>
    cases fl with
    | ret obj =>
      obtain ⟨rfl, rfl⟩ := hr
      have hS : (s.heap.push (eSet w)).get? s.heap.objs.size = some (eSet w) := Heap.get?_push_size _ rfl
      have hT : Shared.TypeIs { s with heap := s.heap.push (eSet w) } (.ref s.heap.objs.size) "set" := ⟨_, hS, rfl⟩
      have hli := F.called_set.init.lookup
      have hbi := F.called_set.init.bind (.ref s.heap.objs.size)
      repeat (any_goals (first | assumption | wp_step))
      refine codeAny_mono (codeAny_call_builtin (R := wants (fun r s₂ => r = .none ∧ ∃ h' tk c, s₂ = { s with heap := h', toks := tk } ∧ Filled w s ns h' c) E) F.called_set.init.plain F.entry_set_init (check_set_init_1 hT ?_)) fun r₂ s₂ hr₂ => ?_
      · have hl1 : (s.heap.push (eSet w)).IsList l items := hl.push _
        obtain ⟨⟨ocls, odict, odata, oslots⟩, hol, hcl, nl, hdl⟩ := hl1
        simp only at hcl hdl
        subst hcl; subst hdl
        have hl1 : (s.heap.push (eSet w)).IsList l items := ⟨_, hol, rfl, nl, rfl⟩
        have hsls := F.sub_list_set
        have hslf := F.sub_list_frozenset
        have hne : (Value.type "list" == Value.type "dict") = false := by decide
        unfold Builtin.«set.__init__» noKeywords Builtin.Frozenset.updateFrom
        generalize hPI : pyIter = PI
        wp_walk
        subst hPI
        refine wpAny_pyIter_list hl1 ?_
        refine wpAny_bind (wpAny_runValue ?_)
        have hh3 : A.in1.in1.in1.handled = none := by simp [hh]
        have hneI : l ≠ (s.heap.push (eSet w)).objs.size := by
          rw [Heap.size_push]; exact Nat.ne_of_lt (Nat.lt_succ_of_lt hlS)
        have hSf : s.heap.objs.size ∉ [(s.heap.push (eSet w)).objs.size, l] := by
          rw [Heap.size_push]
          simp only [List.mem_cons, List.not_mem_nil, or_false, not_or]
          exact ⟨Nat.ne_of_lt (Nat.lt_succ_self _), Nat.ne_of_gt hlS⟩
        have hval : ∀ (i : Nat) (v : Value), items[i]? = some v → ∃ k t, ns[i]? = some k ∧ v = .int k t := fun i v hv => by
          have hi : i < ns.length := by rw [← hisz]; exact (Array.getElem?_eq_some_iff.mp hv).1
          obtain ⟨t, e⟩ := PyProof.Rows.IntsAre.int_at hit i v (by rw [Array.getElem?_toList]; exact hv)
          refine ⟨ns[i], t, List.getElem?_eq_getElem hi, ?_⟩
          rw [e, List.getD_eq_getElem?_getD, List.getElem?_eq_getElem hi] <;> rfl
        refine set_update_ints ((Walks.list hh3 _ l hneI items).toS) s.heap.objs.size hSf ns hisz hb hval (items.size - 0) 0 _ (by omega) (Nat.zero_le _)
          ⟨⟨_, Heap.get?_push_size _ rfl, rfl, rfl⟩, (hl1.push _)⟩ ⟨0, Nat.le_refl 0, setR_new_at (Heap.get?_push_of_some _ hS)⟩ ?_
        rintro ⟨h', g2, d', tk', os'⟩ c' hm hc' hS'
        have eg : g2 = s.gens := hm.gens
        have ed : d' = s.drawn := hm.drawn
        have eo : os' = s.os := hm.os
        subst eg; subst ed; subst eo
        show wpAny _ _ _ _ _ _
        refine wpAny_pure ?_
        show wpAny _ _ (ret Value.none) _ _ _
        refine wpAny_pure ⟨rfl, h', tk', c', rfl, hS', by omega, fun b o e => ?_⟩
        have hb0 : b < s.heap.objs.size := Heap.lt_size e
        refine hm.heap b o ?_ (Heap.get?_push_of_some _ (Heap.get?_push_of_some _ e))
        rw [Heap.size_push]
        simp only [List.mem_cons, List.not_mem_nil, or_false, not_or]
        exact ⟨Nat.ne_of_lt hb0, Nat.ne_of_lt (Nat.lt_succ_of_lt hb0)⟩
      · cases r₂ with
        | error e => exact hr₂
        | ok fl₂ =>
          cases fl₂ with
          | ret r =>
            obtain ⟨rfl, h', tk, c', rfl, hf⟩ := hr₂
            repeat (any_goals (first | assumption | wp_step))
            exact h _ _ _ hf
          | _ => exact hr₂.elim
    | _ => exact hr.elim
end
section
variable {X : Cx}
/-- set(xs) of a list of ints: its members, and at most as many as there are rows -/
def rSetI (K : PySem.W.Frag) (w : World) : List V → Hp → VK → Prop := fun xs H Q => ∃ (l : Addr) (ns : List Int), xs = [V.ref l] ∧ SqL K H l (ns.map V.int) ∧ ns.length + 1 < scanBound ∧
  ∀ (p : Addr) (c : Nat), c ≤ ns.length → (∃ ks : List Int, ks.Nodup ∧ (∀ k ∈ ks, k ∈ ns) ∧ ks.length = c) → H p = none → Q (.ref p) (upd H p (SetO w p (fun j => decide (j ∈ ns)) c))
theorem cr_setI (hc : X.calm = true) : CallR X (.type "set") (rSetI X.K X.w) := by
  intro pins s σ H xs us Q I r h
  obtain ⟨l, ns, rfl, hl, hb, q⟩ := h
  rw [Vals.ref1 r]
  obtain ⟨its, rv, pl, hz⟩ := I.list hl
  have hn : H s.heap.objs.size = none := I.hok.fresh (Nat.le_refl _)
  refine set_listI ns (I.ok.hd hc) pl.isList (by simpa using ints_of_vals rv) hb fun h' tk c hf => ?_
  exact ⟨.ref s.heap.objs.size, upd H s.heap.objs.size (SetO X.w s.heap.objs.size (fun j => decide (j ∈ ns)) c), I.laid (t' := tk) hf.2.2 (Nat.le_refl _) (setO_new hf.1), rfl, q _ c hf.2.1 (by
    obtain ⟨o, es, ep, t, ho, he, hd, hg, nd, mem, hs, hft, hn, _⟩ := hf.1
    exact ⟨_, nd, fun k m => of_decide_eq_true ((mem k).mpr m), by rw [List.length_map, Array.length_toList]; exact hn⟩) hn⟩
end
end L2

set_option Elab.async false
set_option linter.all false
set_option maxRecDepth 100000
set_option maxHeartbeats 1000000


namespace Mine
open PySem PySem.Spec PyProof.Rows L2
local macro_rules | `(tactic| walk_at "my gdN") => `(tactic| with_reducible refine Rd.n27 ?_)
local macro_rules | `(tactic| walk_at "my gdN") => `(tactic| with_reducible refine Rd.n26 ?_)
local macro_rules | `(tactic| walk_at "my gdN") => `(tactic| with_reducible refine Rd.n25 ?_)
local macro_rules | `(tactic| walk_at "my gdN") => `(tactic| with_reducible refine Rd.n24 ?_)
local macro_rules | `(tactic| walk_at "my gdN") => `(tactic| with_reducible refine Rd.n23 ?_)
local macro_rules | `(tactic| walk_at "my gdN") => `(tactic| with_reducible refine Rd.n22 ?_)
local macro_rules | `(tactic| walk_at "my gdN") => `(tactic| with_reducible refine Rd.n21 ?_)
local macro_rules | `(tactic| walk_at "my gdN") => `(tactic| with_reducible refine Rd.n20 ?_)
local macro_rules | `(tactic| walk_at "my gdN") => `(tactic| with_reducible refine Rd.n19 ?_)
local macro_rules | `(tactic| walk_at "my gdN") => `(tactic| with_reducible refine Rd.n18 ?_)
local macro_rules | `(tactic| walk_at "my gdN") => `(tactic| with_reducible refine Rd.n17 ?_)
local macro_rules | `(tactic| walk_at "my gdN") => `(tactic| with_reducible refine Rd.n16 ?_)
local macro_rules | `(tactic| walk_at "my gdN") => `(tactic| with_reducible refine Rd.n15 ?_)
local macro_rules | `(tactic| walk_at "my gdN") => `(tactic| with_reducible refine Rd.n14 ?_)
local macro_rules | `(tactic| walk_at "my gdN") => `(tactic| with_reducible refine Rd.n13 ?_)
local macro_rules | `(tactic| walk_at "my gdN") => `(tactic| with_reducible refine Rd.n12 ?_)
local macro_rules | `(tactic| walk_at "my gdN") => `(tactic| with_reducible refine Rd.n11 ?_)
local macro_rules | `(tactic| walk_at "my gdN") => `(tactic| with_reducible refine Rd.n10 ?_)
local macro_rules | `(tactic| walk_at "my gdN") => `(tactic| with_reducible refine Rd.n9 ?_)
local macro_rules | `(tactic| walk_at "my gdN") => `(tactic| with_reducible refine Rd.n8 ?_)
local macro_rules | `(tactic| walk_at "my gdN") => `(tactic| with_reducible refine Rd.n7 ?_)
local macro_rules | `(tactic| walk_at "my gdN") => `(tactic| with_reducible refine Rd.n6 ?_)
local macro_rules | `(tactic| walk_at "my gdN") => `(tactic| with_reducible refine Rd.n5 ?_)
local macro_rules | `(tactic| walk_at "my gdN") => `(tactic| with_reducible refine Rd.n4 ?_)
local macro_rules | `(tactic| walk_at "my gdN") => `(tactic| with_reducible refine Rd.n3 ?_)
local macro_rules | `(tactic| walk_at "my gdN") => `(tactic| with_reducible refine Rd.n2 ?_)
local macro_rules | `(tactic| walk_at "my gdN") => `(tactic| with_reducible refine Rd.n1 ?_)
local macro_rules | `(tactic| walk_at "my gdN") => `(tactic| with_reducible refine Rd.n0 ?_)
local macro_rules | `(tactic| walk_at "my gdI") => `(tactic| ((with_reducible refine Rd.isi_td (by assumption) ?_)))
local macro_rules | `(tactic| walk_at "my gdI") => `(tactic| ((with_reducible refine Rd.isi_tt (by assumption) ?_)))
local macro_rules | `(tactic| walk_at "my gdI") => `(tactic| ((with_reducible refine Rd.isi_tl (by assumption) ?_)))
local macro_rules | `(tactic| walk_at "my gdI") => `(tactic| ((with_reducible refine Rd.isi_ts (by assumption) ?_)))
local macro_rules | `(tactic| walk_at "my gdI") => `(tactic| ((with_reducible refine Rd.isi_tb (by assumption) ?_)))
local macro_rules | `(tactic| walk_at "my gdI") => `(tactic| ((with_reducible refine Rd.isi_ti (by assumption) ?_)))
local macro_rules | `(tactic| walk_at "my gdI") => `(tactic| ((with_reducible refine Rd.isi_ld (by assumption) ?_)))
local macro_rules | `(tactic| walk_at "my gdI") => `(tactic| ((with_reducible refine Rd.isi_lt (by assumption) ?_)))
local macro_rules | `(tactic| walk_at "my gdI") => `(tactic| ((with_reducible refine Rd.isi_ll (by assumption) ?_)))
local macro_rules | `(tactic| walk_at "my gdI") => `(tactic| ((with_reducible refine Rd.isi_ls (by assumption) ?_)))
local macro_rules | `(tactic| walk_at "my gdI") => `(tactic| ((with_reducible refine Rd.isi_lb (by assumption) ?_)))
local macro_rules | `(tactic| walk_at "my gdI") => `(tactic| ((with_reducible refine Rd.isi_li (by assumption) ?_)))
local macro_rules | `(tactic| walk_at "my gdI") => `(tactic| ((with_reducible refine Rd.isi_dd (by assumption) ?_)))
local macro_rules | `(tactic| walk_at "my gdI") => `(tactic| with_reducible refine Rd.isi_nd ?_)
local macro_rules | `(tactic| walk_at "my gdI") => `(tactic| with_reducible refine Rd.isi_nt ?_)
local macro_rules | `(tactic| walk_at "my gdI") => `(tactic| with_reducible refine Rd.isi_nl ?_)
local macro_rules | `(tactic| walk_at "my gdI") => `(tactic| with_reducible refine Rd.isi_ns ?_)
local macro_rules | `(tactic| walk_at "my gdI") => `(tactic| with_reducible refine Rd.isi_nb ?_)
local macro_rules | `(tactic| walk_at "my gdI") => `(tactic| with_reducible refine Rd.isi_ni ?_)
local macro_rules | `(tactic| walk_at "my gdI") => `(tactic| with_reducible refine Rd.isi_sd ?_)
local macro_rules | `(tactic| walk_at "my gdI") => `(tactic| with_reducible refine Rd.isi_st ?_)
local macro_rules | `(tactic| walk_at "my gdI") => `(tactic| with_reducible refine Rd.isi_sl ?_)
local macro_rules | `(tactic| walk_at "my gdI") => `(tactic| with_reducible refine Rd.isi_ss ?_)
local macro_rules | `(tactic| walk_at "my gdI") => `(tactic| with_reducible refine Rd.isi_sb ?_)
local macro_rules | `(tactic| walk_at "my gdI") => `(tactic| with_reducible refine Rd.isi_si ?_)
local macro_rules | `(tactic| walk_at "my gdI") => `(tactic| with_reducible refine Rd.isi_bd ?_)
local macro_rules | `(tactic| walk_at "my gdI") => `(tactic| with_reducible refine Rd.isi_bt ?_)
local macro_rules | `(tactic| walk_at "my gdI") => `(tactic| with_reducible refine Rd.isi_bl ?_)
local macro_rules | `(tactic| walk_at "my gdI") => `(tactic| with_reducible refine Rd.isi_bs ?_)
local macro_rules | `(tactic| walk_at "my gdI") => `(tactic| with_reducible refine Rd.isi_bb ?_)
local macro_rules | `(tactic| walk_at "my gdI") => `(tactic| with_reducible refine Rd.isi_bi ?_)
local macro_rules | `(tactic| walk_at "my gdI") => `(tactic| with_reducible refine Rd.isi_id ?_)
local macro_rules | `(tactic| walk_at "my gdI") => `(tactic| with_reducible refine Rd.isi_it ?_)
local macro_rules | `(tactic| walk_at "my gdI") => `(tactic| with_reducible refine Rd.isi_il ?_)
local macro_rules | `(tactic| walk_at "my gdI") => `(tactic| with_reducible refine Rd.isi_is ?_)
local macro_rules | `(tactic| walk_at "my gdI") => `(tactic| with_reducible refine Rd.isi_ib ?_)
local macro_rules | `(tactic| walk_at "my gdI") => `(tactic| with_reducible refine Rd.isi_ii ?_)
local macro_rules | `(tactic| walk_at "my gdG") => `(tactic| with_reducible refine Rd.g27 ?_)
local macro_rules | `(tactic| walk_at "my gdG") => `(tactic| with_reducible refine Rd.g26 ?_)
local macro_rules | `(tactic| walk_at "my gdG") => `(tactic| with_reducible refine Rd.g25 ?_)
local macro_rules | `(tactic| walk_at "my gdG") => `(tactic| with_reducible refine Rd.g24 ?_)
local macro_rules | `(tactic| walk_at "my gdG") => `(tactic| with_reducible refine Rd.g23 ?_)
local macro_rules | `(tactic| walk_at "my gdG") => `(tactic| with_reducible refine Rd.g22 ?_)
local macro_rules | `(tactic| walk_at "my gdG") => `(tactic| with_reducible refine Rd.g21 ?_)
local macro_rules | `(tactic| walk_at "my gdG") => `(tactic| with_reducible refine Rd.g20 ?_)
local macro_rules | `(tactic| walk_at "my gdG") => `(tactic| with_reducible refine Rd.g19 ?_)
local macro_rules | `(tactic| walk_at "my gdG") => `(tactic| with_reducible refine Rd.g18 ?_)
local macro_rules | `(tactic| walk_at "my gdG") => `(tactic| with_reducible refine Rd.g17 ?_)
local macro_rules | `(tactic| walk_at "my gdG") => `(tactic| with_reducible refine Rd.g16 ?_)
local macro_rules | `(tactic| walk_at "my gdG") => `(tactic| with_reducible refine Rd.g15 ?_)
local macro_rules | `(tactic| walk_at "my gdG") => `(tactic| with_reducible refine Rd.g14 ?_)
local macro_rules | `(tactic| walk_at "my gdG") => `(tactic| with_reducible refine Rd.g13 ?_)
local macro_rules | `(tactic| walk_at "my gdG") => `(tactic| with_reducible refine Rd.g12 ?_)
local macro_rules | `(tactic| walk_at "my gdG") => `(tactic| with_reducible refine Rd.g11 ?_)
local macro_rules | `(tactic| walk_at "my gdG") => `(tactic| with_reducible refine Rd.g10 ?_)
local macro_rules | `(tactic| walk_at "my gdG") => `(tactic| with_reducible refine Rd.g9 ?_)
local macro_rules | `(tactic| walk_at "my gdG") => `(tactic| with_reducible refine Rd.g8 ?_)
local macro_rules | `(tactic| walk_at "my gdG") => `(tactic| with_reducible refine Rd.g7 ?_)
local macro_rules | `(tactic| walk_at "my gdG") => `(tactic| with_reducible refine Rd.g6 ?_)
local macro_rules | `(tactic| walk_at "my gdG") => `(tactic| with_reducible refine Rd.g5 ?_)
local macro_rules | `(tactic| walk_at "my gdG") => `(tactic| with_reducible refine Rd.g4 ?_)
local macro_rules | `(tactic| walk_at "my gdG") => `(tactic| with_reducible refine Rd.g3 ?_)
local macro_rules | `(tactic| walk_at "my gdG") => `(tactic| with_reducible refine Rd.g2 ?_)
local macro_rules | `(tactic| walk_at "my gdG") => `(tactic| with_reducible refine Rd.g1 ?_)
local macro_rules | `(tactic| walk_at "my gdG") => `(tactic| with_reducible refine Rd.g0 ?_)
local macro_rules | `(tactic| walk_at "my rn1") => `(tactic| ((with_reducible refine Rd.gdG ?_); walk_at "my gdG"))
local macro_rules | `(tactic| walk_at "my rn1") => `(tactic| ((with_reducible refine Rd.gdI ?_); walk_at "my gdI"))
local macro_rules | `(tactic| walk_at "my rn1") => `(tactic| ((with_reducible apply Rd.srtIo); assumption))
local macro_rules | `(tactic| walk_at "my rn1") => `(tactic| ((with_reducible apply Rd.srtI); assumption))
local macro_rules | `(tactic| walk_at "my rn1") => `(tactic| ((with_reducible apply Rd.slq); assumption))
local macro_rules | `(tactic| walk_at "my rn1") => `(tactic| ((with_reducible apply Rd.slo); assumption))
local macro_rules | `(tactic| walk_at "my rn1") => `(tactic| ((with_reducible apply Rd.listOfq); assumption))
local macro_rules | `(tactic| walk_at "my rn1") => `(tactic| ((with_reducible apply Rd.listOf); assumption))
local macro_rules | `(tactic| walk_at "my rn1") => `(tactic| ((with_reducible apply Rd.ikA); first | assumption | exact upd_same))
local macro_rules | `(tactic| walk_at "my rn1") => `(tactic| ((with_reducible apply Rd.itA); first | assumption | exact upd_same))
local macro_rules | `(tactic| walk_at "my rn1") => `(tactic| ((with_reducible apply Rd.dictOf); assumption))
local macro_rules | `(tactic| walk_at "my rn1") => `(tactic| ((with_reducible apply Rd.isd); assumption))
local macro_rules | `(tactic| walk_at "my rn1") => `(tactic| ((with_reducible refine Rd.nwL ?_ ?_); exact Nat.le_of_ble_eq_true rfl))
local macro_rules | `(tactic| walk_at "my rn1") => `(tactic| ((with_reducible refine Rd.nwT ?_ ?_); exact Nat.le_of_ble_eq_true rfl))
local macro_rules | `(tactic| walk_at "my rn1") => `(tactic| ((with_reducible apply Rd.lenT); first | assumption | exact upd_same))
local macro_rules | `(tactic| walk_at "my rn1") => `(tactic| ((with_reducible apply Rd.lenL); first | assumption | exact upd_same))
local macro_rules | `(tactic| walk_at "my rn1") => `(tactic| ((with_reducible apply Rd.enA); first | assumption | exact upd_same))
local macro_rules | `(tactic| walk_at "my rn1") => `(tactic| ((with_reducible apply Rd.stA); first | assumption | exact upd_same))
local macro_rules | `(tactic| walk_at "my rn1") => `(tactic| ((with_reducible apply Rd.sqA); first | assumption | exact upd_same))
local macro_rules | `(tactic| walk_at "my rn1") => `(tactic| ((with_reducible apply Rd.lenTq); assumption))
local macro_rules | `(tactic| walk_at "my rn1") => `(tactic| ((with_reducible apply Rd.lenLq); assumption))
local macro_rules | `(tactic| walk_at "my rn1") => `(tactic| ((with_reducible apply Rd.enAq); assumption))
local macro_rules | `(tactic| walk_at "my rn1") => `(tactic| ((with_reducible apply Rd.stAq); assumption))
local macro_rules | `(tactic| walk_at "my rn1") => `(tactic| ((with_reducible apply Rd.sqAq); assumption))
local macro_rules | `(tactic| walk_at "my rn1") => `(tactic| ((with_reducible apply Rd.gtupq); assumption; exact rfl))
local macro_rules | `(tactic| walk_at "my rn1") => `(tactic| ((with_reducible apply Rd.gtup); (first | assumption | exact upd_same); exact rfl))
local macro_rules | `(tactic| walk_at "my rn1") => `(tactic| ((with_reducible apply Rd.ixTq); assumption; exact rfl))
local macro_rules | `(tactic| walk_at "my rn1") => `(tactic| ((with_reducible apply Rd.ixLq); assumption; exact rfl))
local macro_rules | `(tactic| walk_at "my rn1") => `(tactic| ((with_reducible apply Rd.ixT); (first | assumption | exact upd_same); exact rfl))
local macro_rules | `(tactic| walk_at "my rn1") => `(tactic| ((with_reducible apply Rd.ixL); (first | assumption | exact upd_same); exact rfl))
local macro_rules | `(tactic| walk_at "my rn1") => `(tactic| ((with_reducible apply Rd.tyLq); assumption))
local macro_rules | `(tactic| walk_at "my rn1") => `(tactic| ((with_reducible apply Rd.tyL); first | assumption | exact upd_same))
local macro_rules | `(tactic| walk_at "my rn1") => `(tactic| ((with_reducible refine Rd.I ?_ ?_); first | assumption | decide | exact Or.inr (by decide +kernel) | exact Or.inl (by decide +kernel) | exact ⟨by decide, by decide⟩ | exact ⟨by decide, by decide, by decide⟩ | omega | exact ⟨by omega, by omega⟩))
local macro_rules | `(tactic| walk_at "my rn1") => `(tactic| ((with_reducible refine Rd.szA ?_ ?_); exact Nat.le_of_ble_eq_true rfl))
local macro_rules | `(tactic| walk_at "my rn1") => `(tactic| ((with_reducible refine Rd.ne ?_ ?_); exact rfl))
local macro_rules | `(tactic| walk_at "my rn1") => `(tactic| ((with_reducible refine Rd.eq ?_ ?_); exact rfl))
local macro_rules | `(tactic| walk_at "my rn1") => `(tactic| ((with_reducible refine Rd.mtON ?_ ?_); exact rfl))
local macro_rules | `(tactic| walk_at "my rn1") => `(tactic| ((with_reducible refine Rd.mtOY ?_ ?_); exact rfl))
local macro_rules | `(tactic| walk_at "my rn1") => `(tactic| ((with_reducible refine Rd.mtNo ?_ ?_); (first | assumption | decide +kernel)))
local macro_rules | `(tactic| walk_at "my rn1") => `(tactic| ((with_reducible refine Rd.mtYes ?_ ?_); exact rfl))
local macro_rules | `(tactic| walk_at "my rn1") => `(tactic| ((with_reducible refine Rd.mtLen ?_ ?_); exact rfl))
local macro_rules | `(tactic| walk_at "my rn1") => `(tactic| ((with_reducible apply Rd.mtqI); (first | assumption | exact SqT.of upd_same | exact SqT.of (by assumption)); exact Nat.le_of_ble_eq_true rfl))
local macro_rules | `(tactic| walk_at "my rn1") => `(tactic| with_reducible refine Rd.moEnd ?_)
local macro_rules | `(tactic| walk_at "my rn1") => `(tactic| with_reducible refine Rd.moRest ?_)
local macro_rules | `(tactic| walk_at "my rn1") => `(tactic| with_reducible refine Rd.mtoI ?_)
local macro_rules | `(tactic| walk_at "my rn1") => `(tactic| with_reducible refine Rd.mto ?_)
local macro_rules | `(tactic| walk_at "my rn1") => `(tactic| with_reducible refine Rd.tbN ?_)
local macro_rules | `(tactic| walk_at "my rn1") => `(tactic| with_reducible refine Rd.tbA ?_)
local macro_rules | `(tactic| walk_at "my rn1") => `(tactic| with_reducible refine Rd.tbT ?_)
local macro_rules | `(tactic| walk_at "my rn1") => `(tactic| with_reducible refine Rd.tbC ?_)
local macro_rules | `(tactic| walk_at "my rn1") => `(tactic| with_reducible refine Rd.mtEnd ?_)
local macro_rules | `(tactic| walk_at "my rn1") => `(tactic| with_reducible refine Rd.mtRest ?_)
local macro_rules | `(tactic| walk_at "my rn1") => `(tactic| with_reducible refine Rd.mtq ?_)
local macro_rules | `(tactic| walk_at "my rn1") => `(tactic| with_reducible refine Rd.mchRest ?_)
local macro_rules | `(tactic| walk_at "my rn1") => `(tactic| with_reducible refine Rd.mchI ?_)
local macro_rules | `(tactic| walk_at "my rn1") => `(tactic| with_reducible refine Rd.mch ?_)
local macro_rules | `(tactic| walk_at "my rn1") => `(tactic| ((with_reducible refine Rd.izI (by assumption) (by assumption) ?_)))
local macro_rules | `(tactic| walk_at "my rn1") => `(tactic| ((with_reducible apply Rd.sumL); assumption))
local macro_rules | `(tactic| walk_at "my rn1") => `(tactic| ((with_reducible apply Rd.anyL); assumption))
local macro_rules | `(tactic| walk_at "my rn1") => `(tactic| ((with_reducible apply Rd.maxL); assumption))
local macro_rules | `(tactic| walk_at "my rn1") => `(tactic| ((with_reducible apply Rd.sfldI); (first | assumption | exact upd_same); assumption; assumption; exact Nat.le_of_ble_eq_true rfl))
local macro_rules | `(tactic| walk_at "my rn1") => `(tactic| ((with_reducible apply Rd.methI); (first | assumption | exact upd_same); (first | assumption | with_unfolding_all rfl)))
local macro_rules | `(tactic| walk_at "my rn1") => `(tactic| ((with_reducible apply Rd.fldI); (first | assumption | exact upd_same); assumption; assumption; (first | assumption | with_unfolding_all rfl)))
local macro_rules | `(tactic| walk_at "my rn1") => `(tactic| ((with_reducible apply Rd.revq); first | assumption | exact SqL.of (by assumption)))
local macro_rules | `(tactic| walk_at "my rn1") => `(tactic| ((with_reducible apply Rd.gtP); assumption; assumption))
local macro_rules | `(tactic| walk_at "my rn1") => `(tactic| ((with_reducible apply Rd.glst); (first | assumption | exact upd_same); exact rfl))
local macro_rules | `(tactic| walk_at "my rn1") => `(tactic| with_reducible refine Rd.sl ?_)
local macro_rules | `(tactic| walk_at "my rn1") => `(tactic| with_reducible refine Rd.ifnF ?_)
local macro_rules | `(tactic| walk_at "my rn1") => `(tactic| with_reducible refine Rd.ifnT ?_)
local macro_rules | `(tactic| walk_at "my rn1") => `(tactic| with_reducible refine Rd.ifF ?_)
local macro_rules | `(tactic| walk_at "my rn1") => `(tactic| with_reducible refine Rd.ifT ?_)
local macro_rules | `(tactic| walk_at "my rn1") => `(tactic| with_reducible refine Rd.yes ?_)
local macro_rules | `(tactic| walk_at "my rn1") => `(tactic| with_reducible refine Rd.strA ?_)
local macro_rules | `(tactic| walk_at "my rn1") => `(tactic| with_reducible refine Rd.refA ?_)
local macro_rules | `(tactic| walk_at "my rn1") => `(tactic| with_reducible refine Rd.istr ?_)
local macro_rules | `(tactic| walk_at "my rn1") => `(tactic| with_reducible refine Rd.ienum ?_)
local macro_rules | `(tactic| walk_at "my rn1") => `(tactic| with_reducible refine Rd.irng2 ?_)
local macro_rules | `(tactic| walk_at "my rn1") => `(tactic| with_reducible refine Rd.irng1 ?_)
local macro_rules | `(tactic| walk_at "my rn1") => `(tactic| with_reducible refine Rd.itup ?_)
local macro_rules | `(tactic| walk_at "my rn1") => `(tactic| with_reducible refine Rd.ilist ?_)
local macro_rules | `(tactic| walk_at "my rn1") => `(tactic| with_reducible refine Rd.for_ ?_)
local macro_rules | `(tactic| walk_at "my rn1") => `(tactic| with_reducible refine Rd.lc ?_)
local macro_rules | `(tactic| walk_at "my rn1") => `(tactic| with_reducible refine Rd.intI ?_)
local macro_rules | `(tactic| walk_at "my rn1") => `(tactic| with_reducible refine Rd.tyS ?_)
local macro_rules | `(tactic| walk_at "my rn1") => `(tactic| with_reducible refine Rd.rf ?_)
local macro_rules | `(tactic| walk_at "my rn1") => `(tactic| with_reducible refine Rd.chain ?_)
local macro_rules | `(tactic| walk_at "my rn1") => `(tactic| with_reducible refine Rd.isN ?_)
local macro_rules | `(tactic| walk_at "my rn1") => `(tactic| with_reducible refine Rd.sub ?_)
local macro_rules | `(tactic| walk_at "my rn1") => `(tactic| with_reducible refine Rd.gnil ?_)
local macro_rules | `(tactic| walk_at "my rn1") => `(tactic| with_reducible refine Rd.gcons ?_)
local macro_rules | `(tactic| walk_at "my rn1") => `(tactic| with_reducible refine Rd.ints2 ?_)
local macro_rules | `(tactic| walk_at "my rn1") => `(tactic| with_reducible refine Rd.ints1 ?_)
local macro_rules | `(tactic| walk_at "my rn1") => `(tactic| with_reducible refine Rd.int1 ?_)
local macro_rules | `(tactic| walk_at "my rn1") => `(tactic| with_reducible refine Rd.part ?_)
local macro_rules | `(tactic| walk_at "my rn1") => `(tactic| with_reducible refine Rd.nopart ?_)
local macro_rules | `(tactic| walk_at "my rn1") => `(tactic| with_reducible refine Rd.bm0 ?_)
local macro_rules | `(tactic| walk_at "my rn1") => `(tactic| with_reducible refine Rd.bm ?_)
local macro_rules | `(tactic| walk_at "my rn1") => `(tactic| with_reducible refine Rd.cb ?_)
local macro_rules | `(tactic| walk_at "my rn1") => `(tactic| with_reducible refine Rd.call ?_)
local macro_rules | `(tactic| walk_at "my rn1") => `(tactic| with_reducible refine Rd.ip ?_)
local macro_rules | `(tactic| walk_at "my rn1") => `(tactic| with_reducible refine Rd.U ?_)
local macro_rules | `(tactic| walk_at "my rn1") => `(tactic| with_reducible refine Rd.un ?_)
local macro_rules | `(tactic| walk_at "my rn1") => `(tactic| with_reducible refine Rd.notV ?_)
local macro_rules | `(tactic| walk_at "my rn1") => `(tactic| with_reducible refine Rd.orV ?_)
local macro_rules | `(tactic| walk_at "my rn1") => `(tactic| with_reducible refine Rd.andV ?_)
local macro_rules | `(tactic| walk_at "my rn1") => `(tactic| with_reducible refine Rd.ife ?_)
local macro_rules | `(tactic| walk_at "my rn1") => `(tactic| with_reducible refine Rd.retN ?_)
local macro_rules | `(tactic| walk_at "my rn1") => `(tactic| with_reducible refine Rd.cont ?_)
local macro_rules | `(tactic| walk_at "my rn1") => `(tactic| with_reducible refine Rd.brk ?_)
local macro_rules | `(tactic| walk_at "my rn1") => `(tactic| with_reducible refine Rd.cbSrtI ?_)
local macro_rules | `(tactic| walk_at "my rn1") => `(tactic| with_reducible refine Rd.slN ?_)
local macro_rules | `(tactic| walk_at "my rn1") => `(tactic| with_reducible refine Rd.catI ?_)
local macro_rules | `(tactic| walk_at "my rn1") => `(tactic| with_reducible refine Rd.cbListOfR ?_)
local macro_rules | `(tactic| walk_at "my rn1") => `(tactic| with_reducible refine Rd.cbListOf ?_)
local macro_rules | `(tactic| walk_at "my rn1") => `(tactic| with_reducible refine Rd.lstN ?_)
local macro_rules | `(tactic| walk_at "my rn1") => `(tactic| with_reducible refine Rd.tupN ?_)
local macro_rules | `(tactic| walk_at "my rn1") => `(tactic| with_reducible refine Rd.nwD ?_)
local macro_rules | `(tactic| walk_at "my rn1") => `(tactic| with_reducible refine Rd.dc ?_)
local macro_rules | `(tactic| walk_at "my rn1") => `(tactic| with_reducible refine Rd.ikeys ?_)
local macro_rules | `(tactic| walk_at "my rn1") => `(tactic| with_reducible refine Rd.iitems ?_)
local macro_rules | `(tactic| walk_at "my rn1") => `(tactic| with_reducible refine Rd.cbDictOf ?_)
local macro_rules | `(tactic| walk_at "my rn1") => `(tactic| with_reducible refine Rd.dput ?_)
local macro_rules | `(tactic| walk_at "my rn1") => `(tactic| with_reducible refine Rd.dget2 ?_)
local macro_rules | `(tactic| walk_at "my rn1") => `(tactic| with_reducible refine Rd.dget ?_)
local macro_rules | `(tactic| walk_at "my rn1") => `(tactic| with_reducible refine Rd.dnot ?_)
local macro_rules | `(tactic| walk_at "my rn1") => `(tactic| with_reducible refine Rd.din ?_)
local macro_rules | `(tactic| walk_at "my rn1") => `(tactic| with_reducible refine Rd.dnew ?_)
local macro_rules | `(tactic| walk_at "my rn1") => `(tactic| with_reducible refine Rd.dsp ?_)
local macro_rules | `(tactic| walk_at "my rn1") => `(tactic| with_reducible refine Rd.pnil ?_)
local macro_rules | `(tactic| walk_at "my rn1") => `(tactic| with_reducible refine Rd.pcons ?_)
local macro_rules | `(tactic| walk_at "my rn1") => `(tactic| with_reducible refine Rd.disp ?_)
local macro_rules | `(tactic| walk_at "my rn1") => `(tactic| with_reducible refine Rd.izip ?_)
local macro_rules | `(tactic| walk_at "my rn1") => `(tactic| with_reducible refine Rd.make ?_)
local macro_rules | `(tactic| walk_at "my rn1") => `(tactic| with_reducible refine Rd.meth ?_)
local macro_rules | `(tactic| walk_at "my rn1") => `(tactic| with_reducible refine Rd.sfld ?_)
local macro_rules | `(tactic| walk_at "my rn1") => `(tactic| with_reducible refine Rd.fld ?_)
local macro_rules | `(tactic| walk_at "my rn1") => `(tactic| with_reducible refine Rd.lzip ?_)
local macro_rules | `(tactic| walk_at "my rn1") => `(tactic| with_reducible refine Rd.revN ?_)
local macro_rules | `(tactic| walk_at "my rn1") => `(tactic| with_reducible refine Rd.catQI ?_)
local macro_rules | `(tactic| walk_at "my rn1") => `(tactic| with_reducible refine Rd.callN ?_)
local macro_rules | `(tactic| walk_at "my rn1") => `(tactic| with_reducible refine Rd.mkK ?_)
local macro_rules | `(tactic| walk_at "my rn1") => `(tactic| with_reducible refine Rd.mkKS ?_)
local macro_rules | `(tactic| walk_at "my rn1") => `(tactic| with_reducible refine Rd.mkS ?_)
local macro_rules | `(tactic| walk_at "my rn1") => `(tactic| with_reducible refine Rd.callS ?_)
local macro_rules | `(tactic| walk_at "my rn1") => `(tactic| with_reducible refine Rd.next ?_)
local macro_rules | `(tactic| walk_at "my rn1") => `(tactic| with_reducible refine Rd.ret ?_)
local macro_rules | `(tactic| walk_at "my rn1") => `(tactic| with_reducible refine Rd.drop ?_)
local macro_rules | `(tactic| walk_at "my rn1") => `(tactic| with_reducible refine Rd.not_ ?_)
local macro_rules | `(tactic| walk_at "my rn1") => `(tactic| with_reducible refine Rd.or_ ?_)
local macro_rules | `(tactic| walk_at "my rn1") => `(tactic| with_reducible refine Rd.and_ ?_)
local macro_rules | `(tactic| walk_at "my rn1") => `(tactic| with_reducible refine Rd.ifs ?_)
local macro_rules | `(tactic| walk_at "my rn1") => `(tactic| with_reducible refine Rd.bl2 ?_)
local macro_rules | `(tactic| walk_at "my rn1") => `(tactic| with_reducible refine Rd.bl ?_)
local macro_rules | `(tactic| walk_at "my rn1") => `(tactic| with_reducible refine Rd.I0 ?_)
local macro_rules | `(tactic| walk_at "my rn1") => `(tactic| with_reducible refine Rd.op ?_)
local macro_rules | `(tactic| walk_at "my rn1") => `(tactic| with_reducible refine Rd.tb_ ?_)
local macro_rules | `(tactic| walk_at "my rn1") => `(tactic| with_reducible refine Rd.test ?_)
local macro_rules | `(tactic| walk_at "my rn1") => `(tactic| ((with_reducible refine Rd.gdN ?_); walk_at "my gdN"))
local macro_rules | `(tactic| walk_at "my rn1") => `(tactic| with_reducible refine Rd.asg ?_)
local macro_rules | `(tactic| walk_at "my rn1") => `(tactic| with_reducible refine Rd.seq ?_)
local macro_rules | `(tactic| walk_at "my rn1") => `(tactic| with_reducible refine Rd.nil ?_)
local macro_rules | `(tactic| walk_at "my rn1") => `(tactic| with_reducible refine Rd.cons ?_)
local macro_rules | `(tactic| walk_at "my rn1") => `(tactic| with_reducible refine Rd.c_ ?_)
local macro_rules | `(tactic| walk_at "my rn1") => `(tactic| ((with_reducible apply Rd.vv); exact rfl))
local macro_rules | `(tactic| walk_at "my rn") => `(tactic| (repeat walk_at "my rn1"))
def topS (i : Nat) : Stmt := PySem.Challenge.pw_deadbeat_k23_whole_steps_with_caches.main.body.getD i (.Pass ⟨0, 0, 0, 0⟩)
abbrev s_wrap : Stmt := topS 7
theorem sc_wrap : FnScope ["n"] ["n"] (defScope s_wrap) := ⟨rfl, rfl, rfl, by decide +kernel, rfl, by decide +kernel, by decide +kernel⟩
abbrev s_signed : Stmt := topS 8
theorem sc_signed : FnScope ["w"] ["w"] (defScope s_signed) := ⟨rfl, rfl, rfl, by decide +kernel, rfl, by decide +kernel, by decide +kernel⟩
abbrev s_combine : Stmt := topS 10
theorem sc_combine : FnScope ["operator", "a", "b"] ["operator", "a", "b"] (defScope s_combine) := ⟨rfl, rfl, rfl, by decide +kernel, rfl, by decide +kernel, by decide +kernel⟩
abbrev s__holds : Stmt := topS 11
theorem sc__holds : FnScope ["operator", "a", "b"] ["operator", "a", "b"] (defScope s__holds) := ⟨rfl, rfl, rfl, by decide +kernel, rfl, by decide +kernel, by decide +kernel⟩
abbrev s_alter : Stmt := topS 12
theorem sc_alter : FnScope ["operator", "a"] ["operator", "a"] (defScope s_alter) := ⟨rfl, rfl, rfl, by decide +kernel, rfl, by decide +kernel, by decide +kernel⟩
abbrev s_decimal : Stmt := topS 9
theorem sc_decimal : FnScope ["n", "pieces", "rest", "low"] ["n"] (defScope s_decimal) := ⟨rfl, rfl, rfl, by decide +kernel, rfl, by decide +kernel, by decide +kernel⟩
abbrev s__law_start : Stmt := topS 49
theorem sc__law_start : FnScope ["script", "seed", "cell"] ["script"] (defScope s__law_start) := ⟨rfl, rfl, rfl, by decide +kernel, rfl, by decide +kernel, by decide +kernel⟩
abbrev s__law_draw : Stmt := topS 50
theorem sc__law_draw : FnScope ["state", "many", "found"] ["state", "many"] (defScope s__law_draw) := ⟨rfl, rfl, rfl, by decide +kernel, rfl, by decide +kernel, by decide +kernel⟩
abbrev s_Cache_init : Stmt := inClass (topS 47) 0
theorem sc_Cache_init : FnScope ["self", "sets", "ways", "size", "_"] ["self", "sets", "ways", "size"] (defScope s_Cache_init) := ⟨rfl, rfl, rfl, by decide +kernel, rfl, by decide +kernel, by decide +kernel⟩
abbrev s_Cache_holds : Stmt := inClass (topS 47) 3
theorem sc_Cache_holds : FnScope ["self", "address", "line"] ["self", "address"] (defScope s_Cache_holds) := ⟨rfl, rfl, rfl, by decide +kernel, rfl, by decide +kernel, by decide +kernel⟩
abbrev s_Cache_use : Stmt := inClass (topS 47) 6
theorem sc_Cache_use : FnScope ["self", "address", "line", "lines"] ["self", "address"] (defScope s_Cache_use) := ⟨rfl, rfl, rfl, by decide +kernel, rfl, by decide +kernel, by decide +kernel⟩
abbrev s_Cache_read : Stmt := inClass (topS 47) 4
theorem sc_Cache_read : FnScope ["self", "address", "hit"] ["self", "address"] (defScope s_Cache_read) := ⟨rfl, rfl, rfl, by decide +kernel, rfl, by decide +kernel, by decide +kernel⟩
abbrev s_Cache_write : Stmt := inClass (topS 47) 5
theorem sc_Cache_write : FnScope ["self", "address", "hit"] ["self", "address"] (defScope s_Cache_write) := ⟨rfl, rfl, rfl, by decide +kernel, rfl, by decide +kernel, by decide +kernel⟩
abbrev s_Cache_duplicate : Stmt := inClass (topS 47) 7
theorem sc_Cache_duplicate : FnScope ["self", "other", "lines"] ["self"] (defScope s_Cache_duplicate) := ⟨rfl, rfl, rfl, by decide +kernel, rfl, by decide +kernel, by decide +kernel⟩
abbrev s_Costs_init : Stmt := inClass (topS 28) 0
theorem sc_Costs_init : FnScope ["self", "fetch_hit", "fetch_miss", "plain", "mul", "div", "load_hit", "load_miss", "store", "taken", "count", "port", "release", "switch", "enter", "leave", "finish"] ["self", "fetch_hit", "fetch_miss", "plain", "mul", "div", "load_hit", "load_miss", "store", "taken", "count", "port", "release", "switch", "enter", "leave", "finish"] (defScope s_Costs_init) := ⟨rfl, rfl, rfl, by decide +kernel, rfl, by decide +kernel, by decide +kernel⟩
abbrev s__check_costs : Stmt := topS 29
theorem sc__check_costs : FnScope ["costs", "least", "cost"] ["costs", "least"] (defScope s__check_costs) := ⟨rfl, rfl, rfl, by decide +kernel, rfl, by decide +kernel, by decide +kernel⟩
abbrev s__check_miss : Stmt := topS 30
theorem sc__check_miss : FnScope ["hit", "miss"] ["hit", "miss"] (defScope s__check_miss) := ⟨rfl, rfl, rfl, by decide +kernel, rfl, by decide +kernel, by decide +kernel⟩
abbrev s_instruction_cost : Stmt := topS 31
theorem sc_instruction_cost : FnScope ["costs", "instruction", "fetch_hit", "load_hit", "taken", "cost"] ["costs", "instruction", "fetch_hit", "load_hit", "taken"] (defScope s_instruction_cost) := ⟨rfl, rfl, rfl, by decide +kernel, rfl, by decide +kernel, by decide +kernel⟩
abbrev s__execution_cost : Stmt := topS 32
theorem sc__execution_cost : FnScope ["costs", "instruction", "load_hit"] ["costs", "instruction", "load_hit"] (defScope s__execution_cost) := ⟨rfl, rfl, rfl, by decide +kernel, rfl, by decide +kernel, by decide +kernel⟩
abbrev s__calculation_cost : Stmt := topS 33
theorem sc__calculation_cost : FnScope ["costs", "operation"] ["costs", "operation"] (defScope s__calculation_cost) := ⟨rfl, rfl, rfl, by decide +kernel, rfl, by decide +kernel, by decide +kernel⟩
abbrev s_Core_init : Stmt := inClass (topS 34) 0
theorem sc_Core_init : FnScope ["self", "at"] ["self", "at"] (defScope s_Core_init) := ⟨rfl, rfl, rfl, by decide +kernel, rfl, by decide +kernel, by decide +kernel⟩
abbrev s_Core_put : Stmt := inClass (topS 34) 1
theorem sc_Core_put : FnScope ["self", "r", "word"] ["self", "r", "word"] (defScope s_Core_put) := ⟨rfl, rfl, rfl, by decide +kernel, rfl, by decide +kernel, by decide +kernel⟩
abbrev s_Board_init : Stmt := inClass (topS 35) 0
theorem sc_Board_init : FnScope ["self", "code_cache", "data_cache", "inputs", "words", "_"] ["self", "code_cache", "data_cache", "inputs"] (defScope s_Board_init) := ⟨rfl, rfl, rfl, by decide +kernel, rfl, by decide +kernel, by decide +kernel⟩
abbrev s_Board_take : Stmt := inClass (topS 35) 1
theorem sc_Board_take : FnScope ["self", "port"] ["self", "port"] (defScope s_Board_take) := ⟨rfl, rfl, rfl, by decide +kernel, rfl, by decide +kernel, by decide +kernel⟩
abbrev s_step : Stmt := topS 36
theorem sc_step : FnScope ["costs", "code", "core", "board", "instruction", "fetch_hit", "load_hit", "taken", "cost"] ["costs", "code", "core", "board"] (defScope s_step) := ⟨rfl, rfl, rfl, by decide +kernel, rfl, by decide +kernel, by decide +kernel⟩
abbrev s__access : Stmt := topS 37
theorem sc__access : FnScope ["instruction", "core", "board", "r", "address"] ["instruction", "core", "board"] (defScope s__access) := ⟨rfl, rfl, rfl, by decide +kernel, rfl, by decide +kernel, by decide +kernel⟩
abbrev s__data_address : Stmt := topS 38
theorem sc__data_address : FnScope ["instruction", "core", "_", "s", "first", "cells"] ["instruction", "core"] (defScope s__data_address) := ⟨rfl, rfl, rfl, by decide +kernel, rfl, by decide +kernel, by decide +kernel⟩
abbrev s__branch : Stmt := topS 39
theorem sc__branch : FnScope ["instruction", "core", "board", "name", "number", "address", "taken"] ["instruction", "core", "board"] (defScope s__branch) := ⟨rfl, rfl, rfl, by decide +kernel, rfl, by decide +kernel, by decide +kernel⟩
abbrev s__jump : Stmt := topS 40
theorem sc__jump : FnScope ["instruction", "core"] ["instruction", "core"] (defScope s__jump) := ⟨rfl, rfl, rfl, by decide +kernel, rfl, by decide +kernel, by decide +kernel⟩
abbrev s__work : Stmt := topS 41
theorem sc__work : FnScope ["instruction", "core", "board", "r", "n", "operation", "s", "t", "c", "q"] ["instruction", "core", "board"] (defScope s__work) := ⟨rfl, rfl, rfl, by decide +kernel, rfl, by decide +kernel, by decide +kernel⟩
abbrev s__calculated : Stmt := topS 42
theorem sc__calculated : FnScope ["operation", "a", "b"] ["operation", "a", "b"] (defScope s__calculated) := ⟨rfl, rfl, rfl, by decide +kernel, rfl, by decide +kernel, by decide +kernel⟩
abbrev s__law_sign : Stmt := topS 51
theorem sc__law_sign : FnScope ["word"] ["word"] (defScope s__law_sign) := ⟨rfl, rfl, rfl, by decide +kernel, rfl, by decide +kernel, by decide +kernel⟩
abbrev s__law_calc : Stmt := topS 52
theorem sc__law_calc : FnScope ["name", "a", "b", "value", "scale", "k", "x", "y", "bit"] ["name", "a", "b"] (defScope s__law_calc) := ⟨rfl, rfl, rfl, by decide +kernel, rfl, by decide +kernel, by decide +kernel⟩
abbrev s__law_operation : Stmt := topS 56
theorem sc__law_operation : FnScope ["at", "names"] ["at"] (defScope s__law_operation) := ⟨rfl, rfl, rfl, by decide +kernel, rfl, by decide +kernel, by decide +kernel⟩
abbrev s__law_instruction : Stmt := topS 57
theorem sc__law_instruction : FnScope ["state", "size", "r", "s", "p", "a", "n", "small", "menu", "at"] ["state", "size"] (defScope s__law_instruction) := ⟨rfl, rfl, rfl, by decide +kernel, rfl, by decide +kernel, by decide +kernel⟩
abbrev s__law_put : Stmt := topS 53
theorem sc__law_put : FnScope ["registers", "r", "word"] ["registers", "r", "word"] (defScope s__law_put) := ⟨rfl, rfl, rfl, by decide +kernel, rfl, by decide +kernel, by decide +kernel⟩
abbrev s__law_move : Stmt := topS 54
theorem sc__law_move : FnScope ["instruction", "registers", "data", "counters", "words", "outputs", "name", "low", "word", "a", "row"] ["instruction", "registers", "data", "counters", "words", "outputs"] (defScope s__law_move) := ⟨rfl, rfl, rfl, by decide +kernel, rfl, by decide +kernel, by decide +kernel⟩
abbrev s__law_goal : Stmt := topS 55
theorem sc__law_goal : FnScope ["instruction", "at", "registers", "counters", "name"] ["instruction", "at", "registers", "counters"] (defScope s__law_goal) := ⟨rfl, rfl, rfl, by decide +kernel, rfl, by decide +kernel, by decide +kernel⟩
abbrev s__law_cost : Stmt := topS 60
theorem sc__law_cost : FnScope ["n", "instruction", "taken", "fetched", "loaded", "name", "cost"] ["n", "instruction", "taken", "fetched", "loaded"] (defScope s__law_cost) := ⟨rfl, rfl, rfl, by decide +kernel, rfl, by decide +kernel, by decide +kernel⟩
abbrev s__law_use : Stmt := topS 58
theorem sc__law_use : FnScope ["uses", "shape", "address", "adds", "sets", "ways", "size", "line", "row", "k", "other"] ["uses", "shape", "address", "adds"] (defScope s__law_use) := ⟨rfl, rfl, rfl, by decide +kernel, rfl, by decide +kernel, by decide +kernel⟩
abbrev s__law_address : Stmt := topS 59
theorem sc__law_address : FnScope ["instruction", "registers"] ["instruction", "registers"] (defScope s__law_address) := ⟨rfl, rfl, rfl, by decide +kernel, rfl, by decide +kernel, by decide +kernel⟩
abbrev s__law_shape : Stmt := topS 61
theorem sc__law_shape : FnScope ["state"] ["state"] (defScope s__law_shape) := ⟨rfl, rfl, rfl, by decide +kernel, rfl, by decide +kernel, by decide +kernel⟩
abbrev s__law_same : Stmt := topS 62
theorem sc__law_same : FnScope ["core", "board", "at", "registers", "data", "counters", "outputs"] ["core", "board", "at", "registers", "data", "counters", "outputs"] (defScope s__law_same) := ⟨rfl, rfl, rfl, by decide +kernel, rfl, by decide +kernel, by decide +kernel⟩
abbrev s_law : Stmt := topS 63
theorem sc_law : FnScope ["script", "state", "size", "code", "k", "code_shape", "data_shape", "n", "costs", "words", "given", "core", "code_cache", "board", "at", "registers", "data", "counters", "outputs", "fetches", "loads", "told", "instruction", "fetched", "loaded", "address", "taken"] ["script"] (defScope s_law) := ⟨rfl, rfl, rfl, by decide +kernel, rfl, by decide +kernel, by decide +kernel⟩
abbrev kws_Costs_init : List (Str × V) := [("fetch_hit", .int (1)), ("fetch_miss", .int (11)), ("plain", .int (1)), ("mul", .int (3)), ("div", .int (8)), ("load_hit", .int (1)), ("load_miss", .int (11)), ("store", .int (4)), ("taken", .int (1)), ("count", .int (2)), ("port", .int (4)), ("release", .int (6)), ("switch", .int (12)), ("enter", .int (5)), ("leave", .int (5)), ("finish", .int (8))]
abbrev kws_instruction_cost : List (Str × V) := [("load_hit", .bl true), ("taken", .bl false)]
theorem kb_instruction_cost_0 {K : PySem.W.Frag} {a : Addr} {d : FuncData} (F : FunD K "instruction_cost" "instruction_cost" (defArgs s_instruction_cost) (defBody s_instruction_cost) (defScope s_instruction_cost) [] kws_instruction_cost a d) :
    ∃ mv : List Value, KBn K d ["costs", "instruction", "fetch_hit", "load_hit", "taken"] 2 ["fetch_hit", "load_hit", "taken"] (fun vs zs => (fun (mz : List Value) => vs ++ ((zs.drop 0).take 3)) mv) (fun vs zs => (fun (mz : List V) => vs ++ ((zs.drop 0).take 3)) []) :=
  kbn_mk F (List.cons_ne_nil _ _) (normal := ["costs", "instruction"]) (kwonly := ["fetch_hit", "load_hit", "taken"]) (ks := ["fetch_hit", "load_hit", "taken"]) [] (fun vs mz zs => vs ++ ((zs.drop 0).take 3)) (by decide +kernel) rfl rfl rfl rfl rfl (by decide +kernel) (by decide +kernel) (by decide +kernel) (by decide +kernel) (fun hv hm hz => (hv.append ((hz.drop 0).tk 3))) fun us mv ws l1 l2 l3 => by
    match us, mv, ws, l1, l2, l3 with
    | [u0, u1], [], [w0, w1, w2], _, _, _ => kernel_rfl
theorem kb_Costs_init_1 {K : PySem.W.Frag} {a : Addr} {d : FuncData} (F : FunD K "__init__" "Costs.__init__" (defArgs s_Costs_init) (defBody s_Costs_init) (defScope s_Costs_init) [] kws_Costs_init a d) :
    ∃ mv : List Value, KBn K d ["self", "fetch_hit", "fetch_miss", "plain", "mul", "div", "load_hit", "load_miss", "store", "taken", "count", "port", "release", "switch", "enter", "leave", "finish"] 1 ["fetch_hit", "fetch_miss", "load_hit", "load_miss", "store"] (fun vs zs => (fun (mz : List Value) => vs ++ ((zs.drop 0).take 2) ++ ((mz.drop 0).take 3) ++ ((zs.drop 2).take 3) ++ ((mz.drop 3).take 8)) mv) (fun vs zs => (fun (mz : List V) => vs ++ ((zs.drop 0).take 2) ++ ((mz.drop 0).take 3) ++ ((zs.drop 2).take 3) ++ ((mz.drop 3).take 8)) [.int (1), .int (3), .int (8), .int (1), .int (2), .int (4), .int (6), .int (12), .int (5), .int (5), .int (8)]) :=
  kbn_mk F (List.cons_ne_nil _ _) (normal := ["self"]) (kwonly := ["fetch_hit", "fetch_miss", "plain", "mul", "div", "load_hit", "load_miss", "store", "taken", "count", "port", "release", "switch", "enter", "leave", "finish"]) (ks := ["fetch_hit", "fetch_miss", "load_hit", "load_miss", "store"]) [("plain", .int (1)), ("mul", .int (3)), ("div", .int (8)), ("taken", .int (1)), ("count", .int (2)), ("port", .int (4)), ("release", .int (6)), ("switch", .int (12)), ("enter", .int (5)), ("leave", .int (5)), ("finish", .int (8))] (fun vs mz zs => vs ++ ((zs.drop 0).take 2) ++ ((mz.drop 0).take 3) ++ ((zs.drop 2).take 3) ++ ((mz.drop 3).take 8)) (by decide +kernel) rfl rfl rfl rfl rfl (by decide +kernel) (by decide +kernel) (by decide +kernel) (by decide +kernel) (fun hv hm hz => ((((hv.append ((hz.drop 0).tk 2)).append ((hm.drop 0).tk 3)).append ((hz.drop 2).tk 3)).append ((hm.drop 3).tk 8))) fun us mv ws l1 l2 l3 => by
    match us, mv, ws, l1, l2, l3 with
    | [u0], [m0, m1, m2, m3, m4, m5, m6, m7, m8, m9, m10], [w0, w1, w2, w3, w4], _, _, _ => kernel_rfl
def parts_PlanError : List Expr := [(PySem.Expr.Constant (PySem.Const.str "value ") 0 ⟨82, 27, 82, 33⟩), (PySem.Expr.FormattedValue (value := (PySem.Expr.Call (func := (PySem.Expr.Name "decimal" ⟨82, 34, 82, 41⟩)) (args := [(PySem.Expr.Name "at" ⟨82, 42, 82, 44⟩)]) (keywords := []) (pos := ⟨82, 34, 82, 45⟩))) (conversion := (-1)) (format_spec := none) (pos := ⟨82, 33, 82, 46⟩))]
theorem fo_PlanError : PySem.Errs.FldOk "at" [("decimal", .globalImplicit)] parts_PlanError ⟨82, 25, 82, 47⟩ := ⟨rfl, rfl, rfl, rfl, rfl, (by decide), fun _ _ => rfl, fun _ _ => rfl, fun _ => rfl, fun _ _ _ _ _ _ _ _ _ _ _ _ _ => .of_eq rfl⟩
structure Top (P : Program) (w : World) (K : PySem.W.Frag) (mg : Str → Option Value) where
  C_Cache : Addr
  gc_Cache : mg "Cache" = some (.ref C_Cache)
  C_Costs : Addr
  gc_Costs : mg "Costs" = some (.ref C_Costs)
  C_PlanError : Addr
  gc_PlanError : mg "PlanError" = some (.ref C_PlanError)
  C_Core : Addr
  gc_Core : mg "Core" = some (.ref C_Core)
  C_Board : Addr
  gc_Board : mg "Board" = some (.ref C_Board)
  f_PlanError : Addr
  x_PlanError : PySem.Errs.ErrTxt P K mg "PlanError" "at" [("decimal", .globalImplicit)] parts_PlanError ⟨82, 25, 82, 47⟩ C_PlanError f_PlanError
  xd_PlanError : ExcD K C_PlanError
  xf_PlanError : XfC K C_PlanError
  cl_Cache : Cls K C_Cache
  n_Cache_rows : NoAttr K C_Cache "rows"
  n_Cache_sets : NoAttr K C_Cache "sets"
  n_Cache_size : NoAttr K C_Cache "size"
  n_Cache_ways : NoAttr K C_Cache "ways"
  cl_Costs : Cls K C_Costs
  n_Costs_count : NoAttr K C_Costs "count"
  n_Costs_div : NoAttr K C_Costs "div"
  n_Costs_enter : NoAttr K C_Costs "enter"
  n_Costs_fetch_hit : NoAttr K C_Costs "fetch_hit"
  n_Costs_fetch_miss : NoAttr K C_Costs "fetch_miss"
  n_Costs_finish : NoAttr K C_Costs "finish"
  n_Costs_leave : NoAttr K C_Costs "leave"
  n_Costs_load_hit : NoAttr K C_Costs "load_hit"
  n_Costs_load_miss : NoAttr K C_Costs "load_miss"
  n_Costs_mul : NoAttr K C_Costs "mul"
  n_Costs_plain : NoAttr K C_Costs "plain"
  n_Costs_port : NoAttr K C_Costs "port"
  n_Costs_release : NoAttr K C_Costs "release"
  n_Costs_store : NoAttr K C_Costs "store"
  n_Costs_switch : NoAttr K C_Costs "switch"
  n_Costs_taken : NoAttr K C_Costs "taken"
  cl_Core : Cls K C_Core
  n_Core_at : NoAttr K C_Core "at"
  n_Core_registers : NoAttr K C_Core "registers"
  cl_Board : Cls K C_Board
  n_Board_code_cache : NoAttr K C_Board "code_cache"
  n_Board_counters : NoAttr K C_Board "counters"
  n_Board_data : NoAttr K C_Board "data"
  n_Board_data_cache : NoAttr K C_Board "data_cache"
  n_Board_inputs : NoAttr K C_Board "inputs"
  n_Board_outputs : NoAttr K C_Board "outputs"
  a_wrap : Addr
  d_wrap : FuncData
  F_wrap : Fun K "wrap" "wrap" s_wrap a_wrap d_wrap
  g_wrap : mg "wrap" = some (.ref a_wrap)
  b_wrap : Binds K d_wrap ["n"] []
  a_signed : Addr
  d_signed : FuncData
  F_signed : Fun K "signed" "signed" s_signed a_signed d_signed
  g_signed : mg "signed" = some (.ref a_signed)
  b_signed : Binds K d_signed ["w"] []
  a_combine : Addr
  d_combine : FuncData
  F_combine : Fun K "combine" "combine" s_combine a_combine d_combine
  g_combine : mg "combine" = some (.ref a_combine)
  b_combine : Binds K d_combine ["operator", "a", "b"] []
  a__holds : Addr
  d__holds : FuncData
  F__holds : Fun K "_holds" "_holds" s__holds a__holds d__holds
  g__holds : mg "_holds" = some (.ref a__holds)
  b__holds : Binds K d__holds ["operator", "a", "b"] []
  a_alter : Addr
  d_alter : FuncData
  F_alter : Fun K "alter" "alter" s_alter a_alter d_alter
  g_alter : mg "alter" = some (.ref a_alter)
  b_alter : Binds K d_alter ["operator", "a"] []
  a_decimal : Addr
  d_decimal : FuncData
  F_decimal : Fun K "decimal" "decimal" s_decimal a_decimal d_decimal
  g_decimal : mg "decimal" = some (.ref a_decimal)
  b_decimal : Binds K d_decimal ["n"] []
  a__law_start : Addr
  d__law_start : FuncData
  F__law_start : Fun K "_law_start" "_law_start" s__law_start a__law_start d__law_start
  g__law_start : mg "_law_start" = some (.ref a__law_start)
  b__law_start : Binds K d__law_start ["script"] []
  a__law_draw : Addr
  d__law_draw : FuncData
  F__law_draw : Fun K "_law_draw" "_law_draw" s__law_draw a__law_draw d__law_draw
  g__law_draw : mg "_law_draw" = some (.ref a__law_draw)
  b__law_draw : Binds K d__law_draw ["state", "many"] []
  a_Cache_init : Addr
  d_Cache_init : FuncData
  F_Cache_init : Fun K "__init__" "Cache.__init__" s_Cache_init a_Cache_init d_Cache_init
  M_Cache : Mk K C_Cache a_Cache_init
  b_Cache_init : Binds K d_Cache_init ["self", "sets", "ways", "size"] []
  a_Cache_holds : Addr
  d_Cache_holds : FuncData
  F_Cache_holds : Fun K "holds" "Cache.holds" s_Cache_holds a_Cache_holds d_Cache_holds
  m_Cache_holds : Meth K C_Cache "holds" a_Cache_holds
  b_Cache_holds : Binds K d_Cache_holds ["self", "address"] []
  a_Cache_use : Addr
  d_Cache_use : FuncData
  F_Cache_use : Fun K "use" "Cache.use" s_Cache_use a_Cache_use d_Cache_use
  m_Cache_use : Meth K C_Cache "use" a_Cache_use
  b_Cache_use : Binds K d_Cache_use ["self", "address"] []
  a_Cache_read : Addr
  d_Cache_read : FuncData
  F_Cache_read : Fun K "read" "Cache.read" s_Cache_read a_Cache_read d_Cache_read
  m_Cache_read : Meth K C_Cache "read" a_Cache_read
  b_Cache_read : Binds K d_Cache_read ["self", "address"] []
  a_Cache_write : Addr
  d_Cache_write : FuncData
  F_Cache_write : Fun K "write" "Cache.write" s_Cache_write a_Cache_write d_Cache_write
  m_Cache_write : Meth K C_Cache "write" a_Cache_write
  b_Cache_write : Binds K d_Cache_write ["self", "address"] []
  a_Cache_duplicate : Addr
  d_Cache_duplicate : FuncData
  F_Cache_duplicate : Fun K "duplicate" "Cache.duplicate" s_Cache_duplicate a_Cache_duplicate d_Cache_duplicate
  m_Cache_duplicate : Meth K C_Cache "duplicate" a_Cache_duplicate
  b_Cache_duplicate : Binds K d_Cache_duplicate ["self"] []
  a_Costs_init : Addr
  d_Costs_init : FuncData
  F_Costs_init : FunD K "__init__" "Costs.__init__" (defArgs s_Costs_init) (defBody s_Costs_init) (defScope s_Costs_init) [] kws_Costs_init a_Costs_init d_Costs_init
  M_Costs : Mk K C_Costs a_Costs_init
  a__check_costs : Addr
  d__check_costs : FuncData
  F__check_costs : Fun K "_check_costs" "_check_costs" s__check_costs a__check_costs d__check_costs
  g__check_costs : mg "_check_costs" = some (.ref a__check_costs)
  b__check_costs : Binds K d__check_costs ["costs", "least"] []
  a__check_miss : Addr
  d__check_miss : FuncData
  F__check_miss : Fun K "_check_miss" "_check_miss" s__check_miss a__check_miss d__check_miss
  g__check_miss : mg "_check_miss" = some (.ref a__check_miss)
  b__check_miss : Binds K d__check_miss ["hit", "miss"] []
  a_instruction_cost : Addr
  d_instruction_cost : FuncData
  F_instruction_cost : FunD K "instruction_cost" "instruction_cost" (defArgs s_instruction_cost) (defBody s_instruction_cost) (defScope s_instruction_cost) [] kws_instruction_cost a_instruction_cost d_instruction_cost
  g_instruction_cost : mg "instruction_cost" = some (.ref a_instruction_cost)
  a__execution_cost : Addr
  d__execution_cost : FuncData
  F__execution_cost : Fun K "_execution_cost" "_execution_cost" s__execution_cost a__execution_cost d__execution_cost
  g__execution_cost : mg "_execution_cost" = some (.ref a__execution_cost)
  b__execution_cost : Binds K d__execution_cost ["costs", "instruction", "load_hit"] []
  a__calculation_cost : Addr
  d__calculation_cost : FuncData
  F__calculation_cost : Fun K "_calculation_cost" "_calculation_cost" s__calculation_cost a__calculation_cost d__calculation_cost
  g__calculation_cost : mg "_calculation_cost" = some (.ref a__calculation_cost)
  b__calculation_cost : Binds K d__calculation_cost ["costs", "operation"] []
  a_Core_init : Addr
  d_Core_init : FuncData
  F_Core_init : Fun K "__init__" "Core.__init__" s_Core_init a_Core_init d_Core_init
  M_Core : Mk K C_Core a_Core_init
  b_Core_init : Binds K d_Core_init ["self", "at"] []
  a_Core_put : Addr
  d_Core_put : FuncData
  F_Core_put : Fun K "put" "Core.put" s_Core_put a_Core_put d_Core_put
  m_Core_put : Meth K C_Core "put" a_Core_put
  b_Core_put : Binds K d_Core_put ["self", "r", "word"] []
  a_Board_init : Addr
  d_Board_init : FuncData
  F_Board_init : Fun K "__init__" "Board.__init__" s_Board_init a_Board_init d_Board_init
  M_Board : Mk K C_Board a_Board_init
  b_Board_init : Binds K d_Board_init ["self", "code_cache", "data_cache", "inputs"] []
  a_Board_take : Addr
  d_Board_take : FuncData
  F_Board_take : Fun K "take" "Board.take" s_Board_take a_Board_take d_Board_take
  m_Board_take : Meth K C_Board "take" a_Board_take
  b_Board_take : Binds K d_Board_take ["self", "port"] []
  a_step : Addr
  d_step : FuncData
  F_step : Fun K "step" "step" s_step a_step d_step
  g_step : mg "step" = some (.ref a_step)
  b_step : Binds K d_step ["costs", "code", "core", "board"] []
  a__access : Addr
  d__access : FuncData
  F__access : Fun K "_access" "_access" s__access a__access d__access
  g__access : mg "_access" = some (.ref a__access)
  b__access : Binds K d__access ["instruction", "core", "board"] []
  a__data_address : Addr
  d__data_address : FuncData
  F__data_address : Fun K "_data_address" "_data_address" s__data_address a__data_address d__data_address
  g__data_address : mg "_data_address" = some (.ref a__data_address)
  b__data_address : Binds K d__data_address ["instruction", "core"] []
  a__branch : Addr
  d__branch : FuncData
  F__branch : Fun K "_branch" "_branch" s__branch a__branch d__branch
  g__branch : mg "_branch" = some (.ref a__branch)
  b__branch : Binds K d__branch ["instruction", "core", "board"] []
  a__jump : Addr
  d__jump : FuncData
  F__jump : Fun K "_jump" "_jump" s__jump a__jump d__jump
  g__jump : mg "_jump" = some (.ref a__jump)
  b__jump : Binds K d__jump ["instruction", "core"] []
  a__work : Addr
  d__work : FuncData
  F__work : Fun K "_work" "_work" s__work a__work d__work
  g__work : mg "_work" = some (.ref a__work)
  b__work : Binds K d__work ["instruction", "core", "board"] []
  a__calculated : Addr
  d__calculated : FuncData
  F__calculated : Fun K "_calculated" "_calculated" s__calculated a__calculated d__calculated
  g__calculated : mg "_calculated" = some (.ref a__calculated)
  b__calculated : Binds K d__calculated ["operation", "a", "b"] []
  a__law_sign : Addr
  d__law_sign : FuncData
  F__law_sign : Fun K "_law_sign" "_law_sign" s__law_sign a__law_sign d__law_sign
  g__law_sign : mg "_law_sign" = some (.ref a__law_sign)
  b__law_sign : Binds K d__law_sign ["word"] []
  a__law_calc : Addr
  d__law_calc : FuncData
  F__law_calc : Fun K "_law_calc" "_law_calc" s__law_calc a__law_calc d__law_calc
  g__law_calc : mg "_law_calc" = some (.ref a__law_calc)
  b__law_calc : Binds K d__law_calc ["name", "a", "b"] []
  a__law_operation : Addr
  d__law_operation : FuncData
  F__law_operation : Fun K "_law_operation" "_law_operation" s__law_operation a__law_operation d__law_operation
  g__law_operation : mg "_law_operation" = some (.ref a__law_operation)
  b__law_operation : Binds K d__law_operation ["at"] []
  a__law_instruction : Addr
  d__law_instruction : FuncData
  F__law_instruction : Fun K "_law_instruction" "_law_instruction" s__law_instruction a__law_instruction d__law_instruction
  g__law_instruction : mg "_law_instruction" = some (.ref a__law_instruction)
  b__law_instruction : Binds K d__law_instruction ["state", "size"] []
  a__law_put : Addr
  d__law_put : FuncData
  F__law_put : Fun K "_law_put" "_law_put" s__law_put a__law_put d__law_put
  g__law_put : mg "_law_put" = some (.ref a__law_put)
  b__law_put : Binds K d__law_put ["registers", "r", "word"] []
  a__law_move : Addr
  d__law_move : FuncData
  F__law_move : Fun K "_law_move" "_law_move" s__law_move a__law_move d__law_move
  g__law_move : mg "_law_move" = some (.ref a__law_move)
  b__law_move : Binds K d__law_move ["instruction", "registers", "data", "counters", "words", "outputs"] []
  a__law_goal : Addr
  d__law_goal : FuncData
  F__law_goal : Fun K "_law_goal" "_law_goal" s__law_goal a__law_goal d__law_goal
  g__law_goal : mg "_law_goal" = some (.ref a__law_goal)
  b__law_goal : Binds K d__law_goal ["instruction", "at", "registers", "counters"] []
  a__law_cost : Addr
  d__law_cost : FuncData
  F__law_cost : Fun K "_law_cost" "_law_cost" s__law_cost a__law_cost d__law_cost
  g__law_cost : mg "_law_cost" = some (.ref a__law_cost)
  b__law_cost : Binds K d__law_cost ["n", "instruction", "taken", "fetched", "loaded"] []
  a__law_use : Addr
  d__law_use : FuncData
  F__law_use : Fun K "_law_use" "_law_use" s__law_use a__law_use d__law_use
  g__law_use : mg "_law_use" = some (.ref a__law_use)
  b__law_use : Binds K d__law_use ["uses", "shape", "address", "adds"] []
  a__law_address : Addr
  d__law_address : FuncData
  F__law_address : Fun K "_law_address" "_law_address" s__law_address a__law_address d__law_address
  g__law_address : mg "_law_address" = some (.ref a__law_address)
  b__law_address : Binds K d__law_address ["instruction", "registers"] []
  a__law_shape : Addr
  d__law_shape : FuncData
  F__law_shape : Fun K "_law_shape" "_law_shape" s__law_shape a__law_shape d__law_shape
  g__law_shape : mg "_law_shape" = some (.ref a__law_shape)
  b__law_shape : Binds K d__law_shape ["state"] []
  a__law_same : Addr
  d__law_same : FuncData
  F__law_same : Fun K "_law_same" "_law_same" s__law_same a__law_same d__law_same
  g__law_same : mg "_law_same" = some (.ref a__law_same)
  b__law_same : Binds K d__law_same ["core", "board", "at", "registers", "data", "counters", "outputs"] []
  a_law : Addr
  d_law : FuncData
  F_law : Fun K "law" "law" s_law a_law d_law
  g_law : mg "law" = some (.ref a_law)
  b_law : Binds K d_law ["script"] []
  m_str : mg "str" = none
  m_divmod : mg "divmod" = none
  m_abs : mg "abs" = none
  m_list : mg "list" = none
  m_int : mg "int" = none
  m_len : mg "len" = none
  m_range : mg "range" = none
  m_sum : mg "sum" = none
  t_WORDS : Tok
  c_WORDS : mg "WORDS" = some (.int 4294967296 t_WORDS)
  t_SIGN_BIT : Tok
  c_SIGN_BIT : mg "SIGN_BIT" = some (.int 2147483648 t_SIGN_BIT)
  t_GREATEST_WORD : Tok
  c_GREATEST_WORD : mg "GREATEST_WORD" = some (.int 4294967295 t_GREATEST_WORD)
  t_PIECE : Tok
  c_PIECE : mg "PIECE" = some (.int 1000000000000000000 t_PIECE)
  t_PIECE_DIGITS : Tok
  c_PIECE_DIGITS : mg "PIECE_DIGITS" = some (.int 18 t_PIECE_DIGITS)
  p_LINE_SIZES : Addr
  c_LINE_SIZES : mg "LINE_SIZES" = some (.ref p_LINE_SIZES)
  l_LINE_SIZES : ∃ o, K.lookup p_LINE_SIZES = some o ∧ o.cls = .type "tuple" ∧ o.dict = none
  q_LINE_SIZES : ∀ H, SqT K H p_LINE_SIZES [.int (1), .int (2), .int (4), .int (8), .int (16)]
  t_MOST_WAYS : Tok
  c_MOST_WAYS : mg "MOST_WAYS" = some (.int 4 t_MOST_WAYS)
  t_MOST_SETS : Tok
  c_MOST_SETS : mg "MOST_SETS" = some (.int 64 t_MOST_SETS)
  t_GREATEST_COST : Tok
  c_GREATEST_COST : mg "GREATEST_COST" = some (.int 64 t_GREATEST_COST)
  p_TAKEN_AT_TIMES : Addr
  c_TAKEN_AT_TIMES : mg "TAKEN_AT_TIMES" = some (.ref p_TAKEN_AT_TIMES)
  l_TAKEN_AT_TIMES : ∃ o, K.lookup p_TAKEN_AT_TIMES = some o ∧ o.cls = .type "tuple" ∧ o.dict = none
  q_TAKEN_AT_TIMES : ∀ H, SqT K H p_TAKEN_AT_TIMES [.str "jzero", .str "again"]
  p_ALWAYS_TAKEN : Addr
  c_ALWAYS_TAKEN : mg "ALWAYS_TAKEN" = some (.ref p_ALWAYS_TAKEN)
  l_ALWAYS_TAKEN : ∃ o, K.lookup p_ALWAYS_TAKEN = some o ∧ o.cls = .type "tuple" ∧ o.dict = none
  q_ALWAYS_TAKEN : ∀ H, SqT K H p_ALWAYS_TAKEN [.str "jump", .str "link", .str "back"]
  t_REGISTERS : Tok
  c_REGISTERS : mg "REGISTERS" = some (.int 9 t_REGISTERS)
  t_PORTS : Tok
  c_PORTS : mg "PORTS" = some (.int 8 t_PORTS)
  t_COUNTERS : Tok
  c_COUNTERS : mg "COUNTERS" = some (.int 256 t_COUNTERS)
  t_DATA_WORDS : Tok
  c_DATA_WORDS : mg "DATA_WORDS" = some (.int 16384 t_DATA_WORDS)
  p_ACCESSES : Addr
  c_ACCESSES : mg "ACCESSES" = some (.ref p_ACCESSES)
  l_ACCESSES : ∃ o, K.lookup p_ACCESSES = some o ∧ o.cls = .type "tuple" ∧ o.dict = none
  q_ACCESSES : ∀ H, SqT K H p_ACCESSES [.str "load", .str "store", .str "loadx", .str "storex"]
  t_RETURN_REGISTER : Tok
  c_RETURN_REGISTER : mg "RETURN_REGISTER" = some (.int 8 t_RETURN_REGISTER)
  t_LOW_HALF : Tok
  c_LOW_HALF : mg "LOW_HALF" = some (.int 65536 t_LOW_HALF)
  p_OPERATORS : Addr
  c_OPERATORS : mg "OPERATORS" = some (.ref p_OPERATORS)
  e_OPERATORS : Array DictEntry
  n_OPERATORS : Nat
  kd_OPERATORS : KDict K w p_OPERATORS e_OPERATORS n_OPERATORS
  t_OPERATORS_0 : Tok
  i_OPERATORS_0 : PySem.W.nsIn K p_OPERATORS "add" = some (some (.str "+" t_OPERATORS_0))
  t_OPERATORS_1 : Tok
  i_OPERATORS_1 : PySem.W.nsIn K p_OPERATORS "sub" = some (some (.str "-" t_OPERATORS_1))
  t_OPERATORS_2 : Tok
  i_OPERATORS_2 : PySem.W.nsIn K p_OPERATORS "mul" = some (some (.str "*" t_OPERATORS_2))
  t_OPERATORS_3 : Tok
  i_OPERATORS_3 : PySem.W.nsIn K p_OPERATORS "div" = some (some (.str "/" t_OPERATORS_3))
  t_OPERATORS_4 : Tok
  i_OPERATORS_4 : PySem.W.nsIn K p_OPERATORS "mod" = some (some (.str "mod" t_OPERATORS_4))
  t_OPERATORS_5 : Tok
  i_OPERATORS_5 : PySem.W.nsIn K p_OPERATORS "and" = some (some (.str "&" t_OPERATORS_5))
  t_OPERATORS_6 : Tok
  i_OPERATORS_6 : PySem.W.nsIn K p_OPERATORS "or" = some (some (.str "|" t_OPERATORS_6))
  t_OPERATORS_7 : Tok
  i_OPERATORS_7 : PySem.W.nsIn K p_OPERATORS "xor" = some (some (.str "^" t_OPERATORS_7))
  t_OPERATORS_8 : Tok
  i_OPERATORS_8 : PySem.W.nsIn K p_OPERATORS "shl" = some (some (.str "<<" t_OPERATORS_8))
  t_OPERATORS_9 : Tok
  i_OPERATORS_9 : PySem.W.nsIn K p_OPERATORS "shr" = some (some (.str ">>" t_OPERATORS_9))
  t_OPERATORS_10 : Tok
  i_OPERATORS_10 : PySem.W.nsIn K p_OPERATORS "ult" = some (some (.str "<" t_OPERATORS_10))
  t_OPERATORS_11 : Tok
  i_OPERATORS_11 : PySem.W.nsIn K p_OPERATORS "ule" = some (some (.str "<=" t_OPERATORS_11))
  t_OPERATORS_12 : Tok
  i_OPERATORS_12 : PySem.W.nsIn K p_OPERATORS "slt" = some (some (.str "~<" t_OPERATORS_12))
  t_OPERATORS_13 : Tok
  i_OPERATORS_13 : PySem.W.nsIn K p_OPERATORS "sle" = some (some (.str "~<=" t_OPERATORS_13))
  t_OPERATORS_14 : Tok
  i_OPERATORS_14 : PySem.W.nsIn K p_OPERATORS "eq" = some (some (.str "==" t_OPERATORS_14))
  t_OPERATORS_15 : Tok
  i_OPERATORS_15 : PySem.W.nsIn K p_OPERATORS "ne" = some (some (.str "!=" t_OPERATORS_15))
/-- the state of the law's draws: the list at p, the cells' copy at c -/
def StOk (H : Hp) (p c : Addr) : Prop := ∃ (ms : List Int) (k : Nat) (v sd : Int), p ≠ c ∧ H p = some (.lst [.ref c, .int k, .int v, .int sd]) ∧ H c = some (.lst (ms.map V.int)) ∧ ms.length ≤ 63 ∧ 0 ≤ v ∧ 0 ≤ sd ∧ sd ≤ 2147483647
/-- all but the object at p is as it was -/
def Keep (p : Addr) (H H' : Hp) : Prop := ∀ b o, b ≠ p → H b = some o → H' b = some o
theorem Keep.refl (p : Addr) (H : Hp) : Keep p H H := fun _ _ _ h => h
theorem Keep.trans {p : Addr} {H H1 H2 : Hp} (a : Keep p H H1) (b : Keep p H1 H2) : Keep p H H2 := fun x o h1 h => b x o h1 (a x o h1 h)
theorem Keep.same {p : Addr} {H H1 : Hp} (a : Same H H1) : Keep p H H1 := fun x o _ h => a x o h
theorem Keep.at {p : Addr} {H : Hp} {o : HO} : Keep p H (upd H p o) := fun x u h1 h => by
  rw [upd_ne h1]
  exact h
theorem StOk.same {H H' : Hp} {p c : Addr} (s : StOk H p c) (e : Same H H') : StOk H' p c := by
  obtain ⟨ms, k, v, sd, h1, h2, h3, h⟩ := s
  exact ⟨ms, k, v, sd, h1, e _ _ h2, e _ _ h3, h⟩
theorem StOk.ne {H : Hp} {p c l : Addr} (s : StOk H p c) (h : H l = Option.none) : l ≠ p ∧ l ≠ c := by
  obtain ⟨ms, k, v, sd, h1, h2, h3, _⟩ := s
  exact ⟨fun z => (by rw [z, h2] at h; cases h), fun z => (by rw [z, h3] at h; cases h)⟩
/-- an address that is free behind was free before -/
theorem Keep.free {p c : Addr} {H H' : Hp} (k : Keep p H H') (s : StOk H' p c) {l : Addr} (h : H' l = Option.none) : H l = Option.none := by
  cases e : H l with
  | none => rfl
  | some o =>
    rw [k l o (s.ne h).1 e] at h
    cases h
def absI (n : Int) : Int := if n < 0 then -n else n
theorem abs_nn (n : Int) : 0 ≤ absI n := by
  unfold absI
  split <;> omega
section
variable {P : Program} {w : World} {K : PySem.W.Frag} {mg : Str → Option Value} {base : Heap}
def sp__law_start (K : PySem.W.Frag) : Sp := fun vs H Q _ => ∃ (a : Addr) (ns : List Int), vs = [.ref a] ∧ SqL K H a (ns.map V.int) ∧ ns.length ≤ 63 ∧ ∀ (H' : Hp) (p c : Addr), Same H H' → H p = none → H c = none → StOk H' p c → Q (.ref p) H'
theorem ok__law_start (T : Top P w K mg) : FnOk P w K mg base CX0 1 T.a__law_start T.d__law_start ["script"]  (sp__law_start K) := by
  refine T.F__law_start.ok sc__law_start (fun vs H Q E h => ?_) (fun cdv A outer s H vs Q E hr h => ?_)
  · obtain ⟨_, _, rfl, _⟩ := h
    rfl
  · obtain ⟨a, ns, rfl, hS, hlen, q⟩ := h
    refine ⟨_, (pss_cons (ps_set (i := 1) sc__law_start.nd rfl (by first | exact Or.inl rfl | exact Or.inr rfl) pe_int)
  (pss_cons (ps_for PassesOwn.never rfl (pi_list (pv 0)) (pg_name (i := 2) sc__law_start.nd rfl (by first | exact Or.inl rfl | exact Or.inr rfl))
  (pss_one (ps_set (i := 1) sc__law_start.nd rfl (by first | exact Or.inl rfl | exact Or.inr rfl) (pe_op op_mod (pe_callTy call_int1 (by rfl) T.m_int (by decide +kernel) (pa_cons (pe_op op_add (pe_op op_mul (pv 1) pe_int) (pv 2)) pa_nil)) pe_int))))
  (pss_one (ps_ret (pe_lst (pa_cons (pe_callTy call_list_of (by rfl) T.m_list (by decide +kernel) (pa_cons (pv 0) pa_nil)) (pa_cons pe_int (pa_cons pe_int (pa_cons (pe_op op_add (pv 1) pe_int) pa_nil))))))))), ?_⟩
    refine ⟨_, rfl, a, rfl, ⟨_, hS⟩, for_list (xs := ns.map V.int) (fun i σ H' => ∃ sd y2, σ = [some (.ref a), some (.int sd), y2] ∧ H' = H ∧ 0 ≤ sd ∧ sd < 1000003) ⟨7, none, rfl, rfl, by decide, by decide⟩ (fun i σ H' _ ⟨_, _, _, e, _⟩ => by rw [e]; exact hS) ?_ ?_⟩
    · rintro i x σ H' hi ⟨sd, y2, rfl, rfl, h0, h1⟩
      obtain ⟨n, _, rfl⟩ := List.mem_map.mp (List.mem_of_getElem? hi)
      refine ⟨_, rfl, _, _, rfl, rfl, .inl ⟨by omega, by omega⟩, _, rfl, _, _, rfl, rfl, .inl ⟨_, rfl, _, _, rfl, rfl, (by show (0 : Int) < 1000003; decide), ?_⟩⟩
      exact ⟨_, _, rfl, rfl, Int.emod_nonneg _ (by decide), Int.emod_lt_of_pos _ (by decide)⟩
    · rintro σ H' ⟨sd, y2, rfl, rfl, h0, h1⟩
      refine ⟨_, rfl, a, _, rfl, .inl hS, fun c hc => ?_⟩
      refine ⟨_, rfl, _, _, rfl, rfl, (by show 4 ≤ sizeLine; decide), fun p hp => ?_⟩
      have npc : p ≠ c := fun z => by rw [z, upd_same] at hp; cases hp
      refine q _ p c ((same_new hc).trans (same_new hp)) ((same_new hc).free hp) hc ⟨ns, 0, 0, sd + 1, npc, upd_same, ?_, hlen, by decide, by omega, by omega⟩
      rw [upd_ne npc.symm, upd_same]
      all_goals rfl
theorem ix4 {n : Nat} {i : Int} {j : Nat} (e : i = (j : Int)) (h : j < n) : ixN n i = some j := by
  subst e
  unfold ixN
  rw [if_pos (by omega), if_pos (by omega)]
  rfl
def sp__law_draw : Sp := fun vs H Q _ => ∃ (p c : Addr) (many : Int), vs = [.ref p, .int many] ∧ StOk H p c ∧ 0 < many ∧ many ≤ 1099511627775 ∧ ∀ (v : Int) (H' : Hp), 0 ≤ v → v < many → StOk H' p c → Keep p H H' → Q (.int v) H'
theorem ok__law_draw (T : Top P w K mg) : FnOk P w K mg base CX0 1 T.a__law_draw T.d__law_draw ["state", "many"]  sp__law_draw := by
  refine T.F__law_draw.ok sc__law_draw (fun vs H Q E h => ?_) (fun cdv A outer s H vs Q E hr h => ?_)
  · obtain ⟨_, _, _, rfl, _⟩ := h
    rfl
  · obtain ⟨p, c, many, rfl, hst, hm0, hm1, q⟩ := h
    obtain ⟨ms, k, v, sd, npc, hp, hc, hl, v0, s0, s1⟩ := hst
    refine ⟨_, (pss_cons (ps_if (pt_cmpR op_eq (pe_ix ix_list (pv 0) pe_int (fun _ _ => rfl)) pe_int (nomark _))
  (pss_cons (ps_if (pt_cmpR op_lt (pe_ix ix_list (pv 0) pe_int (fun _ _ => rfl)) (pe_callB call_len_seq (by rfl) T.m_len PySem.boot_len (pa_cons (pe_ix ix_list (pv 0) pe_int (fun _ _ => rfl)) pa_nil)) (nomark _))
  (pss_one (ps_asg (pe_callB call_abs (by rfl) T.m_abs (by decide +kernel) (pa_cons (pe_ix ix_list (pe_ix ix_list (pv 0) pe_int (fun _ _ => rfl)) (pe_ix ix_list (pv 0) pe_int (fun _ _ => rfl)) (fun _ _ => rfl)) pa_nil)) (pg_sub (pv 0) pe_int set_list)))
  (pss_cons (ps_asg (pe_op op_mod (pe_callTy call_int1 (by rfl) T.m_int (by decide +kernel) (pa_cons (pe_op op_add (pe_op op_mul (pe_ix ix_list (pv 0) pe_int (fun _ _ => rfl)) pe_int) pe_int) pa_nil)) pe_int) (pg_sub (pv 0) pe_int set_list))
  (pss_one (ps_asg (pe_op op_fdivW (pe_callTy call_int1 (by rfl) T.m_int (by decide +kernel) (pa_cons (pe_ix ix_list (pv 0) pe_int (fun _ _ => rfl)) pa_nil)) pe_int) (pg_sub (pv 0) pe_int set_list)))))
  (pss_one (ps_asg (pe_op op_add (pe_ix ix_list (pv 0) pe_int (fun _ _ => rfl)) pe_int) (pg_sub (pv 0) pe_int set_list))))
  pss_nil)
  (pss_cons (ps_set (i := 2) sc__law_draw.nd rfl (by first | exact Or.inl rfl | exact Or.inr rfl) (pe_op op_mod (pe_callTy call_int1 (by rfl) T.m_int (by decide +kernel) (pa_cons (pe_ix ix_list (pv 0) pe_int (fun _ _ => rfl)) pa_nil)) (pv 1)))
  (pss_cons (ps_asg (pe_op op_fdivW (pe_callTy call_int1 (by rfl) T.m_int (by decide +kernel) (pa_cons (pe_ix ix_list (pv 0) pe_int (fun _ _ => rfl)) pa_nil)) (pv 1)) (pg_sub (pv 0) pe_int set_list))
  (pss_one (ps_ret (pv 2)))))), ?_⟩
    have fin : ∀ (k' : Nat) (v' sd' : Int) (H' : Hp), H' = upd H p (.lst [.ref c, .int k', .int v', .int sd']) → 0 ≤ v' → 0 ≤ sd' → sd' ≤ 2147483647 → Q (.int (v' % many)) (upd H' p (.lst [.ref c, .int k', .int (v' / many), .int sd'])) := fun k' v' sd' H' e hv h0 h1 => by
      subst e
      refine q _ _ (Int.emod_nonneg _ (by omega)) (Int.emod_lt_of_pos _ hm0) ⟨ms, k', v' / many, sd', npc, upd_same, ?_, hl, Int.ediv_nonneg hv (by omega), h0, h1⟩ ?_
      · rw [upd_ne npc.symm, upd_ne npc.symm]
        exact hc
      · exact Keep.at.trans Keep.at
    have hw : many.natAbs < 2 ^ 40 := by omega
    refine ⟨_, rfl, p, _, 2, .int v, rfl, rfl, SqL.of hp, atI_nat (j := 2) rfl, rfl, _, rfl, ite2 (fun cc => ?_) (fun cc => ?_)⟩
    · -- the next cell, or a mixed one
      have key : ∀ (v2 sd2 : Int) (H2 : Hp), H2 = upd H p (.lst [.ref c, .int k, .int v2, .int sd2]) → 0 ≤ v2 → 0 ≤ sd2 → sd2 ≤ 2147483647 → _ := fun v2 sd2 H2 e hv h0 h1 => fin (k + 1) v2 sd2 (upd H2 p (.lst [.ref c, .int ((k + 1 : Nat) : Int), .int v2, .int sd2])) (by rw [e, upd_upd]) hv h0 h1
      refine ⟨_, rfl, p, _, 1, .int k, rfl, rfl, SqL.of hp, atI_nat (j := 1) rfl, _, rfl, p, _, 0, .ref c, rfl, rfl, SqL.of hp, atI_nat (j := 0) rfl, c, _, rfl, .inl (SqL.of hc), _, _, rfl, rfl, _, rfl, ite2 (fun c2 => ?_) (fun c2 => ?_)⟩
      · have hk : k < ms.length := by
          have := of_decide_eq_true c2
          rw [List.length_map] at this
          omega
        obtain ⟨m, hm⟩ : ∃ m, ms[k]? = some m := ⟨_, List.getElem?_eq_getElem hk⟩
        refine ⟨_, rfl, p, _, 0, .ref c, rfl, rfl, SqL.of hp, atI_nat (j := 0) rfl, _, rfl, p, _, 1, .int k, rfl, rfl, SqL.of hp, atI_nat (j := 1) rfl, c, _, k, .int m, rfl, rfl, SqL.of hc, atI_nat (j := k) (by rw [List.getElem?_map, hm]; rfl), _, rfl, ?_⟩
        refine ⟨_, rfl, p, _, 2, 2, rfl, rfl, hp, rfl, ?_⟩
        refine ⟨_, rfl, p, _, 1, .int k, rfl, rfl, SqL.of upd_same, atI_nat (j := 1) rfl, _, _, rfl, rfl, _, rfl, p, _, 1, 1, rfl, rfl, upd_same, rfl, ?_⟩
        refine ⟨_, rfl, p, _, 2, .int (absI m), rfl, rfl, SqL.of upd_same, atI_nat (j := 2) rfl, .inl ⟨_, rfl, _, rfl, _, _, rfl, rfl, hm0, ?_⟩⟩
        refine ⟨_, rfl, p, _, 2, .int (absI m), rfl, rfl, SqL.of upd_same, atI_nat (j := 2) rfl, .inl ⟨_, rfl, _, rfl, _, _, rfl, rfl, wide_div hm0 hw (by decide) (by decide), _, rfl, p, _, 2, 2, rfl, rfl, upd_same, rfl, ?_⟩⟩
        exact ⟨_, rfl, key (absI m) sd _ rfl (abs_nn m) s0 s1⟩
      · have m0 := Int.emod_nonneg (sd * 48271 + 12345) (show (2147483647 : Int) ≠ 0 by decide)
        have m1 := Int.emod_lt_of_pos (sd * 48271 + 12345) (show (0 : Int) < 2147483647 by decide)
        refine ⟨_, rfl, p, _, 3, .int sd, rfl, rfl, SqL.of hp, atI_nat (j := 3) rfl, _, _, rfl, rfl, .inl ⟨by omega, by omega⟩, _, _, rfl, rfl, .inl ⟨_, rfl, _, _, rfl, rfl, (by show (0 : Int) < 2147483647; decide), ?_⟩⟩
        refine ⟨_, rfl, p, _, 3, 3, rfl, rfl, hp, rfl, ?_⟩
        refine ⟨_, rfl, p, _, 3, .int ((sd * 48271 + 12345) % 2147483647), rfl, rfl, SqL.of upd_same, atI_nat (j := 3) rfl, .inl ⟨_, rfl, _, _, rfl, rfl, wide_div (b := 10) (by decide) (by decide) (by decide) (by decide), _, rfl, p, _, 2, 2, rfl, rfl, upd_same, rfl, ?_⟩⟩
        refine ⟨_, rfl, p, _, 1, .int k, rfl, rfl, SqL.of upd_same, atI_nat (j := 1) rfl, _, _, rfl, rfl, _, rfl, p, _, 1, 1, rfl, rfl, upd_same, rfl, ?_⟩
        refine ⟨_, rfl, p, _, 2, .int ((sd * 48271 + 12345) % 2147483647 / 64), rfl, rfl, SqL.of upd_same, atI_nat (j := 2) rfl, .inl ⟨_, rfl, _, rfl, _, _, rfl, rfl, hm0, ?_⟩⟩
        refine ⟨_, rfl, p, _, 2, .int ((sd * 48271 + 12345) % 2147483647 / 64), rfl, rfl, SqL.of upd_same, atI_nat (j := 2) rfl, .inl ⟨_, rfl, _, rfl, _, _, rfl, rfl, wide_div hm0 hw (by decide) (by decide), _, rfl, p, _, 2, 2, rfl, rfl, upd_same, rfl, ?_⟩⟩
        exact ⟨_, rfl, key ((sd * 48271 + 12345) % 2147483647 / 64) ((sd * 48271 + 12345) % 2147483647) _ (by rw [upd_upd]; rfl) (Int.ediv_nonneg m0 (by decide)) m0 (by omega)⟩
    · refine ⟨_, rfl, p, _, 2, .int v, rfl, rfl, SqL.of hp, atI_nat (j := 2) rfl, .inl ⟨_, rfl, _, rfl, _, _, rfl, rfl, hm0, ?_⟩⟩
      refine ⟨_, rfl, p, _, 2, .int v, rfl, rfl, SqL.of hp, atI_nat (j := 2) rfl, .inl ⟨_, rfl, _, rfl, _, _, rfl, rfl, wide_div hm0 hw (by decide) (by decide), _, rfl, p, _, 2, 2, rfl, rfl, hp, rfl, ?_⟩⟩
      have := fin k v sd H (upd_self hp).symm v0 s0 s1
      exact ⟨_, rfl, this⟩
end

theorem bits_lt {n : Int} (h : Builtin.Int.intBits n ≤ 1048576) : n.natAbs < 2 ^ 1048576 := by
  unfold Builtin.Int.intBits at h
  by_cases e : n = 0
  · subst e; exact Nat.pow_pos (by decide)
  · have z : (n == 0) = false := by simpa using e
    rw [z] at h
    have h2 : n.natAbs.log2 < 1048576 := h
    exact (Nat.log2_lt (by omega)).mp h2
/-! ### deadbeat.words, decimal: an integer in decimal, some digits at a time -/
theorem dec_str (m : Nat) (h : m < 1000000000000000000) : (Str.ofString (toString ((m : Nat) : Int))).length ≤ 18 := by
  rw [SX.num_S m, SX.S_len]
  exact TL.numL_len (k := 18) (by decide) (by omega)
theorem dec_log (m : Nat) (h : m < 1000000000000000000) : ((m : Int).natAbs).log2 < 1920 := by
  by_cases h0 : m = 0
  · subst h0; decide
  · have z : ((m : Int).natAbs) = m := rfl
    rw [z]
    exact Nat.lt_trans ((Nat.log2_lt h0).mpr (show m < 2 ^ 60 by omega)) (by decide)
theorem zfill_le (x : Str) (h : x.length ≤ 18) : (Txt.zfill x 18).length ≤ 18 := by
  unfold Txt.zfill
  by_cases c : (18 : Int) ≤ x.length
  · rw [if_pos c]; exact h
  · rw [if_neg c]
    unfold PySem.zfilled
    have key : ∀ c, x.cps[0]? = some c → 1 ≤ x.length := fun c hc => (Array.getElem?_eq_some_iff.mp hc).1
    split
    · rename_i hc'
      have h2 := key _ hc'
      rw [PySem.size_cat, PySem.size_padded, PySem.size_strSub x 0 1 h2, PySem.size_strSub x 1 x.length (Nat.le_refl _)]; omega
    · rename_i hc'
      have h2 := key _ hc'
      rw [PySem.size_cat, PySem.size_padded, PySem.size_strSub x 0 1 h2, PySem.size_strSub x 1 x.length (Nat.le_refl _)]; omega
    · rw [PySem.size_padded]; omega
/-- the pieces so far: some short texts, what is left of n -/
structure DecInv (n : Int) (ps : List Str) (r : Int) : Prop where
  r0 : 0 ≤ r
  pos : ps = [] ∧ r = n.natAbs ∨ 1 ≤ r ∧ 1000000000000000000 ≤ n.natAbs
  le : r.toNat * (1000000000000000000 : Nat) ^ ps.length ≤ n.natAbs
  short : ∀ p ∈ ps, p.length ≤ 18
theorem dec_count {n : Int} {ps : List Str} {r : Int} (d : DecInv n ps r) (h : n.natAbs < 2 ^ 1048576) : ps.length ≤ 20000 := by
  rcases d.pos with ⟨e, _⟩ | e
  · rw [e]; exact Nat.zero_le _
  · have h1 : 1 ≤ r.toNat := by omega
    have h2 : (2 ^ 59 : Nat) ^ ps.length ≤ n.natAbs :=
      Nat.le_trans (Nat.pow_le_pow_left (show (2 ^ 59 : Nat) ≤ 1000000000000000000 by decide) _) (Nat.le_trans (Nat.le_mul_of_pos_left _ h1) d.le)
    rw [← Nat.pow_mul] at h2
    have h3 : 59 * ps.length < 1048576 := (Nat.pow_lt_pow_iff_right (by decide : 1 < 2)).mp (Nat.lt_of_le_of_lt h2 h)
    omega
theorem sum_short {ps : List Str} (h : ∀ p ∈ ps, p.length ≤ 18) : (ps.map (·.length)).sum ≤ 18 * ps.length := by
  induction ps with
  | nil => simp
  | cons a r ih =>
    have h1 := h a (by simp)
    have h2 := ih fun p hp => h p (by simp [hp])
    simp only [List.map_cons, List.sum_cons, List.length_cons]
    omega
section
variable {P : Program} {w : World} {K : PySem.W.Frag} {mg : Str → Option Value} {base : Heap}
def sp_decimal : Sp := fun vs H Q _ => ∃ n : Int, vs = [.int n] ∧ n.natAbs < 2 ^ 1048576 ∧
  ∀ (z : Str) (H' : Hp), z.length ≤ 1000000 → (0 ≤ n → n < 1000000000000000000 → z = toString n) → Same H H' → Q (.str z) H'
theorem ok_decimal (T : Top P w K mg) : FnOk P w K mg base CX0 1 T.a_decimal T.d_decimal ["n"]  sp_decimal := by
  refine T.F_decimal.ok sc_decimal (fun vs H Q E h => ?_) (fun cdv A outer s H vs Q E hr h => ?_)
  · obtain ⟨_, rfl, _⟩ := h
    rfl
  · obtain ⟨n, rfl, hn, q⟩ := h
    refine ⟨_, (pss_cons (ps_set (i := 1) sc_decimal.nd rfl (by first | exact Or.inl rfl | exact Or.inr rfl) (pe_lst pa_nil))
  (pss_cons (ps_set (i := 2) sc_decimal.nd rfl (by first | exact Or.inl rfl | exact Or.inr rfl) (pe_callB call_abs (by rfl) T.m_abs (by decide +kernel) (pa_cons (pv 0) pa_nil)))
  (pss_cons (ps_while PassesOwn.never (pt_cmpR op_ge (pv 2) (pe_gi (by rfl) T.c_PIECE) (nomark _))
  (pss_cons (ps_asg (pe_callB call_divmodW (by rfl) T.m_divmod (by decide +kernel) (pa_cons (pv 2) (pa_cons (pe_gi (by rfl) T.c_PIECE) pa_nil))) (pg_tup rfl (pgs_cons (pg_name (i := 2) sc_decimal.nd rfl (by first | exact Or.inl rfl | exact Or.inr rfl)) (pgs_cons (pg_name (i := 3) sc_decimal.nd rfl (by first | exact Or.inl rfl | exact Or.inr rfl)) pgs_nil))))
  (pss_one (ps_expr (pe_bm PySem.F.plainAttrs_list PySem.F.slot_list_append PySem.F.type_list_append mt_append (pv 1) (pa_cons (pe_bm PySem.F.plainAttrs_str PySem.F.slot_str_zfill PySem.F.type_str_zfill mt_zfill (pe_callTy call_str_int (by rfl) T.m_str (by decide +kernel) (pa_cons (pv 3) pa_nil)) (pa_cons (pe_gi (by rfl) T.c_PIECE_DIGITS) pa_nil)) pa_nil))))))
  (pss_cons (ps_expr (pe_bm PySem.F.plainAttrs_list PySem.F.slot_list_append PySem.F.type_list_append mt_append (pv 1) (pa_cons (pe_callTy call_str_int (by rfl) T.m_str (by decide +kernel) (pa_cons (pv 2) pa_nil)) pa_nil)))
  (Evl.pss_cut (ps_if (pt_cmpR op_lt (pv 0) pe_int (nomark _))
  (pss_one (ps_expr (pe_bm PySem.F.plainAttrs_list PySem.F.slot_list_append PySem.F.type_list_append mt_append (pv 1) (pa_cons pe_str pa_nil))))
  pss_nil)
  (pss_one (ps_ret (pe_bm PySem.F.plainAttrs_str PySem.F.slot_str_join PySem.F.type_str_join mt_join pe_str (pa_cons (pe_revL (pv 1)) pa_nil))))))))), ?_⟩
    refine ⟨Nat.zero_le _, fun p np => ?_⟩
    refine ⟨_, rfl, n, rfl, ?_⟩
    have ea : (if n < 0 then -n else n) = ((n.natAbs : Nat) : Int) := by split <;> omega
    show gName 2 (V.int (if n < 0 then -n else n)) _ _ _
    rw [ea]
    refine while_by (fun σ H' => ∃ (ps : List Str) (r : Int) (y : Option V), σ = [some (.int n), some (.ref p), some (.int r), y] ∧ H' p = some (.lst (ps.map V.str)) ∧ Same H H' ∧ DecInv n ps r)
      (fun σ _ => match σ with | [_, _, some (.int r), _] => r.toNat | _ => 0) ⟨[], _, none, rfl, upd_same, same_new np, ⟨by omega, .inl ⟨rfl, rfl⟩, by simp, by simp⟩⟩ ?_ ?_
    rotate_left
    · intro σ H' Q1 Q2 f h
      obtain ⟨i, h1, j, h2, a, h3, h4, h5, h6⟩ := h
      exact ⟨i, h1, j, h2, a, h3, h4, h5, f _ _ h6⟩
    · rintro σ H1 ⟨ps, r, y, rfl, hp, sm, d⟩
      have hcnt := dec_count d hn
      refine ⟨_, rfl, _, _, rfl, rfl, _, rfl, ?_⟩
      by_cases c : (1000000000000000000 : Int) ≤ r
      · rw [decide_eq_true c]
        refine iteT ?_
        refine ⟨_, rfl, _, _, rfl, ⟨by decide, PyProof.noPylong_of_log2 (by decide)⟩, fun t nt => ?_⟩
        have tp : p ≠ t := ne_of_none hp nt
        obtain ⟨lo, elo⟩ : ∃ lo : Nat, r % 1000000000000000000 = (lo : Int) := ⟨(r % 1000000000000000000).toNat, by omega⟩
        have lo1 : lo < 1000000000000000000 := by omega
        rw [elo]
        refine ⟨t, _, rfl, SqT.of upd_same, rfl, _, _, rfl, _, _, rfl, rfl, ?_⟩
        have hp' : upd H1 t (.tup [.int (r / 1000000000000000000), .int (lo : Int)]) p = some (.lst (ps.map V.str)) := by rw [upd_ne tp]; exact hp
        refine ⟨_, rfl, .inl ⟨rfl, _, SqL.of hp'⟩, _, rfl, _, rfl, dec_log lo lo1, rfl, _, _, rfl, rfl, rfl, p, _, _, rfl, rfl, hp', ?_, ?_⟩
        · rw [List.length_map, sizeLine_eq]; omega
        have z1 := zfill_le _ (dec_str lo lo1)
        refine ⟨⟨ps ++ [Txt.zfill (Str.ofString (toString ((lo : Nat) : Int))) 18], _, _, rfl, by rw [upd_same, List.map_append]; rfl, (sm.off (sm.free nt)).off np, ?_⟩, ?_⟩
        · have big : 1000000000000000000 ≤ n.natAbs := by
            have := Nat.le_trans (Nat.le_mul_of_pos_right r.toNat (Nat.pow_pos (n := ps.length) (by decide : 0 < 1000000000000000000))) d.le
            omega
          refine ⟨by omega, .inr ⟨by omega, big⟩, ?_, fun x hx => ?_⟩
          · rw [List.length_append, List.length_singleton, Nat.pow_succ, Nat.mul_comm ((1000000000000000000 : Nat) ^ ps.length), ← Nat.mul_assoc]
            refine Nat.le_trans (Nat.mul_le_mul_right _ ?_) d.le
            omega
          · rcases List.mem_append.mp hx with hx | hx
            · exact d.short x hx
            · rw [List.mem_singleton.mp hx]; exact z1
        · show (r / 1000000000000000000).toNat < r.toNat
          omega
      · rw [decide_eq_false c]
        refine iteF ?_
        have r0 := d.r0
        obtain ⟨m, rfl⟩ : ∃ m : Nat, r = (m : Int) := ⟨r.toNat, by omega⟩
        have m1 : m < 1000000000000000000 := by omega
        refine ⟨_, rfl, .inl ⟨rfl, _, SqL.of hp⟩, _, rfl, _, rfl, dec_log m m1, p, _, _, rfl, rfl, hp, ?_, ?_⟩
        · rw [List.length_map, sizeLine_eq]; omega
        obtain ⟨qs, eqs⟩ : ∃ qs : List Str, qs = ps ++ [Str.ofString (toString ((m : Nat) : Int))] := ⟨_, rfl⟩
        have hq : upd H1 p (.lst (ps.map V.str ++ [V.str (Str.ofString (toString ((m : Nat) : Int)))])) p = some (.lst (qs.map V.str)) := by rw [upd_same, eqs, List.map_append]; rfl
        have sm2 : Same H (upd H1 p (.lst (ps.map V.str ++ [V.str (Str.ofString (toString ((m : Nat) : Int)))]))) := sm.off np
        have short : ∀ x ∈ qs, x.length ≤ 18 := fun x hx => by
          rw [eqs] at hx
          rcases List.mem_append.mp hx with hx | hx
          · exact d.short x hx
          · rw [List.mem_singleton.mp hx]; exact dec_str m m1
        have cnt : qs.length ≤ 20001 := by rw [eqs, List.length_append, List.length_singleton]; omega
        refine ⟨fun σ' H2 => ∃ rs : List Str, σ' = [some (.int n), some (.ref p), some (.int (m : Int)), y] ∧ (∀ x ∈ rs, x.length ≤ 18) ∧ rs.length ≤ 20002 ∧ H2 p = some (.lst (rs.map V.str)) ∧ Same H H2 ∧ (0 ≤ n → n < 1000000000000000000 → rs = [Str.ofString (toString n)]), ?_, ?_⟩
        · refine ⟨_, rfl, _, _, rfl, rfl, _, rfl, ite2 (fun c2 => ?_) (fun c2 => ?_)⟩
          · have neg := of_decide_eq_true c2
            refine ⟨_, rfl, .inl ⟨rfl, _, SqL.of hq⟩, p, _, _, rfl, rfl, hq, ?_, ?_⟩
            · rw [List.length_map, sizeLine_eq]; omega
            · refine ⟨qs ++ [("-" : Str)], rfl, fun x hx => ?_, ?_, (by rw [upd_same, List.map_append]; rfl), sm2.off np, fun a _ => absurd neg (by omega)⟩
              · rcases List.mem_append.mp hx with hx | hx
                · exact short x hx
                · rw [List.mem_singleton.mp hx]; decide
              · rw [List.length_append]; exact Nat.succ_le_succ cnt
          · refine ⟨qs, rfl, short, (by omega), hq, sm2, fun a b => ?_⟩
            rcases d.pos with ⟨e, e2⟩ | ⟨e, e2⟩
            · have e3 : n = (m : Int) := by omega
              rw [eqs, e, e3]
              rfl
            · omega
        · rintro σ' H2 ⟨rs, rfl, hs, hl, h2, s2, hz⟩
          have sum := sum_short (ps := rs.reverse) (fun x hx => hs x (List.mem_reverse.mp hx))
          rw [List.length_reverse] at sum
          have e0 : ("" : Str).length = 0 := rfl
          refine ⟨rfl, _, rfl, p, _, rfl, SqL.of h2, fun u nu => ⟨"", u, rs.reverse, rfl, rfl, .inl (SqL.of (by rw [upd_same, List.map_reverse])), ?_, q _ _ ?_ (fun a b => ?_) (s2.trans (same_new nu))⟩⟩
          · rw [e0]; omega
          · show (PySem.Builtin.Str.glued "" rs.reverse).length ≤ _
            rw [PySem.size_glued, e0]; omega
          · rw [hz a b]
            rfl
end

/-! ### the costs of the processor -/
structure Cost where
  (fh fm pl mu dv lh lm st tk ct po rl sw en lv fi : Int)
def Cost.l (c : Cost) : List Int := [c.fh, c.fm, c.pl, c.mu, c.dv, c.lh, c.lm, c.st, c.tk, c.ct, c.po, c.rl, c.sw, c.en, c.lv, c.fi]
def Cost.fs (c : Cost) : List (Str × V) := [("fetch_hit", .int c.fh), ("fetch_miss", .int c.fm), ("plain", .int c.pl), ("mul", .int c.mu), ("div", .int c.dv), ("load_hit", .int c.lh), ("load_miss", .int c.lm), ("store", .int c.st), ("taken", .int c.tk), ("count", .int c.ct), ("port", .int c.po), ("release", .int c.rl), ("switch", .int c.sw), ("enter", .int c.en), ("leave", .int c.lv), ("finish", .int c.fi)]
/-- all its numbers are small -/
def Cost.Sm (c : Cost) : Prop := ∀ x ∈ c.l, -1 ≤ x ∧ x ≤ 1000
structure Cost.Ok (c : Cost) : Prop where
  a : ∀ x ∈ [c.fh, c.fm, c.pl, c.mu, c.dv, c.lh, c.lm, c.st, c.tk, c.ct, c.po], 1 ≤ x ∧ x ≤ 64
  b : ∀ x ∈ [c.rl, c.sw, c.en, c.lv, c.fi], 0 ≤ x ∧ x ≤ 64
  f : c.fh ≤ c.fm
  l : c.lh ≤ c.lm
theorem Cost.sm1 {c : Cost} (h : c.Sm) : ∀ x ∈ [c.fh, c.fm, c.pl, c.mu, c.dv, c.lh, c.lm, c.st, c.tk, c.ct, c.po], -1 ≤ x ∧ x ≤ 1000 := fun x m => h x (List.mem_append_left [c.rl, c.sw, c.en, c.lv, c.fi] m)
theorem Cost.sm2 {c : Cost} (h : c.Sm) : ∀ x ∈ [c.rl, c.sw, c.en, c.lv, c.fi], -1 ≤ x ∧ x ≤ 1000 := fun x m => h x (List.mem_append_right [c.fh, c.fm, c.pl, c.mu, c.dv, c.lh, c.lm, c.st, c.tk, c.ct, c.po] m)
def CostsAt (C : Addr) (H : Hp) (o : Addr) (c : Cost) : Prop := ∃ dx, H o = some (.ins C dx c.fs)
theorem CostsAt.same {C : Addr} {H H' : Hp} {o : Addr} {c : Cost} (h : CostsAt C H o c) (s : Same H H') : CostsAt C H' o c := by
  obtain ⟨dx, h⟩ := h
  exact ⟨dx, s _ _ h⟩
theorem msg_pl {P : Program} {w : World} {K : PySem.W.Frag} {mg : Str → Option Value} {base : Heap} (T : Top P w K mg) {CX : CXT} {N : List Str} {qual : Str} {scope : Scope} {f : Addr} {cd : Value} {A : Around} {outer : List Env} {s : Shared} {H : Hp} {E : XK} {mp : Pos} {n : Int} (h : -1 ≤ n) (h2 : n ≤ 100000) :
    MsgV (cxOf CX P w K mg base N qual scope f cd A outer s H E) 1 [("decimal", .globalImplicit)] parts_PlanError mp "at" (.int n) :=
  have hb : n.natAbs < 2 ^ 1048576 := Nat.lt_of_le_of_lt (show n.natAbs ≤ 100000 by omega) (Nat.lt_of_lt_of_le (show 100000 < 2 ^ 17 by decide) (Nat.pow_le_pow_right (by decide) (by decide)))
  msg_dec2 (X := cxOf CX P w K mg base N qual scope f cd A outer s H E) (ok_decimal T) T.g_decimal T.F_decimal.kp T.b_decimal (fun Q E q => ⟨n, rfl, hb, fun z H' hz _ _ => q z H' hz⟩) rfl rfl (by decide) (fun _ => rfl) (by decide)
theorem and_cut {a b : Prop} [Decidable a] [Decidable b] {G : Prop} (h : ¬ (a ∧ b)) (h1 : decide a = false → G) (h2 : decide a = true → decide b = false → G) : G := by
  by_cases ha : a
  · exact h2 (decide_eq_true ha) (decide_eq_false fun hb => h ⟨ha, hb⟩)
  · exact h1 (decide_eq_false ha)
def AtOut (C : Addr) (H : Hp) (E : XK) : Prop := ∀ (n : Int) H' d, Same H H' → H d = none → H' d = some (.xd [(("at" : Str), .int n)]) → E (.ref C) (some d) H'

section
variable {P : Program} {w : World} {K : PySem.W.Frag} {mg : Str → Option Value} {base : Heap}
def sp__check_costs (K : PySem.W.Frag) (PE : Addr) : Sp := fun vs H Q E => ∃ (l : Addr) (ns : List Int) (n : Int), vs = [.ref l, .int n] ∧ SqL K H l (ns.map V.int) ∧ ns.length ≤ 100 ∧ (∀ x ∈ ns, -1 ≤ x ∧ x ≤ 1000) ∧
  ((∀ x ∈ ns, n ≤ x ∧ x ≤ 64) → Q .non H) ∧ (¬ (∀ x ∈ ns, n ≤ x ∧ x ≤ 64) → AtOut PE H E)
theorem ok__check_costs (T : Top P w K mg) : FnOk P w K mg base (L2.CX P w) 4 T.a__check_costs T.d__check_costs ["costs", "least"]  (sp__check_costs K T.C_PlanError) := by
  refine T.F__check_costs.okX sc__check_costs (fun vs H Q E h => ?_) (fun cdv A outer s H vs Q E hr h => ?_)
  · obtain ⟨_, _, _, rfl, _⟩ := h
    rfl
  · obtain ⟨l, ns, n, rfl, hl, ln, sm, q, qe⟩ := h
    refine ⟨_, (pss_one (ps_for (passes_of rfl) rfl (pi_list (pv 0)) (pg_name (i := 2) sc__check_costs.nd rfl (by first | exact Or.inl rfl | exact Or.inr rfl))
  (pss_one (ps_if (pt_not (pt_chain op_le op_le (pv 1) (pv 2) (pe_gi (by rfl) T.c_GREATEST_COST)))
  (pss_one (ps_raiseErr (lv := 1) rfl T.x_PlanError fo_PlanError hr (takes_of rfl rfl rfl rfl) (pa_cons (pv 2) pa_nil)))
  pss_nil)))), ?_⟩
    rw [show ∀ a0 a1 : V, L2.start ["costs", "least", "cost"] [a0, a1] = [some a0, some a1, none] from fun _ _ => rfl]
    walk_at "my rn"
    refine for_it (walk_list (xs := ns.map V.int)) (fun i σ H' => ∃ y, σ = [some (.ref l), some (.int n), y] ∧ H' = H ∧ ∀ x ∈ ns.take i, n ≤ x ∧ x ≤ 64) ⟨none, rfl, rfl, fun x m => by rw [List.take_zero] at m; cases m⟩ (fun i σ H' _ ⟨_, _, e, _⟩ => by rw [e]; exact hl) ?_ ?_
    · rintro i x σ Ho H' hi ⟨y, rfl, rfl, al⟩ ⟨rfl, hx⟩
      rw [List.getElem?_map] at hx
      obtain ⟨v, hv, rfl⟩ : ∃ v, ns[i]? = some v ∧ V.int v = x := by
        cases z : ns[i]? with
        | none => rw [z] at hx; cases hx
        | some v => rw [z] at hx; exact ⟨v, rfl, Option.some.inj hx⟩
      have mv := List.mem_of_getElem? hv
      have bv := sm v mv
      walk_at "my rn"
      refine Rd.ifD (fun h1 => ?_) fun h1 => ?_
      · walk_at "my rn"
        refine Rd.ifN (p := v ≤ 64) (fun h2 => ?_) fun h2 => ?_
        · refine ⟨_, rfl, _, rfl, msg_pl T (by omega) (by omega), fun d hd => ?_⟩
          exact qe (fun z => h2 (z v mv).2) _ _ d (same_new hd) hd upd_same
        · refine ⟨_, rfl, rfl, fun x m => ?_⟩
          rw [List.take_add_one, hv] at m
          rcases List.mem_append.mp m with m | m
          · exact al x m
          · rw [show x = v from by simpa using m]
            omega
      · walk_at "my rn"
        refine ⟨_, rfl, _, rfl, msg_pl T (by omega) (by omega), fun d hd => ?_⟩
        exact qe (fun z => h1 (z v mv).1) _ _ d (same_new hd) hd upd_same
    · rintro σ H' ⟨y, rfl, rfl, al⟩
      refine q fun x m => al x ?_
      rw [List.take_of_length_le (by rw [List.length_map]; exact Nat.le_refl _)]
      exact m
def sp__check_miss (PE : Addr) : Sp := fun vs H Q E => ∃ (a b : Int), vs = [.int a, .int b] ∧ -1 ≤ b ∧ b ≤ 1000 ∧ (a ≤ b → Q .non H) ∧ (¬ a ≤ b → AtOut PE H E)
theorem ok__check_miss (T : Top P w K mg) : FnOk P w K mg base (L2.CX P w) 4 T.a__check_miss T.d__check_miss ["hit", "miss"]  (sp__check_miss T.C_PlanError) := by
  refine T.F__check_miss.okX sc__check_miss (fun vs H Q E h => ?_) (fun cdv A outer s H vs Q E hr h => ?_)
  · obtain ⟨_, _, rfl, _⟩ := h
    rfl
  · obtain ⟨a, b, rfl, b1, b2, q, qe⟩ := h
    refine ⟨_, (pss_one (ps_if (pt_cmpR op_lt (pv 1) (pv 0) (nomark _))
  (pss_one (ps_raiseErr (lv := 1) rfl T.x_PlanError fo_PlanError hr (takes_of rfl rfl rfl rfl) (pa_cons (pv 1) pa_nil)))
  pss_nil)), ?_⟩
    rw [show ∀ a0 a1 : V, L2.start ["hit", "miss"] [a0, a1] = [some a0, some a1] from fun _ _ => rfl]
    walk_at "my rn"
    refine Rd.ifD (fun h1 => ?_) fun h1 => ?_
    · refine ⟨_, rfl, _, rfl, msg_pl T (by omega) (by omega), fun d hd => ?_⟩
      exact qe (by omega) _ _ d (same_new hd) hd upd_same
    · exact q (by omega)
def sp_Costs_init (C PE : Addr) : Sp := fun vs H Q E => ∃ (o dx : Addr) (c : Cost), vs = .ref o :: c.l.map V.int ∧ c.Sm ∧ H o = some (.ins C dx []) ∧
  (c.Ok → ∀ (H' : Hp), H' o = some (.ins C dx c.fs) → (∀ b x, b ≠ o → H b = some x → H' b = some x) → Q .non H') ∧ (¬ c.Ok → AtOut PE H E)
theorem AtOut.same {C : Addr} {H H1 : Hp} {E : XK} (h : AtOut C H E) (s : Same H H1) : AtOut C H1 E := fun n H' d s1 nd hd => h n H' d (s.trans s1) (s.free nd) hd
theorem ok_Costs_init (T : Top P w K mg) : FnOk P w K mg base (L2.CX P w) 5 T.a_Costs_init T.d_Costs_init ["self", "fetch_hit", "fetch_miss", "plain", "mul", "div", "load_hit", "load_miss", "store", "taken", "count", "port", "release", "switch", "enter", "leave", "finish"]  (sp_Costs_init T.C_Costs T.C_PlanError) := by
  refine T.F_Costs_init.ok sc_Costs_init (fun vs H Q E h => ?_) (fun cdv A outer s H vs Q E hr h => ?_)
  · obtain ⟨_, _, _, rfl, _⟩ := h
    rfl
  · obtain ⟨o, dx, c, rfl, sm, ho, q, qe⟩ := h
    refine ⟨_, (pss_cons (ps_expr (pe_callS (ok__check_costs T) (hr.mono (by decide)) (by rfl) T.g__check_costs T.F__check_costs.kp T.b__check_costs (fun σ => passAt (takes_of rfl rfl rfl rfl) σ) (pa_cons (pe_lst (pa_cons (pv 1) (pa_cons (pv 2) (pa_cons (pv 3) (pa_cons (pv 4) (pa_cons (pv 5) (pa_cons (pv 6) (pa_cons (pv 7) (pa_cons (pv 8) (pa_cons (pv 9) (pa_cons (pv 10) (pa_cons (pv 11) pa_nil)))))))))))) (pa_cons pe_int pa_nil))))
  (pss_cons (ps_expr (pe_callS (ok__check_costs T) (hr.mono (by decide)) (by rfl) T.g__check_costs T.F__check_costs.kp T.b__check_costs (fun σ => passAt (takes_of rfl rfl rfl rfl) σ) (pa_cons (pe_lst (pa_cons (pv 12) (pa_cons (pv 13) (pa_cons (pv 14) (pa_cons (pv 15) (pa_cons (pv 16) pa_nil)))))) (pa_cons pe_int pa_nil))))
  (pss_cons (ps_expr (pe_callS (ok__check_miss T) (hr.mono (by decide)) (by rfl) T.g__check_miss T.F__check_miss.kp T.b__check_miss (fun σ => passAt (takes_of rfl rfl rfl rfl) σ) (pa_cons (pv 1) (pa_cons (pv 2) pa_nil))))
  (pss_cons (ps_expr (pe_callS (ok__check_miss T) (hr.mono (by decide)) (by rfl) T.g__check_miss T.F__check_miss.kp T.b__check_miss (fun σ => passAt (takes_of rfl rfl rfl rfl) σ) (pa_cons (pv 6) (pa_cons (pv 7) pa_nil))))
  (pss_cons (ps_fld (pv 0) (pv 1) rfl)
  (pss_cons (ps_fld (pv 0) (pv 2) rfl)
  (pss_cons (ps_fld (pv 0) (pv 3) rfl)
  (pss_cons (ps_fld (pv 0) (pv 4) rfl)
  (pss_cons (ps_fld (pv 0) (pv 5) rfl)
  (pss_cons (ps_fld (pv 0) (pv 6) rfl)
  (pss_cons (ps_fld (pv 0) (pv 7) rfl)
  (pss_cons (ps_fld (pv 0) (pv 8) rfl)
  (pss_cons (ps_fld (pv 0) (pv 9) rfl)
  (pss_cons (ps_fld (pv 0) (pv 10) rfl)
  (pss_cons (ps_fld (pv 0) (pv 11) rfl)
  (pss_cons (ps_fld (pv 0) (pv 12) rfl)
  (pss_cons (ps_fld (pv 0) (pv 13) rfl)
  (pss_cons (ps_fld (pv 0) (pv 14) rfl)
  (pss_cons (ps_fld (pv 0) (pv 15) rfl)
  (pss_one (ps_fld (pv 0) (pv 16) rfl))))))))))))))))))))), ?_⟩
    unfold Cost.l
    simp only [List.map_cons, List.map_nil]
    rw [show ∀ a0 a1 a2 a3 a4 a5 a6 a7 a8 a9 a10 a11 a12 a13 a14 a15 a16 : V, L2.start ["self", "fetch_hit", "fetch_miss", "plain", "mul", "div", "load_hit", "load_miss", "store", "taken", "count", "port", "release", "switch", "enter", "leave", "finish"] [a0, a1, a2, a3, a4, a5, a6, a7, a8, a9, a10, a11, a12, a13, a14, a15, a16] = [some a0, some a1, some a2, some a3, some a4, some a5, some a6, some a7, some a8, some a9, some a10, some a11, some a12, some a13, some a14, some a15, some a16] from fun _ _ _ _ _ _ _ _ _ _ _ _ _ _ _ _ _ => rfl]
    have s1 := Cost.sm1 sm
    have s2 := Cost.sm2 sm
    have ne1 : ∀ {H1 : Hp}, Same H H1 → H1 o = some (.ins T.C_Costs dx []) := fun s => s _ _ ho
    walk_at "my rn"
    intro p1 H1 np1 sm1 hp1
    walk_at "my rn"
    refine ⟨p1, [c.fh, c.fm, c.pl, c.mu, c.dv, c.lh, c.lm, c.st, c.tk, c.ct, c.po], 1, rfl, SqL.of hp1, Nat.le_of_ble_eq_true rfl, s1, fun g1 => ?_, fun n1 => AtOut.same (qe fun ok => n1 ok.a) sm1⟩
    walk_at "my rn"
    intro p2 H2 np2 sm2 hp2
    walk_at "my rn"
    refine ⟨p2, [c.rl, c.sw, c.en, c.lv, c.fi], 0, rfl, SqL.of hp2, Nat.le_of_ble_eq_true rfl, s2, fun g2 => ?_, fun n1 => AtOut.same (qe fun ok => n1 ok.b) (sm1.trans sm2)⟩
    walk_at "my rn"
    refine ⟨c.fh, c.fm, rfl, (s1 _ (by simp)).1, (s1 _ (by simp)).2, fun g3 => ?_, fun n1 => AtOut.same (qe fun ok => n1 ok.f) (sm1.trans sm2)⟩
    walk_at "my rn"
    refine ⟨c.lh, c.lm, rfl, (s1 _ (by simp)).1, (s1 _ (by simp)).2, fun g4 => ?_, fun n1 => AtOut.same (qe fun ok => n1 ok.l) (sm1.trans sm2)⟩
    have ho2 := ne1 (sm1.trans sm2)
    refine flds_ok (o := o) (dx := dx) T.cl_Costs rfl [(1, "fetch_hit"), (2, "fetch_miss"), (3, "plain"), (4, "mul"), (5, "div"), (6, "load_hit"), (7, "load_miss"), (8, "store"), (9, "taken"), (10, "count"), (11, "port"), (12, "release"), (13, "switch"), (14, "enter"), (15, "leave"), (16, "finish")] [] H2 (by decide) (List.cons_ne_nil _ _) ?_ ?_ ho2 ?_
    · simp only [List.forall_mem_cons]
      exact ⟨T.n_Costs_fetch_hit, T.n_Costs_fetch_miss, T.n_Costs_plain, T.n_Costs_mul, T.n_Costs_div, T.n_Costs_load_hit, T.n_Costs_load_miss, T.n_Costs_store, T.n_Costs_taken, T.n_Costs_count, T.n_Costs_port, T.n_Costs_release, T.n_Costs_switch, T.n_Costs_enter, T.n_Costs_leave, T.n_Costs_finish, fun _ h => nomatch h⟩
    · simp only [List.forall_mem_cons]
      exact ⟨⟨_, rfl⟩, ⟨_, rfl⟩, ⟨_, rfl⟩, ⟨_, rfl⟩, ⟨_, rfl⟩, ⟨_, rfl⟩, ⟨_, rfl⟩, ⟨_, rfl⟩, ⟨_, rfl⟩, ⟨_, rfl⟩, ⟨_, rfl⟩, ⟨_, rfl⟩, ⟨_, rfl⟩, ⟨_, rfl⟩, ⟨_, rfl⟩, ⟨_, rfl⟩, fun _ h => nomatch h⟩
    · intro H3 h1 h2
      exact q ⟨g1, g2, g3, g4⟩ H3 h1 fun b x nb e => h2 b x nb ((sm1.trans sm2) b x e)
end


set_option Elab.async false
set_option linter.all false
set_option maxRecDepth 100000
set_option maxHeartbeats 1000000








def sg (w : Int) : Int := if w < 2147483648 then w else w - 4294967296
def hld (op : Str) (a b : Int) : Bool :=
  if op = "<" then decide (a < b) else if op = "<=" then decide (a ≤ b) else if op = "~<" then decide (sg a < sg b) else if op = "~<=" then decide (sg a ≤ sg b)
  else if op = "==" then decide (a = b) else if op = "!=" then decide (a ≠ b) else if op = "and" then decide (a ≠ 0 ∧ b ≠ 0) else decide (a ≠ 0 ∨ b ≠ 0)
def comb (op : Str) (a b : Int) : Int :=
  if op = "+" then (a + b) % 4294967296 else if op = "-" then (a - b) % 4294967296 else if op = "*" then (a * b) % 4294967296
  else if op = "/" then (if b = 0 then 0 else a / b) else if op = "mod" then (if b = 0 then a else a % b)
  else if op = "&" then Builtin.bitAnd a b else if op = "|" then Builtin.bitOr a b else if op = "^" then Builtin.bitXor a b
  else if op = "<<" then (a * 2 ^ (b % 32).toNat) % 4294967296 else if op = ">>" then a / 2 ^ (b % 32).toNat
  else if hld op a b = true then 1 else 0
def ops : List Str := ["+", "-", "*", "/", "mod", "&", "|", "^", "<<", ">>"]
def cmps : List Str := ["<", "<=", "~<", "~<=", "==", "!=", "and", "or"]
def Word (a : Int) : Prop := 0 ≤ a ∧ a < 4294967296
theorem word_small {b : Int} (w : Word b) : b.natAbs < 2 ^ 32 := by
  have := w.1
  have := w.2
  omega
section
variable {P : Program} {w : World} {K : PySem.W.Frag} {mg : Str → Option Value} {base : Heap}
def sp_wrap : Sp := fun vs H Q _ => ∃ n : Int, vs = [.int n] ∧ Q (.int (n % 4294967296)) H
theorem ok_wrap (T : Top P w K mg) : FnOk P w K mg base CX0 1 T.a_wrap T.d_wrap ["n"]  sp_wrap := by
  refine T.F_wrap.ok sc_wrap (fun vs H Q E h => ?_) (fun cdv A outer s H vs Q E hr h => ?_)
  · obtain ⟨n, rfl, _⟩ := h
    rfl
  · obtain ⟨n, rfl, q⟩ := h
    refine ⟨_, (pss_one (ps_ret (pe_op op_mod (pv 0) (pe_gi (by rfl) T.c_WORDS)))), ?_⟩
    exact ⟨_, rfl, _, _, rfl, rfl, (by show (0 : Int) < 4294967296; decide), q⟩
def sp_signed : Sp := fun vs H Q _ => ∃ n : Int, vs = [.int n] ∧ Q (.int (sg n)) H
theorem ok_signed (T : Top P w K mg) : FnOk P w K mg base CX0 1 T.a_signed T.d_signed ["w"]  sp_signed := by
  refine T.F_signed.ok sc_signed (fun vs H Q E h => ?_) (fun cdv A outer s H vs Q E hr h => ?_)
  · obtain ⟨n, rfl, _⟩ := h
    rfl
  · obtain ⟨n, rfl, q⟩ := h
    refine ⟨_, (pss_cons (ps_if (pt_cmpR op_lt (pv 0) (pe_gi (by rfl) T.c_SIGN_BIT) (nomark _))
  (pss_one (ps_ret (pv 0)))
  pss_nil)
  (pss_one (ps_ret (pe_op op_sub (pv 0) (pe_gi (by rfl) T.c_WORDS))))), ?_⟩
    refine ⟨_, rfl, _, _, rfl, rfl, _, rfl, ite2 (fun c => ?_) (fun c => ?_)⟩
    · have e : sg n = n := if_pos (of_decide_eq_true c)
      rw [e] at q
      exact ⟨_, rfl, q⟩
    · have e : sg n = n - 4294967296 := if_neg (fun z => c (decide_eq_true z))
      rw [e] at q
      exact ⟨_, rfl, _, _, rfl, rfl, q⟩

def sp__holds : Sp := fun vs H Q _ => ∃ (z : Str) (a b : Int), vs = [.str z, .int a, .int b] ∧ z ∈ cmps ∧ Q (.bl (hld z a b)) H
theorem int_eq {a b : Int} : decide (V.int a = V.int b) = decide (a = b) := by
  by_cases h : a = b
  · rw [h, decide_eq_true rfl, decide_eq_true rfl]
  · rw [decide_eq_false h, decide_eq_false (fun q => h (V.int.inj q))]
theorem ok__holds (T : Top P w K mg) : FnOk P w K mg base CX0 2 T.a__holds T.d__holds ["operator", "a", "b"]  sp__holds := by
  refine T.F__holds.ok sc__holds (fun vs H Q E h => ?_) (fun cdv A outer s H vs Q E hr h => ?_)
  · obtain ⟨_, _, _, rfl, _⟩ := h
    rfl
  · obtain ⟨z, a, b, rfl, hz, q⟩ := h
    refine ⟨_, (pss_one (ps_match (pv 0)
  (PCs.text (pss_one (ps_ret (pe_cmpR op_lt (pv 1) (pv 2) (nomark _))))
  (PCs.text (pss_one (ps_ret (pe_cmpR op_le (pv 1) (pv 2) (nomark _))))
  (PCs.text (pss_one (ps_ret (pe_cmpR op_lt (pe_call (ok_signed T) (hr.mono (by decide)) (by rfl) T.g_signed T.F_signed.kp T.b_signed .nil pass0 (pa_cons (pv 1) pa_nil)) (pe_call (ok_signed T) (hr.mono (by decide)) (by rfl) T.g_signed T.F_signed.kp T.b_signed .nil pass0 (pa_cons (pv 2) pa_nil)) (nomark _))))
  (PCs.text (pss_one (ps_ret (pe_cmpR op_le (pe_call (ok_signed T) (hr.mono (by decide)) (by rfl) T.g_signed T.F_signed.kp T.b_signed .nil pass0 (pa_cons (pv 1) pa_nil)) (pe_call (ok_signed T) (hr.mono (by decide)) (by rfl) T.g_signed T.F_signed.kp T.b_signed .nil pass0 (pa_cons (pv 2) pa_nil)) (nomark _))))
  (PCs.text (pss_one (ps_ret (pe_cmpR op_eq (pv 1) (pv 2) (nomark _))))
  (PCs.text (pss_one (ps_ret (pe_cmpR op_ne (pv 1) (pv 2) (nomark _))))
  (PCs.text (pss_one (ps_ret (pe_and (pe_cmpR op_ne (pv 1) pe_int (nomark _)) (pe_one (pe_cmpR op_ne (pv 2) pe_int (nomark _))))))
  (PCs.text (pss_one (ps_ret (pe_or (pe_cmpR op_ne (pv 1) pe_int (nomark _)) (pe_one (pe_cmpR op_ne (pv 2) pe_int (nomark _))))))
  PCs.nil)))))))))), ?_⟩
    refine ⟨_, rfl, z, rfl, ?_⟩
    refine ite2 (fun c1 => ?_) (fun c1 => ?_)
    · subst c1
      exact ⟨_, rfl, _, rfl, _, _, rfl, rfl, q⟩
    refine ite2 (fun c2 => ?_) (fun c2 => ?_)
    · subst c2
      exact ⟨_, rfl, _, rfl, _, _, rfl, rfl, q⟩
    refine ite2 (fun c3 => ?_) (fun c3 => ?_)
    · subst c3
      exact ⟨_, rfl, _, rfl, _, rfl, _, rfl, _, _, rfl, rfl, q⟩
    refine ite2 (fun c4 => ?_) (fun c4 => ?_)
    · subst c4
      exact ⟨_, rfl, _, rfl, _, rfl, _, rfl, _, _, rfl, rfl, q⟩
    refine ite2 (fun c5 => ?_) (fun c5 => ?_)
    · subst c5
      refine ⟨_, rfl, _, rfl, rfl, ?_⟩
      rw [int_eq]
      exact q
    refine ite2 (fun c6 => ?_) (fun c6 => ?_)
    · subst c6
      refine ⟨_, rfl, _, rfl, rfl, ?_⟩
      rw [int_eq]
      have e : hld "!=" a b = !decide (a = b) := by
        show decide (a ≠ b) = _
        by_cases h : a = b <;> simp [h]
      rw [e] at q
      exact q
    refine ite2 (fun c7 => ?_) (fun c7 => ?_)
    · subst c7
      refine ⟨_, rfl, rfl, _, rfl, ?_⟩
      have e : hld "and" a b = (!decide (a = 0) && !decide (b = 0)) := by
        show decide (a ≠ 0 ∧ b ≠ 0) = _
        by_cases h : a = 0 <;> by_cases h2 : b = 0 <;> simp [h, h2]
      rw [e] at q
      rw [int_eq]
      by_cases h : a = 0
      · rw [decide_eq_true h] at q ⊢
        exact iteF q
      · rw [decide_eq_false h] at q ⊢
        refine iteT ⟨_, rfl, rfl, ?_⟩
        rw [int_eq]
        exact q
    refine ite2 (fun c8 => ?_) (fun c8 => ?_)
    · subst c8
      refine ⟨_, rfl, rfl, _, rfl, ?_⟩
      have e : hld "or" a b = (!decide (a = 0) || !decide (b = 0)) := by
        show decide (a ≠ 0 ∨ b ≠ 0) = _
        by_cases h : a = 0 <;> by_cases h2 : b = 0 <;> simp [h, h2]
      rw [e] at q
      rw [int_eq]
      by_cases h : a = 0
      · rw [decide_eq_true h] at q ⊢
        refine iteF ⟨_, rfl, rfl, ?_⟩
        rw [int_eq]
        exact q
      · rw [decide_eq_false h] at q ⊢
        exact iteT q
    · simp [cmps, c1, c2, c3, c4, c5, c6, c7, c8] at hz
def sp_combine : Sp := fun vs H Q _ => ∃ (z : Str) (a b : Int), vs = [.str z, .int a, .int b] ∧ Word a ∧ Word b ∧ (z ∈ ops ∨ z ∈ cmps) ∧ Q (.int (comb z a b)) H
theorem ok_combine (T : Top P w K mg) : FnOk P w K mg base CX0 3 T.a_combine T.d_combine ["operator", "a", "b"]  sp_combine := by
  refine T.F_combine.ok sc_combine (fun vs H Q E h => ?_) (fun cdv A outer s H vs Q E hr h => ?_)
  · obtain ⟨_, _, _, rfl, _⟩ := h
    rfl
  · obtain ⟨z, a, b, rfl, wa, wb, hz, q⟩ := h
    refine ⟨_, (pss_one (ps_match (pv 0)
  (PCs.text (pss_one (ps_ret (pe_call (ok_wrap T) (hr.mono (by decide)) (by rfl) T.g_wrap T.F_wrap.kp T.b_wrap .nil pass0 (pa_cons (pe_op op_add (pv 1) (pv 2)) pa_nil))))
  (PCs.text (pss_one (ps_ret (pe_call (ok_wrap T) (hr.mono (by decide)) (by rfl) T.g_wrap T.F_wrap.kp T.b_wrap .nil pass0 (pa_cons (pe_op op_sub (pv 1) (pv 2)) pa_nil))))
  (PCs.text (pss_one (ps_ret (pe_call (ok_wrap T) (hr.mono (by decide)) (by rfl) T.g_wrap T.F_wrap.kp T.b_wrap .nil pass0 (pa_cons (pe_op op_mul (pv 1) (pv 2)) pa_nil))))
  (PCs.text (pss_one (ps_ret (pe_ifExp (pt_cmpR op_eq (pv 2) pe_int (nomark _)) pe_int (pe_op op_fdivW (pv 1) (pv 2)))))
  (PCs.text (pss_one (ps_ret (pe_ifExp (pt_cmpR op_eq (pv 2) pe_int (nomark _)) (pv 1) (pe_op op_mod (pv 1) (pv 2)))))
  (PCs.text (pss_one (ps_ret (pe_op op_and (pv 1) (pv 2))))
  (PCs.text (pss_one (ps_ret (pe_op op_or (pv 1) (pv 2))))
  (PCs.text (pss_one (ps_ret (pe_op op_xor (pv 1) (pv 2))))
  (PCs.text (pss_one (ps_ret (pe_call (ok_wrap T) (hr.mono (by decide)) (by rfl) T.g_wrap T.F_wrap.kp T.b_wrap .nil pass0 (pa_cons (pe_op op_shl (pv 1) (pe_op op_mod (pv 2) pe_int)) pa_nil))))
  (PCs.text (pss_one (ps_ret (pe_op op_shr (pv 1) (pe_op op_mod (pv 2) pe_int))))
  (PCs.rest (pss_one (ps_ret (pe_ifExp (pt_val (pe_call (ok__holds T) (hr.mono (by decide)) (by rfl) T.g__holds T.F__holds.kp T.b__holds .nil pass0 (pa_cons (pv 0) (pa_cons (pv 1) (pa_cons (pv 2) pa_nil))))) pe_int pe_int)))))))))))))))), ?_⟩
    refine ⟨_, rfl, z, rfl, ?_⟩
    have a0 := wa.1
    have a1 := wa.2
    have b0 := wb.1
    have b1 := wb.2
    refine ite2 (fun c1 => ?_) (fun c1 => ?_)
    · subst c1
      exact ⟨_, rfl, _, rfl, _, _, rfl, rfl, _, rfl, q⟩
    refine ite2 (fun c2 => ?_) (fun c2 => ?_)
    · subst c2
      exact ⟨_, rfl, _, rfl, _, _, rfl, rfl, _, rfl, q⟩
    refine ite2 (fun c3 => ?_) (fun c3 => ?_)
    · subst c3
      exact ⟨_, rfl, _, rfl, _, _, rfl, rfl, .inl ⟨by omega, by omega⟩, _, rfl, q⟩
    refine ite2 (fun c4 => ?_) (fun c4 => ?_)
    · subst c4
      refine ⟨_, rfl, rfl, _, rfl, ite2 (fun c => ?_) (fun c => ?_)⟩
      · have e : b = 0 := V.int.inj (of_decide_eq_true c)
        subst e
        exact q
      · have e : b ≠ 0 := fun z => c (decide_eq_true (by rw [z]))
        have e2 : comb "/" a b = a / b := by
          show (if b = 0 then 0 else a / b) = _
          rw [if_neg e]
        rw [e2] at q
        exact ⟨_, rfl, _, rfl, _, _, rfl, rfl, wide_div (by omega) (word_small wb) (by decide) (by decide), q⟩
    refine ite2 (fun c5 => ?_) (fun c5 => ?_)
    · subst c5
      refine ⟨_, rfl, rfl, _, rfl, ite2 (fun c => ?_) (fun c => ?_)⟩
      · have e : b = 0 := V.int.inj (of_decide_eq_true c)
        subst e
        exact ⟨_, rfl, q⟩
      · have e : b ≠ 0 := fun z => c (decide_eq_true (by rw [z]))
        have e2 : comb "mod" a b = a % b := by
          show (if b = 0 then a else a % b) = _
          rw [if_neg e]
        rw [e2] at q
        exact ⟨_, rfl, _, rfl, _, _, rfl, rfl, (by show 0 < b; omega), q⟩
    refine ite2 (fun c6 => ?_) (fun c6 => ?_)
    · subst c6
      exact ⟨_, rfl, _, rfl, _, _, rfl, rfl, q⟩
    refine ite2 (fun c7 => ?_) (fun c7 => ?_)
    · subst c7
      exact ⟨_, rfl, _, rfl, _, _, rfl, rfl, q⟩
    refine ite2 (fun c8 => ?_) (fun c8 => ?_)
    · subst c8
      exact ⟨_, rfl, _, rfl, _, _, rfl, rfl, q⟩
    have m0 := Int.emod_nonneg b (show (32 : Int) ≠ 0 by decide)
    have m1 := Int.emod_lt_of_pos b (show (0 : Int) < 32 by decide)
    refine ite2 (fun c9 => ?_) (fun c9 => ?_)
    · subst c9
      exact ⟨_, rfl, _, rfl, _, _, rfl, rfl, (by show (0 : Int) < 32; decide), _, _, rfl, rfl, ⟨m0, by omega, by omega⟩, _, rfl, q⟩
    refine ite2 (fun c10 => ?_) (fun c10 => ?_)
    · subst c10
      exact ⟨_, rfl, _, rfl, _, _, rfl, rfl, (by show (0 : Int) < 32; decide), _, _, rfl, rfl, m0, q⟩
    · have hc : z ∈ cmps := by
        rcases hz with h | h
        · simp [ops, c1, c2, c3, c4, c5, c6, c7, c8, c9, c10] at h
        · exact h
      have e : comb z a b = if hld z a b = true then 1 else 0 := by
        simp only [comb, eq_false c1, eq_false c2, eq_false c3, eq_false c4, eq_false c5, eq_false c6, eq_false c7, eq_false c8, eq_false c9, eq_false c10, if_false]
      rw [e] at q
      refine ⟨_, rfl, _, rfl, _, rfl, z, a, b, rfl, hc, hld z a b, rfl, ite2 (fun c => ?_) (fun c => ?_)⟩
      · rw [if_pos c] at q
        exact q
      · rw [if_neg c] at q
        exact q

def alt (op : Str) (a : Int) : Int := if op = "neg" then (-a) % 4294967296 else if op = "inv" then Builtin.bitXor a 4294967295 else if a = 0 then 1 else 0
def sp_alter : Sp := fun vs H Q _ => ∃ (z : Str) (a : Int), vs = [.str z, .int a] ∧ z ∈ (["neg", "inv", "not"] : List Str) ∧ Q (.int (alt z a)) H
theorem ok_alter (T : Top P w K mg) : FnOk P w K mg base CX0 2 T.a_alter T.d_alter ["operator", "a"]  sp_alter := by
  refine T.F_alter.ok sc_alter (fun vs H Q E h => ?_) (fun cdv A outer s H vs Q E hr h => ?_)
  · obtain ⟨_, _, rfl, _⟩ := h
    rfl
  · obtain ⟨z, a, rfl, hz, q⟩ := h
    refine ⟨_, (pss_one (ps_match (pv 0)
  (PCs.text (pss_one (ps_ret (pe_call (ok_wrap T) (hr.mono (by decide)) (by rfl) T.g_wrap T.F_wrap.kp T.b_wrap .nil pass0 (pa_cons (pe_un un_neg (pv 1)) pa_nil))))
  (PCs.text (pss_one (ps_ret (pe_op op_xor (pv 1) (pe_gi (by rfl) T.c_GREATEST_WORD))))
  (PCs.text (pss_one (ps_ret (pe_ifExp (pt_cmpR op_eq (pv 1) pe_int (nomark _)) pe_int pe_int)))
  PCs.nil))))), ?_⟩
    refine ⟨_, rfl, z, rfl, ?_⟩
    refine ite2 (fun c1 => ?_) (fun c1 => ?_)
    · subst c1
      exact ⟨_, rfl, _, rfl, _, rfl, q⟩
    refine ite2 (fun c2 => ?_) (fun c2 => ?_)
    · subst c2
      exact ⟨_, rfl, _, _, rfl, rfl, q⟩
    refine ite2 (fun c3 => ?_) (fun c3 => ?_)
    · subst c3
      refine ⟨_, rfl, rfl, _, rfl, ?_⟩
      rw [int_eq]
      have e : alt "not" a = if a = 0 then 1 else 0 := rfl
      rw [e] at q
      refine ite2 (fun c => ?_) (fun c => ?_)
      · rw [if_pos (of_decide_eq_true c)] at q
        exact q
      · rw [if_neg (fun z => c (decide_eq_true z))] at q
        exact q
    · simp [c1, c2, c3] at hz
end

/-! ### what an instruction costs -/
def calcCost (c : Cost) (op : Str) : Int := if op = "mul" then c.mu else if op = "div" ∨ op = "mod" then c.dv else c.pl
def exCost (c : Cost) (nm op : Str) (lh : Bool) : Int :=
  if nm ∈ (["load", "loadx"] : List Str) then (if lh = true then c.lh else c.lm) else if nm ∈ (["store", "storex"] : List Str) then c.st else if nm ∈ (["calc"] : List Str) then calcCost c op
  else if nm ∈ (["count", "again"] : List Str) then c.ct else if nm ∈ (["in", "out"] : List Str) then c.po else c.pl
def iCost (c : Cost) (nm op : Str) (fh lh tk : Bool) : Int := (if fh = true then c.fh else c.fm) + exCost c nm op lh + (if nm ∈ (["jump", "link", "back"] : List Str) ∨ (tk = true ∧ nm ∈ (["jzero", "again"] : List Str)) then c.tk else 0)
/-- an instruction: its name first; a calc has its operation behind -/
structure InsAt (K : PySem.W.Frag) (H : Hp) (t : Addr) (nm op : Str) : Prop where
  ex : ∃ xs, SqT K H t xs ∧ xs[0]? = some (.str nm) ∧ (nm = "calc" → xs[1]? = some (.str op))
theorem InsAt.same {K : PySem.W.Frag} {H H' : Hp} {t : Addr} {nm op : Str} (h : InsAt K H t nm op) (s : Same H H') : InsAt K H' t nm op := by
  obtain ⟨xs, h, e⟩ := h.ex
  exact ⟨xs, s.seqT h, e⟩
section
variable {P : Program} {w : World} {K : PySem.W.Frag} {mg : Str → Option Value} {base : Heap}
theorem Cost.look {c : Cost} : c.fs.lookup ("fetch_hit" : Str) = some (.int c.fh) ∧ c.fs.lookup ("fetch_miss" : Str) = some (.int c.fm) ∧ c.fs.lookup ("plain" : Str) = some (.int c.pl) ∧ c.fs.lookup ("mul" : Str) = some (.int c.mu) ∧ c.fs.lookup ("div" : Str) = some (.int c.dv) ∧
  c.fs.lookup ("load_hit" : Str) = some (.int c.lh) ∧ c.fs.lookup ("load_miss" : Str) = some (.int c.lm) ∧ c.fs.lookup ("store" : Str) = some (.int c.st) ∧ c.fs.lookup ("taken" : Str) = some (.int c.tk) ∧ c.fs.lookup ("count" : Str) = some (.int c.ct) ∧ c.fs.lookup ("port" : Str) = some (.int c.po) := by
  refine ⟨?_, ?_, ?_, ?_, ?_, ?_, ?_, ?_, ?_, ?_, ?_⟩ <;> with_unfolding_all rfl
theorem Cost.look2 {c : Cost} : c.fs.lookup ("release" : Str) = some (.int c.rl) ∧ c.fs.lookup ("switch" : Str) = some (.int c.sw) ∧ c.fs.lookup ("enter" : Str) = some (.int c.en) ∧ c.fs.lookup ("leave" : Str) = some (.int c.lv) ∧ c.fs.lookup ("finish" : Str) = some (.int c.fi) := by
  refine ⟨?_, ?_, ?_, ?_, ?_⟩ <;> with_unfolding_all rfl
def sp__calculation_cost (C : Addr) : Sp := fun vs H Q _ => ∃ (o : Addr) (c : Cost) (op : Str), vs = [.ref o, .str op] ∧ CostsAt C H o c ∧ Q (.int (calcCost c op)) H
theorem ok__calculation_cost (T : Top P w K mg) : FnOk P w K mg base CX0 1 T.a__calculation_cost T.d__calculation_cost ["costs", "operation"]  (sp__calculation_cost T.C_Costs) := by
  refine T.F__calculation_cost.ok sc__calculation_cost (fun vs H Q E h => ?_) (fun cdv A outer s H vs Q E hr h => ?_)
  · obtain ⟨_, _, _, rfl, _⟩ := h
    rfl
  · obtain ⟨o, c, op, rfl, ⟨dx, ho⟩, q⟩ := h
    refine ⟨_, (pss_cons (ps_if (pt_cmpR op_eq (pv 1) pe_str (nomark _))
  (pss_one (ps_ret (pe_fld (pv 0) rfl)))
  pss_nil)
  (pss_cons (ps_if (pw_or (pt_cmpR op_eq (pv 1) pe_str (nomark _)) (pw_or1 (pt_cmpR op_eq (pv 1) pe_str (nomark _)))).pt
  (pss_one (ps_ret (pe_fld (pv 0) rfl)))
  pss_nil)
  (pss_one (ps_ret (pe_fld (pv 0) rfl))))), ?_⟩
    rw [show ∀ a0 a1 : V, L2.start ["costs", "operation"] [a0, a1] = [some a0, some a1] from fun _ _ => rfl]
    obtain ⟨l1, l2, l3, l4, l5, l6, l7, l8, l9, l10, l11⟩ := @Cost.look c
    have cl := T.cl_Costs
    have n0 := T.n_Costs_mul
    have n1 := T.n_Costs_div
    have n2 := T.n_Costs_plain
    unfold calcCost at q
    walk_at "my rn"
    refine Rd.ifD (fun h1 => ?_) fun h1 => ?_
    · rw [if_pos (V.str.inj h1)] at q
      walk_at "my rn"
      exact q
    · rw [if_neg (fun z => h1 (by rw [z]))] at q
      walk_at "my rn"
      refine Rd.ifD (fun h2 => ?_) fun h2 => ?_
      · rw [if_pos (.inl (V.str.inj h2))] at q
        walk_at "my rn"
        exact q
      · walk_at "my rn"
        refine Rd.ifD (fun h3 => ?_) fun h3 => ?_
        · rw [if_pos (.inr (V.str.inj h3))] at q
          walk_at "my rn"
          exact q
        · rw [if_neg (fun z => z.elim (fun z => h2 (by rw [z])) fun z => h3 (by rw [z]))] at q
          walk_at "my rn"
          exact q
def sp__execution_cost (K : PySem.W.Frag) (C : Addr) : Sp := fun vs H Q _ => ∃ (o t : Addr) (c : Cost) (nm op : Str) (lh : Bool), vs = [.ref o, .ref t, .bl lh] ∧ CostsAt C H o c ∧ InsAt K H t nm op ∧ Q (.int (exCost c nm op lh)) H
theorem ok__execution_cost (T : Top P w K mg) : FnOk P w K mg base CX0 2 T.a__execution_cost T.d__execution_cost ["costs", "instruction", "load_hit"]  (sp__execution_cost K T.C_Costs) := by
  refine T.F__execution_cost.ok sc__execution_cost (fun vs H Q E h => ?_) (fun cdv A outer s H vs Q E hr h => ?_)
  · obtain ⟨_, _, _, _, _, _, rfl, _⟩ := h
    rfl
  · obtain ⟨o, t, c, nm, op, lh, rfl, ⟨dx, ho⟩, ⟨xs, ht, h0, h1⟩, q⟩ := h
    refine ⟨_, (pss_one (ps_matchO (pe_ix ix_tup (pv 1) pe_int (fun _ _ => rfl))
  (PCo.ors (PVs.cons (PVs.cons PVs.nil)) (pss_one (ps_ret (pe_ifExp (pt_val (pv 2)) (pe_fld (pv 0) rfl) (pe_fld (pv 0) rfl))))
  (PCo.ors (PVs.cons (PVs.cons PVs.nil)) (pss_one (ps_ret (pe_fld (pv 0) rfl)))
  (PCo.text (pss_one (ps_ret (pe_call (ok__calculation_cost T) (hr.mono (by decide)) (by rfl) T.g__calculation_cost T.F__calculation_cost.kp T.b__calculation_cost .nil pass0 (pa_cons (pv 0) (pa_cons (pe_ix ix_tup (pv 1) pe_int (fun _ _ => rfl)) pa_nil)))))
  (PCo.ors (PVs.cons (PVs.cons PVs.nil)) (pss_one (ps_ret (pe_fld (pv 0) rfl)))
  (PCo.ors (PVs.cons (PVs.cons PVs.nil)) (pss_one (ps_ret (pe_fld (pv 0) rfl)))
  (PCo.rest (pss_one (ps_ret (pe_fld (pv 0) rfl))))))))))), ?_⟩
    rw [show ∀ a0 a1 a2 : V, L2.start ["costs", "instruction", "load_hit"] [a0, a1, a2] = [some a0, some a1, some a2] from fun _ _ _ => rfl]
    obtain ⟨l1, l2, l3, l4, l5, l6, l7, l8, l9, l10, l11⟩ := @Cost.look c
    have cl := T.cl_Costs
    unfold exCost at q
    walk_at "my rn"
    refine Rd.ixTq ht (Rd.at_val (j := 0) rfl h0) ?_
    walk_at "my rn"
    have n0 := T.n_Costs_load_hit
    have n1 := T.n_Costs_load_miss
    have n2 := T.n_Costs_store
    have n3 := T.n_Costs_count
    have n4 := T.n_Costs_port
    have n5 := T.n_Costs_plain
    by_cases e : nm ∈ (["load", "loadx"] : List Str)
    · rw [if_pos e] at q
      refine Rd.moY e ?_
      walk_at "my rn"
      refine Rd.ifB (fun h => ?_) fun h => ?_
      · rw [if_pos h] at q
        walk_at "my rn"
        exact q
      · rw [if_neg (by rw [h]; simp)] at q
        walk_at "my rn"
        exact q
    · rw [if_neg e] at q
      refine Rd.moN e ?_
      by_cases e : nm ∈ (["store", "storex"] : List Str)
      · rw [if_pos e] at q
        refine Rd.moY e ?_
        walk_at "my rn"
        exact q
      · rw [if_neg e] at q
        refine Rd.moN e ?_
        by_cases e : nm ∈ (["calc"] : List Str)
        · rw [if_pos e] at q
          refine Rd.moY e ?_
          walk_at "my rn"
          refine Rd.ixTq ht (Rd.at_val (j := 1) rfl (h1 (List.mem_singleton.mp e))) ?_
          walk_at "my rn"
          exact ⟨o, c, op, rfl, ⟨dx, ho⟩, q⟩
        · rw [if_neg e] at q
          refine Rd.moN e ?_
          by_cases e : nm ∈ (["count", "again"] : List Str)
          · rw [if_pos e] at q
            refine Rd.moY e ?_
            walk_at "my rn"
            exact q
          · rw [if_neg e] at q
            refine Rd.moN e ?_
            by_cases e : nm ∈ (["in", "out"] : List Str)
            · rw [if_pos e] at q
              refine Rd.moY e ?_
              walk_at "my rn"
              exact q
            · rw [if_neg e] at q
              refine Rd.moN e ?_
              walk_at "my rn"
              exact q
def sp_instruction_cost (K : PySem.W.Frag) (C : Addr) : Sp := fun vs H Q _ => ∃ (o t : Addr) (c : Cost) (nm op : Str) (fh lh tk : Bool), vs = [.ref o, .ref t, .bl fh, .bl lh, .bl tk] ∧ CostsAt C H o c ∧ InsAt K H t nm op ∧ Q (.int (iCost c nm op fh lh tk)) H
theorem ok_instruction_cost (T : Top P w K mg) : FnOk P w K mg base CX0 3 T.a_instruction_cost T.d_instruction_cost ["costs", "instruction", "fetch_hit", "load_hit", "taken"]  (sp_instruction_cost K T.C_Costs) := by
  refine T.F_instruction_cost.ok sc_instruction_cost (fun vs H Q E h => ?_) (fun cdv A outer s H vs Q E hr h => ?_)
  · obtain ⟨_, _, _, _, _, _, _, _, rfl, _⟩ := h
    rfl
  · obtain ⟨o, t, c, nm, op, fh, lh, tk, rfl, hc, hi, q⟩ := h
    obtain ⟨dx, ho⟩ := id hc
    obtain ⟨xs, ht, h0, h1⟩ := id hi
    refine ⟨_, (pss_cons (ps_set (i := 5) sc_instruction_cost.nd rfl (by first | exact Or.inl rfl | exact Or.inr rfl) (pe_ifExp (pt_val (pv 2)) (pe_fld (pv 0) rfl) (pe_fld (pv 0) rfl)))
  (pss_cons (ps_aug (i := 5) sc_instruction_cost.nd rfl (by first | exact Or.inl rfl | exact Or.inr rfl) (pe_call (ok__execution_cost T) (hr.mono (by decide)) (by rfl) T.g__execution_cost T.F__execution_cost.kp T.b__execution_cost .nil pass0 (pa_cons (pv 0) (pa_cons (pv 1) (pa_cons (pv 3) pa_nil)))) ip_add)
  (pss_cons (ps_if (pw_or (pt_cmpR op_in_seq (pe_ix ix_tup (pv 1) pe_int (fun _ _ => rfl)) (pe_gr (by rfl) T.c_ALWAYS_TAKEN) (by with_unfolding_all rfl)) (pw_or1 (pw_and (pt_val (pv 4)) (pw_and1 (pt_cmpR op_in_seq (pe_ix ix_tup (pv 1) pe_int (fun _ _ => rfl)) (pe_gr (by rfl) T.c_TAKEN_AT_TIMES) (by with_unfolding_all rfl)))).pt)).pt
  (pss_one (ps_aug (i := 5) sc_instruction_cost.nd rfl (by first | exact Or.inl rfl | exact Or.inr rfl) (pe_fld (pv 0) rfl) ip_add))
  pss_nil)
  (pss_one (ps_ret (pv 5)))))), ?_⟩
    rw [show ∀ a0 a1 a2 a3 a4 : V, L2.start ["costs", "instruction", "fetch_hit", "load_hit", "taken", "cost"] [a0, a1, a2, a3, a4] = [some a0, some a1, some a2, some a3, some a4, none] from fun _ _ _ _ _ => rfl]
    obtain ⟨l1, l2, l3, l4, l5, l6, l7, l8, l9, l10, l11⟩ := @Cost.look c
    have cl := T.cl_Costs
    have n0 := T.n_Costs_fetch_hit
    have n1 := T.n_Costs_fetch_miss
    have n2 := T.n_Costs_taken
    have n0 := T.n_Costs_fetch_hit
    have n1 := T.n_Costs_fetch_miss
    have n2 := T.n_Costs_taken
    unfold iCost at q
    have end_ : ∀ (f : Int), (if fh = true then c.fh else c.fm) = f → (∀ z, z = (if nm ∈ (["jump", "link", "back"] : List Str) ∨ (tk = true ∧ nm ∈ (["jzero", "again"] : List Str)) then c.tk else 0) → Q (.int (f + exCost c nm op lh + z)) H) := fun f e z ez => by
      rw [e] at q
      rw [ez]; exact q
    have b1 := Rd.at_val (j := 0) (xs := xs) rfl h0
    cases fh
    all_goals
      walk_at "my rn"
      refine ⟨o, t, c, nm, op, lh, rfl, hc, hi, ?_⟩
      walk_at "my rn"
      refine Rd.ixTq ht b1 ?_
      walk_at "my rn"
      refine Rd.inStrT ["jump", "link", "back"] (T.q_ALWAYS_TAKEN _) ?_
      walk_at "my rn"
      refine Rd.ifD (fun h2 => ?_) fun h2 => ?_
      · walk_at "my rn"
        exact end_ _ (by simp) _ (by rw [if_pos (.inl h2)])
      · walk_at "my rn"
        refine Rd.ifB (fun h3 => ?_) fun h3 => ?_
        · walk_at "my rn"
          refine Rd.ixTq ht b1 ?_
          walk_at "my rn"
          refine Rd.inStrT ["jzero", "again"] (T.q_TAKEN_AT_TIMES _) ?_
          walk_at "my rn"
          refine Rd.ifD (fun h4 => ?_) fun h4 => ?_
          · walk_at "my rn"
            exact end_ _ (by simp) _ (by rw [if_pos (.inr ⟨h3, h4⟩)])
          · walk_at "my rn"
            have := end_ _ rfl 0 (by rw [if_neg (fun z => z.elim h2 fun z => h4 z.2)])
            rw [Int.add_zero] at this
            exact this
        · walk_at "my rn"
          have := end_ _ rfl 0 (by rw [if_neg (fun z => z.elim h2 fun z => by rw [h3] at z; cases z.1)])
          rw [Int.add_zero] at this
          exact this
end

/-! ### lines by their last use -/
/-- the lines of one set, the latest first, each once -/
def full (P : Int → Bool) : List Int → List Int
  | [] => []
  | x :: r => if P x = true then x :: (full P r).erase x else full P r
theorem full_nodup (P : Int → Bool) : ∀ l, (full P l).Nodup
  | [] => List.nodup_nil
  | x :: r => by
    unfold full
    split
    · rw [List.nodup_cons]
      have h := full_nodup P r
      exact ⟨fun m => (List.Nodup.mem_erase_iff h).mp m |>.1 rfl, h.erase x⟩
    · exact full_nodup P r
theorem full_P (P : Int → Bool) : ∀ l, ∀ x ∈ full P l, P x = true ∧ x ∈ l
  | [], x, h => nomatch h
  | y :: r, x, h => by
    unfold full at h
    split at h
    · rename_i hy
      rcases List.mem_cons.mp h with rfl | h
      · exact ⟨hy, List.mem_cons_self⟩
      · have := full_P P r x (List.mem_of_mem_erase h)
        exact ⟨this.1, List.mem_cons_of_mem _ this.2⟩
    · have := full_P P r x h
      exact ⟨this.1, List.mem_cons_of_mem _ this.2⟩
theorem full_app (P : Int → Bool) (x : Int) : ∀ pre, full P (pre ++ [x]) = if P x = true ∧ x ∉ full P pre then full P pre ++ [x] else full P pre
  | [] => by
    show (if P x = true then [x] else []) = _
    by_cases h : P x = true
    · rw [if_pos h, if_pos ⟨h, by simp [full]⟩]
      rfl
    · rw [if_neg h, if_neg (fun q => h q.1)]
      rfl
  | y :: r => by
    have ih := full_app P x r
    show (if P y = true then y :: (full P (r ++ [x])).erase y else full P (r ++ [x])) = _
    have e : full P (y :: r) = if P y = true then y :: (full P r).erase y else full P r := rfl
    by_cases hy : P y = true
    · rw [if_pos hy] at e ⊢
      rw [e, ih]
      by_cases hx : P x = true
      · by_cases m : x ∈ full P r
        · rw [if_neg (fun q => q.2 m)]
          by_cases xy : x = y
          · subst xy
            rw [if_neg (fun q => q.2 List.mem_cons_self)]
          · rw [if_neg (fun q => q.2 (List.mem_cons_of_mem _ ((List.mem_erase_of_ne xy).mpr m)))]
        · rw [if_pos ⟨hx, m⟩]
          by_cases xy : x = y
          · subst xy
            rw [if_neg (fun q => q.2 List.mem_cons_self), List.erase_append_right _ m]
            simp [List.erase_of_not_mem m]
          · rw [if_pos ⟨hx, fun q => by
              rcases List.mem_cons.mp q with q | q
              · exact xy q
              · exact m (List.mem_of_mem_erase q)⟩]
            by_cases my : y ∈ full P r
            · rw [List.erase_append_left _ my]
              rfl
            · rw [List.erase_append_right _ my, List.erase_of_not_mem my]
              have : ([x] : List Int).erase y = [x] := List.erase_of_not_mem (by simp; exact fun q => xy q.symm)
              rw [this]
              rfl
      · rw [if_neg (fun q => hx q.1), if_neg (fun q => hx q.1)]
    · rw [if_neg hy] at e ⊢
      rw [e, ih]
theorem full_len (P : Int → Bool) : ∀ l, (full P l).length ≤ l.length
  | [] => Nat.le_refl _
  | x :: r => by
    have ih := full_len P r
    show (if P x = true then x :: (full P r).erase x else full P r).length ≤ _
    split
    · have := List.length_erase_le (a := x) (l := full P r)
      simp only [List.length_cons]
      omega
    · simp only [List.length_cons]
      omega
def inSet (S : Int) (s : Int) : Int → Bool := fun x => decide (x % S = s)
/-- the contents of the set s behind the uses us (the oldest first) -/
def rowOf (us : List Int) (S s : Int) (W : Nat) : List Int := (full (inSet S s) us.reverse).take W
/-- what the loop of the law does with one use -/
theorem take_app (P : Int → Bool) (x : Int) (W : Nat) (pre : List Int) : (full P (pre ++ [x])).take W = if P x = true ∧ x ∉ (full P pre).take W ∧ ((full P pre).take W).length < W then (full P pre).take W ++ [x] else (full P pre).take W := by
  rw [full_app, List.length_take]
  by_cases hx : P x = true
  · by_cases hl : (full P pre).length < W
    · have et : (full P pre).take W = full P pre := List.take_of_length_le (by omega)
      rw [et]
      by_cases m : x ∈ full P pre
      · rw [if_neg (fun q => q.2 m), if_neg (fun q => q.2.1 m), et]
      · rw [if_pos ⟨hx, m⟩, if_pos ⟨hx, m, by omega⟩]
        exact List.take_of_length_le (by rw [List.length_append, List.length_singleton]; omega)
    · rw [if_neg (c := _ ∧ _ ∧ _) (fun q => by have := q.2.2; omega)]
      split
      · exact List.take_append_of_le_length (by omega)
      · rfl
  · rw [if_neg (fun q => hx q.1), if_neg (fun q => hx q.1)]
/-- what the program does with a line that is used -/
def useRow (W : Nat) (x : Int) (r : List Int) : List Int := x :: (if x ∈ r then r.erase x else if r.length = W then r.dropLast else r)
theorem erase_take (x : Int) : ∀ (l : List Int) (W : Nat), l.Nodup → (if x ∈ l.take W then (l.take W).erase x else (l.take W).take (W - 1)) = (l.erase x).take (W - 1)
  | [], W, _ => by simp
  | y :: r, 0, _ => by simp
  | y :: r, W + 1, nd => by
    rw [List.nodup_cons] at nd
    rw [List.take_succ_cons, Nat.add_sub_cancel]
    by_cases xy : x = y
    · subst xy
      rw [if_pos List.mem_cons_self, List.erase_cons_head, List.erase_cons_head]
    · have e1 : (y :: r).erase x = y :: r.erase x := List.erase_cons_tail (by simp; exact fun q => xy q.symm)
      have ih := erase_take x r W nd.2
      rw [e1]
      by_cases m : x ∈ r.take W
      · rw [if_pos m] at ih
        rw [if_pos (List.mem_cons_of_mem _ m), List.erase_cons_tail (by simp; exact fun q => xy q.symm), ih]
        cases W with
        | zero => simp at m
        | succ W => rw [Nat.add_sub_cancel, List.take_succ_cons]
      · rw [if_neg m] at ih
        rw [if_neg (fun q => by
          rcases List.mem_cons.mp q with q | q
          · exact xy q
          · exact m q)]
        cases W with
        | zero => simp
        | succ W =>
          rw [Nat.add_sub_cancel] at ih
          rw [List.take_succ_cons, List.take_succ_cons, ih]
theorem use_full (P : Int → Bool) (W : Nat) (hW : 0 < W) (x : Int) (hx : P x = true) (l : List Int) : (full P (x :: l)).take W = useRow W x ((full P l).take W) := by
  have nd := full_nodup P l
  have e : full P (x :: l) = x :: (full P l).erase x := if_pos hx
  rw [e]
  obtain ⟨V, rfl⟩ : ∃ V, W = V + 1 := ⟨W - 1, by omega⟩
  rw [List.take_succ_cons]
  unfold useRow
  have h := erase_take x (full P l) (V + 1) nd
  rw [Nat.add_sub_cancel] at h
  rw [← h]
  by_cases m : x ∈ (full P l).take (V + 1)
  · rw [if_pos m, if_pos m]
  · rw [if_neg m, if_neg m]
    split
    · rename_i hl
      rw [List.dropLast_eq_take, hl, Nat.add_sub_cancel]
    · rename_i hl
      rw [List.take_of_length_le (i := V)]
      have := List.length_take_le (V + 1) (full P l)
      omega
theorem row_use {us : List Int} {S s : Int} {W : Nat} (hW : 0 < W) {x : Int} (hx : x % S = s) : rowOf (us ++ [x]) S s W = useRow W x (rowOf us S s W) := by
  unfold rowOf
  rw [List.reverse_append, List.reverse_singleton, List.singleton_append]
  exact use_full _ _ hW _ (by simp [inSet, hx]) _
theorem row_other {us : List Int} {S s : Int} {W : Nat} {x : Int} (hx : ¬ x % S = s) : rowOf (us ++ [x]) S s W = rowOf us S s W := by
  unfold rowOf
  rw [List.reverse_append, List.reverse_singleton, List.singleton_append]
  show (if inSet S s x = true then _ else _ : List Int).take W = _
  rw [if_neg (by simp [inSet, hx])]
theorem row_len {us : List Int} {S s : Int} {W : Nat} : (rowOf us S s W).length ≤ W := List.length_take_le _ _
theorem row_nodup {us : List Int} {S s : Int} {W : Nat} : (rowOf us S s W).Nodup := (full_nodup _ _).take
def rowsOf (us : List Int) (S : Nat) (W : Nat) : List (List Int) := (List.range S).map fun (s : Nat) => rowOf us (S : Int) (s : Int) W
theorem rows_get {us : List Int} {S W i : Nat} (h : i < S) : (rowsOf us S W)[i]? = some (rowOf us S i W) := by
  unfold rowsOf
  rw [List.getElem?_map, List.getElem?_range h]
  rfl
theorem rows_len {us : List Int} {S W : Nat} : (rowsOf us S W).length = S := by
  unfold rowsOf
  rw [List.length_map, List.length_range]
theorem rows_use {us : List Int} {S W i : Nat} (hW : 0 < W) {x : Int} (hi : i < S) (hx : x % S = i) : rowsOf (us ++ [x]) S W = (rowsOf us S W).set i (useRow W x (rowOf us S i W)) := by
  apply List.ext_getElem?
  intro j
  by_cases hj : j < S
  · rw [rows_get hj, List.getElem?_set, rows_len]
    by_cases ij : i = j
    · subst ij
      rw [if_pos rfl, if_pos hi, row_use hW hx]
    · rw [if_neg ij, rows_get hj, row_other (by rw [hx]; omega)]
  · rw [List.getElem?_eq_none (by rw [rows_len]; omega), List.getElem?_eq_none (by rw [List.length_set, rows_len]; omega)]
theorem rows_nil {S W : Nat} : rowsOf [] S W = List.replicate S [] := by
  apply List.ext_getElem?
  intro j
  by_cases hj : j < S
  · rw [rows_get hj, List.getElem?_replicate, if_pos hj]
    simp [rowOf, full]
  · rw [List.getElem?_eq_none (by rw [rows_len]; omega), List.getElem?_eq_none (by rw [List.length_replicate]; omega)]

/-! ### the cache -/
def cf (S W z : Int) (R : Addr) : List (Str × V) := [("sets", .int S), ("ways", .int W), ("size", .int z), ("rows", .ref R)]
theorem cf_put {S W z : Int} {R : Addr} : putF "rows" (.ref R) (putF "size" (.int z) (putF "ways" (.int W) (putF "sets" (.int S) []))) = cf S W z R := by with_unfolding_all rfl
theorem cf_rows {S W z : Int} {R R2 : Addr} : putF "rows" (.ref R2) (cf S W z R) = cf S W z R2 := by with_unfolding_all rfl
theorem cf_S {S W z : Int} {R : Addr} : (cf S W z R).lookup ("sets" : Str) = some (.int S) := by with_unfolding_all rfl
theorem cf_W {S W z : Int} {R : Addr} : (cf S W z R).lookup ("ways" : Str) = some (.int W) := by with_unfolding_all rfl
theorem cf_z {S W z : Int} {R : Addr} : (cf S W z R).lookup ("size" : Str) = some (.int z) := by with_unfolding_all rfl
theorem cf_R {S W z : Int} {R : Addr} : (cf S W z R).lookup ("rows" : Str) = some (.ref R) := by with_unfolding_all rfl
structure CacheAt (C : Addr) (H : Hp) (o R : Addr) (ls : List Addr) (S W z : Int) (rows : List (List Int)) : Prop where
  ob : ∃ dx, H o = some (.ins C dx (cf S W z R))
  rr : H R = some (.lst (ls.map V.ref))
  nd : ls.Nodup
  len : ls.length = rows.length
  sets : S = rows.length
  row : ∀ (i : Nat) (l : Addr) (r : List Int), ls[i]? = some l → rows[i]? = some r → H l = some (.lst (r.map V.int))
  nR : R ∉ ls
/-- the sizes are in their ranges -/
structure SizesOk (S W z : Int) : Prop where
  s1 : 1 ≤ S
  s2 : S ≤ 64
  w1 : 1 ≤ W
  w2 : W ≤ 4
  zz : z = 1 ∨ z = 2 ∨ z = 4 ∨ z = 8 ∨ z = 16
theorem SizesOk.z0 {S W z : Int} (h : SizesOk S W z) : 0 < z ∧ z ≤ 16 := by
  have := h.zz
  omega
section
variable {P : Program} {w : World} {K : PySem.W.Frag} {mg : Str → Option Value} {base : Heap}
def sp_Cache_init (C : Addr) : Sp := fun vs H Q _ => ∃ (o dx : Addr) (S W z : Int), vs = [.ref o, .int S, .int W, .int z] ∧ SizesOk S W z ∧ H o = some (.ins C dx []) ∧
  ∀ (H' : Hp) (R : Addr) (ls : List Addr), CacheAt C H' o R ls S W z (List.replicate S.toNat []) → (∀ b x, b ≠ o → H b = some x → H' b = some x) → H R = none → (∀ l ∈ ls, H l = none) → Q .non H'
theorem ok_Cache_init (T : Top P w K mg) : FnOk P w K mg base CX0 1 T.a_Cache_init T.d_Cache_init ["self", "sets", "ways", "size"]  (sp_Cache_init T.C_Cache) := by
  refine T.F_Cache_init.ok sc_Cache_init (fun vs H Q E h => ?_) (fun cdv A outer s H vs Q E hr h => ?_)
  · obtain ⟨_, _, _, _, _, rfl, _⟩ := h
    rfl
  · obtain ⟨o, dx, S, W, z, rfl, ok, ho, q⟩ := h
    refine ⟨_, (pss_cons (ps_if (pt_not (pt_chain op_le op_le pe_int (pv 1) (pe_gi (by rfl) T.c_MOST_SETS)))
  (pss_one ps_never)
  pss_nil)
  (pss_cons (ps_if (pt_not (pt_chain op_le op_le pe_int (pv 2) (pe_gi (by rfl) T.c_MOST_WAYS)))
  (pss_one ps_never)
  pss_nil)
  (pss_cons (ps_if (pt_cmpR op_notIn_seq (pv 3) (pe_gr (by rfl) T.c_LINE_SIZES) (by with_unfolding_all rfl))
  (pss_one ps_never)
  pss_nil)
  (pss_cons (ps_fld (pv 0) (pv 1) rfl)
  (pss_cons (ps_fld (pv 0) (pv 2) rfl)
  (pss_cons (ps_fld (pv 0) (pv 3) rfl)
  (pss_one (ps_fld (pv 0) (pe_lc (own := [("_", 4)]) (g := gName 4) (tt := tYes) rfl sc_Cache_init.nd (pi_range1 (by rfl) T.m_range (pa_cons (pv 1) pa_nil)) (blkOk_by (N := ["self", "sets", "ways", "size", "_"]) (sc := defScope s_Cache_init) (by decide +kernel)) (fun _ _ _ _ _ => pg_name (i := 4) sc_Cache_init.nd rfl (Or.inl rfl)) (fun _ _ _ _ _ => pts_nil) (fun _ _ _ _ _ => (pe_lst pa_nil))) rfl)))))))), ?_⟩
    have n1 : ∀ {a b c : Int}, a ≤ b → b ≤ c → (!(decide (a ≤ b) && decide (b ≤ c))) = false := fun h1 h2 => by rw [decide_eq_true h1, decide_eq_true h2]; rfl
    refine ⟨_, rfl, _, _, rfl, rfl, _, rfl, ?_⟩
    rw [decide_eq_true ok.s1]
    refine iteT ⟨_, _, rfl, rfl, _, rfl, ?_⟩
    rw [decide_eq_true ok.s2]
    refine iteF ?_
    refine ⟨_, rfl, _, _, rfl, rfl, _, rfl, ?_⟩
    rw [decide_eq_true ok.w1]
    refine iteT ⟨_, _, rfl, rfl, _, rfl, ?_⟩
    rw [decide_eq_true ok.w2]
    refine iteF ?_
    refine ⟨_, rfl, _, _, rfl, .inr (T.q_LINE_SIZES _), rfl, (by decide), _, rfl, if_f ?_ ?_⟩
    · have e : inV (.int z) [.int 1, .int 2, .int 4, .int 8, .int 16] = true := by
        rcases ok.zz with rfl | rfl | rfl | rfl | rfl <;> decide +kernel
      rw [e]
      rfl
    obtain ⟨a1, a2, a3, a4, _⟩ := id ok
    -- the fields
    refine ⟨_, rfl, _, rfl, o, _, dx, [], rfl, ho, T.cl_Cache, T.n_Cache_sets, (by show 0 < 1000; decide), ?_⟩
    refine ⟨_, rfl, _, rfl, o, _, dx, _, rfl, upd_same, T.cl_Cache, T.n_Cache_ways, (by show 1 < 1000; decide), ?_⟩
    refine ⟨_, rfl, _, rfl, o, _, dx, _, rfl, upd_same, T.cl_Cache, T.n_Cache_size, (by show 2 < 1000; decide), ?_⟩
    rw [upd_upd, upd_upd]
    refine ⟨_, rfl, S, rfl, (by omega), (by omega), fun R hR => ?_⟩
    have noR : o ≠ R := fun z => by rw [z] at hR; exact absurd ((upd_same (H := H)).symm.trans (z ▸ hR)) (by intro q; cases q)
    let G := upd H o (.ins T.C_Cache dx (putF "size" (.int z) (putF "ways" (.int W) (putF "sets" (.int S) []))))
    have hG : ∀ l, G l = none → l ≠ o ∧ H l = none := fun l hl => by
      have lo : l ≠ o := fun z => by
        rw [z] at hl
        exact absurd ((upd_same (H := H)).symm.trans hl) (by intro q; cases q)
      refine ⟨lo, ?_⟩
      have : G l = H l := upd_ne lo
      exact this.symm.trans hl
    have kG : ∀ b x, b ≠ o → H b = some x → G b = some x := fun b x hb e => by
      have : G b = H b := upd_ne hb
      rw [this]
      exact e
    refine lc_range (n := S.toNat) (fun i H' => ∃ ls : List Addr, ls.length = i ∧ ls.Nodup ∧ R ∉ ls ∧ (∀ l ∈ ls, G l = none) ∧ (∀ l ∈ ls, H' l = some (.lst [])) ∧ H' R = some (.lst (ls.map V.ref)) ∧ (∀ b x, G b = some x → H' b = some x))
      ⟨[], rfl, List.nodup_nil, by simp, by simp, by simp, upd_same, same_new hR⟩ ?_ ?_
    · rintro i H' hi ⟨ls, e1, e2, e3, e4, e5, e6, e7⟩
      refine ⟨rfl, ?_⟩
      refine ⟨Nat.zero_le _, fun l hl => ?_⟩
      have lR : l ≠ R := (ne_of_none e6 hl).symm
      have lG : G l = none := by
        cases e : G l with
        | none => rfl
        | some x => rw [e7 l x e] at hl; cases hl
      have ll : l ∉ ls := fun m => by rw [e5 l m] at hl; cases hl
      refine ⟨_, by rw [upd_ne lR.symm]; exact e6, ?_, ls ++ [l], ?_, ?_, ?_, ?_, ?_, ?_, ?_⟩
      · rw [List.length_map, e1]
        exact small1000 (by omega)
      · rw [List.length_append, e1]
        rfl
      · rw [List.nodup_append]
        exact ⟨e2, by simp, fun a ha b hb => by
          rw [List.mem_singleton] at hb
          subst hb
          exact fun z => ll (z ▸ ha)⟩
      · intro m
        rcases List.mem_append.mp m with m | m
        · exact e3 m
        · exact lR (List.mem_singleton.mp m).symm
      · intro a m
        rcases List.mem_append.mp m with m | m
        · exact e4 a m
        · rw [List.mem_singleton.mp m]
          exact lG
      · intro a m
        have aR : a ≠ R := fun z => by
          subst z
          rcases List.mem_append.mp m with m | m
          · exact e3 m
          · exact lR (List.mem_singleton.mp m).symm
        rw [upd_ne aR]
        rcases List.mem_append.mp m with m | m
        · rw [upd_ne (fun (z : a = l) => ll (z ▸ m))]
          exact e5 a m
        · rw [List.mem_singleton.mp m]
          exact upd_same
      · rw [upd_same, List.map_append]
        rfl
      · intro b x e
        have bR : b ≠ R := ne_of_none e (show G R = none from hR)
        rw [upd_ne bR, upd_ne (ne_of_none (e7 b x e) hl)]
        exact e7 b x e
    · rintro H' ⟨ls, e1, e2, e3, e4, e5, e6, e7⟩
      have oo : o ∉ ls := fun m => (hG o (e4 o m)).1 rfl
      refine ⟨_, rfl, o, _, dx, _, rfl, e7 o _ upd_same, T.cl_Cache, T.n_Cache_rows, (by show 3 < 1000; decide), ?_⟩
      rw [cf_put]
      refine q _ R ls ⟨⟨dx, upd_same⟩, ?_, e2, ?_, ?_, ?_, e3⟩ ?_ (hG R hR).2 (fun l m => (hG l (e4 l m)).2)
      · rw [upd_ne noR.symm]
        exact e6
      · rw [List.length_replicate]
        exact e1
      · rw [List.length_replicate]
        omega
      · intro j l r hl hr
        have m := List.mem_of_getElem? hl
        rw [List.getElem?_replicate] at hr
        split at hr
        · cases hr
          rw [upd_ne (fun (z : l = o) => oo (z ▸ m))]
          exact e5 l m
        · cases hr
      · intro b x hb e
        rw [upd_ne hb]
        exact e7 b x (kG b x hb e)

theorem inV_int (x : Int) (r : List Int) : inV (.int x) (r.map V.int) = decide (x ∈ r) := by
  unfold inV
  rw [List.any_map]
  by_cases h : x ∈ r
  · rw [decide_eq_true h, List.any_eq_true]
    exact ⟨x, h, beq_self_eq_true x⟩
  · rw [decide_eq_false h, List.any_eq_false]
    intro y hy e
    have e2 : (y == x) = true := e
    exact h (by rw [← eq_of_beq e2]; exact hy)
theorem flat_ints (r : List Int) : (r.map V.int).all flatV = true := by
  rw [List.all_map, List.all_eq_true]
  intro x _
  rfl
def rowAt (rows : List (List Int)) (S x : Int) : List Int := rows.getD (x % S).toNat []
def usedRows (rows : List (List Int)) (S W x : Int) : List (List Int) := rows.set (x % S).toNat (useRow W.toNat x (rowAt rows S x))
def Touch (ls : List Addr) (H H' : Hp) : Prop := ∀ b x, b ∉ ls → H b = some x → H' b = some x
theorem Touch.refl (ls : List Addr) (H : Hp) : Touch ls H H := fun _ _ _ h => h
theorem Touch.trans {ls : List Addr} {H H1 H2 : Hp} (a : Touch ls H H1) (b : Touch ls H1 H2) : Touch ls H H2 := fun x o h1 h => b x o h1 (a x o h1 h)
theorem CacheAt.get {C : Addr} {H : Hp} {o R : Addr} {ls : List Addr} {S W z : Int} {rows : List (List Int)} (c : CacheAt C H o R ls S W z rows) (ok : SizesOk S W z) (x : Int) :
    ∃ (j : Nat) (l : Addr), x % S = (j : Int) ∧ (x % S).toNat = j ∧ j < rows.length ∧ ls[j]? = some l ∧ rows[j]? = some (rowAt rows S x) ∧ H l = some (.lst ((rowAt rows S x).map V.int)) := by
  obtain ⟨s1, _⟩ := ok
  have m0 := Int.emod_nonneg x (show S ≠ 0 by omega)
  have m1 := Int.emod_lt_of_pos x (show 0 < S by omega)
  have hS := c.sets
  have hj : (x % S).toNat < rows.length := by omega
  have e2 : rows[(x % S).toNat]? = some (rowAt rows S x) := by
    unfold rowAt
    rw [List.getD_eq_getElem?_getD, List.getElem?_eq_getElem hj]
    rfl
  have e1 : ls[(x % S).toNat]? = some _ := List.getElem?_eq_getElem (by rw [c.len]; exact hj)
  exact ⟨_, _, by omega, rfl, hj, e1, e2, c.row _ _ _ e1 e2⟩
theorem CacheAt.put {C : Addr} {H : Hp} {o R : Addr} {ls : List Addr} {S W z : Int} {rows : List (List Int)} (c : CacheAt C H o R ls S W z rows) {j : Nat} {l : Addr} {r : List Int} (hl : ls[j]? = some l) (hr : rows[j]? = some r) (r' : List Int) :
    CacheAt C (upd H l (.lst (r'.map V.int))) o R ls S W z (rows.set j r') := by
  obtain ⟨⟨dx, h1⟩, h2, h3, h4, h5, h6, h7⟩ := c
  have ml := List.mem_of_getElem? hl
  have ho : o ≠ l := ne_of h1 (h6 j l r hl hr) (by intro q; cases q)
  have hR : R ≠ l := fun z => h7 (z ▸ ml)
  refine ⟨⟨dx, by rw [upd_ne ho]; exact h1⟩, by rw [upd_ne hR]; exact h2, h3, by rw [List.length_set]; exact h4, by rw [List.length_set]; exact h5, ?_, h7⟩
  intro i m q hm hq
  by_cases ij : j = i
  · subst ij
    rw [hl] at hm
    cases hm
    rw [List.getElem?_set_self (by rw [← h4]; exact (List.getElem?_eq_some_iff.mp hl).1)] at hq
    cases hq
    exact upd_same
  · have ml2 : m ≠ l := fun z => by
      subst z
      have a1 := List.getElem?_eq_some_iff.mp hl
      have a2 := List.getElem?_eq_some_iff.mp hm
      obtain ⟨b1, c1⟩ := a1
      obtain ⟨b2, c2⟩ := a2
      exact ij ((List.getElem_inj h3).mp (c1.trans c2.symm))
    rw [upd_ne ml2]
    rw [List.getElem?_set_ne ij] at hq
    exact h6 i m q hm hq
def sp_Cache_holds (C : Addr) : Sp := fun vs H Q _ => ∃ (o R : Addr) (ls : List Addr) (S W z : Int) (rows : List (List Int)) (a : Int), vs = [.ref o, .int a] ∧ CacheAt C H o R ls S W z rows ∧ SizesOk S W z ∧ Q (.bl (decide (a / z ∈ rowAt rows S (a / z)))) H
theorem ok_Cache_holds (T : Top P w K mg) : FnOk P w K mg base CX0 1 T.a_Cache_holds T.d_Cache_holds ["self", "address"]  (sp_Cache_holds T.C_Cache) := by
  refine T.F_Cache_holds.ok sc_Cache_holds (fun vs H Q E h => ?_) (fun cdv A outer s H vs Q E hr h => ?_)
  · obtain ⟨_, _, _, _, _, _, _, _, rfl, _⟩ := h
    rfl
  · obtain ⟨o, R, ls, S, W, z, rows, a, rfl, c, ok, q⟩ := h
    refine ⟨_, (pss_cons (ps_set (i := 2) sc_Cache_holds.nd rfl (by first | exact Or.inl rfl | exact Or.inr rfl) (pe_op op_fdiv (pv 1) (pe_fld (pv 0) rfl)))
  (pss_one (ps_ret (pe_cmpR op_in_seq (pv 2) (pe_ix ix_list (pe_fld (pv 0) rfl) (pe_op op_mod (pv 2) (pe_fld (pv 0) rfl)) (fun _ _ => rfl)) (by with_unfolding_all rfl))))), ?_⟩
    obtain ⟨dx, ho⟩ := c.ob
    obtain ⟨z0, z1⟩ := ok.z0
    have s0 : 0 < S := by have := ok.s1; omega
    obtain ⟨j, l, ej, _, hj, hl, hr2, hH⟩ := c.get ok (a / z)
    refine ⟨_, rfl, _, rfl, o, _, dx, _, _, rfl, ho, T.cl_Cache, T.n_Cache_size, cf_z, _, _, rfl, rfl, ⟨z0, by omega⟩, ?_⟩
    refine ⟨_, rfl, _, rfl, o, _, dx, _, _, rfl, ho, T.cl_Cache, T.n_Cache_rows, cf_R, _, rfl, _, rfl, o, _, dx, _, _, rfl, ho, T.cl_Cache, T.n_Cache_sets, cf_S, _, _, rfl, rfl, s0, ?_⟩
    refine ⟨R, _, _, .ref l, rfl, rfl, SqL.of c.rr, at_of ej (by rw [List.getElem?_map, hl]; rfl), ?_⟩
    refine ⟨l, _, rfl, .inl (SqL.of hH), rfl, flat_ints _, ?_⟩
    rw [inV_int]
    exact q
def sp_Cache_use (C : Addr) : Sp := fun vs H Q _ => ∃ (o R : Addr) (ls : List Addr) (S W z : Int) (rows : List (List Int)) (a : Int), vs = [.ref o, .int a] ∧ CacheAt C H o R ls S W z rows ∧ SizesOk S W z ∧ (∀ r ∈ rows, r.length ≤ 4) ∧
  ∀ H', CacheAt C H' o R ls S W z (usedRows rows S W (a / z)) → Touch ls H H' → Q .non H'
theorem upd_touch {H : Hp} {ls : List Addr} {l : Addr} {x : HO} (m : l ∈ ls) : Touch ls H (upd H l x) := fun b y nb e => by
  rw [upd_ne (fun (z : b = l) => nb (z ▸ m))]
  exact e
theorem erase_at {r : List Int} {x : Int} (h : x ∈ r) : ∃ j : Nat, r[j]? = some x ∧ (∀ m : Nat, m < j → r[m]? ≠ some x) ∧ r.eraseIdx j = r.erase x := by
  induction r with
  | nil => cases h
  | cons y r ih =>
    by_cases e : y = x
    · subst e
      exact ⟨0, rfl, fun m hm => absurd hm (Nat.not_lt_zero m), by simp⟩
    · have h2 : x ∈ r := by
        rcases List.mem_cons.mp h with h | h
        · exact absurd h.symm e
        · exact h
      obtain ⟨j, j1, j2, j3⟩ := ih h2
      refine ⟨j + 1, j1, fun m hm => ?_, ?_⟩
      · cases m with
        | zero => exact fun q => e (Option.some.inj q)
        | succ m => exact j2 m (by omega)
      · rw [List.eraseIdx_cons_succ, j3, List.erase_cons_tail (by simp; exact e)]
theorem ok_Cache_use (T : Top P w K mg) : FnOk P w K mg base CX0 1 T.a_Cache_use T.d_Cache_use ["self", "address"]  (sp_Cache_use T.C_Cache) := by
  refine T.F_Cache_use.ok sc_Cache_use (fun vs H Q E h => ?_) (fun cdv A outer s H vs Q E hr h => ?_)
  · obtain ⟨_, _, _, _, _, _, _, _, rfl, _⟩ := h
    rfl
  · obtain ⟨o, R, ls, S, W, z, rows, a, rfl, c, ok, hlen, q⟩ := h
    refine ⟨_, (pss_cons (ps_set (i := 2) sc_Cache_use.nd rfl (by first | exact Or.inl rfl | exact Or.inr rfl) (pe_op op_fdiv (pv 1) (pe_fld (pv 0) rfl)))
  (pss_cons (ps_set (i := 3) sc_Cache_use.nd rfl (by first | exact Or.inl rfl | exact Or.inr rfl) (pe_ix ix_list (pe_fld (pv 0) rfl) (pe_op op_mod (pv 2) (pe_fld (pv 0) rfl)) (fun _ _ => rfl)))
  (pss_cons (ps_if (pt_cmpR op_in_seq (pv 2) (pv 3) (by with_unfolding_all rfl))
  (pss_one (ps_expr (pe_bm PySem.F.plainAttrs_list PySem.F.slot_list_remove PySem.F.type_list_remove mt_remove (pv 3) (pa_cons (pv 2) pa_nil))))
  (pss_one (ps_if (pt_cmpR op_eq (pe_callB call_len_seq (by rfl) T.m_len PySem.boot_len (pa_cons (pv 3) pa_nil)) (pe_fld (pv 0) rfl) (nomark _))
  (pss_one (ps_expr (pe_bm0 PySem.F.plainAttrs_list PySem.F.slot_list_pop PySem.F.type_list_pop mt_pop (pv 3))))
  pss_nil)))
  (pss_one (ps_expr (pe_bm PySem.F.plainAttrs_list PySem.F.slot_list_insert PySem.F.type_list_insert mt_insert (pv 3) (pa_cons pe_int (pa_cons (pv 2) pa_nil)))))))), ?_⟩
    obtain ⟨dx, ho⟩ := c.ob
    obtain ⟨z0, z1⟩ := ok.z0
    have s0 : 0 < S := by have := ok.s1; omega
    obtain ⟨j, l, ej, ej2, hj, hl, hr2, hH⟩ := c.get ok (a / z)
    have l4 := hlen _ (List.mem_of_getElem? hr2)
    have hW := ok.w1
    have fin : ∀ r' : List Int, r' = useRow W.toNat (a / z) (rowAt rows S (a / z)) → Q .non (upd H l (.lst (r'.map V.int))) := fun r' e => by
      refine q _ ?_ (upd_touch (List.mem_of_getElem? hl))
      unfold usedRows
      rw [ej2, ← e]
      exact c.put hl hr2 r'
    refine ⟨_, rfl, _, rfl, o, _, dx, _, _, rfl, ho, T.cl_Cache, T.n_Cache_size, cf_z, _, _, rfl, rfl, ⟨z0, by omega⟩, ?_⟩
    refine ⟨_, rfl, o, _, dx, _, _, rfl, ho, T.cl_Cache, T.n_Cache_rows, cf_R, _, rfl, _, rfl, o, _, dx, _, _, rfl, ho, T.cl_Cache, T.n_Cache_sets, cf_S, _, _, rfl, rfl, s0, ?_⟩
    refine ⟨R, _, _, .ref l, rfl, rfl, SqL.of c.rr, at_of ej (by rw [List.getElem?_map, hl]; rfl), ?_⟩
    refine ⟨_, rfl, _, rfl, l, _, rfl, .inl (SqL.of hH), rfl, flat_ints _, _, rfl, ?_⟩
    rw [inV_int]
    have fin2 : ∀ (r2 : List Int), r2.length ≤ 4 → (a / z) :: r2 = useRow W.toNat (a / z) (rowAt rows S (a / z)) → ((r2.map V.int).length < sizeLine) ∧ Q .non (upd (upd H l (.lst (r2.map V.int))) l (.lst ((r2.map V.int).take (0 : Int).toNat ++ [.int (a / z)] ++ (r2.map V.int).drop (0 : Int).toNat))) := fun r2 h4 e => by
      refine ⟨by rw [List.length_map]; exact small1000 (by omega), ?_⟩
      rw [upd_upd]
      exact fin _ e
    refine ite2 (fun c1 => ?_) (fun c1 => ?_)
    · have m1 := of_decide_eq_true c1
      obtain ⟨i, i1, i2, i3⟩ := erase_at m1
      refine ⟨_, rfl, .inl ⟨rfl, _, SqL.of hH⟩, _, rfl, l, _, _, i, rfl, rfl, hH, i1, i2, ?_⟩
      rw [i3]
      obtain ⟨f1, f2⟩ := fin2 ((rowAt rows S (a / z)).erase (a / z)) (Nat.le_trans (List.length_erase_le ..) l4) (by unfold useRow; rw [if_pos m1])
      exact ⟨_, rfl, .inl ⟨rfl, _, SqL.of upd_same⟩, _, rfl, l, _, _, _, rfl, rfl, upd_same, f1, by decide, by decide, f2⟩
    · have m1 : ¬ (a / z) ∈ rowAt rows S (a / z) := fun h => c1 (decide_eq_true h)
      refine ⟨_, rfl, l, _, rfl, .inl (SqL.of hH), _, rfl, o, _, dx, _, _, rfl, ho, T.cl_Cache, T.n_Cache_ways, cf_W, rfl, _, rfl, ite2 (fun c2 => ?_) (fun c2 => ?_)⟩
      · have e2 := V.int.inj (of_decide_eq_true c2)
        rw [List.length_map] at e2
        obtain ⟨y, hy⟩ : ∃ y, (rowAt rows S (a / z))[(rowAt rows S (a / z)).length - 1]? = some y := ⟨_, List.getElem?_eq_getElem (by omega)⟩
        refine ⟨_, rfl, .inl ⟨rfl, _, SqL.of hH⟩, l, _, .int y, rfl, rfl, hH, by rw [List.getElem?_map, List.length_map, hy]; rfl, ?_⟩
        rw [← List.map_dropLast]
        obtain ⟨f1, f2⟩ := fin2 ((rowAt rows S (a / z)).dropLast) (by rw [List.length_dropLast]; omega) (by unfold useRow; rw [if_neg m1, if_pos (by omega)])
        exact ⟨_, rfl, .inl ⟨rfl, _, SqL.of upd_same⟩, _, rfl, l, _, _, _, rfl, rfl, upd_same, f1, by decide, by decide, f2⟩
      · have e2 : ¬ ((rowAt rows S (a / z)).length : Int) = W := fun h => c2 (decide_eq_true (by rw [List.length_map, h]))
        obtain ⟨f1, f2⟩ := fin2 (rowAt rows S (a / z)) l4 (by unfold useRow; rw [if_neg m1, if_neg (by omega)])
        rw [upd_self hH] at f2
        exact ⟨_, rfl, .inl ⟨rfl, _, SqL.of hH⟩, _, rfl, l, _, _, _, rfl, rfl, hH, f1, by decide, by decide, f2⟩
def hitOf (rows : List (List Int)) (S x : Int) : Bool := decide (x ∈ rowAt rows S x)
def sp_Cache_read (C : Addr) : Sp := fun vs H Q _ => ∃ (o R : Addr) (ls : List Addr) (S W z : Int) (rows : List (List Int)) (a : Int), vs = [.ref o, .int a] ∧ CacheAt C H o R ls S W z rows ∧ SizesOk S W z ∧ (∀ r ∈ rows, r.length ≤ 4) ∧
  ∀ H', CacheAt C H' o R ls S W z (usedRows rows S W (a / z)) → Touch ls H H' → Q (.bl (hitOf rows S (a / z))) H'
theorem cf_no {S W z : Int} {R : Addr} {m : Str} (h1 : ("sets" : Str) ≠ m := by decide) (h2 : ("ways" : Str) ≠ m := by decide) (h3 : ("size" : Str) ≠ m := by decide) (h4 : ("rows" : Str) ≠ m := by decide) : (cf S W z R).lookup m = none := by
  unfold cf
  have b1 : (m == ("sets" : Str)) = false := beq_eq_false_iff_ne.mpr h1.symm
  have b2 : (m == ("ways" : Str)) = false := beq_eq_false_iff_ne.mpr h2.symm
  have b3 : (m == ("size" : Str)) = false := beq_eq_false_iff_ne.mpr h3.symm
  have b4 : (m == ("rows" : Str)) = false := beq_eq_false_iff_ne.mpr h4.symm
  simp only [List.lookup, b1, b2, b3, b4]
theorem ok_Cache_read (T : Top P w K mg) : FnOk P w K mg base CX0 2 T.a_Cache_read T.d_Cache_read ["self", "address"]  (sp_Cache_read T.C_Cache) := by
  refine T.F_Cache_read.ok sc_Cache_read (fun vs H Q E h => ?_) (fun cdv A outer s H vs Q E hr h => ?_)
  · obtain ⟨_, _, _, _, _, _, _, _, rfl, _⟩ := h
    rfl
  · obtain ⟨o, R, ls, S, W, z, rows, a, rfl, c, ok, hlen, q⟩ := h
    refine ⟨_, (pss_cons (ps_set (i := 2) sc_Cache_read.nd rfl (by first | exact Or.inl rfl | exact Or.inr rfl) (pe_meth (pv 0) T.cl_Cache T.m_Cache_holds (ok_Cache_holds T) (hr.mono (by decide)) T.b_Cache_holds .nil pass0 (pa_cons (pv 1) pa_nil)))
  (pss_cons (ps_expr (pe_meth (pv 0) T.cl_Cache T.m_Cache_use (ok_Cache_use T) (hr.mono (by decide)) T.b_Cache_use .nil pass0 (pa_cons (pv 1) pa_nil)))
  (pss_one (ps_ret (pv 2))))), ?_⟩
    obtain ⟨dx, ho⟩ := c.ob
    refine ⟨_, rfl, o, dx, _, rfl, ho, cf_no, _, rfl, o, R, ls, S, W, z, rows, a, rfl, c, ok, ?_⟩
    refine ⟨_, rfl, o, dx, _, rfl, ho, cf_no, _, rfl, o, R, ls, S, W, z, rows, a, rfl, c, ok, hlen, fun H' c' t' => ?_⟩
    exact ⟨_, rfl, q H' c' t'⟩
def sp_Cache_write (C : Addr) : Sp := fun vs H Q _ => ∃ (o R : Addr) (ls : List Addr) (S W z : Int) (rows : List (List Int)) (a : Int), vs = [.ref o, .int a] ∧ CacheAt C H o R ls S W z rows ∧ SizesOk S W z ∧ (∀ r ∈ rows, r.length ≤ 4) ∧
  ∀ H', CacheAt C H' o R ls S W z (if hitOf rows S (a / z) = true then usedRows rows S W (a / z) else rows) → Touch ls H H' → Q (.bl (hitOf rows S (a / z))) H'
theorem ok_Cache_write (T : Top P w K mg) : FnOk P w K mg base CX0 2 T.a_Cache_write T.d_Cache_write ["self", "address"]  (sp_Cache_write T.C_Cache) := by
  refine T.F_Cache_write.ok sc_Cache_write (fun vs H Q E h => ?_) (fun cdv A outer s H vs Q E hr h => ?_)
  · obtain ⟨_, _, _, _, _, _, _, _, rfl, _⟩ := h
    rfl
  · obtain ⟨o, R, ls, S, W, z, rows, a, rfl, c, ok, hlen, q⟩ := h
    refine ⟨_, (pss_cons (ps_set (i := 2) sc_Cache_write.nd rfl (by first | exact Or.inl rfl | exact Or.inr rfl) (pe_meth (pv 0) T.cl_Cache T.m_Cache_holds (ok_Cache_holds T) (hr.mono (by decide)) T.b_Cache_holds .nil pass0 (pa_cons (pv 1) pa_nil)))
  (pss_cons (ps_if (pt_val (pv 2))
  (pss_one (ps_expr (pe_meth (pv 0) T.cl_Cache T.m_Cache_use (ok_Cache_use T) (hr.mono (by decide)) T.b_Cache_use .nil pass0 (pa_cons (pv 1) pa_nil))))
  pss_nil)
  (pss_one (ps_ret (pv 2))))), ?_⟩
    obtain ⟨dx, ho⟩ := c.ob
    refine ⟨_, rfl, o, dx, _, rfl, ho, cf_no, _, rfl, o, R, ls, S, W, z, rows, a, rfl, c, ok, ?_⟩
    refine ⟨_, rfl, hitOf rows S (a / z), rfl, ?_⟩
    cases e : hitOf rows S (a / z) with
    | true =>
      rw [e, if_pos rfl] at q
      refine iteT ⟨_, rfl, o, dx, _, rfl, ho, cf_no, _, rfl, o, R, ls, S, W, z, rows, a, rfl, c, ok, hlen, fun H' c' t' => ?_⟩
      refine ⟨_, rfl, ?_⟩
      have : decide (a / z ∈ rowAt rows S (a / z)) = true := e
      rw [this]
      exact q H' c' t'
    | false =>
      rw [e, if_neg (by decide)] at q
      refine iteF ⟨_, rfl, ?_⟩
      have : decide (a / z ∈ rowAt rows S (a / z)) = false := e
      rw [this]
      exact q H c (Touch.refl _ _)

def sp_Cache_duplicate (C : Addr) : Sp := fun vs H Q _ => ∃ (o R : Addr) (ls : List Addr) (S W z : Int) (rows : List (List Int)), vs = [.ref o] ∧ CacheAt C H o R ls S W z rows ∧ SizesOk S W z ∧ 
  ∀ (H' : Hp) (o2 R2 : Addr) (ls2 : List Addr), CacheAt C H' o2 R2 ls2 S W z rows → Same H H' → (∀ l ∈ ls2, H l = none) → H R2 = none → H o2 = none → Q (.ref o2) H'
theorem ok_Cache_duplicate (T : Top P w K mg) : FnOk P w K mg base CX0 3 T.a_Cache_duplicate T.d_Cache_duplicate ["self"]  (sp_Cache_duplicate T.C_Cache) := by
  refine T.F_Cache_duplicate.ok sc_Cache_duplicate (fun vs H Q E h => ?_) (fun cdv A outer s H vs Q E hr h => ?_)
  · obtain ⟨_, _, _, _, _, _, _, rfl, _⟩ := h
    rfl
  · obtain ⟨o, R, ls, S, W, z, rows, rfl, c, ok, q⟩ := h
    refine ⟨_, (pss_cons (ps_set (i := 1) sc_Cache_duplicate.nd rfl (by first | exact Or.inl rfl | exact Or.inr rfl) (pe_make T.M_Cache (ok_Cache_init T) (hr.mono (by decide)) (by rfl) T.gc_Cache T.b_Cache_init .nil pass0 (pa_cons (pe_fld (pv 0) rfl) (pa_cons (pe_fld (pv 0) rfl) (pa_cons (pe_fld (pv 0) rfl) pa_nil)))))
  (pss_cons (ps_fld (pv 1) (pe_lc (own := [("lines", 2)]) (g := gName 2) (tt := tYes) rfl sc_Cache_duplicate.nd (pi_list (pe_fld (pv 0) rfl)) (blkOk_by (N := ["self", "other", "lines"]) (sc := defScope s_Cache_duplicate) (by decide +kernel)) (fun _ _ _ _ _ => pg_name (i := 2) sc_Cache_duplicate.nd rfl (Or.inl rfl)) (fun _ _ _ _ _ => pts_nil) (fun _ _ _ _ _ => (pe_callTy (show CallR _ (Value.type "list") (rListOf K) from call_list_of) (by rfl) T.m_list (by decide +kernel) (pa_cons (pv 2) pa_nil)))) rfl)
  (pss_one (ps_ret (pv 1))))), ?_⟩
    obtain ⟨dx, ho⟩ := c.ob
    refine ⟨_, rfl, o, _, dx, _, _, rfl, ho, T.cl_Cache, T.n_Cache_sets, cf_S, _, rfl, o, _, dx, _, _, rfl, ho, T.cl_Cache, T.n_Cache_ways, cf_W, _, rfl, o, _, dx, _, _, rfl, ho, T.cl_Cache, T.n_Cache_size, cf_z, ?_⟩
    intro x d2 nx nd ned
    refine ⟨x, d2, S, W, z, rfl, ok, upd_same, fun H1 R1 ls1 c1 k1 nR1 nl1 => ⟨rfl, ?_⟩⟩
    have s1 : Same H H1 := fun b y e => by
      have bx := ne_of_none e nx
      refine k1 b y bx ?_
      rw [upd_ne bx, upd_ne (ne_of_none e nd)]
      exact e
    refine ⟨_, rfl, o, _, dx, _, _, rfl, s1 _ _ ho, T.cl_Cache, T.n_Cache_rows, cf_R, R, rfl, ⟨_, SqL.of (s1 _ _ c.rr)⟩, fun R2 nR2 => ?_⟩
    obtain ⟨d3, hx⟩ := c1.ob
    refine lc_list (xs := ls.map V.ref) (fun i H' => ∃ ls2 : List Addr, ls2.length = i ∧ ls2.Nodup ∧ R2 ∉ ls2 ∧ (∀ l ∈ ls2, H1 l = none) ∧ (∀ (j : Nat) (l : Addr) (r : List Int), ls2[j]? = some l → rows[j]? = some r → H' l = some (.lst (r.map V.int))) ∧ H' R2 = some (.lst (ls2.map V.ref)) ∧ Same H1 H')
      ⟨[], rfl, List.nodup_nil, by simp, by simp, by simp, upd_same, same_new nR2⟩ (fun i H' _ ⟨_, _, _, _, _, _, _, sm⟩ => SqL.of (sm _ _ (s1 _ _ c.rr))) ?_ ?_
    · rintro i y H' hi ⟨ls2, e1, e2, e3, e4, e5, e6, e7⟩
      obtain ⟨l, hl, rfl⟩ : ∃ l, ls[i]? = some l ∧ V.ref l = y := by
        rw [List.getElem?_map] at hi
        cases e : ls[i]? with
        | none => rw [e] at hi; cases hi
        | some l => rw [e] at hi; exact ⟨l, rfl, Option.some.inj hi⟩
      have hil : i < rows.length := by
        rw [← c.len]
        exact (List.getElem?_eq_some_iff.mp hl).1
      have hr2 : rows[i]? = some rows[i] := List.getElem?_eq_getElem hil
      have hH := e7 _ _ (s1 _ _ (c.row i l _ hl hr2))
      refine ⟨rfl, ?_⟩
      refine ⟨_, rfl, l, _, rfl, .inl (SqL.of hH), fun m hm => ?_⟩
      have mR : m ≠ R2 := (ne_of_none e6 hm).symm
      have mH : H1 m = none := e7.free hm
      have mm : m ∉ ls2 := fun q => by
        obtain ⟨j, hj⟩ := List.getElem?_of_mem q
        have hj2 : j < rows.length := by
          have := (List.getElem?_eq_some_iff.mp hj).1
          omega
        rw [e5 j m _ hj (List.getElem?_eq_getElem hj2)] at hm
        cases hm
      have i64 : i ≤ 64 := by
        have := c.sets
        have := ok.s2
        omega
      refine ⟨_, by rw [upd_ne mR.symm]; exact e6, ?_, ls2 ++ [m], ?_, ?_, ?_, ?_, ?_, ?_, ?_⟩
      · rw [List.length_map, e1]
        exact small1000 (by omega)
      · rw [List.length_append, e1]
        rfl
      · rw [List.nodup_append]
        exact ⟨e2, by simp, fun a ha b hb => by
          rw [List.mem_singleton] at hb
          subst hb
          exact fun z => mm (z ▸ ha)⟩
      · intro q
        rcases List.mem_append.mp q with q | q
        · exact e3 q
        · exact mR (List.mem_singleton.mp q).symm
      · intro a q
        rcases List.mem_append.mp q with q | q
        · exact e4 a q
        · rw [List.mem_singleton.mp q]
          exact mH
      · intro j a r ha hr
        have aR : a ≠ R2 := fun z => by
          subst z
          rcases List.mem_append.mp (List.mem_of_getElem? ha) with q | q
          · exact e3 q
          · exact mR (List.mem_singleton.mp q).symm
        rw [upd_ne aR]
        rw [List.getElem?_append] at ha
        split at ha
        · have q := List.mem_of_getElem? ha
          rw [upd_ne (fun (z : a = m) => mm (z ▸ q))]
          exact e5 j a r ha hr
        · rename_i hj
          have q := List.mem_singleton.mp (List.mem_of_getElem? ha)
          have ej : j - ls2.length = 0 := by
            have := (List.getElem?_eq_some_iff.mp ha).1
            simp at this
            omega
          have ej2 : j = i := by omega
          subst ej2
          rw [hr2] at hr
          cases hr
          rw [q]
          exact upd_same
      · rw [upd_same, List.map_append]
        rfl
      · intro b y e
        rw [upd_ne (ne_of_none e nR2), upd_ne (ne_of_none (e7 b y e) hm)]
        exact e7 b y e
    · rintro H' ⟨ls2, e1, e2, e3, e4, e5, e6, e7⟩
      rw [List.length_map] at e1
      have hx' := e7 _ _ hx
      refine ⟨_, rfl, x, _, d3, _, rfl, hx', T.cl_Cache, T.n_Cache_rows, (by show 4 < 1000; decide), ?_⟩
      rw [cf_rows]
      have xR : x ≠ R2 := ne_of_none hx nR2
      have xl : x ∉ ls2 := fun m => by rw [e4 x m] at hx; cases hx
      have s3 : Same H (upd H' x (.ins T.C_Cache d3 (cf S W z R2))) := fun b y e => by
        rw [upd_ne (ne_of_none e nx)]
        exact e7 b y (s1 b y e)
      refine ⟨_, rfl, q _ x R2 ls2 ⟨⟨d3, upd_same⟩, ?_, e2, ?_, c.sets, ?_, e3⟩ s3 (fun l m => s1.free (e4 l m)) (s1.free nR2) nx⟩
      · rw [upd_ne xR.symm]
        exact e6
      · rw [e1]
        exact c.len
      · intro j l r hl hr
        rw [upd_ne (fun (z : l = x) => xl (z ▸ List.mem_of_getElem? hl))]
        exact e5 j l r hl hr
end


set_option Elab.async false
set_option linter.all false
set_option maxRecDepth 100000
set_option maxHeartbeats 1000000








/-! ### the processor: registers, data, counters, ports -/
structure Ms where
  regs : List Int
  data : List Int
  ctrs : List Int
  ins : List (List Int)
  outs : List (List Int)
structure Mad where
  R : Addr
  D : Addr
  N : Addr
  I : Addr
  O : Addr
  is : List Addr
  os : List Addr
def Mad.all (A : Mad) : List Addr := A.R :: A.D :: A.N :: A.I :: A.O :: (A.is ++ A.os)
structure Mem (H : Hp) (A : Mad) (m : Ms) : Prop where
  hR : H A.R = some (.lst (m.regs.map V.int))
  hD : H A.D = some (.lst (m.data.map V.int))
  hN : H A.N = some (.lst (m.ctrs.map V.int))
  hI : H A.I = some (.lst (A.is.map V.ref))
  hO : H A.O = some (.lst (A.os.map V.ref))
  rI : ∀ (j : Nat) a r, A.is[j]? = some a → m.ins[j]? = some r → H a = some (.lst (r.map V.int))
  rO : ∀ (j : Nat) a r, A.os[j]? = some a → m.outs[j]? = some r → H a = some (.lst (r.map V.int))
  nd : A.all.Nodup
  l9 : m.regs.length = 9
  lD : m.data.length = 16384
  lN : m.ctrs.length = 256
  lI : A.is.length = 8
  lJ : m.ins.length = 8
  lO : A.os.length = 8
  lP : m.outs.length = 8
theorem Mem.keep {H H' : Hp} {A : Mad} {m : Ms} (h : Mem H A m) (k : ∀ a ∈ A.all, ∀ x, H a = some x → H' a = some x) : Mem H' A m := by
  obtain ⟨h1, h2, h3, h4, h5, h6, h7, h8, h9, h10, h11, h12, h13, h14, h15⟩ := h
  refine ⟨k _ (by simp [Mad.all]) _ h1, k _ (by simp [Mad.all]) _ h2, k _ (by simp [Mad.all]) _ h3, k _ (by simp [Mad.all]) _ h4, k _ (by simp [Mad.all]) _ h5, fun j a r e1 e2 => k _ ?_ _ (h6 j a r e1 e2), fun j a r e1 e2 => k _ ?_ _ (h7 j a r e1 e2), h8, h9, h10, h11, h12, h13, h14, h15⟩
  · have := List.mem_of_getElem? e1; simp [Mad.all, this]
  · have := List.mem_of_getElem? e1; simp [Mad.all, this]
/-- the fifteen and more addresses are apart -/
theorem Mad.apart {A : Mad} (nd : A.all.Nodup) : A.R ≠ A.D ∧ A.R ≠ A.N ∧ A.R ≠ A.I ∧ A.R ≠ A.O ∧ A.D ≠ A.N ∧ A.D ≠ A.I ∧ A.D ≠ A.O ∧ A.N ≠ A.I ∧ A.N ≠ A.O ∧ A.I ≠ A.O ∧
    (∀ a ∈ A.is ++ A.os, A.R ≠ a ∧ A.D ≠ a ∧ A.N ≠ a ∧ A.I ≠ a ∧ A.O ≠ a) ∧ (A.is ++ A.os).Nodup := by
  unfold Mad.all at nd
  simp only [List.nodup_cons, List.mem_cons, not_or] at nd
  obtain ⟨⟨a1, a2, a3, a4, a5⟩, ⟨b1, b2, b3, b4⟩, ⟨c1, c2, c3⟩, ⟨d1, d2⟩, e1, n⟩ := nd
  exact ⟨a1, a2, a3, a4, b1, b2, b3, c1, c2, d1, fun a m => ⟨fun z => a5 (z ▸ m), fun z => b4 (z ▸ m), fun z => c3 (z ▸ m), fun z => d2 (z ▸ m), fun z => e1 (z ▸ m)⟩, n⟩
theorem Mem.setR {H : Hp} {A : Mad} {m : Ms} (h : Mem H A m) {rs : List Int} (l : rs.length = 9) : Mem (upd H A.R (.lst (rs.map V.int))) A { m with regs := rs } := by
  obtain ⟨n1, n2, n3, n4, n5, n6, n7, n8, n9, n10, na, nn⟩ := Mad.apart h.nd
  refine ⟨upd_same, by rw [upd_ne n1.symm]; exact h.hD, by rw [upd_ne n2.symm]; exact h.hN, by rw [upd_ne n3.symm]; exact h.hI, by rw [upd_ne n4.symm]; exact h.hO, fun j a r e1 e2 => ?_, fun j a r e1 e2 => ?_, h.nd, l, h.lD, h.lN, h.lI, h.lJ, h.lO, h.lP⟩
  · rw [upd_ne (na a (List.mem_append_left _ (List.mem_of_getElem? e1))).1.symm]; exact h.rI j a r e1 e2
  · rw [upd_ne (na a (List.mem_append_right _ (List.mem_of_getElem? e1))).1.symm]; exact h.rO j a r e1 e2
theorem Mem.setD {H : Hp} {A : Mad} {m : Ms} (h : Mem H A m) {rs : List Int} (l : rs.length = 16384) : Mem (upd H A.D (.lst (rs.map V.int))) A { m with data := rs } := by
  obtain ⟨n1, n2, n3, n4, n5, n6, n7, n8, n9, n10, na, nn⟩ := Mad.apart h.nd
  refine ⟨by rw [upd_ne n1]; exact h.hR, upd_same, by rw [upd_ne n5.symm]; exact h.hN, by rw [upd_ne n6.symm]; exact h.hI, by rw [upd_ne n7.symm]; exact h.hO, fun j a r e1 e2 => ?_, fun j a r e1 e2 => ?_, h.nd, h.l9, l, h.lN, h.lI, h.lJ, h.lO, h.lP⟩
  · rw [upd_ne (na a (List.mem_append_left _ (List.mem_of_getElem? e1))).2.1.symm]; exact h.rI j a r e1 e2
  · rw [upd_ne (na a (List.mem_append_right _ (List.mem_of_getElem? e1))).2.1.symm]; exact h.rO j a r e1 e2
theorem Mem.setN {H : Hp} {A : Mad} {m : Ms} (h : Mem H A m) {rs : List Int} (l : rs.length = 256) : Mem (upd H A.N (.lst (rs.map V.int))) A { m with ctrs := rs } := by
  obtain ⟨n1, n2, n3, n4, n5, n6, n7, n8, n9, n10, na, nn⟩ := Mad.apart h.nd
  refine ⟨by rw [upd_ne n2]; exact h.hR, by rw [upd_ne n5]; exact h.hD, upd_same, by rw [upd_ne n8.symm]; exact h.hI, by rw [upd_ne n9.symm]; exact h.hO, fun j a r e1 e2 => ?_, fun j a r e1 e2 => ?_, h.nd, h.l9, h.lD, l, h.lI, h.lJ, h.lO, h.lP⟩
  · rw [upd_ne (na a (List.mem_append_left _ (List.mem_of_getElem? e1))).2.2.1.symm]; exact h.rI j a r e1 e2
  · rw [upd_ne (na a (List.mem_append_right _ (List.mem_of_getElem? e1))).2.2.1.symm]; exact h.rO j a r e1 e2
theorem Mem.setI {H : Hp} {A : Mad} {m : Ms} (h : Mem H A m) {q : Nat} {b : Addr} (e : A.is[q]? = some b) {rs : List Int} : Mem (upd H b (.lst (rs.map V.int))) A { m with ins := m.ins.set q rs } := by
  obtain ⟨n1, n2, n3, n4, n5, n6, n7, n8, n9, n10, na, nn⟩ := Mad.apart h.nd
  obtain ⟨b1, b2, b3, b4, b5⟩ := na b (List.mem_append_left _ (List.mem_of_getElem? e))
  obtain ⟨ni, no, nio⟩ := List.nodup_append.mp nn
  refine ⟨by rw [upd_ne b1]; exact h.hR, by rw [upd_ne b2]; exact h.hD, by rw [upd_ne b3]; exact h.hN, by rw [upd_ne b4]; exact h.hI, by rw [upd_ne b5]; exact h.hO, fun j a r e1 e2 => ?_, fun j a r e1 e2 => ?_, h.nd, h.l9, h.lD, h.lN, h.lI, by rw [List.length_set]; exact h.lJ, h.lO, h.lP⟩
  · by_cases z : j = q
    · subst z
      rw [e] at e1
      cases e1
      have : j < m.ins.length := by
        have := (List.getElem?_eq_some_iff.mp e).1
        rw [h.lI] at this; rw [h.lJ]; exact this
      rw [List.getElem?_set_self this] at e2
      cases e2
      exact upd_same
    · rw [List.getElem?_set_ne (Ne.symm z)] at e2
      rw [upd_ne (fun z2 => z ((List.getElem?_inj (List.getElem?_eq_some_iff.mp e1).1 ni).mp (by rw [e1, e, z2])))]
      exact h.rI j a r e1 e2
  · rw [upd_ne (fun z => nio b (List.mem_of_getElem? e) a (List.mem_of_getElem? e1) z.symm)]; exact h.rO j a r e1 e2
theorem Mem.setO {H : Hp} {A : Mad} {m : Ms} (h : Mem H A m) {q : Nat} {b : Addr} (e : A.os[q]? = some b) {rs : List Int} : Mem (upd H b (.lst (rs.map V.int))) A { m with outs := m.outs.set q rs } := by
  obtain ⟨n1, n2, n3, n4, n5, n6, n7, n8, n9, n10, na, nn⟩ := Mad.apart h.nd
  obtain ⟨b1, b2, b3, b4, b5⟩ := na b (List.mem_append_right _ (List.mem_of_getElem? e))
  obtain ⟨ni, no, nio⟩ := List.nodup_append.mp nn
  refine ⟨by rw [upd_ne b1]; exact h.hR, by rw [upd_ne b2]; exact h.hD, by rw [upd_ne b3]; exact h.hN, by rw [upd_ne b4]; exact h.hI, by rw [upd_ne b5]; exact h.hO, fun j a r e1 e2 => ?_, fun j a r e1 e2 => ?_, h.nd, h.l9, h.lD, h.lN, h.lI, h.lJ, h.lO, by rw [List.length_set]; exact h.lP⟩
  · rw [upd_ne (fun z => nio a (List.mem_of_getElem? e1) b (List.mem_of_getElem? e) z)]; exact h.rI j a r e1 e2
  · by_cases z : j = q
    · subst z
      rw [e] at e1
      cases e1
      have : j < m.outs.length := by
        have := (List.getElem?_eq_some_iff.mp e).1
        rw [h.lO] at this; rw [h.lP]; exact this
      rw [List.getElem?_set_self this] at e2
      cases e2
      exact upd_same
    · rw [List.getElem?_set_ne (Ne.symm z)] at e2
      rw [upd_ne (fun z2 => z ((List.getElem?_inj (List.getElem?_eq_some_iff.mp e1).1 no).mp (by rw [e1, e, z2])))]
      exact h.rO j a r e1 e2
theorem Mem.isAt {H : Hp} {A : Mad} {m : Ms} (h : Mem H A m) {q : Nat} (hq : q < 8) : ∃ b r, A.is[q]? = some b ∧ m.ins[q]? = some r ∧ H b = some (.lst (r.map V.int)) := by
  have h1 : q < A.is.length := by rw [h.lI]; exact hq
  have h2 : q < m.ins.length := by rw [h.lJ]; exact hq
  exact ⟨_, _, List.getElem?_eq_getElem h1, List.getElem?_eq_getElem h2, h.rI q _ _ (List.getElem?_eq_getElem h1) (List.getElem?_eq_getElem h2)⟩
theorem Mem.osAt {H : Hp} {A : Mad} {m : Ms} (h : Mem H A m) {q : Nat} (hq : q < 8) : ∃ b r, A.os[q]? = some b ∧ m.outs[q]? = some r ∧ H b = some (.lst (r.map V.int)) := by
  have h1 : q < A.os.length := by rw [h.lO]; exact hq
  have h2 : q < m.outs.length := by rw [h.lP]; exact hq
  exact ⟨_, _, List.getElem?_eq_getElem h1, List.getElem?_eq_getElem h2, h.rO q _ _ (List.getElem?_eq_getElem h1) (List.getElem?_eq_getElem h2)⟩
def Ms.reg (m : Ms) (r : Nat) : Int := (m.regs[r]?).getD 0
def Ms.put (m : Ms) (r : Nat) (w : Int) : Ms := if r = 0 then m else { m with regs := m.regs.set r w }
theorem Mem.regAt {H : Hp} {A : Mad} {m : Ms} (h : Mem H A m) {r : Nat} (hr : r < 9) : m.regs[r]? = some (m.reg r) := by
  have : r < m.regs.length := by rw [h.l9]; exact hr
  unfold Ms.reg
  rw [List.getElem?_eq_getElem this]; rfl
def corF (a : Int) (R : Addr) : List (Str × V) := [("at", .int a), ("registers", .ref R)]
def CoreAt (C : Addr) (H : Hp) (o : Addr) (a : Int) (R : Addr) : Prop := ∃ dx, H o = some (.ins C dx (corF a R))
def brdF (A : Mad) (c1 c2 : Addr) : List (Str × V) := [("data", .ref A.D), ("counters", .ref A.N), ("code_cache", .ref c1), ("data_cache", .ref c2), ("inputs", .ref A.I), ("outputs", .ref A.O)]
def BoardAt (C : Addr) (H : Hp) (o : Addr) (A : Mad) (c1 c2 : Addr) : Prop := ∃ dx, H o = some (.ins C dx (brdF A c1 c2))
theorem corF_at {a : Int} {R : Addr} : (corF a R).lookup ("at" : Str) = some (.int a) ∧ (corF a R).lookup ("registers" : Str) = some (.ref R) := by constructor <;> with_unfolding_all rfl
theorem corF_put {a b : Int} {R : Addr} : putF "at" (.int b) (corF a R) = corF b R := by with_unfolding_all rfl
theorem corF_no {a : Int} {R : Addr} : (corF a R).lookup ("put" : Str) = none := by with_unfolding_all rfl
theorem brdF_at {A : Mad} {c1 c2 : Addr} : (brdF A c1 c2).lookup ("data" : Str) = some (.ref A.D) ∧ (brdF A c1 c2).lookup ("counters" : Str) = some (.ref A.N) ∧ (brdF A c1 c2).lookup ("code_cache" : Str) = some (.ref c1) ∧ (brdF A c1 c2).lookup ("data_cache" : Str) = some (.ref c2) ∧
    (brdF A c1 c2).lookup ("inputs" : Str) = some (.ref A.I) ∧ (brdF A c1 c2).lookup ("outputs" : Str) = some (.ref A.O) ∧ (brdF A c1 c2).lookup ("take" : Str) = none := by
  refine ⟨?_, ?_, ?_, ?_, ?_, ?_, ?_⟩ <;> with_unfolding_all rfl
section
variable {P : Program} {w : World} {K : PySem.W.Frag} {mg : Str → Option Value} {base : Heap}
def sp_Core_put (C : Addr) : Sp := fun vs H Q _ => ∃ (o : Addr) (a : Int) (A : Mad) (m : Ms) (r : Nat) (wd : Int), vs = [.ref o, .int (r : Int), .int wd] ∧ CoreAt C H o a A.R ∧ Mem H A m ∧ r < 9 ∧
  ∀ H', Mem H' A (m.put r wd) → Touch [A.R] H H' → Q .non H'
theorem ok_Core_put (T : Top P w K mg) : FnOk P w K mg base CX0 1 T.a_Core_put T.d_Core_put ["self", "r", "word"]  (sp_Core_put T.C_Core) := by
  refine T.F_Core_put.ok sc_Core_put (fun vs H Q E h => ?_) (fun cdv A outer s H vs Q E hr h => ?_)
  · obtain ⟨_, _, _, _, _, _, rfl, _⟩ := h
    rfl
  · obtain ⟨o, a, A, m, r, wd, rfl, ⟨dx, ho⟩, hm, r9, q⟩ := h
    refine ⟨_, (pss_one (ps_if (pt_cmpR op_ne (pv 1) pe_int (nomark _))
  (pss_one (ps_asg (pv 2) (pg_sub (pe_fld (pv 0) rfl) (pv 1) set_list)))
  pss_nil)), ?_⟩
    rw [show ∀ a0 a1 a2 : V, L2.start ["self", "r", "word"] [a0, a1, a2] = [some a0, some a1, some a2] from fun _ _ _ => rfl]
    have kc := T.cl_Core
    have k1 := T.n_Core_registers
    obtain ⟨f1, f2⟩ := corF_at (a := a) (R := A.R)
    walk_at "my rn"
    unfold Ms.put at q
    refine Rd.ifN (fun e => ?_) fun e => ?_
    · have r0 : ¬ r = 0 := fun z => e (by rw [z]; rfl)
      rw [if_neg r0] at q
      walk_at "my rn"
      refine Rd.setL (j := r) hm.hR (Evl.ixN_nat (by rw [List.length_map, hm.l9]; exact r9)) ?_
      rw [← List.map_set]
      refine q _ (hm.setR (by rw [List.length_set]; exact hm.l9)) fun b x nb e => by rw [upd_ne (fun z => nb (by rw [z]; exact List.mem_singleton.mpr rfl))]; exact e
    · have r0 : r = 0 := by have := V.int.inj e; omega
      rw [if_pos r0] at q
      walk_at "my rn"
      exact q H hm (Touch.refl _ _)
def Ms.take (m : Ms) (q : Nat) : Int × Ms := match (m.ins[q]?).getD [] with
  | [] => (0, m)
  | x :: r => (x, { m with ins := m.ins.set q r })
def sp_Board_take (C : Addr) : Sp := fun vs H Q _ => ∃ (o c1 c2 : Addr) (A : Mad) (m : Ms) (p : Nat), vs = [.ref o, .int (p : Int)] ∧ BoardAt C H o A c1 c2 ∧ Mem H A m ∧ p < 8 ∧
  ∀ H', Mem H' A (m.take p).2 → Touch A.is H H' → Q (.int (m.take p).1) H'
theorem ok_Board_take (T : Top P w K mg) : FnOk P w K mg base CX0 1 T.a_Board_take T.d_Board_take ["self", "port"]  (sp_Board_take T.C_Board) := by
  refine T.F_Board_take.ok sc_Board_take (fun vs H Q E h => ?_) (fun cdv A outer s H vs Q E hr h => ?_)
  · obtain ⟨_, _, _, _, _, _, rfl, _⟩ := h
    rfl
  · obtain ⟨o, c1, c2, A, m, p, rfl, ⟨dx, ho⟩, hm, p8, q⟩ := h
    refine ⟨_, (pss_cons (ps_if (pt_cmpR op_eq (pe_callB call_len_seq (by rfl) T.m_len PySem.boot_len (pa_cons (pe_ix ix_list (pe_fld (pv 0) rfl) (pv 1) (fun _ _ => rfl)) pa_nil)) pe_int (nomark _))
  (pss_one (ps_ret pe_int))
  pss_nil)
  (pss_one (ps_ret (pe_bm PySem.F.plainAttrs_list PySem.F.slot_list_pop PySem.F.type_list_pop mt_popAt (pe_ix ix_list (pe_fld (pv 0) rfl) (pv 1) (fun _ _ => rfl)) (pa_cons pe_int pa_nil))))), ?_⟩
    rw [show ∀ a0 a1 : V, L2.start ["self", "port"] [a0, a1] = [some a0, some a1] from fun _ _ => rfl]
    have kc := T.cl_Board
    have k1 := T.n_Board_inputs
    obtain ⟨f1, f2, f3, f4, f5, f6, f7⟩ := brdF_at (A := A) (c1 := c1) (c2 := c2)
    obtain ⟨b, r, e1, e2, hb⟩ := hm.isAt p8
    have hix : atI (A.is.map V.ref) (p : Int) = some (.ref b) := Rd.at_val rfl (by rw [List.getElem?_map, e1]; rfl)
    unfold Ms.take at q
    rw [e2] at q
    walk_at "my rn"
    refine Rd.ixL hm.hI hix ?_
    walk_at "my rn"
    cases r with
    | nil =>
      rw [decide_eq_true (by rfl)]
      refine Rd.ifT ?_
      walk_at "my rn"
      exact q H hm (Touch.refl _ _)
    | cons x r =>
      rw [decide_eq_false (by intro z; have := V.int.inj z; simp at this; omega)]
      refine Rd.ifF ?_
      walk_at "my rn"
      refine Rd.ixL hm.hI hix ?_
      walk_at "my rn"
      refine ⟨b, _, 0, 0, .int x, rfl, rfl, hb, by decide, by decide, by unfold seqIndex?; simp, rfl, ?_⟩
      show Q (.int x) (upd H b (.lst (r.map V.int)))
      have q' : ∀ H', Mem H' A { m with ins := m.ins.set p r } → Touch A.is H H' → Q (.int x) H' := q
      exact q' _ (hm.setI e1) fun z y nz e => by rw [upd_ne (fun w => nz (by rw [w]; exact List.mem_of_getElem? e1))]; exact e
end


set_option Elab.async false
set_option linter.all false
set_option maxRecDepth 100000
set_option maxHeartbeats 1000000








/-! ### instructions and what they do -/
inductive Ic
  | set (r : Nat) (n : Int)
  | high (r : Nat) (n : Int)
  | cal (op : Str) (r s t : Nat)
  | load (r a : Nat)
  | store (r a : Nat)
  | loadx (r s a n : Nat)
  | storex (r s a n : Nat)
  | jump (p : Int)
  | jzero (r : Nat) (p : Int)
  | count (c : Nat) (n : Int)
  | again (c : Nat) (p : Int)
  | link (p : Int)
  | back
  | done
  | enter (o : Int)
  | leave (o : Int)
  | inp (r q : Nat)
  | outp (r q : Nat)
def Ic.nm : Ic → Str
  | .set _ _ => "set"
  | .high _ _ => "high"
  | .cal _ _ _ _ => "calc"
  | .load _ _ => "load"
  | .store _ _ => "store"
  | .loadx _ _ _ _ => "loadx"
  | .storex _ _ _ _ => "storex"
  | .jump _ => "jump"
  | .jzero _ _ => "jzero"
  | .count _ _ => "count"
  | .again _ _ => "again"
  | .link _ => "link"
  | .back => "back"
  | .done => "done"
  | .enter _ => "enter"
  | .leave _ => "leave"
  | .inp _ _ => "in"
  | .outp _ _ => "out"
def Ic.op : Ic → Str
  | .cal op _ _ _ => op
  | _ => ""
abbrev nI (n : Nat) : V := .int (n : Int)
def Ic.vs : Ic → List V
  | .set r n => [nI r, .int n]
  | .high r n => [nI r, .int n]
  | .cal op r s t => [.str op, nI r, nI s, nI t]
  | .load r a => [nI r, nI a]
  | .store r a => [nI r, nI a]
  | .loadx r s a n => [nI r, nI s, nI a, nI n]
  | .storex r s a n => [nI r, nI s, nI a, nI n]
  | .jump p => [.int p]
  | .jzero r p => [nI r, .int p]
  | .count c n => [nI c, .int n]
  | .again c p => [nI c, .int p]
  | .link p => [.int p]
  | .back => []
  | .done => []
  | .enter o => [.int o]
  | .leave o => [.int o]
  | .inp r q => [nI r, nI q]
  | .outp r q => [nI r, nI q]
def calcs : List Str := ["add", "sub", "mul", "div", "mod", "and", "or", "xor", "shl", "shr", "ult", "ule", "slt", "sle", "eq", "ne", "nor"]
def Ic.Ok : Ic → Prop
  | .set r _ => r < 9
  | .high r n => r < 9 ∧ 0 ≤ n ∧ n < 65536
  | .cal op r s t => op ∈ calcs ∧ r < 9 ∧ s < 9 ∧ t < 9
  | .load r a => r < 9 ∧ a < 16384
  | .store r a => r < 9 ∧ a < 16384
  | .loadx r s a n => r < 9 ∧ s < 9 ∧ 1 ≤ n ∧ a + n ≤ 16384
  | .storex r s a n => r < 9 ∧ s < 9 ∧ 1 ≤ n ∧ a + n ≤ 16384
  | .jzero r _ => r < 9
  | .count c n => c < 256 ∧ 0 ≤ n ∧ n < 4294967296
  | .again c _ => c < 256
  | .inp r q => r < 9 ∧ q < 8
  | .outp r q => r < 9 ∧ q < 8
  | _ => True
def IcAt (K : PySem.W.Frag) (H : Hp) (t : Addr) (i : Ic) : Prop := SqT K H t (.str i.nm :: i.vs)
def Ic.isCalc : Ic → Bool
  | .cal _ _ _ _ => true
  | _ => false
theorem ne_calc (i : Ic) (h : i.isCalc = false) : ¬ i.nm = "calc" := by
  cases i
  case cal => cases h
  all_goals (intro z; revert z; first | exact (by decide +kernel : ¬ ("set" : Str) = "calc") | exact (by decide +kernel : ¬ ("high" : Str) = "calc") | exact (by decide +kernel : ¬ ("load" : Str) = "calc") | exact (by decide +kernel : ¬ ("store" : Str) = "calc") | exact (by decide +kernel : ¬ ("loadx" : Str) = "calc") | exact (by decide +kernel : ¬ ("storex" : Str) = "calc") | exact (by decide +kernel : ¬ ("jump" : Str) = "calc") | exact (by decide +kernel : ¬ ("jzero" : Str) = "calc") | exact (by decide +kernel : ¬ ("count" : Str) = "calc") | exact (by decide +kernel : ¬ ("again" : Str) = "calc") | exact (by decide +kernel : ¬ ("link" : Str) = "calc") | exact (by decide +kernel : ¬ ("back" : Str) = "calc") | exact (by decide +kernel : ¬ ("done" : Str) = "calc") | exact (by decide +kernel : ¬ ("enter" : Str) = "calc") | exact (by decide +kernel : ¬ ("leave" : Str) = "calc") | exact (by decide +kernel : ¬ ("in" : Str) = "calc") | exact (by decide +kernel : ¬ ("out" : Str) = "calc"))
def Ic.isAcc : Ic → Bool
  | .load _ _ => true
  | .store _ _ => true
  | .loadx _ _ _ _ => true
  | .storex _ _ _ _ => true
  | _ => false
theorem IcAt.at {K : PySem.W.Frag} {H : Hp} {t : Addr} {i : Ic} (h : IcAt K H t i) : InsAt K H t i.nm i.op := ⟨_, h, rfl, fun z => by
  cases i <;> first | rfl | exact absurd z (ne_calc _ (by rfl))⟩
def opOf (op : Str) : Str :=
  if op = "add" then "+" else if op = "sub" then "-" else if op = "mul" then "*" else if op = "div" then "/" else if op = "mod" then "mod" else if op = "and" then "&" else if op = "or" then "|" else if op = "xor" then "^" else if op = "shl" then "<<" else if op = "shr" then ">>"
  else if op = "ult" then "<" else if op = "ule" then "<=" else if op = "slt" then "~<" else if op = "sle" then "~<=" else if op = "eq" then "==" else "!="
def calV (op : Str) (a b : Int) : Int := if op = "nor" then alt "inv" (comb "|" a b) else comb (opOf op) a b
def Ms.ctr (m : Ms) (c : Nat) : Int := (m.ctrs[c]?).getD 0
/-- the data address of an access -/
def Ic.addr (m : Ms) : Ic → Nat
  | .load _ a => a
  | .store _ a => a
  | .loadx _ s a n => a + (m.reg s % (n : Int)).toNat
  | .storex _ s a n => a + (m.reg s % (n : Int)).toNat
  | _ => 0
/-- what it does: the state, the next code address, whether it goes elsewhere -/
def Ic.exec (i : Ic) (m : Ms) (at_ : Int) : Ms × Int × Bool :=
  match i with
  | .set r n => (m.put r (n % 4294967296), at_ + 1, false)
  | .high r n => (m.put r (m.reg r % 65536 + n * 65536), at_ + 1, false)
  | .cal op r s t => (m.put r (calV op (m.reg s) (m.reg t)), at_ + 1, false)
  | .load r a => (m.put r ((m.data[a]?).getD 0), at_ + 1, false)
  | .loadx r s a n => (m.put r ((m.data[(Ic.loadx r s a n).addr m]?).getD 0), at_ + 1, false)
  | .store r a => ({ m with data := m.data.set a (m.reg r) }, at_ + 1, false)
  | .storex r s a n => ({ m with data := m.data.set ((Ic.storex r s a n).addr m) (m.reg r) }, at_ + 1, false)
  | .jump p => (m, p, true)
  | .jzero r p => if m.reg r = 0 then (m, p, true) else (m, at_ + 1, false)
  | .count c n => ({ m with ctrs := m.ctrs.set c n }, at_ + 1, false)
  | .again c p => let v := (m.ctr c - 1) % 4294967296
    if v = 0 then ({ m with ctrs := m.ctrs.set c v }, at_ + 1, false) else ({ m with ctrs := m.ctrs.set c v }, p, true)
  | .link p => ({ m with regs := m.regs.set 8 (at_ + 1) }, p, true)
  | .back => (m, m.reg 8, true)
  | .done => (m, at_ + 1, false)
  | .enter _ => (m, at_ + 1, false)
  | .leave _ => (m, at_ + 1, false)
  | .inp r q => ((m.take q).2.put r (m.take q).1, at_ + 1, false)
  | .outp r q => ({ m with outs := m.outs.set q (((m.outs[q]?).getD []) ++ [m.reg r]) }, at_ + 1, false)
structure MsW (m : Ms) : Prop where
  r : ∀ x ∈ m.regs, Word x
  d : ∀ x ∈ m.data, Word x
  i : ∀ l ∈ m.ins, ∀ x ∈ l, Word x
/-- the caches: any contents of their shape -/
structure Cd where
  R : Addr
  ls : List Addr
  S : Int
  W : Int
  z : Int
  rows : List (List Int)
structure CcAt (C : Addr) (H : Hp) (o : Addr) (d : Cd) : Prop where
  c : CacheAt C H o d.R d.ls d.S d.W d.z d.rows
  ok : SizesOk d.S d.W d.z
  few : ∀ r ∈ d.rows, (r.length : Int) ≤ d.W
def Cd.used (d : Cd) (a : Int) : Cd := { d with rows := usedRows d.rows d.S d.W (a / d.z) }
def Cd.hit (d : Cd) (a : Int) : Bool := hitOf d.rows d.S (a / d.z)
/-- the whole machine; the addresses of its lists are apart -/
structure Brd (Co Bo Ca : Addr) (H : Hp) (oc ob c1 c2 : Addr) (A : Mad) (d1 d2 : Cd) (m : Ms) (at_ : Int) : Prop where
  core : CoreAt Co H oc at_ A.R
  board : BoardAt Bo H ob A c1 c2
  mem : Mem H A m
  k1 : CcAt Ca H c1 d1
  k2 : CcAt Ca H c2 d2
  sep : (A.all ++ ((d1.R :: d1.ls) ++ (d2.R :: d2.ls))).Nodup
  words : MsW m
def Brd.own (oc : Addr) (A : Mad) (d1 d2 : Cd) : List Addr := oc :: (A.all ++ (d1.ls ++ d2.ls))
section
variable {P : Program} {w : World} {K : PySem.W.Frag} {mg : Str → Option Value} {base : Heap}
theorem Mem.dataAt {H : Hp} {A : Mad} {m : Ms} (h : Mem H A m) {a : Nat} (ha : a < 16384) : m.data[a]? = some ((m.data[a]?).getD 0) := by
  have : a < m.data.length := by rw [h.lD]; exact ha
  rw [List.getElem?_eq_getElem this]; rfl
theorem Mem.ctrAt {H : Hp} {A : Mad} {m : Ms} (h : Mem H A m) {c : Nat} (hc : c < 256) : m.ctrs[c]? = some (m.ctr c) := by
  have : c < m.ctrs.length := by rw [h.lN]; exact hc
  unfold Ms.ctr
  rw [List.getElem?_eq_getElem this]; rfl
theorem Mem.ixR {H : Hp} {A : Mad} {m : Ms} (h : Mem H A m) {r : Nat} (hr : r < 9) : atI (m.regs.map V.int) (r : Int) = some (.int (m.reg r)) := Rd.at_int rfl (h.regAt hr)
def sp__data_address (K : PySem.W.Frag) (C : Addr) : Sp := fun vs H Q _ => ∃ (t o : Addr) (i : Ic) (a : Int) (A : Mad) (m : Ms), vs = [.ref t, .ref o] ∧ IcAt K H t i ∧ i.Ok ∧ CoreAt C H o a A.R ∧ Mem H A m ∧ i.isAcc = true ∧ Q (nI (i.addr m)) H
theorem ok__data_address (T : Top P w K mg) : FnOk P w K mg base CX0 1 T.a__data_address T.d__data_address ["instruction", "core"]  (sp__data_address K T.C_Core) := by
  refine T.F__data_address.ok sc__data_address (fun vs H Q E h => ?_) (fun cdv A outer s H vs Q E hr h => ?_)
  · obtain ⟨_, _, _, _, _, _, rfl, _⟩ := h
    rfl
  · obtain ⟨t, o, i, a, A, m, rfl, ht, ok, ⟨dx, ho⟩, hm, hk, q⟩ := h
    refine ⟨_, (pss_cons (ps_if (pw_or (pt_cmpR op_eq (pe_ix ix_tup (pv 0) pe_int (fun _ _ => rfl)) pe_str (nomark _)) (pw_or1 (pt_cmpR op_eq (pe_ix ix_tup (pv 0) pe_int (fun _ _ => rfl)) pe_str (nomark _)))).pt
  (pss_one (ps_ret (pe_ix ix_tup (pv 0) pe_int (fun _ _ => rfl))))
  pss_nil)
  (pss_cons (ps_asg (pv 0) (pg_tup rfl (pgs_cons (pg_name (i := 2) sc__data_address.nd rfl (by first | exact Or.inl rfl | exact Or.inr rfl)) (pgs_cons (pg_name (i := 2) sc__data_address.nd rfl (by first | exact Or.inl rfl | exact Or.inr rfl)) (pgs_cons (pg_name (i := 3) sc__data_address.nd rfl (by first | exact Or.inl rfl | exact Or.inr rfl)) (pgs_cons (pg_name (i := 4) sc__data_address.nd rfl (by first | exact Or.inl rfl | exact Or.inr rfl)) (pgs_cons (pg_name (i := 5) sc__data_address.nd rfl (by first | exact Or.inl rfl | exact Or.inr rfl)) pgs_nil)))))))
  (pss_one (ps_ret (pe_op op_add (pv 4) (pe_op op_mod (pe_ix ix_list (pe_fld (pv 1) rfl) (pv 3) (fun _ _ => rfl)) (pv 5))))))), ?_⟩
    rw [show ∀ a0 a1 : V, L2.start ["instruction", "core", "_", "s", "first", "cells"] [a0, a1] = [some a0, some a1, none, none, none, none] from fun _ _ => rfl]
    obtain ⟨f1, f2⟩ := corF_at (a := a) (R := A.R)
    have kc := T.cl_Core
    have k1 := T.n_Core_registers
    cases i
    case load r x =>
      have ht' : SqT K H t [.str "load", nI r, nI x] := ht
      walk_at "my rn"
      rw [decide_eq_true rfl]
      refine Rd.ifT ?_
      walk_at "my rn"
      exact q
    case store r x =>
      have ht' : SqT K H t [.str "store", nI r, nI x] := ht
      walk_at "my rn"
      rw [decide_eq_false (by decide +kernel)]
      refine Rd.ifF ?_
      walk_at "my rn"
      rw [decide_eq_true rfl]
      refine Rd.ifT ?_
      walk_at "my rn"
      exact q
    case loadx r s x n =>
      obtain ⟨o1, o2, o3, o4⟩ := ok
      have ht' : SqT K H t [.str "loadx", nI r, nI s, nI x, nI n] := ht
      have np : (0 : Int) < (n : Int) := by omega
      walk_at "my rn"
      rw [decide_eq_false (by decide +kernel)]
      refine Rd.ifF ?_
      walk_at "my rn"
      rw [decide_eq_false (by decide +kernel)]
      refine Rd.ifF ?_
      walk_at "my rn"
      refine Rd.ixL hm.hR (hm.ixR o2) ?_
      walk_at "my rn"
      have e : ((x + (m.reg s % (n : Int)).toNat : Nat) : Int) = (x : Int) + m.reg s % (n : Int) := by
        have := Int.emod_nonneg (m.reg s) (show (n : Int) ≠ 0 by omega)
        push_cast; omega
      have q' : Q (.int ((x + (m.reg s % (n : Int)).toNat : Nat) : Int)) H := q
      rw [e] at q'
      exact q'
    case storex r s x n =>
      obtain ⟨o1, o2, o3, o4⟩ := ok
      have ht' : SqT K H t [.str "storex", nI r, nI s, nI x, nI n] := ht
      have np : (0 : Int) < (n : Int) := by omega
      walk_at "my rn"
      rw [decide_eq_false (by decide +kernel)]
      refine Rd.ifF ?_
      walk_at "my rn"
      rw [decide_eq_false (by decide +kernel)]
      refine Rd.ifF ?_
      walk_at "my rn"
      refine Rd.ixL hm.hR (hm.ixR o2) ?_
      walk_at "my rn"
      have e : ((x + (m.reg s % (n : Int)).toNat : Nat) : Int) = (x : Int) + m.reg s % (n : Int) := by
        have := Int.emod_nonneg (m.reg s) (show (n : Int) ≠ 0 by omega)
        push_cast; omega
      have q' : Q (.int ((x + (m.reg s % (n : Int)).toNat : Nat) : Int)) H := q
      rw [e] at q'
      exact q'
    all_goals cases hk
end


set_option Elab.async false
set_option linter.all false
set_option maxRecDepth 100000
set_option maxHeartbeats 1000000








theorem CacheAt.keep {C : Addr} {H H' : Hp} {o R : Addr} {ls : List Addr} {S W z : Int} {rows : List (List Int)} (h : CacheAt C H o R ls S W z rows) (k : ∀ a, a = o ∨ a = R ∨ a ∈ ls → ∀ x, H a = some x → H' a = some x) : CacheAt C H' o R ls S W z rows := by
  obtain ⟨dx, ho⟩ := h.ob
  exact ⟨⟨dx, k _ (.inl rfl) _ ho⟩, k _ (.inr (.inl rfl)) _ h.rr, h.nd, h.len, h.sets, fun i l r e1 e2 => k _ (.inr (.inr (List.mem_of_getElem? e1))) _ (h.row i l r e1 e2), h.nR⟩
theorem CcAt.keep {C : Addr} {H H' : Hp} {o : Addr} {d : Cd} (h : CcAt C H o d) (k : ∀ a, a = o ∨ a = d.R ∨ a ∈ d.ls → ∀ x, H a = some x → H' a = some x) : CcAt C H' o d := ⟨h.c.keep k, h.ok, h.few⟩
theorem Mem.isList {H : Hp} {A : Mad} {m : Ms} (h : Mem H A m) {a : Addr} (ha : a ∈ A.all) : ∃ xs, H a = some (.lst xs) := by
  unfold Mad.all at ha
  simp only [List.mem_cons, List.mem_append] at ha
  rcases ha with rfl | rfl | rfl | rfl | rfl | ha | ha
  · exact ⟨_, h.hR⟩
  · exact ⟨_, h.hD⟩
  · exact ⟨_, h.hN⟩
  · exact ⟨_, h.hI⟩
  · exact ⟨_, h.hO⟩
  · obtain ⟨j, hj⟩ := List.getElem?_of_mem ha
    have j8 := (List.getElem?_eq_some_iff.mp hj).1
    rw [h.lI] at j8
    obtain ⟨b, r, e1, e2, e3⟩ := h.isAt j8
    rw [hj] at e1
    cases e1
    exact ⟨_, e3⟩
  · obtain ⟨j, hj⟩ := List.getElem?_of_mem ha
    have j8 := (List.getElem?_eq_some_iff.mp hj).1
    rw [h.lO] at j8
    obtain ⟨b, r, e1, e2, e3⟩ := h.osAt j8
    rw [hj] at e1
    cases e1
    exact ⟨_, e3⟩
theorem CacheAt.isList {C : Addr} {H : Hp} {o R : Addr} {ls : List Addr} {S W z : Int} {rows : List (List Int)} (h : CacheAt C H o R ls S W z rows) {a : Addr} (ha : a ∈ ls) : ∃ xs, H a = some (.lst xs) := by
  obtain ⟨j, hj⟩ := List.getElem?_of_mem ha
  have jl := (List.getElem?_eq_some_iff.mp hj).1
  rw [h.len] at jl
  exact ⟨_, h.row j a _ hj (List.getElem?_eq_getElem jl)⟩
section
variable {Co Bo Ca : Addr} {H H' : Hp} {oc ob c1 c2 : Addr} {A : Mad} {d1 d2 : Cd} {m : Ms} {at_ : Int}
theorem Brd.sepA (b : Brd Co Bo Ca H oc ob c1 c2 A d1 d2 m at_) : (∀ a, (a = d1.R ∨ a ∈ d1.ls ∨ a = d2.R ∨ a ∈ d2.ls) → a ∉ A.all) ∧ (∀ a, (a = d1.R ∨ a ∈ d1.ls) → a ∉ d2.ls) ∧ (∀ a, (a = d2.R ∨ a ∈ d2.ls) → a ∉ d1.ls) := by
  obtain ⟨n1, n2, n3⟩ := List.nodup_append.mp b.sep
  obtain ⟨n4, n5, n6⟩ := List.nodup_append.mp n2
  refine ⟨fun a h ha => ?_, fun a h ha => ?_, fun a h ha => ?_⟩
  · refine n3 a ha a ?_ rfl
    simp only [List.mem_append, List.mem_cons]
    rcases h with h | h | h | h
    · exact .inl (.inl h)
    · exact .inl (.inr h)
    · exact .inr (.inl h)
    · exact .inr (.inr h)
  · refine n6 a ?_ a (List.mem_cons_of_mem _ ha) rfl
    simp only [List.mem_cons]
    exact h
  · exact n6 a (List.mem_cons_of_mem _ ha) a (by simp only [List.mem_cons]; exact h) rfl
/-- lists of the memory change -/
theorem Brd.stepMem (b : Brd Co Bo Ca H oc ob c1 c2 A d1 d2 m at_) {m' : Ms} (hm : Mem H' A m') (t : Touch A.all H H') (wd : MsW m') : Brd Co Bo Ca H' oc ob c1 c2 A d1 d2 m' at_ := by
  obtain ⟨s1, s2, s3⟩ := b.sepA
  have ins_ : ∀ {o C dx fs}, H o = some (.ins C dx fs) → H' o = some (.ins C dx fs) := fun {o C dx fs} e => t o _ (fun z => by
    obtain ⟨xs, e2⟩ := b.mem.isList z
    rw [e] at e2; cases e2) e
  obtain ⟨x1, h1⟩ := b.core
  obtain ⟨x2, h2⟩ := b.board
  obtain ⟨x3, h3⟩ := b.k1.c.ob
  obtain ⟨x4, h4⟩ := b.k2.c.ob
  refine ⟨⟨x1, ins_ h1⟩, ⟨x2, ins_ h2⟩, hm, b.k1.keep fun a ha x e => ?_, b.k2.keep fun a ha x e => ?_, b.sep, wd⟩
  · rcases ha with rfl | ha
    · rw [h3] at e; cases e; exact ins_ h3
    · exact t a x (s1 a (ha.elim .inl fun z => .inr (.inl z))) e
  · rcases ha with rfl | ha
    · rw [h4] at e; cases e; exact ins_ h4
    · exact t a x (s1 a (ha.elim (fun z => .inr (.inr (.inl z))) fun z => .inr (.inr (.inr z)))) e
theorem Mem.off (h : Mem H A m) {ls : List Addr} (t : Touch ls H H') (d : ∀ a ∈ ls, a ∉ A.all) : Mem H' A m := h.keep fun a ha x e => t a x (fun z => d a z ha) e
theorem Brd.stepC1 (b : Brd Co Bo Ca H oc ob c1 c2 A d1 d2 m at_) {rows : List (List Int)} (hc : CcAt Ca H' c1 { d1 with rows := rows }) (t : Touch d1.ls H H') : Brd Co Bo Ca H' oc ob c1 c2 A { d1 with rows := rows } d2 m at_ := by
  obtain ⟨s1, s2, s3⟩ := b.sepA
  have ins_ : ∀ {o C dx fs}, H o = some (.ins C dx fs) → H' o = some (.ins C dx fs) := fun {o C dx fs} e => t o _ (fun z => by
    obtain ⟨xs, e2⟩ := b.k1.c.isList z
    rw [e] at e2; cases e2) e
  obtain ⟨x1, h1⟩ := b.core
  obtain ⟨x2, h2⟩ := b.board
  obtain ⟨x4, h4⟩ := b.k2.c.ob
  refine ⟨⟨x1, ins_ h1⟩, ⟨x2, ins_ h2⟩, b.mem.off t fun a ha => s1 a (.inr (.inl ha)), hc, b.k2.keep fun a ha x e => ?_, b.sep, b.words⟩
  rcases ha with rfl | ha
  · rw [h4] at e; cases e; exact ins_ h4
  · exact t a x (s3 a ha) e
theorem Brd.stepC2 (b : Brd Co Bo Ca H oc ob c1 c2 A d1 d2 m at_) {rows : List (List Int)} (hc : CcAt Ca H' c2 { d2 with rows := rows }) (t : Touch d2.ls H H') : Brd Co Bo Ca H' oc ob c1 c2 A d1 { d2 with rows := rows } m at_ := by
  obtain ⟨s1, s2, s3⟩ := b.sepA
  have ins_ : ∀ {o C dx fs}, H o = some (.ins C dx fs) → H' o = some (.ins C dx fs) := fun {o C dx fs} e => t o _ (fun z => by
    obtain ⟨xs, e2⟩ := b.k2.c.isList z
    rw [e] at e2; cases e2) e
  obtain ⟨x1, h1⟩ := b.core
  obtain ⟨x2, h2⟩ := b.board
  obtain ⟨x3, h3⟩ := b.k1.c.ob
  refine ⟨⟨x1, ins_ h1⟩, ⟨x2, ins_ h2⟩, b.mem.off t fun a ha => s1 a (.inr (.inr (.inr ha))), b.k1.keep fun a ha x e => ?_, hc, b.sep, b.words⟩
  rcases ha with rfl | ha
  · rw [h3] at e; cases e; exact ins_ h3
  · exact t a x (s2 a ha) e
theorem Brd.stepAt (b : Brd Co Bo Ca H oc ob c1 c2 A d1 d2 m at_) {dx : Addr} (ho : H oc = some (.ins Co dx (corF at_ A.R))) {x : Int} (ne : oc ≠ ob) (n1 : oc ≠ c1) (n2 : oc ≠ c2) : Brd Co Bo Ca (upd H oc (.ins Co dx (corF x A.R))) oc ob c1 c2 A d1 d2 m x := by
  have lst_ : ∀ {a xs}, H a = some (.lst xs) → a ≠ oc := fun {a xs} e z => by rw [z, ho] at e; cases e
  obtain ⟨x2, h2⟩ := b.board
  refine ⟨⟨dx, upd_same⟩, ⟨x2, by rw [upd_ne ne.symm]; exact h2⟩, b.mem.keep fun a ha x e => ?_, b.k1.keep fun a ha x e => ?_, b.k2.keep fun a ha x e => ?_, b.sep, b.words⟩
  · obtain ⟨xs, e2⟩ := b.mem.isList ha
    rw [upd_ne (lst_ e2)]; exact e
  · rcases ha with rfl | rfl | ha
    · rw [upd_ne n1.symm]; exact e
    · rw [upd_ne (lst_ b.k1.c.rr)]; exact e
    · obtain ⟨xs, e2⟩ := b.k1.c.isList ha
      rw [upd_ne (lst_ e2)]; exact e
  · rcases ha with rfl | rfl | ha
    · rw [upd_ne n2.symm]; exact e
    · rw [upd_ne (lst_ b.k2.c.rr)]; exact e
    · obtain ⟨xs, e2⟩ := b.k2.c.isList ha
      rw [upd_ne (lst_ e2)]; exact e
/-- the core is none of the others -/
theorem Brd.coreNe (b : Brd Co Bo Ca H oc ob c1 c2 A d1 d2 m at_) : oc ≠ ob ∧ oc ≠ c1 ∧ oc ≠ c2 := by
  obtain ⟨x1, h1⟩ := b.core
  obtain ⟨x2, h2⟩ := b.board
  obtain ⟨x3, h3⟩ := b.k1.c.ob
  obtain ⟨x4, h4⟩ := b.k2.c.ob
  refine ⟨fun z => ?_, fun z => ?_, fun z => ?_⟩
  · rw [← z, h1] at h2
    have := congrArg (fun o => match o with | some (HO.ins _ _ fs) => fs.length | _ => 0) h2
    simp [corF, brdF] at this
  · rw [← z, h1] at h3
    have := congrArg (fun o => match o with | some (HO.ins _ _ fs) => fs.length | _ => 0) h3
    simp [corF, cf] at this
  · rw [← z, h1] at h4
    have := congrArg (fun o => match o with | some (HO.ins _ _ fs) => fs.length | _ => 0) h4
    simp [corF, cf] at this
end
def accD (i : Ic) (m : Ms) (d : Cd) : Cd := match i with
  | .load _ _ => d.used (i.addr m)
  | .loadx _ _ _ _ => d.used (i.addr m)
  | .store _ _ => if d.hit (i.addr m) = true then d.used (i.addr m) else d
  | .storex _ _ _ _ => if d.hit (i.addr m) = true then d.used (i.addr m) else d
  | _ => d
theorem CcAt.few4 {d : Cd} {C : Addr} {H : Hp} {o : Addr} (h : CcAt C H o d) : ∀ r ∈ d.rows, r.length ≤ 4 := fun r m => by
  have := h.few r m
  have := h.ok.w2
  omega
theorem used_few {d : Cd} {C : Addr} {H : Hp} {o : Addr} (h : CcAt C H o d) (a : Int) : ∀ r ∈ (d.used a).rows, (r.length : Int) ≤ d.W := by
  intro r hr
  have w1 := h.ok.w1
  rcases List.mem_or_eq_of_mem_set hr with m | m
  · exact h.few r m
  · obtain ⟨j, l, e1, e2, e3, e4, e5, e6⟩ := h.c.get h.ok (a / d.z)
    have fr := h.few _ (List.mem_of_getElem? e5)
    rw [m]
    unfold useRow
    rw [List.length_cons]
    split
    · rename_i hx
      rw [List.length_erase_of_mem hx]
      have := List.length_pos_of_mem hx
      omega
    · split
      · rename_i hx hl
        rw [List.length_dropLast]
        omega
      · rename_i hx hl
        omega
theorem addr_lt {i : Ic} {m : Ms} (ok : i.Ok) (h : i.isAcc = true) : i.addr m < 16384 := by
  cases i <;> first | cases h | skip
  case load r a => exact ok.2
  case store r a => exact ok.2
  case loadx r s a n =>
    obtain ⟨_, _, o3, o4⟩ := ok
    show a + (m.reg s % (n : Int)).toNat < 16384
    have := Int.emod_lt_of_pos (m.reg s) (show (0 : Int) < (n : Int) by omega)
    have := Int.emod_nonneg (m.reg s) (show (n : Int) ≠ 0 by omega)
    omega
  case storex r s a n =>
    obtain ⟨_, _, o3, o4⟩ := ok
    show a + (m.reg s % (n : Int)).toNat < 16384
    have := Int.emod_lt_of_pos (m.reg s) (show (0 : Int) < (n : Int) by omega)
    have := Int.emod_nonneg (m.reg s) (show (n : Int) ≠ 0 by omega)
    omega


set_option Elab.async false
set_option linter.all false
set_option maxRecDepth 100000
set_option maxHeartbeats 1000000








theorem nat_word {n : Nat} (h : n < 2 ^ 32) : Word (n : Int) := by
  have e : (2 : Nat) ^ 32 = 4294967296 := rfl
  constructor <;> omega
theorem mod_word (n : Int) : Word (n % 4294967296) := ⟨Int.emod_nonneg _ (by decide), Int.emod_lt_of_pos _ (by decide)⟩
theorem and_word {a b : Int} (wa : Word a) (wb : Word b) : 0 ≤ Builtin.bitAnd a b ∧ Builtin.bitAnd a b ≤ a ∧ Builtin.bitAnd a b ≤ b := by
  have p := bitAnd_pp wa.1 wb.1
  have h1 : a.toNat &&& b.toNat ≤ a.toNat := Nat.and_le_left
  have h2 : a.toNat &&& b.toNat ≤ b.toNat := Nat.and_le_right
  have := wa.1
  have := wb.1
  omega
theorem or_word {a b : Int} (wa : Word a) (wb : Word b) : Word (Builtin.bitOr a b) := by
  rw [bitOr_nn wa.1 wb.1]
  have := wa.1
  have := wb.1
  have := wa.2
  have := wb.2
  exact nat_word (Nat.or_lt_two_pow (by show a.toNat < 4294967296; omega) (by show b.toNat < 4294967296; omega))
theorem xor_word {a b : Int} (wa : Word a) (wb : Word b) : Word (Builtin.bitXor a b) := by
  have h1 := and_word wa wb
  have h2 := or_word wa wb
  rw [bitXor_and]
  rw [bitOr_and] at h2
  obtain ⟨h2, h3⟩ := h2
  constructor <;> omega
theorem alt_word {k : Str} {a : Int} (w : Word a) : Word (alt k a) := by
  unfold alt
  split
  · exact mod_word _
  split
  · exact xor_word w ⟨by decide, by decide⟩
  split
  · exact ⟨by decide, by decide⟩
  · exact ⟨by decide, by decide⟩
theorem div_word {a b : Int} (wa : Word a) (hb : 0 < b) : Word (a / b) := by
  refine ⟨Int.ediv_nonneg wa.1 (Int.le_of_lt hb), Int.lt_of_le_of_lt (Int.ediv_le_self _ wa.1) wa.2⟩
theorem comb_word {k : Str} {a b : Int} (wa : Word a) (wb : Word b) : Word (comb k a b) := by
  have b0 := wb.1
  unfold comb
  split
  · exact mod_word _
  split
  · exact mod_word _
  split
  · exact mod_word _
  split
  · split
    · exact ⟨by decide, by decide⟩
    · exact div_word wa (by omega)
  split
  · split
    · exact wa
    · have h1 := Int.emod_nonneg a (b := b) (by omega)
      have h2 := Int.emod_lt_of_pos a (b := b) (by omega)
      have := wb.2
      exact ⟨h1, by omega⟩
  split
  · have := and_word wa wb
    have := wa.2
    exact ⟨by omega, by omega⟩
  split
  · exact or_word wa wb
  split
  · exact xor_word wa wb
  split
  · exact mod_word _
  split
  · refine div_word wa (Int.pow_pos (by decide))
  split
  · exact ⟨by decide, by decide⟩
  · exact ⟨by decide, by decide⟩

theorem MsW.put {m : Ms} (h : MsW m) {r : Nat} {x : Int} (w : Word x) : MsW (m.put r x) := by
  unfold Ms.put
  split
  · exact h
  · exact ⟨fun y hy => (List.mem_or_eq_of_mem_set hy).elim (h.r y) fun z => z ▸ w, h.d, h.i⟩
theorem word0 : Word 0 := ⟨by decide, by decide⟩
theorem MsW.reg {m : Ms} (h : MsW m) (r : Nat) : Word (m.reg r) := by
  unfold Ms.reg
  cases e : m.regs[r]? with
  | none => exact word0
  | some x => exact h.r x (List.mem_of_getElem? e)
theorem MsW.dat {m : Ms} (h : MsW m) (a : Nat) : Word ((m.data[a]?).getD 0) := by
  cases e : m.data[a]? with
  | none => exact word0
  | some x => exact h.d x (List.mem_of_getElem? e)
theorem MsW.take {m : Ms} (h : MsW m) (q : Nat) : MsW (m.take q).2 ∧ Word (m.take q).1 := by
  unfold Ms.take
  cases e : m.ins[q]? with
  | none => exact ⟨h, word0⟩
  | some l =>
    have hl := h.i l (List.mem_of_getElem? e)
    cases l with
    | nil => exact ⟨h, word0⟩
    | cons x r =>
      refine ⟨⟨h.r, h.d, fun l2 m2 y hy => ?_⟩, hl x (List.mem_cons_self ..)⟩
      rcases List.mem_or_eq_of_mem_set m2 with m2 | m2
      · exact h.i l2 m2 y hy
      · rw [m2] at hy
        exact hl y (List.mem_cons_of_mem _ hy)
theorem cal_word {op : Str} {a b : Int} (wa : Word a) (wb : Word b) : Word (calV op a b) := by
  unfold calV
  split
  · exact alt_word (comb_word wa wb)
  · exact comb_word wa wb
theorem exec_words {i : Ic} {m : Ms} {x : Int} (ok : i.Ok) (h : MsW m) (hx : 0 ≤ x ∧ x < 100000) : MsW (i.exec m x).1 := by
  cases i
  case set r n => exact h.put (mod_word n)
  case high r n =>
    refine h.put ?_
    have w := h.reg r
    obtain ⟨_, n0, n1⟩ := ok
    have := Int.emod_nonneg (m.reg r) (show (65536 : Int) ≠ 0 by decide)
    have := Int.emod_lt_of_pos (m.reg r) (show (0 : Int) < 65536 by decide)
    exact ⟨by omega, by omega⟩
  case cal op r s t => exact h.put (cal_word (h.reg s) (h.reg t))
  case load r a => exact h.put (h.dat a)
  case loadx r s a n => exact h.put (h.dat _)
  case store r a => exact ⟨h.r, fun y hy => (List.mem_or_eq_of_mem_set hy).elim (h.d y) fun z => z ▸ h.reg r, h.i⟩
  case storex r s a n => exact ⟨h.r, fun y hy => (List.mem_or_eq_of_mem_set hy).elim (h.d y) fun z => z ▸ h.reg r, h.i⟩
  case jump p => exact h
  case jzero r p => show MsW (if m.reg r = 0 then (m, p, true) else (m, x + 1, false)).1; split <;> exact h
  case count c n => exact ⟨h.r, h.d, h.i⟩
  case again c p =>
    have : ∀ v : Int, MsW (if v = 0 then (({ m with ctrs := m.ctrs.set c v } : Ms), x + 1, false) else ({ m with ctrs := m.ctrs.set c v }, p, true)).1 := fun v => by
      split <;> exact ⟨h.r, h.d, h.i⟩
    exact this _
  case link p => exact ⟨fun y hy => (List.mem_or_eq_of_mem_set hy).elim (h.r y) fun z => by rw [z]; exact ⟨by omega, by omega⟩, h.d, h.i⟩
  case back => exact h
  case done => exact h
  case enter o => exact h
  case leave o => exact h
  case inp r q => exact (h.take q).1.put (h.take q).2
  case outp r q => exact ⟨h.r, h.d, h.i⟩
theorem sqT_touch {K : PySem.W.Frag} {ls : List Addr} {H H' : Hp} {t : Addr} {xs : List V} (h : Touch ls H H') (s : SqT K H t xs) (l : ∀ a ∈ ls, ∃ ys, H a = some (.lst ys)) : SqT K H' t xs := by
  rcases s with s | s
  · rcases s with s | ⟨o, s⟩
    · exact .inl (.inl (h _ _ (fun z => by obtain ⟨ys, e⟩ := l _ z; rw [s] at e; cases e) s))
    · exact .inl (.inr ⟨o, h _ _ (fun z => by obtain ⟨ys, e⟩ := l _ z; rw [s] at e; cases e) s⟩)
  · exact .inr s
theorem Touch.mono {ls ms : List Addr} {H H' : Hp} (t : Touch ls H H') (h : ∀ a ∈ ls, a ∈ ms) : Touch ms H H' := fun b x n e => t b x (fun z => n (h b z)) e
section
variable {P : Program} {w : World} {K : PySem.W.Frag} {mg : Str → Option Value} {base : Heap}
def sp__access (K : PySem.W.Frag) (Co Bo Ca : Addr) : Sp := fun vs H Q _ => ∃ (t oc ob c1 c2 : Addr) (i : Ic) (A : Mad) (d1 d2 : Cd) (m : Ms) (x : Int), vs = [.ref t, .ref oc, .ref ob] ∧ IcAt K H t i ∧ i.Ok ∧ i.isAcc = true ∧ Brd Co Bo Ca H oc ob c1 c2 A d1 d2 m x ∧ (0 ≤ x ∧ x < 100000) ∧
  ∀ H', Brd Co Bo Ca H' oc ob c1 c2 A d1 (accD i m d2) (i.exec m x).1 x → Touch (A.all ++ d2.ls) H H' → Q (.bl (d2.hit (i.addr m))) H'
theorem ok__access (T : Top P w K mg) : FnOk P w K mg base CX0 3 T.a__access T.d__access ["instruction", "core", "board"]  (sp__access K T.C_Core T.C_Board T.C_Cache) := by
  refine T.F__access.ok sc__access (fun vs H Q E h => ?_) (fun cdv A outer s H vs Q E hr h => ?_)
  · obtain ⟨_, _, _, _, _, _, _, _, _, _, _, rfl, _⟩ := h
    rfl
  · obtain ⟨t, oc, ob, c1, c2, i, A, d1, d2, m, x, rfl, ht, ok, ac, b, hx, q⟩ := h
    refine ⟨_, (pss_cons (ps_set (i := 3) sc__access.nd rfl (by first | exact Or.inl rfl | exact Or.inr rfl) (pe_ix ix_tup (pv 0) pe_int (fun _ _ => rfl)))
  (pss_cons (ps_set (i := 4) sc__access.nd rfl (by first | exact Or.inl rfl | exact Or.inr rfl) (pe_call (ok__data_address T) (hr.mono (by decide)) (by rfl) T.g__data_address T.F__data_address.kp T.b__data_address .nil pass0 (pa_cons (pv 0) (pa_cons (pv 1) pa_nil))))
  (pss_cons (ps_if (pw_or (pt_cmpR op_eq (pe_ix ix_tup (pv 0) pe_int (fun _ _ => rfl)) pe_str (nomark _)) (pw_or1 (pt_cmpR op_eq (pe_ix ix_tup (pv 0) pe_int (fun _ _ => rfl)) pe_str (nomark _)))).pt
  (pss_cons (ps_expr (pe_meth (pv 1) T.cl_Core T.m_Core_put (ok_Core_put T) (hr.mono (by decide)) T.b_Core_put .nil pass0 (pa_cons (pv 3) (pa_cons (pe_ix ix_list (pe_fld (pv 2) rfl) (pv 4) (fun _ _ => rfl)) pa_nil))))
  (pss_one (ps_ret (pe_meth (pe_fld (pv 2) rfl) T.cl_Cache T.m_Cache_read (ok_Cache_read T) (hr.mono (by decide)) T.b_Cache_read .nil pass0 (pa_cons (pv 4) pa_nil)))))
  pss_nil)
  (pss_cons (ps_asg (pe_ix ix_list (pe_fld (pv 1) rfl) (pv 3) (fun _ _ => rfl)) (pg_sub (pe_fld (pv 2) rfl) (pv 4) set_list))
  (pss_one (ps_ret (pe_meth (pe_fld (pv 2) rfl) T.cl_Cache T.m_Cache_write (ok_Cache_write T) (hr.mono (by decide)) T.b_Cache_write .nil pass0 (pa_cons (pv 4) pa_nil)))))))), ?_⟩
    rw [show ∀ a0 a1 a2 : V, L2.start ["instruction", "core", "board", "r", "address"] [a0, a1, a2] = [some a0, some a1, some a2, none, none] from fun _ _ _ => rfl]
    have al := addr_lt ok ac (m := m)
    have ht0 : SqT K H t (.str i.nm :: i.vs) := ht
    obtain ⟨dx, ho⟩ := id b.core
    obtain ⟨dy, hb⟩ := id b.board
    obtain ⟨f1, f2⟩ := corF_at (a := x) (R := A.R)
    obtain ⟨g1, g2, g3, g4, g5, g6, g7⟩ := brdF_at (A := A) (c1 := c1) (c2 := c2)
    have kc := T.cl_Core
    have kb := T.cl_Board
    have nr := T.n_Core_registers
    have nd := T.n_Board_data
    have nk := T.n_Board_data_cache
    have hda : atI (m.data.map V.int) ((i.addr m : Nat) : Int) = some (.int ((m.data[i.addr m]?).getD 0)) := Rd.at_int rfl (b.mem.dataAt al)
    cases i
    case load r a =>
      have ht' : SqT K H t [.str "load", nI r, nI a] := ht
      walk_at "my rn"
      refine ⟨t, oc, (.load r a), x, A, m, rfl, ht, ok, ⟨dx, ho⟩, b.mem, rfl, ?_⟩
      walk_at "my rn"
      rw [decide_eq_true rfl]
      refine Rd.ifT ?_
      walk_at "my rn"
      refine Rd.ixL b.mem.hD hda ?_
      refine ⟨oc, x, A, m, _, _, rfl, ⟨dx, ho⟩, b.mem, ok.1, fun H1 hm1 t1 => ?_⟩
      have b1 : Brd T.C_Core T.C_Board T.C_Cache H1 oc ob c1 c2 A d1 d2 (Ic.exec (.load r a) m x).1 x := b.stepMem hm1 (t1.mono (by simp [Mad.all])) (exec_words ok b.words hx)
      obtain ⟨dy1, hb1⟩ := id b1.board
      obtain ⟨dc, hc⟩ := id b1.k2.c.ob
      have kno : (cf d2.S d2.W d2.z d2.R).lookup ("read" : Str) = none := cf_no
      have ht1 : SqT K H1 t (.str (Ic.nm (.load r a)) :: Ic.vs (.load r a)) := sqT_touch t1 ht0 fun a ha => by rw [List.mem_singleton.mp ha]; exact ⟨_, b.mem.hR⟩
      walk_at "my rn"
      refine ⟨c2, d2.R, d2.ls, d2.S, d2.W, d2.z, d2.rows, _, rfl, b1.k2.c, b1.k2.ok, b1.k2.few4, fun H2 hc2 t2 => ?_⟩
      exact q H2 (b1.stepC2 ⟨hc2, b1.k2.ok, used_few b1.k2 _⟩ t2) ((t1.mono (by simp [Mad.all])).trans (t2.mono (fun a ha => List.mem_append.mpr (.inr ha))))
    case loadx r s a n =>
      have ht' : SqT K H t [.str "loadx", nI r, nI s, nI a, nI n] := ht
      walk_at "my rn"
      refine ⟨t, oc, (.loadx r s a n), x, A, m, rfl, ht, ok, ⟨dx, ho⟩, b.mem, rfl, ?_⟩
      walk_at "my rn"
      rw [decide_eq_false (by decide +kernel)]
      refine Rd.ifF ?_
      walk_at "my rn"
      rw [decide_eq_true rfl]
      refine Rd.ifT ?_
      walk_at "my rn"
      refine Rd.ixL b.mem.hD hda ?_
      refine ⟨oc, x, A, m, _, _, rfl, ⟨dx, ho⟩, b.mem, ok.1, fun H1 hm1 t1 => ?_⟩
      have b1 : Brd T.C_Core T.C_Board T.C_Cache H1 oc ob c1 c2 A d1 d2 (Ic.exec (.loadx r s a n) m x).1 x := b.stepMem hm1 (t1.mono (by simp [Mad.all])) (exec_words ok b.words hx)
      obtain ⟨dy1, hb1⟩ := id b1.board
      obtain ⟨dc, hc⟩ := id b1.k2.c.ob
      have kno : (cf d2.S d2.W d2.z d2.R).lookup ("read" : Str) = none := cf_no
      have ht1 : SqT K H1 t (.str (Ic.nm (.loadx r s a n)) :: Ic.vs (.loadx r s a n)) := sqT_touch t1 ht0 fun a ha => by rw [List.mem_singleton.mp ha]; exact ⟨_, b.mem.hR⟩
      walk_at "my rn"
      refine ⟨c2, d2.R, d2.ls, d2.S, d2.W, d2.z, d2.rows, _, rfl, b1.k2.c, b1.k2.ok, b1.k2.few4, fun H2 hc2 t2 => ?_⟩
      exact q H2 (b1.stepC2 ⟨hc2, b1.k2.ok, used_few b1.k2 _⟩ t2) ((t1.mono (by simp [Mad.all])).trans (t2.mono (fun a ha => List.mem_append.mpr (.inr ha))))
    case store r a =>
      have ht' : SqT K H t [.str "store", nI r, nI a] := ht
      walk_at "my rn"
      refine ⟨t, oc, (.store r a), x, A, m, rfl, ht, ok, ⟨dx, ho⟩, b.mem, rfl, ?_⟩
      walk_at "my rn"
      rw [decide_eq_false (by decide +kernel)]
      refine Rd.ifF ?_
      walk_at "my rn"
      rw [decide_eq_false (by decide +kernel)]
      refine Rd.ifF ?_
      walk_at "my rn"
      refine Rd.ixL b.mem.hR (b.mem.ixR ok.1) ?_
      walk_at "my rn"
      refine Rd.setL (j := Ic.addr m (.store r a)) b.mem.hD (Evl.ixN_nat (by rw [List.length_map, b.mem.lD]; exact al)) ?_
      rw [← List.map_set]
      have hm1 := b.mem.setD (rs := m.data.set (Ic.addr m (.store r a)) (m.reg r)) (by rw [List.length_set]; exact b.mem.lD)
      obtain ⟨H1, e1⟩ : ∃ H1, H1 = upd H A.D (.lst ((m.data.set (Ic.addr m (.store r a)) (m.reg r)).map V.int)) := ⟨_, rfl⟩
      rw [← e1] at hm1 ⊢
      have t1 : Touch [A.D] H H1 := fun b x nb e => by rw [e1, upd_ne (fun z => nb (by rw [z]; exact List.mem_singleton.mpr rfl))]; exact e
      have b1 : Brd T.C_Core T.C_Board T.C_Cache H1 oc ob c1 c2 A d1 d2 (Ic.exec (.store r a) m x).1 x := b.stepMem hm1 (t1.mono (by simp [Mad.all])) (exec_words ok b.words hx)
      obtain ⟨dy1, hb1⟩ := id b1.board
      obtain ⟨dc, hc⟩ := id b1.k2.c.ob
      have kno : (cf d2.S d2.W d2.z d2.R).lookup ("write" : Str) = none := cf_no
      walk_at "my rn"
      refine ⟨c2, d2.R, d2.ls, d2.S, d2.W, d2.z, d2.rows, _, rfl, b1.k2.c, b1.k2.ok, b1.k2.few4, fun H2 hc2 t2 => ?_⟩
      have tt : Touch (A.all ++ d2.ls) H H2 := (t1.mono (by simp [Mad.all])).trans (t2.mono (fun a ha => List.mem_append.mpr (.inr ha)))
      have q' : ∀ H', Brd T.C_Core T.C_Board T.C_Cache H' oc ob c1 c2 A d1 (if d2.hit (Ic.addr m (.store r a)) = true then d2.used (Ic.addr m (.store r a)) else d2) (Ic.exec (.store r a) m x).1 x → Touch (A.all ++ d2.ls) H H' → Q (.bl (d2.hit (Ic.addr m (.store r a)))) H' := q
      by_cases hh : d2.hit (Ic.addr m (.store r a)) = true
      · rw [if_pos hh] at q'
        have hh' : hitOf d2.rows d2.S ((Ic.addr m (.store r a) : Nat) / d2.z) = true := hh
        rw [if_pos hh'] at hc2
        exact q' H2 (b1.stepC2 ⟨hc2, b1.k2.ok, used_few b1.k2 _⟩ t2) tt
      · rw [if_neg hh] at q'
        have hh' : ¬ hitOf d2.rows d2.S ((Ic.addr m (.store r a) : Nat) / d2.z) = true := hh
        rw [if_neg hh'] at hc2
        exact q' H2 (b1.stepC2 (rows := d2.rows) ⟨hc2, b1.k2.ok, b1.k2.few⟩ t2) tt
    case storex r s a n =>
      have ht' : SqT K H t [.str "storex", nI r, nI s, nI a, nI n] := ht
      walk_at "my rn"
      refine ⟨t, oc, (.storex r s a n), x, A, m, rfl, ht, ok, ⟨dx, ho⟩, b.mem, rfl, ?_⟩
      walk_at "my rn"
      rw [decide_eq_false (by decide +kernel)]
      refine Rd.ifF ?_
      walk_at "my rn"
      rw [decide_eq_false (by decide +kernel)]
      refine Rd.ifF ?_
      walk_at "my rn"
      refine Rd.ixL b.mem.hR (b.mem.ixR ok.1) ?_
      walk_at "my rn"
      refine Rd.setL (j := Ic.addr m (.storex r s a n)) b.mem.hD (Evl.ixN_nat (by rw [List.length_map, b.mem.lD]; exact al)) ?_
      rw [← List.map_set]
      have hm1 := b.mem.setD (rs := m.data.set (Ic.addr m (.storex r s a n)) (m.reg r)) (by rw [List.length_set]; exact b.mem.lD)
      obtain ⟨H1, e1⟩ : ∃ H1, H1 = upd H A.D (.lst ((m.data.set (Ic.addr m (.storex r s a n)) (m.reg r)).map V.int)) := ⟨_, rfl⟩
      rw [← e1] at hm1 ⊢
      have t1 : Touch [A.D] H H1 := fun b x nb e => by rw [e1, upd_ne (fun z => nb (by rw [z]; exact List.mem_singleton.mpr rfl))]; exact e
      have b1 : Brd T.C_Core T.C_Board T.C_Cache H1 oc ob c1 c2 A d1 d2 (Ic.exec (.storex r s a n) m x).1 x := b.stepMem hm1 (t1.mono (by simp [Mad.all])) (exec_words ok b.words hx)
      obtain ⟨dy1, hb1⟩ := id b1.board
      obtain ⟨dc, hc⟩ := id b1.k2.c.ob
      have kno : (cf d2.S d2.W d2.z d2.R).lookup ("write" : Str) = none := cf_no
      walk_at "my rn"
      refine ⟨c2, d2.R, d2.ls, d2.S, d2.W, d2.z, d2.rows, _, rfl, b1.k2.c, b1.k2.ok, b1.k2.few4, fun H2 hc2 t2 => ?_⟩
      have tt : Touch (A.all ++ d2.ls) H H2 := (t1.mono (by simp [Mad.all])).trans (t2.mono (fun a ha => List.mem_append.mpr (.inr ha)))
      have q' : ∀ H', Brd T.C_Core T.C_Board T.C_Cache H' oc ob c1 c2 A d1 (if d2.hit (Ic.addr m (.storex r s a n)) = true then d2.used (Ic.addr m (.storex r s a n)) else d2) (Ic.exec (.storex r s a n) m x).1 x → Touch (A.all ++ d2.ls) H H' → Q (.bl (d2.hit (Ic.addr m (.storex r s a n)))) H' := q
      by_cases hh : d2.hit (Ic.addr m (.storex r s a n)) = true
      · rw [if_pos hh] at q'
        have hh' : hitOf d2.rows d2.S ((Ic.addr m (.storex r s a n) : Nat) / d2.z) = true := hh
        rw [if_pos hh'] at hc2
        exact q' H2 (b1.stepC2 ⟨hc2, b1.k2.ok, used_few b1.k2 _⟩ t2) tt
      · rw [if_neg hh] at q'
        have hh' : ¬ hitOf d2.rows d2.S ((Ic.addr m (.storex r s a n) : Nat) / d2.z) = true := hh
        rw [if_neg hh'] at hc2
        exact q' H2 (b1.stepC2 (rows := d2.rows) ⟨hc2, b1.k2.ok, b1.k2.few⟩ t2) tt
    all_goals cases ac
end


set_option Elab.async false
set_option linter.all false
set_option maxRecDepth 100000
set_option maxHeartbeats 1000000








def Ic.isBr : Ic → Bool
  | .jzero _ _ => true
  | .again _ _ => true
  | _ => false
def Ic.isJmp : Ic → Bool
  | .jump _ => true
  | .link _ => true
  | .back => true
  | _ => false
section
variable {P : Program} {w : World} {K : PySem.W.Frag} {mg : Str → Option Value} {base : Heap}
theorem isAll {A : Mad} : A.R ∈ A.all ∧ A.D ∈ A.all ∧ A.N ∈ A.all ∧ (∀ a ∈ A.is, a ∈ A.all) ∧ ∀ a ∈ A.os, a ∈ A.all := by
  unfold Mad.all
  refine ⟨by simp, by simp, by simp, fun a h => by simp [h], fun a h => by simp [h]⟩
def sp__branch (K : PySem.W.Frag) (Co Bo Ca : Addr) : Sp := fun vs H Q _ => ∃ (t oc ob c1 c2 : Addr) (i : Ic) (A : Mad) (d1 d2 : Cd) (m : Ms) (x : Int), vs = [.ref t, .ref oc, .ref ob] ∧ IcAt K H t i ∧ i.Ok ∧ i.isBr = true ∧ Brd Co Bo Ca H oc ob c1 c2 A d1 d2 m (x + 1) ∧ (0 ≤ x ∧ x < 100000) ∧
  ∀ H', Brd Co Bo Ca H' oc ob c1 c2 A d1 d2 (i.exec m x).1 (i.exec m x).2.1 → Touch (oc :: A.all) H H' → Q (.bl (i.exec m x).2.2) H'
theorem ok__branch (T : Top P w K mg) : FnOk P w K mg base CX0 2 T.a__branch T.d__branch ["instruction", "core", "board"]  (sp__branch K T.C_Core T.C_Board T.C_Cache) := by
  refine T.F__branch.ok sc__branch (fun vs H Q E h => ?_) (fun cdv A outer s H vs Q E hr h => ?_)
  · obtain ⟨_, _, _, _, _, _, _, _, _, _, _, rfl, _⟩ := h
    rfl
  · obtain ⟨t, oc, ob, c1, c2, i, A, d1, d2, m, x, rfl, ht, ok, ik, b, hx, q⟩ := h
    refine ⟨_, (pss_cons (ps_asg (pv 0) (pg_tup rfl (pgs_cons (pg_name (i := 3) sc__branch.nd rfl (by first | exact Or.inl rfl | exact Or.inr rfl)) (pgs_cons (pg_name (i := 4) sc__branch.nd rfl (by first | exact Or.inl rfl | exact Or.inr rfl)) (pgs_cons (pg_name (i := 5) sc__branch.nd rfl (by first | exact Or.inl rfl | exact Or.inr rfl)) pgs_nil)))))
  (pss_cons (ps_if (pt_cmpR op_eq (pv 3) pe_str (nomark _))
  (pss_one (ps_set (i := 6) sc__branch.nd rfl (by first | exact Or.inl rfl | exact Or.inr rfl) (pe_cmpR op_eq (pe_ix ix_list (pe_fld (pv 1) rfl) (pv 4) (fun _ _ => rfl)) pe_int (nomark _))))
  (pss_cons (ps_asg (pe_call (ok_wrap T) (hr.mono (by decide)) (by rfl) T.g_wrap T.F_wrap.kp T.b_wrap .nil pass0 (pa_cons (pe_op op_sub (pe_ix ix_list (pe_fld (pv 2) rfl) (pv 4) (fun _ _ => rfl)) pe_int) pa_nil)) (pg_sub (pe_fld (pv 2) rfl) (pv 4) set_list))
  (pss_one (ps_set (i := 6) sc__branch.nd rfl (by first | exact Or.inl rfl | exact Or.inr rfl) (pe_cmpR op_ne (pe_ix ix_list (pe_fld (pv 2) rfl) (pv 4) (fun _ _ => rfl)) pe_int (nomark _))))))
  (pss_cons (ps_if (pt_val (pv 6))
  (pss_one (ps_fld (pv 1) (pv 5) rfl))
  pss_nil)
  (pss_one (ps_ret (pv 6)))))), ?_⟩
    rw [show ∀ a0 a1 a2 : V, L2.start ["instruction", "core", "board", "name", "number", "address", "taken"] [a0, a1, a2] = [some a0, some a1, some a2, none, none, none, none] from fun _ _ _ => rfl]
    obtain ⟨dx, ho⟩ := id b.core
    obtain ⟨dy, hb⟩ := id b.board
    obtain ⟨f1, f2⟩ := corF_at (a := x + 1) (R := A.R)
    obtain ⟨g1, g2, g3, g4, g5, g6, g7⟩ := brdF_at (A := A) (c1 := c1) (c2 := c2)
    obtain ⟨e1, e2, e3⟩ := b.coreNe
    have kc := T.cl_Core
    have kb := T.cl_Board
    have nr := T.n_Core_registers
    have na := T.n_Core_at
    have nd := T.n_Board_counters
    have oA : ∀ {H1 : Hp}, Touch A.all H H1 → H1 oc = some (.ins T.C_Core dx (corF (x + 1) A.R)) := fun {H1} t => t oc _ (fun z => by
      obtain ⟨xs, e⟩ := b.mem.isList z
      rw [ho] at e; cases e) ho
    cases i
    case jzero r p =>
      have ht' : SqT K H t [.str "jzero", nI r, .int p] := ht
      have q' : ∀ H', Brd T.C_Core T.C_Board T.C_Cache H' oc ob c1 c2 A d1 d2 (if m.reg r = 0 then (m, p, true) else (m, x + 1, false)).1 (if m.reg r = 0 then (m, p, true) else (m, x + 1, false)).2.1 → Touch (oc :: A.all) H H' → Q (.bl (if m.reg r = 0 then (m, p, true) else (m, x + 1, false)).2.2) H' := q
      walk_at "my rn"
      rw [decide_eq_true rfl]
      refine Rd.ifT ?_
      walk_at "my rn"
      refine Rd.ixL b.mem.hR (b.mem.ixR ok) ?_
      walk_at "my rn"
      refine Rd.ifD (fun e => ?_) fun e => ?_
      · rw [if_pos (V.int.inj e)] at q'
        walk_at "my rn"
        rw [corF_put, decide_eq_true e]
        exact q' _ (b.stepAt ho e1 e2 e3) fun z y nz e => by rw [upd_ne (fun w => nz (by rw [w]; exact List.mem_cons_self ..))]; exact e
      · rw [if_neg (fun z => e (by rw [z]))] at q'
        walk_at "my rn"
        rw [decide_eq_false e]
        exact q' H b (Touch.refl _ _)
    case again c p =>
      have ht' : SqT K H t [.str "again", nI c, .int p] := ht
      obtain ⟨v, ev⟩ : ∃ v, v = (m.ctr c - 1) % 4294967296 := ⟨_, rfl⟩
      have q' : ∀ H', Brd T.C_Core T.C_Board T.C_Cache H' oc ob c1 c2 A d1 d2 (if v = 0 then (({ m with ctrs := m.ctrs.set c v } : Ms), x + 1, false) else ({ m with ctrs := m.ctrs.set c v }, p, true)).1 (if v = 0 then (({ m with ctrs := m.ctrs.set c v } : Ms), x + 1, false) else ({ m with ctrs := m.ctrs.set c v }, p, true)).2.1 →
          Touch (oc :: A.all) H H' → Q (.bl (if v = 0 then (({ m with ctrs := m.ctrs.set c v } : Ms), x + 1, false) else ({ m with ctrs := m.ctrs.set c v }, p, true)).2.2) H' := by rw [ev]; exact q
      have cl : c < m.ctrs.length := by rw [b.mem.lN]; exact ok
      walk_at "my rn"
      rw [decide_eq_false (by decide +kernel)]
      refine Rd.ifF ?_
      walk_at "my rn"
      refine Rd.ixL b.mem.hN (Rd.at_int rfl (b.mem.ctrAt ok)) ?_
      walk_at "my rn"
      refine ⟨_, rfl, ?_⟩
      rw [← ev]
      walk_at "my rn"
      refine Rd.setL (j := c) b.mem.hN (Evl.ixN_nat (by rw [List.length_map]; exact cl)) ?_
      rw [← List.map_set]
      have hm1 := b.mem.setN (rs := m.ctrs.set c v) (by rw [List.length_set]; exact b.mem.lN)
      obtain ⟨H1, eh⟩ : ∃ H1, H1 = upd H A.N (.lst ((m.ctrs.set c v).map V.int)) := ⟨_, rfl⟩
      rw [← eh] at hm1 ⊢
      have t1 : Touch A.all H H1 := fun z y nz e => by rw [eh, upd_ne (fun w => nz (by rw [w]; exact isAll.2.2.1))]; exact e
      have b1 := b.stepMem hm1 t1 ⟨b.words.r, b.words.d, b.words.i⟩
      have hb1 : H1 ob = some (.ins T.C_Board dy (brdF A c1 c2)) := t1 _ _ (fun z => by
        obtain ⟨xs, e⟩ := b.mem.isList z
        rw [hb] at e; cases e) hb
      have ho1 := oA t1
      have at1 : atI ((m.ctrs.set c v).map V.int) (c : Int) = some (.int v) := Rd.at_int rfl (List.getElem?_set_self cl)
      walk_at "my rn"
      refine Rd.ixL hm1.hN at1 ?_
      walk_at "my rn"
      refine Rd.ifN (fun e => ?_) fun e => ?_
      · have v0 : ¬ v = 0 := fun z => e (by rw [z])
        rw [if_neg v0] at q'
        walk_at "my rn"
        rw [corF_put, decide_eq_false e]
        exact q' _ (b1.stepAt ho1 e1 e2 e3) fun z y nz e => by rw [upd_ne (fun w => nz (by rw [w]; exact List.mem_cons_self ..))]; exact t1 z y (fun w => nz (List.mem_cons_of_mem _ w)) e
      · rw [if_pos (V.int.inj e)] at q'
        walk_at "my rn"
        rw [decide_eq_true e]
        exact q' _ b1 (t1.mono fun a h => List.mem_cons_of_mem _ h)
    all_goals cases ik
def sp__jump (K : PySem.W.Frag) (Co Bo Ca : Addr) : Sp := fun vs H Q _ => ∃ (t oc ob c1 c2 : Addr) (i : Ic) (A : Mad) (d1 d2 : Cd) (m : Ms) (x : Int), vs = [.ref t, .ref oc] ∧ IcAt K H t i ∧ i.Ok ∧ i.isJmp = true ∧ Brd Co Bo Ca H oc ob c1 c2 A d1 d2 m (x + 1) ∧ (0 ≤ x ∧ x < 100000) ∧
  ∀ H', Brd Co Bo Ca H' oc ob c1 c2 A d1 d2 (i.exec m x).1 (i.exec m x).2.1 → Touch (oc :: A.all) H H' → Q .non H'
theorem ok__jump (T : Top P w K mg) : FnOk P w K mg base CX0 1 T.a__jump T.d__jump ["instruction", "core"]  (sp__jump K T.C_Core T.C_Board T.C_Cache) := by
  refine T.F__jump.ok sc__jump (fun vs H Q E h => ?_) (fun cdv A outer s H vs Q E hr h => ?_)
  · obtain ⟨_, _, _, _, _, _, _, _, _, _, _, rfl, _⟩ := h
    rfl
  · obtain ⟨t, oc, ob, c1, c2, i, A, d1, d2, m, x, rfl, ht, ok, ik, b, hx, q⟩ := h
    refine ⟨_, (pss_cons (ps_if (pt_cmpR op_eq (pe_ix ix_tup (pv 0) pe_int (fun _ _ => rfl)) pe_str (nomark _))
  (pss_cons (ps_fld (pv 1) (pe_ix ix_list (pe_fld (pv 1) rfl) (pe_gi (by rfl) T.c_RETURN_REGISTER) (fun _ _ => rfl)) rfl)
  (pss_one ps_retN))
  pss_nil)
  (pss_cons (ps_if (pt_cmpR op_eq (pe_ix ix_tup (pv 0) pe_int (fun _ _ => rfl)) pe_str (nomark _))
  (pss_one (ps_asg (pe_fld (pv 1) rfl) (pg_sub (pe_fld (pv 1) rfl) (pe_gi (by rfl) T.c_RETURN_REGISTER) set_list)))
  pss_nil)
  (pss_one (ps_fld (pv 1) (pe_ix ix_tup (pv 0) pe_int (fun _ _ => rfl)) rfl)))), ?_⟩
    rw [show ∀ a0 a1 : V, L2.start ["instruction", "core"] [a0, a1] = [some a0, some a1] from fun _ _ => rfl]
    obtain ⟨dx, ho⟩ := id b.core
    obtain ⟨f1, f2⟩ := corF_at (a := x + 1) (R := A.R)
    obtain ⟨e1, e2, e3⟩ := b.coreNe
    have kc := T.cl_Core
    have nr := T.n_Core_registers
    have na := T.n_Core_at
    have up : ∀ {H1 : Hp} {y : HO}, Touch A.all H H1 → Touch (oc :: A.all) H (upd H1 oc y) := fun {H1 y} t z u nz e => by rw [upd_ne (fun w => nz (by rw [w]; exact List.mem_cons_self ..))]; exact t z u (fun w => nz (List.mem_cons_of_mem _ w)) e
    cases i
    case jump p =>
      have ht' : SqT K H t [.str "jump", .int p] := ht
      walk_at "my rn"
      rw [decide_eq_false (by decide +kernel)]
      refine Rd.ifF ?_
      walk_at "my rn"
      rw [decide_eq_false (by decide +kernel)]
      refine Rd.ifF ?_
      walk_at "my rn"
      rw [corF_put]
      exact q _ (b.stepAt ho e1 e2 e3) (up (Touch.refl _ _))
    case link p =>
      have ht' : SqT K H t [.str "link", .int p] := ht
      walk_at "my rn"
      rw [decide_eq_false (by decide +kernel)]
      refine Rd.ifF ?_
      walk_at "my rn"
      rw [decide_eq_true rfl]
      refine Rd.ifT ?_
      walk_at "my rn"
      refine Rd.setL (j := 8) b.mem.hR (by rw [List.length_map, b.mem.l9]; rfl) ?_
      rw [← List.map_set]
      have hm1 := b.mem.setR (rs := m.regs.set 8 (x + 1)) (by rw [List.length_set]; exact b.mem.l9)
      obtain ⟨H1, eh⟩ : ∃ H1, H1 = upd H A.R (.lst ((m.regs.set 8 (x + 1)).map V.int)) := ⟨_, rfl⟩
      rw [← eh] at hm1 ⊢
      have t1 : Touch A.all H H1 := fun z y nz e => by rw [eh, upd_ne (fun w => nz (by rw [w]; exact isAll.1))]; exact e
      have b1 := b.stepMem hm1 t1 (exec_words (i := .link p) (x := x) trivial b.words hx)
      have ho1 : H1 oc = some (.ins T.C_Core dx (corF (x + 1) A.R)) := t1 _ _ (fun z => by
        obtain ⟨xs, e⟩ := b.mem.isList z
        rw [ho] at e; cases e) ho
      have ht1 : SqT K H1 t [.str "link", .int p] := sqT_touch t1 ht' fun a ha => b.mem.isList ha
      walk_at "my rn"
      rw [corF_put]
      exact q _ (b1.stepAt ho1 e1 e2 e3) (up t1)
    case back =>
      have ht' : SqT K H t [.str "back"] := ht
      walk_at "my rn"
      rw [decide_eq_true rfl]
      refine Rd.ifT ?_
      walk_at "my rn"
      refine Rd.ixL b.mem.hR (b.mem.ixR (r := 8) (by decide)) ?_
      walk_at "my rn"
      rw [corF_put]
      exact q _ (b.stepAt ho e1 e2 e3) (up (Touch.refl _ _))
    all_goals cases ik
def sp__calculated : Sp := fun vs H Q _ => ∃ (op : Str) (a b : Int), vs = [.str op, .int a, .int b] ∧ op ∈ calcs ∧ Word a ∧ Word b ∧ Q (.int (calV op a b)) H
theorem ok__calculated (T : Top P w K mg) : FnOk P w K mg base CX0 4 T.a__calculated T.d__calculated ["operation", "a", "b"]  sp__calculated := by
  refine T.F__calculated.ok sc__calculated (fun vs H Q E h => ?_) (fun cdv A outer s H vs Q E hr h => ?_)
  · obtain ⟨_, _, _, rfl, _⟩ := h
    rfl
  · obtain ⟨op, a, b, rfl, ho, wa, wb, q⟩ := h
    refine ⟨_, (pss_cons (ps_if (pt_cmpR op_eq (pv 0) pe_str (nomark _))
  (pss_one (ps_ret (pe_call (ok_alter T) (hr.mono (by decide)) (by rfl) T.g_alter T.F_alter.kp T.b_alter .nil pass0 (pa_cons pe_str (pa_cons (pe_op op_or (pv 1) (pv 2)) pa_nil)))))
  pss_nil)
  (pss_one (ps_ret (pe_call (ok_combine T) (hr.mono (by decide)) (by rfl) T.g_combine T.F_combine.kp T.b_combine .nil pass0 (pa_cons (pe_ix ix_kdict (pe_gr (by rfl) T.c_OPERATORS) (pv 0) (fun _ _ => rfl)) (pa_cons (pv 1) (pa_cons (pv 2) pa_nil))))))), ?_⟩
    rw [show ∀ a0 a1 a2 : V, L2.start ["operation", "a", "b"] [a0, a1, a2] = [some a0, some a1, some a2] from fun _ _ _ => rfl]
    have mk : ∀ {z y : Str} {t : Tok}, PySem.W.nsIn K T.p_OPERATORS z = some (some (.str y t)) → KDct K w T.p_OPERATORS z (.str y) := fun h => ⟨_, _, _, T.kd_OPERATORS.at_, T.kd_OPERATORS.lit, h, ⟨_, rfl⟩⟩
    unfold calV at q
    walk_at "my rn"
    refine Rd.ifD (fun e => ?_) fun e => ?_
    · rw [if_pos (V.str.inj e)] at q
      walk_at "my rn"
      exact ⟨_, _, rfl, by decide +kernel, q⟩
    · rw [if_neg (fun z => e (by rw [z]))] at q
      walk_at "my rn"
      simp only [calcs, List.mem_cons, List.mem_nil_iff, or_false] at ho
      rcases ho with rfl | rfl | rfl | rfl | rfl | rfl | rfl | rfl | rfl | rfl | rfl | rfl | rfl | rfl | rfl | rfl | rfl
      · refine ⟨_, _, _, rfl, rfl, mk T.i_OPERATORS_0, ?_⟩
        walk_at "my rn"
        exact ⟨_, _, _, rfl, wa, wb, .inl (by decide +kernel), q⟩
      · refine ⟨_, _, _, rfl, rfl, mk T.i_OPERATORS_1, ?_⟩
        walk_at "my rn"
        exact ⟨_, _, _, rfl, wa, wb, .inl (by decide +kernel), q⟩
      · refine ⟨_, _, _, rfl, rfl, mk T.i_OPERATORS_2, ?_⟩
        walk_at "my rn"
        exact ⟨_, _, _, rfl, wa, wb, .inl (by decide +kernel), q⟩
      · refine ⟨_, _, _, rfl, rfl, mk T.i_OPERATORS_3, ?_⟩
        walk_at "my rn"
        exact ⟨_, _, _, rfl, wa, wb, .inl (by decide +kernel), q⟩
      · refine ⟨_, _, _, rfl, rfl, mk T.i_OPERATORS_4, ?_⟩
        walk_at "my rn"
        exact ⟨_, _, _, rfl, wa, wb, .inl (by decide +kernel), q⟩
      · refine ⟨_, _, _, rfl, rfl, mk T.i_OPERATORS_5, ?_⟩
        walk_at "my rn"
        exact ⟨_, _, _, rfl, wa, wb, .inl (by decide +kernel), q⟩
      · refine ⟨_, _, _, rfl, rfl, mk T.i_OPERATORS_6, ?_⟩
        walk_at "my rn"
        exact ⟨_, _, _, rfl, wa, wb, .inl (by decide +kernel), q⟩
      · refine ⟨_, _, _, rfl, rfl, mk T.i_OPERATORS_7, ?_⟩
        walk_at "my rn"
        exact ⟨_, _, _, rfl, wa, wb, .inl (by decide +kernel), q⟩
      · refine ⟨_, _, _, rfl, rfl, mk T.i_OPERATORS_8, ?_⟩
        walk_at "my rn"
        exact ⟨_, _, _, rfl, wa, wb, .inl (by decide +kernel), q⟩
      · refine ⟨_, _, _, rfl, rfl, mk T.i_OPERATORS_9, ?_⟩
        walk_at "my rn"
        exact ⟨_, _, _, rfl, wa, wb, .inl (by decide +kernel), q⟩
      · refine ⟨_, _, _, rfl, rfl, mk T.i_OPERATORS_10, ?_⟩
        walk_at "my rn"
        exact ⟨_, _, _, rfl, wa, wb, .inr (by decide +kernel), q⟩
      · refine ⟨_, _, _, rfl, rfl, mk T.i_OPERATORS_11, ?_⟩
        walk_at "my rn"
        exact ⟨_, _, _, rfl, wa, wb, .inr (by decide +kernel), q⟩
      · refine ⟨_, _, _, rfl, rfl, mk T.i_OPERATORS_12, ?_⟩
        walk_at "my rn"
        exact ⟨_, _, _, rfl, wa, wb, .inr (by decide +kernel), q⟩
      · refine ⟨_, _, _, rfl, rfl, mk T.i_OPERATORS_13, ?_⟩
        walk_at "my rn"
        exact ⟨_, _, _, rfl, wa, wb, .inr (by decide +kernel), q⟩
      · refine ⟨_, _, _, rfl, rfl, mk T.i_OPERATORS_14, ?_⟩
        walk_at "my rn"
        exact ⟨_, _, _, rfl, wa, wb, .inr (by decide +kernel), q⟩
      · refine ⟨_, _, _, rfl, rfl, mk T.i_OPERATORS_15, ?_⟩
        walk_at "my rn"
        exact ⟨_, _, _, rfl, wa, wb, .inr (by decide +kernel), q⟩
      · exact absurd rfl e
end


set_option Elab.async false
set_option linter.all false
set_option maxRecDepth 100000
set_option maxHeartbeats 1000000








section
variable {P : Program} {w : World} {K : PySem.W.Frag} {mg : Str → Option Value} {base : Heap}
theorem new_off {H : Hp} {a b : Addr} {x : HO} (h : H a = some x) (n : H b = none) : a ≠ b := fun z => by rw [z, n] at h; cases h
/-- a comprehension that makes new lists: each from its index -/
theorem lc_new {J : It} {n : Nat} {G : Hp → Prop} {Y : Nat → Hp → V → Hp → Prop} (w : Walk J n G Y) {g : TG} {te : TE} {vs : List Nat} {σ : L2.St} {H1 : Hp} {D : Addr} {Qd : Hp → Prop} (C : Nat → List V)
    (nD : H1 D = none) (hn : n ≤ 100000) (hG : ∀ H, Rd.But D H1 H → G H)
    (hs : ∀ i x H H' (Kt : VK), i < n → Rd.But D H1 H → (∃ xs, H D = some (.lst xs)) → Y i H x H' → (∀ a H4, H a = none → H4 a = some (.lst (C i)) → Same H H4 → Kt (.ref a) H4) → g x (wipe σ vs) H' fun σ2 H2 => wipe σ2 vs = wipe σ vs ∧ te σ2 H2 Kt)
    (hd : ∀ H (as : List Addr), as.length = n → as.Nodup → (∀ a ∈ as, H1 a = none ∧ a ≠ D) → (∀ i a, as[i]? = some a → H a = some (.lst (C i))) → Same H1 H → H D = some (.lst (as.map V.ref)) → Qd H) :
    ∃ W : Nat → Nat → Hp → Prop, (∃ m, W 0 m (upd H1 D (.lst []))) ∧ ∀ i m H, W i m H →
      (J.stop i H ∧ Qd H) ∨ (J.go i H ∧ ∃ Nx : Hp → Prop, (∀ H', Nx H' → ∃ m', m' < m ∧ W (i + 1) m' H') ∧ ∀ x H', J.yld i H x H' → g x (wipe σ vs) H' fun σ2 H2 => wipe σ2 vs = wipe σ vs ∧ tYes σ2 H2 fun b H3 =>
        if b = true then te σ2 H3 fun y H4 => ∃ acc, H4 D = some (.lst acc) ∧ acc.length < sizeLine ∧ Nx (upd H4 D (.lst (acc ++ [y]))) else Nx H3) := by
  refine lc_it w (fun i H => ∃ as : List Addr, as.length = i ∧ as.Nodup ∧ (∀ a ∈ as, H1 a = none ∧ a ≠ D) ∧ (∀ i a, as[i]? = some a → H a = some (.lst (C i))) ∧ Rd.But D H1 H ∧ H D = some (.lst (as.map V.ref)))
    ⟨[], rfl, List.nodup_nil, fun a h => (by cases h), fun i v h => by simp at h, Rd.But.at_, upd_same⟩ (fun i H _ h => ?_) (fun i x H H' hi h y => ?_) (fun H h => ?_)
  · obtain ⟨_, _, _, _, _, b, _⟩ := h
    exact hG H b
  · obtain ⟨as, hl, nd, nw, hr, b, hD⟩ := h
    refine hs i x H H' _ hi b ⟨_, hD⟩ y fun a H4 na ha sm => ?_
    have aD : a ≠ D := (new_off hD na).symm
    have a1 : H1 a = none := by
      cases e : H1 a with
      | none => rfl
      | some y => rw [b a y aD e] at na; cases na
    have am : a ∉ as := fun z => by
      obtain ⟨j, hj⟩ := List.getElem?_of_mem z
      rw [hr j a hj] at na; cases na
    refine ⟨as.map V.ref, sm _ _ hD, Rd.szl (by rw [List.length_map]; omega), as ++ [a], by simp [hl], ?_, ?_, ?_, (b.trans (Rd.But.same sm)).trans Rd.But.at_, by rw [upd_same]; simp⟩
    · exact List.nodup_append.mpr ⟨nd, List.nodup_cons.mpr ⟨fun h => (by cases h), List.nodup_nil⟩, fun u hu v hv z => by rw [List.mem_singleton.mp hv] at z; exact am (z ▸ hu)⟩
    · intro u hu
      rcases List.mem_append.mp hu with hu | hu
      · exact nw u hu
      · rw [List.mem_singleton.mp hu]; exact ⟨a1, aD⟩
    · intro j u hj
      by_cases hj2 : j < as.length
      · rw [List.getElem?_append_left hj2] at hj
        rw [upd_ne (nw u (List.mem_of_getElem? hj)).2]
        exact sm _ _ (hr j u hj)
      · have e : j = as.length := by
          have := (List.getElem?_eq_some_iff.mp hj).1
          simp at this; omega
        subst e
        rw [List.getElem?_append_right (Nat.le_refl _), Nat.sub_self] at hj
        cases hj
        rw [upd_ne aD, hl]
        exact ha
  · obtain ⟨as, hl, nd, nw, hr, b, hD⟩ := h
    exact hd H as hl nd nw hr (b.to nD) hD
theorem rep_flat (n : Nat) : (List.replicate n [V.int 0]).flatten = (List.replicate n (0 : Int)).map V.int := by
  induction n with
  | zero => rfl
  | succ n ih => rw [List.replicate_succ, List.flatten_cons, ih]; rfl
/-- a list of one 0, times a number -/
theorem rep0 {H : Hp} {Q : VK} {l : Addr} {k : Int} {n : Nat} (h : H l = some (.lst [.int 0])) (e : k = n) (b : n ≤ 100000) (q : ∀ p, H p = none → Q (.ref p) (upd H p (.lst ((List.replicate n (0 : Int)).map V.int)))) : rRep (.ref l) (.int k) H Q := by
  subst e
  refine ⟨l, n, _, rfl, rfl, h, by omega, by omega, ?_, fun p np => ?_⟩
  · have : sizeLine = 16777216 := rfl
    show 1 * _ ≤ _
    omega
  · rw [show ((n : Int)).toNat = n from rfl, rep_flat]
    exact q p np
def sp_Core_init (C : Addr) : Sp := fun vs H Q _ => ∃ (o dx : Addr) (x : Int), vs = [.ref o, .int x] ∧ H o = some (.ins C dx []) ∧
  ∀ (H' : Hp) (R : Addr), H' o = some (.ins C dx (corF x R)) → H' R = some (.lst ((List.replicate 9 (0 : Int)).map V.int)) → H R = none → (∀ b y, b ≠ o → H b = some y → H' b = some y) → Q .non H'
theorem ok_Core_init (T : Top P w K mg) : FnOk P w K mg base CX0 1 T.a_Core_init T.d_Core_init ["self", "at"]  (sp_Core_init T.C_Core) := by
  refine T.F_Core_init.ok sc_Core_init (fun vs H Q E h => ?_) (fun cdv A outer s H vs Q E hr h => ?_)
  · obtain ⟨_, _, _, rfl, _⟩ := h
    rfl
  · obtain ⟨o, dx, x, rfl, ho, q⟩ := h
    refine ⟨_, (pss_cons (ps_fld (pv 0) (pv 1) rfl)
  (pss_one (ps_fld (pv 0) (pe_op op_rep (pe_lst (pa_cons pe_int pa_nil)) (pe_gi (by rfl) T.c_REGISTERS)) rfl))), ?_⟩
    rw [show ∀ a0 a1 : V, L2.start ["self", "at"] [a0, a1] = [some a0, some a1] from fun _ _ => rfl]
    have kc := T.cl_Core
    have na := T.n_Core_at
    have nr := T.n_Core_registers
    walk_at "my rn"
    intro p1 H1 n1 s1 h1
    have ho1 := s1 _ _ upd_same
    walk_at "my rn"
    refine rep0 (n := 9) h1 rfl (by decide) fun R nR => ?_
    have oR : o ≠ R := new_off ho1 nR
    have ho2 : upd H1 R (.lst ((List.replicate 9 (0 : Int)).map V.int)) o = some (.ins T.C_Core dx (putF "at" (.int x) [])) := by rw [upd_ne oR]; exact ho1
    walk_at "my rn"
    have ec : putF "registers" (.ref R) (putF "at" (.int x) []) = corF x R := by with_unfolding_all rfl
    rw [ec]
    have nR0 : upd H o (.ins T.C_Core dx (putF "at" (.int x) [])) R = none := s1.free nR
    rw [upd_ne oR.symm] at nR0
    refine q _ R upd_same (by rw [upd_ne oR.symm]; exact upd_same) nR0 fun b y nb e => ?_
    rw [upd_ne nb, upd_ne (new_off e nR0)]
    exact s1 _ _ (by rw [upd_ne nb]; exact e)
theorem nd_new {G : Hp} {L M : List Addr} (hL : L.Nodup) (hM : M.Nodup) (eL : ∀ a ∈ L, ∃ y, G a = some y) (nM : ∀ b ∈ M, G b = none) : (L ++ M).Nodup :=
  List.nodup_append.mpr ⟨hL, hM, fun a ha b hb z => by
    obtain ⟨y, e⟩ := eL a ha
    rw [z, nM b hb] at e; cases e⟩
def Liv (o : Addr) (G : Hp) (L : List Addr) : Prop := ∀ a ∈ L, a ≠ o ∧ ∃ y, G a = some y
theorem Liv.to {o : Addr} {G G' : Hp} {L : List Addr} (h : Liv o G L) (k : ∀ b y, b ≠ o → G b = some y → G' b = some y) : Liv o G' L := fun a m => by
  obtain ⟨n, y, e⟩ := h a m
  exact ⟨n, y, k a y n e⟩
theorem Liv.app {o : Addr} {G : Hp} {L M : List Addr} (h : Liv o G L) (k : Liv o G M) : Liv o G (L ++ M) := fun a m => (List.mem_append.mp m).elim (h a) (k a)
theorem Liv.ex {o : Addr} {G : Hp} {L : List Addr} (h : Liv o G L) : ∀ a ∈ L, ∃ y, G a = some y := fun a m => (h a m).2
theorem Liv.one {o : Addr} {G : Hp} {a : Addr} {y : HO} (n : a ≠ o) (e : G a = some y) : Liv o G [a] := fun b m => by rw [List.mem_singleton.mp m]; exact ⟨n, y, e⟩
theorem nd1 {a : Addr} : [a].Nodup := List.nodup_cons.mpr ⟨fun h => (by cases h), List.nodup_nil⟩
def sp_Board_init (K : PySem.W.Frag) (C Ca : Addr) : Sp := fun vs H Q _ => ∃ (o dx c1 c2 I R : Addr) (d1 d2 : Cd) (xs : List Addr) (ws : List (List Int)) (rs : List Int), vs = [.ref o, .ref c1, .ref c2, .ref I] ∧ H o = some (.ins C dx []) ∧ CcAt Ca H c1 d1 ∧ CcAt Ca H c2 d2 ∧
  H R = some (.lst (rs.map V.int)) ∧ rs.length = 9 ∧ SqL K H I (xs.map V.ref) ∧ xs.length = ws.length ∧ ws.length ≤ 8 ∧ (∀ (j : Nat) a r, xs[j]? = some a → ws[j]? = some r → SqL K H a (r.map V.int) ∧ r.length ≤ 1000) ∧
  ∀ (H' : Hp) (A : Mad) (k1 k2 : Addr) (e1 e2 : Cd), A.R = R → BoardAt C H' o A k1 k2 → CcAt Ca H' k1 e1 → CcAt Ca H' k2 e2 → e1.rows = d1.rows → e1.S = d1.S → e1.W = d1.W → e1.z = d1.z → e2.rows = d2.rows → e2.S = d2.S → e2.W = d2.W → e2.z = d2.z →
    Mem H' A ⟨rs, List.replicate 16384 0, List.replicate 256 0, ws ++ List.replicate (8 - ws.length) [], List.replicate 8 []⟩ → (A.all ++ ((e1.R :: e1.ls) ++ (e2.R :: e2.ls))).Nodup → (∀ b y, b ≠ o → H b = some y → H' b = some y) → (∀ a ∈ A.all ++ ((e1.R :: e1.ls) ++ (e2.R :: e2.ls)), a ≠ R → H a = none) → Q .non H'
theorem ok_Board_init (T : Top P w K mg) : FnOk P w K mg base CX0 4 T.a_Board_init T.d_Board_init ["self", "code_cache", "data_cache", "inputs"]  (sp_Board_init K T.C_Board T.C_Cache) := by
  refine T.F_Board_init.ok sc_Board_init (fun vs H Q E h => ?_) (fun cdv A outer s H vs Q E hr h => ?_)
  · obtain ⟨_, _, _, _, _, _, _, _, _, _, _, rfl, _⟩ := h
    rfl
  · obtain ⟨o, dx, c1, c2, I, R, d1, d2, xs, ws, rs, rfl, ho, hc1, hc2, hR, l9, hI, lx, l8, hws, q⟩ := h
    refine ⟨_, (pss_cons (ps_fld (pv 0) (pe_op op_rep (pe_lst (pa_cons pe_int pa_nil)) (pe_gi (by rfl) T.c_DATA_WORDS)) rfl)
  (pss_cons (ps_fld (pv 0) (pe_op op_rep (pe_lst (pa_cons pe_int pa_nil)) (pe_gi (by rfl) T.c_COUNTERS)) rfl)
  (pss_cons (ps_fld (pv 0) (pe_meth0 (pv 1) T.cl_Cache T.m_Cache_duplicate (ok_Cache_duplicate T) (hr.mono (by decide)) T.b_Cache_duplicate .nil pass0) rfl)
  (pss_cons (ps_fld (pv 0) (pe_meth0 (pv 2) T.cl_Cache T.m_Cache_duplicate (ok_Cache_duplicate T) (hr.mono (by decide)) T.b_Cache_duplicate .nil pass0) rfl)
  (pss_cons (ps_fld (pv 0) (pe_op op_catQ (pe_lc (own := [("words", 4)]) (g := gName 4) (tt := tYes) rfl sc_Board_init.nd (pi_list (pv 3)) (blkOk_by (N := ["self", "code_cache", "data_cache", "inputs", "words", "_"]) (sc := defScope s_Board_init) (by decide +kernel)) (fun _ _ _ _ _ => pg_name (i := 4) sc_Board_init.nd rfl (Or.inl rfl)) (fun _ _ _ _ _ => pts_nil) (fun _ _ _ _ _ => (pe_callTy (show CallR _ (Value.type "list") (rListOf K) from call_list_of) (by rfl) T.m_list (by decide +kernel) (pa_cons (pv 4) pa_nil)))) (pe_lc (own := [("_", 5)]) (g := gName 5) (tt := tYes) rfl sc_Board_init.nd (pi_range1 (by rfl) T.m_range (pa_cons (pe_op op_sub (pe_gi (by rfl) T.c_PORTS) (pe_callB call_len_seq (by rfl) T.m_len PySem.boot_len (pa_cons (pv 3) pa_nil))) pa_nil)) (blkOk_by (N := ["self", "code_cache", "data_cache", "inputs", "words", "_"]) (sc := defScope s_Board_init) (by decide +kernel)) (fun _ _ _ _ _ => pg_name (i := 5) sc_Board_init.nd rfl (Or.inl rfl)) (fun _ _ _ _ _ => pts_nil) (fun _ _ _ _ _ => (pe_lst pa_nil)))) rfl)
  (pss_one (ps_fld (pv 0) (pe_lc (own := [("_", 5)]) (g := gName 5) (tt := tYes) rfl sc_Board_init.nd (pi_range1 (by rfl) T.m_range (pa_cons (pe_gi (by rfl) T.c_PORTS) pa_nil)) (blkOk_by (N := ["self", "code_cache", "data_cache", "inputs", "words", "_"]) (sc := defScope s_Board_init) (by decide +kernel)) (fun _ _ _ _ _ => pg_name (i := 5) sc_Board_init.nd rfl (Or.inl rfl)) (fun _ _ _ _ _ => pts_nil) (fun _ _ _ _ _ => (pe_lst pa_nil))) rfl))))))), ?_⟩
    rw [show ∀ a0 a1 a2 a3 : V, L2.start ["self", "code_cache", "data_cache", "inputs", "words", "_"] [a0, a1, a2, a3] = [some a0, some a1, some a2, some a3, none, none] from fun _ _ _ _ => rfl]
    have kb := T.cl_Board
    have kc := T.cl_Cache
    have n1 := T.n_Board_data
    have n2 := T.n_Board_counters
    have n3 := T.n_Board_code_cache
    have n4 := T.n_Board_data_cache
    have n5 := T.n_Board_inputs
    have n6 := T.n_Board_outputs
    walk_at "my rn"
    intro p1 H1 np1 s1 h1
    have ho1 := s1 _ _ ho
    walk_at "my rn"
    refine rep0 (n := 16384) h1 rfl (by decide) fun D nD => ?_
    have oD : o ≠ D := new_off ho1 nD
    have ho2 : upd H1 D (.lst ((List.replicate 16384 (0 : Int)).map V.int)) o = some (.ins T.C_Board dx []) := by rw [upd_ne oD]; exact ho1
    obtain ⟨ld, eld⟩ : ∃ ld, ld = List.replicate 16384 (0 : Int) := ⟨_, rfl⟩
    rw [← eld] at ho2 ⊢
    have hD2 : upd H1 D (.lst (ld.map V.int)) D = some (.lst (ld.map V.int)) := upd_same
    have hDn : H D = none := s1.free nD
    have k2 : Same H (upd H1 D (.lst (ld.map V.int))) := fun b y e => by rw [upd_ne (new_off e hDn)]; exact s1 _ _ e
    generalize upd H1 D (.lst (ld.map V.int)) = H2 at ho2 hD2 k2 ⊢
    have ne_o : ∀ {C : Addr} {d : Cd} {k : Addr}, CcAt C H k d → k ≠ o ∧ d.R ≠ o ∧ ∀ l ∈ d.ls, l ≠ o := fun {C d k} hc => by
      refine ⟨fun z => ?_, fun z => ?_, fun l m z => ?_⟩
      · obtain ⟨y, e⟩ := hc.c.ob
        rw [z, ho] at e
        have := congrArg (fun o => match o with | some (HO.ins _ _ fs) => fs.length | _ => 0) e
        simp [cf] at this
      · have e := hc.c.rr
        rw [z, ho] at e; cases e
      · obtain ⟨ys, e⟩ := hc.c.isList m
        rw [z, ho] at e; cases e
    have kC : ∀ {G : Hp} {d : Cd} {k : Addr}, CcAt T.C_Cache H k d → (∀ b y, b ≠ o → H b = some y → G b = some y) → CcAt T.C_Cache G k d := fun {G d k} hc kp => hc.keep fun a ha x e => by
      obtain ⟨z1, z2, z3⟩ := ne_o hc
      rcases ha with rfl | rfl | ha
      · exact kp _ _ z1 e
      · exact kp _ _ z2 e
      · exact kp _ _ (z3 _ ha) e
    walk_at "my rn"
    intro p2 H3 np2 s3 h3
    have ho3 := s3 _ _ (show upd H2 o (.ins T.C_Board dx (putF "data" (.ref D) [])) o = some (.ins T.C_Board dx (putF "data" (.ref D) [])) from upd_same)
    have hD3 : H3 D = some (.lst (ld.map V.int)) := s3 _ _ (by rw [upd_ne oD.symm]; exact hD2)
    have k3 : ∀ b y, b ≠ o → H b = some y → H3 b = some y := fun b y nb e => s3 _ _ (by rw [upd_ne nb]; exact k2 _ _ e)
    walk_at "my rn"
    refine rep0 (n := 256) h3 rfl (by decide) fun N nN => ?_
    obtain ⟨ln, eln⟩ : ∃ ln, ln = List.replicate 256 (0 : Int) := ⟨_, rfl⟩
    rw [← eln]
    have oN : o ≠ N := new_off ho3 nN
    have DN_ : D ≠ N := new_off hD3 nN
    have frN : ∀ {b y}, H b = some y → b ≠ N := fun {b y} e z => by
      by_cases w : b = o
      · exact oN (w.symm.trans z)
      · exact absurd (k3 _ _ w e) (by rw [z, nN]; intro z; cases z)
    obtain ⟨H4, eh4⟩ : ∃ H4, H4 = upd (upd H3 N (.lst (ln.map V.int))) o (.ins T.C_Board dx (putF "counters" (.ref N) (putF "data" (.ref D) []))) := ⟨_, rfl⟩
    have ho4' : upd H3 N (.lst (ln.map V.int)) o = some (.ins T.C_Board dx (putF "data" (.ref D) [])) := by rw [upd_ne oN]; exact ho3
    walk_at "my rn"
    rw [← eh4]
    have ho4 : H4 o = some (.ins T.C_Board dx (putF "counters" (.ref N) (putF "data" (.ref D) []))) := by rw [eh4, upd_same]
    have hD4 : H4 D = some (.lst (ld.map V.int)) := by rw [eh4, upd_ne oD.symm, upd_ne DN_]; exact hD3
    have hN4 : H4 N = some (.lst (ln.map V.int)) := by rw [eh4, upd_ne oN.symm, upd_same]
    have k4 : ∀ b y, b ≠ o → H b = some y → H4 b = some y := fun b y nb e => by rw [eh4, upd_ne nb, upd_ne (frN e)]; exact k3 _ _ nb e
    obtain ⟨da, hca⟩ := (kC hc1 k4).c.ob
    have kno : (cf d1.S d1.W d1.z d1.R).lookup ("duplicate" : Str) = none := cf_no
    have kno2 : (cf d2.S d2.W d2.z d2.R).lookup ("duplicate" : Str) = none := cf_no
    walk_at "my rn"
    refine ⟨c1, d1.R, d1.ls, d1.S, d1.W, d1.z, d1.rows, rfl, (kC hc1 k4).c, hc1.ok, fun H5 k1 R1 ls1 ck1 s5 nl1 nR1 nk1 => ?_⟩
    have ho5 := s5 _ _ ho4
    walk_at "my rn"
    obtain ⟨fs6, ef6⟩ : ∃ fs, fs = putF "code_cache" (.ref k1) (putF "counters" (.ref N) (putF "data" (.ref D) [])) := ⟨_, rfl⟩
    obtain ⟨H6, eh6⟩ : ∃ H6, H6 = upd H5 o (.ins T.C_Board dx (putF "code_cache" (.ref k1) (putF "counters" (.ref N) (putF "data" (.ref D) [])))) := ⟨_, rfl⟩
    rw [← eh6]
    have off6 : ∀ {b y}, b ≠ o → H5 b = some y → H6 b = some y := fun {b y} nb e => by rw [eh6, upd_ne nb]; exact e
    have ho6 : H6 o = some (.ins T.C_Board dx (putF "code_cache" (.ref k1) (putF "counters" (.ref N) (putF "data" (.ref D) [])))) := by rw [eh6, upd_same]
    have hD6 := off6 oD.symm (s5 _ _ hD4)
    have hN6 := off6 oN.symm (s5 _ _ hN4)
    have k6 : ∀ b y, b ≠ o → H b = some y → H6 b = some y := fun b y nb e => off6 nb (s5 _ _ (k4 b y nb e))
    obtain ⟨da2, hca2⟩ := (kC hc2 k6).c.ob
    have new_o : ∀ {b}, H4 b = none → b ≠ o := fun {b} e => (new_off ho4 e).symm
    have ck1' : CacheAt T.C_Cache H6 k1 R1 ls1 d1.S d1.W d1.z d1.rows := ck1.keep fun a ha x e => off6 (by
      rcases ha with rfl | rfl | ha
      · exact new_o nk1
      · exact new_o nR1
      · exact new_o (nl1 a ha)) e
    walk_at "my rn"
    refine ⟨c2, d2.R, d2.ls, d2.S, d2.W, d2.z, d2.rows, rfl, (kC hc2 k6).c, hc2.ok, fun H7 k2_ R2 ls2 ck2 s7 nl2 nR2 nk2 => ?_⟩
    have ho7 := s7 _ _ ho6
    walk_at "my rn"
    obtain ⟨H8, eh8⟩ : ∃ H8, H8 = upd H7 o (.ins T.C_Board dx (putF "data_cache" (.ref k2_) (putF "code_cache" (.ref k1) (putF "counters" (.ref N) (putF "data" (.ref D) []))))) := ⟨_, rfl⟩
    rw [← eh8]
    have off8 : ∀ {b y}, b ≠ o → H7 b = some y → H8 b = some y := fun {b y} nb e => by rw [eh8, upd_ne nb]; exact e
    have ho8 : H8 o = some (.ins T.C_Board dx (putF "data_cache" (.ref k2_) (putF "code_cache" (.ref k1) (putF "counters" (.ref N) (putF "data" (.ref D) []))))) := by rw [eh8, upd_same]
    have hD8 := off8 oD.symm (s7 _ _ hD6)
    have hN8 := off8 oN.symm (s7 _ _ hN6)
    have k8 : ∀ b y, b ≠ o → H b = some y → H8 b = some y := fun b y nb e => off8 nb (s7 _ _ (k6 b y nb e))
    have new_o2 : ∀ {b}, H6 b = none → b ≠ o := fun {b} e => (new_off ho6 e).symm
    have nk : ∀ {a}, (a = k1 ∨ a = R1 ∨ a ∈ ls1) → a ≠ o := fun {a} ha => by
      rcases ha with rfl | rfl | ha
      · exact new_o nk1
      · exact new_o nR1
      · exact new_o (nl1 a ha)
    have ck1_8 : CacheAt T.C_Cache H8 k1 R1 ls1 d1.S d1.W d1.z d1.rows := ck1'.keep fun a ha x e => off8 (nk ha) (s7 _ _ e)
    have ck2_8 : CacheAt T.C_Cache H8 k2_ R2 ls2 d2.S d2.W d2.z d2.rows := ck2.keep fun a ha x e => off8 (by
      rcases ha with rfl | rfl | ha
      · exact new_o2 nk2
      · exact new_o2 nR2
      · exact new_o2 (nl2 a ha)) e
    have kL : ∀ {G : Hp} {a : Addr} {ys : List V}, SqL K H a ys → (∀ b y, b ≠ o → H b = some y → G b = some y) → SqL K G a ys := fun {G a ys} h kp => by
      rcases h with h | h
      · rcases h with h | ⟨z, h⟩
        · exact .inl (.inl (kp _ _ (fun w => by rw [w, ho] at h; cases h) h))
        · exact .inl (.inr ⟨z, kp _ _ (fun w => by rw [w, ho] at h; cases h) h⟩)
      · exact .inr h
    refine ⟨⟨_, kL hI k8⟩, fun Di nDi => ?_⟩
    refine lc_new (walk_list (xs := xs.map V.ref)) (fun j => ((ws[j]?).getD []).map V.int) nDi (by rw [List.length_map]; omega) (fun _ b => (b.to nDi).seq (kL hI k8)) (fun j x Hjo Hj Kt hj b hDl y kt => ?_) (fun H9 is_ lis ndi nwi his s9 hDi => ?_)
    · obtain ⟨rfl, hx⟩ := y
      rw [List.getElem?_map] at hx
      obtain ⟨a, ha, rfl⟩ : ∃ a, xs[j]? = some a ∧ V.ref a = x := by
        cases z : xs[j]? with
        | none => rw [z] at hx; cases hx
        | some v => rw [z] at hx; exact ⟨v, rfl, Option.some.inj hx⟩
      have jl : j < ws.length := by have := (List.getElem?_eq_some_iff.mp ha).1; omega
      have hr := hws j a ws[j] ha (List.getElem?_eq_getElem jl)
      have hrj : SqL K Hj a (ws[j].map V.int) := (b.to nDi).seq (kL hr.1 k8)
      have ewj : ((ws[j]?).getD []) = ws[j] := by rw [List.getElem?_eq_getElem jl]; rfl
      simp only [List.map_cons, List.map_nil, L2.wipe, List.set_cons_succ, List.set_cons_zero]
      walk_at "my rn"
      refine ⟨rfl, ?_⟩
      walk_at "my rn"
      exact fun p H' np s' hp => kt p H' np (by rw [ewj]; exact hp) s'
    · have hI9 : SqL K H9 I (xs.map V.ref) := s9.seq (kL hI k8)
      walk_at "my rn"
      rw [List.length_map]
      refine ⟨by omega, by omega, fun Dr nDr => ?_⟩
      have l32 : (8 - (xs.length : Int)).toNat = 8 - ws.length := by omega
      refine lc_new walk_range (fun _ => []) nDr (by omega) (fun _ _ => trivial) (fun j x Hjo Hj Kt hj b hDl y kt => ?_) (fun HA js ljs ndj nwj hjs sA hDr => ?_)
      · obtain ⟨rfl, e3⟩ := Rd.zr y
        subst e3
        simp only [List.map_cons, List.map_nil, L2.wipe, List.set_cons_succ, List.set_cons_zero]
        walk_at "my rn"
        refine ⟨rfl, ?_⟩
        walk_at "my rn"
        exact fun p H' np s' hp => kt p H' np hp s'
      · have hDiA := sA _ _ hDi
        have ho9 := sA _ _ (s9 _ _ ho8)
        walk_at "my rn"
        refine Rd.catQ (SqL.of hDiA) (SqL.of hDr) (by rw [List.length_map, List.length_map, ljs, lis, List.length_map]; omega) fun Ia HB nIa sB hIa => ?_
        have hoB := sB _ _ ho9
        rw [← List.map_append] at hIa
        walk_at "my rn"
        obtain ⟨HC0, eC⟩ : ∃ HC0, HC0 = upd HB o (.ins T.C_Board dx (putF "inputs" (.ref Ia) (putF "data_cache" (.ref k2_) (putF "code_cache" (.ref k1) (putF "counters" (.ref N) (putF "data" (.ref D) [])))))) := ⟨_, rfl⟩
        rw [← eC]
        have hoC : HC0 o = some (.ins T.C_Board dx (putF "inputs" (.ref Ia) (putF "data_cache" (.ref k2_) (putF "code_cache" (.ref k1) (putF "counters" (.ref N) (putF "data" (.ref D) [])))))) := by rw [eC, upd_same]
        refine ⟨by decide, by decide, fun Oa nOa => ?_⟩
        refine lc_new walk_range (fun _ => []) nOa (by decide) (fun _ _ => trivial) (fun j x Hjo Hj Kt hj b hDl y kt => ?_) (fun HD os los ndo nwo hos sD hOa => ?_)
        · obtain ⟨rfl, e3⟩ := Rd.zr y
          subst e3
          simp only [List.map_cons, List.map_nil, L2.wipe, List.set_cons_succ, List.set_cons_zero]
          walk_at "my rn"
          refine ⟨rfl, ?_⟩
          walk_at "my rn"
          exact fun p H' np s' hp => kt p H' np hp s'
        · have hoD := sD _ _ hoC
          walk_at "my rn"
          obtain ⟨HE, eE⟩ : ∃ HE, HE = upd HD o (.ins T.C_Board dx (putF "outputs" (.ref Oa) (putF "inputs" (.ref Ia) (putF "data_cache" (.ref k2_) (putF "code_cache" (.ref k1) (putF "counters" (.ref N) (putF "data" (.ref D) []))))))) := ⟨_, rfl⟩
          rw [← eE]
          have kBC : ∀ b y, b ≠ o → HB b = some y → HC0 b = some y := fun b y nb e => by rw [eC, upd_ne nb]; exact e
          have kDE : ∀ b y, b ≠ o → HD b = some y → HE b = some y := fun b y nb e => by rw [eE, upd_ne nb]; exact e
          have kCE : ∀ b y, b ≠ o → HC0 b = some y → HE b = some y := fun b y nb e => kDE b y nb (sD _ _ e)
          have kBE : ∀ b y, b ≠ o → HB b = some y → HE b = some y := fun b y nb e => kCE b y nb (kBC b y nb e)
          have kAE : ∀ b y, b ≠ o → HA b = some y → HE b = some y := fun b y nb e => kBE b y nb (sB _ _ e)
          have k9E : ∀ b y, b ≠ o → H9 b = some y → HE b = some y := fun b y nb e => kAE b y nb (sA _ _ e)
          have k8E : ∀ b y, b ≠ o → H8 b = some y → HE b = some y := fun b y nb e => k9E b y nb (s9 _ _ e)
          have Ro : R ≠ o := fun z => by rw [z, ho] at hR; cases hR
          have v3 : Liv o H3 ([R] ++ [D]) := (Liv.one Ro (k3 _ _ Ro hR)).app (Liv.one oD.symm hD3)
          have nd3 : ([R] ++ [D]).Nodup := nd_new nd1 nd1 (G := H) (fun a m => by rw [List.mem_singleton.mp m]; exact ⟨_, hR⟩) (fun b m => by rw [List.mem_singleton.mp m]; exact hDn)
          have nd4 := nd_new nd3 nd1 v3.ex (fun b m => by rw [List.mem_singleton.mp m]; exact nN)
          have v4 : Liv o H4 (([R] ++ [D]) ++ [N]) := ((Liv.one Ro (k4 _ _ Ro hR)).app (Liv.one oD.symm hD4)).app (Liv.one oN.symm hN4)
          have nd6 : ((([R] ++ [D]) ++ [N]) ++ (R1 :: ls1)).Nodup := nd_new nd4 (List.nodup_cons.mpr ⟨ck1.nR, ck1.nd⟩) v4.ex (fun b m => by
            rcases List.mem_cons.mp m with rfl | m
            · exact nR1
            · exact nl1 b m)
          have v6 : Liv o H6 ((([R] ++ [D]) ++ [N]) ++ (R1 :: ls1)) := (v4.to fun b y nb e => off6 nb (s5 _ _ e)).app fun a m => by
            rcases List.mem_cons.mp m with rfl | m
            · exact ⟨new_o nR1, _, ck1'.rr⟩
            · obtain ⟨ys, e⟩ := ck1'.isList m
              exact ⟨new_o (nl1 a m), _, e⟩
          have nd8 : (((([R] ++ [D]) ++ [N]) ++ (R1 :: ls1)) ++ (R2 :: ls2)).Nodup := nd_new nd6 (List.nodup_cons.mpr ⟨ck2.nR, ck2.nd⟩) v6.ex (fun b m => by
            rcases List.mem_cons.mp m with rfl | m
            · exact nR2
            · exact nl2 b m)
          have v8 : Liv o H8 (((([R] ++ [D]) ++ [N]) ++ (R1 :: ls1)) ++ (R2 :: ls2)) := (v6.to fun b y nb e => off8 nb (s7 _ _ e)).app fun a m => by
            rcases List.mem_cons.mp m with rfl | m
            · exact ⟨new_o2 nR2, _, ck2_8.rr⟩
            · obtain ⟨ys, e⟩ := ck2_8.isList m
              exact ⟨new_o2 (nl2 a m), _, e⟩
          have io : ∀ a ∈ is_, a ≠ o := fun a m => (new_off ho8 (nwi a m).1).symm
          have jo : ∀ a ∈ js, a ≠ o := fun a m => (new_off (s9 _ _ ho8) (nwj a m).1).symm
          have Io : Ia ≠ o := (new_off ho9 nIa).symm
          have Oo : Oa ≠ o := (new_off hoC nOa).symm
          have po : ∀ a ∈ os, a ≠ o := fun a m => (new_off hoC (nwo a m).1).symm
          have nd9 := nd_new nd8 ndi v8.ex (fun b m => (nwi b m).1)
          have v9 : Liv o H9 ((((([R] ++ [D]) ++ [N]) ++ (R1 :: ls1)) ++ (R2 :: ls2)) ++ is_) := (v8.to fun b y nb e => s9 _ _ e).app fun a m => by
            obtain ⟨j, hj⟩ := List.getElem?_of_mem m
            exact ⟨io a m, _, his j a hj⟩
          have ndA := nd_new nd9 ndj v9.ex (fun b m => (nwj b m).1)
          have vA : Liv o HA (((((([R] ++ [D]) ++ [N]) ++ (R1 :: ls1)) ++ (R2 :: ls2)) ++ is_) ++ js) := (v9.to fun b y nb e => sA _ _ e).app fun a m => by
            obtain ⟨j, hj⟩ := List.getElem?_of_mem m
            exact ⟨jo a m, _, hjs j a hj⟩
          have ndB := nd_new ndA nd1 vA.ex (fun b m => by rw [List.mem_singleton.mp m]; exact nIa)
          have vB : Liv o HC0 ((((((([R] ++ [D]) ++ [N]) ++ (R1 :: ls1)) ++ (R2 :: ls2)) ++ is_) ++ js) ++ [Ia]) := (vA.to fun b y nb e => kBC b y nb (sB _ _ e)).app (Liv.one Io (kBC _ _ Io hIa))
          have ndC := nd_new ndB (M := Oa :: os) (List.nodup_cons.mpr ⟨fun m => (nwo Oa m).2 rfl, ndo⟩) vB.ex (fun b m => by
            rcases List.mem_cons.mp m with rfl | m
            · exact nOa
            · exact (nwo b m).1)
          have pm : ((((((((([R] ++ [D]) ++ [N]) ++ (R1 :: ls1)) ++ (R2 :: ls2)) ++ is_) ++ js) ++ [Ia]) ++ (Oa :: os))).Perm ((Mad.mk R D N Ia Oa (is_ ++ js) os).all ++ ((R1 :: ls1) ++ (R2 :: ls2))) := List.perm_iff_count.mpr fun a => by
            simp only [Mad.all, List.count_append, List.count_cons, List.count_nil]
            omega
          have ndF := pm.nodup_iff.mp ndC
          have fz : ∀ {G : Hp} {a : Addr}, (∀ b y, b ≠ o → H b = some y → G b = some y) → a ≠ o → G a = none → H a = none := fun {G a} kp ao n => by
            cases e : H a with
            | none => rfl
            | some y => rw [kp a y ao e] at n; cases n
          have k9 : ∀ b y, b ≠ o → H b = some y → H9 b = some y := fun b y nb e => s9 _ _ (k8 b y nb e)
          have kA : ∀ b y, b ≠ o → H b = some y → HA b = some y := fun b y nb e => sA _ _ (k9 b y nb e)
          have kC0 : ∀ b y, b ≠ o → H b = some y → HC0 b = some y := fun b y nb e => kBC b y nb (sB _ _ (kA b y nb e))
          have fresh_ : ∀ a ∈ (Mad.mk R D N Ia Oa (is_ ++ js) os).all ++ ((R1 :: ls1) ++ (R2 :: ls2)), a ≠ R → H a = none := fun a m aR => by
            have m := pm.mem_iff.mpr m
            simp only [List.mem_append, List.mem_cons, List.mem_nil_iff, or_false] at m
            rcases m with (((((((rfl | rfl) | rfl) | m) | m) | m) | m) | rfl) | m
            · exact absurd rfl aR
            · exact hDn
            · cases e : H a with
              | none => rfl
              | some y => exact absurd rfl (frN e)
            · rcases m with rfl | m
              · exact fz k4 (new_o nR1) nR1
              · exact fz k4 (new_o (nl1 a m)) (nl1 a m)
            · rcases m with rfl | m
              · exact fz k6 (new_o2 nR2) nR2
              · exact fz k6 (new_o2 (nl2 a m)) (nl2 a m)
            · exact fz k8 (io a m) (nwi a m).1
            · exact fz k9 (jo a m) (nwj a m).1
            · exact fz kA Io nIa
            · rcases m with rfl | m
              · exact fz kC0 Oo nOa
              · exact fz kC0 (po a m) (nwo a m).1
          refine q HE (Mad.mk R D N Ia Oa (is_ ++ js) os) k1 k2_ { d1 with R := R1, ls := ls1 } { d2 with R := R2, ls := ls2 } rfl ⟨dx, by rw [eE, upd_same]; rfl⟩ ⟨ck1_8.keep fun a ha x e => k8E a x (nk ha) e, hc1.ok, hc1.few⟩ ⟨ck2_8.keep fun a ha x e => k8E a x (by
            rcases ha with rfl | rfl | ha
            · exact new_o2 nk2
            · exact new_o2 nR2
            · exact new_o2 (nl2 a ha)) e, hc2.ok, hc2.few⟩ rfl rfl rfl rfl rfl rfl rfl rfl ?_ ndF (fun b y nb e => k8E b y nb (k8 b y nb e)) fresh_
          refine ⟨k8E _ _ Ro (k8 _ _ Ro hR), by rw [← eld]; exact k8E _ _ oD.symm hD8, by rw [← eln]; exact k8E _ _ oN.symm hN8, kBE _ _ Io hIa, kDE _ _ Oo hOa, fun j a r e1 e2 => ?_, fun j a r e1 e2 => ?_, (List.nodup_append.mp ndF).1, l9, List.length_replicate .., List.length_replicate .., ?_, ?_, ?_, List.length_replicate ..⟩
          · have e1 : (is_ ++ js)[j]? = some a := e1
            have e2 : (ws ++ List.replicate (8 - ws.length) [])[j]? = some r := e2
            have li : is_.length = ws.length := by rw [lis, List.length_map]; exact lx
            by_cases hj : j < ws.length
            · rw [List.getElem?_append_left (by omega)] at e1
              rw [List.getElem?_append_left hj] at e2
              have h := his j a e1
              rw [e2] at h
              exact k9E _ _ (io a (List.mem_of_getElem? e1)) h
            · rw [List.getElem?_append_right (by omega)] at e1
              rw [List.getElem?_append_right (by omega)] at e2
              have er : r = [] := List.eq_of_mem_replicate (List.mem_of_getElem? e2)
              rw [er]
              exact kAE _ _ (jo a (List.mem_of_getElem? e1)) (hjs _ a e1)
          · have e1 : os[j]? = some a := e1
            have er : r = [] := List.eq_of_mem_replicate (List.mem_of_getElem? (show (List.replicate 8 ([] : List Int))[j]? = some r from e2))
            rw [er]
            exact kDE _ _ (po a (List.mem_of_getElem? e1)) (hos j a e1)
          · rw [List.length_append, lis, ljs, List.length_map]; omega
          · rw [List.length_append, List.length_replicate]; omega
          · rw [los]; rfl
end


set_option Elab.async false
set_option linter.all false
set_option maxRecDepth 100000
set_option maxHeartbeats 1000000








structure MemS (H : Hp) (A : Mad) (m : Ms) : Prop where
  hR : H A.R = some (.lst (m.regs.map V.int))
  hD : H A.D = some (.lst (m.data.map V.int))
  hN : H A.N = some (.lst (m.ctrs.map V.int))
  hI : H A.I = some (.lst (A.is.map V.ref))
  hO : H A.O = some (.lst (A.os.map V.ref))
  rI : ∀ (j : Nat) a r, A.is[j]? = some a → m.ins[j]? = some r → H a = some (.lst (r.map V.int))
  rO : ∀ (j : Nat) a r, A.os[j]? = some a → m.outs[j]? = some r → H a = some (.lst (r.map V.int))
  nd : A.all.Nodup
  l9 : m.regs.length = 9
  lD : m.data.length = 32
  lN : m.ctrs.length = 16
  lI : A.is.length = 1
  lJ : m.ins.length = 1
  lO : A.os.length = 1
  lP : m.outs.length = 1
theorem MemS.keep {H H' : Hp} {A : Mad} {m : Ms} (h : MemS H A m) (k : ∀ a ∈ A.all, ∀ x, H a = some x → H' a = some x) : MemS H' A m := by
  obtain ⟨h1, h2, h3, h4, h5, h6, h7, h8, h9, h10, h11, h12, h13, h14, h15⟩ := h
  refine ⟨k _ (by simp [Mad.all]) _ h1, k _ (by simp [Mad.all]) _ h2, k _ (by simp [Mad.all]) _ h3, k _ (by simp [Mad.all]) _ h4, k _ (by simp [Mad.all]) _ h5, fun j a r e1 e2 => k _ ?_ _ (h6 j a r e1 e2), fun j a r e1 e2 => k _ ?_ _ (h7 j a r e1 e2), h8, h9, h10, h11, h12, h13, h14, h15⟩
  · have := List.mem_of_getElem? e1; simp [Mad.all, this]
  · have := List.mem_of_getElem? e1; simp [Mad.all, this]
theorem MemS.setR {H : Hp} {A : Mad} {m : Ms} (h : MemS H A m) {rs : List Int} (l : rs.length = 9) : MemS (upd H A.R (.lst (rs.map V.int))) A { m with regs := rs } := by
  obtain ⟨n1, n2, n3, n4, n5, n6, n7, n8, n9, n10, na, nn⟩ := Mad.apart h.nd
  refine ⟨upd_same, by rw [upd_ne n1.symm]; exact h.hD, by rw [upd_ne n2.symm]; exact h.hN, by rw [upd_ne n3.symm]; exact h.hI, by rw [upd_ne n4.symm]; exact h.hO, fun j a r e1 e2 => ?_, fun j a r e1 e2 => ?_, h.nd, l, h.lD, h.lN, h.lI, h.lJ, h.lO, h.lP⟩
  · rw [upd_ne (na a (List.mem_append_left _ (List.mem_of_getElem? e1))).1.symm]; exact h.rI j a r e1 e2
  · rw [upd_ne (na a (List.mem_append_right _ (List.mem_of_getElem? e1))).1.symm]; exact h.rO j a r e1 e2
theorem MemS.setD {H : Hp} {A : Mad} {m : Ms} (h : MemS H A m) {rs : List Int} (l : rs.length = 32) : MemS (upd H A.D (.lst (rs.map V.int))) A { m with data := rs } := by
  obtain ⟨n1, n2, n3, n4, n5, n6, n7, n8, n9, n10, na, nn⟩ := Mad.apart h.nd
  refine ⟨by rw [upd_ne n1]; exact h.hR, upd_same, by rw [upd_ne n5.symm]; exact h.hN, by rw [upd_ne n6.symm]; exact h.hI, by rw [upd_ne n7.symm]; exact h.hO, fun j a r e1 e2 => ?_, fun j a r e1 e2 => ?_, h.nd, h.l9, l, h.lN, h.lI, h.lJ, h.lO, h.lP⟩
  · rw [upd_ne (na a (List.mem_append_left _ (List.mem_of_getElem? e1))).2.1.symm]; exact h.rI j a r e1 e2
  · rw [upd_ne (na a (List.mem_append_right _ (List.mem_of_getElem? e1))).2.1.symm]; exact h.rO j a r e1 e2
theorem MemS.setN {H : Hp} {A : Mad} {m : Ms} (h : MemS H A m) {rs : List Int} (l : rs.length = 16) : MemS (upd H A.N (.lst (rs.map V.int))) A { m with ctrs := rs } := by
  obtain ⟨n1, n2, n3, n4, n5, n6, n7, n8, n9, n10, na, nn⟩ := Mad.apart h.nd
  refine ⟨by rw [upd_ne n2]; exact h.hR, by rw [upd_ne n5]; exact h.hD, upd_same, by rw [upd_ne n8.symm]; exact h.hI, by rw [upd_ne n9.symm]; exact h.hO, fun j a r e1 e2 => ?_, fun j a r e1 e2 => ?_, h.nd, h.l9, h.lD, l, h.lI, h.lJ, h.lO, h.lP⟩
  · rw [upd_ne (na a (List.mem_append_left _ (List.mem_of_getElem? e1))).2.2.1.symm]; exact h.rI j a r e1 e2
  · rw [upd_ne (na a (List.mem_append_right _ (List.mem_of_getElem? e1))).2.2.1.symm]; exact h.rO j a r e1 e2
theorem MemS.setI {H : Hp} {A : Mad} {m : Ms} (h : MemS H A m) {q : Nat} {b : Addr} (e : A.is[q]? = some b) {rs : List Int} : MemS (upd H b (.lst (rs.map V.int))) A { m with ins := m.ins.set q rs } := by
  obtain ⟨n1, n2, n3, n4, n5, n6, n7, n8, n9, n10, na, nn⟩ := Mad.apart h.nd
  obtain ⟨b1, b2, b3, b4, b5⟩ := na b (List.mem_append_left _ (List.mem_of_getElem? e))
  obtain ⟨ni, no, nio⟩ := List.nodup_append.mp nn
  refine ⟨by rw [upd_ne b1]; exact h.hR, by rw [upd_ne b2]; exact h.hD, by rw [upd_ne b3]; exact h.hN, by rw [upd_ne b4]; exact h.hI, by rw [upd_ne b5]; exact h.hO, fun j a r e1 e2 => ?_, fun j a r e1 e2 => ?_, h.nd, h.l9, h.lD, h.lN, h.lI, by rw [List.length_set]; exact h.lJ, h.lO, h.lP⟩
  · by_cases z : j = q
    · subst z
      rw [e] at e1
      cases e1
      have : j < m.ins.length := by
        have := (List.getElem?_eq_some_iff.mp e).1
        rw [h.lI] at this; rw [h.lJ]; exact this
      rw [List.getElem?_set_self this] at e2
      cases e2
      exact upd_same
    · rw [List.getElem?_set_ne (Ne.symm z)] at e2
      rw [upd_ne (fun z2 => z ((List.getElem?_inj (List.getElem?_eq_some_iff.mp e1).1 ni).mp (by rw [e1, e, z2])))]
      exact h.rI j a r e1 e2
  · rw [upd_ne (fun z => nio b (List.mem_of_getElem? e) a (List.mem_of_getElem? e1) z.symm)]; exact h.rO j a r e1 e2
theorem MemS.setO {H : Hp} {A : Mad} {m : Ms} (h : MemS H A m) {q : Nat} {b : Addr} (e : A.os[q]? = some b) {rs : List Int} : MemS (upd H b (.lst (rs.map V.int))) A { m with outs := m.outs.set q rs } := by
  obtain ⟨n1, n2, n3, n4, n5, n6, n7, n8, n9, n10, na, nn⟩ := Mad.apart h.nd
  obtain ⟨b1, b2, b3, b4, b5⟩ := na b (List.mem_append_right _ (List.mem_of_getElem? e))
  obtain ⟨ni, no, nio⟩ := List.nodup_append.mp nn
  refine ⟨by rw [upd_ne b1]; exact h.hR, by rw [upd_ne b2]; exact h.hD, by rw [upd_ne b3]; exact h.hN, by rw [upd_ne b4]; exact h.hI, by rw [upd_ne b5]; exact h.hO, fun j a r e1 e2 => ?_, fun j a r e1 e2 => ?_, h.nd, h.l9, h.lD, h.lN, h.lI, h.lJ, h.lO, by rw [List.length_set]; exact h.lP⟩
  · rw [upd_ne (fun z => nio a (List.mem_of_getElem? e1) b (List.mem_of_getElem? e) z)]; exact h.rI j a r e1 e2
  · by_cases z : j = q
    · subst z
      rw [e] at e1
      cases e1
      have : j < m.outs.length := by
        have := (List.getElem?_eq_some_iff.mp e).1
        rw [h.lO] at this; rw [h.lP]; exact this
      rw [List.getElem?_set_self this] at e2
      cases e2
      exact upd_same
    · rw [List.getElem?_set_ne (Ne.symm z)] at e2
      rw [upd_ne (fun z2 => z ((List.getElem?_inj (List.getElem?_eq_some_iff.mp e1).1 no).mp (by rw [e1, e, z2])))]
      exact h.rO j a r e1 e2
theorem MemS.isAt {H : Hp} {A : Mad} {m : Ms} (h : MemS H A m) {q : Nat} (hq : q < 1) : ∃ b r, A.is[q]? = some b ∧ m.ins[q]? = some r ∧ H b = some (.lst (r.map V.int)) := by
  have h1 : q < A.is.length := by rw [h.lI]; exact hq
  have h2 : q < m.ins.length := by rw [h.lJ]; exact hq
  exact ⟨_, _, List.getElem?_eq_getElem h1, List.getElem?_eq_getElem h2, h.rI q _ _ (List.getElem?_eq_getElem h1) (List.getElem?_eq_getElem h2)⟩
theorem MemS.osAt {H : Hp} {A : Mad} {m : Ms} (h : MemS H A m) {q : Nat} (hq : q < 1) : ∃ b r, A.os[q]? = some b ∧ m.outs[q]? = some r ∧ H b = some (.lst (r.map V.int)) := by
  have h1 : q < A.os.length := by rw [h.lO]; exact hq
  have h2 : q < m.outs.length := by rw [h.lP]; exact hq
  exact ⟨_, _, List.getElem?_eq_getElem h1, List.getElem?_eq_getElem h2, h.rO q _ _ (List.getElem?_eq_getElem h1) (List.getElem?_eq_getElem h2)⟩
theorem MemS.regAt {H : Hp} {A : Mad} {m : Ms} (h : MemS H A m) {r : Nat} (hr : r < 9) : m.regs[r]? = some (m.reg r) := by
  have : r < m.regs.length := by rw [h.l9]; exact hr
  unfold Ms.reg
  rw [List.getElem?_eq_getElem this]; rfl
theorem MemS.dataAt {H : Hp} {A : Mad} {m : Ms} (h : MemS H A m) {a : Nat} (ha : a < 32) : m.data[a]? = some ((m.data[a]?).getD 0) := by
  have : a < m.data.length := by rw [h.lD]; exact ha
  rw [List.getElem?_eq_getElem this]; rfl
theorem MemS.ctrAt {H : Hp} {A : Mad} {m : Ms} (h : MemS H A m) {c : Nat} (hc : c < 16) : m.ctrs[c]? = some (m.ctr c) := by
  have : c < m.ctrs.length := by rw [h.lN]; exact hc
  unfold Ms.ctr
  rw [List.getElem?_eq_getElem this]; rfl
theorem MemS.ixR {H : Hp} {A : Mad} {m : Ms} (h : MemS H A m) {r : Nat} (hr : r < 9) : atI (m.regs.map V.int) (r : Int) = some (.int (m.reg r)) := Rd.at_int rfl (h.regAt hr)
theorem MemS.isList {H : Hp} {A : Mad} {m : Ms} (h : MemS H A m) {a : Addr} (ha : a ∈ A.all) : ∃ xs, H a = some (.lst xs) := by
  unfold Mad.all at ha
  simp only [List.mem_cons, List.mem_append] at ha
  rcases ha with rfl | rfl | rfl | rfl | rfl | ha | ha
  · exact ⟨_, h.hR⟩
  · exact ⟨_, h.hD⟩
  · exact ⟨_, h.hN⟩
  · exact ⟨_, h.hI⟩
  · exact ⟨_, h.hO⟩
  · obtain ⟨j, hj⟩ := List.getElem?_of_mem ha
    have j8 := (List.getElem?_eq_some_iff.mp hj).1
    rw [h.lI] at j8
    obtain ⟨b, r, e1, e2, e3⟩ := h.isAt j8
    rw [hj] at e1
    cases e1
    exact ⟨_, e3⟩
  · obtain ⟨j, hj⟩ := List.getElem?_of_mem ha
    have j8 := (List.getElem?_eq_some_iff.mp hj).1
    rw [h.lO] at j8
    obtain ⟨b, r, e1, e2, e3⟩ := h.osAt j8
    rw [hj] at e1
    cases e1
    exact ⟨_, e3⟩
def Ic.OkS : Ic → Prop
  | .set r _ => r < 9
  | .high r n => r < 9 ∧ 0 ≤ n ∧ n < 65536
  | .cal op r s t => op ∈ calcs ∧ r < 9 ∧ s < 9 ∧ t < 9
  | .load r a => r < 9 ∧ a < 32
  | .store r a => r < 9 ∧ a < 32
  | .loadx r s a n => r < 9 ∧ s < 9 ∧ 1 ≤ n ∧ a + n ≤ 32
  | .storex r s a n => r < 9 ∧ s < 9 ∧ 1 ≤ n ∧ a + n ≤ 32
  | .jzero r _ => r < 9
  | .count c n => c < 16 ∧ 0 ≤ n ∧ n < 4294967296
  | .again c _ => c < 16
  | .inp r q => r < 9 ∧ q < 1
  | .outp r q => r < 9 ∧ q < 1
  | _ => True
theorem addr_ltS {i : Ic} {m : Ms} (ok : i.OkS) (h : i.isAcc = true) : i.addr m < 32 := by
  cases i <;> first | cases h | skip
  case load r a => exact ok.2
  case store r a => exact ok.2
  case loadx r s a n =>
    obtain ⟨_, _, o3, o4⟩ := ok
    show a + (m.reg s % (n : Int)).toNat < 32
    have := Int.emod_lt_of_pos (m.reg s) (show (0 : Int) < (n : Int) by omega)
    have := Int.emod_nonneg (m.reg s) (show (n : Int) ≠ 0 by omega)
    omega
  case storex r s a n =>
    obtain ⟨_, _, o3, o4⟩ := ok
    show a + (m.reg s % (n : Int)).toNat < 32
    have := Int.emod_lt_of_pos (m.reg s) (show (0 : Int) < (n : Int) by omega)
    have := Int.emod_nonneg (m.reg s) (show (n : Int) ≠ 0 by omega)
    omega

section
variable {P : Program} {w : World} {K : PySem.W.Frag} {mg : Str → Option Value} {base : Heap}
def sgn (x : Int) : Int := if x < 2147483648 then x else x - 4294967296
def sp__law_sign : Sp := fun vs H Q _ => ∃ x : Int, vs = [.int x] ∧ Word x ∧ Q (.int (sgn x)) H
theorem ok__law_sign (T : Top P w K mg) : FnOk P w K mg base CX0 1 T.a__law_sign T.d__law_sign ["word"]  sp__law_sign := by
  refine T.F__law_sign.ok sc__law_sign (fun vs H Q E h => ?_) (fun cdv A outer s H vs Q E hr h => ?_)
  · obtain ⟨_, rfl, _⟩ := h
    rfl
  · obtain ⟨x, rfl, wx, q⟩ := h
    refine ⟨_, (pss_one (ps_ret (pe_ifExp (pt_cmpR op_lt (pv 0) pe_int (nomark _)) (pv 0) (pe_op op_sub (pv 0) pe_int)))), ?_⟩
    rw [show ∀ a0 : V, L2.start ["word"] [a0] = [some a0] from fun _ => rfl]
    unfold sgn at q
    obtain ⟨w1, w2⟩ := wx
    walk_at "my rn"
    refine Rd.ifD (fun e => ?_) fun e => ?_
    · rw [if_pos e] at q
      walk_at "my rn"
      exact q
    · rw [if_neg e] at q
      walk_at "my rn"
      exact q
def sp__law_put : Sp := fun vs H Q _ => ∃ (A : Mad) (m : Ms) (r : Nat) (wd : Int), vs = [.ref A.R, .int (r : Int), .int wd] ∧ MemS H A m ∧ r < 9 ∧ ∀ H', MemS H' A (m.put r wd) → Touch [A.R] H H' → Q .non H'
theorem ok__law_put (T : Top P w K mg) : FnOk P w K mg base CX0 1 T.a__law_put T.d__law_put ["registers", "r", "word"]  sp__law_put := by
  refine T.F__law_put.ok sc__law_put (fun vs H Q E h => ?_) (fun cdv A outer s H vs Q E hr h => ?_)
  · obtain ⟨_, _, _, _, rfl, _⟩ := h
    rfl
  · obtain ⟨A, m, r, wd, rfl, hm, r9, q⟩ := h
    refine ⟨_, (pss_one (ps_if (pt_cmpR op_ne (pv 1) pe_int (nomark _))
  (pss_one (ps_asg (pv 2) (pg_sub (pv 0) (pv 1) set_list)))
  pss_nil)), ?_⟩
    rw [show ∀ a0 a1 a2 : V, L2.start ["registers", "r", "word"] [a0, a1, a2] = [some a0, some a1, some a2] from fun _ _ _ => rfl]
    walk_at "my rn"
    unfold Ms.put at q
    refine Rd.ifN (fun e => ?_) fun e => ?_
    · have r0 : ¬ r = 0 := fun z => e (by rw [z]; rfl)
      rw [if_neg r0] at q
      walk_at "my rn"
      refine Rd.setL (j := r) hm.hR (Evl.ixN_nat (by rw [List.length_map, hm.l9]; exact r9)) ?_
      rw [← List.map_set]
      refine q _ (hm.setR (by rw [List.length_set]; exact hm.l9)) fun b x nb e => by rw [upd_ne (fun z => nb (by rw [z]; exact List.mem_singleton.mpr rfl))]; exact e
    · have r0 : r = 0 := by have := V.int.inj e; omega
      rw [if_pos r0] at q
      walk_at "my rn"
      exact q H hm (Touch.refl _ _)
end


set_option Elab.async false
set_option linter.all false
set_option maxRecDepth 100000
set_option maxHeartbeats 1000000








section
variable {P : Program} {w : World} {K : PySem.W.Frag} {mg : Str → Option Value} {base : Heap}
def Ic.gl (i : Ic) (m : Ms) (x : Int) : Ms × Int × Bool := match i with
  | .jump p => (m, p, true)
  | .jzero r p => if m.reg r = 0 then (m, p, true) else (m, x + 1, false)
  | .again c p => if (m.ctr c - 1) % 4294967296 = 0 then ({ m with ctrs := m.ctrs.set c ((m.ctr c - 1) % 4294967296) }, x + 1, false) else ({ m with ctrs := m.ctrs.set c ((m.ctr c - 1) % 4294967296) }, p, true)
  | .link p => ({ m with regs := m.regs.set 8 (x + 1) }, p, true)
  | .back => (m, m.reg 8, true)
  | _ => (m, x + 1, false)
def Ic.mv (i : Ic) (m : Ms) : Ms := if i.isBr || i.isJmp then m else (i.exec m 0).1
theorem mv_gl (i : Ic) (m : Ms) (x : Int) : i.gl (i.mv m) x = i.exec m x := by cases i <;> rfl
theorem nm_jump {i : Ic} (h : i.nm = "jump") : ∃ p, i = .jump p := by cases i <;> first | exact ⟨_, rfl⟩ | (revert h; simp only [Ic.nm]; intro h; exact absurd h (by decide +kernel))
theorem nm_jzero {i : Ic} (h : i.nm = "jzero") : ∃ r p, i = .jzero r p := by cases i <;> first | exact ⟨_, _, rfl⟩ | (revert h; simp only [Ic.nm]; intro h; exact absurd h (by decide +kernel))
theorem nm_again {i : Ic} (h : i.nm = "again") : ∃ c p, i = .again c p := by cases i <;> first | (exact ⟨_, _, rfl⟩) | (revert h; simp only [Ic.nm]; intro h; exact absurd h (by decide +kernel))
theorem nm_link {i : Ic} (h : i.nm = "link") : ∃ p, i = .link p := by cases i <;> first | (exact ⟨_, rfl⟩) | (revert h; simp only [Ic.nm]; intro h; exact absurd h (by decide +kernel))
theorem nm_back {i : Ic} (h : i.nm = "back") : i = .back := by cases i <;> first | rfl | (revert h; simp only [Ic.nm]; intro h; exact absurd h (by decide +kernel))
theorem gl_else {i : Ic} (h1 : ¬ i.nm = "jump") (h2 : ¬ i.nm = "jzero") (h3 : ¬ i.nm = "again") (h4 : ¬ i.nm = "link") (h5 : ¬ i.nm = "back") (m : Ms) (x : Int) : i.gl m x = (m, x + 1, false) := by
  cases i <;> first | rfl | exact absurd rfl h1 | exact absurd rfl h2 | exact absurd rfl h3 | exact absurd rfl h4 | exact absurd rfl h5
def sp__law_goal (K : PySem.W.Frag) : Sp := fun vs H Q _ => ∃ (t : Addr) (A : Mad) (m : Ms) (i : Ic) (x : Int), vs = [.ref t, .int x, .ref A.R, .ref A.N] ∧ IcAt K H t i ∧ i.OkS ∧ MemS H A m ∧ (0 ≤ x ∧ x < 100000) ∧
  ∀ p H1 H', MemS H1 A (i.gl m x).1 → Touch A.all H H1 → H1 p = none → Same H1 H' → H' p = some (.tup [.int (i.gl m x).2.1, .bl (i.gl m x).2.2]) → Q (.ref p) H'
theorem ok__law_goal (T : Top P w K mg) : FnOk P w K mg base CX0 1 T.a__law_goal T.d__law_goal ["instruction", "at", "registers", "counters"]  (sp__law_goal K) := by
  refine T.F__law_goal.ok sc__law_goal (fun vs H Q E h => ?_) (fun cdv A outer s H vs Q E hr h => ?_)
  · obtain ⟨_, _, _, _, _, rfl, _⟩ := h
    rfl
  · obtain ⟨t, A, m, i, x, rfl, ht, ok, hm, hx, q⟩ := h
    refine ⟨_, (pss_cons (ps_set (i := 4) sc__law_goal.nd rfl (by first | exact Or.inl rfl | exact Or.inr rfl) (pe_ix ix_tup (pv 0) pe_int (fun _ _ => rfl)))
  (pss_cons (ps_if (pt_cmpR op_eq (pv 4) pe_str (nomark _))
  (pss_one (ps_ret (pe_tup (pa_cons (pe_ix ix_tup (pv 0) pe_int (fun _ _ => rfl)) (pa_cons pe_bl pa_nil)))))
  pss_nil)
  (pss_cons (ps_if (pw_and (pt_cmpR op_eq (pv 4) pe_str (nomark _)) (pw_and1 (pt_cmpR op_eq (pe_ix ix_list (pv 2) (pe_ix ix_tup (pv 0) pe_int (fun _ _ => rfl)) (fun _ _ => rfl)) pe_int (nomark _)))).pt
  (pss_one (ps_ret (pe_tup (pa_cons (pe_ix ix_tup (pv 0) pe_int (fun _ _ => rfl)) (pa_cons pe_bl pa_nil)))))
  pss_nil)
  (pss_cons (ps_if (pt_cmpR op_eq (pv 4) pe_str (nomark _))
  (pss_cons (ps_asg (pe_op op_mod (pe_callTy call_int1 (by rfl) T.m_int (by decide +kernel) (pa_cons (pe_op op_sub (pe_ix ix_list (pv 3) (pe_ix ix_tup (pv 0) pe_int (fun _ _ => rfl)) (fun _ _ => rfl)) pe_int) pa_nil)) pe_int) (pg_sub (pv 3) (pe_ix ix_tup (pv 0) pe_int (fun _ _ => rfl)) set_list))
  (pss_one (ps_if (pt_cmpR op_ne (pe_ix ix_list (pv 3) (pe_ix ix_tup (pv 0) pe_int (fun _ _ => rfl)) (fun _ _ => rfl)) pe_int (nomark _))
  (pss_one (ps_ret (pe_tup (pa_cons (pe_ix ix_tup (pv 0) pe_int (fun _ _ => rfl)) (pa_cons pe_bl pa_nil)))))
  pss_nil)))
  pss_nil)
  (pss_cons (ps_if (pt_cmpR op_eq (pv 4) pe_str (nomark _))
  (pss_cons (ps_asg (pe_op op_add (pv 1) pe_int) (pg_sub (pv 2) pe_int set_list))
  (pss_one (ps_ret (pe_tup (pa_cons (pe_ix ix_tup (pv 0) pe_int (fun _ _ => rfl)) (pa_cons pe_bl pa_nil))))))
  pss_nil)
  (pss_cons (ps_if (pt_cmpR op_eq (pv 4) pe_str (nomark _))
  (pss_one (ps_ret (pe_tup (pa_cons (pe_ix ix_list (pv 2) pe_int (fun _ _ => rfl)) (pa_cons pe_bl pa_nil)))))
  pss_nil)
  (pss_one (ps_ret (pe_tup (pa_cons (pe_op op_add (pv 1) pe_int) (pa_cons pe_bl pa_nil))))))))))), ?_⟩
    rw [show ∀ a0 a1 a2 a3 : V, L2.start ["instruction", "at", "registers", "counters", "name"] [a0, a1, a2, a3] = [some a0, some a1, some a2, some a3, none] from fun _ _ _ _ => rfl]
    have hti : SqT K H t (.str i.nm :: i.vs) := ht
    walk_at "my rn"
    refine Rd.ixTq hti (Rd.at_val (j := 0) rfl rfl) ?_
    walk_at "my rn"
    by_cases e1 : i.nm = "jump"
    · obtain ⟨p, rfl⟩ := nm_jump e1
      have ht' : SqT K H t [.str "jump", .int p] := ht
      rw [decide_eq_true (by rw [e1])]
      walk_at "my rn"
      exact fun p' H' np s' hp => q p' H H' hm (Touch.refl _ _) np s' hp
    rw [decide_eq_false (fun z => e1 (V.str.inj z))]
    walk_at "my rn"
    by_cases e2 : i.nm = "jzero"
    · obtain ⟨r, p, rfl⟩ := nm_jzero e2
      have ht' : SqT K H t [.str "jzero", nI r, .int p] := ht
      rw [decide_eq_true (by rw [e2])]
      walk_at "my rn"
      refine Rd.ixL hm.hR (hm.ixR ok) ?_
      have q' : ∀ p' H1 H', MemS H1 A (if m.reg r = 0 then (m, p, true) else (m, x + 1, false)).1 → Touch A.all H H1 → H1 p' = none → Same H1 H' → H' p' = some (.tup [.int (if m.reg r = 0 then (m, p, true) else (m, x + 1, false)).2.1, .bl (if m.reg r = 0 then (m, p, true) else (m, x + 1, false)).2.2]) → Q (.ref p') H' := q
      walk_at "my rn"
      refine Rd.ifD (fun e => ?_) fun e => ?_
      · rw [if_pos (V.int.inj e)] at q'
        walk_at "my rn"
        exact fun p' H' np s' hp => q' p' H H' hm (Touch.refl _ _) np s' hp
      · rw [if_neg (fun z => e (by rw [z]))] at q'
        walk_at "my rn"
        rw [decide_eq_false (by simp only [Ic.nm]; decide +kernel)]
        walk_at "my rn"
        rw [decide_eq_false (by simp only [Ic.nm]; decide +kernel)]
        walk_at "my rn"
        rw [decide_eq_false (by simp only [Ic.nm]; decide +kernel)]
        walk_at "my rn"
        exact fun p' H' np s' hp => q' p' H H' hm (Touch.refl _ _) np s' hp
    rw [decide_eq_false (fun z => e2 (V.str.inj z))]
    walk_at "my rn"
    by_cases e3 : i.nm = "again"
    · obtain ⟨c, p, rfl⟩ := nm_again e3
      have ht' : SqT K H t [.str "again", nI c, .int p] := ht
      rw [decide_eq_true (by rw [e3])]
      walk_at "my rn"
      obtain ⟨v, ev⟩ : ∃ v, v = (m.ctr c - 1) % 4294967296 := ⟨_, rfl⟩
      have cl : c < m.ctrs.length := by rw [hm.lN]; exact ok
      have q' : ∀ p' H1 H', MemS H1 A (if v = 0 then (({ m with ctrs := m.ctrs.set c v } : Ms), x + 1, false) else ({ m with ctrs := m.ctrs.set c v }, p, true)).1 → Touch A.all H H1 → H1 p' = none → Same H1 H' → H' p' = some (.tup [.int (if v = 0 then (({ m with ctrs := m.ctrs.set c v } : Ms), x + 1, false) else ({ m with ctrs := m.ctrs.set c v }, p, true)).2.1, .bl (if v = 0 then (({ m with ctrs := m.ctrs.set c v } : Ms), x + 1, false) else ({ m with ctrs := m.ctrs.set c v }, p, true)).2.2]) → Q (.ref p') H' := by rw [ev]; exact q
      refine Rd.ixL hm.hN (Rd.at_int rfl (hm.ctrAt ok)) ?_
      walk_at "my rn"
      rw [← ev]
      refine Rd.setL (j := c) hm.hN (Evl.ixN_nat (by rw [List.length_map]; exact cl)) ?_
      rw [← List.map_set]
      have hm1 := hm.setN (rs := m.ctrs.set c v) (by rw [List.length_set]; exact hm.lN)
      obtain ⟨H1, eh⟩ : ∃ H1, H1 = upd H A.N (.lst ((m.ctrs.set c v).map V.int)) := ⟨_, rfl⟩
      rw [← eh] at hm1 ⊢
      have t1 : Touch A.all H H1 := fun z y nz e => by rw [eh, upd_ne (fun w => nz (by rw [w]; exact isAll.2.2.1))]; exact e
      have ht1 : SqT K H1 t [.str "again", nI c, .int p] := sqT_touch t1 ht' fun a ha => hm.isList ha
      have at1 : atI ((m.ctrs.set c v).map V.int) (c : Int) = some (.int v) := Rd.at_int rfl (List.getElem?_set_self cl)
      walk_at "my rn"
      refine Rd.ixL hm1.hN at1 ?_
      walk_at "my rn"
      refine Rd.ifN (fun e => ?_) fun e => ?_
      · rw [if_neg (fun z => e (by rw [z]))] at q'
        walk_at "my rn"
        exact fun p' H' np s' hp => q' p' H1 H' hm1 t1 np s' hp
      · rw [if_pos (V.int.inj e)] at q'
        walk_at "my rn"
        rw [decide_eq_false (by simp only [Ic.nm]; decide +kernel)]
        walk_at "my rn"
        rw [decide_eq_false (by simp only [Ic.nm]; decide +kernel)]
        walk_at "my rn"
        exact fun p' H' np s' hp => q' p' H1 H' hm1 t1 np s' hp
    rw [decide_eq_false (fun z => e3 (V.str.inj z))]
    walk_at "my rn"
    by_cases e4 : i.nm = "link"
    · obtain ⟨p, rfl⟩ := nm_link e4
      have ht' : SqT K H t [.str "link", .int p] := ht
      rw [decide_eq_true (by rw [e4])]
      walk_at "my rn"
      refine Rd.setL (j := 8) hm.hR (by rw [List.length_map, hm.l9]; rfl) ?_
      rw [← List.map_set]
      have hm1 := hm.setR (rs := m.regs.set 8 (x + 1)) (by rw [List.length_set]; exact hm.l9)
      obtain ⟨H1, eh⟩ : ∃ H1, H1 = upd H A.R (.lst ((m.regs.set 8 (x + 1)).map V.int)) := ⟨_, rfl⟩
      rw [← eh] at hm1 ⊢
      have t1 : Touch A.all H H1 := fun z y nz e => by rw [eh, upd_ne (fun w => nz (by rw [w]; exact isAll.1))]; exact e
      have ht1 : SqT K H1 t [.str "link", .int p] := sqT_touch t1 ht' fun a ha => hm.isList ha
      walk_at "my rn"
      exact fun p' H' np s' hp => q p' H1 H' hm1 t1 np s' hp
    rw [decide_eq_false (fun z => e4 (V.str.inj z))]
    walk_at "my rn"
    by_cases e5 : i.nm = "back"
    · obtain rfl := nm_back e5
      rw [decide_eq_true (by rw [e5])]
      walk_at "my rn"
      refine Rd.ixL hm.hR (hm.ixR (r := 8) (by decide)) ?_
      walk_at "my rn"
      exact fun p' H' np s' hp => q p' H H' hm (Touch.refl _ _) np s' hp
    rw [decide_eq_false (fun z => e5 (V.str.inj z))]
    walk_at "my rn"
    rw [gl_else e1 e2 e3 e4 e5] at q
    exact fun p' H' np s' hp => q p' H H' hm (Touch.refl _ _) np s' hp
end


set_option Elab.async false
set_option linter.all false
set_option maxRecDepth 100000
set_option maxHeartbeats 1000000








/-! ### bits one by one, shifts by doubling -/
theorem bitI (m k : Nat) : ((m : Int) / 2 ^ ((0 : Int) + (k : Int)).toNat) % 2 = ((m.testBit k).toNat : Nat) := by
  have e : ((0 : Int) + (k : Int)).toNat = k := by omega
  rw [e, Nat.toNat_testBit]
  norm_cast
theorem grow (m k : Nat) : m % 2 ^ (k + 1) = m % 2 ^ k + (m.testBit k).toNat * 2 ^ k := by
  rw [Nat.mod_pow_succ, Nat.toNat_testBit, Nat.mul_comm]
/-- what the law's loop has after n turns -/
def tot (op : Str) (m n k : Nat) : Int :=
  if op = "|" then ((m % 2 ^ k : Nat) : Int) + ((n % 2 ^ k : Nat) : Int) - (((m &&& n) % 2 ^ k : Nat) : Int)
  else if op = "^" then ((m % 2 ^ k : Nat) : Int) + ((n % 2 ^ k : Nat) : Int) - 2 * (((m &&& n) % 2 ^ k : Nat) : Int)
  else (((m &&& n) % 2 ^ k : Nat) : Int)
theorem and_bit (m n k : Nat) : ((m &&& n).testBit k).toNat = (m.testBit k).toNat * (n.testBit k).toNat := by
  rw [Nat.testBit_and]
  cases m.testBit k <;> cases n.testBit k <;> rfl
def bitV (op : Str) (x y : Int) : Int := if op = "|" then x + y - x * y else if op = "^" then x + y - 2 * x * y else x * y
theorem tot_step (op : Str) (m n k : Nat) : tot op m n (k + 1) = tot op m n k + bitV op ((m.testBit k).toNat : Nat) ((n.testBit k).toNat : Nat) * 2 ^ ((0 : Int) + (k : Int)).toNat := by
  have e : ((0 : Int) + (k : Int)).toNat = k := by omega
  rw [e]
  have hm := grow m k
  have hn := grow n k
  have ha := grow (m &&& n) k
  rw [and_bit] at ha
  unfold tot bitV
  have hp : ((2 : Int) ^ k) = ((2 ^ k : Nat) : Int) := by norm_cast
  rw [hm, hn, ha, hp]
  generalize (2 ^ k : Nat) = p
  generalize m % p = u
  generalize n % p = v
  generalize (m &&& n) % p = t
  by_cases h1 : op = "|"
  · simp only [eq_true h1, if_true]
    cases m.testBit k <;> cases n.testBit k <;> simp [Bool.toNat] <;> omega
  by_cases h2 : op = "^"
  · simp only [eq_false h1, eq_true h2, if_true, if_false]
    cases m.testBit k <;> cases n.testBit k <;> simp [Bool.toNat] <;> omega
  · simp only [eq_false h1, eq_false h2, if_false]
    cases m.testBit k <;> cases n.testBit k <;> simp [Bool.toNat]
theorem tot_end (op : Str) (h : op ∈ (["&", "|", "^"] : List Str)) {m n : Nat} (hm : (m : Int) < 4294967296) (hn : (n : Int) < 4294967296) : tot op m n 32 = comb op (m : Int) (n : Int) := by
  replace hm : m < 4294967296 := by omega
  replace hn : n < 4294967296 := by omega
  have e1 : m % 2 ^ 32 = m := Nat.mod_eq_of_lt hm
  have e2 : n % 2 ^ 32 = n := Nat.mod_eq_of_lt hn
  have e3 : (m &&& n) % 2 ^ 32 = m &&& n := Nat.mod_eq_of_lt (Nat.lt_of_le_of_lt Nat.and_le_left hm)
  have p := bitAnd_pp (x := (m : Int)) (y := (n : Int)) (by omega) (by omega)
  rw [Int.toNat_natCast, Int.toNat_natCast] at p
  unfold tot
  rw [e1, e2, e3]
  simp only [List.mem_cons, List.mem_nil_iff, or_false] at h
  rcases h with rfl | rfl | rfl
  · show _ = Builtin.bitAnd (m : Int) (n : Int)
    rw [p]
    rfl
  · show _ = Builtin.bitOr (m : Int) (n : Int)
    rw [bitOr_and, p]
    rfl
  · show _ = Builtin.bitXor (m : Int) (n : Int)
    rw [bitXor_and, p]
    rfl

/-- the law's shift after n turns -/
def shf (op : Str) (a : Int) (j : Nat) : Int := if op = "<<" then (a * 2 ^ j) % 4294967296 else a / 2 ^ j
theorem shf_zero {op : Str} {a : Int} (wa : Word a) : shf op a 0 = a := by
  unfold shf
  by_cases h : op = "<<"
  · rw [if_pos h]
    simp
    exact Int.emod_eq_of_lt wa.1 wa.2
  · rw [if_neg h]
    simp
theorem shl_step {op : Str} (h : op = "<<") (a : Int) (j : Nat) : (2 * shf op a j) % 4294967296 = shf op a (j + 1) := by
  unfold shf
  rw [if_pos h, if_pos h, Int.mul_emod, Int.emod_emod_of_dvd _ (Int.dvd_refl _), ← Int.mul_emod, Int.pow_succ]
  congr 1
  rw [← Int.mul_assoc, Int.mul_comm 2, Int.mul_assoc, Int.mul_comm 2]
theorem shr_step {op : Str} (h : ¬ op = "<<") (a : Int) (j : Nat) : shf op a j / 2 = shf op a (j + 1) := by
  unfold shf
  rw [if_neg h, if_neg h, Int.pow_succ, Int.ediv_ediv_of_nonneg (by exact Int.le_of_lt (Int.pow_pos (by decide)))]
theorem shf_end {op : Str} (h : op ∈ (["<<", ">>"] : List Str)) (a b : Int) : shf op a (b % 32).toNat = comb op a b := by
  simp only [List.mem_cons, List.mem_nil_iff, or_false] at h
  rcases h with rfl | rfl <;> rfl

theorem nat_of {a : Int} (h : 0 ≤ a) : ∃ m : Nat, a = (m : Int) := ⟨a.toNat, by omega⟩
theorem bool01 (b : Bool) : 0 ≤ ((b.toNat : Nat) : Int) ∧ ((b.toNat : Nat) : Int) ≤ 1 := by cases b <;> decide

theorem cal_add (a b : Int) : calV "add" a b = (a + b) % 4294967296 := by with_unfolding_all rfl
theorem cal_sub (a b : Int) : calV "sub" a b = (a - b) % 4294967296 := by with_unfolding_all rfl
theorem cal_mul (a b : Int) : calV "mul" a b = (a * b) % 4294967296 := by with_unfolding_all rfl
theorem cal_div (a b : Int) : calV "div" a b = if b = 0 then 0 else a / b := by with_unfolding_all rfl
theorem cal_mod (a b : Int) : calV "mod" a b = if b = 0 then a else a % b := by with_unfolding_all rfl
theorem cal_and (a b : Int) : calV "and" a b = comb "&" a b := by with_unfolding_all rfl
theorem cal_or (a b : Int) : calV "or" a b = comb "|" a b := by with_unfolding_all rfl
theorem cal_xor (a b : Int) : calV "xor" a b = comb "^" a b := by with_unfolding_all rfl
theorem cal_nor (a b : Int) : calV "nor" a b = alt "inv" (comb "|" a b) := by with_unfolding_all rfl
theorem cal_shl (a b : Int) : calV "shl" a b = (a * 2 ^ (b % 32).toNat) % 4294967296 := by with_unfolding_all rfl
theorem cal_shr (a b : Int) : calV "shr" a b = a / 2 ^ (b % 32).toNat := by with_unfolding_all rfl
theorem cal_cmp {op : Str} (h : op ∈ (["ult", "ule", "slt", "sle", "eq", "ne"] : List Str)) (a b : Int) : calV op a b = if hld (opOf op) a b = true then 1 else 0 := by
  simp only [List.mem_cons, List.mem_nil_iff, or_false] at h
  rcases h with rfl | rfl | rfl | rfl | rfl | rfl <;> with_unfolding_all rfl
section
variable {P : Program} {w : World} {K : PySem.W.Frag} {mg : Str → Option Value} {base : Heap}
theorem inv_eq {n : Int} (w : Word n) : alt "inv" n = 4294967295 - n := by
  obtain ⟨m, rfl⟩ := nat_of w.1
  show Builtin.bitXor (m : Int) 4294967295 = _
  rw [bitXor_and, bitAnd_pp (by omega) (by decide)]
  have e : (m : Int).toNat &&& (4294967295 : Int).toNat = m % 2 ^ 32 := by
    show m &&& 4294967295 = _
    exact Nat.and_two_pow_sub_one_eq_mod m 32
  rw [e, Nat.mod_eq_of_lt (by have := w.2; omega)]
  omega
theorem tot0 (op : Str) (m n : Nat) : tot op m n 0 = 0 := by
  unfold tot
  simp [Nat.mod_one]
theorem bitK (m k : Nat) : ((m : Int) / 2 ^ k) % 2 = ((m.testBit k).toNat : Nat) := by
  rw [Nat.toNat_testBit]
  norm_cast
theorem log_pow {k : Nat} (h : k < 32) : ((2 : Int) ^ k).natAbs.log2 < 9000 :=
  Nat.lt_of_le_of_lt (Nat.le_of_eq (by rw [show ((2 : Int) ^ k).natAbs = 2 ^ k by rw [Int.natAbs_pow]; rfl, Nat.log2_two_pow])) (by omega)
theorem st_and_0 (m n : Nat) : tot "&" m n 0 = 0 := tot0 _ m n
theorem st_or_0 (m n : Nat) : tot "|" m n 0 = 0 := tot0 _ m n
theorem st_xor_0 (m n : Nat) : tot "^" m n 0 = 0 := tot0 _ m n
def totN (m n k : Nat) : Int := 2 ^ k - 1 - tot "|" m n k
theorem st_nor_0 (m n : Nat) : totN m n 0 = 0 := by unfold totN; rw [tot0]; rfl
theorem zk (k : Nat) : ((0 : Int) + (k : Int)).toNat = k := by omega
theorem st_and (m n k : Nat) : tot "&" m n (k + 1) = tot "&" m n k + ((m.testBit k).toNat : Nat) * ((n.testBit k).toNat : Nat) * 2 ^ k := by
  have := tot_step "&" m n k
  rw [zk] at this
  exact this
theorem st_or (m n k : Nat) : tot "|" m n (k + 1) = tot "|" m n k + (((m.testBit k).toNat : Nat) + ((n.testBit k).toNat : Nat) - ((m.testBit k).toNat : Nat) * ((n.testBit k).toNat : Nat)) * 2 ^ k := by
  have := tot_step "|" m n k
  rw [zk] at this
  exact this
theorem st_xor (m n k : Nat) : tot "^" m n (k + 1) = tot "^" m n k + (((m.testBit k).toNat : Nat) + ((n.testBit k).toNat : Nat) - 2 * ((m.testBit k).toNat : Nat) * ((n.testBit k).toNat : Nat)) * 2 ^ k := by
  have := tot_step "^" m n k
  rw [zk] at this
  exact this
theorem st_nor (m n k : Nat) : totN m n (k + 1) = totN m n k + (1 - ((m.testBit k).toNat : Nat)) * (1 - ((n.testBit k).toNat : Nat)) * 2 ^ k := by
  unfold totN
  rw [st_or, Int.pow_succ]
  generalize (2 : Int) ^ k = p
  cases m.testBit k <;> cases n.testBit k <;> simp <;> omega
theorem totN_end {m n : Nat} (wa : Word (m : Int)) (wb : Word (n : Int)) : totN m n 32 = alt "inv" (comb "|" (m : Int) (n : Int)) := by
  unfold totN
  rw [tot_end "|" (by decide) wa.2 wb.2, inv_eq (comb_word wa wb)]
  rfl
theorem dec_int {a b : Int} : decide (V.int a = V.int b) = decide (a = b) := decide_eq_decide.mpr ⟨V.int.inj, fun h => by rw [h]⟩
theorem log_small {b : Int} (h0 : 0 ≤ b) (h1 : b < 4294967296) : b.natAbs.log2 < 9000 := by
  by_cases z : b.natAbs = 0
  · rw [z]; decide
  · exact Nat.lt_of_lt_of_le ((Nat.log2_lt z).mpr (show b.natAbs < 2 ^ 32 by omega)) (by decide)
theorem pow_le32 {k : Nat} (h : k ≤ 32) : 0 < (2 : Int) ^ k ∧ (2 : Int) ^ k ≤ 4294967296 := by
  have e : ((2 : Int) ^ k) = ((2 ^ k : Nat) : Int) := by norm_cast
  have := Nat.pow_le_pow_right (show 0 < 2 by decide) h
  have := Nat.pow_pos (n := k) (show 0 < 2 by decide)
  have : (2 ^ 32 : Nat) = 4294967296 := by decide
  rw [e]; omega
def sp__law_calc : Sp := fun vs H Q _ => ∃ (op : Str) (a b : Int), vs = [.str op, .int a, .int b] ∧ op ∈ calcs ∧ Word a ∧ Word b ∧ ∀ H', Same H H' → Q (.int (calV op a b)) H'
theorem ok__law_calc (T : Top P w K mg) : FnOk P w K mg base CX0 2 T.a__law_calc T.d__law_calc ["name", "a", "b"]  sp__law_calc := by
  refine T.F__law_calc.ok sc__law_calc (fun vs H Q E h => ?_) (fun cdv A outer s H vs Q E hr h => ?_)
  · obtain ⟨_, _, _, rfl, _⟩ := h
    rfl
  · obtain ⟨op, a, b, rfl, ho, wa, wb, q⟩ := h
    refine ⟨_, (pss_cons (ps_if (pt_cmpR op_in_seq (pv 0) (pe_tup (pa_cons pe_str (pa_cons pe_str (pa_cons pe_str pa_nil)))) (by with_unfolding_all rfl))
  (pss_cons (ps_set (i := 3) sc__law_calc.nd rfl (by first | exact Or.inl rfl | exact Or.inr rfl) (pe_ifExp (pt_cmpR op_eq (pv 0) pe_str (nomark _)) (pe_op op_add (pv 1) (pv 2)) (pe_ifExp (pt_cmpR op_eq (pv 0) pe_str (nomark _)) (pe_op op_sub (pv 1) (pv 2)) (pe_op op_mul (pv 1) (pv 2)))))
  (pss_one (ps_ret (pe_op op_mod (pe_callTy call_int1 (by rfl) T.m_int (by decide +kernel) (pa_cons (pv 3) pa_nil)) pe_int))))
  pss_nil)
  (pss_cons (ps_if (pt_cmpR op_in_seq (pv 0) (pe_tup (pa_cons pe_str (pa_cons pe_str pa_nil))) (by with_unfolding_all rfl))
  (pss_cons (ps_if (pt_cmpR op_eq (pv 2) pe_int (nomark _))
  (pss_one (ps_ret (pe_ifExp (pt_cmpR op_eq (pv 0) pe_str (nomark _)) pe_int (pv 1))))
  pss_nil)
  (pss_one (ps_ret (pe_ifExp (pt_cmpR op_eq (pv 0) pe_str (nomark _)) (pe_op op_fdivW (pv 1) (pv 2)) (pe_op op_mod (pe_callTy call_int1 (by rfl) T.m_int (by decide +kernel) (pa_cons (pv 1) pa_nil)) (pv 2))))))
  pss_nil)
  (pss_cons (ps_if (pt_cmpR op_in_seq (pv 0) (pe_tup (pa_cons pe_str (pa_cons pe_str pa_nil))) (by with_unfolding_all rfl))
  (pss_cons (ps_set (i := 4) sc__law_calc.nd rfl (by first | exact Or.inl rfl | exact Or.inr rfl) pe_int)
  (pss_cons (ps_for PassesOwn.never rfl (pi_range1 (by rfl) T.m_range (pa_cons (pe_op op_mod (pe_callTy call_int1 (by rfl) T.m_int (by decide +kernel) (pa_cons (pv 2) pa_nil)) pe_int) pa_nil)) (pg_name (i := 5) sc__law_calc.nd rfl (by first | exact Or.inl rfl | exact Or.inr rfl))
  (pss_one (ps_set (i := 4) sc__law_calc.nd rfl (by first | exact Or.inl rfl | exact Or.inr rfl) (pe_op op_mul (pv 4) pe_int))))
  (pss_one (ps_ret (pe_ifExp (pt_cmpR op_eq (pv 0) pe_str (nomark _)) (pe_op op_mod (pe_callTy call_int1 (by rfl) T.m_int (by decide +kernel) (pa_cons (pe_op op_mul (pv 1) (pv 4)) pa_nil)) pe_int) (pe_op op_fdivW (pv 1) (pv 4)))))))
  pss_nil)
  (pss_cons (ps_if (pt_cmpR op_in_seq (pv 0) (pe_tup (pa_cons pe_str (pa_cons pe_str (pa_cons pe_str (pa_cons pe_str pa_nil))))) (by with_unfolding_all rfl))
  (pss_cons (ps_set (i := 3) sc__law_calc.nd rfl (by first | exact Or.inl rfl | exact Or.inr rfl) pe_int)
  (pss_cons (ps_set (i := 4) sc__law_calc.nd rfl (by first | exact Or.inl rfl | exact Or.inr rfl) pe_int)
  (pss_cons (ps_for PassesOwn.never rfl (pi_range1 (by rfl) T.m_range (pa_cons pe_int pa_nil)) (pg_name (i := 5) sc__law_calc.nd rfl (by first | exact Or.inl rfl | exact Or.inr rfl))
  (pss_cons (ps_set (i := 6) sc__law_calc.nd rfl (by first | exact Or.inl rfl | exact Or.inr rfl) (pe_op op_mod (pe_callTy call_int1 (by rfl) T.m_int (by decide +kernel) (pa_cons (pe_op op_fdivW (pv 1) (pv 4)) pa_nil)) pe_int))
  (pss_cons (ps_set (i := 7) sc__law_calc.nd rfl (by first | exact Or.inl rfl | exact Or.inr rfl) (pe_op op_mod (pe_callTy call_int1 (by rfl) T.m_int (by decide +kernel) (pa_cons (pe_op op_fdivW (pv 2) (pv 4)) pa_nil)) pe_int))
  (pss_cons (ps_set (i := 8) sc__law_calc.nd rfl (by first | exact Or.inl rfl | exact Or.inr rfl) (pe_ifExp (pt_cmpR op_eq (pv 0) pe_str (nomark _)) (pe_op op_mul (pv 6) (pv 7)) (pe_ifExp (pt_cmpR op_eq (pv 0) pe_str (nomark _)) (pe_op op_sub (pe_op op_add (pv 6) (pv 7)) (pe_op op_mul (pv 6) (pv 7))) (pe_op op_sub (pe_op op_add (pv 6) (pv 7)) (pe_op op_mul (pe_op op_mul pe_int (pv 6)) (pv 7))))))
  (pss_cons (ps_set (i := 8) sc__law_calc.nd rfl (by first | exact Or.inl rfl | exact Or.inr rfl) (pe_ifExp (pt_cmpR op_eq (pv 0) pe_str (nomark _)) (pe_op op_mul (pe_op op_sub pe_int (pv 6)) (pe_op op_sub pe_int (pv 7))) (pv 8)))
  (pss_cons (ps_set (i := 3) sc__law_calc.nd rfl (by first | exact Or.inl rfl | exact Or.inr rfl) (pe_op op_add (pv 3) (pe_op op_mul (pv 8) (pv 4))))
  (pss_one (ps_set (i := 4) sc__law_calc.nd rfl (by first | exact Or.inl rfl | exact Or.inr rfl) (pe_op op_mul (pv 4) pe_int)))))))))
  (pss_one (ps_ret (pv 3))))))
  pss_nil)
  (pss_cons (ps_if (pt_cmpR op_in_seq (pv 0) (pe_tup (pa_cons pe_str (pa_cons pe_str pa_nil))) (by with_unfolding_all rfl))
  (pss_cons (ps_set (i := 1) sc__law_calc.nd rfl (by first | exact Or.inl rfl | exact Or.inr rfl) (pe_call (ok__law_sign T) (hr.mono (by decide)) (by rfl) T.g__law_sign T.F__law_sign.kp T.b__law_sign .nil pass0 (pa_cons (pv 1) pa_nil)))
  (pss_one (ps_set (i := 2) sc__law_calc.nd rfl (by first | exact Or.inl rfl | exact Or.inr rfl) (pe_call (ok__law_sign T) (hr.mono (by decide)) (by rfl) T.g__law_sign T.F__law_sign.kp T.b__law_sign .nil pass0 (pa_cons (pv 2) pa_nil)))))
  pss_nil)
  (pss_cons (ps_if (pt_cmpR op_in_seq (pv 0) (pe_tup (pa_cons pe_str (pa_cons pe_str pa_nil))) (by with_unfolding_all rfl))
  (pss_one (ps_ret (pe_callTy call_int1 (by rfl) T.m_int (by decide +kernel) (pa_cons (pe_cmpR op_lt (pv 1) (pv 2) (nomark _)) pa_nil))))
  pss_nil)
  (pss_cons (ps_if (pt_cmpR op_in_seq (pv 0) (pe_tup (pa_cons pe_str (pa_cons pe_str pa_nil))) (by with_unfolding_all rfl))
  (pss_one (ps_ret (pe_callTy call_int1 (by rfl) T.m_int (by decide +kernel) (pa_cons (pe_cmpR op_le (pv 1) (pv 2) (nomark _)) pa_nil))))
  pss_nil)
  (pss_one (ps_ret (pe_ifExp (pt_cmpR op_eq (pv 0) pe_str (nomark _)) (pe_callTy call_int1 (by rfl) T.m_int (by decide +kernel) (pa_cons (pe_cmpR op_eq (pv 1) (pv 2) (nomark _)) pa_nil)) (pe_callTy call_int1 (by rfl) T.m_int (by decide +kernel) (pa_cons (pe_cmpR op_ne (pv 1) (pv 2) (nomark _)) pa_nil)))))))))))), ?_⟩
    rw [show ∀ a0 a1 a2 : V, L2.start ["name", "a", "b", "value", "scale", "k", "x", "y", "bit"] [a0, a1, a2] = [some a0, some a1, some a2, none, none, none, none, none, none] from fun _ _ _ => rfl]
    have qv : ∀ v, calV op a b = v → ∀ H', Same H H' → Q (.int v) H' := fun v e H' s => e ▸ q H' s
    obtain ⟨a0, a1⟩ := id wa
    obtain ⟨b0, b1⟩ := id wb
    walk_at "my rn"
    intro p1 H1 n1 s1 g1
    refine Rd.inStrT ["add", "sub", "mul"] (SqT.of g1) ?_
    by_cases e1 : op ∈ (["add", "sub", "mul"] : List Str)
    · rw [decide_eq_true e1]
      walk_at "my rn"
      refine Rd.ifD (fun e => ?_) fun e => ?_
      · obtain rfl := V.str.inj e
        walk_at "my rn"
        exact qv _ (cal_add a b) _ s1
      · walk_at "my rn"
        refine Rd.ifD (fun e' => ?_) fun e' => ?_
        · obtain rfl := V.str.inj e'
          walk_at "my rn"
          exact qv _ (cal_sub a b) _ s1
        · have eo : op = "mul" := by
            simp only [List.mem_cons, List.mem_nil_iff, or_false] at e1
            rcases e1 with h | h | h
            · exact absurd (by rw [h]) e
            · exact absurd (by rw [h]) e'
            · exact h
          subst eo
          walk_at "my rn"
          refine Rd.I (.inl ⟨by omega, by omega⟩) ?_
          walk_at "my rn"
          exact qv _ (cal_mul a b) _ s1
    rw [decide_eq_false e1]
    walk_at "my rn"
    intro p2 H2 n2 s2 g2
    have s12 := s1.trans s2
    refine Rd.inStrT ["div", "mod"] (SqT.of g2) ?_
    by_cases e2 : op ∈ (["div", "mod"] : List Str)
    · rw [decide_eq_true e2]
      walk_at "my rn"
      refine Rd.ifD (fun eb => ?_) fun eb => ?_
      · have b00 : b = 0 := V.int.inj eb
        walk_at "my rn"
        refine Rd.ifD (fun e => ?_) fun e => ?_
        · obtain rfl := V.str.inj e
          walk_at "my rn"
          exact qv _ (by rw [cal_div, if_pos b00]) _ s12
        · have eo : op = "mod" := by
            simp only [List.mem_cons, List.mem_nil_iff, or_false] at e2
            rcases e2 with h | h
            · exact absurd (by rw [h]) e
            · exact h
          subst eo
          walk_at "my rn"
          exact qv _ (by rw [cal_mod, if_pos b00]) _ s12
      · have b01 : ¬ b = 0 := fun z => eb (by rw [z])
        have bp : 0 < b := by omega
        walk_at "my rn"
        refine Rd.ifD (fun e => ?_) fun e => ?_
        · obtain rfl := V.str.inj e
          walk_at "my rn"
          refine Rd.I ⟨bp, log_small b0 b1⟩ ?_
          walk_at "my rn"
          exact qv _ (by rw [cal_div, if_neg b01]) _ s12
        · have eo : op = "mod" := by
            simp only [List.mem_cons, List.mem_nil_iff, or_false] at e2
            rcases e2 with h | h
            · exact absurd (by rw [h]) e
            · exact h
          subst eo
          walk_at "my rn"
          exact qv _ (by rw [cal_mod, if_neg b01]) _ s12
    rw [decide_eq_false e2]
    walk_at "my rn"
    intro p3 H3 n3 s3 g3
    have s13 := s12.trans s3
    refine Rd.inStrT ["shl", "shr"] (SqT.of g3) ?_
    by_cases e3 : op ∈ (["shl", "shr"] : List Str)
    · rw [decide_eq_true e3]
      walk_at "my rn"
      have m0 := Int.emod_nonneg b (show (32 : Int) ≠ 0 by decide)
      have m1 := Int.emod_lt_of_pos b (show (0 : Int) < 32 by decide)
      refine ⟨by omega, by omega, for_it walk_range (fun k σ H' => ∃ y, σ = [some (.str op), some (.int a), some (.int b), none, some (.int (2 ^ k)), y, none, none, none] ∧ H' = H3) ⟨none, rfl, rfl⟩ (fun _ _ _ _ _ => trivial) ?_ ?_⟩
      · rintro k x σ Ho H' hk ⟨y, rfl, rfl⟩ yy
        have k32 : k < 32 := by have : k < (b % 32).toNat := hk; omega
        obtain ⟨rfl, e3⟩ := Rd.zr yy
        subst e3
        obtain ⟨p0, p1⟩ := pow_le32 (show k ≤ 32 by omega)
        walk_at "my rn"
        refine ⟨some (.int (k : Int)), ?_, rfl⟩
        rw [Int.pow_succ]
      · rintro σ H' ⟨y, rfl, rfl⟩
        have rl : (b % 32).toNat ≤ 32 := by omega
        obtain ⟨p0, p1⟩ := pow_le32 rl
        walk_at "my rn"
        refine Rd.ifD (fun e => ?_) fun e => ?_
        · obtain rfl := V.str.inj e
          walk_at "my rn"
          refine Rd.I (.inl ⟨by omega, by omega⟩) ?_
          walk_at "my rn"
          exact qv _ (cal_shl a b) _ s13
        · have eo : op = "shr" := by
            simp only [List.mem_cons, List.mem_nil_iff, or_false] at e3
            rcases e3 with h | h
            · exact absurd (by rw [h]) e
            · exact h
          subst eo
          walk_at "my rn"
          refine Rd.I ⟨p0, ?_⟩ ?_
          · exact Nat.lt_of_le_of_lt (Nat.le_of_eq (by rw [show ((2 : Int) ^ (b % 32).toNat).natAbs = 2 ^ (b % 32).toNat by rw [Int.natAbs_pow]; rfl, Nat.log2_two_pow])) (by omega)
          walk_at "my rn"
          exact qv _ (cal_shr a b) _ s13
    rw [decide_eq_false e3]
    walk_at "my rn"
    intro p4 H4 n4 s4 g4
    have s14 := s13.trans s4
    refine Rd.inStrT ["and", "or", "xor", "nor"] (SqT.of g4) ?_
    by_cases e4 : op ∈ (["and", "or", "xor", "nor"] : List Str)
    · rw [decide_eq_true e4]
      walk_at "my rn"
      obtain ⟨m, rfl⟩ := nat_of a0
      obtain ⟨n, rfl⟩ := nat_of b0
      simp only [List.mem_cons, List.mem_nil_iff, or_false] at e4
      rcases e4 with rfl | rfl | rfl | rfl
      · refine ⟨by decide, by decide, for_it walk_range (fun k σ H' => ∃ y5 y6 y7 y8, σ = [some (.str "and"), some (.int (m : Int)), some (.int (n : Int)), some (.int (tot "&" m n k)), some (.int (2 ^ k)), y5, y6, y7, y8] ∧ H' = H4) ⟨none, none, none, none, by rw [st_and_0]; rfl, rfl⟩ (fun _ _ _ _ _ => trivial) ?_ ?_⟩
        · rintro k x σ Ho H' hk ⟨y5, y6, y7, y8, rfl, rfl⟩ yy
          obtain ⟨rfl, e3⟩ := Rd.zr yy
          subst e3
          have k32 : k < 32 := hk
          obtain ⟨p0, p1⟩ := pow_le32 (show k ≤ 32 by omega)
          have lg := log_pow k32
          obtain ⟨sc, esc⟩ : ∃ sc, sc = (2 : Int) ^ k := ⟨_, rfl⟩
          rw [← esc] at p0 p1 lg
          rw [← esc]
          have c1 : CDivW (m : Int) sc := ⟨p0, lg⟩
          have c2 : CDivW (n : Int) sc := ⟨p0, lg⟩
          clear lg
          with_reducible refine Rd.n5 ?_
          with_reducible refine Rd.seq ?_
          with_reducible refine Rd.asg ?_
          with_reducible refine Rd.op ?_
          refine Rd.cb (Rd.cons (Rd.op ?_))
          refine Rd.vv (v := .int (m : Int)) rfl ?_
          refine Rd.vv (v := .int sc) rfl ?_
          refine Rd.I c1 ?_
          refine Rd.nil ?_
          refine .inl ⟨_, rfl, ?_⟩
          refine Rd.c_ ?_
          refine Rd.I (by decide) ?_
          have ex : (m : Int) / sc % 2 = ((m.testBit k).toNat : Nat) := by rw [esc]; exact bitK m k
          have ey : (n : Int) / sc % 2 = ((n.testBit k).toNat : Nat) := by rw [esc]; exact bitK n k
          rw [ex]
          obtain ⟨x, hx⟩ : ∃ x : Int, x = ((m.testBit k).toNat : Nat) := ⟨_, rfl⟩
          obtain ⟨y, hy⟩ : ∃ y : Int, y = ((n.testBit k).toNat : Nat) := ⟨_, rfl⟩
          have bx := bool01 (m.testBit k)
          have by_ := bool01 (n.testBit k)
          rw [← hx] at bx ⊢
          rw [← hy] at by_
          with_reducible refine Rd.n6 ?_
          with_reducible refine Rd.seq ?_
          with_reducible refine Rd.asg ?_
          with_reducible refine Rd.op ?_
          refine Rd.cb (Rd.cons (Rd.op ?_))
          refine Rd.vv (v := .int (n : Int)) rfl ?_
          refine Rd.vv (v := .int sc) rfl ?_
          refine Rd.I c2 ?_
          refine Rd.nil ?_
          refine .inl ⟨_, rfl, ?_⟩
          refine Rd.c_ ?_
          refine Rd.I (by decide) ?_
          rw [ey, ← hy]
          with_reducible refine Rd.n7 ?_
          have st := st_and m n k
          rw [← hx, ← hy, ← esc] at st
          have s2k : (2 : Int) ^ (k + 1) = sc * 2 := by rw [Int.pow_succ, esc]
          clear c1 c2 ex ey hx hy
          walk_at "my rn"
          rw [if_pos (decide_eq_true rfl)]
          walk_at "my rn"
          refine Rd.I (.inl ⟨by omega, by omega⟩) ?_
          walk_at "my rn"
          rw [if_neg (by decide +kernel)]
          walk_at "my rn"
          refine Rd.I (.inr ⟨by omega, by omega⟩) ?_
          walk_at "my rn"
          rw [st, s2k]
          exact ⟨_, _, _, _, rfl, rfl⟩
        · rintro σ H' ⟨y5, y6, y7, y8, rfl, rfl⟩
          walk_at "my rn"
          exact qv _ ((cal_and _ _).trans (tot_end "&" (by decide) wa.2 wb.2).symm) _ s14
      · refine ⟨by decide, by decide, for_it walk_range (fun k σ H' => ∃ y5 y6 y7 y8, σ = [some (.str "or"), some (.int (m : Int)), some (.int (n : Int)), some (.int (tot "|" m n k)), some (.int (2 ^ k)), y5, y6, y7, y8] ∧ H' = H4) ⟨none, none, none, none, by rw [st_or_0]; rfl, rfl⟩ (fun _ _ _ _ _ => trivial) ?_ ?_⟩
        · rintro k x σ Ho H' hk ⟨y5, y6, y7, y8, rfl, rfl⟩ yy
          obtain ⟨rfl, e3⟩ := Rd.zr yy
          subst e3
          have k32 : k < 32 := hk
          obtain ⟨p0, p1⟩ := pow_le32 (show k ≤ 32 by omega)
          have lg := log_pow k32
          obtain ⟨sc, esc⟩ : ∃ sc, sc = (2 : Int) ^ k := ⟨_, rfl⟩
          rw [← esc] at p0 p1 lg
          rw [← esc]
          have c1 : CDivW (m : Int) sc := ⟨p0, lg⟩
          have c2 : CDivW (n : Int) sc := ⟨p0, lg⟩
          clear lg
          with_reducible refine Rd.n5 ?_
          with_reducible refine Rd.seq ?_
          with_reducible refine Rd.asg ?_
          with_reducible refine Rd.op ?_
          refine Rd.cb (Rd.cons (Rd.op ?_))
          refine Rd.vv (v := .int (m : Int)) rfl ?_
          refine Rd.vv (v := .int sc) rfl ?_
          refine Rd.I c1 ?_
          refine Rd.nil ?_
          refine .inl ⟨_, rfl, ?_⟩
          refine Rd.c_ ?_
          refine Rd.I (by decide) ?_
          have ex : (m : Int) / sc % 2 = ((m.testBit k).toNat : Nat) := by rw [esc]; exact bitK m k
          have ey : (n : Int) / sc % 2 = ((n.testBit k).toNat : Nat) := by rw [esc]; exact bitK n k
          rw [ex]
          obtain ⟨x, hx⟩ : ∃ x : Int, x = ((m.testBit k).toNat : Nat) := ⟨_, rfl⟩
          obtain ⟨y, hy⟩ : ∃ y : Int, y = ((n.testBit k).toNat : Nat) := ⟨_, rfl⟩
          have bx := bool01 (m.testBit k)
          have by_ := bool01 (n.testBit k)
          rw [← hx] at bx ⊢
          rw [← hy] at by_
          with_reducible refine Rd.n6 ?_
          with_reducible refine Rd.seq ?_
          with_reducible refine Rd.asg ?_
          with_reducible refine Rd.op ?_
          refine Rd.cb (Rd.cons (Rd.op ?_))
          refine Rd.vv (v := .int (n : Int)) rfl ?_
          refine Rd.vv (v := .int sc) rfl ?_
          refine Rd.I c2 ?_
          refine Rd.nil ?_
          refine .inl ⟨_, rfl, ?_⟩
          refine Rd.c_ ?_
          refine Rd.I (by decide) ?_
          rw [ey, ← hy]
          with_reducible refine Rd.n7 ?_
          have st := st_or m n k
          rw [← hx, ← hy, ← esc] at st
          have s2k : (2 : Int) ^ (k + 1) = sc * 2 := by rw [Int.pow_succ, esc]
          clear c1 c2 ex ey hx hy
          walk_at "my rn"
          rw [if_neg (by decide +kernel)]
          walk_at "my rn"
          rw [if_pos (decide_eq_true rfl)]
          walk_at "my rn"
          refine Rd.I (.inl ⟨by omega, by omega⟩) ?_
          walk_at "my rn"
          rw [if_neg (by decide +kernel)]
          walk_at "my rn"
          refine Rd.I (.inr ⟨by omega, by omega⟩) ?_
          walk_at "my rn"
          rw [st, s2k]
          exact ⟨_, _, _, _, rfl, rfl⟩
        · rintro σ H' ⟨y5, y6, y7, y8, rfl, rfl⟩
          walk_at "my rn"
          exact qv _ ((cal_or _ _).trans (tot_end "|" (by decide) wa.2 wb.2).symm) _ s14
      · refine ⟨by decide, by decide, for_it walk_range (fun k σ H' => ∃ y5 y6 y7 y8, σ = [some (.str "xor"), some (.int (m : Int)), some (.int (n : Int)), some (.int (tot "^" m n k)), some (.int (2 ^ k)), y5, y6, y7, y8] ∧ H' = H4) ⟨none, none, none, none, by rw [st_xor_0]; rfl, rfl⟩ (fun _ _ _ _ _ => trivial) ?_ ?_⟩
        · rintro k x σ Ho H' hk ⟨y5, y6, y7, y8, rfl, rfl⟩ yy
          obtain ⟨rfl, e3⟩ := Rd.zr yy
          subst e3
          have k32 : k < 32 := hk
          obtain ⟨p0, p1⟩ := pow_le32 (show k ≤ 32 by omega)
          have lg := log_pow k32
          obtain ⟨sc, esc⟩ : ∃ sc, sc = (2 : Int) ^ k := ⟨_, rfl⟩
          rw [← esc] at p0 p1 lg
          rw [← esc]
          have c1 : CDivW (m : Int) sc := ⟨p0, lg⟩
          have c2 : CDivW (n : Int) sc := ⟨p0, lg⟩
          clear lg
          with_reducible refine Rd.n5 ?_
          with_reducible refine Rd.seq ?_
          with_reducible refine Rd.asg ?_
          with_reducible refine Rd.op ?_
          refine Rd.cb (Rd.cons (Rd.op ?_))
          refine Rd.vv (v := .int (m : Int)) rfl ?_
          refine Rd.vv (v := .int sc) rfl ?_
          refine Rd.I c1 ?_
          refine Rd.nil ?_
          refine .inl ⟨_, rfl, ?_⟩
          refine Rd.c_ ?_
          refine Rd.I (by decide) ?_
          have ex : (m : Int) / sc % 2 = ((m.testBit k).toNat : Nat) := by rw [esc]; exact bitK m k
          have ey : (n : Int) / sc % 2 = ((n.testBit k).toNat : Nat) := by rw [esc]; exact bitK n k
          rw [ex]
          obtain ⟨x, hx⟩ : ∃ x : Int, x = ((m.testBit k).toNat : Nat) := ⟨_, rfl⟩
          obtain ⟨y, hy⟩ : ∃ y : Int, y = ((n.testBit k).toNat : Nat) := ⟨_, rfl⟩
          have bx := bool01 (m.testBit k)
          have by_ := bool01 (n.testBit k)
          rw [← hx] at bx ⊢
          rw [← hy] at by_
          with_reducible refine Rd.n6 ?_
          with_reducible refine Rd.seq ?_
          with_reducible refine Rd.asg ?_
          with_reducible refine Rd.op ?_
          refine Rd.cb (Rd.cons (Rd.op ?_))
          refine Rd.vv (v := .int (n : Int)) rfl ?_
          refine Rd.vv (v := .int sc) rfl ?_
          refine Rd.I c2 ?_
          refine Rd.nil ?_
          refine .inl ⟨_, rfl, ?_⟩
          refine Rd.c_ ?_
          refine Rd.I (by decide) ?_
          rw [ey, ← hy]
          with_reducible refine Rd.n7 ?_
          have st := st_xor m n k
          rw [← hx, ← hy, ← esc] at st
          have s2k : (2 : Int) ^ (k + 1) = sc * 2 := by rw [Int.pow_succ, esc]
          clear c1 c2 ex ey hx hy
          walk_at "my rn"
          rw [if_neg (by decide +kernel)]
          walk_at "my rn"
          rw [if_neg (by decide +kernel)]
          walk_at "my rn"
          refine Rd.I (.inr ⟨by omega, by omega⟩) ?_
          walk_at "my rn"
          rw [if_neg (by decide +kernel)]
          walk_at "my rn"
          refine Rd.I (.inr ⟨by omega, by omega⟩) ?_
          walk_at "my rn"
          rw [st, s2k]
          exact ⟨_, _, _, _, rfl, rfl⟩
        · rintro σ H' ⟨y5, y6, y7, y8, rfl, rfl⟩
          walk_at "my rn"
          exact qv _ ((cal_xor _ _).trans (tot_end "^" (by decide) wa.2 wb.2).symm) _ s14
      · refine ⟨by decide, by decide, for_it walk_range (fun k σ H' => ∃ y5 y6 y7 y8, σ = [some (.str "nor"), some (.int (m : Int)), some (.int (n : Int)), some (.int (totN m n k)), some (.int (2 ^ k)), y5, y6, y7, y8] ∧ H' = H4) ⟨none, none, none, none, by rw [st_nor_0]; rfl, rfl⟩ (fun _ _ _ _ _ => trivial) ?_ ?_⟩
        · rintro k x σ Ho H' hk ⟨y5, y6, y7, y8, rfl, rfl⟩ yy
          obtain ⟨rfl, e3⟩ := Rd.zr yy
          subst e3
          have k32 : k < 32 := hk
          obtain ⟨p0, p1⟩ := pow_le32 (show k ≤ 32 by omega)
          have lg := log_pow k32
          obtain ⟨sc, esc⟩ : ∃ sc, sc = (2 : Int) ^ k := ⟨_, rfl⟩
          rw [← esc] at p0 p1 lg
          rw [← esc]
          have c1 : CDivW (m : Int) sc := ⟨p0, lg⟩
          have c2 : CDivW (n : Int) sc := ⟨p0, lg⟩
          clear lg
          with_reducible refine Rd.n5 ?_
          with_reducible refine Rd.seq ?_
          with_reducible refine Rd.asg ?_
          with_reducible refine Rd.op ?_
          refine Rd.cb (Rd.cons (Rd.op ?_))
          refine Rd.vv (v := .int (m : Int)) rfl ?_
          refine Rd.vv (v := .int sc) rfl ?_
          refine Rd.I c1 ?_
          refine Rd.nil ?_
          refine .inl ⟨_, rfl, ?_⟩
          refine Rd.c_ ?_
          refine Rd.I (by decide) ?_
          have ex : (m : Int) / sc % 2 = ((m.testBit k).toNat : Nat) := by rw [esc]; exact bitK m k
          have ey : (n : Int) / sc % 2 = ((n.testBit k).toNat : Nat) := by rw [esc]; exact bitK n k
          rw [ex]
          obtain ⟨x, hx⟩ : ∃ x : Int, x = ((m.testBit k).toNat : Nat) := ⟨_, rfl⟩
          obtain ⟨y, hy⟩ : ∃ y : Int, y = ((n.testBit k).toNat : Nat) := ⟨_, rfl⟩
          have bx := bool01 (m.testBit k)
          have by_ := bool01 (n.testBit k)
          rw [← hx] at bx ⊢
          rw [← hy] at by_
          with_reducible refine Rd.n6 ?_
          with_reducible refine Rd.seq ?_
          with_reducible refine Rd.asg ?_
          with_reducible refine Rd.op ?_
          refine Rd.cb (Rd.cons (Rd.op ?_))
          refine Rd.vv (v := .int (n : Int)) rfl ?_
          refine Rd.vv (v := .int sc) rfl ?_
          refine Rd.I c2 ?_
          refine Rd.nil ?_
          refine .inl ⟨_, rfl, ?_⟩
          refine Rd.c_ ?_
          refine Rd.I (by decide) ?_
          rw [ey, ← hy]
          with_reducible refine Rd.n7 ?_
          have st := st_nor m n k
          rw [← hx, ← hy, ← esc] at st
          have s2k : (2 : Int) ^ (k + 1) = sc * 2 := by rw [Int.pow_succ, esc]
          clear c1 c2 ex ey hx hy
          walk_at "my rn"
          rw [if_neg (by decide +kernel)]
          walk_at "my rn"
          rw [if_neg (by decide +kernel)]
          walk_at "my rn"
          refine Rd.I (.inr ⟨by omega, by omega⟩) ?_
          walk_at "my rn"
          rw [if_pos (decide_eq_true rfl)]
          walk_at "my rn"
          refine Rd.I (.inl ⟨by omega, by omega⟩) ?_
          walk_at "my rn"
          refine Rd.I (.inr ⟨by omega, by omega⟩) ?_
          walk_at "my rn"
          rw [st, s2k]
          exact ⟨_, _, _, _, rfl, rfl⟩
        · rintro σ H' ⟨y5, y6, y7, y8, rfl, rfl⟩
          walk_at "my rn"
          exact qv _ ((cal_nor _ _).trans (totN_end wa wb).symm) _ s14
    rw [decide_eq_false e4]
    walk_at "my rn"
    intro p5 H5 n5 s5 g5
    have s15 := s14.trans s5
    have oc : op ∈ (["ult", "ule", "slt", "sle", "eq", "ne"] : List Str) := by
      simp only [calcs, List.mem_cons, List.mem_nil_iff, or_false] at ho e1 e2 e3 e4 ⊢
      rcases ho with h | h | h | h | h | h | h | h | h | h | h | h | h | h | h | h | h <;> simp_all
    have qc := fun v (h : (if hld (opOf op) a b = true then (1 : Int) else 0) = v) => qv v ((cal_cmp oc a b).trans h)
    refine Rd.inStrT ["slt", "sle"] (SqT.of g5) ?_
    simp only [List.mem_cons, List.mem_nil_iff, or_false] at oc
    rcases oc with rfl | rfl | rfl | rfl | rfl | rfl
    · rw [decide_eq_false (by decide +kernel)]
      walk_at "my rn"
      intro p6 H6 n6 s6 g6
      refine Rd.inStrT ["ult", "slt"] (SqT.of g6) ?_
      rw [decide_eq_true (by decide +kernel)]
      walk_at "my rn"
      refine .inr ⟨_, rfl, ?_⟩
      walk_at "my rn"
      exact qc _ (by with_unfolding_all rfl) _ (s15.trans s6)
    · rw [decide_eq_false (by decide +kernel)]
      walk_at "my rn"
      intro p6 H6 n6 s6 g6
      refine Rd.inStrT ["ult", "slt"] (SqT.of g6) ?_
      rw [decide_eq_false (by decide +kernel)]
      walk_at "my rn"
      intro p7 H7 n7 s7 g7
      refine Rd.inStrT ["ule", "sle"] (SqT.of g7) ?_
      rw [decide_eq_true (by decide +kernel)]
      walk_at "my rn"
      refine .inr ⟨_, rfl, ?_⟩
      walk_at "my rn"
      exact qc _ (by with_unfolding_all rfl) _ ((s15.trans s6).trans s7)
    · rw [decide_eq_true (by decide +kernel)]
      walk_at "my rn"
      refine ⟨a, rfl, wa, ?_⟩
      walk_at "my rn"
      refine ⟨b, rfl, wb, ?_⟩
      walk_at "my rn"
      intro p6 H6 n6 s6 g6
      refine Rd.inStrT ["ult", "slt"] (SqT.of g6) ?_
      rw [decide_eq_true (by decide +kernel)]
      walk_at "my rn"
      refine .inr ⟨_, rfl, ?_⟩
      walk_at "my rn"
      exact qc _ (by with_unfolding_all rfl) _ (s15.trans s6)
    · rw [decide_eq_true (by decide +kernel)]
      walk_at "my rn"
      refine ⟨a, rfl, wa, ?_⟩
      walk_at "my rn"
      refine ⟨b, rfl, wb, ?_⟩
      walk_at "my rn"
      intro p6 H6 n6 s6 g6
      refine Rd.inStrT ["ult", "slt"] (SqT.of g6) ?_
      rw [decide_eq_false (by decide +kernel)]
      walk_at "my rn"
      intro p7 H7 n7 s7 g7
      refine Rd.inStrT ["ule", "sle"] (SqT.of g7) ?_
      rw [decide_eq_true (by decide +kernel)]
      walk_at "my rn"
      refine .inr ⟨_, rfl, ?_⟩
      walk_at "my rn"
      exact qc _ (by with_unfolding_all rfl) _ ((s15.trans s6).trans s7)
    · rw [decide_eq_false (by decide +kernel)]
      walk_at "my rn"
      intro p6 H6 n6 s6 g6
      refine Rd.inStrT ["ult", "slt"] (SqT.of g6) ?_
      rw [decide_eq_false (by decide +kernel)]
      walk_at "my rn"
      intro p7 H7 n7 s7 g7
      refine Rd.inStrT ["ule", "sle"] (SqT.of g7) ?_
      rw [decide_eq_false (by decide +kernel)]
      walk_at "my rn"
      rw [if_pos (decide_eq_true rfl)]
      walk_at "my rn"
      refine .inr ⟨_, rfl, ?_⟩
      walk_at "my rn"
      exact qc _ (by rw [dec_int]; with_unfolding_all rfl) _ ((s15.trans s6).trans s7)
    · rw [decide_eq_false (by decide +kernel)]
      walk_at "my rn"
      intro p6 H6 n6 s6 g6
      refine Rd.inStrT ["ult", "slt"] (SqT.of g6) ?_
      rw [decide_eq_false (by decide +kernel)]
      walk_at "my rn"
      intro p7 H7 n7 s7 g7
      refine Rd.inStrT ["ule", "sle"] (SqT.of g7) ?_
      rw [decide_eq_false (by decide +kernel)]
      walk_at "my rn"
      rw [if_neg (by decide +kernel)]
      walk_at "my rn"
      refine .inr ⟨_, rfl, ?_⟩
      walk_at "my rn"
      exact qc _ (by rw [dec_int, ← decide_not]; with_unfolding_all rfl) _ ((s15.trans s6).trans s7)
end


set_option Elab.async false
set_option linter.all false
set_option maxRecDepth 100000
set_option maxHeartbeats 1000000








section
variable {P : Program} {w : World} {K : PySem.W.Frag} {mg : Str → Option Value} {base : Heap}
def sp__law_move (K : PySem.W.Frag) : Sp := fun vs H Q _ => ∃ (t : Addr) (A : Mad) (m : Ms) (i : Ic), vs = [.ref t, .ref A.R, .ref A.D, .ref A.N, .ref A.I, .ref A.O] ∧ IcAt K H t i ∧ i.OkS ∧ MemS H A m ∧ MsW m ∧ (∀ l ∈ m.outs, l.length ≤ 1000) ∧
  ∀ H1, MemS H1 A (i.mv m) → (∀ b ∉ A.all, ∀ y, H b = some y → H1 b = some y) → Q .non H1
theorem ok__law_move (T : Top P w K mg) : FnOk P w K mg base CX0 3 T.a__law_move T.d__law_move ["instruction", "registers", "data", "counters", "words", "outputs"]  (sp__law_move K) := by
  refine T.F__law_move.ok sc__law_move (fun vs H Q E h => ?_) (fun cdv A outer s H vs Q E hr h => ?_)
  · obtain ⟨_, _, _, _, rfl, _⟩ := h
    rfl
  · obtain ⟨t, A, m, i, rfl, ht, ok, hm, mw, ho_, q⟩ := h
    refine ⟨_, (pss_cons (ps_set (i := 6) sc__law_move.nd rfl (by first | exact Or.inl rfl | exact Or.inr rfl) (pe_ix ix_tup (pv 0) pe_int (fun _ _ => rfl)))
  (pss_one (ps_if (pt_cmpR op_eq (pv 6) pe_str (nomark _))
  (pss_one (ps_expr (pe_call (ok__law_put T) (hr.mono (by decide)) (by rfl) T.g__law_put T.F__law_put.kp T.b__law_put .nil pass0 (pa_cons (pv 1) (pa_cons (pe_ix ix_tup (pv 0) pe_int (fun _ _ => rfl)) (pa_cons (pe_op op_mod (pe_callTy call_int1 (by rfl) T.m_int (by decide +kernel) (pa_cons (pe_ix ix_tup (pv 0) pe_int (fun _ _ => rfl)) pa_nil)) pe_int) pa_nil))))))
  (pss_one (ps_if (pt_cmpR op_eq (pv 6) pe_str (nomark _))
  (pss_cons (ps_set (i := 7) sc__law_move.nd rfl (by first | exact Or.inl rfl | exact Or.inr rfl) (pe_op op_mod (pe_callTy call_int1 (by rfl) T.m_int (by decide +kernel) (pa_cons (pe_ix ix_list (pv 1) (pe_ix ix_tup (pv 0) pe_int (fun _ _ => rfl)) (fun _ _ => rfl)) pa_nil)) pe_int))
  (pss_one (ps_expr (pe_call (ok__law_put T) (hr.mono (by decide)) (by rfl) T.g__law_put T.F__law_put.kp T.b__law_put .nil pass0 (pa_cons (pv 1) (pa_cons (pe_ix ix_tup (pv 0) pe_int (fun _ _ => rfl)) (pa_cons (pe_op op_add (pe_op op_mul (pe_ix ix_tup (pv 0) pe_int (fun _ _ => rfl)) pe_int) (pv 7)) pa_nil)))))))
  (pss_one (ps_if (pt_cmpR op_eq (pv 6) pe_str (nomark _))
  (pss_cons (ps_set (i := 8) sc__law_move.nd rfl (by first | exact Or.inl rfl | exact Or.inr rfl) (pe_call (ok__law_calc T) (hr.mono (by decide)) (by rfl) T.g__law_calc T.F__law_calc.kp T.b__law_calc .nil pass0 (pa_cons (pe_ix ix_tup (pv 0) pe_int (fun _ _ => rfl)) (pa_cons (pe_ix ix_list (pv 1) (pe_ix ix_tup (pv 0) pe_int (fun _ _ => rfl)) (fun _ _ => rfl)) (pa_cons (pe_ix ix_list (pv 1) (pe_ix ix_tup (pv 0) pe_int (fun _ _ => rfl)) (fun _ _ => rfl)) pa_nil)))))
  (pss_one (ps_expr (pe_call (ok__law_put T) (hr.mono (by decide)) (by rfl) T.g__law_put T.F__law_put.kp T.b__law_put .nil pass0 (pa_cons (pv 1) (pa_cons (pe_ix ix_tup (pv 0) pe_int (fun _ _ => rfl)) (pa_cons (pv 8) pa_nil)))))))
  (pss_one (ps_if (pt_cmpR op_in_seq (pv 6) (pe_tup (pa_cons pe_str (pa_cons pe_str (pa_cons pe_str (pa_cons pe_str pa_nil))))) (by with_unfolding_all rfl))
  (pss_cons (ps_set (i := 9) sc__law_move.nd rfl (by first | exact Or.inl rfl | exact Or.inr rfl) (pe_ix ix_tup (pv 0) pe_int (fun _ _ => rfl)))
  (pss_cons (ps_if (pt_cmpR op_in_seq (pv 6) (pe_tup (pa_cons pe_str (pa_cons pe_str pa_nil))) (by with_unfolding_all rfl))
  (pss_one (ps_set (i := 9) sc__law_move.nd rfl (by first | exact Or.inl rfl | exact Or.inr rfl) (pe_op op_add (pe_ix ix_tup (pv 0) pe_int (fun _ _ => rfl)) (pe_op op_mod (pe_callTy call_int1 (by rfl) T.m_int (by decide +kernel) (pa_cons (pe_ix ix_list (pv 1) (pe_ix ix_tup (pv 0) pe_int (fun _ _ => rfl)) (fun _ _ => rfl)) pa_nil)) (pe_ix ix_tup (pv 0) pe_int (fun _ _ => rfl))))))
  pss_nil)
  (pss_one (ps_if (pt_cmpR op_in_seq (pv 6) (pe_tup (pa_cons pe_str (pa_cons pe_str pa_nil))) (by with_unfolding_all rfl))
  (pss_one (ps_expr (pe_call (ok__law_put T) (hr.mono (by decide)) (by rfl) T.g__law_put T.F__law_put.kp T.b__law_put .nil pass0 (pa_cons (pv 1) (pa_cons (pe_ix ix_tup (pv 0) pe_int (fun _ _ => rfl)) (pa_cons (pe_ix ix_list (pv 2) (pv 9) (fun _ _ => rfl)) pa_nil))))))
  (pss_one (ps_asg (pe_ix ix_list (pv 1) (pe_ix ix_tup (pv 0) pe_int (fun _ _ => rfl)) (fun _ _ => rfl)) (pg_sub (pv 2) (pv 9) set_list)))))))
  (pss_one (ps_if (pt_cmpR op_eq (pv 6) pe_str (nomark _))
  (pss_one (ps_asg (pe_ix ix_tup (pv 0) pe_int (fun _ _ => rfl)) (pg_sub (pv 3) (pe_ix ix_tup (pv 0) pe_int (fun _ _ => rfl)) set_list)))
  (pss_one (ps_if (pt_cmpR op_eq (pv 6) pe_str (nomark _))
  (pss_cons (ps_set (i := 10) sc__law_move.nd rfl (by first | exact Or.inl rfl | exact Or.inr rfl) (pe_ix ix_list (pv 4) (pe_ix ix_tup (pv 0) pe_int (fun _ _ => rfl)) (fun _ _ => rfl)))
  (pss_one (ps_expr (pe_call (ok__law_put T) (hr.mono (by decide)) (by rfl) T.g__law_put T.F__law_put.kp T.b__law_put .nil pass0 (pa_cons (pv 1) (pa_cons (pe_ix ix_tup (pv 0) pe_int (fun _ _ => rfl)) (pa_cons (pe_ifExp (pt_cmpR op_gt (pe_callB call_len_seq (by rfl) T.m_len PySem.boot_len (pa_cons (pv 10) pa_nil)) pe_int (nomark _)) (pe_bm PySem.F.plainAttrs_list PySem.F.slot_list_pop PySem.F.type_list_pop mt_popAt (pv 10) (pa_cons pe_int pa_nil)) pe_int) pa_nil)))))))
  (pss_one (ps_if (pt_cmpR op_eq (pv 6) pe_str (nomark _))
  (pss_cons (ps_set (i := 10) sc__law_move.nd rfl (by first | exact Or.inl rfl | exact Or.inr rfl) (pe_ix ix_list (pv 5) (pe_ix ix_tup (pv 0) pe_int (fun _ _ => rfl)) (fun _ _ => rfl)))
  (pss_one (ps_expr (pe_bm PySem.F.plainAttrs_list PySem.F.slot_list_append PySem.F.type_list_append mt_append (pv 10) (pa_cons (pe_ix ix_list (pv 1) (pe_ix ix_tup (pv 0) pe_int (fun _ _ => rfl)) (fun _ _ => rfl)) pa_nil)))))
  pss_nil))))))))))))))), ?_⟩
    rw [show ∀ a0 a1 a2 a3 a4 a5 : V, L2.start ["instruction", "registers", "data", "counters", "words", "outputs", "name", "low", "word", "a", "row"] [a0, a1, a2, a3, a4, a5] = [some a0, some a1, some a2, some a3, some a4, some a5, none, none, none, none, none] from fun _ _ _ _ _ _ => rfl]
    cases i
    case set r n =>
      have ht' : SqT K H t [.str "set", nI r, .int n] := ht
      walk_at "my rn"
      rw [decide_eq_true rfl]
      refine Rd.ifT ?_
      walk_at "my rn"
      have ok_ : r < 9 := ok
      refine ⟨A, m, r, _, rfl, hm, ok_, fun H9 hm9 t9 => ?_⟩
      walk_at "my rn"
      exact q H9 hm9 fun b nb y e => t9 b y (fun z => nb (by rw [List.mem_singleton.mp z]; exact isAll.1)) e
    case high r n =>
      have ht' : SqT K H t [.str "high", nI r, .int n] := ht
      walk_at "my rn"
      rw [decide_eq_false (by decide +kernel)]
      refine Rd.ifF ?_
      walk_at "my rn"
      rw [decide_eq_true rfl]
      refine Rd.ifT ?_
      walk_at "my rn"
      have ok_ : r < 9 := ok.1
      refine Rd.ixL hm.hR (hm.ixR ok_) ?_
      walk_at "my rn"
      rw [Int.add_comm (n * 65536)]
      refine ⟨A, m, r, _, rfl, hm, ok_, fun H9 hm9 t9 => ?_⟩
      walk_at "my rn"
      exact q H9 hm9 fun b nb y e => t9 b y (fun z => nb (by rw [List.mem_singleton.mp z]; exact isAll.1)) e
    case cal op r s t2 =>
      have ht' : SqT K H t [.str "calc", .str op, nI r, nI s, nI t2] := ht
      walk_at "my rn"
      rw [decide_eq_false (by decide +kernel)]
      refine Rd.ifF ?_
      walk_at "my rn"
      rw [decide_eq_false (by decide +kernel)]
      refine Rd.ifF ?_
      walk_at "my rn"
      rw [decide_eq_true rfl]
      refine Rd.ifT ?_
      walk_at "my rn"
      have ok_ : r < 9 := ok.2.1
      refine Rd.ixL hm.hR (hm.ixR ok.2.2.1) ?_
      walk_at "my rn"
      refine Rd.ixL hm.hR (hm.ixR ok.2.2.2) ?_
      walk_at "my rn"
      refine ⟨op, _, _, rfl, ok.1, mw.reg _, mw.reg _, fun H2 s2 => ?_⟩
      have hm2 := hm.keep fun a _ x e => s2 _ _ e
      have ht2 := s2.seqT ht'
      walk_at "my rn"
      refine ⟨A, m, r, _, rfl, hm2, ok_, fun H9 hm9 t9 => ?_⟩
      walk_at "my rn"
      exact q H9 hm9 fun b nb y e => t9 b y (fun z => nb (by rw [List.mem_singleton.mp z]; exact isAll.1)) (s2 _ _ e)
    case load r a =>
      have ht' : SqT K H t [.str "load", nI r, nI a] := ht
      walk_at "my rn"
      rw [decide_eq_false (by decide +kernel)]
      refine Rd.ifF ?_
      walk_at "my rn"
      rw [decide_eq_false (by decide +kernel)]
      refine Rd.ifF ?_
      walk_at "my rn"
      rw [decide_eq_false (by decide +kernel)]
      refine Rd.ifF ?_
      walk_at "my rn"
      intro p1 H1 n1 s1 g1
      have hm := hm.keep fun a _ x e => s1 _ _ e
      have ht' := s1.seqT ht'
      refine Rd.inStrT ["load", "loadx", "store", "storex"] (SqT.of g1) ?_
      rw [decide_eq_true (by decide +kernel)]
      walk_at "my rn"
      have al : a < 32 := ok.2
      intro p2 H2 n2 s2 g2
      have hm := hm.keep fun a _ x e => s2 _ _ e
      have ht' := s2.seqT ht'
      refine Rd.inStrT ["loadx", "storex"] (SqT.of g2) ?_
      rw [decide_eq_false (by decide +kernel)]
      walk_at "my rn"
      intro p3 H3 n3 s3 g3
      have hm := hm.keep fun a _ x e => s3 _ _ e
      have ht' := s3.seqT ht'
      refine Rd.inStrT ["load", "loadx"] (SqT.of g3) ?_
      rw [decide_eq_true (by decide +kernel)]
      walk_at "my rn"
      have ok_ : r < 9 := ok.1
      refine Rd.ixL hm.hD (Rd.at_int rfl (hm.dataAt al)) ?_
      walk_at "my rn"
      refine ⟨A, m, r, _, rfl, hm, ok_, fun H9 hm9 t9 => ?_⟩
      walk_at "my rn"
      exact q H9 hm9 fun b nb y e => t9 b y (fun z => nb (by rw [List.mem_singleton.mp z]; exact isAll.1)) (s3 _ _ (s2 _ _ (s1 _ _ e)))
    case store r a =>
      have ht' : SqT K H t [.str "store", nI r, nI a] := ht
      walk_at "my rn"
      rw [decide_eq_false (by decide +kernel)]
      refine Rd.ifF ?_
      walk_at "my rn"
      rw [decide_eq_false (by decide +kernel)]
      refine Rd.ifF ?_
      walk_at "my rn"
      rw [decide_eq_false (by decide +kernel)]
      refine Rd.ifF ?_
      walk_at "my rn"
      intro p1 H1 n1 s1 g1
      have hm := hm.keep fun a _ x e => s1 _ _ e
      have ht' := s1.seqT ht'
      refine Rd.inStrT ["load", "loadx", "store", "storex"] (SqT.of g1) ?_
      rw [decide_eq_true (by decide +kernel)]
      walk_at "my rn"
      have al : a < 32 := ok.2
      intro p2 H2 n2 s2 g2
      have hm := hm.keep fun a _ x e => s2 _ _ e
      have ht' := s2.seqT ht'
      refine Rd.inStrT ["loadx", "storex"] (SqT.of g2) ?_
      rw [decide_eq_false (by decide +kernel)]
      walk_at "my rn"
      intro p3 H3 n3 s3 g3
      have hm := hm.keep fun a _ x e => s3 _ _ e
      have ht' := s3.seqT ht'
      refine Rd.inStrT ["load", "loadx"] (SqT.of g3) ?_
      rw [decide_eq_false (by decide +kernel)]
      walk_at "my rn"
      have al2 : a < m.data.length := by rw [hm.lD]; exact al
      refine Rd.ixL hm.hR (hm.ixR ok.1) ?_
      walk_at "my rn"
      refine Rd.setL (j := a) hm.hD (Evl.ixN_nat (by rw [List.length_map]; exact al2)) ?_
      rw [← List.map_set]
      exact q _ (hm.setD (by rw [List.length_set]; exact hm.lD)) fun b nb y e => by rw [upd_ne (fun w => nb (by rw [w]; exact isAll.2.1))]; exact s3 _ _ (s2 _ _ (s1 _ _ e))
    case loadx r s a n =>
      have ht' : SqT K H t [.str "loadx", nI r, nI s, nI a, nI n] := ht
      walk_at "my rn"
      rw [decide_eq_false (by decide +kernel)]
      refine Rd.ifF ?_
      walk_at "my rn"
      rw [decide_eq_false (by decide +kernel)]
      refine Rd.ifF ?_
      walk_at "my rn"
      rw [decide_eq_false (by decide +kernel)]
      refine Rd.ifF ?_
      walk_at "my rn"
      intro p1 H1 n1 s1 g1
      have hm := hm.keep fun a _ x e => s1 _ _ e
      have ht' := s1.seqT ht'
      refine Rd.inStrT ["load", "loadx", "store", "storex"] (SqT.of g1) ?_
      rw [decide_eq_true (by decide +kernel)]
      walk_at "my rn"
      intro p2 H2 n2 s2 g2
      have hm := hm.keep fun a _ x e => s2 _ _ e
      have ht' := s2.seqT ht'
      refine Rd.inStrT ["loadx", "storex"] (SqT.of g2) ?_
      rw [decide_eq_true (by decide +kernel)]
      walk_at "my rn"
      refine Rd.ixL hm.hR (hm.ixR ok.2.1) ?_
      walk_at "my rn"
      have np : (0 : Int) < (n : Int) := by have := ok.2.2.1; omega
      have al : (Ic.loadx r s a n).addr m < 32 := addr_ltS ok rfl
      have ea : (a : Int) + m.reg s % (n : Int) = (((Ic.loadx r s a n).addr m : Nat) : Int) := by
        have := Int.emod_nonneg (m.reg s) (show (n : Int) ≠ 0 by omega)
        show _ = ((a + (m.reg s % (n : Int)).toNat : Nat) : Int)
        omega
      refine Rd.I np ?_
      walk_at "my rn"
      intro p3 H3 n3 s3 g3
      have hm := hm.keep fun a _ x e => s3 _ _ e
      have ht' := s3.seqT ht'
      refine Rd.inStrT ["load", "loadx"] (SqT.of g3) ?_
      rw [decide_eq_true (by decide +kernel)]
      walk_at "my rn"
      have ok_ : r < 9 := ok.1
      refine Rd.ixL hm.hD (Rd.at_int ea (hm.dataAt al)) ?_
      walk_at "my rn"
      refine ⟨A, m, r, _, rfl, hm, ok_, fun H9 hm9 t9 => ?_⟩
      walk_at "my rn"
      exact q H9 hm9 fun b nb y e => t9 b y (fun z => nb (by rw [List.mem_singleton.mp z]; exact isAll.1)) (s3 _ _ (s2 _ _ (s1 _ _ e)))
    case storex r s a n =>
      have ht' : SqT K H t [.str "storex", nI r, nI s, nI a, nI n] := ht
      walk_at "my rn"
      rw [decide_eq_false (by decide +kernel)]
      refine Rd.ifF ?_
      walk_at "my rn"
      rw [decide_eq_false (by decide +kernel)]
      refine Rd.ifF ?_
      walk_at "my rn"
      rw [decide_eq_false (by decide +kernel)]
      refine Rd.ifF ?_
      walk_at "my rn"
      intro p1 H1 n1 s1 g1
      have hm := hm.keep fun a _ x e => s1 _ _ e
      have ht' := s1.seqT ht'
      refine Rd.inStrT ["load", "loadx", "store", "storex"] (SqT.of g1) ?_
      rw [decide_eq_true (by decide +kernel)]
      walk_at "my rn"
      intro p2 H2 n2 s2 g2
      have hm := hm.keep fun a _ x e => s2 _ _ e
      have ht' := s2.seqT ht'
      refine Rd.inStrT ["loadx", "storex"] (SqT.of g2) ?_
      rw [decide_eq_true (by decide +kernel)]
      walk_at "my rn"
      refine Rd.ixL hm.hR (hm.ixR ok.2.1) ?_
      walk_at "my rn"
      have np : (0 : Int) < (n : Int) := by have := ok.2.2.1; omega
      have al : (Ic.storex r s a n).addr m < 32 := addr_ltS ok rfl
      have ea : (a : Int) + m.reg s % (n : Int) = (((Ic.storex r s a n).addr m : Nat) : Int) := by
        have := Int.emod_nonneg (m.reg s) (show (n : Int) ≠ 0 by omega)
        show _ = ((a + (m.reg s % (n : Int)).toNat : Nat) : Int)
        omega
      refine Rd.I np ?_
      walk_at "my rn"
      intro p3 H3 n3 s3 g3
      have hm := hm.keep fun a _ x e => s3 _ _ e
      have ht' := s3.seqT ht'
      refine Rd.inStrT ["load", "loadx"] (SqT.of g3) ?_
      rw [decide_eq_false (by decide +kernel)]
      walk_at "my rn"
      have al2 : (Ic.storex r s a n).addr m < m.data.length := by rw [hm.lD]; exact al
      refine Rd.ixL hm.hR (hm.ixR ok.1) ?_
      walk_at "my rn"
      refine Rd.setL (j := (Ic.storex r s a n).addr m) hm.hD (by rw [ea]; exact Evl.ixN_nat (by rw [List.length_map]; exact al2)) ?_
      rw [← List.map_set]
      exact q _ (hm.setD (by rw [List.length_set]; exact hm.lD)) fun b nb y e => by rw [upd_ne (fun w => nb (by rw [w]; exact isAll.2.1))]; exact s3 _ _ (s2 _ _ (s1 _ _ e))
    case count c n =>
      have ht' : SqT K H t [.str "count", nI c, .int n] := ht
      walk_at "my rn"
      rw [decide_eq_false (by decide +kernel)]
      refine Rd.ifF ?_
      walk_at "my rn"
      rw [decide_eq_false (by decide +kernel)]
      refine Rd.ifF ?_
      walk_at "my rn"
      rw [decide_eq_false (by decide +kernel)]
      refine Rd.ifF ?_
      walk_at "my rn"
      intro p1 H1 n1 s1 g1
      have hm := hm.keep fun a _ x e => s1 _ _ e
      have ht' := s1.seqT ht'
      refine Rd.inStrT ["load", "loadx", "store", "storex"] (SqT.of g1) ?_
      rw [decide_eq_false (by decide +kernel)]
      walk_at "my rn"
      rw [decide_eq_true rfl]
      refine Rd.ifT ?_
      walk_at "my rn"
      have cl : c < m.ctrs.length := by rw [hm.lN]; exact ok.1
      refine Rd.setL (j := c) hm.hN (Evl.ixN_nat (by rw [List.length_map]; exact cl)) ?_
      rw [← List.map_set]
      exact q _ (hm.setN (by rw [List.length_set]; exact hm.lN)) fun b nb y e => by rw [upd_ne (fun w => nb (by rw [w]; exact isAll.2.2.1))]; exact s1 _ _ e
    case inp r p =>
      have ht' : SqT K H t [.str "in", nI r, nI p] := ht
      walk_at "my rn"
      rw [decide_eq_false (by decide +kernel)]
      refine Rd.ifF ?_
      walk_at "my rn"
      rw [decide_eq_false (by decide +kernel)]
      refine Rd.ifF ?_
      walk_at "my rn"
      rw [decide_eq_false (by decide +kernel)]
      refine Rd.ifF ?_
      walk_at "my rn"
      intro p1 H1 n1 s1 g1
      have hm := hm.keep fun a _ x e => s1 _ _ e
      have ht' := s1.seqT ht'
      refine Rd.inStrT ["load", "loadx", "store", "storex"] (SqT.of g1) ?_
      rw [decide_eq_false (by decide +kernel)]
      walk_at "my rn"
      rw [decide_eq_false (by decide +kernel)]
      refine Rd.ifF ?_
      walk_at "my rn"
      rw [decide_eq_true rfl]
      refine Rd.ifT ?_
      walk_at "my rn"
      obtain ⟨b, row, e1, e2, hb⟩ := hm.isAt ok.2
      refine Rd.ixL hm.hI (v := .ref b) (Rd.at_val rfl (by rw [List.getElem?_map, e1]; rfl)) ?_
      walk_at "my rn"
      have ok_ : r < 9 := ok.1
      have q' : ∀ H1, MemS H1 A ((m.take p).2.put r (m.take p).1) → (∀ b ∉ A.all, ∀ y, H b = some y → H1 b = some y) → Q .non H1 := q
      unfold Ms.take at q'
      rw [e2] at q'
      cases row with
      | nil =>
        rw [decide_eq_false (by decide)]
        refine Rd.ifF ?_
        walk_at "my rn"
        refine ⟨A, m, r, _, rfl, hm, ok_, fun H9 hm9 t9 => ?_⟩
        walk_at "my rn"
        exact q' H9 hm9 fun b nb y e => t9 b y (fun z => nb (by rw [List.mem_singleton.mp z]; exact isAll.1)) (s1 _ _ e)
      | cons x row =>
        rw [decide_eq_true (by simp)]
        refine Rd.ifT ?_
        walk_at "my rn"
        refine ⟨b, _, 0, 0, .int x, rfl, rfl, hb, by decide, by decide, by unfold seqIndex?; simp, rfl, ?_⟩
        have hm2 := hm.setI e1 (rs := row)
        have ht2 : SqT K (upd H1 b (.lst (row.map V.int))) t [.str "in", nI r, nI p] := sqT_touch (ls := A.is) (fun z y nz e => by rw [upd_ne (fun w => nz (by rw [w]; exact List.mem_of_getElem? e1))]; exact e) ht' fun a ha => hm.isList (isAll.2.2.2.1 a ha)
        walk_at "my rn"
        refine ⟨A, _, r, _, rfl, hm2, ok_, fun H9 hm9 t9 => ?_⟩
        walk_at "my rn"
        exact q' H9 hm9 fun b' nb y e => t9 b' y (fun z => nb (by rw [List.mem_singleton.mp z]; exact isAll.1)) (by rw [upd_ne (fun w => nb (by rw [w]; exact isAll.2.2.2.1 _ (List.mem_of_getElem? e1)))]; exact s1 _ _ e)
    case outp r p =>
      have ht' : SqT K H t [.str "out", nI r, nI p] := ht
      walk_at "my rn"
      rw [decide_eq_false (by decide +kernel)]
      refine Rd.ifF ?_
      walk_at "my rn"
      rw [decide_eq_false (by decide +kernel)]
      refine Rd.ifF ?_
      walk_at "my rn"
      rw [decide_eq_false (by decide +kernel)]
      refine Rd.ifF ?_
      walk_at "my rn"
      intro p1 H1 n1 s1 g1
      have hm := hm.keep fun a _ x e => s1 _ _ e
      have ht' := s1.seqT ht'
      refine Rd.inStrT ["load", "loadx", "store", "storex"] (SqT.of g1) ?_
      rw [decide_eq_false (by decide +kernel)]
      walk_at "my rn"
      rw [decide_eq_false (by decide +kernel)]
      refine Rd.ifF ?_
      walk_at "my rn"
      rw [decide_eq_false (by decide +kernel)]
      refine Rd.ifF ?_
      walk_at "my rn"
      rw [decide_eq_true rfl]
      refine Rd.ifT ?_
      walk_at "my rn"
      obtain ⟨lb, lr, e1, e2, hl⟩ := hm.osAt (q := p) ok.2
      have q' : ∀ H1, MemS H1 A { m with outs := m.outs.set p (lr ++ [m.reg r]) } → (∀ b ∉ A.all, ∀ y, H b = some y → H1 b = some y) → Q .non H1 := by
        have z : (Ic.outp r p).mv m = { m with outs := m.outs.set p (lr ++ [m.reg r]) } := by show ({ m with outs := m.outs.set p (((m.outs[p]?).getD []) ++ [m.reg r]) } : Ms) = _; rw [e2]; rfl
        rw [z] at q
        exact q
      refine Rd.ixL hm.hO (v := .ref lb) (Rd.at_val rfl (by rw [List.getElem?_map, e1]; rfl)) ?_
      walk_at "my rn"
      refine Rd.ixL hm.hR (hm.ixR ok.1) ?_
      walk_at "my rn"
      refine Rd.app hl (by rw [List.length_map]; have := ho_ lr (List.mem_of_getElem? e2); exact Rd.szl (by omega)) ?_
      rw [show lr.map V.int ++ [V.int (m.reg r)] = (lr ++ [m.reg r]).map V.int by simp]
      walk_at "my rn"
      exact q' _ (hm.setO e1) fun b nb y e => by rw [upd_ne (fun w => nb (by rw [w]; exact isAll.2.2.2.2 _ (List.mem_of_getElem? e1)))]; exact s1 _ _ e
    case jump p =>
      have ht' : SqT K H t [.str "jump", .int p] := ht
      walk_at "my rn"
      rw [decide_eq_false (by decide +kernel)]
      refine Rd.ifF ?_
      walk_at "my rn"
      rw [decide_eq_false (by decide +kernel)]
      refine Rd.ifF ?_
      walk_at "my rn"
      rw [decide_eq_false (by decide +kernel)]
      refine Rd.ifF ?_
      walk_at "my rn"
      intro p1 H1 n1 s1 g1
      have hm := hm.keep fun a _ x e => s1 _ _ e
      have ht' := s1.seqT ht'
      refine Rd.inStrT ["load", "loadx", "store", "storex"] (SqT.of g1) ?_
      rw [decide_eq_false (by decide +kernel)]
      walk_at "my rn"
      rw [decide_eq_false (by decide +kernel)]
      refine Rd.ifF ?_
      walk_at "my rn"
      rw [decide_eq_false (by decide +kernel)]
      refine Rd.ifF ?_
      walk_at "my rn"
      rw [decide_eq_false (by decide +kernel)]
      refine Rd.ifF ?_
      walk_at "my rn"
      exact q _ hm fun b _ y e => s1 _ _ e
    case jzero r p =>
      have ht' : SqT K H t [.str "jzero", nI r, .int p] := ht
      walk_at "my rn"
      rw [decide_eq_false (by decide +kernel)]
      refine Rd.ifF ?_
      walk_at "my rn"
      rw [decide_eq_false (by decide +kernel)]
      refine Rd.ifF ?_
      walk_at "my rn"
      rw [decide_eq_false (by decide +kernel)]
      refine Rd.ifF ?_
      walk_at "my rn"
      intro p1 H1 n1 s1 g1
      have hm := hm.keep fun a _ x e => s1 _ _ e
      have ht' := s1.seqT ht'
      refine Rd.inStrT ["load", "loadx", "store", "storex"] (SqT.of g1) ?_
      rw [decide_eq_false (by decide +kernel)]
      walk_at "my rn"
      rw [decide_eq_false (by decide +kernel)]
      refine Rd.ifF ?_
      walk_at "my rn"
      rw [decide_eq_false (by decide +kernel)]
      refine Rd.ifF ?_
      walk_at "my rn"
      rw [decide_eq_false (by decide +kernel)]
      refine Rd.ifF ?_
      walk_at "my rn"
      exact q _ hm fun b _ y e => s1 _ _ e
    case again c p =>
      have ht' : SqT K H t [.str "again", nI c, .int p] := ht
      walk_at "my rn"
      rw [decide_eq_false (by decide +kernel)]
      refine Rd.ifF ?_
      walk_at "my rn"
      rw [decide_eq_false (by decide +kernel)]
      refine Rd.ifF ?_
      walk_at "my rn"
      rw [decide_eq_false (by decide +kernel)]
      refine Rd.ifF ?_
      walk_at "my rn"
      intro p1 H1 n1 s1 g1
      have hm := hm.keep fun a _ x e => s1 _ _ e
      have ht' := s1.seqT ht'
      refine Rd.inStrT ["load", "loadx", "store", "storex"] (SqT.of g1) ?_
      rw [decide_eq_false (by decide +kernel)]
      walk_at "my rn"
      rw [decide_eq_false (by decide +kernel)]
      refine Rd.ifF ?_
      walk_at "my rn"
      rw [decide_eq_false (by decide +kernel)]
      refine Rd.ifF ?_
      walk_at "my rn"
      rw [decide_eq_false (by decide +kernel)]
      refine Rd.ifF ?_
      walk_at "my rn"
      exact q _ hm fun b _ y e => s1 _ _ e
    case link p =>
      have ht' : SqT K H t [.str "link", .int p] := ht
      walk_at "my rn"
      rw [decide_eq_false (by decide +kernel)]
      refine Rd.ifF ?_
      walk_at "my rn"
      rw [decide_eq_false (by decide +kernel)]
      refine Rd.ifF ?_
      walk_at "my rn"
      rw [decide_eq_false (by decide +kernel)]
      refine Rd.ifF ?_
      walk_at "my rn"
      intro p1 H1 n1 s1 g1
      have hm := hm.keep fun a _ x e => s1 _ _ e
      have ht' := s1.seqT ht'
      refine Rd.inStrT ["load", "loadx", "store", "storex"] (SqT.of g1) ?_
      rw [decide_eq_false (by decide +kernel)]
      walk_at "my rn"
      rw [decide_eq_false (by decide +kernel)]
      refine Rd.ifF ?_
      walk_at "my rn"
      rw [decide_eq_false (by decide +kernel)]
      refine Rd.ifF ?_
      walk_at "my rn"
      rw [decide_eq_false (by decide +kernel)]
      refine Rd.ifF ?_
      walk_at "my rn"
      exact q _ hm fun b _ y e => s1 _ _ e
    case back  =>
      have ht' : SqT K H t [.str "back"] := ht
      walk_at "my rn"
      rw [decide_eq_false (by decide +kernel)]
      refine Rd.ifF ?_
      walk_at "my rn"
      rw [decide_eq_false (by decide +kernel)]
      refine Rd.ifF ?_
      walk_at "my rn"
      rw [decide_eq_false (by decide +kernel)]
      refine Rd.ifF ?_
      walk_at "my rn"
      intro p1 H1 n1 s1 g1
      have hm := hm.keep fun a _ x e => s1 _ _ e
      have ht' := s1.seqT ht'
      refine Rd.inStrT ["load", "loadx", "store", "storex"] (SqT.of g1) ?_
      rw [decide_eq_false (by decide +kernel)]
      walk_at "my rn"
      rw [decide_eq_false (by decide +kernel)]
      refine Rd.ifF ?_
      walk_at "my rn"
      rw [decide_eq_false (by decide +kernel)]
      refine Rd.ifF ?_
      walk_at "my rn"
      rw [decide_eq_false (by decide +kernel)]
      refine Rd.ifF ?_
      walk_at "my rn"
      exact q _ hm fun b _ y e => s1 _ _ e
    case done  =>
      have ht' : SqT K H t [.str "done"] := ht
      walk_at "my rn"
      rw [decide_eq_false (by decide +kernel)]
      refine Rd.ifF ?_
      walk_at "my rn"
      rw [decide_eq_false (by decide +kernel)]
      refine Rd.ifF ?_
      walk_at "my rn"
      rw [decide_eq_false (by decide +kernel)]
      refine Rd.ifF ?_
      walk_at "my rn"
      intro p1 H1 n1 s1 g1
      have hm := hm.keep fun a _ x e => s1 _ _ e
      have ht' := s1.seqT ht'
      refine Rd.inStrT ["load", "loadx", "store", "storex"] (SqT.of g1) ?_
      rw [decide_eq_false (by decide +kernel)]
      walk_at "my rn"
      rw [decide_eq_false (by decide +kernel)]
      refine Rd.ifF ?_
      walk_at "my rn"
      rw [decide_eq_false (by decide +kernel)]
      refine Rd.ifF ?_
      walk_at "my rn"
      rw [decide_eq_false (by decide +kernel)]
      refine Rd.ifF ?_
      walk_at "my rn"
      exact q _ hm fun b _ y e => s1 _ _ e
    case enter o =>
      have ht' : SqT K H t [.str "enter", .int o] := ht
      walk_at "my rn"
      rw [decide_eq_false (by decide +kernel)]
      refine Rd.ifF ?_
      walk_at "my rn"
      rw [decide_eq_false (by decide +kernel)]
      refine Rd.ifF ?_
      walk_at "my rn"
      rw [decide_eq_false (by decide +kernel)]
      refine Rd.ifF ?_
      walk_at "my rn"
      intro p1 H1 n1 s1 g1
      have hm := hm.keep fun a _ x e => s1 _ _ e
      have ht' := s1.seqT ht'
      refine Rd.inStrT ["load", "loadx", "store", "storex"] (SqT.of g1) ?_
      rw [decide_eq_false (by decide +kernel)]
      walk_at "my rn"
      rw [decide_eq_false (by decide +kernel)]
      refine Rd.ifF ?_
      walk_at "my rn"
      rw [decide_eq_false (by decide +kernel)]
      refine Rd.ifF ?_
      walk_at "my rn"
      rw [decide_eq_false (by decide +kernel)]
      refine Rd.ifF ?_
      walk_at "my rn"
      exact q _ hm fun b _ y e => s1 _ _ e
    case leave o =>
      have ht' : SqT K H t [.str "leave", .int o] := ht
      walk_at "my rn"
      rw [decide_eq_false (by decide +kernel)]
      refine Rd.ifF ?_
      walk_at "my rn"
      rw [decide_eq_false (by decide +kernel)]
      refine Rd.ifF ?_
      walk_at "my rn"
      rw [decide_eq_false (by decide +kernel)]
      refine Rd.ifF ?_
      walk_at "my rn"
      intro p1 H1 n1 s1 g1
      have hm := hm.keep fun a _ x e => s1 _ _ e
      have ht' := s1.seqT ht'
      refine Rd.inStrT ["load", "loadx", "store", "storex"] (SqT.of g1) ?_
      rw [decide_eq_false (by decide +kernel)]
      walk_at "my rn"
      rw [decide_eq_false (by decide +kernel)]
      refine Rd.ifF ?_
      walk_at "my rn"
      rw [decide_eq_false (by decide +kernel)]
      refine Rd.ifF ?_
      walk_at "my rn"
      rw [decide_eq_false (by decide +kernel)]
      refine Rd.ifF ?_
      walk_at "my rn"
      exact q _ hm fun b _ y e => s1 _ _ e
end


set_option Elab.async false
set_option linter.all false
set_option maxRecDepth 100000
set_option maxHeartbeats 1000000








section
variable {P : Program} {w : World} {K : PySem.W.Frag} {mg : Str → Option Value} {base : Heap}
theorem at_mem {xs : List Int} {z : Int} (h0 : 0 ≤ z) (h1 : z < (xs.length : Int)) : ∃ e ∈ xs, atI (xs.map V.int) z = some (.int e) := by
  obtain ⟨n, rfl⟩ : ∃ n : Nat, z = n := ⟨z.toNat, by omega⟩
  have hn : n < xs.length := by omega
  exact ⟨xs[n], List.getElem_mem hn, Rd.at_int rfl (List.getElem?_eq_getElem hn)⟩
theorem at_memV {xs : List V} {z : Int} (h0 : 0 ≤ z) (h1 : z < (xs.length : Int)) : ∃ e ∈ xs, atI xs z = some e := by
  obtain ⟨n, rfl⟩ : ∃ n : Nat, z = n := ⟨z.toNat, by omega⟩
  have hn : n < xs.length := by omega
  exact ⟨xs[n], List.getElem_mem hn, Rd.at_val rfl (List.getElem?_eq_getElem hn)⟩
theorem at_memH {xs : List V} {z : Int} {H : Hp} {a : Addr} {n : Nat} (_h : H a = some (.lst xs)) (e : xs.length = n) (h0 : 0 ≤ z) (h1 : z < (n : Int)) : ∃ e ∈ xs, atI xs z = some e := at_memV h0 (by omega)
theorem Keep.seqT {K : PySem.W.Frag} {p c t : Addr} {H H' : Hp} {xs : List V} (k : Keep p H H') (s : StOk H p c) (h : SqT K H t xs) : SqT K H' t xs := by
  obtain ⟨ms, j, v, sd, _, hp, _⟩ := s
  rcases h with h | h
  · rcases h with h | ⟨o, h⟩
    · exact .inl (.inl (k _ _ (fun z => by rw [z, hp] at h; cases h) h))
    · exact .inl (.inr ⟨o, k _ _ (fun z => by rw [z, hp] at h; cases h) h⟩)
  · exact .inr h
theorem rev_at {us : List Int} {k : Nat} (h : k < us.length) : us.reverse[k]? = us[us.length - 1 - k]? := List.getElem?_reverse h
theorem int_eqd {a b : Int} : decide (V.int a = V.int b) = decide (a = b) := by
  by_cases h : a = b
  · rw [h, decide_eq_true rfl, decide_eq_true rfl]
  · rw [decide_eq_false h, decide_eq_false (fun q => h (V.int.inj q))]
/-- the test of the two loops -/
def cnd (S s W x : Int) (acc : List Int) : Bool := decide (V.int (x % S) = V.int s) && ((!inV (.int x) (acc.map V.int)) && decide (((acc.map V.int).length : Int) < W))
theorem cnd_step {us : List Int} {S s W x : Int} {k : Nat} (hW : 0 ≤ W) (hk : us.reverse[k]? = some x) :
    (full (inSet S s) (us.reverse.take (k + 1))).take W.toNat = if cnd S s W x ((full (inSet S s) (us.reverse.take k)).take W.toNat) = true then (full (inSet S s) (us.reverse.take k)).take W.toNat ++ [x] else (full (inSet S s) (us.reverse.take k)).take W.toNat := by
  rw [List.take_add_one, hk]
  show List.take W.toNat (full (inSet S s) (us.reverse.take k ++ [x])) = _
  rw [take_app]
  unfold cnd
  rw [inV_int, List.length_map, int_eqd]
  have e : ((decide (x % S = s) && ((!decide (x ∈ (full (inSet S s) (us.reverse.take k)).take W.toNat)) && decide ((((full (inSet S s) (us.reverse.take k)).take W.toNat).length : Int) < W))) = true) ↔
      (inSet S s x = true ∧ x ∉ (full (inSet S s) (us.reverse.take k)).take W.toNat ∧ ((full (inSet S s) (us.reverse.take k)).take W.toNat).length < W.toNat) := by
    simp only [inSet, Bool.and_eq_true, decide_eq_true_eq, Bool.not_eq_true', decide_eq_false_iff_not]
    constructor
    · rintro ⟨a, b, c⟩
      exact ⟨a, b, by omega⟩
    · rintro ⟨a, b, c⟩
      exact ⟨a, b, by omega⟩
  by_cases h : inSet S s x = true ∧ x ∉ (full (inSet S s) (us.reverse.take k)).take W.toNat ∧ ((full (inSet S s) (us.reverse.take k)).take W.toNat).length < W.toNat
  · rw [if_pos h, if_pos (e.mpr h)]
  · rw [if_neg h, if_neg (fun z => h (e.mp z))]

def sp__law_address (K : PySem.W.Frag) : Sp := fun vs H Q _ => ∃ (t : Addr) (A : Mad) (m : Ms) (i : Ic), vs = [.ref t, .ref A.R] ∧ IcAt K H t i ∧ i.OkS ∧ i.isAcc = true ∧ MemS H A m ∧ ∀ H', Same H H' → Q (nI (i.addr m)) H'
theorem ok__law_address (T : Top P w K mg) : FnOk P w K mg base CX0 1 T.a__law_address T.d__law_address ["instruction", "registers"]  (sp__law_address K) := by
  refine T.F__law_address.ok sc__law_address (fun vs H Q E h => ?_) (fun cdv A outer s H vs Q E hr h => ?_)
  · obtain ⟨_, _, _, _, rfl, _⟩ := h
    rfl
  · obtain ⟨t, A, m, i, rfl, ht, ok, hk, hm, q⟩ := h
    refine ⟨_, (pss_cons (ps_if (pt_cmpR op_in_seq (pe_ix ix_tup (pv 0) pe_int (fun _ _ => rfl)) (pe_tup (pa_cons pe_str (pa_cons pe_str pa_nil))) (by with_unfolding_all rfl))
  (pss_one (ps_ret (pe_ix ix_tup (pv 0) pe_int (fun _ _ => rfl))))
  pss_nil)
  (pss_one (ps_ret (pe_op op_add (pe_ix ix_tup (pv 0) pe_int (fun _ _ => rfl)) (pe_op op_mod (pe_callTy call_int1 (by rfl) T.m_int (by decide +kernel) (pa_cons (pe_ix ix_list (pv 1) (pe_ix ix_tup (pv 0) pe_int (fun _ _ => rfl)) (fun _ _ => rfl)) pa_nil)) (pe_ix ix_tup (pv 0) pe_int (fun _ _ => rfl))))))), ?_⟩
    rw [show ∀ a0 a1 : V, L2.start ["instruction", "registers"] [a0, a1] = [some a0, some a1] from fun _ _ => rfl]
    have hti : SqT K H t (.str i.nm :: i.vs) := ht
    walk_at "my rn"
    refine Rd.ixTq hti (Rd.at_val (j := 0) rfl rfl) ?_
    walk_at "my rn"
    intro p1 H1 n1 s1 g1
    refine Rd.inStrT ["load", "store"] (SqT.of g1) ?_
    cases i
    case load r x =>
      have ht' : SqT K H1 t [.str "load", nI r, nI x] := s1.seqT hti
      rw [show decide ((Ic.load r x).nm ∈ (["load", "store"] : List Str)) = true from decide_eq_true (show ("load" : Str) ∈ (["load", "store"] : List Str) by decide +kernel)]
      walk_at "my rn"
      exact q _ s1
    case store r x =>
      have ht' : SqT K H1 t [.str "store", nI r, nI x] := s1.seqT hti
      rw [show decide ((Ic.store r x).nm ∈ (["load", "store"] : List Str)) = true from decide_eq_true (show ("store" : Str) ∈ (["load", "store"] : List Str) by decide +kernel)]
      walk_at "my rn"
      exact q _ s1
    case loadx r s x n =>
      obtain ⟨o1, o2, o3, o4⟩ := ok
      have ht' : SqT K H1 t [.str "loadx", nI r, nI s, nI x, nI n] := s1.seqT hti
      have np : (0 : Int) < (n : Int) := by omega
      have hm1 := hm.keep (H' := H1) fun a _ y e => s1 _ _ e
      rw [show decide ((Ic.loadx r s x n).nm ∈ (["load", "store"] : List Str)) = false from decide_eq_false (show ¬ ("loadx" : Str) ∈ (["load", "store"] : List Str) by decide +kernel)]
      walk_at "my rn"
      refine Rd.ixL hm1.hR (hm1.ixR o2) ?_
      walk_at "my rn"
      have e : ((x + (m.reg s % (n : Int)).toNat : Nat) : Int) = (x : Int) + m.reg s % (n : Int) := by
        have := Int.emod_nonneg (m.reg s) (show (n : Int) ≠ 0 by omega)
        push_cast; omega
      have q' : Q (.int ((x + (m.reg s % (n : Int)).toNat : Nat) : Int)) H1 := q _ s1
      rw [e] at q'
      exact q'
    case storex r s x n =>
      obtain ⟨o1, o2, o3, o4⟩ := ok
      have ht' : SqT K H1 t [.str "storex", nI r, nI s, nI x, nI n] := s1.seqT hti
      have np : (0 : Int) < (n : Int) := by omega
      have hm1 := hm.keep (H' := H1) fun a _ y e => s1 _ _ e
      rw [show decide ((Ic.storex r s x n).nm ∈ (["load", "store"] : List Str)) = false from decide_eq_false (show ¬ ("storex" : Str) ∈ (["load", "store"] : List Str) by decide +kernel)]
      walk_at "my rn"
      refine Rd.ixL hm1.hR (hm1.ixR o2) ?_
      walk_at "my rn"
      have e : ((x + (m.reg s % (n : Int)).toNat : Nat) : Int) = (x : Int) + m.reg s % (n : Int) := by
        have := Int.emod_nonneg (m.reg s) (show (n : Int) ≠ 0 by omega)
        push_cast; omega
      have q' : Q (.int ((x + (m.reg s % (n : Int)).toNat : Nat) : Int)) H1 := q _ s1
      rw [e] at q'
      exact q'
    all_goals cases hk
def sp__law_shape : Sp := fun vs H Q _ => ∃ (p c : Addr), vs = [.ref p] ∧ StOk H p c ∧ ∀ (t : Addr) (S W z : Int) (H' : Hp), SizesOk S W z → H' t = some (.tup [.int S, .int W, .int z]) → StOk H' p c → Keep p H H' → Q (.ref t) H'
theorem ok__law_shape (T : Top P w K mg) : FnOk P w K mg base CX0 2 T.a__law_shape T.d__law_shape ["state"]  sp__law_shape := by
  refine T.F__law_shape.ok sc__law_shape (fun vs H Q E h => ?_) (fun cdv A outer s H vs Q E hr h => ?_)
  · obtain ⟨_, _, rfl, _⟩ := h
    rfl
  · obtain ⟨p, c, rfl, st0, q⟩ := h
    refine ⟨_, (pss_one (ps_ret (pe_tup (pa_cons (pe_op op_add pe_int (pe_call (ok__law_draw T) (hr.mono (by decide)) (by rfl) T.g__law_draw T.F__law_draw.kp T.b__law_draw .nil pass0 (pa_cons (pv 0) (pa_cons pe_int pa_nil)))) (pa_cons (pe_op op_add pe_int (pe_call (ok__law_draw T) (hr.mono (by decide)) (by rfl) T.g__law_draw T.F__law_draw.kp T.b__law_draw .nil pass0 (pa_cons (pv 0) (pa_cons pe_int pa_nil)))) (pa_cons (pe_ix ix_list (pe_lst (pa_cons pe_int (pa_cons pe_int (pa_cons pe_int pa_nil)))) (pe_call (ok__law_draw T) (hr.mono (by decide)) (by rfl) T.g__law_draw T.F__law_draw.kp T.b__law_draw .nil pass0 (pa_cons (pv 0) (pa_cons pe_int pa_nil))) (fun _ _ => rfl)) pa_nil)))))), ?_⟩
    rw [show ∀ a0 : V, L2.start ["state"] [a0] = [some a0] from fun _ => rfl]
    walk_at "my rn"
    refine ⟨p, c, 4, rfl, st0, by decide, by decide, fun S H1 S0 S1 st1 k1 => ?_⟩
    walk_at "my rn"
    refine ⟨p, c, 3, rfl, st1, by decide, by decide, fun W H2 W0 W1 st2 k2 => ?_⟩
    walk_at "my rn"
    intro L3 H3 n3 s3 h3
    have st3 := st2.same s3
    have ne3 := st2.ne n3
    walk_at "my rn"
    refine ⟨p, c, 3, rfl, st3, by decide, by decide, fun u H4 u0 u1 st4 k4 => ?_⟩
    obtain ⟨z, mz, hz⟩ := at_mem (xs := [1, 2, 4]) u0 u1
    refine Rd.ixL (k4 _ _ ne3.1 h3) hz ?_
    walk_at "my rn"
    intro t H5 n5 s5 h5
    simp only [List.mem_cons, List.mem_nil_iff, or_false] at mz
    exact q t _ _ _ H5 ⟨by omega, by omega, by omega, by omega, by omega⟩ h5 (st4.same s5) ((k1.trans (k2.trans ((Keep.same s3).trans k4))).trans (Keep.same s5))
def sp__law_use (K : PySem.W.Frag) : Sp := fun vs H Q _ => ∃ (u t : Addr) (us : List Int) (S W z a : Int) (ad : Bool), vs = [.ref u, .ref t, .int a, .bl ad] ∧ H u = some (.lst (us.map V.int)) ∧ H t = some (.tup [.int S, .int W, .int z]) ∧ us.length ≤ 100 ∧ SizesOk S W z ∧
  ∀ H', H' u = some (.lst ((if ad = true ∨ a / z ∈ rowOf us S (a / z % S) W.toNat then us ++ [a / z] else us).map V.int)) → (∀ b y, b ≠ u → H b = some y → H' b = some y) → Q (.bl (decide (a / z ∈ rowOf us S (a / z % S) W.toNat))) H'
theorem ok__law_use (T : Top P w K mg) : FnOk P w K mg base CX0 1 T.a__law_use T.d__law_use ["uses", "shape", "address", "adds"]  (sp__law_use K) := by
  refine T.F__law_use.ok sc__law_use (fun vs H Q E h => ?_) (fun cdv A outer s H vs Q E hr h => ?_)
  · obtain ⟨_, _, _, _, _, _, _, _, rfl, _⟩ := h
    rfl
  · obtain ⟨u, t, us, S, W, z, a, ad, rfl, hu, ht, hl, sz, q⟩ := h
    refine ⟨_, (pss_cons (ps_asg (pv 1) (pg_tup rfl (pgs_cons (pg_name (i := 4) sc__law_use.nd rfl (by first | exact Or.inl rfl | exact Or.inr rfl)) (pgs_cons (pg_name (i := 5) sc__law_use.nd rfl (by first | exact Or.inl rfl | exact Or.inr rfl)) (pgs_cons (pg_name (i := 6) sc__law_use.nd rfl (by first | exact Or.inl rfl | exact Or.inr rfl)) pgs_nil)))))
  (pss_cons (ps_set (i := 7) sc__law_use.nd rfl (by first | exact Or.inl rfl | exact Or.inr rfl) (pe_op op_fdivW (pv 2) (pv 6)))
  (pss_cons (ps_set (i := 8) sc__law_use.nd rfl (by first | exact Or.inl rfl | exact Or.inr rfl) (pe_lst pa_nil))
  (pss_cons (ps_for PassesOwn.never rfl (pi_range1 (by rfl) T.m_range (pa_cons (pe_callB call_len_seq (by rfl) T.m_len PySem.boot_len (pa_cons (pv 0) pa_nil)) pa_nil)) (pg_name (i := 9) sc__law_use.nd rfl (by first | exact Or.inl rfl | exact Or.inr rfl))
  (pss_cons (ps_set (i := 10) sc__law_use.nd rfl (by first | exact Or.inl rfl | exact Or.inr rfl) (pe_ix ix_list (pv 0) (pe_op op_sub (pe_op op_sub (pe_callB call_len_seq (by rfl) T.m_len PySem.boot_len (pa_cons (pv 0) pa_nil)) pe_int) (pv 9)) (fun _ _ => rfl)))
  (pss_one (ps_if (pw_and (pt_cmpR op_eq (pe_op op_mod (pe_callTy call_int1 (by rfl) T.m_int (by decide +kernel) (pa_cons (pv 10) pa_nil)) (pv 4)) (pe_op op_mod (pe_callTy call_int1 (by rfl) T.m_int (by decide +kernel) (pa_cons (pv 7) pa_nil)) (pv 4)) (nomark _)) (pw_and (pt_cmpR op_notIn_seq (pv 10) (pv 8) (by with_unfolding_all rfl)) (pw_and1 (pt_cmpR op_lt (pe_callB call_len_seq (by rfl) T.m_len PySem.boot_len (pa_cons (pv 8) pa_nil)) (pv 5) (nomark _))))).pt
  (pss_one (ps_expr (pe_bm PySem.F.plainAttrs_list PySem.F.slot_list_append PySem.F.type_list_append mt_append (pv 8) (pa_cons (pv 10) pa_nil))))
  pss_nil))))
  (pss_cons (ps_if (pw_or (pt_val (pv 3)) (pw_or1 (pt_cmpR op_in_seq (pv 7) (pv 8) (by with_unfolding_all rfl)))).pt
  (pss_one (ps_expr (pe_bm PySem.F.plainAttrs_list PySem.F.slot_list_append PySem.F.type_list_append mt_append (pv 0) (pa_cons (pv 7) pa_nil))))
  pss_nil)
  (pss_one (ps_ret (pe_cmpR op_in_seq (pv 7) (pv 8) (by with_unfolding_all rfl))))))))), ?_⟩
    rw [show ∀ a0 a1 a2 a3 : V, L2.start ["uses", "shape", "address", "adds", "sets", "ways", "size", "line", "row", "k", "other"] [a0, a1, a2, a3] = [some a0, some a1, some a2, some a3, none, none, none, none, none, none, none] from fun _ _ _ _ => rfl]
    have zp : 0 < z := sz.z0.1
    have zs : z.natAbs < 2 ^ 40 := by have := sz.z0.2; omega
    have s0 : 0 < S := by have := sz.s1; omega
    have w0 : 0 ≤ W := by have := sz.w1; omega
    walk_at "my rn"
    refine Rd.I (wide_div zp zs (by decide) (by decide)) ?_
    obtain ⟨ln, eln⟩ : ∃ ln, ln = a / z := ⟨_, rfl⟩
    rw [← eln] at q ⊢
    walk_at "my rn"
    intro R H1 nR s1 hR
    have uR : u ≠ R := new_off hu nR
    have hu1 := s1 _ _ hu
    walk_at "my rn"
    rw [List.length_map]
    refine ⟨by omega, by omega, for_it walk_range (fun k σ H' => ∃ (yk yo : Option V), σ = [some (.ref u), some (.ref t), some (.int a), some (.bl ad), some (.int S), some (.int W), some (.int z), some (.int ln), some (.ref R), yk, yo] ∧ H' R = some (.lst (((full (inSet S (ln % S)) (us.reverse.take k)).take W.toNat).map V.int)) ∧ (∀ b y, b ≠ R → H1 b = some y → H' b = some y)) ⟨_, _, rfl, by rw [hR, List.take_zero]; show _ = some (HO.lst ((([] : List Int).take W.toNat).map V.int)); rw [List.take_nil]; rfl, fun _ _ _ e => e⟩ (fun _ _ _ _ _ => trivial) ?_ ?_⟩
    · rintro k xk σ Ho H' hk ⟨yk, yo, rfl, hR', kp⟩ yy
      obtain ⟨rfl, e3⟩ := Rd.zr yy
      subst e3
      have hk : k < us.length := by omega
      obtain ⟨m, hm⟩ : ∃ m, us[us.length - 1 - k]? = some m := ⟨_, List.getElem?_eq_getElem (by omega)⟩
      have hm2 : us.reverse[k]? = some m := (rev_at hk).trans hm
      have hu' := kp _ _ uR hu1
      have st : (full (inSet S (ln % S)) (us.reverse.take (k + 1))).take W.toNat = if inSet S (ln % S) m = true ∧ m ∉ (full (inSet S (ln % S)) (us.reverse.take k)).take W.toNat ∧ ((full (inSet S (ln % S)) (us.reverse.take k)).take W.toNat).length < W.toNat then (full (inSet S (ln % S)) (us.reverse.take k)).take W.toNat ++ [m] else (full (inSet S (ln % S)) (us.reverse.take k)).take W.toNat := by
        rw [List.take_add_one, hm2]
        exact take_app _ _ _ _
      have la : ((full (inSet S (ln % S)) (us.reverse.take k)).take W.toNat).length ≤ 100 := by
        have h1 := full_len (inSet S (ln % S)) (us.reverse.take k)
        have h2 := List.length_take_le k us.reverse
        have h3 := List.length_take_le W.toNat (full (inSet S (ln % S)) (us.reverse.take k))
        have h4 := List.length_take_le' k us.reverse
        have h5 := List.length_take_le' W.toNat (full (inSet S (ln % S)) (us.reverse.take k))
        rw [List.length_reverse] at h4
        omega
      generalize (full (inSet S (ln % S)) (us.reverse.take k)).take W.toNat = acc at hR' st la
      walk_at "my rn"
      refine Rd.ixL hu' (Rd.at_int (j := us.length - 1 - k) (by rw [List.length_map]; omega) hm) ?_
      walk_at "my rn"
      refine Rd.ifD (fun c1 => ?_) fun c1 => ?_
      · have c1' : inSet S (ln % S) m = true := decide_eq_true (V.int.inj c1)
        walk_at "my rn"
        refine Rd.ninI hR' ?_
        by_cases c2 : m ∈ acc
        · rw [if_neg (fun z => z.2.1 c2)] at st
          rw [decide_eq_true c2]
          walk_at "my rn"
          exact ⟨_, _, rfl, by rw [st]; exact hR', kp⟩
        · rw [decide_eq_false c2]
          walk_at "my rn"
          rw [List.length_map]
          refine Rd.ifD (fun c3 => ?_) fun c3 => ?_
          · rw [if_pos ⟨c1', c2, by omega⟩] at st
            walk_at "my rn"
            refine Rd.app hR' (Rd.szl (by rw [List.length_map]; omega)) ?_
            refine ⟨_, _, rfl, by rw [upd_same, st, List.map_append]; rfl, fun b y nb e => by rw [upd_ne nb]; exact kp b y nb e⟩
          · rw [if_neg (fun z => c3 (by have := z.2.2; omega))] at st
            walk_at "my rn"
            exact ⟨_, _, rfl, by rw [st]; exact hR', kp⟩
      · rw [if_neg (fun z => c1 (by rw [of_decide_eq_true z.1]))] at st
        walk_at "my rn"
        exact ⟨_, _, rfl, by rw [st]; exact hR', kp⟩
    · rintro σ H' ⟨yk, yo, rfl, hR', kp⟩
      have ef : ((full (inSet S (ln % S)) (us.reverse.take (us.length : Int).toNat)).take W.toNat) = rowOf us S (ln % S) W.toNat := by
        unfold rowOf
        rw [show (us.length : Int).toNat = us.length from rfl, List.take_of_length_le (l := us.reverse) (i := us.length) (by rw [List.length_reverse]; exact Nat.le_refl _)]
      rw [ef] at hR'
      have hu' := kp _ _ uR hu1
      have Hb : ∀ b y, b ≠ u → H b = some y → H' b = some y := fun b y _ e => kp b y (new_off e nR) (s1 _ _ e)
      generalize rowOf us S (ln % S) W.toNat = row at hR' q
      have fin : ∀ H2, H2 u = some (.lst ((us ++ [ln]).map V.int)) → (∀ b y, b ≠ u → H' b = some y → H2 b = some y) → (ad = true ∨ ln ∈ row) → H2 R = some (.lst (row.map V.int)) ∧ Q (.bl (decide (ln ∈ row))) H2 := fun H2 h1 h2 h3 => by
        rw [if_pos h3] at q
        exact ⟨h2 _ _ uR.symm hR', q H2 h1 fun b y nb e => h2 b y nb (Hb b y nb e)⟩
      have up : (upd H' u (.lst (us.map V.int ++ [.int ln]))) u = some (.lst ((us ++ [ln]).map V.int)) := by rw [upd_same, List.map_append]; rfl
      have upk : ∀ b y, b ≠ u → H' b = some y → (upd H' u (.lst (us.map V.int ++ [.int ln]))) b = some y := fun b y nb e => by rw [upd_ne nb]; exact e
      walk_at "my rn"
      cases ad with
      | true =>
        refine Rd.ifT ?_
        refine Rd.ifT ?_
        walk_at "my rn"
        refine Rd.app hu' (Rd.szl (by rw [List.length_map]; omega)) ?_
        walk_at "my rn"
        obtain ⟨e1, e2⟩ := fin _ up upk (.inl rfl)
        refine Rd.inI e1 ?_
        walk_at "my rn"
        exact e2
      | false =>
        refine Rd.ifF ?_
        walk_at "my rn"
        refine Rd.inI hR' ?_
        by_cases c : ln ∈ row
        · rw [decide_eq_true c] at fin ⊢
          walk_at "my rn"
          refine Rd.app hu' (Rd.szl (by rw [List.length_map]; omega)) ?_
          walk_at "my rn"
          obtain ⟨e1, e2⟩ := fin _ up upk (.inr c)
          refine Rd.inI e1 ?_
          rw [decide_eq_true c]
          walk_at "my rn"
          exact e2
        · rw [if_neg (fun z => z.elim (fun h => Bool.noConfusion h) c), decide_eq_false c] at q
          rw [decide_eq_false c]
          walk_at "my rn"
          refine Rd.inI hR' ?_
          rw [decide_eq_false c]
          walk_at "my rn"
          exact q H' hu' Hb
def n5 (c : Cost) : List Int := [c.fh, c.fm, c.lh, c.lm, c.st]
def kCost (c : Cost) (nm op : Str) (fe ld : Bool) : Int := (if fe = true then c.fh else c.fm) + (if nm ∈ (["load", "loadx"] : List Str) then (if ld = true then c.lh else c.lm) else if nm ∈ (["store", "storex"] : List Str) then c.st else if nm ∈ (["count", "again"] : List Str) then 2 else if nm ∈ (["in", "out"] : List Str) then 4 else if nm = "calc" ∧ op ∈ (["mul", "div", "mod"] : List Str) then (if op = "mul" then 3 else 8) else 1)
theorem calc_vs {i : Ic} (h : i.nm = "calc") : (V.str i.nm :: i.vs)[1]? = some (.str i.op) := by
  cases k : i.isCalc with
  | false => exact absurd h (ne_calc i k)
  | true => cases i <;> first | (cases k; done) | rfl
def sp__law_cost (K : PySem.W.Frag) : Sp := fun vs H Q _ => ∃ (n t : Addr) (c : Cost) (i : Ic) (tk fe ld : Bool), vs = [.ref n, .ref t, .bl tk, .bl fe, .bl ld] ∧ H n = some (.lst ((n5 c).map V.int)) ∧ IcAt K H t i ∧ ∀ H', Same H H' → Q (.int (kCost c i.nm i.op fe ld + (if tk = true then 1 else 0))) H'
theorem ok__law_cost (T : Top P w K mg) : FnOk P w K mg base CX0 1 T.a__law_cost T.d__law_cost ["n", "instruction", "taken", "fetched", "loaded"]  (sp__law_cost K) := by
  refine T.F__law_cost.ok sc__law_cost (fun vs H Q E h => ?_) (fun cdv A outer s H vs Q E hr h => ?_)
  · obtain ⟨_, _, _, _, _, _, _, rfl, _⟩ := h
    rfl
  · obtain ⟨n, t, c, i, tk, fe, ld, rfl, hn, ht, q⟩ := h
    refine ⟨_, (pss_cons (ps_set (i := 5) sc__law_cost.nd rfl (by first | exact Or.inl rfl | exact Or.inr rfl) (pe_ix ix_tup (pv 1) pe_int (fun _ _ => rfl)))
  (pss_cons (ps_set (i := 6) sc__law_cost.nd rfl (by first | exact Or.inl rfl | exact Or.inr rfl) (pe_ifExp (pt_val (pv 3)) (pe_ix ix_list (pv 0) pe_int (fun _ _ => rfl)) (pe_ix ix_list (pv 0) pe_int (fun _ _ => rfl))))
  (pss_cons (ps_if (pt_cmpR op_in_seq (pv 5) (pe_tup (pa_cons pe_str (pa_cons pe_str pa_nil))) (by with_unfolding_all rfl))
  (pss_one (ps_set (i := 6) sc__law_cost.nd rfl (by first | exact Or.inl rfl | exact Or.inr rfl) (pe_op op_add (pv 6) (pe_ifExp (pt_val (pv 4)) (pe_ix ix_list (pv 0) pe_int (fun _ _ => rfl)) (pe_ix ix_list (pv 0) pe_int (fun _ _ => rfl))))))
  (pss_one (ps_if (pt_cmpR op_in_seq (pv 5) (pe_tup (pa_cons pe_str (pa_cons pe_str pa_nil))) (by with_unfolding_all rfl))
  (pss_one (ps_set (i := 6) sc__law_cost.nd rfl (by first | exact Or.inl rfl | exact Or.inr rfl) (pe_op op_add (pv 6) (pe_ix ix_list (pv 0) pe_int (fun _ _ => rfl)))))
  (pss_one (ps_if (pt_cmpR op_in_seq (pv 5) (pe_tup (pa_cons pe_str (pa_cons pe_str pa_nil))) (by with_unfolding_all rfl))
  (pss_one (ps_set (i := 6) sc__law_cost.nd rfl (by first | exact Or.inl rfl | exact Or.inr rfl) (pe_op op_add (pv 6) pe_int)))
  (pss_one (ps_if (pt_cmpR op_in_seq (pv 5) (pe_tup (pa_cons pe_str (pa_cons pe_str pa_nil))) (by with_unfolding_all rfl))
  (pss_one (ps_set (i := 6) sc__law_cost.nd rfl (by first | exact Or.inl rfl | exact Or.inr rfl) (pe_op op_add (pv 6) pe_int)))
  (pss_one (ps_if (pw_and (pt_cmpR op_eq (pv 5) pe_str (nomark _)) (pw_and1 (pt_cmpR op_in_seq (pe_ix ix_tup (pv 1) pe_int (fun _ _ => rfl)) (pe_tup (pa_cons pe_str (pa_cons pe_str (pa_cons pe_str pa_nil)))) (by with_unfolding_all rfl)))).pt
  (pss_one (ps_set (i := 6) sc__law_cost.nd rfl (by first | exact Or.inl rfl | exact Or.inr rfl) (pe_op op_add (pv 6) (pe_ifExp (pt_cmpR op_eq (pe_ix ix_tup (pv 1) pe_int (fun _ _ => rfl)) pe_str (nomark _)) pe_int pe_int))))
  (pss_one (ps_set (i := 6) sc__law_cost.nd rfl (by first | exact Or.inl rfl | exact Or.inr rfl) (pe_op op_add (pv 6) pe_int))))))))))))
  (pss_one (ps_ret (pe_op op_add (pv 6) (pe_callTy call_int1 (by rfl) T.m_int (by decide +kernel) (pa_cons (pv 2) pa_nil)))))))), ?_⟩
    rw [show ∀ a0 a1 a2 a3 a4 : V, L2.start ["n", "instruction", "taken", "fetched", "loaded", "name", "cost"] [a0, a1, a2, a3, a4] = [some a0, some a1, some a2, some a3, some a4, none, none] from fun _ _ _ _ _ => rfl]
    have hti : SqT K H t (.str i.nm :: i.vs) := ht
    have hn' : H n = some (.lst [.int c.fh, .int c.fm, .int c.lh, .int c.lm, .int c.st]) := hn
    walk_at "my rn"
    refine Rd.ixTq hti (Rd.at_val (j := 0) rfl rfl) ?_
    walk_at "my rn"
    have key : ∀ (x0 : Int), x0 = (if fe = true then c.fh else c.fm) → ∀ H', Same H H' → Q (.int (x0 + (if i.nm ∈ (["load", "loadx"] : List Str) then (if ld = true then c.lh else c.lm) else if i.nm ∈ (["store", "storex"] : List Str) then c.st else if i.nm ∈ (["count", "again"] : List Str) then 2 else if i.nm ∈ (["in", "out"] : List Str) then 4 else if i.nm = "calc" ∧ i.op ∈ (["mul", "div", "mod"] : List Str) then (if i.op = "mul" then 3 else 8) else 1) + (if tk = true then 1 else 0))) H' := fun x0 e H' s => by rw [e]; exact q H' s
    cases fe
    · have key := key c.fm rfl
      obtain ⟨x0, ex0⟩ : ∃ x0, x0 = c.fm := ⟨_, rfl⟩
      rw [← ex0] at key
      refine Rd.ifF ?_
      walk_at "my rn"
      rw [← ex0]
      intro p1 H1 n1 s1 g1
      have ht1 := s1.seqT hti
      have hn1 : H1 n = some (.lst [.int c.fh, .int c.fm, .int c.lh, .int c.lm, .int c.st]) := s1 _ _ hn'
      refine Rd.inStrT ["load", "loadx"] (SqT.of g1) ?_
      by_cases e1 : i.nm ∈ (["load", "loadx"] : List Str)
      · rw [if_pos e1] at key
        rw [decide_eq_true e1]
        walk_at "my rn"
        cases ld
        · refine Rd.ifF ?_
          walk_at "my rn"
          refine .inr ⟨tk, rfl, ?_⟩
          walk_at "my rn"
          exact key _ s1
        · refine Rd.ifT ?_
          walk_at "my rn"
          refine .inr ⟨tk, rfl, ?_⟩
          walk_at "my rn"
          exact key _ s1
      · rw [if_neg e1] at key
        rw [decide_eq_false e1]
        walk_at "my rn"
        intro p2 H2 n2 s2 g2
        have ht2 := s2.seqT ht1
        have s12 := s1.trans s2
        have hn2 := s2 _ _ hn1
        refine Rd.inStrT ["store", "storex"] (SqT.of g2) ?_
        by_cases e2 : i.nm ∈ (["store", "storex"] : List Str)
        · rw [if_pos e2] at key
          rw [decide_eq_true e2]
          walk_at "my rn"
          refine .inr ⟨tk, rfl, ?_⟩
          walk_at "my rn"
          exact key _ s12
        · rw [if_neg e2] at key
          rw [decide_eq_false e2]
          walk_at "my rn"
          intro p3 H3 n3 s3 g3
          have ht3 := s3.seqT ht2
          have s13 := s12.trans s3
          refine Rd.inStrT ["count", "again"] (SqT.of g3) ?_
          by_cases e3 : i.nm ∈ (["count", "again"] : List Str)
          · rw [if_pos e3] at key
            rw [decide_eq_true e3]
            walk_at "my rn"
            refine .inr ⟨tk, rfl, ?_⟩
            walk_at "my rn"
            exact key _ s13
          · rw [if_neg e3] at key
            rw [decide_eq_false e3]
            walk_at "my rn"
            intro p4 H4 n4 s4 g4
            have ht4 := s4.seqT ht3
            have s14 := s13.trans s4
            refine Rd.inStrT ["in", "out"] (SqT.of g4) ?_
            by_cases e4 : i.nm ∈ (["in", "out"] : List Str)
            · rw [if_pos e4] at key
              rw [decide_eq_true e4]
              walk_at "my rn"
              refine .inr ⟨tk, rfl, ?_⟩
              walk_at "my rn"
              exact key _ s14
            · rw [if_neg e4] at key
              rw [decide_eq_false e4]
              walk_at "my rn"
              by_cases e5 : i.nm = "calc"
              · rw [decide_eq_true (by rw [e5])]
                walk_at "my rn"
                refine Rd.ixTq ht4 (Rd.at_val (j := 1) rfl (calc_vs e5)) ?_
                walk_at "my rn"
                intro p5 H5 n5_ s5 g5
                have ht5 := s5.seqT ht4
                have s15 := s14.trans s5
                refine Rd.inStrT ["mul", "div", "mod"] (SqT.of g5) ?_
                by_cases e6 : i.op ∈ (["mul", "div", "mod"] : List Str)
                · rw [if_pos ⟨e5, e6⟩] at key
                  rw [decide_eq_true e6]
                  walk_at "my rn"
                  refine Rd.ixTq ht5 (Rd.at_val (j := 1) rfl (calc_vs e5)) ?_
                  walk_at "my rn"
                  refine Rd.ifD (fun e7 => ?_) fun e7 => ?_
                  · rw [if_pos (V.str.inj e7)] at key
                    walk_at "my rn"
                    refine .inr ⟨tk, rfl, ?_⟩
                    walk_at "my rn"
                    exact key _ s15
                  · rw [if_neg (fun z => e7 (by rw [z]))] at key
                    walk_at "my rn"
                    refine .inr ⟨tk, rfl, ?_⟩
                    walk_at "my rn"
                    exact key _ s15
                · rw [if_neg (fun z => e6 z.2)] at key
                  rw [decide_eq_false e6]
                  walk_at "my rn"
                  refine .inr ⟨tk, rfl, ?_⟩
                  walk_at "my rn"
                  exact key _ s15
              · rw [if_neg (fun z => e5 z.1)] at key
                rw [decide_eq_false (fun z => e5 (V.str.inj z))]
                walk_at "my rn"
                refine .inr ⟨tk, rfl, ?_⟩
                walk_at "my rn"
                exact key _ s14
    · have key := key c.fh rfl
      obtain ⟨x0, ex0⟩ : ∃ x0, x0 = c.fh := ⟨_, rfl⟩
      rw [← ex0] at key
      refine Rd.ifT ?_
      walk_at "my rn"
      rw [← ex0]
      intro p1 H1 n1 s1 g1
      have ht1 := s1.seqT hti
      have hn1 : H1 n = some (.lst [.int c.fh, .int c.fm, .int c.lh, .int c.lm, .int c.st]) := s1 _ _ hn'
      refine Rd.inStrT ["load", "loadx"] (SqT.of g1) ?_
      by_cases e1 : i.nm ∈ (["load", "loadx"] : List Str)
      · rw [if_pos e1] at key
        rw [decide_eq_true e1]
        walk_at "my rn"
        cases ld
        · refine Rd.ifF ?_
          walk_at "my rn"
          refine .inr ⟨tk, rfl, ?_⟩
          walk_at "my rn"
          exact key _ s1
        · refine Rd.ifT ?_
          walk_at "my rn"
          refine .inr ⟨tk, rfl, ?_⟩
          walk_at "my rn"
          exact key _ s1
      · rw [if_neg e1] at key
        rw [decide_eq_false e1]
        walk_at "my rn"
        intro p2 H2 n2 s2 g2
        have ht2 := s2.seqT ht1
        have s12 := s1.trans s2
        have hn2 := s2 _ _ hn1
        refine Rd.inStrT ["store", "storex"] (SqT.of g2) ?_
        by_cases e2 : i.nm ∈ (["store", "storex"] : List Str)
        · rw [if_pos e2] at key
          rw [decide_eq_true e2]
          walk_at "my rn"
          refine .inr ⟨tk, rfl, ?_⟩
          walk_at "my rn"
          exact key _ s12
        · rw [if_neg e2] at key
          rw [decide_eq_false e2]
          walk_at "my rn"
          intro p3 H3 n3 s3 g3
          have ht3 := s3.seqT ht2
          have s13 := s12.trans s3
          refine Rd.inStrT ["count", "again"] (SqT.of g3) ?_
          by_cases e3 : i.nm ∈ (["count", "again"] : List Str)
          · rw [if_pos e3] at key
            rw [decide_eq_true e3]
            walk_at "my rn"
            refine .inr ⟨tk, rfl, ?_⟩
            walk_at "my rn"
            exact key _ s13
          · rw [if_neg e3] at key
            rw [decide_eq_false e3]
            walk_at "my rn"
            intro p4 H4 n4 s4 g4
            have ht4 := s4.seqT ht3
            have s14 := s13.trans s4
            refine Rd.inStrT ["in", "out"] (SqT.of g4) ?_
            by_cases e4 : i.nm ∈ (["in", "out"] : List Str)
            · rw [if_pos e4] at key
              rw [decide_eq_true e4]
              walk_at "my rn"
              refine .inr ⟨tk, rfl, ?_⟩
              walk_at "my rn"
              exact key _ s14
            · rw [if_neg e4] at key
              rw [decide_eq_false e4]
              walk_at "my rn"
              by_cases e5 : i.nm = "calc"
              · rw [decide_eq_true (by rw [e5])]
                walk_at "my rn"
                refine Rd.ixTq ht4 (Rd.at_val (j := 1) rfl (calc_vs e5)) ?_
                walk_at "my rn"
                intro p5 H5 n5_ s5 g5
                have ht5 := s5.seqT ht4
                have s15 := s14.trans s5
                refine Rd.inStrT ["mul", "div", "mod"] (SqT.of g5) ?_
                by_cases e6 : i.op ∈ (["mul", "div", "mod"] : List Str)
                · rw [if_pos ⟨e5, e6⟩] at key
                  rw [decide_eq_true e6]
                  walk_at "my rn"
                  refine Rd.ixTq ht5 (Rd.at_val (j := 1) rfl (calc_vs e5)) ?_
                  walk_at "my rn"
                  refine Rd.ifD (fun e7 => ?_) fun e7 => ?_
                  · rw [if_pos (V.str.inj e7)] at key
                    walk_at "my rn"
                    refine .inr ⟨tk, rfl, ?_⟩
                    walk_at "my rn"
                    exact key _ s15
                  · rw [if_neg (fun z => e7 (by rw [z]))] at key
                    walk_at "my rn"
                    refine .inr ⟨tk, rfl, ?_⟩
                    walk_at "my rn"
                    exact key _ s15
                · rw [if_neg (fun z => e6 z.2)] at key
                  rw [decide_eq_false e6]
                  walk_at "my rn"
                  refine .inr ⟨tk, rfl, ?_⟩
                  walk_at "my rn"
                  exact key _ s15
              · rw [if_neg (fun z => e5 z.1)] at key
                rw [decide_eq_false (fun z => e5 (V.str.inj z))]
                walk_at "my rn"
                refine .inr ⟨tk, rfl, ?_⟩
                walk_at "my rn"
                exact key _ s14
end


set_option Elab.async false
set_option linter.all false
set_option maxRecDepth 100000
set_option maxHeartbeats 1000000








section
variable {P : Program} {w : World} {K : PySem.W.Frag} {mg : Str → Option Value} {base : Heap}
def sp__law_operation (K : PySem.W.Frag) : Sp := fun vs H Q _ => ∃ x : Int, vs = [.int x] ∧ 0 ≤ x ∧ x < 17 ∧ ∀ z H', z ∈ calcs → Same H H' → Q (.str z) H'
theorem ok__law_operation (T : Top P w K mg) : FnOk P w K mg base CX0 1 T.a__law_operation T.d__law_operation ["at"]  (sp__law_operation K) := by
  refine T.F__law_operation.ok sc__law_operation (fun vs H Q E h => ?_) (fun cdv A outer s H vs Q E hr h => ?_)
  · obtain ⟨_, rfl, _⟩ := h
    rfl
  · obtain ⟨x, rfl, x0, x1, q⟩ := h
    refine ⟨_, (pss_cons (ps_set (i := 1) sc__law_operation.nd rfl (by first | exact Or.inl rfl | exact Or.inr rfl) (pe_lst (pa_cons pe_str (pa_cons pe_str (pa_cons pe_str (pa_cons pe_str (pa_cons pe_str (pa_cons pe_str (pa_cons pe_str (pa_cons pe_str (pa_cons pe_str (pa_cons pe_str (pa_cons pe_str (pa_cons pe_str (pa_cons pe_str (pa_cons pe_str (pa_cons pe_str pa_nil)))))))))))))))))
  (pss_cons (ps_set (i := 1) sc__law_operation.nd rfl (by first | exact Or.inl rfl | exact Or.inr rfl) (pe_op op_catQ (pv 1) (pe_lst (pa_cons pe_str (pa_cons pe_str pa_nil)))))
  (pss_one (ps_ret (pe_ix ix_list (pv 1) (pv 0) (fun _ _ => rfl)))))), ?_⟩
    rw [show ∀ a0 : V, L2.start ["at", "names"] [a0] = [some a0, none] from fun _ => rfl]
    walk_at "my rn"
    intro p1 H1 n1 s1 h1
    walk_at "my rn"
    intro p2 H2 n2 s2 h2
    have h12 := s2 _ _ h1
    walk_at "my rn"
    refine Rd.catQ (SqL.of h12) (SqL.of h2) (by decide) fun p3 H3 n3 s3 h3 => ?_
    walk_at "my rn"
    obtain ⟨j, rfl⟩ : ∃ j : Nat, x = j := ⟨x.toNat, by omega⟩
    have h3 : H3 p3 = some (.lst (calcs.map V.str)) := h3
    have jl : j < calcs.length := by show j < 17; omega
    refine Rd.ixL (v := .str calcs[j]) h3 (Rd.at_val rfl (by rw [List.getElem?_map, List.getElem?_eq_getElem jl]; rfl)) ?_
    exact q _ _ (List.getElem_mem jl) ((s1.trans s2).trans s3)
end

section
variable {P : Program} {w : World} {K : PySem.W.Frag} {mg : Str → Option Value} {base : Heap}
def Ic.OkZ : Ic → Prop
  | .set r _ => r < 4
  | .high r _ => r < 4
  | .cal _ r _ _ => r < 4
  | .load r _ => r < 4
  | .loadx r _ _ _ => r < 4
  | .inp r _ => r < 4
  | .jump p => 0 ≤ p ∧ p ≤ 16
  | .jzero _ p => 0 ≤ p ∧ p ≤ 16
  | .again _ p => 0 ≤ p ∧ p ≤ 16
  | .link p => 0 ≤ p ∧ p ≤ 16
  | _ => True
def IsI (K : PySem.W.Frag) (H : Hp) (v : V) : Prop := ∃ (t : Addr) (i : Ic), v = .ref t ∧ IcAt K H t i ∧ i.OkS ∧ i.OkZ
theorem IsI.same {K : PySem.W.Frag} {H H' : Hp} {v : V} (h : IsI K H v) (s : Same H H') : IsI K H' v := by
  obtain ⟨t, i, e, h, ok, oz⟩ := h
  exact ⟨t, i, e, s.seqT h, ok, oz⟩
theorem isI {K : PySem.W.Frag} {H : Hp} {t : Addr} (i : Ic) (h : H t = some (.tup (.str i.nm :: i.vs))) (ok : i.OkS) (oz : i.OkZ) : IsI K H (.ref t) := ⟨t, i, rfl, SqT.of h, ok, oz⟩
def sp__law_instruction (K : PySem.W.Frag) : Sp := fun vs H Q _ => ∃ (p c : Addr) (b : Int), vs = [.ref p, .int b] ∧ StOk H p c ∧ 0 ≤ b ∧ b ≤ 16 ∧ ∀ (t : Addr) (i : Ic) (H' : Hp), IcAt K H' t i → i.OkS → i.OkZ → StOk H' p c → Keep p H H' → Q (.ref t) H'
theorem ok__law_instruction (T : Top P w K mg) : FnOk P w K mg base CX0 2 T.a__law_instruction T.d__law_instruction ["state", "size"]  (sp__law_instruction K) := by
  refine T.F__law_instruction.ok sc__law_instruction (fun vs H Q E h => ?_) (fun cdv A outer s H vs Q E hr h => ?_)
  · obtain ⟨_, _, _, rfl, _⟩ := h
    rfl
  · obtain ⟨p, c, b, rfl, st0, b0, b1, q⟩ := h
    refine ⟨_, (pss_cons (ps_set (i := 2) sc__law_instruction.nd rfl (by first | exact Or.inl rfl | exact Or.inr rfl) (pe_call (ok__law_draw T) (hr.mono (by decide)) (by rfl) T.g__law_draw T.F__law_draw.kp T.b__law_draw .nil pass0 (pa_cons (pv 0) (pa_cons pe_int pa_nil))))
  (pss_cons (ps_set (i := 3) sc__law_instruction.nd rfl (by first | exact Or.inl rfl | exact Or.inr rfl) (pe_call (ok__law_draw T) (hr.mono (by decide)) (by rfl) T.g__law_draw T.F__law_draw.kp T.b__law_draw .nil pass0 (pa_cons (pv 0) (pa_cons pe_int pa_nil))))
  (pss_cons (ps_set (i := 4) sc__law_instruction.nd rfl (by first | exact Or.inl rfl | exact Or.inr rfl) (pe_call (ok__law_draw T) (hr.mono (by decide)) (by rfl) T.g__law_draw T.F__law_draw.kp T.b__law_draw .nil pass0 (pa_cons (pv 0) (pa_cons (pe_op op_add (pv 1) pe_int) pa_nil))))
  (pss_cons (ps_set (i := 5) sc__law_instruction.nd rfl (by first | exact Or.inl rfl | exact Or.inr rfl) (pe_call (ok__law_draw T) (hr.mono (by decide)) (by rfl) T.g__law_draw T.F__law_draw.kp T.b__law_draw .nil pass0 (pa_cons (pv 0) (pa_cons pe_int pa_nil))))
  (pss_cons (ps_set (i := 6) sc__law_instruction.nd rfl (by first | exact Or.inl rfl | exact Or.inr rfl) (pe_op op_add pe_int (pe_call (ok__law_draw T) (hr.mono (by decide)) (by rfl) T.g__law_draw T.F__law_draw.kp T.b__law_draw .nil pass0 (pa_cons (pv 0) (pa_cons pe_int pa_nil)))))
  (pss_cons (ps_set (i := 7) sc__law_instruction.nd rfl (by first | exact Or.inl rfl | exact Or.inr rfl) (pe_op op_sub (pe_call (ok__law_draw T) (hr.mono (by decide)) (by rfl) T.g__law_draw T.F__law_draw.kp T.b__law_draw .nil pass0 (pa_cons (pv 0) (pa_cons pe_int pa_nil))) pe_int))
  (pss_cons (ps_set (i := 8) sc__law_instruction.nd rfl (by first | exact Or.inl rfl | exact Or.inr rfl) (pe_lst (pa_cons (pe_tup (pa_cons pe_str (pa_cons (pv 2) (pa_cons (pv 7) pa_nil)))) (pa_cons (pe_tup (pa_cons pe_str (pa_cons (pv 2) (pa_cons pe_int pa_nil)))) (pa_cons (pe_tup (pa_cons pe_str (pa_cons (pv 2) (pa_cons (pv 5) pa_nil)))) (pa_cons (pe_tup (pa_cons pe_str (pa_cons (pv 2) (pa_cons (pv 5) pa_nil)))) (pa_cons (pe_tup (pa_cons pe_str (pa_cons (pv 2) (pa_cons (pv 3) (pa_cons (pv 5) (pa_cons (pv 6) pa_nil)))))) pa_nil)))))))
  (pss_cons (ps_set (i := 8) sc__law_instruction.nd rfl (by first | exact Or.inl rfl | exact Or.inr rfl) (pe_op op_catQ (pv 8) (pe_lst (pa_cons (pe_tup (pa_cons pe_str (pa_cons (pv 2) (pa_cons (pv 3) (pa_cons (pv 5) (pa_cons (pv 6) pa_nil)))))) (pa_cons (pe_tup (pa_cons pe_str (pa_cons (pv 4) pa_nil))) (pa_cons (pe_tup (pa_cons pe_str (pa_cons (pv 2) (pa_cons (pv 4) pa_nil)))) (pa_cons (pe_tup (pa_cons pe_str (pa_cons (pv 6) (pa_cons (pv 6) pa_nil)))) (pa_cons (pe_tup (pa_cons pe_str (pa_cons (pv 6) (pa_cons (pv 4) pa_nil)))) (pa_cons (pe_tup (pa_cons pe_str (pa_cons (pv 4) pa_nil))) pa_nil)))))))))
  (pss_cons (ps_set (i := 8) sc__law_instruction.nd rfl (by first | exact Or.inl rfl | exact Or.inr rfl) (pe_op op_catQ (pv 8) (pe_lst (pa_cons (pe_tup (pa_cons pe_str pa_nil)) (pa_cons (pe_tup (pa_cons pe_str pa_nil)) (pa_cons (pe_tup (pa_cons pe_str (pa_cons pe_int pa_nil))) (pa_cons (pe_tup (pa_cons pe_str (pa_cons pe_int pa_nil))) (pa_cons (pe_tup (pa_cons pe_str (pa_cons (pv 2) (pa_cons pe_int pa_nil)))) (pa_cons (pe_tup (pa_cons pe_str (pa_cons (pv 2) (pa_cons pe_int pa_nil)))) pa_nil)))))))))
  (pss_cons (ps_set (i := 9) sc__law_instruction.nd rfl (by first | exact Or.inl rfl | exact Or.inr rfl) (pe_call (ok__law_draw T) (hr.mono (by decide)) (by rfl) T.g__law_draw T.F__law_draw.kp T.b__law_draw .nil pass0 (pa_cons (pv 0) (pa_cons pe_int pa_nil))))
  (Evl.pss_cut (ps_if (pw_and (pt_cmpR op_eq (pv 9) pe_int (nomark _)) (pw_and1 (pt_cmpR op_gt (pe_call (ok__law_draw T) (hr.mono (by decide)) (by rfl) T.g__law_draw T.F__law_draw.kp T.b__law_draw .nil pass0 (pa_cons (pv 0) (pa_cons pe_int pa_nil))) pe_int (nomark _)))).pt
  (pss_one (ps_set (i := 9) sc__law_instruction.nd rfl (by first | exact Or.inl rfl | exact Or.inr rfl) pe_int))
  pss_nil)
  (pss_cons (ps_if (pt_cmpR op_ge (pv 9) pe_int (nomark _))
  (pss_one (ps_ret (pe_tup (pa_cons pe_str (pa_cons (pe_call (ok__law_operation T) (hr.mono (by decide)) (by rfl) T.g__law_operation T.F__law_operation.kp T.b__law_operation .nil pass0 (pa_cons (pe_call (ok__law_draw T) (hr.mono (by decide)) (by rfl) T.g__law_draw T.F__law_draw.kp T.b__law_draw .nil pass0 (pa_cons (pv 0) (pa_cons pe_int pa_nil))) pa_nil)) (pa_cons (pv 2) (pa_cons (pv 3) (pa_cons (pe_call (ok__law_draw T) (hr.mono (by decide)) (by rfl) T.g__law_draw T.F__law_draw.kp T.b__law_draw .nil pass0 (pa_cons (pv 0) (pa_cons pe_int pa_nil))) pa_nil))))))))
  pss_nil)
  (pss_one (ps_ret (pe_ix ix_list (pv 8) (pv 9) (fun _ _ => rfl)))))))))))))))), ?_⟩
    rw [show ∀ a0 a1 : V, L2.start ["state", "size", "r", "s", "p", "a", "n", "small", "menu", "at"] [a0, a1] = [some a0, some a1, none, none, none, none, none, none, none, none] from fun _ _ => rfl]
    walk_at "my rn"
    refine ⟨p, c, 4, rfl, st0, by decide, by decide, fun zr H1 r0 r1 st1 k1 => ?_⟩
    obtain ⟨r, rfl⟩ : ∃ j : Nat, zr = j := ⟨zr.toNat, by omega⟩
    walk_at "my rn"
    refine ⟨p, c, 4, rfl, st1, by decide, by decide, fun zs H2 s0 s1 st2 k2 => ?_⟩
    obtain ⟨s, rfl⟩ : ∃ j : Nat, zs = j := ⟨zs.toNat, by omega⟩
    walk_at "my rn"
    refine ⟨p, c, b + 1, rfl, st2, by omega, by omega, fun pv H3 p0 p1 st3 k3 => ?_⟩
    walk_at "my rn"
    refine ⟨p, c, 24, rfl, st3, by decide, by decide, fun za H4 a0 a1 st4 k4 => ?_⟩
    obtain ⟨a, rfl⟩ : ∃ j : Nat, za = j := ⟨za.toNat, by omega⟩
    walk_at "my rn"
    refine ⟨p, c, 8, rfl, st4, by decide, by decide, fun zn H5 m0 m1 st5 k5 => ?_⟩
    obtain ⟨n, en⟩ : ∃ j : Nat, 1 + zn = j := ⟨(1 + zn).toNat, by omega⟩
    walk_at "my rn"
    rw [en]
    refine ⟨p, c, 12, rfl, st5, by decide, by decide, fun zg H15 g0 g1 st15 k15 => ?_⟩
    obtain ⟨sg_, eg⟩ : ∃ j : Int, zg - 3 = j := ⟨_, rfl⟩
    walk_at "my rn"
    rw [eg]
    have K15 := k1.trans (k2.trans (k3.trans (k4.trans (k5.trans k15))))
    have r4 : r < 4 := by omega
    have r9 : r < 9 := by omega
    have s9 : s < 9 := by omega
    have a32 : a < 32 := by omega
    have an : a + n ≤ 32 := by omega
    have n1 : 1 ≤ n := by omega
    have nw : (n : Int) < 4294967296 := by omega
    have nlt : n < 16 := by omega
    have pb : 0 ≤ pv ∧ pv ≤ 16 := ⟨p0, by omega⟩
    intro a16 H16 n16 b16 h16
    walk_at "my rn"
    intro a17 H17 n17 b17 h17
    walk_at "my rn"
    intro a18 H18 n18 b18 h18
    walk_at "my rn"
    intro a19 H19 n19 b19 h19
    walk_at "my rn"
    intro a20 H20 n20 b20 h20
    walk_at "my rn"
    intro a21 H21 n21 b21 h21
    have x21_21 : Same H21 H21 := Same.refl _
    have x20_21 : Same H20 H21 := b21.trans x21_21
    have x19_21 : Same H19 H21 := b20.trans x20_21
    have x18_21 : Same H18 H21 := b19.trans x19_21
    have x17_21 : Same H17 H21 := b18.trans x18_21
    have x16_21 : Same H16 H21 := b17.trans x17_21
    have y21 : Same H15 H21 := b16.trans x16_21
    have f21 : ∀ v ∈ ([.ref a16, .ref a17, .ref a18, .ref a19, .ref a20] : List V), IsI K H21 v := by
      simp only [List.forall_mem_cons]
      exact ⟨(isI (.set r sg_) h16 (r9) (r4)).same x16_21, (isI (.high r 1) h17 (⟨r9, by decide, by decide⟩) (r4)).same x17_21, (isI (.load r a) h18 (⟨r9, a32⟩) (r4)).same x18_21, (isI (.store r a) h19 (⟨r9, a32⟩) (trivial)).same x19_21, (isI (.loadx r s a n) h20 (⟨r9, s9, n1, an⟩) (r4)).same x20_21, fun _ h => nomatch h⟩
    have g21 := f21
    have S21 : Same H15 H21 := y21
    walk_at "my rn"
    intro a22 H22 n22 b22 h22
    walk_at "my rn"
    intro a23 H23 n23 b23 h23
    walk_at "my rn"
    intro a24 H24 n24 b24 h24
    walk_at "my rn"
    intro a25 H25 n25 b25 h25
    walk_at "my rn"
    intro a26 H26 n26 b26 h26
    walk_at "my rn"
    intro a27 H27 n27 b27 h27
    walk_at "my rn"
    intro a28 H28 n28 b28 h28
    have x28_28 : Same H28 H28 := Same.refl _
    have x27_28 : Same H27 H28 := b28.trans x28_28
    have x26_28 : Same H26 H28 := b27.trans x27_28
    have x25_28 : Same H25 H28 := b26.trans x26_28
    have x24_28 : Same H24 H28 := b25.trans x25_28
    have x23_28 : Same H23 H28 := b24.trans x24_28
    have x22_28 : Same H22 H28 := b23.trans x23_28
    have y28 : Same H21 H28 := b22.trans x22_28
    have f28 : ∀ v ∈ ([.ref a22, .ref a23, .ref a24, .ref a25, .ref a26, .ref a27] : List V), IsI K H28 v := by
      simp only [List.forall_mem_cons]
      exact ⟨(isI (.storex r s a n) h22 (⟨r9, s9, n1, an⟩) (trivial)).same x22_28, (isI (.jump pv) h23 (trivial) (pb)).same x23_28, (isI (.jzero r pv) h24 (r9) (pb)).same x24_28, (isI (.count n n) h25 (⟨nlt, by omega, nw⟩) (trivial)).same x25_28, (isI (.again n pv) h26 (nlt) (pb)).same x26_28, (isI (.link pv) h27 (trivial) (pb)).same x27_28, fun _ h => nomatch h⟩
    walk_at "my rn"
    refine Rd.catQ (SqL.of (y28 _ _ h21)) (SqL.of h28) (Nat.le_of_ble_eq_true rfl) fun a29 H29 n29 b29 h29 => ?_
    have g29 : ∀ v ∈ _, IsI K H29 v := List.forall_mem_append.mpr ⟨fun v m => (g21 v m).same (y28.trans b29), fun v m => (f28 v m).same b29⟩
    have S29 : Same H15 H29 := S21.trans (y28.trans b29)
    walk_at "my rn"
    intro a30 H30 n30 b30 h30
    walk_at "my rn"
    intro a31 H31 n31 b31 h31
    walk_at "my rn"
    intro a32 H32 n32 b32 h32
    walk_at "my rn"
    intro a33 H33 n33 b33 h33
    walk_at "my rn"
    intro a34 H34 n34 b34 h34
    walk_at "my rn"
    intro a35 H35 n35 b35 h35
    walk_at "my rn"
    intro a36 H36 n36 b36 h36
    have x36_36 : Same H36 H36 := Same.refl _
    have x35_36 : Same H35 H36 := b36.trans x36_36
    have x34_36 : Same H34 H36 := b35.trans x35_36
    have x33_36 : Same H33 H36 := b34.trans x34_36
    have x32_36 : Same H32 H36 := b33.trans x33_36
    have x31_36 : Same H31 H36 := b32.trans x32_36
    have x30_36 : Same H30 H36 := b31.trans x31_36
    have y36 : Same H29 H36 := b30.trans x30_36
    have f36 : ∀ v ∈ ([.ref a30, .ref a31, .ref a32, .ref a33, .ref a34, .ref a35] : List V), IsI K H36 v := by
      simp only [List.forall_mem_cons]
      exact ⟨(isI (.back) h30 (trivial) (trivial)).same x30_36, (isI (.done) h31 (trivial) (trivial)).same x31_36, (isI (.enter 1) h32 (trivial) (trivial)).same x32_36, (isI (.leave 1) h33 (trivial) (trivial)).same x33_36, (isI (.inp r 0) h34 (⟨r9, by decide⟩) (r4)).same x34_36, (isI (.outp r 0) h35 (⟨r9, by decide⟩) (trivial)).same x35_36, fun _ h => nomatch h⟩
    walk_at "my rn"
    refine Rd.catQ (SqL.of (y36 _ _ h29)) (SqL.of h36) (Nat.le_of_ble_eq_true rfl) fun a37 H37 n37 b37 h37 => ?_
    have g37 : ∀ v ∈ _, IsI K H37 v := List.forall_mem_append.mpr ⟨fun v m => (g29 v m).same (y36.trans b37), fun v m => (f36 v m).same b37⟩
    have S37 : Same H15 H37 := S29.trans (y36.trans b37)
    walk_at "my rn"
    have stC := st15.same S37
    have ne := (st15.same (S29.trans y36)).ne n37
    refine ⟨p, c, 27, rfl, stC, by decide, by decide, fun v Hv v0 v1 stv kv => ?_⟩
    have Kv := K15.trans ((Keep.same S37).trans kv)
    have hCv := kv _ _ ne.1 h37
    have gv : ∀ e ∈ _, IsI K Hv e := fun e m => by
      obtain ⟨ti, i, e1, hi, ok, oz⟩ := g37 e m
      exact ⟨ti, i, e1, kv.seqT stC hi, ok, oz⟩
    walk_at "my rn"
    refine ⟨fun σ' H' => ∃ y : Int, σ' = [some (.ref p), some (.int b), some (.int (r : Int)), some (.int (s : Int)), some (.int pv), some (.int (a : Int)), some (.int (n : Int)), some (.int sg_), some (.ref a37), some (.int y)] ∧ 0 ≤ y ∧ StOk H' p c ∧ Keep p Hv H', ?_, ?_⟩
    · walk_at "my rn"
      refine Rd.ifD (fun e => ?_) fun e => ?_
      · walk_at "my rn"
        refine ⟨p, c, 3, rfl, stv, by decide, by decide, fun v2 Hw v20 v21 stw kw => ?_⟩
        walk_at "my rn"
        refine Rd.ifD (fun e2 => ?_) fun e2 => ?_
        · walk_at "my rn"
          exact ⟨_, rfl, by decide, stw, kw⟩
        · walk_at "my rn"
          exact ⟨_, rfl, v0, stw, kw⟩
      · walk_at "my rn"
        exact ⟨_, rfl, v0, stv, Keep.refl _ _⟩
    · rintro σ' Hw ⟨y, rfl, y0, stw, kw⟩
      have Kw_ := Kv.trans kw
      walk_at "my rn"
      refine Rd.ifD (fun e => ?_) fun e => ?_
      · walk_at "my rn"
        refine ⟨p, c, 17, rfl, stw, by decide, by decide, fun v2 Hx v20 v21 stx kx => ?_⟩
        walk_at "my rn"
        refine ⟨v2, rfl, v20, v21, fun z Hz hz sz => ?_⟩
        walk_at "my rn"
        refine ⟨p, c, 4, rfl, stx.same sz, by decide, by decide, fun v3 Hy v30 v31 sty ky => ?_⟩
        obtain ⟨t, rfl⟩ : ∃ j : Nat, v3 = j := ⟨v3.toNat, by omega⟩
        walk_at "my rn"
        intro pt Hp_ np sp_ hp
        exact q pt (.cal z r s t) Hp_ (SqT.of hp) ⟨hz, r9, s9, by omega⟩ r4 (sty.same sp_) (Kw_.trans (kx.trans ((Keep.same sz).trans (ky.trans (Keep.same sp_)))))
      · walk_at "my rn"
        obtain ⟨x, me, he⟩ := at_memH hCv (n := 17) rfl y0 (by omega)
        refine Rd.ixL (kw _ _ ne.1 hCv) he ?_
        obtain ⟨ti, i, rfl, hi, ok, oz⟩ := gv x me
        exact q ti i Hw (kw.seqT stv hi) ok oz stw Kw_
end


set_option Elab.async false
set_option linter.all false
set_option maxRecDepth 100000
set_option maxHeartbeats 1000000








section
variable {P : Program} {w : World} {K : PySem.W.Frag} {mg : Str → Option Value} {base : Heap}
def sp__work (K : PySem.W.Frag) (Co Bo Ca : Addr) : Sp := fun vs H Q _ => ∃ (t oc ob c1 c2 : Addr) (i : Ic) (A : Mad) (d1 d2 : Cd) (m : Ms) (x : Int), vs = [.ref t, .ref oc, .ref ob] ∧ IcAt K H t i ∧ i.Ok ∧ i.isAcc = false ∧ i.isBr = false ∧ i.isJmp = false ∧ Brd Co Bo Ca H oc ob c1 c2 A d1 d2 m (x + 1) ∧ (0 ≤ x ∧ x < 100000) ∧
  (∀ l ∈ m.outs, l.length ≤ 1000) ∧ ∀ H', Brd Co Bo Ca H' oc ob c1 c2 A d1 d2 (i.exec m x).1 (x + 1) → Touch A.all H H' → Q .non H'
theorem ok__work (T : Top P w K mg) : FnOk P w K mg base CX0 5 T.a__work T.d__work ["instruction", "core", "board"]  (sp__work K T.C_Core T.C_Board T.C_Cache) := by
  refine T.F__work.ok sc__work (fun vs H Q E h => ?_) (fun cdv A outer s H vs Q E hr h => ?_)
  · obtain ⟨_, _, _, _, _, _, _, _, _, _, _, rfl, _⟩ := h
    rfl
  · obtain ⟨t, oc, ob, c1, c2, i, A, d1, d2, m, x, rfl, ht, ok, k1, k2, k3, b, hx, ho_, q⟩ := h
    refine ⟨_, (pss_one (ps_matchQ rfl (pv 0)
  (PCq.seq (PMs.txt (PMs.cap (i := 3) sc__work.nd rfl (by first | exact Or.inl rfl | exact Or.inr rfl) (by first | exact Or.inl rfl | exact Or.inr rfl) (PMs.cap (i := 4) sc__work.nd rfl (by first | exact Or.inl rfl | exact Or.inr rfl) (by first | exact Or.inl rfl | exact Or.inr rfl) PMs.nil))) (pss_one (ps_expr (pe_meth (pv 1) T.cl_Core T.m_Core_put (ok_Core_put T) (hr.mono (by decide)) T.b_Core_put .nil pass0 (pa_cons (pv 3) (pa_cons (pe_call (ok_wrap T) (hr.mono (by decide)) (by rfl) T.g_wrap T.F_wrap.kp T.b_wrap .nil pass0 (pa_cons (pv 4) pa_nil)) pa_nil)))))
  (PCq.seq (PMs.txt (PMs.cap (i := 3) sc__work.nd rfl (by first | exact Or.inl rfl | exact Or.inr rfl) (by first | exact Or.inl rfl | exact Or.inr rfl) (PMs.cap (i := 4) sc__work.nd rfl (by first | exact Or.inl rfl | exact Or.inr rfl) (by first | exact Or.inl rfl | exact Or.inr rfl) PMs.nil))) (pss_one (ps_expr (pe_meth (pv 1) T.cl_Core T.m_Core_put (ok_Core_put T) (hr.mono (by decide)) T.b_Core_put .nil pass0 (pa_cons (pv 3) (pa_cons (pe_op op_add (pe_op op_mod (pe_ix ix_list (pe_fld (pv 1) rfl) (pv 3) (fun _ _ => rfl)) (pe_gi (by rfl) T.c_LOW_HALF)) (pe_op op_mul (pv 4) (pe_gi (by rfl) T.c_LOW_HALF))) pa_nil)))))
  (PCq.seq (PMs.txt (PMs.cap (i := 5) sc__work.nd rfl (by first | exact Or.inl rfl | exact Or.inr rfl) (by first | exact Or.inl rfl | exact Or.inr rfl) (PMs.cap (i := 3) sc__work.nd rfl (by first | exact Or.inl rfl | exact Or.inr rfl) (by first | exact Or.inl rfl | exact Or.inr rfl) (PMs.cap (i := 6) sc__work.nd rfl (by first | exact Or.inl rfl | exact Or.inr rfl) (by first | exact Or.inl rfl | exact Or.inr rfl) (PMs.cap (i := 7) sc__work.nd rfl (by first | exact Or.inl rfl | exact Or.inr rfl) (by first | exact Or.inl rfl | exact Or.inr rfl) PMs.nil))))) (pss_one (ps_expr (pe_meth (pv 1) T.cl_Core T.m_Core_put (ok_Core_put T) (hr.mono (by decide)) T.b_Core_put .nil pass0 (pa_cons (pv 3) (pa_cons (pe_call (ok__calculated T) (hr.mono (by decide)) (by rfl) T.g__calculated T.F__calculated.kp T.b__calculated .nil pass0 (pa_cons (pv 5) (pa_cons (pe_ix ix_list (pe_fld (pv 1) rfl) (pv 6) (fun _ _ => rfl)) (pa_cons (pe_ix ix_list (pe_fld (pv 1) rfl) (pv 7) (fun _ _ => rfl)) pa_nil)))) pa_nil)))))
  (PCq.seq (PMs.txt (PMs.cap (i := 8) sc__work.nd rfl (by first | exact Or.inl rfl | exact Or.inr rfl) (by first | exact Or.inl rfl | exact Or.inr rfl) (PMs.cap (i := 4) sc__work.nd rfl (by first | exact Or.inl rfl | exact Or.inr rfl) (by first | exact Or.inl rfl | exact Or.inr rfl) PMs.nil))) (pss_one (ps_asg (pv 4) (pg_sub (pe_fld (pv 2) rfl) (pv 8) set_list)))
  (PCq.seq (PMs.txt (PMs.cap (i := 3) sc__work.nd rfl (by first | exact Or.inl rfl | exact Or.inr rfl) (by first | exact Or.inl rfl | exact Or.inr rfl) (PMs.cap (i := 9) sc__work.nd rfl (by first | exact Or.inl rfl | exact Or.inr rfl) (by first | exact Or.inl rfl | exact Or.inr rfl) PMs.nil))) (pss_one (ps_expr (pe_meth (pv 1) T.cl_Core T.m_Core_put (ok_Core_put T) (hr.mono (by decide)) T.b_Core_put .nil pass0 (pa_cons (pv 3) (pa_cons (pe_meth (pv 2) T.cl_Board T.m_Board_take (ok_Board_take T) (hr.mono (by decide)) T.b_Board_take .nil pass0 (pa_cons (pv 9) pa_nil)) pa_nil)))))
  (PCq.seq (PMs.txt (PMs.cap (i := 3) sc__work.nd rfl (by first | exact Or.inl rfl | exact Or.inr rfl) (by first | exact Or.inl rfl | exact Or.inr rfl) (PMs.cap (i := 9) sc__work.nd rfl (by first | exact Or.inl rfl | exact Or.inr rfl) (by first | exact Or.inl rfl | exact Or.inr rfl) PMs.nil))) (pss_one (ps_expr (pe_bm PySem.F.plainAttrs_list PySem.F.slot_list_append PySem.F.type_list_append mt_append (pe_ix ix_list (pe_fld (pv 2) rfl) (pv 9) (fun _ _ => rfl)) (pa_cons (pe_ix ix_list (pe_fld (pv 1) rfl) (pv 3) (fun _ _ => rfl)) pa_nil))))
  PCq.nil)))))))), ?_⟩
    rw [show ∀ a0 a1 a2 : V, L2.start ["instruction", "core", "board", "r", "n", "operation", "s", "t", "c", "q"] [a0, a1, a2] = [some a0, some a1, some a2, none, none, none, none, none, none, none] from fun _ _ _ => rfl]
    obtain ⟨dx, ho⟩ := id b.core
    obtain ⟨dy, hb⟩ := id b.board
    obtain ⟨f1, f2⟩ := corF_at (a := x + 1) (R := A.R)
    obtain ⟨g1, g2, g3, g4, g5, g6, g7⟩ := brdF_at (A := A) (c1 := c1) (c2 := c2)
    have fno := @corF_no (x + 1) A.R
    have kc := T.cl_Core
    have kb := T.cl_Board
    have nr := T.n_Core_registers
    have n1 := T.n_Board_counters
    have n2 := T.n_Board_outputs
    have cor : ∀ {H1 : Hp}, Touch A.all H H1 → H1 oc = some (.ins T.C_Core dx (corF (x + 1) A.R)) := fun {H1} t => t oc _ (fun z => by
      obtain ⟨xs, e⟩ := b.mem.isList z
      rw [ho] at e; cases e) ho
    have fin_ : ∀ (H' : Hp), Mem H' A (i.exec m x).1 → Touch A.all H H' → Q .non H' := fun H' hm t => q H' (b.stepMem hm t (exec_words ok b.words hx)) t
    cases i
    case set r n =>
      have ht' : SqT K H t [.str "set", nI r, .int n] := ht
      walk_at "my rn"
      refine ⟨_, rfl, ?_⟩
      walk_at "my rn"
      refine ⟨oc, x + 1, A, m, r, _, rfl, ⟨dx, ho⟩, b.mem, ok, fun H1 hm1 t1 => ?_⟩
      exact fin_ H1 hm1 (t1.mono fun a h => by rw [List.mem_singleton.mp h]; exact isAll.1)
    case high r n =>
      have ht' : SqT K H t [.str "high", nI r, .int n] := ht
      walk_at "my rn"
      refine Rd.ixL b.mem.hR (b.mem.ixR ok.1) ?_
      walk_at "my rn"
      refine ⟨oc, x + 1, A, m, r, _, rfl, ⟨dx, ho⟩, b.mem, ok.1, fun H1 hm1 t1 => ?_⟩
      exact fin_ H1 hm1 (t1.mono fun a h => by rw [List.mem_singleton.mp h]; exact isAll.1)
    case cal op r s t2 =>
      have ht' : SqT K H t [.str "calc", .str op, nI r, nI s, nI t2] := ht
      walk_at "my rn"
      refine Rd.ixL b.mem.hR (b.mem.ixR ok.2.2.1) ?_
      walk_at "my rn"
      refine Rd.ixL b.mem.hR (b.mem.ixR ok.2.2.2) ?_
      walk_at "my rn"
      refine ⟨op, _, _, rfl, ok.1, b.words.reg _, b.words.reg _, ?_⟩
      walk_at "my rn"
      refine ⟨oc, x + 1, A, m, r, _, rfl, ⟨dx, ho⟩, b.mem, ok.2.1, fun H1 hm1 t1 => ?_⟩
      exact fin_ H1 hm1 (t1.mono fun a h => by rw [List.mem_singleton.mp h]; exact isAll.1)
    case count c n =>
      have ht' : SqT K H t [.str "count", nI c, .int n] := ht
      walk_at "my rn"
      have cl : c < m.ctrs.length := by rw [b.mem.lN]; exact ok.1
      refine Rd.setL (j := c) b.mem.hN (Evl.ixN_nat (by rw [List.length_map]; exact cl)) ?_
      rw [← List.map_set]
      walk_at "my rn"
      exact fin_ _ (b.mem.setN (by rw [List.length_set]; exact b.mem.lN)) fun z y nz e => by rw [upd_ne (fun w => nz (by rw [w]; exact isAll.2.2.1))]; exact e
    case inp r p =>
      have ht' : SqT K H t [.str "in", nI r, nI p] := ht
      walk_at "my rn"
      refine ⟨ob, c1, c2, A, m, p, rfl, ⟨dy, hb⟩, b.mem, ok.2, fun H1 hm1 t1 => ?_⟩
      have t1' : Touch A.all H H1 := t1.mono isAll.2.2.2.1
      have ho1 := cor t1'
      walk_at "my rn"
      refine ⟨oc, x + 1, A, (m.take p).2, r, _, rfl, ⟨dx, ho1⟩, hm1, ok.1, fun H2 hm2 t2 => ?_⟩
      exact fin_ H2 hm2 (t1'.trans (t2.mono fun a h => by rw [List.mem_singleton.mp h]; exact isAll.1))
    case outp r p =>
      have ht' : SqT K H t [.str "out", nI r, nI p] := ht
      walk_at "my rn"
      obtain ⟨lb, lr, e1, e2, hl⟩ := b.mem.osAt (q := p) ok.2
      refine Rd.ixL b.mem.hO (v := .ref lb) (Rd.at_val rfl (by rw [List.getElem?_map, e1]; rfl)) ?_
      walk_at "my rn"
      refine Rd.ixL b.mem.hR (b.mem.ixR ok.1) ?_
      walk_at "my rn"
      have fin' : ∀ (H' : Hp), Mem H' A { m with outs := m.outs.set p (lr ++ [m.reg r]) } → Touch A.all H H' → Q .non H' := by
        have z : ((Ic.outp r p).exec m x).1 = { m with outs := m.outs.set p (lr ++ [m.reg r]) } := by show ({ m with outs := m.outs.set p (((m.outs[p]?).getD []) ++ [m.reg r]) } : Ms) = _; rw [e2]; rfl
        rw [z] at fin_
        exact fin_
      refine Rd.app hl (by rw [List.length_map]; have := ho_ lr (List.mem_of_getElem? e2); exact Rd.szl (by omega)) ?_
      rw [show lr.map V.int ++ [V.int (m.reg r)] = (lr ++ [m.reg r]).map V.int by simp]
      walk_at "my rn"
      exact fin' _ (b.mem.setO e1) fun z y nz e => by rw [upd_ne (fun w => nz (by rw [w]; exact isAll.2.2.2.2 _ (List.mem_of_getElem? e1)))]; exact e
    case done =>
      have ht' : SqT K H t [.str "done"] := ht
      walk_at "my rn"
      exact fin_ H b.mem (Touch.refl _ _)
    case enter o =>
      have ht' : SqT K H t [.str "enter", .int o] := ht
      walk_at "my rn"
      exact fin_ H b.mem (Touch.refl _ _)
    case leave o =>
      have ht' : SqT K H t [.str "leave", .int o] := ht
      walk_at "my rn"
      exact fin_ H b.mem (Touch.refl _ _)
    case load => cases k1
    case loadx => cases k1
    case store => cases k1
    case storex => cases k1
    case jzero => cases k2
    case again => cases k2
    case jump => cases k3
    case link => cases k3
    case back => cases k3
end


set_option Elab.async false
set_option linter.all false
set_option maxRecDepth 100000
set_option maxHeartbeats 1000000








section
variable {P : Program} {w : World} {K : PySem.W.Frag} {mg : Str → Option Value} {base : Heap}
def fits (x : Int) (ts : List Addr) : Bool := decide (0 ≤ x) && decide (x < (ts.length : Int))
def Ic.lh (i : Ic) (m : Ms) (d2 : Cd) : Bool := if i.isAcc then d2.hit (i.addr m) else true
def Ic.tk (i : Ic) (m : Ms) (x : Int) : Bool := if i.isBr then (i.exec m x).2.2 else false
def FaG (K : PySem.W.Frag) (f : Str) (tv : TE) (rd : V → V → Hp → VK → Prop) (D : Ends) (σ : L2.St) (x : V) (H1 : Hp) : Prop := ∃ a C dx fs v, x = .ref a ∧ H1 a = some (.ins C dx fs) ∧ Cls K C ∧ NoAttr K C f ∧ fs.lookup f = some v ∧
  tv σ H1 fun y H2 => rd v y H2 fun z H3 => ∃ dx' fs', H3 a = some (.ins C dx' fs') ∧ fs'.length < 1000 ∧ D.nx σ (upd H3 a (.ins C dx' (putF f z fs')))
theorem fa_rd {K : PySem.W.Frag} {ta tv : TE} {rd : V → V → Hp → VK → Prop} {f : Str} {D : Ends} {σ : L2.St} {H : Hp} (h : ta σ H fun x H1 => FaG K f tv rd D σ x H1) : sFldAug K ta tv rd f D σ H := h
theorem mem_acc (i : Ic) : decide (i.nm ∈ (["load", "store", "loadx", "storex"] : List Str)) = i.isAcc := by cases i <;> with_unfolding_all rfl
theorem mem_br (i : Ic) : decide (i.nm ∈ (["jzero", "again"] : List Str)) = i.isBr := by cases i <;> with_unfolding_all rfl
theorem mem_jmp (i : Ic) : decide (i.nm ∈ (["jump", "link", "back"] : List Str)) = i.isJmp := by cases i <;> with_unfolding_all rfl
theorem acc_exec {i : Ic} (h : i.isAcc = true) (m : Ms) (x y : Int) : (i.exec m y).1 = (i.exec m x).1 ∧ (i.exec m x).2.1 = x + 1 := by cases i <;> first | (cases h; done) | exact ⟨rfl, rfl⟩
theorem nacc {i : Ic} (h : i.isAcc = false) (m : Ms) (d : Cd) : accD i m d = d := by cases i <;> first | (cases h; done) | rfl
theorem work_exec {i : Ic} (h2 : i.isBr = false) (h3 : i.isJmp = false) (m : Ms) (x : Int) : (i.exec m x).2.1 = x + 1 := by cases i <;> first | (cases h2; done) | (cases h3; done) | rfl
theorem costs_core {Cc Co : Addr} {H : Hp} {a b : Addr} {c : Cost} {x : Int} {R : Addr} (h : CostsAt Cc H a c) (h2 : CoreAt Co H b x R) : a ≠ b := fun z => by
  obtain ⟨d1, e1⟩ := h
  obtain ⟨d2, e2⟩ := h2
  rw [z, e2] at e1
  have := congrArg (fun o => match o with | some (HO.ins _ _ fs) => fs.length | _ => 0) e1
  simp [corF, Cost.fs] at this
theorem CostsAt.touch {C : Addr} {H H' : Hp} {o : Addr} {c : Cost} {ls : List Addr} (h : CostsAt C H o c) (t : Touch ls H H') (n : o ∉ ls) : CostsAt C H' o c := by
  obtain ⟨d, e⟩ := h
  exact ⟨d, t _ _ n e⟩
def sp_step (K : PySem.W.Frag) (Cc Co Bo Ca : Addr) : Sp := fun vs H Q _ => ∃ (cs L oc ob c1 c2 : Addr) (c : Cost) (ts : List Addr) (A : Mad) (d1 d2 : Cd) (m : Ms) (x : Int), vs = [.ref cs, .ref L, .ref oc, .ref ob] ∧ CostsAt Cc H cs c ∧ SqL K H L (ts.map V.ref) ∧ Brd Co Bo Ca H oc ob c1 c2 A d1 d2 m x ∧ (0 ≤ x ∧ x < 99999) ∧ (∀ l ∈ m.outs, l.length ≤ 1000) ∧
  (¬ x < (ts.length : Int) → ∀ p H', H p = none → Same H H' → H' p = some (.tup [.int 0, .non]) → Q (.ref p) H') ∧
  ∀ (j : Nat) (t : Addr), x = j → ts[j]? = some t → ∃ i : Ic, IcAt K H t i ∧ i.Ok ∧ ∀ p H1 H', Brd Co Bo Ca H1 oc ob c1 c2 A (d1.used x) (accD i m d2) (i.exec m x).1 (i.exec m x).2.1 → Touch (Brd.own oc A d1 d2) H H1 → H1 p = none → Same H1 H' →
    H' p = some (.tup [.int (iCost c i.nm i.op (d1.hit x) (i.lh m d2) (i.tk m x)), .ref t]) → Q (.ref p) H'
theorem ok_step (T : Top P w K mg) : FnOk P w K mg base CX0 6 T.a_step T.d_step ["costs", "code", "core", "board"]  (sp_step K T.C_Costs T.C_Core T.C_Board T.C_Cache) := by
  refine T.F_step.ok sc_step (fun vs H Q E h => ?_) (fun cdv A outer s H vs Q E hr h => ?_)
  · obtain ⟨_, _, _, _, _, _, _, _, _, _, _, _, _, rfl, _⟩ := h
    rfl
  · obtain ⟨cs, L, oc, ob, c1, c2, c, ts, A, d1, d2, m, x, rfl, hcs, hL, b, hx, ho_, qe, q⟩ := h
    refine ⟨_, (pss_cons (ps_if (pt_not (pt_chain op_le op_lt pe_int (pe_fld (pv 2) rfl) (pe_callB call_len_seq (by rfl) T.m_len PySem.boot_len (pa_cons (pv 1) pa_nil))))
  (pss_one (ps_ret (pe_tup (pa_cons pe_int (pa_cons pe_non pa_nil)))))
  pss_nil)
  (pss_cons (ps_set (i := 4) sc_step.nd rfl (by first | exact Or.inl rfl | exact Or.inr rfl) (pe_ix ix_list (pv 1) (pe_fld (pv 2) rfl) (fun _ _ => rfl)))
  (pss_cons (ps_set (i := 5) sc_step.nd rfl (by first | exact Or.inl rfl | exact Or.inr rfl) (pe_meth (pe_fld (pv 3) rfl) T.cl_Cache T.m_Cache_read (ok_Cache_read T) (hr.mono (by decide)) T.b_Cache_read .nil pass0 (pa_cons (pe_fld (pv 2) rfl) pa_nil)))
  (pss_cons (ps_fldaug (pv 2) pe_int in_add)
  (pss_cons (ps_set (i := 6) sc_step.nd rfl (by first | exact Or.inl rfl | exact Or.inr rfl) pe_bl)
  (pss_cons (ps_set (i := 7) sc_step.nd rfl (by first | exact Or.inl rfl | exact Or.inr rfl) pe_bl)
  (pss_cons (ps_if (pt_cmpR op_in_seq (pe_ix ix_tup (pv 4) pe_int (fun _ _ => rfl)) (pe_gr (by rfl) T.c_ACCESSES) (by with_unfolding_all rfl))
  (pss_one (ps_set (i := 6) sc_step.nd rfl (by first | exact Or.inl rfl | exact Or.inr rfl) (pe_call (ok__access T) (hr.mono (by decide)) (by rfl) T.g__access T.F__access.kp T.b__access .nil pass0 (pa_cons (pv 4) (pa_cons (pv 2) (pa_cons (pv 3) pa_nil))))))
  (pss_one (ps_if (pt_cmpR op_in_seq (pe_ix ix_tup (pv 4) pe_int (fun _ _ => rfl)) (pe_gr (by rfl) T.c_TAKEN_AT_TIMES) (by with_unfolding_all rfl))
  (pss_one (ps_set (i := 7) sc_step.nd rfl (by first | exact Or.inl rfl | exact Or.inr rfl) (pe_call (ok__branch T) (hr.mono (by decide)) (by rfl) T.g__branch T.F__branch.kp T.b__branch .nil pass0 (pa_cons (pv 4) (pa_cons (pv 2) (pa_cons (pv 3) pa_nil))))))
  (pss_one (ps_if (pt_cmpR op_in_seq (pe_ix ix_tup (pv 4) pe_int (fun _ _ => rfl)) (pe_gr (by rfl) T.c_ALWAYS_TAKEN) (by with_unfolding_all rfl))
  (pss_one (ps_expr (pe_call (ok__jump T) (hr.mono (by decide)) (by rfl) T.g__jump T.F__jump.kp T.b__jump .nil pass0 (pa_cons (pv 4) (pa_cons (pv 2) pa_nil)))))
  (pss_one (ps_expr (pe_call (ok__work T) (hr.mono (by decide)) (by rfl) T.g__work T.F__work.kp T.b__work .nil pass0 (pa_cons (pv 4) (pa_cons (pv 2) (pa_cons (pv 3) pa_nil)))))))))))
  (pss_cons (ps_set (i := 8) sc_step.nd rfl (by first | exact Or.inl rfl | exact Or.inr rfl) (pe_callN (ok_instruction_cost T) (hr.mono (by decide)) (by rfl) T.g_instruction_cost T.F_instruction_cost.kp (kb_instruction_cost_0 T.F_instruction_cost).choose_spec pass0 (pa_cons (pv 0) (pa_cons (pv 4) pa_nil)) (pk_cons (pv 5) (pk_cons (pv 6) (pk_cons (pv 7) pk_nil)))))
  (pss_one (ps_ret (pe_tup (pa_cons (pv 8) (pa_cons (pv 4) pa_nil))))))))))))), ?_⟩
    rw [show ∀ a0 a1 a2 a3 : V, L2.start ["costs", "code", "core", "board", "instruction", "fetch_hit", "load_hit", "taken", "cost"] [a0, a1, a2, a3] = [some a0, some a1, some a2, some a3, none, none, none, none, none] from fun _ _ _ _ => rfl]
    obtain ⟨dx, ho⟩ := id b.core
    obtain ⟨dy, hb⟩ := id b.board
    obtain ⟨f1, f2⟩ := corF_at (a := x) (R := A.R)
    obtain ⟨g1, g2, g3, g4, g5, g6, g7⟩ := brdF_at (A := A) (c1 := c1) (c2 := c2)
    have kc := T.cl_Core
    have kb := T.cl_Board
    have nr := T.n_Core_at
    have n1 := T.n_Board_code_cache
    walk_at "my rn"
    rw [if_pos (decide_eq_true hx.1)]
    walk_at "my rn"
    rw [List.length_map]
    by_cases hlt : x < (ts.length : Int)
    · obtain ⟨j, ej⟩ : ∃ j : Nat, x = j := ⟨x.toNat, by omega⟩
      have jl : j < ts.length := by omega
      obtain ⟨i, hi, ok, qi⟩ := q j ts[j] ej (List.getElem?_eq_getElem jl)
      have hti : atI (ts.map V.ref) x = some (.ref ts[j]) := Rd.at_val ej (by rw [List.getElem?_map, List.getElem?_eq_getElem jl]; rfl)
      rw [decide_eq_true hlt]
      walk_at "my rn"
      refine Rd.ixLq hL hti ?_
      obtain ⟨dc, hc⟩ := id b.k1.c.ob
      have kno : (cf d1.S d1.W d1.z d1.R).lookup ("read" : Str) = none := cf_no
      obtain ⟨ne1, ne2, ne3⟩ := b.coreNe
      have hiT : SqT K H ts[j] (.str i.nm :: i.vs) := hi
      walk_at "my rn"
      refine ⟨c1, d1.R, d1.ls, d1.S, d1.W, d1.z, d1.rows, _, rfl, b.k1.c, b.k1.ok, b.k1.few4, fun H2 hc2 t2 => ?_⟩
      have b2 : Brd T.C_Core T.C_Board T.C_Cache H2 oc ob c1 c2 A (d1.used x) d2 m x := b.stepC1 (rows := usedRows d1.rows d1.S d1.W (x / d1.z)) ⟨hc2, b.k1.ok, used_few b.k1 x⟩ t2
      obtain ⟨dx2, ho2⟩ := id b2.core
      have hit2 : SqT K H2 ts[j] (.str i.nm :: i.vs) := sqT_touch t2 hiT fun a ha => b.k1.c.isList ha
      walk_at "my rn"
      refine fa_rd ?_
      walk_at "my rn"
      refine ⟨oc, T.C_Core, dx2, corF x A.R, .int x, rfl, ho2, kc, nr, f1, ?_⟩
      refine ⟨x, 1, rfl, rfl, dx2, corF x A.R, ho2, Nat.le_of_ble_eq_true rfl, ?_⟩
      rw [corF_put]
      have b3 := b2.stepAt (x := x + 1) ho2 ne1 ne2 ne3
      obtain ⟨H3, eh⟩ : ∃ H3, H3 = upd H2 oc (.ins T.C_Core dx2 (corF (x + 1) A.R)) := ⟨_, rfl⟩
      rw [← eh] at b3 ⊢
      have hit3 : SqT K H3 ts[j] (.str i.nm :: i.vs) := by
        rcases hit2 with e | e
        · rcases e with e | ⟨o, e⟩
          · exact .inl (.inl (by rw [eh, upd_ne (fun z => by rw [z, ho2] at e; cases e)]; exact e))
          · exact .inl (.inr ⟨o, by rw [eh, upd_ne (fun z => by rw [z, ho2] at e; cases e)]; exact e⟩)
        · exact .inr e
      have lsd : ∀ a ∈ d1.ls, a ∈ Brd.own oc A d1 d2 := fun a h => by simp [Brd.own, h]
      have t3 : Touch (Brd.own oc A d1 d2) H H3 := fun z y nz e => by
        rw [eh, upd_ne (fun w => nz (by rw [w]; exact List.mem_cons_self ..))]
        exact t2 z y (fun w => nz (lsd z w)) e
      have own_ls : ∀ a ∈ A.all ++ d2.ls, a ∈ Brd.own oc A d1 d2 := fun a h => by
        rcases List.mem_append.mp h with h | h <;> simp [Brd.own, h]
      have ncs : ∀ {H1 : Hp}, Touch (Brd.own oc A d1 d2) H H1 → CostsAt T.C_Costs H1 cs c := fun {H1} t => hcs.touch t fun z => by
        rcases List.mem_cons.mp z with z | z
        · exact costs_core hcs ⟨dx, ho⟩ z
        · obtain ⟨dc, ec⟩ := hcs
          rcases List.mem_append.mp z with z | z
          · obtain ⟨xs, e⟩ := b.mem.isList z
            rw [ec] at e; cases e
          · rcases List.mem_append.mp z with z | z
            · obtain ⟨xs, e⟩ := b.k1.c.isList z
              rw [ec] at e; cases e
            · obtain ⟨xs, e⟩ := b.k2.c.isList z
              rw [ec] at e; cases e
      have nit : ∀ {H1 : Hp}, Touch (Brd.own oc A d1 d2) H H1 → IcAt K H1 ts[j] i := fun {H1} t => by
        have off : ∀ {y}, H ts[j] = some y → (∀ xs, y ≠ .lst xs) → (∀ C d f, y ≠ .ins C d f) → ts[j] ∉ Brd.own oc A d1 d2 := fun {y} ec n1 n2 z => by
          rcases List.mem_cons.mp z with z | z
          · rw [z, ho] at ec; exact n2 _ _ _ (Option.some.inj ec).symm
          · rcases List.mem_append.mp z with z | z
            · obtain ⟨xs, e⟩ := b.mem.isList z
              rw [ec] at e; exact n1 _ (Option.some.inj e)
            · rcases List.mem_append.mp z with z | z
              · obtain ⟨xs, e⟩ := b.k1.c.isList z
                rw [ec] at e; exact n1 _ (Option.some.inj e)
              · obtain ⟨xs, e⟩ := b.k2.c.isList z
                rw [ec] at e; exact n1 _ (Option.some.inj e)
        rcases hiT with e | e
        · rcases e with e | ⟨o, e⟩
          · exact .inl (.inl (t _ _ (off e (fun _ z => by cases z) (fun _ _ _ z => by cases z)) e))
          · exact .inl (.inr ⟨o, t _ _ (off e (fun _ z => by cases z) (fun _ _ _ z => by cases z)) e⟩)
        · exact .inr e
      have end_ : ∀ (H4 : Hp), Brd T.C_Core T.C_Board T.C_Cache H4 oc ob c1 c2 A (d1.used x) (accD i m d2) (i.exec m x).1 (i.exec m x).2.1 → Touch (Brd.own oc A d1 d2) H H4 → ∀ p H5, H4 p = none → Same H4 H5 → H5 p = some (.tup [.int (iCost c i.nm i.op (d1.hit x) (i.lh m d2) (i.tk m x)), .ref ts[j]]) → Q (.ref p) H5 := fun H4 b4 t4 p H5 np s5 hp => qi p H4 H5 b4 t4 np s5 hp
      walk_at "my rn"
      refine Rd.ixTq hit3 (Rd.at_val (j := 0) rfl rfl) ?_
      walk_at "my rn"
      refine Rd.inStrT ["load", "store", "loadx", "storex"] (T.q_ACCESSES _) ?_
      rw [mem_acc]
      have x1 : 0 ≤ x + 1 ∧ x + 1 < 100000 := by omega
      have hx' : 0 ≤ x ∧ x < 100000 := by omega
      have eqt : ∀ {H4 : Hp} {p : Addr} {xs : List V}, H4 p = some (.tup xs) → SqT K H4 p xs := fun h => SqT.of h
      unfold Ic.lh Ic.tk at end_
      cases ka : i.isAcc with
      | true =>
        have kb : i.isBr = false := by cases i <;> first | (cases ka; done) | rfl
        obtain ⟨ee1, ee2⟩ := acc_exec ka m x (x + 1)
        rw [ka, kb, ee2] at end_
        walk_at "my rn"
        refine ⟨ts[j], oc, ob, c1, c2, i, A, _, d2, m, x + 1, rfl, hit3, ok, ka, b3, x1, fun H4 b4 t4 => ?_⟩
        rw [ee1] at b4
        have t14 : Touch (Brd.own oc A d1 d2) H H4 := t3.trans (t4.mono own_ls)
        have hit4 : SqT K H4 ts[j] (.str i.nm :: i.vs) := nit t14
        have end4 := end_ H4 b4 t14
        walk_at "my rn"
        refine ⟨rfl, rfl, cs, ts[j], c, i.nm, i.op, _, _, _, rfl, ncs t14, IcAt.at (nit t14), ?_⟩
        walk_at "my rn"
        exact fun p H5 np s5 hp => end4 p H5 np s5 hp
      | false =>
        rw [ka, nacc ka] at end_
        have oall : ∀ a ∈ oc :: A.all, a ∈ Brd.own oc A d1 d2 := fun a h => by
          rcases List.mem_cons.mp h with h | h <;> simp [Brd.own, h]
        have aall : ∀ a ∈ A.all, a ∈ Brd.own oc A d1 d2 := fun a h => oall a (List.mem_cons_of_mem _ h)
        walk_at "my rn"
        refine Rd.ixTq hit3 (Rd.at_val (j := 0) rfl rfl) ?_
        walk_at "my rn"
        refine Rd.inStrT ["jzero", "again"] (T.q_TAKEN_AT_TIMES _) ?_
        rw [mem_br]
        cases kb2 : i.isBr with
        | true =>
          rw [kb2] at end_
          walk_at "my rn"
          refine ⟨ts[j], oc, ob, c1, c2, i, A, _, d2, m, x, rfl, hit3, ok, kb2, b3, hx', fun H4 b4 t4 => ?_⟩
          have t14 : Touch (Brd.own oc A d1 d2) H H4 := t3.trans (t4.mono oall)
          have hit4 : SqT K H4 ts[j] (.str i.nm :: i.vs) := nit t14
          have end4 := end_ H4 b4 t14
          walk_at "my rn"
          refine ⟨rfl, rfl, cs, ts[j], c, i.nm, i.op, _, _, _, rfl, ncs t14, IcAt.at (nit t14), ?_⟩
          walk_at "my rn"
          exact fun p H5 np s5 hp => end4 p H5 np s5 hp
        | false =>
          rw [kb2] at end_
          walk_at "my rn"
          refine Rd.ixTq hit3 (Rd.at_val (j := 0) rfl rfl) ?_
          walk_at "my rn"
          refine Rd.inStrT ["jump", "link", "back"] (T.q_ALWAYS_TAKEN _) ?_
          rw [mem_jmp]
          cases kj : i.isJmp with
          | true =>
            walk_at "my rn"
            refine ⟨ts[j], oc, ob, c1, c2, i, A, _, d2, m, x, rfl, hit3, ok, kj, b3, hx', fun H4 b4 t4 => ?_⟩
            have t14 : Touch (Brd.own oc A d1 d2) H H4 := t3.trans (t4.mono oall)
            have hit4 : SqT K H4 ts[j] (.str i.nm :: i.vs) := nit t14
            have end4 := end_ H4 b4 t14
            walk_at "my rn"
            refine ⟨rfl, rfl, cs, ts[j], c, i.nm, i.op, _, _, _, rfl, ncs t14, IcAt.at (nit t14), ?_⟩
            walk_at "my rn"
            exact fun p H5 np s5 hp => end4 p H5 np s5 hp
          | false =>
            rw [work_exec kb2 kj] at end_
            walk_at "my rn"
            refine ⟨ts[j], oc, ob, c1, c2, i, A, _, d2, m, x, rfl, hit3, ok, ka, kb2, kj, b3, hx', ho_, fun H4 b4 t4 => ?_⟩
            have t14 : Touch (Brd.own oc A d1 d2) H H4 := t3.trans (t4.mono aall)
            have hit4 : SqT K H4 ts[j] (.str i.nm :: i.vs) := nit t14
            have end4 := end_ H4 b4 t14
            walk_at "my rn"
            refine ⟨rfl, rfl, cs, ts[j], c, i.nm, i.op, _, _, _, rfl, ncs t14, IcAt.at (nit t14), ?_⟩
            walk_at "my rn"
            exact fun p H5 np s5 hp => end4 p H5 np s5 hp
    · rw [decide_eq_false hlt]
      walk_at "my rn"
      exact fun p H' np s' hp => qe hlt p H' np s' hp
end


set_option Elab.async false
set_option linter.all false
set_option maxRecDepth 100000
set_option maxHeartbeats 1000000








/-! ### what == and index compare: data under an object -/
def DOk (n : Nat) (d : PyData) : Prop := d.canLay0 = true ∧ d.depth ≤ n
theorem DOk.shaped {n : Nat} {d : PyData} (h : DOk n d) (hn : n ≤ 64) : SeqAt.shaped d = true := by
  unfold SeqAt.shaped
  rw [h.1, decide_eq_true (Nat.le_trans h.2 hn)]
  rfl
theorem DOk.mono {n m : Nat} {d : PyData} (h : DOk n d) (hn : n ≤ m) : DOk m d := ⟨h.1, Nat.le_trans h.2 hn⟩
theorem dok_int {n : Nat} {i : Int} : DOk n (.int i) := ⟨by simp only [PyData.canLay0], by simp only [PyData.depth]; exact Nat.zero_le _⟩
theorem dok_non {n : Nat} : DOk n .none := ⟨by simp only [PyData.canLay0], by simp only [PyData.depth]; exact Nat.zero_le _⟩
theorem dok_bl {n : Nat} {b : Bool} : DOk n (.bool b) := ⟨by simp only [PyData.canLay0], by simp only [PyData.depth]; exact Nat.zero_le _⟩
theorem dok_str {n : Nat} {x : Str} (h : PyData.strOk x = true) : DOk n (.str x) := ⟨by simp only [PyData.canLay0]; exact h, by simp only [PyData.depth]; exact Nat.zero_le _⟩
theorem dok_all {n : Nat} : ∀ {ds : List PyData}, (∀ d ∈ ds, DOk n d) → PyData.canLayAll0 ds = true ∧ PyData.depthAll ds ≤ n
  | [], _ => ⟨by simp only [PyData.canLayAll0], by simp only [PyData.depthAll]; exact Nat.zero_le _⟩
  | d :: r, h => by
    obtain ⟨a, b⟩ := dok_all (ds := r) fun x m => h x (List.mem_cons_of_mem _ m)
    obtain ⟨c, e⟩ := h d List.mem_cons_self
    exact ⟨by simp only [PyData.canLayAll0, c, a] <;> rfl, by simp only [PyData.depthAll]; omega⟩
theorem dok_list {n : Nat} {ds : List PyData} (h : ∀ d ∈ ds, DOk n d) : DOk (n + 1) (.list ds) := by
  obtain ⟨a, b⟩ := dok_all h
  exact ⟨by simp only [PyData.canLay0]; exact a, by simp only [PyData.depth]; omega⟩
theorem dok_tup {n : Nat} {ds : List PyData} (h : ∀ d ∈ ds, DOk n d) : DOk (n + 1) (.tuple ds) := by
  obtain ⟨a, b⟩ := dok_all h
  exact ⟨by simp only [PyData.canLay0]; exact a, by simp only [PyData.depth]; omega⟩
theorem dpAll_map {K : PySem.W.Frag} {H : Hp} (f : V → PyData) : ∀ {zs : List V}, (∀ v ∈ zs, Dp K H v (f v)) → DpAll K H zs (zs.map f)
  | [], _ => .nil
  | z :: r, h => .cons (h z List.mem_cons_self) (dpAll_map f fun v m => h v (List.mem_cons_of_mem _ m))
theorem dpAll_ints {K : PySem.W.Frag} {H : Hp} : ∀ {ns : List Int}, DpAll K H (ns.map V.int) (ns.map PyData.int)
  | [] => .nil
  | n :: r => .cons (.int n) dpAll_ints
theorem dp_ints {K : PySem.W.Frag} {H : Hp} {a : Addr} {ns : List Int} (h : SqL K H a (ns.map V.int)) : Dp K H (.ref a) (.list (ns.map PyData.int)) := .lst h dpAll_ints
theorem dp_intsT {K : PySem.W.Frag} {H : Hp} {a : Addr} {ns : List Int} (h : SqT K H a (ns.map V.int)) : Dp K H (.ref a) (.tuple (ns.map PyData.int)) := .tup h dpAll_ints
theorem ints_dok (n : Nat) (ns : List Int) : DOk (n + 1) (.list (ns.map PyData.int)) := dok_list fun d m => by
  obtain ⟨i, _, rfl⟩ := List.mem_map.mp m
  exact dok_int
theorem ints_shaped (ns : List Int) : SeqAt.shaped (.list (ns.map PyData.int)) = true := (ints_dok 0 ns).shaped (by decide)
theorem eqvAll_ints : ∀ ns ms : List Int, PyData.eqvAll (ns.map PyData.int) (ms.map PyData.int) = decide (ns = ms)
  | [], [] => by simp [PyData.eqvAll]
  | [], b :: s => by simp [PyData.eqvAll]
  | a :: r, [] => by simp [PyData.eqvAll]
  | a :: r, b :: s => by
    rw [List.map_cons, List.map_cons, PyData.eqvAll, eqvAll_ints r s, PyData.eqv]
    by_cases h : a = b <;> by_cases h2 : r = s <;> simp [h, h2]
theorem eqv_ints (ns ms : List Int) : PyData.eqv (.list (ns.map PyData.int)) (.list (ms.map PyData.int)) = decide (ns = ms) := by
  rw [PyData.eqv, eqvAll_ints]
theorem eqv_intsT (ns ms : List Int) : PyData.eqv (.tuple (ns.map PyData.int)) (.tuple (ms.map PyData.int)) = decide (ns = ms) := by
  rw [PyData.eqv, eqvAll_ints]

/-- a comprehension over a range whose elements are drawn ints -/
theorem lc_draw {n : Nat} {g : TG} {te : TE} {vs : List Nat} {σ : L2.St} {H1 : Hp} {D p c : Addr} {Qd : Hp → Prop} (G : Int → Prop) (st : StOk H1 p c) (nD : H1 D = none) (hn : n ≤ 90000)
    (hs : ∀ (i : Nat) H (Kt : VK), i < n → StOk H p c → (∀ v H4, G v → StOk H4 p c → Keep p H H4 → Kt (.int v) H4) → g (.int (i : Int)) (wipe σ vs) H fun σ2 H2 => wipe σ2 vs = wipe σ vs ∧ te σ2 H2 Kt)
    (hd : ∀ H (ns : List Int), ns.length = n → (∀ v ∈ ns, G v) → StOk H p c → Keep p H1 H → H D = some (.lst (ns.map V.int)) → Qd H) :
    ∃ W : Nat → Nat → Hp → Prop, (∃ m, W 0 m (upd H1 D (.lst []))) ∧ ∀ i m H, W i m H →
      ((Itr 0 n).stop i H ∧ Qd H) ∨ ((Itr 0 n).go i H ∧ ∃ Nx : Hp → Prop, (∀ H', Nx H' → ∃ m', m' < m ∧ W (i + 1) m' H') ∧ ∀ x H', (Itr 0 n).yld i H x H' → g x (wipe σ vs) H' fun σ2 H2 => wipe σ2 vs = wipe σ vs ∧ tYes σ2 H2 fun b H3 =>
        if b = true then te σ2 H3 fun y H4 => ∃ acc, H4 D = some (.lst acc) ∧ acc.length < sizeLine ∧ Nx (upd H4 D (.lst (acc ++ [y]))) else Nx H3) := by
  have pD := st.ne nD
  have stk : ∀ {H H' : Hp} {o : HO}, StOk H' p c → StOk (upd H' D o) p c := fun s => by
    obtain ⟨ms, k, v, sd, a, b, d, r⟩ := s
    exact ⟨ms, k, v, sd, a, by rw [upd_ne pD.1.symm]; exact b, by rw [upd_ne pD.2.symm]; exact d, r⟩
  refine lc_it walk_range (fun i H => ∃ ns : List Int, ns.length = i ∧ (∀ v ∈ ns, G v) ∧ StOk H p c ∧ Keep p H1 H ∧ H D = some (.lst (ns.map V.int))) ⟨[], rfl, by simp, stk (H := H1) st, Keep.same (same_new nD), upd_same⟩ (fun _ _ _ _ => trivial) (fun i x H H' hi h y => ?_) (fun H ⟨ns, a, b, d, e, f⟩ => hd H ns a b d e f)
  obtain ⟨ns, ln, gn, s1, k1, hD⟩ := h
  obtain ⟨rfl, e⟩ := Rd.zr y
  subst e
  refine hs i _ _ hi s1 fun v H4 gv s4 k4 => ?_
  have hD4 := k4 _ _ pD.1 hD
  refine ⟨_, hD4, Rd.szl (by rw [List.length_map]; omega), ns ++ [v], by simp [ln], fun u m => ?_, stk (H := H4) s4, fun b o n1 h => ?_, by rw [upd_same, List.map_append]; rfl⟩
  · rcases List.mem_append.mp m with m | m
    · exact gn u m
    · rw [List.mem_singleton.mp m]; exact gv
  · have nb : b ≠ D := fun z => by rw [z, nD] at h; cases h
    rw [upd_ne nb]
    exact k4 b o n1 (k1 b o n1 h)

section
variable {P : Program} {w : World} {K : PySem.W.Frag} {mg : Str → Option Value} {base : Heap}
theorem StOk.touch {ls : List Addr} {H H' : Hp} {p c : Addr} (s : StOk H p c) (t : Touch ls H H') (np : p ∉ ls) (nc : c ∉ ls) : StOk H' p c := by
  obtain ⟨ms, k, v, sd, h1, h2, h3, h⟩ := s
  exact ⟨ms, k, v, sd, h1, t _ _ np h2, t _ _ nc h3, h⟩
theorem Brd.keep {Co Bo Ca : Addr} {H H' : Hp} {oc ob c1 c2 : Addr} {A : Mad} {d1 d2 : Cd} {m : Ms} {x : Int} (b : Brd Co Bo Ca H oc ob c1 c2 A d1 d2 m x)
    (k : ∀ a, a ∈ oc :: ob :: c1 :: c2 :: (A.all ++ ((d1.R :: d1.ls) ++ (d2.R :: d2.ls))) → ∀ y, H a = some y → H' a = some y) : Brd Co Bo Ca H' oc ob c1 c2 A d1 d2 m x := by
  obtain ⟨⟨x1, h1⟩, ⟨x2, h2⟩, hm, k1, k2, sp, wd⟩ := b
  refine ⟨⟨x1, k _ (by simp) _ h1⟩, ⟨x2, k _ (by simp) _ h2⟩, hm.keep fun a m => k a (by simp [m]), k1.keep fun a m => k a ?_, k2.keep fun a m => k a ?_, sp, wd⟩
  · rcases m with rfl | rfl | m <;> simp [*]
  · rcases m with rfl | rfl | m <;> simp [*]
theorem Cost.Ok.sm {c : Cost} (h : c.Ok) : c.Sm := fun x m => by
  rcases List.mem_append.mp (show x ∈ [c.fh, c.fm, c.pl, c.mu, c.dv, c.lh, c.lm, c.st, c.tk, c.ct, c.po] ++ [c.rl, c.sw, c.en, c.lv, c.fi] from m) with m | m
  · have := h.a x m; omega
  · have := h.b x m; omega
theorem refs_of {Pr : Addr → Prop} : ∀ {ys : List V}, (∀ (i : Nat) v, ys[i]? = some v → ∃ t, v = .ref t ∧ Pr t) → ∃ ts : List Addr, ys = ts.map V.ref ∧ ∀ t ∈ ts, Pr t
  | [], _ => ⟨[], rfl, fun _ m => (by cases m)⟩
  | y :: r, h => by
    obtain ⟨ts, e, g⟩ := refs_of (ys := r) fun i v hv => h (i + 1) v (by rw [List.getElem?_cons_succ]; exact hv)
    obtain ⟨t, rfl, pt⟩ := h 0 y rfl
    exact ⟨t :: ts, by rw [e]; rfl, fun u m => by
      rcases List.mem_cons.mp m with rfl | m
      · exact pt
      · exact g u m⟩
theorem jmp_exec {i : Ic} (h : i.isJmp = true) (m : Ms) (x : Int) : (i.exec m x).2.2 = true := by cases i <;> first | (cases h; done) | rfl
theorem else_exec {i : Ic} (h : i.isJmp = false) (h2 : i.isBr = false) (m : Ms) (x : Int) : (i.exec m x).2.2 = false := by cases i <;> first | (cases h; done) | (cases h2; done) | rfl
theorem taken_iff (i : Ic) (m : Ms) (x : Int) : (i.nm ∈ (["jump", "link", "back"] : List Str) ∨ (i.tk m x = true ∧ i.nm ∈ (["jzero", "again"] : List Str))) ↔ (i.exec m x).2.2 = true := by
  have hj := mem_jmp i
  have hb := mem_br i
  unfold Ic.tk
  cases kj : i.isJmp with
  | true =>
    rw [kj] at hj
    exact ⟨fun _ => jmp_exec kj m x, fun _ => .inl (of_decide_eq_true hj)⟩
  | false =>
    rw [kj] at hj
    have hj := of_decide_eq_false hj
    cases kb : i.isBr with
    | true =>
      rw [kb] at hb
      rw [if_pos rfl]
      exact ⟨fun h => (h.resolve_left hj).1, fun h => .inr ⟨h, of_decide_eq_true hb⟩⟩
    | false =>
      rw [if_neg Bool.false_ne_true, else_exec kj kb]
      exact ⟨fun h => (h.resolve_left hj).1, fun h => absurd h Bool.false_ne_true⟩
theorem dp_rows {K : PySem.W.Frag} {H : Hp} : ∀ {as : List Addr} {rs : List (List Int)}, as.length = rs.length → (∀ (j : Nat) a r, as[j]? = some a → rs[j]? = some r → H a = some (.lst (r.map V.int))) → DpAll K H (as.map V.ref) (rs.map fun r => PyData.list (r.map PyData.int))
  | [], [], _, _ => .nil
  | a :: as, r :: rs, l, h => .cons (dp_ints (SqL.of (h 0 a r rfl rfl))) (dp_rows (by simpa using l) fun j a' r' h1 h2 => h (j + 1) a' r' (by rw [List.getElem?_cons_succ]; exact h1) (by rw [List.getElem?_cons_succ]; exact h2))
  | [], _ :: _, l, _ => by simp at l
  | _ :: _, [], l, _ => by simp at l
theorem rows_dok (rs : List (List Int)) : DOk 2 (.list (rs.map fun r => PyData.list (r.map PyData.int))) := dok_list fun d m => by
  obtain ⟨r, _, rfl⟩ := List.mem_map.mp m
  exact ints_dok 0 r
theorem strOk_nm (i : Ic) : PyData.strOk i.nm = true := by cases i <;> (simp only [Ic.nm]; decide +kernel)
theorem strOk_op {op : Str} (h : op ∈ calcs) : PyData.strOk op = true := by
  revert op
  decide +kernel
def vd : V → PyData
  | .int n => .int n
  | .str z => .str z
  | _ => .none
theorem Ic.flat (i : Ic) : ∀ v ∈ V.str i.nm :: i.vs, (∃ n, v = .int n) ∨ ∃ z, v = .str z := fun v m => by
  cases i
  all_goals
    simp only [Ic.vs, List.mem_cons, List.mem_nil_iff, or_false] at m
    first
    | exact .inr ⟨_, m⟩
    | (rcases m with h | h
       · exact .inr ⟨_, h⟩
       · first
         | exact .inl ⟨_, h⟩
         | (rcases h with h | h
            · first | exact .inl ⟨_, h⟩ | exact .inr ⟨_, h⟩
            · first
              | exact .inl ⟨_, h⟩
              | (rcases h with h | h
                 · exact .inl ⟨_, h⟩
                 · first
                   | exact .inl ⟨_, h⟩
                   | (rcases h with h | h <;> exact .inl ⟨_, h⟩))))
theorem Ic.dp {K : PySem.W.Frag} {H : Hp} {t : Addr} {i : Ic} (h : IcAt K H t i) : Dp K H (.ref t) (.tuple ((V.str i.nm :: i.vs).map vd)) := .tup h (dpAll_map vd fun v m => by
  rcases i.flat v m with ⟨n, rfl⟩ | ⟨z, rfl⟩
  · exact .int n
  · exact .str z)
theorem Ic.dok {i : Ic} (ok : i.Ok) : DOk 1 (.tuple ((V.str i.nm :: i.vs).map vd)) := dok_tup fun d m => by
  obtain ⟨v, mv, rfl⟩ := List.mem_map.mp m
  cases v with
  | int n => exact dok_int
  | str z =>
    refine dok_str ?_
    rcases List.mem_cons.mp mv with e | e
    · rw [V.str.inj e]; exact strOk_nm i
    · cases i
      case cal op r s t =>
        simp only [Ic.vs, List.mem_cons, List.mem_nil_iff, or_false] at e
        rcases e with e | e | e | e <;> first | (rw [V.str.inj e]; exact strOk_op ok.1) | cases e
      all_goals first
        | (simp only [Ic.vs, List.mem_cons, List.mem_nil_iff, or_false] at e; done)
        | (simp only [Ic.vs, List.mem_cons, List.mem_nil_iff, or_false] at e
           first
           | (cases e; done)
           | (rcases e with e | e <;> first | (cases e; done) | (rcases e with e | e <;> first | (cases e; done) | (rcases e with e | e <;> cases e))))
  | _ => exact dok_non
end

section
variable {P : Program} {w : World} {K : PySem.W.Frag} {mg : Str → Option Value} {base : Heap}
theorem OkS.ok {i : Ic} (h : i.OkS) : i.Ok := by
  cases i
  case load r a => exact ⟨h.1, Nat.lt_trans h.2 (by decide)⟩
  case store r a => exact ⟨h.1, Nat.lt_trans h.2 (by decide)⟩
  case loadx r s a n => exact ⟨h.1, h.2.1, h.2.2.1, Nat.le_trans h.2.2.2 (by decide)⟩
  case storex r s a n => exact ⟨h.1, h.2.1, h.2.2.1, Nat.le_trans h.2.2.2 (by decide)⟩
  case count c n => exact ⟨Nat.lt_trans h.1 (by decide), h.2⟩
  case again c p => exact Nat.lt_trans (show c < 16 from h) (by decide)
  case inp r q => exact ⟨h.1, Nat.lt_trans h.2 (by decide)⟩
  case outp r q => exact ⟨h.1, Nat.lt_trans h.2 (by decide)⟩
  all_goals exact h
structure SzS (m : Ms) : Prop where
  r : m.regs.length = 9
  d : m.data.length = 32
  n : m.ctrs.length = 16
  i : m.ins.length = 1
  o : m.outs.length = 1
theorem MemS.sz {H : Hp} {A : Mad} {m : Ms} (h : MemS H A m) : SzS m := ⟨h.l9, h.lD, h.lN, h.lJ, h.lP⟩
def ext (m : Ms) : Ms := { regs := m.regs, data := m.data ++ List.replicate 16352 0, ctrs := m.ctrs ++ List.replicate 240 0, ins := m.ins ++ List.replicate 7 [], outs := m.outs ++ List.replicate 7 [] }
theorem ext_put (m : Ms) (r : Nat) (w : Int) : (ext m).put r w = ext (m.put r w) := by
  unfold Ms.put
  split <;> rfl
theorem ext_dat {m : Ms} {a : Nat} (h : a < m.data.length) : ((ext m).data[a]?).getD 0 = (m.data[a]?).getD 0 := by
  show ((m.data ++ List.replicate 16352 0)[a]?).getD 0 = _
  rw [List.getElem?_append_left h]
theorem ext_ctr {m : Ms} {a : Nat} (h : a < m.ctrs.length) : (ext m).ctr a = m.ctr a := by
  show ((m.ctrs ++ List.replicate 240 0)[a]?).getD 0 = _
  rw [List.getElem?_append_left h]
  rfl
theorem ext_take {m : Ms} {q : Nat} (h : q < m.ins.length) : (ext m).take q = ((m.take q).1, ext (m.take q).2) := by
  have e : (ext m).ins[q]? = m.ins[q]? := List.getElem?_append_left h
  unfold Ms.take
  rw [e]
  cases (m.ins[q]?).getD [] with
  | nil => rfl
  | cons x r =>
    show (x, ({ ext m with ins := (m.ins ++ List.replicate 7 []).set q r } : Ms)) = _
    rw [List.set_append_left _ _ h]
    rfl
theorem ext_setD {m : Ms} {a : Nat} (h : a < m.data.length) (v : Int) : ({ ext m with data := (ext m).data.set a v } : Ms) = ext { m with data := m.data.set a v } := by
  show ({ ext m with data := (m.data ++ List.replicate 16352 0).set a v } : Ms) = _
  rw [List.set_append_left _ _ h]
  rfl
theorem ext_setN {m : Ms} {a : Nat} (h : a < m.ctrs.length) (v : Int) : ({ ext m with ctrs := (ext m).ctrs.set a v } : Ms) = ext { m with ctrs := m.ctrs.set a v } := by
  show ({ ext m with ctrs := (m.ctrs ++ List.replicate 240 0).set a v } : Ms) = _
  rw [List.set_append_left _ _ h]
  rfl
theorem ext_setO {m : Ms} {q : Nat} (h : q < m.outs.length) (v : Int) : ({ ext m with outs := (ext m).outs.set q ((((ext m).outs[q]?).getD []) ++ [v]) } : Ms) = ext { m with outs := m.outs.set q (((m.outs[q]?).getD []) ++ [v]) } := by
  have e : (ext m).outs[q]? = m.outs[q]? := List.getElem?_append_left h
  rw [e]
  show ({ ext m with outs := (m.outs ++ List.replicate 7 []).set q (((m.outs[q]?).getD []) ++ [v]) } : Ms) = _
  rw [List.set_append_left _ _ h]
  rfl
theorem exec_ext {i : Ic} {m : Ms} (ok : i.OkS) (s : SzS m) (x : Int) : i.exec (ext m) x = (ext (i.exec m x).1, (i.exec m x).2) := by
  cases i
  case set r n => simp only [Ic.exec]; rw [ext_put]
  case high r n => simp only [Ic.exec]; rw [ext_put]; rfl
  case cal op r s t => simp only [Ic.exec]; rw [ext_put]; rfl
  case load r a => simp only [Ic.exec]; rw [ext_put, ext_dat (by rw [s.d]; exact ok.2)]
  case loadx r t a n =>
    have al := addr_ltS (m := m) ok rfl
    simp only [Ic.exec]
    rw [ext_put, show (Ic.loadx r t a n).addr (ext m) = (Ic.loadx r t a n).addr m from rfl, ext_dat (by rw [s.d]; exact al)]
  case store r a => simp only [Ic.exec]; rw [ext_setD (by rw [s.d]; exact ok.2)]; rfl
  case storex r t a n =>
    have al := addr_ltS (m := m) ok rfl
    simp only [Ic.exec]
    rw [show (Ic.storex r t a n).addr (ext m) = (Ic.storex r t a n).addr m from rfl, ext_setD (by rw [s.d]; exact al)]
    rfl
  case jump p => rfl
  case jzero r p =>
    simp only [Ic.exec]
    rw [show (ext m).reg r = m.reg r from rfl]
    split <;> rfl
  case count c n => simp only [Ic.exec]; rw [ext_setN (by rw [s.n]; exact ok.1)]
  case again c p =>
    have cl : c < m.ctrs.length := by rw [s.n]; exact ok
    simp only [Ic.exec]
    rw [ext_ctr cl, ext_setN cl]
    split <;> rfl
  case link p => rfl
  case back => rfl
  case done => rfl
  case enter o => rfl
  case leave o => rfl
  case inp r q =>
    simp only [Ic.exec]
    rw [ext_take (by rw [s.i]; exact ok.2)]
    simp only
    rw [ext_put]
  case outp r q =>
    simp only [Ic.exec]
    rw [show (ext m).reg r = m.reg r from rfl, ext_setO (by rw [s.o]; exact ok.2)]
theorem put_reg8 {m : Ms} {r : Nat} {w : Int} (h : r < 4) : (m.put r w).reg 8 = m.reg 8 := by
  unfold Ms.put
  split
  · rfl
  · show ((m.regs.set r w)[8]?).getD 0 = _
    rw [List.getElem?_set_ne (by omega)]
    rfl
theorem take_reg8 {m : Ms} {q : Nat} : (m.take q).2.reg 8 = m.reg 8 := by
  unfold Ms.take
  split <;> rfl
theorem okz_exec {i : Ic} {m : Ms} (oz : i.OkZ) (s : SzS m) {x : Int} (hx : 0 ≤ x ∧ x < 16) (h8 : 0 ≤ m.reg 8 ∧ m.reg 8 ≤ 16) :
    (0 ≤ (i.exec m x).2.1 ∧ (i.exec m x).2.1 ≤ 16) ∧ 0 ≤ (i.exec m x).1.reg 8 ∧ (i.exec m x).1.reg 8 ≤ 16 := by
  have nx : 0 ≤ x + 1 ∧ x + 1 ≤ 16 := by omega
  cases i
  case set r n => exact ⟨nx, by simp only [Ic.exec]; rw [put_reg8 oz]; exact h8⟩
  case high r n => exact ⟨nx, by simp only [Ic.exec]; rw [put_reg8 oz]; exact h8⟩
  case cal op r s t => exact ⟨nx, by simp only [Ic.exec]; rw [put_reg8 oz]; exact h8⟩
  case load r a => exact ⟨nx, by simp only [Ic.exec]; rw [put_reg8 oz]; exact h8⟩
  case loadx r t a n => exact ⟨nx, by simp only [Ic.exec]; rw [put_reg8 oz]; exact h8⟩
  case jump p => exact ⟨oz, h8⟩
  case jzero r p =>
    simp only [Ic.exec]
    split
    · exact ⟨oz, h8⟩
    · exact ⟨nx, h8⟩
  case again c p =>
    simp only [Ic.exec]
    split
    · exact ⟨nx, h8⟩
    · exact ⟨oz, h8⟩
  case link p =>
    refine ⟨oz, ?_⟩
    show 0 ≤ ((m.regs.set 8 (x + 1))[8]?).getD 0 ∧ ((m.regs.set 8 (x + 1))[8]?).getD 0 ≤ 16
    rw [List.getElem?_set_self (by rw [s.r]; decide)]
    exact nx
  case back => exact ⟨h8, h8⟩
  case inp r q => exact ⟨nx, by simp only [Ic.exec]; rw [put_reg8 oz, take_reg8]; exact h8⟩
  all_goals exact ⟨nx, h8⟩
theorem put_outs {m : Ms} {r : Nat} {w : Int} : (m.put r w).outs = m.outs := by
  unfold Ms.put
  split <;> rfl
theorem take_outs {m : Ms} {q : Nat} : (m.take q).2.outs = m.outs := by
  unfold Ms.take
  split <;> rfl
theorem exec_outs {i : Ic} {m : Ms} {x : Int} {n : Nat} (h : ∀ l ∈ m.outs, l.length ≤ n) : ∀ l ∈ (i.exec m x).1.outs, l.length ≤ n + 1 := by
  have h1 : ∀ l ∈ m.outs, l.length ≤ n + 1 := fun l q => Nat.le_succ_of_le (h l q)
  cases i
  case set r n => simp only [Ic.exec]; rw [put_outs]; exact h1
  case high r n => simp only [Ic.exec]; rw [put_outs]; exact h1
  case cal op r s t => simp only [Ic.exec]; rw [put_outs]; exact h1
  case load r a => simp only [Ic.exec]; rw [put_outs]; exact h1
  case loadx r t a n => simp only [Ic.exec]; rw [put_outs]; exact h1
  case inp r q => simp only [Ic.exec]; rw [put_outs, take_outs]; exact h1
  case jzero r p => simp only [Ic.exec]; split <;> exact h1
  case again r p => simp only [Ic.exec]; split <;> exact h1
  case outp r q =>
    intro l ml
    rcases List.mem_or_eq_of_mem_set (show l ∈ m.outs.set q (((m.outs[q]?).getD []) ++ [m.reg r]) from ml) with ml | ml
    · exact h1 l ml
    · rw [ml, List.length_append]
      have : ((m.outs[q]?).getD []).length ≤ n := by
        cases e : m.outs[q]? with
        | none => exact Nat.zero_le _
        | some y => exact h y (List.mem_of_getElem? e)
      simp only [List.length_singleton]
      omega
  all_goals exact h1
theorem MsW.ext {m : Ms} (h : MsW (ext m)) : MsW m := ⟨h.r, fun x q => h.d x (List.mem_append_left _ q), fun l q => h.i l (List.mem_append_left _ q)⟩
def cuN (a b d e f : Int) : Cost := ⟨a, b, 1, 3, 8, d, e, f, 1, 2, 4, 6, 12, 5, 5, 8⟩
theorem kex {a b d e f : Int} (nm op : Str) (lh : Bool) : exCost (cuN a b d e f) nm op lh = (if nm ∈ (["load", "loadx"] : List Str) then (if lh = true then d else e) else if nm ∈ (["store", "storex"] : List Str) then f else if nm ∈ (["count", "again"] : List Str) then 2 else if nm ∈ (["in", "out"] : List Str) then 4 else if nm = "calc" ∧ op ∈ (["mul", "div", "mod"] : List Str) then (if op = "mul" then 3 else 8) else 1) := by
  unfold exCost
  by_cases h : nm = "calc"
  · subst h
    rw [if_neg (show ¬ ("calc" : Str) ∈ (["load", "loadx"] : List Str) by decide +kernel), if_neg (show ¬ ("calc" : Str) ∈ (["store", "storex"] : List Str) by decide +kernel), if_pos (show ("calc" : Str) ∈ (["calc"] : List Str) by decide +kernel), if_neg (show ¬ ("calc" : Str) ∈ (["load", "loadx"] : List Str) by decide +kernel), if_neg (show ¬ ("calc" : Str) ∈ (["store", "storex"] : List Str) by decide +kernel), if_neg (show ¬ ("calc" : Str) ∈ (["count", "again"] : List Str) by decide +kernel), if_neg (show ¬ ("calc" : Str) ∈ (["in", "out"] : List Str) by decide +kernel)]
    unfold calcCost
    by_cases h1 : op = "mul"
    · rw [if_pos h1, if_pos ⟨rfl, by rw [h1]; decide +kernel⟩, if_pos h1]; rfl
    · rw [if_neg h1]
      by_cases h2 : op = "div" ∨ op = "mod"
      · rw [if_pos h2, if_pos ⟨rfl, by rcases h2 with h2 | h2 <;> (rw [h2]; decide +kernel)⟩, if_neg h1]; rfl
      · rw [if_neg h2, if_neg (fun z => by
          have := z.2
          simp only [List.mem_cons, List.mem_nil_iff, or_false] at this
          rcases this with q | q | q
          · exact h1 q
          · exact h2 (.inl q)
          · exact h2 (.inr q))]; rfl
  · rw [if_neg (c := nm ∈ (["calc"] : List Str)) (fun z => h (List.mem_singleton.mp z)), if_neg (c := nm = "calc" ∧ _) (fun z => h z.1)]
    rfl
theorem kcost_eq {a b d e f : Int} (i : Ic) (m : Ms) (x : Int) (fh lh : Bool) : iCost (cuN a b d e f) i.nm i.op fh lh (i.tk m x) = kCost (cuN a b d e f) i.nm i.op fh lh + (if (i.exec m x).2.2 = true then 1 else 0) := by
  unfold iCost kCost
  rw [kex]
  congr 1
  by_cases h : (i.exec m x).2.2 = true
  · rw [if_pos h, if_pos ((taken_iff i m x).mpr h)]; rfl
  · rw [if_neg h, if_neg (fun z => h ((taken_iff i m x).mp z))]
theorem sum_rep0 : ∀ n : Nat, (List.replicate n (0 : Int)).sum = 0
  | 0 => rfl
  | n + 1 => by rw [List.replicate_succ, List.sum_cons, sum_rep0 n]; rfl
def sp__law_same (K : PySem.W.Frag) (Co Bo : Addr) : Sp := fun vs H Q _ => ∃ (oc ob c1 c2 : Addr) (A B : Mad) (m : Ms) (x : Int), vs = [.ref oc, .ref ob, .int x, .ref B.R, .ref B.D, .ref B.N, .ref B.O] ∧ CoreAt Co H oc x A.R ∧ BoardAt Bo H ob A c1 c2 ∧ Mem H A (ext m) ∧ MemS H B m ∧ ∀ H', Same H H' → Q (.bl true) H'
theorem ok__law_same (T : Top P w K mg) : FnOk P w K mg base CX0 1 T.a__law_same T.d__law_same ["core", "board", "at", "registers", "data", "counters", "outputs"]  (sp__law_same K T.C_Core T.C_Board) := by
  refine T.F__law_same.ok sc__law_same (fun vs H Q E h => ?_) (fun cdv A outer s H vs Q E hr h => ?_)
  · obtain ⟨_, _, _, _, _, _, _, _, rfl, _⟩ := h
    rfl
  · obtain ⟨oc, ob, c1, c2, A, B, m, x, rfl, hco, hbo, hm, hs, q⟩ := h
    refine ⟨_, (pss_cons (ps_if (pw_or (pt_cmpR op_ne (pe_fld (pv 0) rfl) (pv 2) (nomark _)) (pw_or (pt_cmpR (op_neD hr.units) (pe_fld (pv 0) rfl) (pv 3) (nomark _)) (pw_or (pt_cmpR (op_neD hr.units) (pe_slice sl_list (pe_fld (pv 1) rfl) po_none (po_some pe_int)) (pv 4) (nomark _)) (pw_or1 (pt_cmpR op_ne (pe_callB (cr_sum rfl) (by rfl) T.m_sum (by decide +kernel) (pa_cons (pe_slice sl_list (pe_fld (pv 1) rfl) (po_some pe_int) po_none) pa_nil)) pe_int (nomark _)))))).pt
  (pss_one (ps_ret pe_bl))
  pss_nil)
  (pss_one (ps_ret (pe_and (pe_cmpR (op_eqD hr.units) (pe_slice sl_list (pe_fld (pv 1) rfl) po_none (po_some pe_int)) (pv 5) (nomark _)) (pe_one (pe_cmpR (op_eqD hr.units) (pe_ix ix_list (pe_fld (pv 1) rfl) pe_int (fun _ _ => rfl)) (pe_ix ix_list (pv 6) pe_int (fun _ _ => rfl)) (nomark _))))))), ?_⟩
    rw [show ∀ a0 a1 a2 a3 a4 a5 a6 : V, L2.start ["core", "board", "at", "registers", "data", "counters", "outputs"] [a0, a1, a2, a3, a4, a5, a6] = [some a0, some a1, some a2, some a3, some a4, some a5, some a6] from fun _ _ _ _ _ _ _ => rfl]
    obtain ⟨u1, ho⟩ := id hco
    obtain ⟨u2, hb⟩ := id hbo
    obtain ⟨f1, f2⟩ := corF_at (a := x) (R := A.R)
    obtain ⟨g1, g2, g3, g4, g5, g6, g7⟩ := brdF_at (A := A) (c1 := c1) (c2 := c2)
    have kc := T.cl_Core
    have kb := T.cl_Board
    have nat := T.n_Core_at
    have nr := T.n_Core_registers
    have nbd := T.n_Board_data
    have nbc := T.n_Board_counters
    have nbo := T.n_Board_outputs
    walk_at "my rn"
    refine Rd.ifN (fun h => absurd rfl h) fun _ => ?_
    walk_at "my rn"
    refine Rd.neD (dp_ints (SqL.of hm.hR)) (dp_ints (SqL.of hs.hR)) (ints_shaped _) (ints_shaped _) ?_
    rw [show (ext m).regs = m.regs from rfl, eqv_ints, decide_eq_true rfl]
    walk_at "my rn"
    refine Rd.slo hm.hD fun p1 H1 n1 s1 h1 => ?_
    have h1 : H1 p1 = some (.lst (m.data.map V.int)) := by
      rw [h1, show (some 32 : Option Int) = some ((32 : Nat) : Int) from rfl, Rd.cut_to, ← List.map_take, show (ext m).data.take 32 = m.data from List.take_left' hs.lD]
    have hs1 := hs.keep (H' := H1) fun a _ y e => s1 _ _ e
    have hm1 := hm.keep (H' := H1) fun a _ y e => s1 _ _ e
    have hb1 := s1 _ _ hb
    walk_at "my rn"
    refine Rd.neD (dp_ints (SqL.of h1)) (dp_ints (SqL.of hs1.hD)) (ints_shaped _) (ints_shaped _) ?_
    rw [eqv_ints, decide_eq_true rfl]
    walk_at "my rn"
    refine Rd.slo hm1.hD fun p2 H2 n2 s2 h2 => ?_
    have h2 : H2 p2 = some (.lst ((List.replicate 16352 (0 : Int)).map V.int)) := by
      rw [h2, show (some 32 : Option Int) = some ((32 : Nat) : Int) from rfl, Rd.cut_from, ← List.map_drop, show (ext m).data.drop 32 = List.replicate 16352 0 from List.drop_left' hs.lD]
    have hs2 := hs1.keep (H' := H2) fun a _ y e => s2 _ _ e
    have hm2 := hm1.keep (H' := H2) fun a _ y e => s2 _ _ e
    have hb2 := s2 _ _ hb1
    walk_at "my rn"
    rw [sum_rep0]
    refine Rd.ifN (fun h => absurd rfl h) fun _ => ?_
    walk_at "my rn"
    refine Rd.slo hm2.hN fun p3 H3 n3 s3 h3 => ?_
    have h3 : H3 p3 = some (.lst (m.ctrs.map V.int)) := by
      rw [h3, show (some 16 : Option Int) = some ((16 : Nat) : Int) from rfl, Rd.cut_to, ← List.map_take, show (ext m).ctrs.take 16 = m.ctrs from List.take_left' hs.lN]
    have hs3 := hs2.keep (H' := H3) fun a _ y e => s3 _ _ e
    have hm3 := hm2.keep (H' := H3) fun a _ y e => s3 _ _ e
    have hb3 := s3 _ _ hb2
    walk_at "my rn"
    refine Rd.eqD (dp_ints (SqL.of h3)) (dp_ints (SqL.of hs3.hN)) (ints_shaped _) (ints_shaped _) ?_
    rw [eqv_ints, decide_eq_true rfl]
    walk_at "my rn"
    obtain ⟨b1, r1, q1, q2, hb1_⟩ := hs3.osAt (q := 0) (by decide)
    obtain ⟨b2, r2, q3, q4, hb2_⟩ := hm3.osAt (q := 0) (by decide)
    have er : r2 = r1 := by
      have : (ext m).outs[0]? = m.outs[0]? := List.getElem?_append_left (by rw [hs.lP]; decide)
      rw [this, q2] at q4
      exact (Option.some.inj q4).symm
    rw [er] at hb2_
    refine Rd.ixL hm3.hO (Rd.at_val (j := 0) rfl (by rw [List.getElem?_map, q3]; rfl)) ?_
    walk_at "my rn"
    refine Rd.ixL hs3.hO (Rd.at_val (j := 0) rfl (by rw [List.getElem?_map, q1]; rfl)) ?_
    walk_at "my rn"
    refine Rd.eqD (dp_ints (SqL.of hb2_)) (dp_ints (SqL.of hb1_)) (ints_shaped _) (ints_shaped _) ?_
    rw [eqv_ints, decide_eq_true rfl]
    exact q _ (s1.trans (s2.trans s3))
end


set_option Elab.async false
set_option linter.all false
set_option maxRecDepth 100000
set_option maxHeartbeats 1000000








/-- a comprehension whose elements are drawn and told by a relation -/
theorem lc_drawE {n : Nat} {g : TG} {te : TE} {vs : List Nat} {σ : L2.St} {H1 : Hp} {D p c : Addr} {Qd : Hp → Prop} (R : V → Hp → Prop) (st : StOk H1 p c) (nD : H1 D = none) (hn : n ≤ 90000)
    (mono : ∀ v H H', R v H → StOk H p c → (∃ xs, H D = some (.lst xs)) → (∀ b o, b ≠ p → b ≠ D → H b = some o → H' b = some o) → R v H')
    (hs : ∀ (i : Nat) H (Kt : VK), i < n → StOk H p c → (∀ v H4, R v H4 → StOk H4 p c → Keep p H H4 → Kt v H4) → g (.int (i : Int)) (wipe σ vs) H fun σ2 H2 => wipe σ2 vs = wipe σ vs ∧ te σ2 H2 Kt)
    (hd : ∀ H (ys : List V), ys.length = n → (∀ v ∈ ys, R v H) → StOk H p c → Keep p H1 H → H D = some (.lst ys) → Qd H) :
    ∃ W : Nat → Nat → Hp → Prop, (∃ m, W 0 m (upd H1 D (.lst []))) ∧ ∀ i m H, W i m H →
      ((Itr 0 n).stop i H ∧ Qd H) ∨ ((Itr 0 n).go i H ∧ ∃ Nx : Hp → Prop, (∀ H', Nx H' → ∃ m', m' < m ∧ W (i + 1) m' H') ∧ ∀ x H', (Itr 0 n).yld i H x H' → g x (wipe σ vs) H' fun σ2 H2 => wipe σ2 vs = wipe σ vs ∧ tYes σ2 H2 fun b H3 =>
        if b = true then te σ2 H3 fun y H4 => ∃ acc, H4 D = some (.lst acc) ∧ acc.length < sizeLine ∧ Nx (upd H4 D (.lst (acc ++ [y]))) else Nx H3) := by
  have pD := st.ne nD
  have stk : ∀ {H H' : Hp} {o : HO}, StOk H' p c → StOk (upd H' D o) p c := fun s => by
    obtain ⟨ms, k, v, sd, a, b, d, r⟩ := s
    exact ⟨ms, k, v, sd, a, by rw [upd_ne pD.1.symm]; exact b, by rw [upd_ne pD.2.symm]; exact d, r⟩
  refine lc_it walk_range (fun i H => ∃ ys : List V, ys.length = i ∧ (∀ v ∈ ys, R v H) ∧ StOk H p c ∧ Keep p H1 H ∧ H D = some (.lst ys)) ⟨[], rfl, fun v h => (by cases h), stk (H := H1) st, Keep.same (same_new nD), upd_same⟩ (fun _ _ _ _ => trivial) (fun i x H H' hi h y => ?_) (fun H ⟨ys, a, b, d, e, f⟩ => hd H ys a b d e f)
  obtain ⟨ys, ln, gn, s1, k1, hD⟩ := h
  obtain ⟨rfl, e⟩ := Rd.zr y
  subst e
  refine hs i _ _ hi s1 fun v H4 gv s4 k4 => ?_
  have hD4 := k4 _ _ pD.1 hD
  have off : ∀ b o, b ≠ p → b ≠ D → H4 b = some o → (upd H4 D (.lst (ys ++ [v]))) b = some o := fun b o _ n e => by rw [upd_ne n]; exact e
  refine ⟨ys, hD4, Rd.szl (by omega), ys ++ [v], by simp [ln], fun u m => ?_, stk (H := H4) s4, fun b o n1 h => ?_, upd_same⟩
  · rcases List.mem_append.mp m with m | m
    · exact mono _ _ _ (mono _ _ _ (gn u m) s1 ⟨_, hD⟩ fun b o n _ e => k4 b o n e) s4 ⟨_, hD4⟩ off
    · rw [List.mem_singleton.mp m]; exact mono _ _ _ gv s4 ⟨_, hD4⟩ off
  · have nb : b ≠ D := fun z => by rw [z, nD] at h; cases h
    rw [upd_ne nb]
    exact k4 b o n1 (k1 b o n1 h)

section
variable {P : Program} {w : World} {K : PySem.W.Frag} {mg : Str → Option Value} {base : Heap}
theorem ys_rep {n : Nat} {x : Int} {ys : List V} (l : ys.length = n) (h : ∀ (i : Nat) v, ys[i]? = some v → v = .int x) : ys = (List.replicate n x).map V.int := by
  rw [List.map_replicate]
  exact List.eq_replicate_iff.mpr ⟨l, fun v m => by
    obtain ⟨i, hi⟩ := List.getElem?_of_mem m
    exact h i v hi⟩
theorem used_rows {us : List Int} {S W x : Int} (ok1 : 1 ≤ S) (ok2 : 1 ≤ W) : usedRows (rowsOf us S.toNat W.toNat) S W x = rowsOf (us ++ [x]) S.toNat W.toNat := by
  have m0 := Int.emod_nonneg x (show S ≠ 0 by omega)
  have m1 := Int.emod_lt_of_pos x (show 0 < S by omega)
  have hi : (x % S).toNat < S.toNat := by omega
  have eS : ((S.toNat : Nat) : Int) = S := by omega
  rw [rows_use (by omega) hi (by rw [eS]; omega)]
  unfold usedRows rowAt
  rw [List.getD_eq_getElem?_getD, rows_get hi]
  rfl
theorem row_at {us : List Int} {S W x : Int} (ok1 : 1 ≤ S) : rowAt (rowsOf us S.toNat W.toNat) S x = rowOf us S (x % S) W.toNat := by
  have m0 := Int.emod_nonneg x (show S ≠ 0 by omega)
  have m1 := Int.emod_lt_of_pos x (show 0 < S by omega)
  have hi : (x % S).toNat < S.toNat := by omega
  have eS : ((S.toNat : Nat) : Int) = S := by omega
  unfold rowAt
  rw [List.getD_eq_getElem?_getD, rows_get hi, eS, Int.toNat_of_nonneg m0]
  rfl
def Ic.isLd : Ic → Bool
  | .load _ _ => true
  | .loadx _ _ _ _ => true
  | _ => false
theorem mem_acc2 (i : Ic) : decide (i.nm ∈ (["load", "loadx", "store", "storex"] : List Str)) = i.isAcc := by cases i <;> with_unfolding_all rfl
theorem mem_ld (i : Ic) : decide (i.nm ∈ (["load", "loadx"] : List Str)) = i.isLd := by cases i <;> with_unfolding_all rfl
theorem hit_eq {R : Addr} {l : List Addr} {S W z a : Int} {us : List Int} (ok : SizesOk S W z) : (Cd.mk R l S W z (rowsOf us S.toNat W.toNat)).hit a = decide (a / z ∈ rowOf us S (a / z % S) W.toNat) := by
  show decide (a / z ∈ rowAt (rowsOf us S.toNat W.toNat) S (a / z)) = _
  rw [row_at ok.s1]
theorem used_eq {R : Addr} {l : List Addr} {S W z a : Int} {us : List Int} (ok : SizesOk S W z) : (Cd.mk R l S W z (rowsOf us S.toNat W.toNat)).used a = Cd.mk R l S W z (rowsOf (us ++ [a / z]) S.toNat W.toNat) := by
  show Cd.mk R l S W z (usedRows (rowsOf us S.toNat W.toNat) S W (a / z)) = _
  rw [used_rows ok.s1 ok.w1]
theorem acc_eq {i : Ic} (h : i.isAcc = true) {m : Ms} {R : Addr} {l : List Addr} {S W z : Int} {us : List Int} (ok : SizesOk S W z) : accD i m (Cd.mk R l S W z (rowsOf us S.toNat W.toNat)) = Cd.mk R l S W z (rowsOf (if i.isLd = true ∨ ((i.addr m : Nat) : Int) / z ∈ rowOf us S (((i.addr m : Nat) : Int) / z % S) W.toNat then us ++ [((i.addr m : Nat) : Int) / z] else us) S.toNat W.toNat) := by
  cases i
  case load r a => rw [if_pos (.inl rfl)]; exact used_eq ok
  case loadx r s a n => rw [if_pos (.inl rfl)]; exact used_eq ok
  case store r a =>
    show (if (Cd.mk R l S W z (rowsOf us S.toNat W.toNat)).hit ((Ic.store r a).addr m : Nat) = true then _ else _) = _
    rw [hit_eq ok]
    by_cases c : (((Ic.store r a).addr m : Nat) : Int) / z ∈ rowOf us S ((((Ic.store r a).addr m : Nat) : Int) / z % S) W.toNat
    · rw [decide_eq_true c, if_pos rfl, if_pos (.inr c)]; exact used_eq ok
    · rw [decide_eq_false c, if_neg Bool.false_ne_true, if_neg (fun z => z.elim (fun h => by cases h) c)]
  case storex r s a n =>
    show (if (Cd.mk R l S W z (rowsOf us S.toNat W.toNat)).hit ((Ic.storex r s a n).addr m : Nat) = true then _ else _) = _
    rw [hit_eq ok]
    by_cases c : (((Ic.storex r s a n).addr m : Nat) : Int) / z ∈ rowOf us S ((((Ic.storex r s a n).addr m : Nat) : Int) / z % S) W.toNat
    · rw [decide_eq_true c, if_pos rfl, if_pos (.inr c)]; exact used_eq ok
    · rw [decide_eq_false c, if_neg Bool.false_ne_true, if_neg (fun z => z.elim (fun h => by cases h) c)]
  all_goals cases h
theorem nd_snoc {G : Hp} {L : List Addr} {b : Addr} (hL : L.Nodup) (eL : ∀ a ∈ L, ∃ y, G a = some y) (n : G b = none) : (L ++ [b]).Nodup := nd_new hL nd1 eL (fun c m => by rw [List.mem_singleton.mp m]; exact n)
theorem lv_snoc {G G' : Hp} {L : List Addr} {b : Addr} {y : HO} (eL : ∀ a ∈ L, ∃ y, G a = some y) (s : Same G G') (e : G' b = some y) : ∀ a ∈ L ++ [b], ∃ y, G' a = some y := fun a m => by
  rcases List.mem_append.mp m with m | m
  · obtain ⟨y, e⟩ := eL a m
    exact ⟨y, s _ _ e⟩
  · rw [List.mem_singleton.mp m]; exact ⟨_, e⟩
def IZ (K : PySem.W.Frag) (H : Hp) (t : Addr) : Prop := ∃ i : Ic, IcAt K H t i ∧ i.OkS ∧ i.OkZ
theorem iz_dp {K : PySem.W.Frag} {H : Hp} : ∀ {ts : List Addr}, (∀ t ∈ ts, IZ K H t) → ∃ ds, DpAll K H (ts.map V.ref) ds ∧ ∀ d ∈ ds, DOk 1 d
  | [], _ => ⟨[], .nil, fun _ m => (by cases m)⟩
  | t :: r, h => by
    obtain ⟨ds, h1, h2⟩ := iz_dp (ts := r) fun u m => h u (List.mem_cons_of_mem _ m)
    obtain ⟨i, hi, ok, _⟩ := h t List.mem_cons_self
    exact ⟨_ :: ds, .cons (Ic.dp hi) h1, fun d m => by
      rcases List.mem_cons.mp m with rfl | m
      · exact Ic.dok (OkS.ok ok)
      · exact h2 d m⟩
def sp_law (K : PySem.W.Frag) : Sp := fun vs H Q _ => ∃ (a : Addr) (ns : List Int), vs = [.ref a] ∧ SqL K H a (ns.map V.int) ∧ ns.length ≤ 63 ∧ ∀ H', Q (.bl true) H'
theorem ok_law (T : Top P w K mg) : FnOk P w K mg base CX0 7 T.a_law T.d_law ["script"]  (sp_law K) := by
  refine T.F_law.ok sc_law (fun vs H Q E h => ?_) (fun cdv A outer s H vs Q E hr h => ?_)
  · obtain ⟨_, _, rfl, _⟩ := h
    rfl
  · obtain ⟨l, ns, rfl, hS, hlen, q⟩ := h
    refine ⟨_, (pss_cons (ps_set (i := 1) sc_law.nd rfl (by first | exact Or.inl rfl | exact Or.inr rfl) (pe_call (ok__law_start T) (hr.mono (by decide)) (by rfl) T.g__law_start T.F__law_start.kp T.b__law_start .nil pass0 (pa_cons (pv 0) pa_nil)))
  (pss_cons (ps_set (i := 2) sc_law.nd rfl (by first | exact Or.inl rfl | exact Or.inr rfl) (pe_op op_add pe_int (pe_call (ok__law_draw T) (hr.mono (by decide)) (by rfl) T.g__law_draw T.F__law_draw.kp T.b__law_draw .nil pass0 (pa_cons (pv 1) (pa_cons pe_int pa_nil)))))
  (pss_cons (ps_setLc (i := 3) (own := [("k", 4)]) (g := gName 4) (tt := tYes) rfl sc_law.nd rfl rfl (sw_true rfl rfl rfl (by decide +kernel)) (pi_range1 (by rfl) T.m_range (pa_cons (pv 2) pa_nil)) (blkOk_by (N := ["script", "state", "size", "code", "k", "code_shape", "data_shape", "n", "costs", "words", "given", "core", "code_cache", "board", "at", "registers", "data", "counters", "outputs", "fetches", "loads", "told", "instruction", "fetched", "loaded", "address", "taken"]) (sc := defScope s_law) (by decide +kernel)) (fun _ _ _ _ _ => pg_name (i := 4) sc_law.nd rfl (Or.inl rfl)) (fun _ _ _ _ _ => pts_nil) (fun _ _ _ _ _ => (pe_call (ok__law_instruction T) (hr.mono (by decide)) (by rfl) T.g__law_instruction T.F__law_instruction.kp T.b__law_instruction .nil pass0 (pa_cons (pv 1) (pa_cons (pv 2) pa_nil)))))
  (pss_cons (ps_set (i := 5) sc_law.nd rfl (by first | exact Or.inl rfl | exact Or.inr rfl) (pe_call (ok__law_shape T) (hr.mono (by decide)) (by rfl) T.g__law_shape T.F__law_shape.kp T.b__law_shape .nil pass0 (pa_cons (pv 1) pa_nil)))
  (pss_cons (ps_set (i := 6) sc_law.nd rfl (by first | exact Or.inl rfl | exact Or.inr rfl) (pe_call (ok__law_shape T) (hr.mono (by decide)) (by rfl) T.g__law_shape T.F__law_shape.kp T.b__law_shape .nil pass0 (pa_cons (pv 1) pa_nil)))
  (pss_cons (ps_set (i := 7) sc_law.nd rfl (by first | exact Or.inl rfl | exact Or.inr rfl) (pe_lst (pa_cons (pe_op op_add pe_int (pe_call (ok__law_draw T) (hr.mono (by decide)) (by rfl) T.g__law_draw T.F__law_draw.kp T.b__law_draw .nil pass0 (pa_cons (pv 1) (pa_cons pe_int pa_nil)))) (pa_cons (pe_op op_add pe_int (pe_call (ok__law_draw T) (hr.mono (by decide)) (by rfl) T.g__law_draw T.F__law_draw.kp T.b__law_draw .nil pass0 (pa_cons (pv 1) (pa_cons pe_int pa_nil)))) (pa_cons (pe_op op_add pe_int (pe_call (ok__law_draw T) (hr.mono (by decide)) (by rfl) T.g__law_draw T.F__law_draw.kp T.b__law_draw .nil pass0 (pa_cons (pv 1) (pa_cons pe_int pa_nil)))) (pa_cons (pe_op op_add pe_int (pe_call (ok__law_draw T) (hr.mono (by decide)) (by rfl) T.g__law_draw T.F__law_draw.kp T.b__law_draw .nil pass0 (pa_cons (pv 1) (pa_cons pe_int pa_nil)))) pa_nil))))))
  (pss_cons (ps_expr (pe_bm PySem.F.plainAttrs_list PySem.F.slot_list_append PySem.F.type_list_append mt_append (pv 7) (pa_cons (pe_op op_add pe_int (pe_call (ok__law_draw T) (hr.mono (by decide)) (by rfl) T.g__law_draw T.F__law_draw.kp T.b__law_draw .nil pass0 (pa_cons (pv 1) (pa_cons pe_int pa_nil)))) pa_nil)))
  (pss_cons (ps_set (i := 8) sc_law.nd rfl (by first | exact Or.inl rfl | exact Or.inr rfl) (pe_makeK0 T.M_Costs (ok_Costs_init T) (hr.mono (by decide)) (by rfl) T.gc_Costs (kb_Costs_init_1 T.F_Costs_init).choose_spec pass_no (pk_cons (pe_ix ix_list (pv 7) pe_int (fun _ _ => rfl)) (pk_cons (pe_ix ix_list (pv 7) pe_int (fun _ _ => rfl)) (pk_cons (pe_ix ix_list (pv 7) pe_int (fun _ _ => rfl)) (pk_cons (pe_ix ix_list (pv 7) pe_int (fun _ _ => rfl)) (pk_cons (pe_ix ix_list (pv 7) pe_int (fun _ _ => rfl)) pk_nil)))))))
  (pss_cons (ps_setLc (i := 9) (own := [("k", 4)]) (g := gName 4) (tt := tYes) rfl sc_law.nd rfl rfl (sw_true rfl rfl rfl (by decide +kernel)) (pi_range1 (by rfl) T.m_range (pa_cons (pe_call (ok__law_draw T) (hr.mono (by decide)) (by rfl) T.g__law_draw T.F__law_draw.kp T.b__law_draw .nil pass0 (pa_cons (pv 1) (pa_cons pe_int pa_nil))) pa_nil)) (blkOk_by (N := ["script", "state", "size", "code", "k", "code_shape", "data_shape", "n", "costs", "words", "given", "core", "code_cache", "board", "at", "registers", "data", "counters", "outputs", "fetches", "loads", "told", "instruction", "fetched", "loaded", "address", "taken"]) (sc := defScope s_law) (by decide +kernel)) (fun _ _ _ _ _ => pg_name (i := 4) sc_law.nd rfl (Or.inl rfl)) (fun _ _ _ _ _ => pts_nil) (fun _ _ _ _ _ => (pe_call (ok__law_draw T) (hr.mono (by decide)) (by rfl) T.g__law_draw T.F__law_draw.kp T.b__law_draw .nil pass0 (pa_cons (pv 1) (pa_cons pe_int pa_nil)))))
  (pss_cons (ps_set (i := 10) sc_law.nd rfl (by first | exact Or.inl rfl | exact Or.inr rfl) (pe_callTy call_list_of (by rfl) T.m_list (by decide +kernel) (pa_cons (pv 3) pa_nil)))
  (pss_cons (ps_set (i := 11) sc_law.nd rfl (by first | exact Or.inl rfl | exact Or.inr rfl) (pe_make T.M_Core (ok_Core_init T) (hr.mono (by decide)) (by rfl) T.gc_Core T.b_Core_init .nil pass0 (pa_cons pe_int pa_nil)))
  (pss_cons (ps_set (i := 12) sc_law.nd rfl (by first | exact Or.inl rfl | exact Or.inr rfl) (pe_make T.M_Cache (ok_Cache_init T) (hr.mono (by decide)) (by rfl) T.gc_Cache T.b_Cache_init .nil pass0 (pa_cons (pe_ix ix_tup (pv 5) pe_int (fun _ _ => rfl)) (pa_cons (pe_ix ix_tup (pv 5) pe_int (fun _ _ => rfl)) (pa_cons (pe_ix ix_tup (pv 5) pe_int (fun _ _ => rfl)) pa_nil)))))
  (pss_cons (ps_set (i := 13) sc_law.nd rfl (by first | exact Or.inl rfl | exact Or.inr rfl) (pe_make T.M_Board (ok_Board_init T) (hr.mono (by decide)) (by rfl) T.gc_Board T.b_Board_init .nil pass0 (pa_cons (pv 12) (pa_cons (pe_make T.M_Cache (ok_Cache_init T) (hr.mono (by decide)) (by rfl) T.gc_Cache T.b_Cache_init .nil pass0 (pa_cons (pe_ix ix_tup (pv 6) pe_int (fun _ _ => rfl)) (pa_cons (pe_ix ix_tup (pv 6) pe_int (fun _ _ => rfl)) (pa_cons (pe_ix ix_tup (pv 6) pe_int (fun _ _ => rfl)) pa_nil)))) (pa_cons (pe_lst (pa_cons (pe_callTy call_list_of (by rfl) T.m_list (by decide +kernel) (pa_cons (pv 9) pa_nil)) pa_nil)) pa_nil)))))
  (pss_cons (ps_set (i := 9) sc_law.nd rfl (by first | exact Or.inl rfl | exact Or.inr rfl) (pe_lst (pa_cons (pv 9) pa_nil)))
  (pss_cons (ps_set (i := 14) sc_law.nd rfl (by first | exact Or.inl rfl | exact Or.inr rfl) pe_int)
  (pss_cons (ps_setLc (i := 15) (own := [("k", 4)]) (g := gName 4) (tt := tYes) rfl sc_law.nd rfl rfl (sw_true rfl rfl rfl (by decide +kernel)) (pi_range1 (by rfl) T.m_range (pa_cons pe_int pa_nil)) (blkOk_by (N := ["script", "state", "size", "code", "k", "code_shape", "data_shape", "n", "costs", "words", "given", "core", "code_cache", "board", "at", "registers", "data", "counters", "outputs", "fetches", "loads", "told", "instruction", "fetched", "loaded", "address", "taken"]) (sc := defScope s_law) (by decide +kernel)) (fun _ _ _ _ _ => pg_name (i := 4) sc_law.nd rfl (Or.inl rfl)) (fun _ _ _ _ _ => pts_nil) (fun _ _ _ _ _ => pe_int))
  (pss_cons (ps_setLc (i := 16) (own := [("k", 4)]) (g := gName 4) (tt := tYes) rfl sc_law.nd rfl rfl (sw_true rfl rfl rfl (by decide +kernel)) (pi_range1 (by rfl) T.m_range (pa_cons pe_int pa_nil)) (blkOk_by (N := ["script", "state", "size", "code", "k", "code_shape", "data_shape", "n", "costs", "words", "given", "core", "code_cache", "board", "at", "registers", "data", "counters", "outputs", "fetches", "loads", "told", "instruction", "fetched", "loaded", "address", "taken"]) (sc := defScope s_law) (by decide +kernel)) (fun _ _ _ _ _ => pg_name (i := 4) sc_law.nd rfl (Or.inl rfl)) (fun _ _ _ _ _ => pts_nil) (fun _ _ _ _ _ => pe_int))
  (pss_cons (ps_setLc (i := 17) (own := [("k", 4)]) (g := gName 4) (tt := tYes) rfl sc_law.nd rfl rfl (sw_true rfl rfl rfl (by decide +kernel)) (pi_range1 (by rfl) T.m_range (pa_cons pe_int pa_nil)) (blkOk_by (N := ["script", "state", "size", "code", "k", "code_shape", "data_shape", "n", "costs", "words", "given", "core", "code_cache", "board", "at", "registers", "data", "counters", "outputs", "fetches", "loads", "told", "instruction", "fetched", "loaded", "address", "taken"]) (sc := defScope s_law) (by decide +kernel)) (fun _ _ _ _ _ => pg_name (i := 4) sc_law.nd rfl (Or.inl rfl)) (fun _ _ _ _ _ => pts_nil) (fun _ _ _ _ _ => pe_int))
  (pss_cons (ps_set (i := 18) sc_law.nd rfl (by first | exact Or.inl rfl | exact Or.inr rfl) (pe_lst (pa_cons (pe_lst pa_nil) pa_nil)))
  (pss_cons (ps_set (i := 19) sc_law.nd rfl (by first | exact Or.inl rfl | exact Or.inr rfl) (pe_lst pa_nil))
  (pss_cons (ps_set (i := 20) sc_law.nd rfl (by first | exact Or.inl rfl | exact Or.inr rfl) (pe_lst pa_nil))
  (pss_cons (ps_for PassesOwn.never rfl (pi_range1 (by rfl) T.m_range (pa_cons pe_int pa_nil)) (pg_name (i := 4) sc_law.nd rfl (by first | exact Or.inl rfl | exact Or.inr rfl))
  (pss_cons (ps_set (i := 21) sc_law.nd rfl (by first | exact Or.inl rfl | exact Or.inr rfl) (pe_call (ok_step T) (hr.mono (by decide)) (by rfl) T.g_step T.F_step.kp T.b_step .nil pass0 (pa_cons (pv 8) (pa_cons (pv 10) (pa_cons (pv 11) (pa_cons (pv 13) pa_nil))))))
  (pss_cons (ps_if (pt_cmpR op_ge (pv 14) (pv 2) (nomark _))
  (pss_one (ps_ret (pe_and (pe_cmpR (op_eqD hr.units) (pv 21) (pe_tup (pa_cons pe_int (pa_cons pe_non pa_nil))) (nomark _)) (pe_one (pe_call (ok__law_same T) (hr.mono (by decide)) (by rfl) T.g__law_same T.F__law_same.kp T.b__law_same .nil pass0 (pa_cons (pv 11) (pa_cons (pv 13) (pa_cons (pv 14) (pa_cons (pv 15) (pa_cons (pv 16) (pa_cons (pv 17) (pa_cons (pv 18) pa_nil))))))))))))
  pss_nil)
  (pss_cons (ps_set (i := 22) sc_law.nd rfl (by first | exact Or.inl rfl | exact Or.inr rfl) (pe_ix ix_list (pv 3) (pv 14) (fun _ _ => rfl)))
  (pss_cons (ps_set (i := 23) sc_law.nd rfl (by first | exact Or.inl rfl | exact Or.inr rfl) (pe_call (ok__law_use T) (hr.mono (by decide)) (by rfl) T.g__law_use T.F__law_use.kp T.b__law_use .nil pass0 (pa_cons (pv 19) (pa_cons (pv 5) (pa_cons (pv 14) (pa_cons pe_bl pa_nil))))))
  (pss_cons (ps_set (i := 24) sc_law.nd rfl (by first | exact Or.inl rfl | exact Or.inr rfl) pe_bl)
  (Evl.pss_cut (ps_if (pt_cmpR op_in_seq (pe_ix ix_tup (pv 22) pe_int (fun _ _ => rfl)) (pe_tup (pa_cons pe_str (pa_cons pe_str (pa_cons pe_str (pa_cons pe_str pa_nil))))) (by with_unfolding_all rfl))
  (pss_cons (ps_set (i := 25) sc_law.nd rfl (by first | exact Or.inl rfl | exact Or.inr rfl) (pe_call (ok__law_address T) (hr.mono (by decide)) (by rfl) T.g__law_address T.F__law_address.kp T.b__law_address .nil pass0 (pa_cons (pv 22) (pa_cons (pv 15) pa_nil))))
  (pss_one (ps_set (i := 24) sc_law.nd rfl (by first | exact Or.inl rfl | exact Or.inr rfl) (pe_call (ok__law_use T) (hr.mono (by decide)) (by rfl) T.g__law_use T.F__law_use.kp T.b__law_use .nil pass0 (pa_cons (pv 20) (pa_cons (pv 6) (pa_cons (pv 25) (pa_cons (pe_cmpR op_in_seq (pe_ix ix_tup (pv 22) pe_int (fun _ _ => rfl)) (pe_tup (pa_cons pe_str (pa_cons pe_str pa_nil))) (by with_unfolding_all rfl)) pa_nil))))))))
  pss_nil)
  (pss_cons (ps_expr (pe_call (ok__law_move T) (hr.mono (by decide)) (by rfl) T.g__law_move T.F__law_move.kp T.b__law_move .nil pass0 (pa_cons (pv 22) (pa_cons (pv 15) (pa_cons (pv 16) (pa_cons (pv 17) (pa_cons (pv 9) (pa_cons (pv 18) pa_nil))))))))
  (pss_cons (ps_asg (pe_call (ok__law_goal T) (hr.mono (by decide)) (by rfl) T.g__law_goal T.F__law_goal.kp T.b__law_goal .nil pass0 (pa_cons (pv 22) (pa_cons (pv 14) (pa_cons (pv 15) (pa_cons (pv 17) pa_nil))))) (pg_tup rfl (pgs_cons (pg_name (i := 14) sc_law.nd rfl (by first | exact Or.inl rfl | exact Or.inr rfl)) (pgs_cons (pg_name (i := 26) sc_law.nd rfl (by first | exact Or.inl rfl | exact Or.inr rfl)) pgs_nil))))
  (pss_cons (ps_if (pt_cmpR (op_neD hr.units) (pv 21) (pe_tup (pa_cons (pe_call (ok__law_cost T) (hr.mono (by decide)) (by rfl) T.g__law_cost T.F__law_cost.kp T.b__law_cost .nil pass0 (pa_cons (pv 7) (pa_cons (pv 22) (pa_cons (pv 26) (pa_cons (pv 23) (pa_cons (pv 24) pa_nil)))))) (pa_cons (pv 22) pa_nil))) (nomark _))
  (pss_one (ps_ret pe_bl))
  pss_nil)
  (pss_one (ps_if (pt_not (pt_val (pe_call (ok__law_same T) (hr.mono (by decide)) (by rfl) T.g__law_same T.F__law_same.kp T.b__law_same .nil pass0 (pa_cons (pv 11) (pa_cons (pv 13) (pa_cons (pv 14) (pa_cons (pv 15) (pa_cons (pv 16) (pa_cons (pv 17) (pa_cons (pv 18) pa_nil))))))))))
  (pss_one (ps_ret pe_bl))
  pss_nil))))))))))))
  (pss_one (ps_ret (pe_and (pe_cmpR (op_eqD hr.units) (pv 10) (pv 3) (nomark _)) (pe_one (pe_cmpR (op_eqD hr.units) (pe_fld (pv 12) rfl) (pe_lc (own := [("k", 4)]) (g := gName 4) (tt := tYes) rfl sc_law.nd (pi_range1 (by rfl) T.m_range (pa_cons (pe_ix ix_tup (pv 5) pe_int (fun _ _ => rfl)) pa_nil)) (blkOk_by (N := ["script", "state", "size", "code", "k", "code_shape", "data_shape", "n", "costs", "words", "given", "core", "code_cache", "board", "at", "registers", "data", "counters", "outputs", "fetches", "loads", "told", "instruction", "fetched", "loaded", "address", "taken"]) (sc := defScope s_law) (by decide +kernel)) (fun _ _ _ _ _ => pg_name (i := 4) sc_law.nd rfl (Or.inl rfl)) (fun _ _ _ _ _ => pts_nil) (fun _ _ _ _ _ => (pe_lst pa_nil))) (nomark _)))))))))))))))))))))))))))), ?_⟩
    rw [show ∀ a0 : V, L2.start ["script", "state", "size", "code", "k", "code_shape", "data_shape", "n", "costs", "words", "given", "core", "code_cache", "board", "at", "registers", "data", "counters", "outputs", "fetches", "loads", "told", "instruction", "fetched", "loaded", "address", "taken"] [a0] = [some a0, none, none, none, none, none, none, none, none, none, none, none, none, none, none, none, none, none, none, none, none, none, none, none, none, none, none] from fun _ => rfl]
    walk_at "my rn"
    refine ⟨l, ns, rfl, hS, hlen, fun H0 p c s0 np nc st0 => ?_⟩
    walk_at "my rn"
    refine ⟨p, c, 14, rfl, st0, by decide, by decide, fun zs H1 zs0 zs1 st1 k1 => ?_⟩
    obtain ⟨sz, esz⟩ : ∃ j : Int, 3 + zs = j := ⟨_, rfl⟩
    walk_at "my rn"
    rw [esz]
    refine ⟨by omega, by omega, fun C nC => ?_⟩
    refine lc_drawE (fun v H' => ∃ t, v = .ref t ∧ IZ K H' t) st1 nC (by omega) (fun v Ha Hb h sta hDa kab => ?_) (fun j Hj Kt hj stj kt => ?_) (fun H2 ys lys gys st2 k2 hC2 => ?_)
    · obtain ⟨t, e, i, hi, ok, oz⟩ := h
      obtain ⟨xs, hDa⟩ := hDa
      obtain ⟨ms, j, v, sd, _, hp, _⟩ := sta
      refine ⟨t, e, i, ?_, ok, oz⟩
      rcases hi with h | h
      · rcases h with h | ⟨o, h⟩
        · exact .inl (.inl (kab _ _ (fun z => by rw [z, hp] at h; cases h) (fun z => by rw [z, hDa] at h; cases h) h))
        · exact .inl (.inr ⟨o, kab _ _ (fun z => by rw [z, hp] at h; cases h) (fun z => by rw [z, hDa] at h; cases h) h⟩)
      · exact .inr h
    · simp only [List.map_cons, List.map_nil, L2.wipe, List.set_cons_succ, List.set_cons_zero]
      walk_at "my rn"
      refine ⟨rfl, ?_⟩
      walk_at "my rn"
      refine ⟨p, c, sz, rfl, stj, by omega, by omega, fun t i H' hi ok oz st' k' => ?_⟩
      exact kt _ _ ⟨t, rfl, i, hi, ok, oz⟩ st' k'
    · obtain ⟨ts, ets, gts⟩ := refs_of (Pr := IZ K H2) fun j v hv => gys v (List.mem_of_getElem? hv)
      rw [ets] at hC2 lys
      have lts : ts.length = sz.toNat := by rw [List.length_map] at lys; exact lys
      have Cp := st1.ne nC
      have izk : ∀ {Ha Hb : Hp}, StOk Ha p c → Keep p Ha Hb → (∀ t ∈ ts, IZ K Ha t) → ∀ t ∈ ts, IZ K Hb t := fun {Ha Hb} sta k g t m => by
        obtain ⟨i, hi, r⟩ := g t m
        exact ⟨i, k.seqT sta hi, r⟩
      have izs : ∀ {Ha Hb : Hp}, Same Ha Hb → (∀ t ∈ ts, IZ K Ha t) → ∀ t ∈ ts, IZ K Hb t := fun {Ha Hb} s g t m => by
        obtain ⟨i, hi, r⟩ := g t m
        exact ⟨i, s.seqT hi, r⟩
      walk_at "my rn"
      refine ⟨p, c, rfl, st2, fun t1 S1 W1 z1 H3 sz1 ht1 st3 k3 => ?_⟩
      walk_at "my rn"
      refine ⟨p, c, rfl, st3, fun t2 S2 W2 z2 H4 sz2 ht2 st4 k4 => ?_⟩
      have tne : ∀ {G : Hp} {t : Addr} {xs : List V}, StOk G p c → G t = some (.tup xs) → t ≠ p := fun {G t xs} st e z => by
        obtain ⟨ms, j, v, sd, _, hp, _⟩ := st
        rw [z, hp] at e; cases e
      have ht14 := k4 _ _ (tne st3 ht1) ht1
      have gts4 := izk st3 k4 (izk st2 k3 gts)
      have hC4 := k4 _ _ Cp.1 (k3 _ _ Cp.1 hC2)
      walk_at "my rn"
      refine ⟨p, c, 3, rfl, st4, by decide, by decide, fun v5 H5 v50 v51 st5 k5 => ?_⟩
      obtain ⟨na, ena⟩ : ∃ j : Int, 1 + v5 = j := ⟨_, rfl⟩
      walk_at "my rn"
      rw [ena]
      refine ⟨p, c, 20, rfl, st5, by decide, by decide, fun v6 H6 v60 v61 st6 k6 => ?_⟩
      obtain ⟨nb, enb⟩ : ∃ j : Int, 3 + v6 = j := ⟨_, rfl⟩
      walk_at "my rn"
      rw [enb]
      refine ⟨p, c, 3, rfl, st6, by decide, by decide, fun v7 H7 v70 v71 st7 k7 => ?_⟩
      obtain ⟨nd, end_⟩ : ∃ j : Int, 1 + v7 = j := ⟨_, rfl⟩
      walk_at "my rn"
      rw [end_]
      refine ⟨p, c, 20, rfl, st7, by decide, by decide, fun v8 H8 v80 v81 st8 k8 => ?_⟩
      obtain ⟨ne, ene⟩ : ∃ j : Int, 3 + v8 = j := ⟨_, rfl⟩
      walk_at "my rn"
      rw [ene]
      intro Nl H9 nNl s9 hNl
      have st9 := st8.same s9
      have Np := st8.ne nNl
      walk_at "my rn"
      refine ⟨p, c, 9, rfl, st9, by decide, by decide, fun v10 H10 v100 v101 st10 k10 => ?_⟩
      obtain ⟨nf, enf⟩ : ∃ j : Int, 1 + v10 = j := ⟨_, rfl⟩
      have hNl10 := k10 _ _ Np.1 hNl
      walk_at "my rn"
      rw [enf]
      have K10 : Keep p H4 H10 := k5.trans (k6.trans (k7.trans (k8.trans ((Keep.same s9).trans k10))))
      have ht1_10 := K10 _ _ (tne st4 ht14) ht14
      have ht2_10 := K10 _ _ (tne st4 ht2) ht2
      have gts10 := izk st4 K10 gts4
      have hC10 := K10 _ _ Cp.1 hC4
      refine Rd.app hNl10 (Rd.szl (by show 4 < 100000; decide)) ?_
      have CN : C ≠ Nl := new_off (k8 _ _ Cp.1 (k7 _ _ Cp.1 (k6 _ _ Cp.1 (k5 _ _ Cp.1 hC4)))) nNl
      obtain ⟨H11, e11⟩ : ∃ H11, H11 = upd H10 Nl (.lst ([.int na, .int nb, .int nd, .int ne] ++ [.int nf])) := ⟨_, rfl⟩
      rw [← e11]
      have off11 : ∀ b y, b ≠ Nl → H10 b = some y → H11 b = some y := fun b y n e => by rw [e11, upd_ne n]; exact e
      have hNl11 : H11 Nl = some (.lst [.int na, .int nb, .int nd, .int ne, .int nf]) := by rw [e11, upd_same]; rfl
      have tnN : ∀ {t : Addr} {xs : List V}, H10 t = some (.tup xs) → t ≠ Nl := fun {t xs} e z => by rw [z, hNl10] at e; cases e
      have ht1_11 := off11 _ _ (tnN ht1_10) ht1_10
      have ht2_11 := off11 _ _ (tnN ht2_10) ht2_10
      have hC11 := off11 _ _ CN hC10
      have st11 : StOk H11 p c := by
        obtain ⟨ms, k, v, sd, a, b, d, r⟩ := st10
        exact ⟨ms, k, v, sd, a, off11 _ _ Np.1.symm b, off11 _ _ Np.2.symm d, r⟩
      have gts11 : ∀ t ∈ ts, IZ K H11 t := fun t m => by
        obtain ⟨i, hi, r⟩ := gts10 t m
        refine ⟨i, ?_, r⟩
        rcases hi with h | h
        · rcases h with h | ⟨o, h⟩
          · exact .inl (.inl (off11 _ _ (fun z => by rw [z, hNl10] at h; cases h) h))
          · exact .inl (.inr ⟨o, off11 _ _ (fun z => by rw [z, hNl10] at h; cases h) h⟩)
        · exact .inr h
      walk_at "my rn"
      have cok : (cuN na nb nd ne nf).Ok := by
        refine ⟨fun x m => ?_, fun x m => ?_, ?_, ?_⟩
        · simp only [cuN, List.mem_cons, List.mem_nil_iff, or_false] at m
          omega
        · simp only [cuN, List.mem_cons, List.mem_nil_iff, or_false] at m
          omega
        · show na ≤ nb; omega
        · show nd ≤ ne; omega
      refine ⟨rfl, rfl, fun cs dcs ncs ndcs necs => ?_⟩
      refine ⟨cs, dcs, cuN na nb nd ne nf, rfl, cok.sm, upd_same, fun _ H12 hc12 kp12 => ⟨rfl, ?_⟩, fun z => absurd cok z⟩
      have s12 : Same H11 H12 := fun b y e => kp12 b y (ne_of_none e ncs) (by rw [upd_ne (ne_of_none e ncs), upd_ne (ne_of_none e ndcs)]; exact e)
      have st12 := st11.same s12
      walk_at "my rn"
      refine ⟨p, c, 4, rfl, st12, by decide, by decide, fun nw H13 nw0 nw1 st13 k13 => ?_⟩
      walk_at "my rn"
      refine ⟨by omega, by omega, fun Wl nWl => ?_⟩
      refine lc_draw (fun v => 0 ≤ v ∧ v < 9) st13 nWl (by omega) (fun j Hj Kt hj stj kt => ?_) (fun H14 wds lwds gwds st14 k14 hWl14 => ?_)
      · simp only [List.map_cons, List.map_nil, L2.wipe, List.set_cons_succ, List.set_cons_zero]
        walk_at "my rn"
        refine ⟨rfl, ?_⟩
        walk_at "my rn"
        refine ⟨p, c, 9, rfl, stj, by decide, by decide, fun v Hv v0 v1 stv kv => ?_⟩
        exact kt v Hv ⟨v0, v1⟩ stv kv
      · have K14 : Keep p H12 H14 := k13.trans k14
        have hC14 := K14 _ _ Cp.1 (s12 _ _ hC11)
        have hNl14 := K14 _ _ Np.1 (s12 _ _ hNl11)
        have ht1_14 := K14 _ _ (tne st12 (s12 _ _ ht1_11)) (s12 _ _ ht1_11)
        have ht2_14 := K14 _ _ (tne st12 (s12 _ _ ht2_11)) (s12 _ _ ht2_11)
        have gts14 := izk st12 K14 (izs s12 gts11)
        have hcs14 : CostsAt T.C_Costs H14 cs (cuN na nb nd ne nf) := ⟨_, K14 _ _ (fun z => by
          obtain ⟨ms, j, v, sd, _, hp, _⟩ := id st12
          rw [z, hp] at hc12; cases hc12) hc12⟩
        have Wp := st13.ne nWl
        have CW : C ≠ Wl := new_off (k13 _ _ Cp.1 (s12 _ _ hC11)) nWl
        have NW : Nl ≠ Wl := new_off (k13 _ _ Np.1 (s12 _ _ hNl11)) nWl
        walk_at "my rn"
        intro G H15 nG s15 hG
        walk_at "my rn"
        refine fun oc dc noc ndc neo => ?_
        refine ⟨oc, dc, 0, rfl, upd_same, fun H16 RA ho16 hRA16 nRA kp16 => ⟨rfl, ?_⟩⟩
        have s16 : Same H15 H16 := fun b y e => kp16 b y (ne_of_none e noc) (by rw [upd_ne (ne_of_none e noc), upd_ne (ne_of_none e ndc)]; exact e)
        have RAo : RA ≠ oc := fun z => by rw [z, upd_same] at nRA; cases nRA
        have RAd : RA ≠ dc := fun z => by rw [z, upd_ne neo, upd_same] at nRA; cases nRA
        have nRA15 : H15 RA = none := by rw [upd_ne RAo, upd_ne RAd] at nRA; exact nRA
        have ht1_16 := s16 _ _ (s15 _ _ ht1_14)
        have ht2_16 := s16 _ _ (s15 _ _ ht2_14)
        walk_at "my rn"
        refine fun oa da noa nda nea => ?_
        refine ⟨oa, da, S1, W1, z1, rfl, sz1, upd_same, fun H17 Ra lsa ca17 kp17 nRa nlsa => ⟨rfl, ?_⟩⟩
        have s17 : Same H16 H17 := fun b y e => kp17 b y (ne_of_none e noa) (by rw [upd_ne (ne_of_none e noa), upd_ne (ne_of_none e nda)]; exact e)
        have ht2_17 := s17 _ _ ht2_16
        walk_at "my rn"
        refine fun oe de noe nde nee => ?_
        refine ⟨oe, de, S2, W2, z2, rfl, sz2, upd_same, fun H18 Re lse ce18 kp18 nRe nlse => ⟨rfl, ?_⟩⟩
        have s18 : Same H17 H18 := fun b y e => kp18 b y (ne_of_none e noe) (by rw [upd_ne (ne_of_none e noe), upd_ne (ne_of_none e nde)]; exact e)
        have hWl18 := s18 _ _ (s17 _ _ (s16 _ _ (s15 _ _ hWl14)))
        walk_at "my rn"
        intro Wc H19 nWc s19 hWc
        walk_at "my rn"
        intro Lc H20 nLc s20 hLc
        walk_at "my rn"
        refine fun ob db nob ndb neb => ?_
        have sb : Same H20 (upd (upd H20 db (.own ob)) ob (.ins T.C_Board db [])) := fun b y e => by
          rw [upd_ne (ne_of_none e nob), upd_ne (ne_of_none e ndb)]; exact e
        have few : ∀ {n : Nat} {W : Int}, 1 ≤ W → ∀ r ∈ List.replicate n ([] : List Int), (r.length : Int) ≤ W := fun {n W} h r m => by
          rw [List.eq_of_mem_replicate m]
          show ((0 : Nat) : Int) ≤ W
          omega
        refine ⟨ob, db, oa, oe, Lc, RA, ⟨Ra, lsa, S1, W1, z1, _⟩, ⟨Re, lse, S2, W2, z2, _⟩, [Wc], [wds], List.replicate 9 0, rfl, upd_same, ⟨ca17.keep fun a _ x e => sb _ _ (s20 _ _ (s19 _ _ (s18 _ _ e))), sz1, few sz1.w1⟩, ⟨ce18.keep fun a _ x e => sb _ _ (s20 _ _ (s19 _ _ e)), sz2, few sz2.w1⟩, sb _ _ (s20 _ _ (s19 _ _ (s18 _ _ (s17 _ _ hRA16)))), rfl, SqL.of (sb _ _ hLc), rfl, by show 1 ≤ 8; decide, fun j a r e1 e2 => ?_, fun H21 A ka kb e1 e2 eA hb21 hka hkb er1 eS1 eW1 ez1 er2 eS2 eW2 ez2 mem21 nd21 kp21 fresh21 => ⟨rfl, ?_⟩⟩
        · match j, e1, e2 with
          | 0, e1, e2 =>
            cases e1
            cases e2
            exact ⟨SqL.of (sb _ _ (s20 _ _ hWc)), by omega⟩
        have s21 : Same H20 H21 := fun b y e => kp21 b y (ne_of_none e nob) (sb b y e)
        subst eA
        obtain ⟨R1, l1, S1', W1', z1', r1⟩ := e1
        obtain ⟨R2, l2, S2', W2', z2', r2⟩ := e2
        dsimp only at er1 eS1 eW1 ez1 er2 eS2 eW2 ez2
        subst er1 eS1 eW1 ez1 er2 eS2 eW2 ez2
        have S21 : Same H14 H21 := s15.trans (s16.trans (s17.trans (s18.trans (s19.trans (s20.trans s21)))))
        walk_at "my rn"
        intro I' H22 nI s22 hI
        walk_at "my rn"
        refine ⟨by decide, by decide, fun R' nR => ?_⟩
        refine Rd.lc_rel walk_range (fun _ v _ => v = .int 0) nR (by decide) (fun _ _ _ _ h _ => h) (fun _ _ => trivial) (fun j x Hjo Hj Kt hj b hDl y kt => ?_) (fun H23 yR lyR hyR s23 hR => ?_)
        · obtain ⟨rfl, e3⟩ := Rd.zr y
          subst e3
          simp only [List.map_cons, List.map_nil, L2.wipe, List.set_cons_succ, List.set_cons_zero]
          walk_at "my rn"
          refine ⟨rfl, ?_⟩
          walk_at "my rn"
          exact kt _ _ rfl (Same.refl _)
        rw [ys_rep (n := 9) lyR hyR] at hR
        walk_at "my rn"
        refine ⟨by decide, by decide, fun D' nD => ?_⟩
        refine Rd.lc_rel walk_range (fun _ v _ => v = .int 0) nD (by decide) (fun _ _ _ _ h _ => h) (fun _ _ => trivial) (fun j x Hjo Hj Kt hj b hDl y kt => ?_) (fun H24 yD lyD hyD s24 hD => ?_)
        · obtain ⟨rfl, e3⟩ := Rd.zr y
          subst e3
          simp only [List.map_cons, List.map_nil, L2.wipe, List.set_cons_succ, List.set_cons_zero]
          walk_at "my rn"
          refine ⟨rfl, ?_⟩
          walk_at "my rn"
          exact kt _ _ rfl (Same.refl _)
        rw [ys_rep (n := 32) lyD hyD] at hD
        walk_at "my rn"
        refine ⟨by decide, by decide, fun N' nN => ?_⟩
        refine Rd.lc_rel walk_range (fun _ v _ => v = .int 0) nN (by decide) (fun _ _ _ _ h _ => h) (fun _ _ => trivial) (fun j x Hjo Hj Kt hj b hDl y kt => ?_) (fun H25 yN lyN hyN s25 hN => ?_)
        · obtain ⟨rfl, e3⟩ := Rd.zr y
          subst e3
          simp only [List.map_cons, List.map_nil, L2.wipe, List.set_cons_succ, List.set_cons_zero]
          walk_at "my rn"
          refine ⟨rfl, ?_⟩
          walk_at "my rn"
          exact kt _ _ rfl (Same.refl _)
        rw [ys_rep (n := 16) lyN hyN] at hN
        walk_at "my rn"
        intro O1 H26 nO1 s26 hO1
        walk_at "my rn"
        intro O' H27 nO s27 hO
        walk_at "my rn"
        intro F H28 nF s28 hF
        walk_at "my rn"
        intro Lo H29 nLo s29 hLo
        have S29 : Same H21 H29 := s22.trans (s23.trans (s24.trans (s25.trans (s26.trans (s27.trans (s28.trans s29))))))
        obtain ⟨ms0, ems0⟩ : ∃ ms0 : Ms, ms0 = Ms.mk (List.replicate 9 0) (List.replicate 32 0) (List.replicate 16 0) [wds] [[]] := ⟨_, rfl⟩
        have em : Ms.mk (List.replicate 9 0) (List.replicate 16384 0) (List.replicate 256 0) ([wds] ++ List.replicate (8 - [wds].length) []) (List.replicate 8 []) = ext ms0 := by
          rw [ems0]
          unfold ext
          dsimp only
          rw [List.replicate_append_replicate, List.replicate_append_replicate, show ([[]] : List (List Int)) = List.replicate 1 [] from rfl, List.replicate_append_replicate]
          rfl
        rw [em] at mem21
        have w0 : ∀ {n : Nat}, ∀ v ∈ List.replicate n (0 : Int), Word v := fun {n} v m => by rw [List.eq_of_mem_replicate m]; exact word0
        have brd21 : Brd T.C_Core T.C_Board T.C_Cache H21 oc ob ka kb A ⟨R1, l1, S1', W1', z1', rowsOf [] S1'.toNat W1'.toNat⟩ ⟨R2, l2, S2', W2', z2', rowsOf [] S2'.toNat W2'.toNat⟩ (ext ms0) 0 := by
          refine ⟨⟨dc, s21 _ _ (s20 _ _ (s19 _ _ (s18 _ _ (s17 _ _ ho16))))⟩, hb21, mem21, by rw [rows_nil]; exact hka, by rw [rows_nil]; exact hkb, nd21, ?_⟩
          rw [← em]
          refine ⟨w0, w0, fun r m v mv => ?_⟩
          rcases List.mem_append.mp m with m | m
          · rw [List.mem_singleton.mp m] at mv
            have := gwds v mv
            exact ⟨this.1, by omega⟩
          · rw [List.eq_of_mem_replicate m] at mv; cases mv
        obtain ⟨OX, eOX⟩ : ∃ OX : List Addr, OX = oc :: ob :: ka :: kb :: (A.all ++ ((R1 :: l1) ++ (R2 :: l2))) := ⟨_, rfl⟩
        have lvOX : ∀ a ∈ OX, ∃ y, H21 a = some y ∧ ((∃ C d f, y = .ins C d f) ∨ a ∈ A.all ++ ((R1 :: l1) ++ (R2 :: l2))) := fun a m => by
          rw [eOX] at m
          simp only [List.mem_cons] at m
          rcases m with rfl | rfl | rfl | rfl | m
          · obtain ⟨u, e⟩ := brd21.core; exact ⟨_, e, .inl ⟨_, _, _, rfl⟩⟩
          · obtain ⟨u, e⟩ := brd21.board; exact ⟨_, e, .inl ⟨_, _, _, rfl⟩⟩
          · obtain ⟨u, e⟩ := brd21.k1.c.ob; exact ⟨_, e, .inl ⟨_, _, _, rfl⟩⟩
          · obtain ⟨u, e⟩ := brd21.k2.c.ob; exact ⟨_, e, .inl ⟨_, _, _, rfl⟩⟩
          · have m' := m
            simp only [List.mem_append, List.mem_cons] at m'
            rcases m' with m' | (rfl | m') | (rfl | m')
            · obtain ⟨ys_, e⟩ := brd21.mem.isList m'; exact ⟨_, e, .inr m⟩
            · exact ⟨_, brd21.k1.c.rr, .inr m⟩
            · obtain ⟨ys_, e⟩ := brd21.k1.c.isList m'; exact ⟨_, e, .inr m⟩
            · exact ⟨_, brd21.k2.c.rr, .inr m⟩
            · obtain ⟨ys_, e⟩ := brd21.k2.c.isList m'; exact ⟨_, e, .inr m⟩
        have offO : ∀ {a ys_}, H20 a = some (.lst ys_) → a ≠ A.R → a ∉ OX := fun {a ys_} e ne m => by
          obtain ⟨y, ey, h⟩ := lvOX a m
          rcases h with ⟨_, _, _, h⟩ | h
          · rw [h, s21 _ _ e] at ey; cases ey
          · have := fresh21 a h ne
            rw [sb _ _ e] at this; cases this
        have S20 : Same H15 H20 := s16.trans (s17.trans (s18.trans (s19.trans s20)))
        have offP : ∀ {a ys_}, H15 a = some (.lst ys_) → a ∉ OX := fun {a ys_} e => offO (S20 _ _ e) (fun z => by rw [z, nRA15] at e; cases e)
        have offC : ∀ {a ys_}, H17 a = some (.lst ys_) → H16 a = none → a ∉ OX := fun {a ys_} e n => offO (s20 _ _ (s19 _ _ (s18 _ _ e))) (fun z => by rw [z, hRA16] at n; cases n)
        have WlX : Wl ∉ OX := offP (s15 _ _ hWl14)
        have hWl21 := S21 _ _ hWl14
        have v0 : ∀ a ∈ [Wl], ∃ y, H21 a = some y := fun a m => by rw [List.mem_singleton.mp m]; exact ⟨_, hWl21⟩
        have n1 := nd_snoc nd1 v0 nI
        have v1 := lv_snoc v0 s22 hI
        have n2 := nd_snoc n1 v1 nR
        have v2 := lv_snoc v1 s23 hR
        have n3 := nd_snoc n2 v2 nD
        have v3 := lv_snoc v2 s24 hD
        have n4 := nd_snoc n3 v3 nN
        have v4 := lv_snoc v3 s25 hN
        have n5 := nd_snoc n4 v4 nO1
        have v5 := lv_snoc v4 s26 hO1
        have n6 := nd_snoc n5 v5 nO
        have v6 := lv_snoc v5 s27 hO
        have n7 := nd_snoc n6 v6 nF
        have v7 := lv_snoc v6 s28 hF
        have n8 := nd_snoc n7 v7 nLo
        obtain ⟨B, eB⟩ : ∃ B : Mad, B = Mad.mk R' D' N' I' O' [Wl] [O1] := ⟨_, rfl⟩
        have pmB : (((((((([Wl] ++ [I']) ++ [R']) ++ [D']) ++ [N']) ++ [O1]) ++ [O']) ++ [F]) ++ [Lo]).Perm (B.all ++ [F, Lo]) := List.perm_iff_count.mpr fun a => by
          rw [eB]
          simp only [Mad.all, List.count_append, List.count_cons, List.count_nil]
          omega
        have ndB := pmB.nodup_iff.mp n8
        have S22 := s22
        have fr : ∀ a ∈ B.all ++ [F, Lo], a = Wl ∨ H21 a = none := fun a m => by
          have m := pmB.mem_iff.mpr m
          simp only [List.mem_append, List.mem_singleton] at m
          have S23 := S22.trans s23
          have S24 := S23.trans s24
          have S25 := S24.trans s25
          have S26 := S25.trans s26
          have S27 := S26.trans s27
          have S28 := S27.trans s28
          rcases m with ((((((((m | m) | m) | m) | m) | m) | m) | m) | m)
          · exact .inl m
          · rw [m]; exact .inr nI
          · rw [m]; exact .inr (S22.free nR)
          · rw [m]; exact .inr (S23.free nD)
          · rw [m]; exact .inr (S24.free nN)
          · rw [m]; exact .inr (S25.free nO1)
          · rw [m]; exact .inr (S26.free nO)
          · rw [m]; exact .inr (S27.free nF)
          · rw [m]; exact .inr (S28.free nLo)
        have dX : ∀ a ∈ OX, a ∉ B.all ++ [F, Lo] := fun a m z => by
          rcases fr a z with h | h
          · exact WlX (h ▸ m)
          · obtain ⟨y, e, _⟩ := lvOX a m
            rw [h] at e; cases e
        obtain ⟨DYN, eDYN⟩ : ∃ DYN : List Addr, DYN = (oc :: (A.all ++ (l1 ++ l2))) ++ (B.all ++ [F, Lo]) := ⟨_, rfl⟩
        have ownX : ∀ a ∈ oc :: (A.all ++ (l1 ++ l2)), a ∈ OX := fun a m => by
          rw [eOX]
          simp only [List.mem_cons, List.mem_append] at m ⊢
          rcases m with m | m | m | m <;> simp [m]
        have offD : ∀ {a y}, a ∉ OX → H21 a = some y → a ≠ Wl → a ∉ DYN := fun {a y} n e w m => by
          rw [eDYN] at m
          rcases List.mem_append.mp m with m | m
          · exact n (ownX a m)
          · rcases fr a m with h | h
            · exact w h
            · rw [h] at e; cases e
        have offN : ∀ {a y}, H21 a = some y → (∀ xs, y ≠ .lst xs) → a ≠ oc → a ∉ DYN := fun {a y} e n o m => by
          rw [eDYN] at m
          rcases List.mem_append.mp m with m | m
          · rcases List.mem_cons.mp m with m | m
            · exact o m
            · obtain ⟨xs, e2⟩ : ∃ xs, H21 a = some (.lst xs) := by
                rcases List.mem_append.mp m with m | m
                · exact brd21.mem.isList m
                · rcases List.mem_append.mp m with m | m
                  · exact brd21.k1.c.isList m
                  · exact brd21.k2.c.isList m
              rw [e] at e2; exact n _ (Option.some.inj e2)
          · rcases fr a m with h | h
            · rw [h, hWl21] at e; exact n _ (Option.some.inj e).symm
            · rw [h] at e; cases e
        have hC29 := S29 _ _ (S21 _ _ hC14)
        have hG21 := S20 _ _ hG
        have hG21 := s21 _ _ hG21
        have hG29 := S29 _ _ hG21
        have hNl29 := S29 _ _ (S21 _ _ hNl14)
        have ht1_29 := S29 _ _ (S21 _ _ ht1_14)
        have ht2_29 := S29 _ _ (S21 _ _ ht2_14)
        have nC_ : C ∉ DYN := offD (offP (s15 _ _ hC14)) (S21 _ _ hC14) CW
        have nG_ : G ∉ DYN := offD (offP hG) hG21 (new_off hWl14 nG).symm
        have nN_ : Nl ∉ DYN := offD (offP (s15 _ _ hNl14)) (S21 _ _ hNl14) NW
        have noc_ : ∀ {b y}, H14 b = some y → b ≠ oc := fun {b y} e z => by
          have := s15 _ _ e
          rw [z, noc] at this; cases this
        have nt1_ : t1 ∉ DYN := offN (S21 _ _ ht1_14) (fun _ z => by cases z) (noc_ ht1_14)
        have nt2_ : t2 ∉ DYN := offN (S21 _ _ ht2_14) (fun _ z => by cases z) (noc_ ht2_14)
        have izt : ∀ {H' : Hp}, Touch DYN H29 H' → ∀ t ∈ ts, IZ K H' t := fun {H'} tc t m => by
          obtain ⟨i, hi, r⟩ := gts14 t m
          refine ⟨i, ?_, r⟩
          rcases hi with h | h
          · rcases h with h | ⟨o, h⟩
            · exact .inl (.inl (tc _ _ (offN (S21 _ _ h) (fun _ z => by cases z) (noc_ h)) (S29 _ _ (S21 _ _ h))))
            · exact .inl (.inr ⟨o, tc _ _ (offN (S21 _ _ h) (fun _ z => by cases z) (noc_ h)) (S29 _ _ (S21 _ _ h))⟩)
          · exact .inr h
        have hcst : ∀ {H' : Hp}, Touch DYN H29 H' → CostsAt T.C_Costs H' cs (cuN na nb nd ne nf) := fun {H'} tc => by
          obtain ⟨u, h⟩ := hcs14
          exact ⟨u, tc _ _ (offN (S21 _ _ h) (fun _ z => by cases z) (noc_ h)) (S29 _ _ (S21 _ _ h))⟩
        have brd29 := brd21.keep (H' := H29) fun a _ y e => S29 _ _ e
        have hms29 : MemS H29 B ms0 := by
          have ndB' := (List.nodup_append.mp ndB).1
          have t29 := s29
          rw [eB] at ndB' ⊢
          rw [ems0]
          have e25 : Same H25 H29 := s26.trans (s27.trans (s28.trans s29))
          have e24 := s25.trans e25
          have e23 := s24.trans e24
          have e22 := s23.trans e23
          refine ⟨e23 _ _ hR, e24 _ _ hD, e25 _ _ hN, e22 _ _ hI, s29 _ _ (s28 _ _ hO), fun j a r h1 h2 => ?_, fun j a r h1 h2 => ?_, ndB', rfl, rfl, rfl, rfl, rfl, rfl, rfl⟩
          · match j, h1, h2 with
            | 0, h1, h2 =>
              cases h1
              cases h2
              exact S29 _ _ hWl21
          · match j, h1, h2 with
            | 0, h1, h2 =>
              cases h1
              cases h2
              exact s29 _ _ (s28 _ _ (s27 _ _ hO1))
        have ndLF : F ∉ B.all ∧ Lo ∉ B.all ∧ F ≠ Lo := by
          obtain ⟨_, h2, h3⟩ := List.nodup_append.mp ndB
          exact ⟨fun m => h3 F m F (by simp) rfl, fun m => h3 Lo m Lo (by simp) rfl, fun z => by rw [z] at h2; simp at h2⟩
        have r80 : 0 ≤ ms0.reg 8 ∧ ms0.reg 8 ≤ 16 := by rw [ems0]; exact ⟨by show (0 : Int) ≤ 0; decide, by show (0 : Int) ≤ 16; decide⟩
        have outs0 : ∀ l ∈ ms0.outs, l.length ≤ 0 := by rw [ems0]; intro r m; rw [List.mem_singleton.mp m]; exact Nat.le_refl _
        have rg : ∀ {a b : Mad}, a = b → a.R = b.R := fun h => by rw [h]
        walk_at "my rn"
        refine ⟨by decide, by decide, for_it walk_range (fun k σ H' => ∃ (yk ytold yins yfet yld yadr ytk : Option V) (ms : Ms) (x : Int) (us1 us2 : List Int), σ = [some (.ref l), some (.ref p), some (.int sz), some (.ref C), yk, some (.ref t1), some (.ref t2), some (.ref Nl), some (.ref cs), some (.ref I'), some (.ref G), some (.ref oc), some (.ref oa), some (.ref ob), some (.int x), some (.ref R'), some (.ref D'), some (.ref N'), some (.ref O'), some (.ref F), some (.ref Lo), ytold, yins, yfet, yld, yadr, ytk] ∧
          Brd T.C_Core T.C_Board T.C_Cache H' oc ob ka kb A ⟨R1, l1, S1', W1', z1', rowsOf us1 S1'.toNat W1'.toNat⟩ ⟨R2, l2, S2', W2', z2', rowsOf us2 S2'.toNat W2'.toNat⟩ (ext ms) x ∧ MemS H' B ms ∧ (0 ≤ x ∧ x ≤ 16) ∧ (0 ≤ ms.reg 8 ∧ ms.reg 8 ≤ 16) ∧ (∀ l ∈ ms.outs, l.length ≤ k) ∧ H' F = some (.lst (us1.map V.int)) ∧ us1.length ≤ k ∧ H' Lo = some (.lst (us2.map V.int)) ∧ us2.length ≤ k ∧ Touch DYN H29 H')
          ⟨_, _, _, _, _, _, _, ms0, 0, [], [], rfl, brd29, hms29, by decide, r80, outs0, s29 _ _ hF, Nat.le_refl _, hLo, Nat.le_refl _, Touch.refl _ _⟩ (fun _ _ _ _ _ => trivial) ?_ ?_⟩
        · rintro k xk σ Ho H' hk ⟨yk, ytold, yins, yfet, yld, yadr, ytk, ms, x, us1, us2, rfl, br, hms, hx, h8, ho_, hF', lF, hLo', lLo, tc⟩ yy
          obtain ⟨rfl, e3⟩ := Rd.zr yy
          subst e3
          have hk : k < 40 := hk
          have om : ∀ {n : Nat}, n ≤ 1000 → (∀ l ∈ ms.outs, l.length ≤ n) → ∀ l ∈ (ext ms).outs, l.length ≤ 1000 := fun {n} h g r m => by
            rcases List.mem_append.mp m with m | m
            · exact Nat.le_trans (g r m) h
            · rw [List.eq_of_mem_replicate m]; exact Nat.zero_le _
          have hG' := tc _ _ nG_ hG29
          have mw : MsW ms := br.words.ext
          have lsz : (ts.length : Int) = sz := by rw [lts]; omega
          walk_at "my rn"
          refine ⟨cs, G, oc, ob, ka, kb, cuN na nb nd ne nf, ts, A, _, _, ext ms, x, rfl, hcst tc, SqL.of hG', br, ⟨hx.1, by omega⟩, om (by omega) ho_, fun hlt tp H3 np s3 htp => ?_, fun j t ej et => ?_⟩
          · walk_at "my rn"
            refine Rd.ifD (fun e => ?_) fun e => absurd (show sz ≤ x by omega) e
            walk_at "my rn"
            intro E H4 nE s4 hE
            have S4 := s3.trans s4
            have dk : DOk 2 (.tuple [.int 0, .none]) := dok_tup fun d m => by
              simp only [List.mem_cons, List.mem_nil_iff, or_false] at m
              rcases m with rfl | rfl
              · exact dok_int
              · exact dok_non
            walk_at "my rn"
            refine Rd.eqD (d := .tuple [.int 0, .none]) (e := .tuple [.int 0, .none]) (.tup (SqT.of (s4 _ _ htp)) (.cons (.int 0) (.cons .non .nil))) (.tup (SqT.of hE) (.cons (.int 0) (.cons .non .nil))) (dk.shaped (by decide)) (dk.shaped (by decide)) ?_
            rw [Rd.eqv_self _ dk.1]
            walk_at "my rn"
            have br4 := br.keep (H' := H4) fun a _ y e => S4 _ _ e
            refine ⟨oc, ob, ka, kb, A, B, ms, x, by rw [eB]; rfl, br4.core, br4.board, br4.mem, hms.keep fun a _ y e => S4 _ _ e, fun H5 s5 => ?_⟩
            exact q _
          · have xlt : x < sz := by
              have := (List.getElem?_eq_some_iff.mp et).1
              omega
            obtain ⟨i, hi, ok, oz⟩ := izt tc t (List.mem_of_getElem? et)
            refine ⟨i, hi, OkS.ok ok, fun tp H3 H4 br3 t3 np3 s4 htp => ?_⟩
            rw [exec_ext ok hms.sz, used_eq sz1] at br3
            rw [kcost_eq, exec_ext ok hms.sz, hit_eq sz1] at htp
            have br4 := br3.keep (H' := H4) fun a _ y e => s4 _ _ e
            have t34 : Touch (oc :: (A.all ++ (l1 ++ l2))) H' H4 := fun b y n e => s4 _ _ (t3 b y n e)
            have tc4 : Touch DYN H29 H4 := fun b y n e => t34 b y (fun m => n (by rw [eDYN]; exact List.mem_append_left _ m)) (tc b y n e)
            have dO : ∀ {a}, a ∈ B.all ++ [F, Lo] → a ∉ oc :: (A.all ++ (l1 ++ l2)) := fun {a} m z => dX a (ownX a z) m
            have hF4 := t34 _ _ (dO (by simp)) hF'
            have hLo4 := t34 _ _ (dO (by simp)) hLo'
            have hms4 : MemS H4 B ms := hms.keep fun a m y e => t34 a y (dO (List.mem_append_left _ m)) e
            have nlst : ∀ {b y}, H4 b = some y → (∀ xs, y ≠ .lst xs) → b ∉ B.all ++ [F, Lo] := fun {b y} e n m => by
              rcases List.mem_append.mp m with m | m
              · obtain ⟨xs, e2⟩ := hms4.isList m
                rw [e] at e2; exact n _ (Option.some.inj e2)
              · simp only [List.mem_cons, List.mem_nil_iff, or_false] at m
                rcases m with m | m
                · rw [m, hF4] at e; exact n _ (Option.some.inj e).symm
                · rw [m, hLo4] at e; exact n _ (Option.some.inj e).symm
            have hi4 : IcAt K H4 t i := by
              obtain ⟨i', hi', _⟩ := izt tc4 t (List.mem_of_getElem? et)
              rcases hi with h | h
              · have nown : ∀ {y}, H' t = some y → (∀ xs, y ≠ .lst xs) → t ∉ oc :: (A.all ++ (l1 ++ l2)) := fun {y} e n m => by
                  rcases List.mem_cons.mp m with m | m
                  · obtain ⟨i2, hi2, _⟩ := gts14 t (List.mem_of_getElem? et)
                    obtain ⟨u, q1⟩ := br.core
                    rcases hi2 with g | g
                    · rcases g with g | ⟨o, g⟩
                      · exact noc_ g m
                      · exact noc_ g m
                    · rcases h with h | ⟨o, h⟩
                      · rw [m, q1] at h; cases h
                      · rw [m, q1] at h; cases h
                  · obtain ⟨xs, e2⟩ : ∃ xs, H' t = some (.lst xs) := by
                      rcases List.mem_append.mp m with m | m
                      · exact br.mem.isList m
                      · rcases List.mem_append.mp m with m | m
                        · exact br.k1.c.isList m
                        · exact br.k2.c.isList m
                    rw [e] at e2; exact n _ (Option.some.inj e2)
                rcases h with h | ⟨o, h⟩
                · exact .inl (.inl (t34 _ _ (nown h (fun _ z => by cases z)) h))
                · exact .inl (.inr ⟨o, t34 _ _ (nown h (fun _ z => by cases z)) h⟩)
              · exact .inr h
            have hiG : ∀ {G : Hp}, (∀ b y, b ∉ B.all ++ [F, Lo] → H4 b = some y → G b = some y) → IcAt K G t i := fun {G} kp => by
              rcases hi4 with h | h
              · rcases h with h | ⟨o, h⟩
                · exact .inl (.inl (kp _ _ (nlst h (fun _ z => by cases z)) h))
                · exact .inl (.inr ⟨o, kp _ _ (nlst h (fun _ z => by cases z)) h⟩)
              · exact .inr h
            have hC4 := tc4 _ _ nC_ hC29
            have ht1_4 := tc4 _ _ nt1_ ht1_29
            have ht2_4 := tc4 _ _ nt2_ ht2_29
            have hNl4 := tc4 _ _ nN_ hNl29
            have atx : atI (ts.map V.ref) x = some (.ref t) := Rd.at_val ej (by rw [List.getElem?_map, et]; rfl)
            walk_at "my rn"
            refine Rd.ifD (fun e => absurd e (by omega)) fun _ => ?_
            walk_at "my rn"
            refine Rd.ixL hC4 atx ?_
            walk_at "my rn"
            refine ⟨F, t1, us1, S1', W1', z1', x, true, rfl, hF4, ht1_4, by omega, sz1, fun H5 hF5 kp5 => ?_⟩
            rw [if_pos (.inl rfl)] at hF5
            have LF : Lo ≠ F := ndLF.2.2.symm
            have hLo5 := kp5 _ _ LF hLo4
            have hms5 : MemS H5 B ms := hms4.keep fun a m y e => kp5 a y (fun z => ndLF.1 (z ▸ m)) e
            have k45 : ∀ b y, b ∉ B.all ++ [F, Lo] → H4 b = some y → H5 b = some y := fun b y n e => kp5 b y (fun z => n (by rw [z]; simp)) e
            have hi5 := hiG k45
            have hiT5 : SqT K H5 t (.str i.nm :: i.vs) := hi5
            have ht2_5 := k45 _ _ (nlst ht2_4 (fun _ z => by cases z)) ht2_4
            walk_at "my rn"
            refine ⟨fun σ' H' => ∃ (us2' : List Int) (ya : Option V), σ' = [some (.ref l), some (.ref p), some (.int sz), some (.ref C), some (.int (k : Int)), some (.ref t1), some (.ref t2), some (.ref Nl), some (.ref cs), some (.ref I'), some (.ref G), some (.ref oc), some (.ref oa), some (.ref ob), some (.int x), some (.ref R'), some (.ref D'), some (.ref N'), some (.ref O'), some (.ref F), some (.ref Lo), some (.ref tp), some (.ref t), some (.bl (decide (x / z1' ∈ rowOf us1 S1' (x / z1' % S1') W1'.toNat))), some (.bl (i.lh (ext ms) ⟨R2, l2, S2', W2', z2', rowsOf us2 S2'.toNat W2'.toNat⟩)), ya, ytk] ∧ H' Lo = some (.lst (us2'.map V.int)) ∧ us2'.length ≤ k + 1 ∧
              accD i (ext ms) ⟨R2, l2, S2', W2', z2', rowsOf us2 S2'.toNat W2'.toNat⟩ = ⟨R2, l2, S2', W2', z2', rowsOf us2' S2'.toNat W2'.toNat⟩ ∧ (∀ b y, b ≠ Lo → H5 b = some y → H' b = some y), ?_, ?_⟩
            · walk_at "my rn"
              refine Rd.ixTq hiT5 (Rd.at_val (j := 0) rfl rfl) ?_
              walk_at "my rn"
              intro p6 H6 n6 s6 g6
              refine Rd.inStrT ["load", "loadx", "store", "storex"] (SqT.of g6) ?_
              rw [mem_acc2]
              have lh_ : i.lh (ext ms) ⟨R2, l2, S2', W2', z2', rowsOf us2 S2'.toNat W2'.toNat⟩ = if i.isAcc then (Cd.mk R2 l2 S2' W2' z2' (rowsOf us2 S2'.toNat W2'.toNat)).hit (i.addr (ext ms)) else true := rfl
              rw [hit_eq sz2, show i.addr (ext ms) = i.addr ms by cases i <;> rfl] at lh_
              cases ka_ : i.isAcc with
              | false =>
                rw [ka_, if_neg Bool.false_ne_true] at lh_
                walk_at "my rn"
                exact ⟨us2, _, by rw [lh_], s6 _ _ hLo5, by omega, nacc ka_ _ _, fun b y _ e => s6 _ _ e⟩
              | true =>
                rw [ka_, if_pos rfl] at lh_
                have hms6 := hms5.keep (H' := H6) fun a _ y e => s6 _ _ e
                walk_at "my rn"
                refine ⟨t, B, ms, i, by rw [eB]; rfl, s6.seqT hi5, ok, ka_, hms6, fun H7 s7 => ?_⟩
                have S7 := s6.trans s7
                have hiT7 : SqT K H7 t (.str i.nm :: i.vs) := S7.seqT hiT5
                walk_at "my rn"
                refine Rd.ixTq hiT7 (Rd.at_val (j := 0) rfl rfl) ?_
                walk_at "my rn"
                intro p8 H8 n8_ s8 g8
                have S8 := S7.trans s8
                refine Rd.inStrT ["load", "loadx"] (SqT.of g8) ?_
                rw [mem_ld]
                walk_at "my rn"
                refine ⟨Lo, t2, us2, S2', W2', z2', ((i.addr ms : Nat) : Int), i.isLd, rfl, S8 _ _ hLo5, S8 _ _ ht2_5, by omega, sz2, fun H9 hLo9 kp9 => ?_⟩
                walk_at "my rn"
                refine ⟨_, _, by rw [lh_], hLo9, ?_, ?_, fun b y n e => kp9 b y n (S8 _ _ e)⟩
                · split
                  · rw [List.length_append]; show us2.length + 1 ≤ k + 1; omega
                  · omega
                · rw [acc_eq ka_ sz2, show i.addr (ext ms) = i.addr ms by cases i <;> rfl]
            · rintro σ' H10 ⟨us2', ya, rfl, hLo10, lLo10, eAcc, kp10⟩
              rw [eAcc] at br4
              have k10 : ∀ b y, b ∉ B.all ++ [F, Lo] → H4 b = some y → H10 b = some y := fun b y n e => kp10 b y (fun z => n (by rw [z]; simp)) (k45 b y n e)
              have hms10 : MemS H10 B ms := hms5.keep fun a m y e => kp10 a y (fun z => ndLF.2.1 (z ▸ m)) e
              have hF10 := kp10 _ _ LF.symm hF5
              have hi10 := hiG k10
              walk_at "my rn"
              refine ⟨t, B, ms, i, by rw [eB]; rfl, hi10, ok, hms10, mw, fun r m => Nat.le_trans (ho_ r m) (by omega), fun H11 hm11 t11 => ?_⟩
              have k11 : ∀ b y, b ∉ B.all ++ [F, Lo] → H4 b = some y → H11 b = some y := fun b y n e => t11 b (fun m => n (List.mem_append_left _ m)) y (k10 b y n e)
              walk_at "my rn"
              refine ⟨t, B, i.mv ms, i, x, by rw [eB]; rfl, hiG k11, ok, hm11, ⟨hx.1, by omega⟩, fun pg H12 H13 hm12 t12 np13 s13 hpg => ?_⟩
              rw [mv_gl] at hm12 hpg
              have k13 : ∀ b y, b ∉ B.all ++ [F, Lo] → H4 b = some y → H13 b = some y := fun b y n e => s13 _ _ (t12 b y (fun m => n (List.mem_append_left _ m)) (k11 b y n e))
              have hNl13 := k13 _ _ (fun m => nN_ (by rw [eDYN]; exact List.mem_append_right _ m)) hNl4
              have nb13 : ∀ {b y}, b ∉ B.all → H10 b = some y → H13 b = some y := fun {b y} n e => s13 _ _ (t12 b y n (t11 b n y e))
              walk_at "my rn"
              refine ⟨Nl, t, cuN na nb nd ne nf, i, (i.exec ms x).2.2, _, _, rfl, hNl13, hiG k13, fun H14_ s14_ => ?_⟩
              walk_at "my rn"
              intro E H15_ nE s15_ hE
              have S15 := s14_.trans s15_
              have htp15 := S15 _ _ (k13 _ _ (nlst htp (fun _ z => by cases z)) htp)
              have hi15 := S15.seqT (hiG k13)
              have dk : DOk 3 (.tuple [.int (kCost (cuN na nb nd ne nf) i.nm i.op (decide (x / z1' ∈ rowOf us1 S1' (x / z1' % S1') W1'.toNat)) (i.lh (ext ms) ⟨R2, l2, S2', W2', z2', rowsOf us2 S2'.toNat W2'.toNat⟩) + if (i.exec ms x).2.2 = true then 1 else 0), .tuple ((V.str i.nm :: i.vs).map vd)]) := dok_tup fun d m => by
                simp only [List.mem_cons, List.mem_nil_iff, or_false] at m
                rcases m with rfl | rfl
                · exact dok_int
                · exact (Ic.dok (OkS.ok ok)).mono (by decide)
              refine Rd.neD (.tup (SqT.of htp15) (.cons (.int _) (.cons (Ic.dp hi15) .nil))) (.tup (SqT.of hE) (.cons (.int _) (.cons (Ic.dp hi15) .nil))) (dk.shaped (by decide)) (dk.shaped (by decide)) ?_
              rw [Rd.eqv_self _ dk.1]
              walk_at "my rn"
              have br15 := br4.keep (H' := H15_) fun a m y e => S15 _ _ (k13 a y (dX a (by rw [eOX]; exact m)) e)
              have hms15 : MemS H15_ B (i.exec ms x).1 := hm12.keep fun a _ y e => S15 _ _ (s13 _ _ e)
              refine ⟨oc, ob, ka, kb, A, B, (i.exec ms x).1, _, by rw [eB]; rfl, br15.core, br15.board, br15.mem, hms15, fun H16_ s16_ => ?_⟩
              walk_at "my rn"
              obtain ⟨z1_, z2_⟩ := okz_exec oz hms.sz (x := x) ⟨hx.1, by omega⟩ h8
              refine ⟨_, _, _, _, _, _, _, (i.exec ms x).1, _, us1 ++ [x / z1'], us2', rfl, br15.keep fun a _ y e => s16_ _ _ e, hms15.keep fun a _ y e => s16_ _ _ e, z1_, z2_, exec_outs ho_, s16_ _ _ (S15 _ _ (nb13 ndLF.1 hF10)), by rw [List.length_append]; show us1.length + 1 ≤ k + 1; omega, s16_ _ _ (S15 _ _ (nb13 ndLF.2.1 hLo10)), lLo10, fun b y n e => s16_ _ _ (S15 _ _ (k13 b y (fun m => n (by rw [eDYN]; exact List.mem_append_right _ m)) (tc4 b y n e)))⟩
        · rintro σ H' ⟨yk, ytold, yins, yfet, yld, yadr, ytk, ms, x, us1, us2, rfl, _, _, _, _, _, _, _, _, _, tc⟩
          have hC' := tc _ _ nC_ hC29
          have hG' := tc _ _ nG_ hG29
          have ht1' := tc _ _ nt1_ ht1_29
          obtain ⟨ds, h1, h2⟩ := iz_dp (izt tc)
          have dk : DOk 2 (.list ds) := dok_list h2
          have S1721 : Same H17 H21 := s18.trans (s19.trans (s20.trans s21))
          have oaoc : oa ≠ oc := fun z => by rw [z, ho16] at noa; cases noa
          have fresh16 : ∀ {a}, upd (upd H16 da (.own oa)) oa (.ins T.C_Cache da []) a = none → H16 a = none := fun {a} e => by
            by_cases z1 : a = oa
            · rw [z1, upd_same] at e; cases e
            · rw [upd_ne z1] at e
              by_cases z2 : a = da
              · rw [z2, upd_same] at e; cases e
              · rw [upd_ne z2] at e; exact e
          have Wl16 := s16 _ _ (s15 _ _ hWl14)
          have keepC : ∀ a, a = oa ∨ a = Ra ∨ a ∈ lsa → ∀ y, H17 a = some y → H' a = some y := fun a m y e => by
            refine tc _ _ ?_ (S29 _ _ (S1721 _ _ e))
            rcases m with rfl | m
            · obtain ⟨u, h⟩ := ca17.ob
              rw [h] at e
              cases e
              exact offN (S1721 _ _ h) (fun _ z => by cases z) oaoc
            · obtain ⟨xs_, e2⟩ : ∃ xs_, H17 a = some (.lst xs_) := by
                rcases m with rfl | m
                · exact ⟨_, ca17.rr⟩
                · exact ca17.isList m
              have n16 : H16 a = none := by
                rcases m with rfl | m
                · exact fresh16 nRa
                · exact fresh16 (nlsa a m)
              exact offD (offC e2 n16) (S1721 _ _ e2) (fun z => by rw [z, Wl16] at n16; cases n16)
          have ca' := ca17.keep keepC
          obtain ⟨uc, hoc⟩ := id ca'.ob
          have fR := @cf_R S1' W1' z1' Ra
          have kcc := T.cl_Cache
          have nrw := T.n_Cache_rows
          walk_at "my rn"
          refine Rd.eqD (.lst (SqL.of hG') h1) (.lst (SqL.of hC') h1) (dk.shaped (by decide)) (dk.shaped (by decide)) ?_
          rw [Rd.eqv_self _ dk.1]
          walk_at "my rn"
          refine ⟨by have := sz1.s1; omega, by have := sz1.s2; omega, fun X nX => ?_⟩
          refine lc_new walk_range (fun _ => []) nX (by have := sz1.s2; omega) (fun _ _ => trivial) (fun j x Hjo Hj Kt hj b hDl y kt => ?_) (fun H30 xs_ lxs ndx nwx hxs s30 hX => ?_)
          · obtain ⟨rfl, e3⟩ := Rd.zr y
            subst e3
            simp only [List.map_cons, List.map_nil, L2.wipe, List.set_cons_succ, List.set_cons_zero]
            walk_at "my rn"
            refine ⟨rfl, ?_⟩
            walk_at "my rn"
            exact fun p H' np s' hp => kt p H' np hp s'
          · have ca30 := ca'.keep (H' := H30) fun a _ y e => s30 _ _ e
            have e1 := dp_rows (K := K) (as := xs_) (rs := List.replicate S1'.toNat []) (H := H30) (by rw [lxs, List.length_replicate]) fun j a r q1 q2 => by
              rw [List.eq_of_mem_replicate (List.mem_of_getElem? q2)]
              exact hxs j a q1
            have e2 := dp_rows (K := K) ca30.len ca30.row
            walk_at "my rn"
            refine Rd.eqD (.lst (SqL.of ca30.rr) e2) (.lst (SqL.of hX) e1) ((rows_dok _).shaped (by decide)) ((rows_dok _).shaped (by decide)) ?_
            rw [Rd.eqv_self _ (rows_dok _).1]
            exact q _
end

def top_mk {P : Program} {w : World} {K : PySem.W.Frag} {h : Heap} {mg : Str → Option Value} (X : K.In h) (G : h.Ns mainGlobals mg)
    {a_wrap : Addr} {od_wrap an_wrap : Option Addr} {sl_wrap : Array (Option Value)} {oc_wrap kV_wrap dc_wrap pm_wrap cd_wrap ct_wrap : Value}
    {a_signed : Addr} {od_signed an_signed : Option Addr} {sl_signed : Array (Option Value)} {oc_signed kV_signed dc_signed pm_signed cd_signed ct_signed : Value}
    {a_combine : Addr} {od_combine an_combine : Option Addr} {sl_combine : Array (Option Value)} {oc_combine kV_combine dc_combine pm_combine cd_combine ct_combine : Value}
    {a__holds : Addr} {od__holds an__holds : Option Addr} {sl__holds : Array (Option Value)} {oc__holds kV__holds dc__holds pm__holds cd__holds ct__holds : Value}
    {a_alter : Addr} {od_alter an_alter : Option Addr} {sl_alter : Array (Option Value)} {oc_alter kV_alter dc_alter pm_alter cd_alter ct_alter : Value}
    {a_decimal : Addr} {od_decimal an_decimal : Option Addr} {sl_decimal : Array (Option Value)} {oc_decimal kV_decimal dc_decimal pm_decimal cd_decimal ct_decimal : Value}
    {a__law_start : Addr} {od__law_start an__law_start : Option Addr} {sl__law_start : Array (Option Value)} {oc__law_start kV__law_start dc__law_start pm__law_start cd__law_start ct__law_start : Value}
    {a__law_draw : Addr} {od__law_draw an__law_draw : Option Addr} {sl__law_draw : Array (Option Value)} {oc__law_draw kV__law_draw dc__law_draw pm__law_draw cd__law_draw ct__law_draw : Value}
    {a_Cache_init : Addr} {od_Cache_init an_Cache_init : Option Addr} {sl_Cache_init : Array (Option Value)} {oc_Cache_init kV_Cache_init dc_Cache_init pm_Cache_init cd_Cache_init ct_Cache_init : Value}
    {a_Cache_holds : Addr} {od_Cache_holds an_Cache_holds : Option Addr} {sl_Cache_holds : Array (Option Value)} {oc_Cache_holds kV_Cache_holds dc_Cache_holds pm_Cache_holds cd_Cache_holds ct_Cache_holds : Value}
    {a_Cache_use : Addr} {od_Cache_use an_Cache_use : Option Addr} {sl_Cache_use : Array (Option Value)} {oc_Cache_use kV_Cache_use dc_Cache_use pm_Cache_use cd_Cache_use ct_Cache_use : Value}
    {a_Cache_read : Addr} {od_Cache_read an_Cache_read : Option Addr} {sl_Cache_read : Array (Option Value)} {oc_Cache_read kV_Cache_read dc_Cache_read pm_Cache_read cd_Cache_read ct_Cache_read : Value}
    {a_Cache_write : Addr} {od_Cache_write an_Cache_write : Option Addr} {sl_Cache_write : Array (Option Value)} {oc_Cache_write kV_Cache_write dc_Cache_write pm_Cache_write cd_Cache_write ct_Cache_write : Value}
    {a_Cache_duplicate : Addr} {od_Cache_duplicate an_Cache_duplicate : Option Addr} {sl_Cache_duplicate : Array (Option Value)} {oc_Cache_duplicate kV_Cache_duplicate dc_Cache_duplicate pm_Cache_duplicate cd_Cache_duplicate ct_Cache_duplicate : Value}
    {a_Costs_init : Addr} {od_Costs_init an_Costs_init : Option Addr} {sl_Costs_init : Array (Option Value)} {oc_Costs_init dc_Costs_init pm_Costs_init cd_Costs_init ct_Costs_init : Value}
    {kD_Costs_init : Addr}
    {kt_Costs_init_fetch_hit : Tok}
    {kt_Costs_init_fetch_miss : Tok}
    {kt_Costs_init_plain : Tok}
    {kt_Costs_init_mul : Tok}
    {kt_Costs_init_div : Tok}
    {kt_Costs_init_load_hit : Tok}
    {kt_Costs_init_load_miss : Tok}
    {kt_Costs_init_store : Tok}
    {kt_Costs_init_taken : Tok}
    {kt_Costs_init_count : Tok}
    {kt_Costs_init_port : Tok}
    {kt_Costs_init_release : Tok}
    {kt_Costs_init_switch : Tok}
    {kt_Costs_init_enter : Tok}
    {kt_Costs_init_leave : Tok}
    {kt_Costs_init_finish : Tok}
    {a__check_costs : Addr} {od__check_costs an__check_costs : Option Addr} {sl__check_costs : Array (Option Value)} {oc__check_costs kV__check_costs dc__check_costs pm__check_costs cd__check_costs ct__check_costs : Value}
    {a__check_miss : Addr} {od__check_miss an__check_miss : Option Addr} {sl__check_miss : Array (Option Value)} {oc__check_miss kV__check_miss dc__check_miss pm__check_miss cd__check_miss ct__check_miss : Value}
    {a_instruction_cost : Addr} {od_instruction_cost an_instruction_cost : Option Addr} {sl_instruction_cost : Array (Option Value)} {oc_instruction_cost dc_instruction_cost pm_instruction_cost cd_instruction_cost ct_instruction_cost : Value}
    {kD_instruction_cost : Addr}
    {a__execution_cost : Addr} {od__execution_cost an__execution_cost : Option Addr} {sl__execution_cost : Array (Option Value)} {oc__execution_cost kV__execution_cost dc__execution_cost pm__execution_cost cd__execution_cost ct__execution_cost : Value}
    {a__calculation_cost : Addr} {od__calculation_cost an__calculation_cost : Option Addr} {sl__calculation_cost : Array (Option Value)} {oc__calculation_cost kV__calculation_cost dc__calculation_cost pm__calculation_cost cd__calculation_cost ct__calculation_cost : Value}
    {a_Core_init : Addr} {od_Core_init an_Core_init : Option Addr} {sl_Core_init : Array (Option Value)} {oc_Core_init kV_Core_init dc_Core_init pm_Core_init cd_Core_init ct_Core_init : Value}
    {a_Core_put : Addr} {od_Core_put an_Core_put : Option Addr} {sl_Core_put : Array (Option Value)} {oc_Core_put kV_Core_put dc_Core_put pm_Core_put cd_Core_put ct_Core_put : Value}
    {a_Board_init : Addr} {od_Board_init an_Board_init : Option Addr} {sl_Board_init : Array (Option Value)} {oc_Board_init kV_Board_init dc_Board_init pm_Board_init cd_Board_init ct_Board_init : Value}
    {a_Board_take : Addr} {od_Board_take an_Board_take : Option Addr} {sl_Board_take : Array (Option Value)} {oc_Board_take kV_Board_take dc_Board_take pm_Board_take cd_Board_take ct_Board_take : Value}
    {a_step : Addr} {od_step an_step : Option Addr} {sl_step : Array (Option Value)} {oc_step kV_step dc_step pm_step cd_step ct_step : Value}
    {a__access : Addr} {od__access an__access : Option Addr} {sl__access : Array (Option Value)} {oc__access kV__access dc__access pm__access cd__access ct__access : Value}
    {a__data_address : Addr} {od__data_address an__data_address : Option Addr} {sl__data_address : Array (Option Value)} {oc__data_address kV__data_address dc__data_address pm__data_address cd__data_address ct__data_address : Value}
    {a__branch : Addr} {od__branch an__branch : Option Addr} {sl__branch : Array (Option Value)} {oc__branch kV__branch dc__branch pm__branch cd__branch ct__branch : Value}
    {a__jump : Addr} {od__jump an__jump : Option Addr} {sl__jump : Array (Option Value)} {oc__jump kV__jump dc__jump pm__jump cd__jump ct__jump : Value}
    {a__work : Addr} {od__work an__work : Option Addr} {sl__work : Array (Option Value)} {oc__work kV__work dc__work pm__work cd__work ct__work : Value}
    {a__calculated : Addr} {od__calculated an__calculated : Option Addr} {sl__calculated : Array (Option Value)} {oc__calculated kV__calculated dc__calculated pm__calculated cd__calculated ct__calculated : Value}
    {a__law_sign : Addr} {od__law_sign an__law_sign : Option Addr} {sl__law_sign : Array (Option Value)} {oc__law_sign kV__law_sign dc__law_sign pm__law_sign cd__law_sign ct__law_sign : Value}
    {a__law_calc : Addr} {od__law_calc an__law_calc : Option Addr} {sl__law_calc : Array (Option Value)} {oc__law_calc kV__law_calc dc__law_calc pm__law_calc cd__law_calc ct__law_calc : Value}
    {a__law_operation : Addr} {od__law_operation an__law_operation : Option Addr} {sl__law_operation : Array (Option Value)} {oc__law_operation kV__law_operation dc__law_operation pm__law_operation cd__law_operation ct__law_operation : Value}
    {a__law_instruction : Addr} {od__law_instruction an__law_instruction : Option Addr} {sl__law_instruction : Array (Option Value)} {oc__law_instruction kV__law_instruction dc__law_instruction pm__law_instruction cd__law_instruction ct__law_instruction : Value}
    {a__law_put : Addr} {od__law_put an__law_put : Option Addr} {sl__law_put : Array (Option Value)} {oc__law_put kV__law_put dc__law_put pm__law_put cd__law_put ct__law_put : Value}
    {a__law_move : Addr} {od__law_move an__law_move : Option Addr} {sl__law_move : Array (Option Value)} {oc__law_move kV__law_move dc__law_move pm__law_move cd__law_move ct__law_move : Value}
    {a__law_goal : Addr} {od__law_goal an__law_goal : Option Addr} {sl__law_goal : Array (Option Value)} {oc__law_goal kV__law_goal dc__law_goal pm__law_goal cd__law_goal ct__law_goal : Value}
    {a__law_cost : Addr} {od__law_cost an__law_cost : Option Addr} {sl__law_cost : Array (Option Value)} {oc__law_cost kV__law_cost dc__law_cost pm__law_cost cd__law_cost ct__law_cost : Value}
    {a__law_use : Addr} {od__law_use an__law_use : Option Addr} {sl__law_use : Array (Option Value)} {oc__law_use kV__law_use dc__law_use pm__law_use cd__law_use ct__law_use : Value}
    {a__law_address : Addr} {od__law_address an__law_address : Option Addr} {sl__law_address : Array (Option Value)} {oc__law_address kV__law_address dc__law_address pm__law_address cd__law_address ct__law_address : Value}
    {a__law_shape : Addr} {od__law_shape an__law_shape : Option Addr} {sl__law_shape : Array (Option Value)} {oc__law_shape kV__law_shape dc__law_shape pm__law_shape cd__law_shape ct__law_shape : Value}
    {a__law_same : Addr} {od__law_same an__law_same : Option Addr} {sl__law_same : Array (Option Value)} {oc__law_same kV__law_same dc__law_same pm__law_same cd__law_same ct__law_same : Value}
    {a_law : Addr} {od_law an_law : Option Addr} {sl_law : Array (Option Value)} {oc_law kV_law dc_law pm_law cd_law ct_law : Value}
    {C_Cache : Addr}
    {C_Costs : Addr}
    {C_PlanError : Addr}
    {C_Core : Addr}
    {C_Board : Addr}
    {f_PlanError cda_PlanError cc_PlanError N_PlanError : Addr} {nm_PlanError q_PlanError file_PlanError : Str} {bs_PlanError bm_PlanError sub_PlanError : List Value} {sn_PlanError : List Str} {ab_PlanError : Bool} {col_PlanError : Option Bool} {dd_PlanError od_PlanError an_PlanError cdd_PlanError cld_PlanError : Option Addr} {m0_PlanError m1_PlanError m2_PlanError m3_PlanError m5_PlanError : Option Value} {oc_PlanError dc_PlanError pm_PlanError ct_PlanError ccl_PlanError cl_PlanError : Value} {osl_PlanError ccs_PlanError csl_PlanError : Array (Option Value)} {vs_PlanError : Array Value} {tq_PlanError tf_PlanError : Tok}
    {t_WORDS : Tok}
    {t_SIGN_BIT : Tok}
    {t_GREATEST_WORD : Tok}
    {t_PIECE : Tok}
    {t_PIECE_DIGITS : Tok}
    {p_LINE_SIZES : Addr} {n_LINE_SIZES : Nat} {us_LINE_SIZES : Array Value} {sl_LINE_SIZES : Array (Option Value)}
    {t_MOST_WAYS : Tok}
    {t_MOST_SETS : Tok}
    {t_GREATEST_COST : Tok}
    {p_TAKEN_AT_TIMES : Addr} {n_TAKEN_AT_TIMES : Nat} {us_TAKEN_AT_TIMES : Array Value} {sl_TAKEN_AT_TIMES : Array (Option Value)}
    {p_ALWAYS_TAKEN : Addr} {n_ALWAYS_TAKEN : Nat} {us_ALWAYS_TAKEN : Array Value} {sl_ALWAYS_TAKEN : Array (Option Value)}
    {t_REGISTERS : Tok}
    {t_PORTS : Tok}
    {t_COUNTERS : Tok}
    {t_DATA_WORDS : Tok}
    {p_ACCESSES : Addr} {n_ACCESSES : Nat} {us_ACCESSES : Array Value} {sl_ACCESSES : Array (Option Value)}
    {t_RETURN_REGISTER : Tok}
    {t_LOW_HALF : Tok}
    {p_OPERATORS : Addr} {e_OPERATORS : Array DictEntry} {n_OPERATORS : Nat}
    {t_OPERATORS_0 : Tok}
    {t_OPERATORS_1 : Tok}
    {t_OPERATORS_2 : Tok}
    {t_OPERATORS_3 : Tok}
    {t_OPERATORS_4 : Tok}
    {t_OPERATORS_5 : Tok}
    {t_OPERATORS_6 : Tok}
    {t_OPERATORS_7 : Tok}
    {t_OPERATORS_8 : Tok}
    {t_OPERATORS_9 : Tok}
    {t_OPERATORS_10 : Tok}
    {t_OPERATORS_11 : Tok}
    {t_OPERATORS_12 : Tok}
    {t_OPERATORS_13 : Tok}
    {t_OPERATORS_14 : Tok}
    {t_OPERATORS_15 : Tok}
    (n_wrap : PySem.W.nsIn K mainGlobals "wrap" = some (some (.ref a_wrap)))
    (n_signed : PySem.W.nsIn K mainGlobals "signed" = some (some (.ref a_signed)))
    (n_combine : PySem.W.nsIn K mainGlobals "combine" = some (some (.ref a_combine)))
    (n__holds : PySem.W.nsIn K mainGlobals "_holds" = some (some (.ref a__holds)))
    (n_alter : PySem.W.nsIn K mainGlobals "alter" = some (some (.ref a_alter)))
    (n_decimal : PySem.W.nsIn K mainGlobals "decimal" = some (some (.ref a_decimal)))
    (n__law_start : PySem.W.nsIn K mainGlobals "_law_start" = some (some (.ref a__law_start)))
    (n__law_draw : PySem.W.nsIn K mainGlobals "_law_draw" = some (some (.ref a__law_draw)))
    (n__check_costs : PySem.W.nsIn K mainGlobals "_check_costs" = some (some (.ref a__check_costs)))
    (n__check_miss : PySem.W.nsIn K mainGlobals "_check_miss" = some (some (.ref a__check_miss)))
    (n_instruction_cost : PySem.W.nsIn K mainGlobals "instruction_cost" = some (some (.ref a_instruction_cost)))
    (n__execution_cost : PySem.W.nsIn K mainGlobals "_execution_cost" = some (some (.ref a__execution_cost)))
    (n__calculation_cost : PySem.W.nsIn K mainGlobals "_calculation_cost" = some (some (.ref a__calculation_cost)))
    (n_step : PySem.W.nsIn K mainGlobals "step" = some (some (.ref a_step)))
    (n__access : PySem.W.nsIn K mainGlobals "_access" = some (some (.ref a__access)))
    (n__data_address : PySem.W.nsIn K mainGlobals "_data_address" = some (some (.ref a__data_address)))
    (n__branch : PySem.W.nsIn K mainGlobals "_branch" = some (some (.ref a__branch)))
    (n__jump : PySem.W.nsIn K mainGlobals "_jump" = some (some (.ref a__jump)))
    (n__work : PySem.W.nsIn K mainGlobals "_work" = some (some (.ref a__work)))
    (n__calculated : PySem.W.nsIn K mainGlobals "_calculated" = some (some (.ref a__calculated)))
    (n__law_sign : PySem.W.nsIn K mainGlobals "_law_sign" = some (some (.ref a__law_sign)))
    (n__law_calc : PySem.W.nsIn K mainGlobals "_law_calc" = some (some (.ref a__law_calc)))
    (n__law_operation : PySem.W.nsIn K mainGlobals "_law_operation" = some (some (.ref a__law_operation)))
    (n__law_instruction : PySem.W.nsIn K mainGlobals "_law_instruction" = some (some (.ref a__law_instruction)))
    (n__law_put : PySem.W.nsIn K mainGlobals "_law_put" = some (some (.ref a__law_put)))
    (n__law_move : PySem.W.nsIn K mainGlobals "_law_move" = some (some (.ref a__law_move)))
    (n__law_goal : PySem.W.nsIn K mainGlobals "_law_goal" = some (some (.ref a__law_goal)))
    (n__law_cost : PySem.W.nsIn K mainGlobals "_law_cost" = some (some (.ref a__law_cost)))
    (n__law_use : PySem.W.nsIn K mainGlobals "_law_use" = some (some (.ref a__law_use)))
    (n__law_address : PySem.W.nsIn K mainGlobals "_law_address" = some (some (.ref a__law_address)))
    (n__law_shape : PySem.W.nsIn K mainGlobals "_law_shape" = some (some (.ref a__law_shape)))
    (n__law_same : PySem.W.nsIn K mainGlobals "_law_same" = some (some (.ref a__law_same)))
    (n_law : PySem.W.nsIn K mainGlobals "law" = some (some (.ref a_law)))
    (nc_Cache : PySem.W.nsIn K mainGlobals "Cache" = some (some (.ref C_Cache)))
    (nc_Costs : PySem.W.nsIn K mainGlobals "Costs" = some (some (.ref C_Costs)))
    (nc_PlanError : PySem.W.nsIn K mainGlobals "PlanError" = some (some (.ref C_PlanError)))
    (nc_Core : PySem.W.nsIn K mainGlobals "Core" = some (some (.ref C_Core)))
    (nc_Board : PySem.W.nsIn K mainGlobals "Board" = some (some (.ref C_Board)))
    (l_wrap : K.lookup a_wrap = some ⟨oc_wrap, od_wrap, .func (PySem.W.fnOf "wrap" "wrap" (defArgs s_wrap) (defBody s_wrap) (defScope s_wrap) .none kV_wrap dc_wrap pm_wrap an_wrap cd_wrap ct_wrap), sl_wrap⟩)
    (c_wrap : PySem.W.codeIn K cd_wrap "wrap" = true)
    (k_wrap : PySem.W.keepIn K (.ref a_wrap) = true)
    (l_signed : K.lookup a_signed = some ⟨oc_signed, od_signed, .func (PySem.W.fnOf "signed" "signed" (defArgs s_signed) (defBody s_signed) (defScope s_signed) .none kV_signed dc_signed pm_signed an_signed cd_signed ct_signed), sl_signed⟩)
    (c_signed : PySem.W.codeIn K cd_signed "signed" = true)
    (k_signed : PySem.W.keepIn K (.ref a_signed) = true)
    (l_combine : K.lookup a_combine = some ⟨oc_combine, od_combine, .func (PySem.W.fnOf "combine" "combine" (defArgs s_combine) (defBody s_combine) (defScope s_combine) .none kV_combine dc_combine pm_combine an_combine cd_combine ct_combine), sl_combine⟩)
    (c_combine : PySem.W.codeIn K cd_combine "combine" = true)
    (k_combine : PySem.W.keepIn K (.ref a_combine) = true)
    (l__holds : K.lookup a__holds = some ⟨oc__holds, od__holds, .func (PySem.W.fnOf "_holds" "_holds" (defArgs s__holds) (defBody s__holds) (defScope s__holds) .none kV__holds dc__holds pm__holds an__holds cd__holds ct__holds), sl__holds⟩)
    (c__holds : PySem.W.codeIn K cd__holds "_holds" = true)
    (k__holds : PySem.W.keepIn K (.ref a__holds) = true)
    (l_alter : K.lookup a_alter = some ⟨oc_alter, od_alter, .func (PySem.W.fnOf "alter" "alter" (defArgs s_alter) (defBody s_alter) (defScope s_alter) .none kV_alter dc_alter pm_alter an_alter cd_alter ct_alter), sl_alter⟩)
    (c_alter : PySem.W.codeIn K cd_alter "alter" = true)
    (k_alter : PySem.W.keepIn K (.ref a_alter) = true)
    (l_decimal : K.lookup a_decimal = some ⟨oc_decimal, od_decimal, .func (PySem.W.fnOf "decimal" "decimal" (defArgs s_decimal) (defBody s_decimal) (defScope s_decimal) .none kV_decimal dc_decimal pm_decimal an_decimal cd_decimal ct_decimal), sl_decimal⟩)
    (c_decimal : PySem.W.codeIn K cd_decimal "decimal" = true)
    (k_decimal : PySem.W.keepIn K (.ref a_decimal) = true)
    (l__law_start : K.lookup a__law_start = some ⟨oc__law_start, od__law_start, .func (PySem.W.fnOf "_law_start" "_law_start" (defArgs s__law_start) (defBody s__law_start) (defScope s__law_start) .none kV__law_start dc__law_start pm__law_start an__law_start cd__law_start ct__law_start), sl__law_start⟩)
    (c__law_start : PySem.W.codeIn K cd__law_start "_law_start" = true)
    (k__law_start : PySem.W.keepIn K (.ref a__law_start) = true)
    (l__law_draw : K.lookup a__law_draw = some ⟨oc__law_draw, od__law_draw, .func (PySem.W.fnOf "_law_draw" "_law_draw" (defArgs s__law_draw) (defBody s__law_draw) (defScope s__law_draw) .none kV__law_draw dc__law_draw pm__law_draw an__law_draw cd__law_draw ct__law_draw), sl__law_draw⟩)
    (c__law_draw : PySem.W.codeIn K cd__law_draw "_law_draw" = true)
    (k__law_draw : PySem.W.keepIn K (.ref a__law_draw) = true)
    (fi_Cache_init : PySem.W.findIn K (.ref C_Cache) "__init__" = some (some (.ref a_Cache_init)))
    (fn_Cache_init : PySem.W.isFn K (.ref a_Cache_init) = true)
    (l_Cache_init : K.lookup a_Cache_init = some ⟨oc_Cache_init, od_Cache_init, .func (PySem.W.fnOf "__init__" "Cache.__init__" (defArgs s_Cache_init) (defBody s_Cache_init) (defScope s_Cache_init) .none kV_Cache_init dc_Cache_init pm_Cache_init an_Cache_init cd_Cache_init ct_Cache_init), sl_Cache_init⟩)
    (c_Cache_init : PySem.W.codeIn K cd_Cache_init "Cache.__init__" = true)
    (k_Cache_init : PySem.W.keepIn K (.ref a_Cache_init) = true)
    (fi_Cache_holds : PySem.W.findIn K (.ref C_Cache) "holds" = some (some (.ref a_Cache_holds)))
    (fn_Cache_holds : PySem.W.isFn K (.ref a_Cache_holds) = true)
    (l_Cache_holds : K.lookup a_Cache_holds = some ⟨oc_Cache_holds, od_Cache_holds, .func (PySem.W.fnOf "holds" "Cache.holds" (defArgs s_Cache_holds) (defBody s_Cache_holds) (defScope s_Cache_holds) .none kV_Cache_holds dc_Cache_holds pm_Cache_holds an_Cache_holds cd_Cache_holds ct_Cache_holds), sl_Cache_holds⟩)
    (c_Cache_holds : PySem.W.codeIn K cd_Cache_holds "Cache.holds" = true)
    (k_Cache_holds : PySem.W.keepIn K (.ref a_Cache_holds) = true)
    (fi_Cache_use : PySem.W.findIn K (.ref C_Cache) "use" = some (some (.ref a_Cache_use)))
    (fn_Cache_use : PySem.W.isFn K (.ref a_Cache_use) = true)
    (l_Cache_use : K.lookup a_Cache_use = some ⟨oc_Cache_use, od_Cache_use, .func (PySem.W.fnOf "use" "Cache.use" (defArgs s_Cache_use) (defBody s_Cache_use) (defScope s_Cache_use) .none kV_Cache_use dc_Cache_use pm_Cache_use an_Cache_use cd_Cache_use ct_Cache_use), sl_Cache_use⟩)
    (c_Cache_use : PySem.W.codeIn K cd_Cache_use "Cache.use" = true)
    (k_Cache_use : PySem.W.keepIn K (.ref a_Cache_use) = true)
    (fi_Cache_read : PySem.W.findIn K (.ref C_Cache) "read" = some (some (.ref a_Cache_read)))
    (fn_Cache_read : PySem.W.isFn K (.ref a_Cache_read) = true)
    (l_Cache_read : K.lookup a_Cache_read = some ⟨oc_Cache_read, od_Cache_read, .func (PySem.W.fnOf "read" "Cache.read" (defArgs s_Cache_read) (defBody s_Cache_read) (defScope s_Cache_read) .none kV_Cache_read dc_Cache_read pm_Cache_read an_Cache_read cd_Cache_read ct_Cache_read), sl_Cache_read⟩)
    (c_Cache_read : PySem.W.codeIn K cd_Cache_read "Cache.read" = true)
    (k_Cache_read : PySem.W.keepIn K (.ref a_Cache_read) = true)
    (fi_Cache_write : PySem.W.findIn K (.ref C_Cache) "write" = some (some (.ref a_Cache_write)))
    (fn_Cache_write : PySem.W.isFn K (.ref a_Cache_write) = true)
    (l_Cache_write : K.lookup a_Cache_write = some ⟨oc_Cache_write, od_Cache_write, .func (PySem.W.fnOf "write" "Cache.write" (defArgs s_Cache_write) (defBody s_Cache_write) (defScope s_Cache_write) .none kV_Cache_write dc_Cache_write pm_Cache_write an_Cache_write cd_Cache_write ct_Cache_write), sl_Cache_write⟩)
    (c_Cache_write : PySem.W.codeIn K cd_Cache_write "Cache.write" = true)
    (k_Cache_write : PySem.W.keepIn K (.ref a_Cache_write) = true)
    (fi_Cache_duplicate : PySem.W.findIn K (.ref C_Cache) "duplicate" = some (some (.ref a_Cache_duplicate)))
    (fn_Cache_duplicate : PySem.W.isFn K (.ref a_Cache_duplicate) = true)
    (l_Cache_duplicate : K.lookup a_Cache_duplicate = some ⟨oc_Cache_duplicate, od_Cache_duplicate, .func (PySem.W.fnOf "duplicate" "Cache.duplicate" (defArgs s_Cache_duplicate) (defBody s_Cache_duplicate) (defScope s_Cache_duplicate) .none kV_Cache_duplicate dc_Cache_duplicate pm_Cache_duplicate an_Cache_duplicate cd_Cache_duplicate ct_Cache_duplicate), sl_Cache_duplicate⟩)
    (c_Cache_duplicate : PySem.W.codeIn K cd_Cache_duplicate "Cache.duplicate" = true)
    (k_Cache_duplicate : PySem.W.keepIn K (.ref a_Cache_duplicate) = true)
    (fi_Costs_init : PySem.W.findIn K (.ref C_Costs) "__init__" = some (some (.ref a_Costs_init)))
    (fn_Costs_init : PySem.W.isFn K (.ref a_Costs_init) = true)
    (l_Costs_init : K.lookup a_Costs_init = some ⟨oc_Costs_init, od_Costs_init, .func (PySem.W.fnOf "__init__" "Costs.__init__" (defArgs s_Costs_init) (defBody s_Costs_init) (defScope s_Costs_init) .none (.ref kD_Costs_init) dc_Costs_init pm_Costs_init an_Costs_init cd_Costs_init ct_Costs_init), sl_Costs_init⟩)
    (kw_Costs_init_fetch_hit : PySem.W.nsIn K kD_Costs_init "fetch_hit" = some (some (.int (1) kt_Costs_init_fetch_hit)))
    (kw_Costs_init_fetch_miss : PySem.W.nsIn K kD_Costs_init "fetch_miss" = some (some (.int (11) kt_Costs_init_fetch_miss)))
    (kw_Costs_init_plain : PySem.W.nsIn K kD_Costs_init "plain" = some (some (.int (1) kt_Costs_init_plain)))
    (kw_Costs_init_mul : PySem.W.nsIn K kD_Costs_init "mul" = some (some (.int (3) kt_Costs_init_mul)))
    (kw_Costs_init_div : PySem.W.nsIn K kD_Costs_init "div" = some (some (.int (8) kt_Costs_init_div)))
    (kw_Costs_init_load_hit : PySem.W.nsIn K kD_Costs_init "load_hit" = some (some (.int (1) kt_Costs_init_load_hit)))
    (kw_Costs_init_load_miss : PySem.W.nsIn K kD_Costs_init "load_miss" = some (some (.int (11) kt_Costs_init_load_miss)))
    (kw_Costs_init_store : PySem.W.nsIn K kD_Costs_init "store" = some (some (.int (4) kt_Costs_init_store)))
    (kw_Costs_init_taken : PySem.W.nsIn K kD_Costs_init "taken" = some (some (.int (1) kt_Costs_init_taken)))
    (kw_Costs_init_count : PySem.W.nsIn K kD_Costs_init "count" = some (some (.int (2) kt_Costs_init_count)))
    (kw_Costs_init_port : PySem.W.nsIn K kD_Costs_init "port" = some (some (.int (4) kt_Costs_init_port)))
    (kw_Costs_init_release : PySem.W.nsIn K kD_Costs_init "release" = some (some (.int (6) kt_Costs_init_release)))
    (kw_Costs_init_switch : PySem.W.nsIn K kD_Costs_init "switch" = some (some (.int (12) kt_Costs_init_switch)))
    (kw_Costs_init_enter : PySem.W.nsIn K kD_Costs_init "enter" = some (some (.int (5) kt_Costs_init_enter)))
    (kw_Costs_init_leave : PySem.W.nsIn K kD_Costs_init "leave" = some (some (.int (5) kt_Costs_init_leave)))
    (kw_Costs_init_finish : PySem.W.nsIn K kD_Costs_init "finish" = some (some (.int (8) kt_Costs_init_finish)))
    (c_Costs_init : PySem.W.codeIn K cd_Costs_init "Costs.__init__" = true)
    (k_Costs_init : PySem.W.keepIn K (.ref a_Costs_init) = true)
    (l__check_costs : K.lookup a__check_costs = some ⟨oc__check_costs, od__check_costs, .func (PySem.W.fnOf "_check_costs" "_check_costs" (defArgs s__check_costs) (defBody s__check_costs) (defScope s__check_costs) .none kV__check_costs dc__check_costs pm__check_costs an__check_costs cd__check_costs ct__check_costs), sl__check_costs⟩)
    (c__check_costs : PySem.W.codeIn K cd__check_costs "_check_costs" = true)
    (k__check_costs : PySem.W.keepIn K (.ref a__check_costs) = true)
    (l__check_miss : K.lookup a__check_miss = some ⟨oc__check_miss, od__check_miss, .func (PySem.W.fnOf "_check_miss" "_check_miss" (defArgs s__check_miss) (defBody s__check_miss) (defScope s__check_miss) .none kV__check_miss dc__check_miss pm__check_miss an__check_miss cd__check_miss ct__check_miss), sl__check_miss⟩)
    (c__check_miss : PySem.W.codeIn K cd__check_miss "_check_miss" = true)
    (k__check_miss : PySem.W.keepIn K (.ref a__check_miss) = true)
    (l_instruction_cost : K.lookup a_instruction_cost = some ⟨oc_instruction_cost, od_instruction_cost, .func (PySem.W.fnOf "instruction_cost" "instruction_cost" (defArgs s_instruction_cost) (defBody s_instruction_cost) (defScope s_instruction_cost) .none (.ref kD_instruction_cost) dc_instruction_cost pm_instruction_cost an_instruction_cost cd_instruction_cost ct_instruction_cost), sl_instruction_cost⟩)
    (kw_instruction_cost_load_hit : PySem.W.nsIn K kD_instruction_cost "load_hit" = some (some (.bool true)))
    (kw_instruction_cost_taken : PySem.W.nsIn K kD_instruction_cost "taken" = some (some (.bool false)))
    (c_instruction_cost : PySem.W.codeIn K cd_instruction_cost "instruction_cost" = true)
    (k_instruction_cost : PySem.W.keepIn K (.ref a_instruction_cost) = true)
    (l__execution_cost : K.lookup a__execution_cost = some ⟨oc__execution_cost, od__execution_cost, .func (PySem.W.fnOf "_execution_cost" "_execution_cost" (defArgs s__execution_cost) (defBody s__execution_cost) (defScope s__execution_cost) .none kV__execution_cost dc__execution_cost pm__execution_cost an__execution_cost cd__execution_cost ct__execution_cost), sl__execution_cost⟩)
    (c__execution_cost : PySem.W.codeIn K cd__execution_cost "_execution_cost" = true)
    (k__execution_cost : PySem.W.keepIn K (.ref a__execution_cost) = true)
    (l__calculation_cost : K.lookup a__calculation_cost = some ⟨oc__calculation_cost, od__calculation_cost, .func (PySem.W.fnOf "_calculation_cost" "_calculation_cost" (defArgs s__calculation_cost) (defBody s__calculation_cost) (defScope s__calculation_cost) .none kV__calculation_cost dc__calculation_cost pm__calculation_cost an__calculation_cost cd__calculation_cost ct__calculation_cost), sl__calculation_cost⟩)
    (c__calculation_cost : PySem.W.codeIn K cd__calculation_cost "_calculation_cost" = true)
    (k__calculation_cost : PySem.W.keepIn K (.ref a__calculation_cost) = true)
    (fi_Core_init : PySem.W.findIn K (.ref C_Core) "__init__" = some (some (.ref a_Core_init)))
    (fn_Core_init : PySem.W.isFn K (.ref a_Core_init) = true)
    (l_Core_init : K.lookup a_Core_init = some ⟨oc_Core_init, od_Core_init, .func (PySem.W.fnOf "__init__" "Core.__init__" (defArgs s_Core_init) (defBody s_Core_init) (defScope s_Core_init) .none kV_Core_init dc_Core_init pm_Core_init an_Core_init cd_Core_init ct_Core_init), sl_Core_init⟩)
    (c_Core_init : PySem.W.codeIn K cd_Core_init "Core.__init__" = true)
    (k_Core_init : PySem.W.keepIn K (.ref a_Core_init) = true)
    (fi_Core_put : PySem.W.findIn K (.ref C_Core) "put" = some (some (.ref a_Core_put)))
    (fn_Core_put : PySem.W.isFn K (.ref a_Core_put) = true)
    (l_Core_put : K.lookup a_Core_put = some ⟨oc_Core_put, od_Core_put, .func (PySem.W.fnOf "put" "Core.put" (defArgs s_Core_put) (defBody s_Core_put) (defScope s_Core_put) .none kV_Core_put dc_Core_put pm_Core_put an_Core_put cd_Core_put ct_Core_put), sl_Core_put⟩)
    (c_Core_put : PySem.W.codeIn K cd_Core_put "Core.put" = true)
    (k_Core_put : PySem.W.keepIn K (.ref a_Core_put) = true)
    (fi_Board_init : PySem.W.findIn K (.ref C_Board) "__init__" = some (some (.ref a_Board_init)))
    (fn_Board_init : PySem.W.isFn K (.ref a_Board_init) = true)
    (l_Board_init : K.lookup a_Board_init = some ⟨oc_Board_init, od_Board_init, .func (PySem.W.fnOf "__init__" "Board.__init__" (defArgs s_Board_init) (defBody s_Board_init) (defScope s_Board_init) .none kV_Board_init dc_Board_init pm_Board_init an_Board_init cd_Board_init ct_Board_init), sl_Board_init⟩)
    (c_Board_init : PySem.W.codeIn K cd_Board_init "Board.__init__" = true)
    (k_Board_init : PySem.W.keepIn K (.ref a_Board_init) = true)
    (fi_Board_take : PySem.W.findIn K (.ref C_Board) "take" = some (some (.ref a_Board_take)))
    (fn_Board_take : PySem.W.isFn K (.ref a_Board_take) = true)
    (l_Board_take : K.lookup a_Board_take = some ⟨oc_Board_take, od_Board_take, .func (PySem.W.fnOf "take" "Board.take" (defArgs s_Board_take) (defBody s_Board_take) (defScope s_Board_take) .none kV_Board_take dc_Board_take pm_Board_take an_Board_take cd_Board_take ct_Board_take), sl_Board_take⟩)
    (c_Board_take : PySem.W.codeIn K cd_Board_take "Board.take" = true)
    (k_Board_take : PySem.W.keepIn K (.ref a_Board_take) = true)
    (l_step : K.lookup a_step = some ⟨oc_step, od_step, .func (PySem.W.fnOf "step" "step" (defArgs s_step) (defBody s_step) (defScope s_step) .none kV_step dc_step pm_step an_step cd_step ct_step), sl_step⟩)
    (c_step : PySem.W.codeIn K cd_step "step" = true)
    (k_step : PySem.W.keepIn K (.ref a_step) = true)
    (l__access : K.lookup a__access = some ⟨oc__access, od__access, .func (PySem.W.fnOf "_access" "_access" (defArgs s__access) (defBody s__access) (defScope s__access) .none kV__access dc__access pm__access an__access cd__access ct__access), sl__access⟩)
    (c__access : PySem.W.codeIn K cd__access "_access" = true)
    (k__access : PySem.W.keepIn K (.ref a__access) = true)
    (l__data_address : K.lookup a__data_address = some ⟨oc__data_address, od__data_address, .func (PySem.W.fnOf "_data_address" "_data_address" (defArgs s__data_address) (defBody s__data_address) (defScope s__data_address) .none kV__data_address dc__data_address pm__data_address an__data_address cd__data_address ct__data_address), sl__data_address⟩)
    (c__data_address : PySem.W.codeIn K cd__data_address "_data_address" = true)
    (k__data_address : PySem.W.keepIn K (.ref a__data_address) = true)
    (l__branch : K.lookup a__branch = some ⟨oc__branch, od__branch, .func (PySem.W.fnOf "_branch" "_branch" (defArgs s__branch) (defBody s__branch) (defScope s__branch) .none kV__branch dc__branch pm__branch an__branch cd__branch ct__branch), sl__branch⟩)
    (c__branch : PySem.W.codeIn K cd__branch "_branch" = true)
    (k__branch : PySem.W.keepIn K (.ref a__branch) = true)
    (l__jump : K.lookup a__jump = some ⟨oc__jump, od__jump, .func (PySem.W.fnOf "_jump" "_jump" (defArgs s__jump) (defBody s__jump) (defScope s__jump) .none kV__jump dc__jump pm__jump an__jump cd__jump ct__jump), sl__jump⟩)
    (c__jump : PySem.W.codeIn K cd__jump "_jump" = true)
    (k__jump : PySem.W.keepIn K (.ref a__jump) = true)
    (l__work : K.lookup a__work = some ⟨oc__work, od__work, .func (PySem.W.fnOf "_work" "_work" (defArgs s__work) (defBody s__work) (defScope s__work) .none kV__work dc__work pm__work an__work cd__work ct__work), sl__work⟩)
    (c__work : PySem.W.codeIn K cd__work "_work" = true)
    (k__work : PySem.W.keepIn K (.ref a__work) = true)
    (l__calculated : K.lookup a__calculated = some ⟨oc__calculated, od__calculated, .func (PySem.W.fnOf "_calculated" "_calculated" (defArgs s__calculated) (defBody s__calculated) (defScope s__calculated) .none kV__calculated dc__calculated pm__calculated an__calculated cd__calculated ct__calculated), sl__calculated⟩)
    (c__calculated : PySem.W.codeIn K cd__calculated "_calculated" = true)
    (k__calculated : PySem.W.keepIn K (.ref a__calculated) = true)
    (l__law_sign : K.lookup a__law_sign = some ⟨oc__law_sign, od__law_sign, .func (PySem.W.fnOf "_law_sign" "_law_sign" (defArgs s__law_sign) (defBody s__law_sign) (defScope s__law_sign) .none kV__law_sign dc__law_sign pm__law_sign an__law_sign cd__law_sign ct__law_sign), sl__law_sign⟩)
    (c__law_sign : PySem.W.codeIn K cd__law_sign "_law_sign" = true)
    (k__law_sign : PySem.W.keepIn K (.ref a__law_sign) = true)
    (l__law_calc : K.lookup a__law_calc = some ⟨oc__law_calc, od__law_calc, .func (PySem.W.fnOf "_law_calc" "_law_calc" (defArgs s__law_calc) (defBody s__law_calc) (defScope s__law_calc) .none kV__law_calc dc__law_calc pm__law_calc an__law_calc cd__law_calc ct__law_calc), sl__law_calc⟩)
    (c__law_calc : PySem.W.codeIn K cd__law_calc "_law_calc" = true)
    (k__law_calc : PySem.W.keepIn K (.ref a__law_calc) = true)
    (l__law_operation : K.lookup a__law_operation = some ⟨oc__law_operation, od__law_operation, .func (PySem.W.fnOf "_law_operation" "_law_operation" (defArgs s__law_operation) (defBody s__law_operation) (defScope s__law_operation) .none kV__law_operation dc__law_operation pm__law_operation an__law_operation cd__law_operation ct__law_operation), sl__law_operation⟩)
    (c__law_operation : PySem.W.codeIn K cd__law_operation "_law_operation" = true)
    (k__law_operation : PySem.W.keepIn K (.ref a__law_operation) = true)
    (l__law_instruction : K.lookup a__law_instruction = some ⟨oc__law_instruction, od__law_instruction, .func (PySem.W.fnOf "_law_instruction" "_law_instruction" (defArgs s__law_instruction) (defBody s__law_instruction) (defScope s__law_instruction) .none kV__law_instruction dc__law_instruction pm__law_instruction an__law_instruction cd__law_instruction ct__law_instruction), sl__law_instruction⟩)
    (c__law_instruction : PySem.W.codeIn K cd__law_instruction "_law_instruction" = true)
    (k__law_instruction : PySem.W.keepIn K (.ref a__law_instruction) = true)
    (l__law_put : K.lookup a__law_put = some ⟨oc__law_put, od__law_put, .func (PySem.W.fnOf "_law_put" "_law_put" (defArgs s__law_put) (defBody s__law_put) (defScope s__law_put) .none kV__law_put dc__law_put pm__law_put an__law_put cd__law_put ct__law_put), sl__law_put⟩)
    (c__law_put : PySem.W.codeIn K cd__law_put "_law_put" = true)
    (k__law_put : PySem.W.keepIn K (.ref a__law_put) = true)
    (l__law_move : K.lookup a__law_move = some ⟨oc__law_move, od__law_move, .func (PySem.W.fnOf "_law_move" "_law_move" (defArgs s__law_move) (defBody s__law_move) (defScope s__law_move) .none kV__law_move dc__law_move pm__law_move an__law_move cd__law_move ct__law_move), sl__law_move⟩)
    (c__law_move : PySem.W.codeIn K cd__law_move "_law_move" = true)
    (k__law_move : PySem.W.keepIn K (.ref a__law_move) = true)
    (l__law_goal : K.lookup a__law_goal = some ⟨oc__law_goal, od__law_goal, .func (PySem.W.fnOf "_law_goal" "_law_goal" (defArgs s__law_goal) (defBody s__law_goal) (defScope s__law_goal) .none kV__law_goal dc__law_goal pm__law_goal an__law_goal cd__law_goal ct__law_goal), sl__law_goal⟩)
    (c__law_goal : PySem.W.codeIn K cd__law_goal "_law_goal" = true)
    (k__law_goal : PySem.W.keepIn K (.ref a__law_goal) = true)
    (l__law_cost : K.lookup a__law_cost = some ⟨oc__law_cost, od__law_cost, .func (PySem.W.fnOf "_law_cost" "_law_cost" (defArgs s__law_cost) (defBody s__law_cost) (defScope s__law_cost) .none kV__law_cost dc__law_cost pm__law_cost an__law_cost cd__law_cost ct__law_cost), sl__law_cost⟩)
    (c__law_cost : PySem.W.codeIn K cd__law_cost "_law_cost" = true)
    (k__law_cost : PySem.W.keepIn K (.ref a__law_cost) = true)
    (l__law_use : K.lookup a__law_use = some ⟨oc__law_use, od__law_use, .func (PySem.W.fnOf "_law_use" "_law_use" (defArgs s__law_use) (defBody s__law_use) (defScope s__law_use) .none kV__law_use dc__law_use pm__law_use an__law_use cd__law_use ct__law_use), sl__law_use⟩)
    (c__law_use : PySem.W.codeIn K cd__law_use "_law_use" = true)
    (k__law_use : PySem.W.keepIn K (.ref a__law_use) = true)
    (l__law_address : K.lookup a__law_address = some ⟨oc__law_address, od__law_address, .func (PySem.W.fnOf "_law_address" "_law_address" (defArgs s__law_address) (defBody s__law_address) (defScope s__law_address) .none kV__law_address dc__law_address pm__law_address an__law_address cd__law_address ct__law_address), sl__law_address⟩)
    (c__law_address : PySem.W.codeIn K cd__law_address "_law_address" = true)
    (k__law_address : PySem.W.keepIn K (.ref a__law_address) = true)
    (l__law_shape : K.lookup a__law_shape = some ⟨oc__law_shape, od__law_shape, .func (PySem.W.fnOf "_law_shape" "_law_shape" (defArgs s__law_shape) (defBody s__law_shape) (defScope s__law_shape) .none kV__law_shape dc__law_shape pm__law_shape an__law_shape cd__law_shape ct__law_shape), sl__law_shape⟩)
    (c__law_shape : PySem.W.codeIn K cd__law_shape "_law_shape" = true)
    (k__law_shape : PySem.W.keepIn K (.ref a__law_shape) = true)
    (l__law_same : K.lookup a__law_same = some ⟨oc__law_same, od__law_same, .func (PySem.W.fnOf "_law_same" "_law_same" (defArgs s__law_same) (defBody s__law_same) (defScope s__law_same) .none kV__law_same dc__law_same pm__law_same an__law_same cd__law_same ct__law_same), sl__law_same⟩)
    (c__law_same : PySem.W.codeIn K cd__law_same "_law_same" = true)
    (k__law_same : PySem.W.keepIn K (.ref a__law_same) = true)
    (l_law : K.lookup a_law = some ⟨oc_law, od_law, .func (PySem.W.fnOf "law" "law" (defArgs s_law) (defBody s_law) (defScope s_law) .none kV_law dc_law pm_law an_law cd_law ct_law), sl_law⟩)
    (c_law : PySem.W.codeIn K cd_law "law" = true)
    (k_law : PySem.W.keepIn K (.ref a_law) = true)
    (kpg_Cache : PySem.W.plainGet K C_Cache Str.empty = true)
    (khd_Cache : PySem.W.hasDictIn K C_Cache = true)
    (kpo_Cache : PySem.W.plainOver K C_Cache = true)
    (ksa_Cache : PySem.W.findIn K (.ref C_Cache) "__setattr__" = some (some (.builtin "object.__setattr__")))
    (kmk_Cache : PySem.W.makesIn K C_Cache = true)
    (kkc_Cache : PySem.W.keepIn K (.ref C_Cache) = true)
    (kn_Cache_rows : PySem.W.findIn K (.ref C_Cache) "rows" = some none)
    (kn_Cache_sets : PySem.W.findIn K (.ref C_Cache) "sets" = some none)
    (kn_Cache_size : PySem.W.findIn K (.ref C_Cache) "size" = some none)
    (kn_Cache_ways : PySem.W.findIn K (.ref C_Cache) "ways" = some none)
    (kpg_Costs : PySem.W.plainGet K C_Costs Str.empty = true)
    (khd_Costs : PySem.W.hasDictIn K C_Costs = true)
    (kpo_Costs : PySem.W.plainOver K C_Costs = true)
    (ksa_Costs : PySem.W.findIn K (.ref C_Costs) "__setattr__" = some (some (.builtin "object.__setattr__")))
    (kmk_Costs : PySem.W.makesIn K C_Costs = true)
    (kkc_Costs : PySem.W.keepIn K (.ref C_Costs) = true)
    (kn_Costs_count : PySem.W.findIn K (.ref C_Costs) "count" = some none)
    (kn_Costs_div : PySem.W.findIn K (.ref C_Costs) "div" = some none)
    (kn_Costs_enter : PySem.W.findIn K (.ref C_Costs) "enter" = some none)
    (kn_Costs_fetch_hit : PySem.W.findIn K (.ref C_Costs) "fetch_hit" = some none)
    (kn_Costs_fetch_miss : PySem.W.findIn K (.ref C_Costs) "fetch_miss" = some none)
    (kn_Costs_finish : PySem.W.findIn K (.ref C_Costs) "finish" = some none)
    (kn_Costs_leave : PySem.W.findIn K (.ref C_Costs) "leave" = some none)
    (kn_Costs_load_hit : PySem.W.findIn K (.ref C_Costs) "load_hit" = some none)
    (kn_Costs_load_miss : PySem.W.findIn K (.ref C_Costs) "load_miss" = some none)
    (kn_Costs_mul : PySem.W.findIn K (.ref C_Costs) "mul" = some none)
    (kn_Costs_plain : PySem.W.findIn K (.ref C_Costs) "plain" = some none)
    (kn_Costs_port : PySem.W.findIn K (.ref C_Costs) "port" = some none)
    (kn_Costs_release : PySem.W.findIn K (.ref C_Costs) "release" = some none)
    (kn_Costs_store : PySem.W.findIn K (.ref C_Costs) "store" = some none)
    (kn_Costs_switch : PySem.W.findIn K (.ref C_Costs) "switch" = some none)
    (kn_Costs_taken : PySem.W.findIn K (.ref C_Costs) "taken" = some none)
    (kpg_Core : PySem.W.plainGet K C_Core Str.empty = true)
    (khd_Core : PySem.W.hasDictIn K C_Core = true)
    (kpo_Core : PySem.W.plainOver K C_Core = true)
    (ksa_Core : PySem.W.findIn K (.ref C_Core) "__setattr__" = some (some (.builtin "object.__setattr__")))
    (kmk_Core : PySem.W.makesIn K C_Core = true)
    (kkc_Core : PySem.W.keepIn K (.ref C_Core) = true)
    (kn_Core_at : PySem.W.findIn K (.ref C_Core) "at" = some none)
    (kn_Core_registers : PySem.W.findIn K (.ref C_Core) "registers" = some none)
    (kpg_Board : PySem.W.plainGet K C_Board Str.empty = true)
    (khd_Board : PySem.W.hasDictIn K C_Board = true)
    (kpo_Board : PySem.W.plainOver K C_Board = true)
    (ksa_Board : PySem.W.findIn K (.ref C_Board) "__setattr__" = some (some (.builtin "object.__setattr__")))
    (kmk_Board : PySem.W.makesIn K C_Board = true)
    (kkc_Board : PySem.W.keepIn K (.ref C_Board) = true)
    (kn_Board_code_cache : PySem.W.findIn K (.ref C_Board) "code_cache" = some none)
    (kn_Board_counters : PySem.W.findIn K (.ref C_Board) "counters" = some none)
    (kn_Board_data : PySem.W.findIn K (.ref C_Board) "data" = some none)
    (kn_Board_data_cache : PySem.W.findIn K (.ref C_Board) "data_cache" = some none)
    (kn_Board_inputs : PySem.W.findIn K (.ref C_Board) "inputs" = some none)
    (kn_Board_outputs : PySem.W.findIn K (.ref C_Board) "outputs" = some none)
    (zs_super : PySem.W.nsIn K mainGlobals "super" = some none)
    (zt_third : PySem.W.nsIn K PySem.cStatics "thirdparty.any" = some none)
    (zq_top : (List.lookup (PySem.Str.ofString "super") P.main.scope.names).isSome = false)
    (xl_PlanError : K.lookup C_PlanError = some (excClassObj nm_PlanError q_PlanError C_PlanError N_PlanError bs_PlanError bm_PlanError true sn_PlanError sub_PlanError ab_PlanError col_PlanError dd_PlanError m0_PlanError m1_PlanError m2_PlanError m3_PlanError m5_PlanError "ValueError.__new__"))
    (xb_PlanError : PySem.HandSPX.refsVE bm_PlanError = true)
    (xi_PlanError : PySem.W.excInitIn K C_PlanError PySem.HandSPX.veTail "ValueError.__new__" = true)
    (xs_PlanError : PySem.W.ks_superIn K C_PlanError C_PlanError "__init__" = some (some (.builtin "ValueError.__init__")))
    (xv_PlanError : PySem.W.subIn K (.ref C_PlanError) (.type "ValueError") = some true)
    (xm_PlanError : PySem.W.mroIn K C_PlanError (.ref C_PlanError) = some true)
    (xo_PlanError : PySem.W.mroIn K C_PlanError (.type "object") = some true)
    (xa_PlanError : PySem.W.findIn K (.ref C_PlanError) "__setattr__" = some (some (.builtin "object.__setattr__")))
    (xg_PlanError : PySem.W.findIn K (.ref C_PlanError) "__getattribute__" = some (some (.builtin "BaseException.__getattribute__")))
    (xh_PlanError : PySem.W.findIn K (.ref C_PlanError) "__getattr__" = some none)
    (xn_PlanError : PySem.W.findIn K (.ref C_PlanError) "at" = some none)
    (xc_PlanError : PySem.W.findIn K (.ref C_PlanError) "__class__" = some (some (.builtin "object.__class__")))
    (xf_PlanError : PySem.W.findIn K (.ref C_PlanError) "__init__" = some (some (.ref f_PlanError)))
    (xt_PlanError : PySem.W.typeIn K (.ref f_PlanError) = some (.type "function"))
    (xk_PlanError : PySem.W.keepIn K (.ref C_PlanError) = true)
    (xe_PlanError : PySem.W.subIn K (.ref C_PlanError) (.type "BaseException") = some true)
    (xy_PlanError : PySem.W.typeIn K (.ref C_PlanError) = some (.type "type"))
    (xd_PlanError : PySem.W.hasDictIn K C_PlanError = true)
    (xu_PlanError : PySem.W.isClsIn K C_PlanError = true)
    (xw_PlanError : PySem.W.subIn K (.ref C_PlanError) (.ref C_PlanError) = some true)
    (xp_PlanError : PySem.W.specialIn K (.builtin "object.__class__") "__get__" = some (some (.builtin "getset_descriptor.__get__")))
    (xq_PlanError : PySem.W.takesIn K (.builtin "object.__class__") = some true)
    (l_PlanError : K.lookup f_PlanError = some ⟨oc_PlanError, od_PlanError, .func (PySem.W.ksFn "__init__" "PlanError.__init__" (PySem.Errs.eA "at" ⟨81, 17, 81, 21⟩ ⟨81, 23, 81, 25⟩) (PySem.Errs.eB "at" parts_PlanError ⟨82, 25, 82, 47⟩ ⟨82, 8, 82, 13⟩ ⟨82, 8, 82, 15⟩ ⟨82, 8, 82, 24⟩ ⟨82, 8, 82, 48⟩ ⟨82, 8, 82, 48⟩ ⟨83, 8, 83, 12⟩ ⟨83, 8, 83, 15⟩ ⟨83, 18, 83, 20⟩ ⟨83, 8, 83, 20⟩) (PySem.Errs.eS "at" [("decimal", .globalImplicit)]) .none .none dc_PlanError pm_PlanError an_PlanError (.ref cda_PlanError) ct_PlanError cc_PlanError), osl_PlanError⟩)
    (d_PlanError : K.lookup cda_PlanError = some ⟨ccl_PlanError, cdd_PlanError, .fields vs_PlanError, ccs_PlanError⟩)
    (e_PlanError : vs_PlanError[1]? = some (.str "PlanError.__init__" tq_PlanError))
    (g_PlanError : vs_PlanError[2]? = some (.str file_PlanError tf_PlanError))
    (h_PlanError : (P.main.file == file_PlanError) = true)
    (i_PlanError : K.lookup cc_PlanError = some ⟨cl_PlanError, cld_PlanError, .cell (some (.ref C_PlanError)), csl_PlanError⟩)
    (z_str : PySem.W.nsIn K mainGlobals "str" = some none)
    (z_divmod : PySem.W.nsIn K mainGlobals "divmod" = some none)
    (z_abs : PySem.W.nsIn K mainGlobals "abs" = some none)
    (z_list : PySem.W.nsIn K mainGlobals "list" = some none)
    (z_int : PySem.W.nsIn K mainGlobals "int" = some none)
    (z_len : PySem.W.nsIn K mainGlobals "len" = some none)
    (z_range : PySem.W.nsIn K mainGlobals "range" = some none)
    (z_sum : PySem.W.nsIn K mainGlobals "sum" = some none)
    (v_WORDS : PySem.W.nsIn K mainGlobals "WORDS" = some (some (.int 4294967296 t_WORDS)))
    (v_SIGN_BIT : PySem.W.nsIn K mainGlobals "SIGN_BIT" = some (some (.int 2147483648 t_SIGN_BIT)))
    (v_GREATEST_WORD : PySem.W.nsIn K mainGlobals "GREATEST_WORD" = some (some (.int 4294967295 t_GREATEST_WORD)))
    (v_PIECE : PySem.W.nsIn K mainGlobals "PIECE" = some (some (.int 1000000000000000000 t_PIECE)))
    (v_PIECE_DIGITS : PySem.W.nsIn K mainGlobals "PIECE_DIGITS" = some (some (.int 18 t_PIECE_DIGITS)))
    (v_LINE_SIZES : PySem.W.nsIn K mainGlobals "LINE_SIZES" = some (some (.ref p_LINE_SIZES)))
    (w_LINE_SIZES : K.lookup p_LINE_SIZES = some ⟨.type "tuple", none, .seq us_LINE_SIZES n_LINE_SIZES, sl_LINE_SIZES⟩)
    (y_LINE_SIZES : Vals [.int (1), .int (2), .int (4), .int (8), .int (16)] us_LINE_SIZES.toList)
    (v_MOST_WAYS : PySem.W.nsIn K mainGlobals "MOST_WAYS" = some (some (.int 4 t_MOST_WAYS)))
    (v_MOST_SETS : PySem.W.nsIn K mainGlobals "MOST_SETS" = some (some (.int 64 t_MOST_SETS)))
    (v_GREATEST_COST : PySem.W.nsIn K mainGlobals "GREATEST_COST" = some (some (.int 64 t_GREATEST_COST)))
    (v_TAKEN_AT_TIMES : PySem.W.nsIn K mainGlobals "TAKEN_AT_TIMES" = some (some (.ref p_TAKEN_AT_TIMES)))
    (w_TAKEN_AT_TIMES : K.lookup p_TAKEN_AT_TIMES = some ⟨.type "tuple", none, .seq us_TAKEN_AT_TIMES n_TAKEN_AT_TIMES, sl_TAKEN_AT_TIMES⟩)
    (y_TAKEN_AT_TIMES : Vals [.str "jzero", .str "again"] us_TAKEN_AT_TIMES.toList)
    (v_ALWAYS_TAKEN : PySem.W.nsIn K mainGlobals "ALWAYS_TAKEN" = some (some (.ref p_ALWAYS_TAKEN)))
    (w_ALWAYS_TAKEN : K.lookup p_ALWAYS_TAKEN = some ⟨.type "tuple", none, .seq us_ALWAYS_TAKEN n_ALWAYS_TAKEN, sl_ALWAYS_TAKEN⟩)
    (y_ALWAYS_TAKEN : Vals [.str "jump", .str "link", .str "back"] us_ALWAYS_TAKEN.toList)
    (v_REGISTERS : PySem.W.nsIn K mainGlobals "REGISTERS" = some (some (.int 9 t_REGISTERS)))
    (v_PORTS : PySem.W.nsIn K mainGlobals "PORTS" = some (some (.int 8 t_PORTS)))
    (v_COUNTERS : PySem.W.nsIn K mainGlobals "COUNTERS" = some (some (.int 256 t_COUNTERS)))
    (v_DATA_WORDS : PySem.W.nsIn K mainGlobals "DATA_WORDS" = some (some (.int 16384 t_DATA_WORDS)))
    (v_ACCESSES : PySem.W.nsIn K mainGlobals "ACCESSES" = some (some (.ref p_ACCESSES)))
    (w_ACCESSES : K.lookup p_ACCESSES = some ⟨.type "tuple", none, .seq us_ACCESSES n_ACCESSES, sl_ACCESSES⟩)
    (y_ACCESSES : Vals [.str "load", .str "store", .str "loadx", .str "storex"] us_ACCESSES.toList)
    (v_RETURN_REGISTER : PySem.W.nsIn K mainGlobals "RETURN_REGISTER" = some (some (.int 8 t_RETURN_REGISTER)))
    (v_LOW_HALF : PySem.W.nsIn K mainGlobals "LOW_HALF" = some (some (.int 65536 t_LOW_HALF)))
    (v_OPERATORS : PySem.W.nsIn K mainGlobals "OPERATORS" = some (some (.ref p_OPERATORS)))
    (u_OPERATORS : K.lookup p_OPERATORS = some ⟨.type "dict", none, .dict e_OPERATORS n_OPERATORS, #[]⟩)
    (kl_OPERATORS : PySem.W.KeysLit w.params e_OPERATORS.toList)
    (zq_OPERATORS : (p_OPERATORS == sysModules) = false)
    (i_OPERATORS_0 : PySem.W.nsIn K p_OPERATORS "add" = some (some (.str "+" t_OPERATORS_0)))
    (i_OPERATORS_1 : PySem.W.nsIn K p_OPERATORS "sub" = some (some (.str "-" t_OPERATORS_1)))
    (i_OPERATORS_2 : PySem.W.nsIn K p_OPERATORS "mul" = some (some (.str "*" t_OPERATORS_2)))
    (i_OPERATORS_3 : PySem.W.nsIn K p_OPERATORS "div" = some (some (.str "/" t_OPERATORS_3)))
    (i_OPERATORS_4 : PySem.W.nsIn K p_OPERATORS "mod" = some (some (.str "mod" t_OPERATORS_4)))
    (i_OPERATORS_5 : PySem.W.nsIn K p_OPERATORS "and" = some (some (.str "&" t_OPERATORS_5)))
    (i_OPERATORS_6 : PySem.W.nsIn K p_OPERATORS "or" = some (some (.str "|" t_OPERATORS_6)))
    (i_OPERATORS_7 : PySem.W.nsIn K p_OPERATORS "xor" = some (some (.str "^" t_OPERATORS_7)))
    (i_OPERATORS_8 : PySem.W.nsIn K p_OPERATORS "shl" = some (some (.str "<<" t_OPERATORS_8)))
    (i_OPERATORS_9 : PySem.W.nsIn K p_OPERATORS "shr" = some (some (.str ">>" t_OPERATORS_9)))
    (i_OPERATORS_10 : PySem.W.nsIn K p_OPERATORS "ult" = some (some (.str "<" t_OPERATORS_10)))
    (i_OPERATORS_11 : PySem.W.nsIn K p_OPERATORS "ule" = some (some (.str "<=" t_OPERATORS_11)))
    (i_OPERATORS_12 : PySem.W.nsIn K p_OPERATORS "slt" = some (some (.str "~<" t_OPERATORS_12)))
    (i_OPERATORS_13 : PySem.W.nsIn K p_OPERATORS "sle" = some (some (.str "~<=" t_OPERATORS_13)))
    (i_OPERATORS_14 : PySem.W.nsIn K p_OPERATORS "eq" = some (some (.str "==" t_OPERATORS_14)))
    (i_OPERATORS_15 : PySem.W.nsIn K p_OPERATORS "ne" = some (some (.str "!=" t_OPERATORS_15))) :
    Top P w K mg :=
  { a_wrap := a_wrap,
    d_wrap := _,
    F_wrap := fun_mk (st := s_wrap) l_wrap c_wrap k_wrap,
    g_wrap := PySem.W.mg_of X G n_wrap,
    b_wrap := (fun_mk (st := s_wrap) l_wrap c_wrap k_wrap).binds (ps := ["n"]) fun _ _ _ _ _ _ us hl => match us, hl with | [_], _ => rfl,
    a_signed := a_signed,
    d_signed := _,
    F_signed := fun_mk (st := s_signed) l_signed c_signed k_signed,
    g_signed := PySem.W.mg_of X G n_signed,
    b_signed := (fun_mk (st := s_signed) l_signed c_signed k_signed).binds (ps := ["w"]) fun _ _ _ _ _ _ us hl => match us, hl with | [_], _ => rfl,
    a_combine := a_combine,
    d_combine := _,
    F_combine := fun_mk (st := s_combine) l_combine c_combine k_combine,
    g_combine := PySem.W.mg_of X G n_combine,
    b_combine := (fun_mk (st := s_combine) l_combine c_combine k_combine).binds (ps := ["operator", "a", "b"]) fun _ _ _ _ _ _ us hl => match us, hl with | [_, _, _], _ => rfl,
    a__holds := a__holds,
    d__holds := _,
    F__holds := fun_mk (st := s__holds) l__holds c__holds k__holds,
    g__holds := PySem.W.mg_of X G n__holds,
    b__holds := (fun_mk (st := s__holds) l__holds c__holds k__holds).binds (ps := ["operator", "a", "b"]) fun _ _ _ _ _ _ us hl => match us, hl with | [_, _, _], _ => rfl,
    a_alter := a_alter,
    d_alter := _,
    F_alter := fun_mk (st := s_alter) l_alter c_alter k_alter,
    g_alter := PySem.W.mg_of X G n_alter,
    b_alter := (fun_mk (st := s_alter) l_alter c_alter k_alter).binds (ps := ["operator", "a"]) fun _ _ _ _ _ _ us hl => match us, hl with | [_, _], _ => rfl,
    a_decimal := a_decimal,
    d_decimal := _,
    F_decimal := fun_mk (st := s_decimal) l_decimal c_decimal k_decimal,
    g_decimal := PySem.W.mg_of X G n_decimal,
    b_decimal := (fun_mk (st := s_decimal) l_decimal c_decimal k_decimal).binds (ps := ["n"]) fun _ _ _ _ _ _ us hl => match us, hl with | [_], _ => rfl,
    a__law_start := a__law_start,
    d__law_start := _,
    F__law_start := fun_mk (st := s__law_start) l__law_start c__law_start k__law_start,
    g__law_start := PySem.W.mg_of X G n__law_start,
    b__law_start := (fun_mk (st := s__law_start) l__law_start c__law_start k__law_start).binds (ps := ["script"]) fun _ _ _ _ _ _ us hl => match us, hl with | [_], _ => rfl,
    a__law_draw := a__law_draw,
    d__law_draw := _,
    F__law_draw := fun_mk (st := s__law_draw) l__law_draw c__law_draw k__law_draw,
    g__law_draw := PySem.W.mg_of X G n__law_draw,
    b__law_draw := (fun_mk (st := s__law_draw) l__law_draw c__law_draw k__law_draw).binds (ps := ["state", "many"]) fun _ _ _ _ _ _ us hl => match us, hl with | [_, _], _ => rfl,
    a_Cache_init := a_Cache_init,
    d_Cache_init := _,
    F_Cache_init := fun_mk (st := s_Cache_init) l_Cache_init c_Cache_init k_Cache_init,
    M_Cache := ⟨kmk_Cache, fi_Cache_init, fn_Cache_init, kkc_Cache⟩,
    b_Cache_init := (fun_mk (st := s_Cache_init) l_Cache_init c_Cache_init k_Cache_init).binds (ps := ["self", "sets", "ways", "size"]) fun _ _ _ _ _ _ us hl => match us, hl with | [_, _, _, _], _ => rfl,
    a_Cache_holds := a_Cache_holds,
    d_Cache_holds := _,
    F_Cache_holds := fun_mk (st := s_Cache_holds) l_Cache_holds c_Cache_holds k_Cache_holds,
    m_Cache_holds := ⟨fi_Cache_holds, fn_Cache_holds, k_Cache_holds⟩,
    b_Cache_holds := (fun_mk (st := s_Cache_holds) l_Cache_holds c_Cache_holds k_Cache_holds).binds (ps := ["self", "address"]) fun _ _ _ _ _ _ us hl => match us, hl with | [_, _], _ => rfl,
    a_Cache_use := a_Cache_use,
    d_Cache_use := _,
    F_Cache_use := fun_mk (st := s_Cache_use) l_Cache_use c_Cache_use k_Cache_use,
    m_Cache_use := ⟨fi_Cache_use, fn_Cache_use, k_Cache_use⟩,
    b_Cache_use := (fun_mk (st := s_Cache_use) l_Cache_use c_Cache_use k_Cache_use).binds (ps := ["self", "address"]) fun _ _ _ _ _ _ us hl => match us, hl with | [_, _], _ => rfl,
    a_Cache_read := a_Cache_read,
    d_Cache_read := _,
    F_Cache_read := fun_mk (st := s_Cache_read) l_Cache_read c_Cache_read k_Cache_read,
    m_Cache_read := ⟨fi_Cache_read, fn_Cache_read, k_Cache_read⟩,
    b_Cache_read := (fun_mk (st := s_Cache_read) l_Cache_read c_Cache_read k_Cache_read).binds (ps := ["self", "address"]) fun _ _ _ _ _ _ us hl => match us, hl with | [_, _], _ => rfl,
    a_Cache_write := a_Cache_write,
    d_Cache_write := _,
    F_Cache_write := fun_mk (st := s_Cache_write) l_Cache_write c_Cache_write k_Cache_write,
    m_Cache_write := ⟨fi_Cache_write, fn_Cache_write, k_Cache_write⟩,
    b_Cache_write := (fun_mk (st := s_Cache_write) l_Cache_write c_Cache_write k_Cache_write).binds (ps := ["self", "address"]) fun _ _ _ _ _ _ us hl => match us, hl with | [_, _], _ => rfl,
    a_Cache_duplicate := a_Cache_duplicate,
    d_Cache_duplicate := _,
    F_Cache_duplicate := fun_mk (st := s_Cache_duplicate) l_Cache_duplicate c_Cache_duplicate k_Cache_duplicate,
    m_Cache_duplicate := ⟨fi_Cache_duplicate, fn_Cache_duplicate, k_Cache_duplicate⟩,
    b_Cache_duplicate := (fun_mk (st := s_Cache_duplicate) l_Cache_duplicate c_Cache_duplicate k_Cache_duplicate).binds (ps := ["self"]) fun _ _ _ _ _ _ us hl => match us, hl with | [_], _ => rfl,
    a_Costs_init := a_Costs_init,
    d_Costs_init := _,
    F_Costs_init := ⟨⟨_, _, _, _, _, _, _, _, _, _, rfl, l_Costs_init, c_Costs_init, .inl ⟨rfl, rfl⟩, .inr ⟨_, rfl, List.forall_mem_cons.mpr ⟨⟨_, kw_Costs_init_fetch_hit, ⟨_, rfl⟩⟩, List.forall_mem_cons.mpr ⟨⟨_, kw_Costs_init_fetch_miss, ⟨_, rfl⟩⟩, List.forall_mem_cons.mpr ⟨⟨_, kw_Costs_init_plain, ⟨_, rfl⟩⟩, List.forall_mem_cons.mpr ⟨⟨_, kw_Costs_init_mul, ⟨_, rfl⟩⟩, List.forall_mem_cons.mpr ⟨⟨_, kw_Costs_init_div, ⟨_, rfl⟩⟩, List.forall_mem_cons.mpr ⟨⟨_, kw_Costs_init_load_hit, ⟨_, rfl⟩⟩, List.forall_mem_cons.mpr ⟨⟨_, kw_Costs_init_load_miss, ⟨_, rfl⟩⟩, List.forall_mem_cons.mpr ⟨⟨_, kw_Costs_init_store, ⟨_, rfl⟩⟩, List.forall_mem_cons.mpr ⟨⟨_, kw_Costs_init_taken, ⟨_, rfl⟩⟩, List.forall_mem_cons.mpr ⟨⟨_, kw_Costs_init_count, ⟨_, rfl⟩⟩, List.forall_mem_cons.mpr ⟨⟨_, kw_Costs_init_port, ⟨_, rfl⟩⟩, List.forall_mem_cons.mpr ⟨⟨_, kw_Costs_init_release, ⟨_, rfl⟩⟩, List.forall_mem_cons.mpr ⟨⟨_, kw_Costs_init_switch, ⟨_, rfl⟩⟩, List.forall_mem_cons.mpr ⟨⟨_, kw_Costs_init_enter, ⟨_, rfl⟩⟩, List.forall_mem_cons.mpr ⟨⟨_, kw_Costs_init_leave, ⟨_, rfl⟩⟩, List.forall_mem_cons.mpr ⟨⟨_, kw_Costs_init_finish, ⟨_, rfl⟩⟩, fun _ h => nomatch h⟩⟩⟩⟩⟩⟩⟩⟩⟩⟩⟩⟩⟩⟩⟩⟩⟩⟩, k_Costs_init⟩,
    M_Costs := ⟨kmk_Costs, fi_Costs_init, fn_Costs_init, kkc_Costs⟩,
    a__check_costs := a__check_costs,
    d__check_costs := _,
    F__check_costs := fun_mk (st := s__check_costs) l__check_costs c__check_costs k__check_costs,
    g__check_costs := PySem.W.mg_of X G n__check_costs,
    b__check_costs := (fun_mk (st := s__check_costs) l__check_costs c__check_costs k__check_costs).binds (ps := ["costs", "least"]) fun _ _ _ _ _ _ us hl => match us, hl with | [_, _], _ => rfl,
    a__check_miss := a__check_miss,
    d__check_miss := _,
    F__check_miss := fun_mk (st := s__check_miss) l__check_miss c__check_miss k__check_miss,
    g__check_miss := PySem.W.mg_of X G n__check_miss,
    b__check_miss := (fun_mk (st := s__check_miss) l__check_miss c__check_miss k__check_miss).binds (ps := ["hit", "miss"]) fun _ _ _ _ _ _ us hl => match us, hl with | [_, _], _ => rfl,
    a_instruction_cost := a_instruction_cost,
    d_instruction_cost := _,
    F_instruction_cost := ⟨⟨_, _, _, _, _, _, _, _, _, _, rfl, l_instruction_cost, c_instruction_cost, .inl ⟨rfl, rfl⟩, .inr ⟨_, rfl, List.forall_mem_cons.mpr ⟨⟨_, kw_instruction_cost_load_hit, rfl⟩, List.forall_mem_cons.mpr ⟨⟨_, kw_instruction_cost_taken, rfl⟩, fun _ h => nomatch h⟩⟩⟩⟩, k_instruction_cost⟩,
    g_instruction_cost := PySem.W.mg_of X G n_instruction_cost,
    a__execution_cost := a__execution_cost,
    d__execution_cost := _,
    F__execution_cost := fun_mk (st := s__execution_cost) l__execution_cost c__execution_cost k__execution_cost,
    g__execution_cost := PySem.W.mg_of X G n__execution_cost,
    b__execution_cost := (fun_mk (st := s__execution_cost) l__execution_cost c__execution_cost k__execution_cost).binds (ps := ["costs", "instruction", "load_hit"]) fun _ _ _ _ _ _ us hl => match us, hl with | [_, _, _], _ => rfl,
    a__calculation_cost := a__calculation_cost,
    d__calculation_cost := _,
    F__calculation_cost := fun_mk (st := s__calculation_cost) l__calculation_cost c__calculation_cost k__calculation_cost,
    g__calculation_cost := PySem.W.mg_of X G n__calculation_cost,
    b__calculation_cost := (fun_mk (st := s__calculation_cost) l__calculation_cost c__calculation_cost k__calculation_cost).binds (ps := ["costs", "operation"]) fun _ _ _ _ _ _ us hl => match us, hl with | [_, _], _ => rfl,
    a_Core_init := a_Core_init,
    d_Core_init := _,
    F_Core_init := fun_mk (st := s_Core_init) l_Core_init c_Core_init k_Core_init,
    M_Core := ⟨kmk_Core, fi_Core_init, fn_Core_init, kkc_Core⟩,
    b_Core_init := (fun_mk (st := s_Core_init) l_Core_init c_Core_init k_Core_init).binds (ps := ["self", "at"]) fun _ _ _ _ _ _ us hl => match us, hl with | [_, _], _ => rfl,
    a_Core_put := a_Core_put,
    d_Core_put := _,
    F_Core_put := fun_mk (st := s_Core_put) l_Core_put c_Core_put k_Core_put,
    m_Core_put := ⟨fi_Core_put, fn_Core_put, k_Core_put⟩,
    b_Core_put := (fun_mk (st := s_Core_put) l_Core_put c_Core_put k_Core_put).binds (ps := ["self", "r", "word"]) fun _ _ _ _ _ _ us hl => match us, hl with | [_, _, _], _ => rfl,
    a_Board_init := a_Board_init,
    d_Board_init := _,
    F_Board_init := fun_mk (st := s_Board_init) l_Board_init c_Board_init k_Board_init,
    M_Board := ⟨kmk_Board, fi_Board_init, fn_Board_init, kkc_Board⟩,
    b_Board_init := (fun_mk (st := s_Board_init) l_Board_init c_Board_init k_Board_init).binds (ps := ["self", "code_cache", "data_cache", "inputs"]) fun _ _ _ _ _ _ us hl => match us, hl with | [_, _, _, _], _ => rfl,
    a_Board_take := a_Board_take,
    d_Board_take := _,
    F_Board_take := fun_mk (st := s_Board_take) l_Board_take c_Board_take k_Board_take,
    m_Board_take := ⟨fi_Board_take, fn_Board_take, k_Board_take⟩,
    b_Board_take := (fun_mk (st := s_Board_take) l_Board_take c_Board_take k_Board_take).binds (ps := ["self", "port"]) fun _ _ _ _ _ _ us hl => match us, hl with | [_, _], _ => rfl,
    a_step := a_step,
    d_step := _,
    F_step := fun_mk (st := s_step) l_step c_step k_step,
    g_step := PySem.W.mg_of X G n_step,
    b_step := (fun_mk (st := s_step) l_step c_step k_step).binds (ps := ["costs", "code", "core", "board"]) fun _ _ _ _ _ _ us hl => match us, hl with | [_, _, _, _], _ => rfl,
    a__access := a__access,
    d__access := _,
    F__access := fun_mk (st := s__access) l__access c__access k__access,
    g__access := PySem.W.mg_of X G n__access,
    b__access := (fun_mk (st := s__access) l__access c__access k__access).binds (ps := ["instruction", "core", "board"]) fun _ _ _ _ _ _ us hl => match us, hl with | [_, _, _], _ => rfl,
    a__data_address := a__data_address,
    d__data_address := _,
    F__data_address := fun_mk (st := s__data_address) l__data_address c__data_address k__data_address,
    g__data_address := PySem.W.mg_of X G n__data_address,
    b__data_address := (fun_mk (st := s__data_address) l__data_address c__data_address k__data_address).binds (ps := ["instruction", "core"]) fun _ _ _ _ _ _ us hl => match us, hl with | [_, _], _ => rfl,
    a__branch := a__branch,
    d__branch := _,
    F__branch := fun_mk (st := s__branch) l__branch c__branch k__branch,
    g__branch := PySem.W.mg_of X G n__branch,
    b__branch := (fun_mk (st := s__branch) l__branch c__branch k__branch).binds (ps := ["instruction", "core", "board"]) fun _ _ _ _ _ _ us hl => match us, hl with | [_, _, _], _ => rfl,
    a__jump := a__jump,
    d__jump := _,
    F__jump := fun_mk (st := s__jump) l__jump c__jump k__jump,
    g__jump := PySem.W.mg_of X G n__jump,
    b__jump := (fun_mk (st := s__jump) l__jump c__jump k__jump).binds (ps := ["instruction", "core"]) fun _ _ _ _ _ _ us hl => match us, hl with | [_, _], _ => rfl,
    a__work := a__work,
    d__work := _,
    F__work := fun_mk (st := s__work) l__work c__work k__work,
    g__work := PySem.W.mg_of X G n__work,
    b__work := (fun_mk (st := s__work) l__work c__work k__work).binds (ps := ["instruction", "core", "board"]) fun _ _ _ _ _ _ us hl => match us, hl with | [_, _, _], _ => rfl,
    a__calculated := a__calculated,
    d__calculated := _,
    F__calculated := fun_mk (st := s__calculated) l__calculated c__calculated k__calculated,
    g__calculated := PySem.W.mg_of X G n__calculated,
    b__calculated := (fun_mk (st := s__calculated) l__calculated c__calculated k__calculated).binds (ps := ["operation", "a", "b"]) fun _ _ _ _ _ _ us hl => match us, hl with | [_, _, _], _ => rfl,
    a__law_sign := a__law_sign,
    d__law_sign := _,
    F__law_sign := fun_mk (st := s__law_sign) l__law_sign c__law_sign k__law_sign,
    g__law_sign := PySem.W.mg_of X G n__law_sign,
    b__law_sign := (fun_mk (st := s__law_sign) l__law_sign c__law_sign k__law_sign).binds (ps := ["word"]) fun _ _ _ _ _ _ us hl => match us, hl with | [_], _ => rfl,
    a__law_calc := a__law_calc,
    d__law_calc := _,
    F__law_calc := fun_mk (st := s__law_calc) l__law_calc c__law_calc k__law_calc,
    g__law_calc := PySem.W.mg_of X G n__law_calc,
    b__law_calc := (fun_mk (st := s__law_calc) l__law_calc c__law_calc k__law_calc).binds (ps := ["name", "a", "b"]) fun _ _ _ _ _ _ us hl => match us, hl with | [_, _, _], _ => rfl,
    a__law_operation := a__law_operation,
    d__law_operation := _,
    F__law_operation := fun_mk (st := s__law_operation) l__law_operation c__law_operation k__law_operation,
    g__law_operation := PySem.W.mg_of X G n__law_operation,
    b__law_operation := (fun_mk (st := s__law_operation) l__law_operation c__law_operation k__law_operation).binds (ps := ["at"]) fun _ _ _ _ _ _ us hl => match us, hl with | [_], _ => rfl,
    a__law_instruction := a__law_instruction,
    d__law_instruction := _,
    F__law_instruction := fun_mk (st := s__law_instruction) l__law_instruction c__law_instruction k__law_instruction,
    g__law_instruction := PySem.W.mg_of X G n__law_instruction,
    b__law_instruction := (fun_mk (st := s__law_instruction) l__law_instruction c__law_instruction k__law_instruction).binds (ps := ["state", "size"]) fun _ _ _ _ _ _ us hl => match us, hl with | [_, _], _ => rfl,
    a__law_put := a__law_put,
    d__law_put := _,
    F__law_put := fun_mk (st := s__law_put) l__law_put c__law_put k__law_put,
    g__law_put := PySem.W.mg_of X G n__law_put,
    b__law_put := (fun_mk (st := s__law_put) l__law_put c__law_put k__law_put).binds (ps := ["registers", "r", "word"]) fun _ _ _ _ _ _ us hl => match us, hl with | [_, _, _], _ => rfl,
    a__law_move := a__law_move,
    d__law_move := _,
    F__law_move := fun_mk (st := s__law_move) l__law_move c__law_move k__law_move,
    g__law_move := PySem.W.mg_of X G n__law_move,
    b__law_move := (fun_mk (st := s__law_move) l__law_move c__law_move k__law_move).binds (ps := ["instruction", "registers", "data", "counters", "words", "outputs"]) fun _ _ _ _ _ _ us hl => match us, hl with | [_, _, _, _, _, _], _ => rfl,
    a__law_goal := a__law_goal,
    d__law_goal := _,
    F__law_goal := fun_mk (st := s__law_goal) l__law_goal c__law_goal k__law_goal,
    g__law_goal := PySem.W.mg_of X G n__law_goal,
    b__law_goal := (fun_mk (st := s__law_goal) l__law_goal c__law_goal k__law_goal).binds (ps := ["instruction", "at", "registers", "counters"]) fun _ _ _ _ _ _ us hl => match us, hl with | [_, _, _, _], _ => rfl,
    a__law_cost := a__law_cost,
    d__law_cost := _,
    F__law_cost := fun_mk (st := s__law_cost) l__law_cost c__law_cost k__law_cost,
    g__law_cost := PySem.W.mg_of X G n__law_cost,
    b__law_cost := (fun_mk (st := s__law_cost) l__law_cost c__law_cost k__law_cost).binds (ps := ["n", "instruction", "taken", "fetched", "loaded"]) fun _ _ _ _ _ _ us hl => match us, hl with | [_, _, _, _, _], _ => rfl,
    a__law_use := a__law_use,
    d__law_use := _,
    F__law_use := fun_mk (st := s__law_use) l__law_use c__law_use k__law_use,
    g__law_use := PySem.W.mg_of X G n__law_use,
    b__law_use := (fun_mk (st := s__law_use) l__law_use c__law_use k__law_use).binds (ps := ["uses", "shape", "address", "adds"]) fun _ _ _ _ _ _ us hl => match us, hl with | [_, _, _, _], _ => rfl,
    a__law_address := a__law_address,
    d__law_address := _,
    F__law_address := fun_mk (st := s__law_address) l__law_address c__law_address k__law_address,
    g__law_address := PySem.W.mg_of X G n__law_address,
    b__law_address := (fun_mk (st := s__law_address) l__law_address c__law_address k__law_address).binds (ps := ["instruction", "registers"]) fun _ _ _ _ _ _ us hl => match us, hl with | [_, _], _ => rfl,
    a__law_shape := a__law_shape,
    d__law_shape := _,
    F__law_shape := fun_mk (st := s__law_shape) l__law_shape c__law_shape k__law_shape,
    g__law_shape := PySem.W.mg_of X G n__law_shape,
    b__law_shape := (fun_mk (st := s__law_shape) l__law_shape c__law_shape k__law_shape).binds (ps := ["state"]) fun _ _ _ _ _ _ us hl => match us, hl with | [_], _ => rfl,
    a__law_same := a__law_same,
    d__law_same := _,
    F__law_same := fun_mk (st := s__law_same) l__law_same c__law_same k__law_same,
    g__law_same := PySem.W.mg_of X G n__law_same,
    b__law_same := (fun_mk (st := s__law_same) l__law_same c__law_same k__law_same).binds (ps := ["core", "board", "at", "registers", "data", "counters", "outputs"]) fun _ _ _ _ _ _ us hl => match us, hl with | [_, _, _, _, _, _, _], _ => rfl,
    a_law := a_law,
    d_law := _,
    F_law := fun_mk (st := s_law) l_law c_law k_law,
    g_law := PySem.W.mg_of X G n_law,
    b_law := (fun_mk (st := s_law) l_law c_law k_law).binds (ps := ["script"]) fun _ _ _ _ _ _ us hl => match us, hl with | [_], _ => rfl,
    C_Cache := C_Cache,
    gc_Cache := PySem.W.mg_of X G nc_Cache,
    cl_Cache := ⟨kpg_Cache, khd_Cache, kpo_Cache, ksa_Cache⟩,
    n_Cache_rows := kn_Cache_rows,
    n_Cache_sets := kn_Cache_sets,
    n_Cache_size := kn_Cache_size,
    n_Cache_ways := kn_Cache_ways,
    C_Costs := C_Costs,
    gc_Costs := PySem.W.mg_of X G nc_Costs,
    cl_Costs := ⟨kpg_Costs, khd_Costs, kpo_Costs, ksa_Costs⟩,
    n_Costs_count := kn_Costs_count,
    n_Costs_div := kn_Costs_div,
    n_Costs_enter := kn_Costs_enter,
    n_Costs_fetch_hit := kn_Costs_fetch_hit,
    n_Costs_fetch_miss := kn_Costs_fetch_miss,
    n_Costs_finish := kn_Costs_finish,
    n_Costs_leave := kn_Costs_leave,
    n_Costs_load_hit := kn_Costs_load_hit,
    n_Costs_load_miss := kn_Costs_load_miss,
    n_Costs_mul := kn_Costs_mul,
    n_Costs_plain := kn_Costs_plain,
    n_Costs_port := kn_Costs_port,
    n_Costs_release := kn_Costs_release,
    n_Costs_store := kn_Costs_store,
    n_Costs_switch := kn_Costs_switch,
    n_Costs_taken := kn_Costs_taken,
    C_PlanError := C_PlanError,
    gc_PlanError := PySem.W.mg_of X G nc_PlanError,
    C_Core := C_Core,
    gc_Core := PySem.W.mg_of X G nc_Core,
    cl_Core := ⟨kpg_Core, khd_Core, kpo_Core, ksa_Core⟩,
    n_Core_at := kn_Core_at,
    n_Core_registers := kn_Core_registers,
    C_Board := C_Board,
    gc_Board := PySem.W.mg_of X G nc_Board,
    cl_Board := ⟨kpg_Board, khd_Board, kpo_Board, ksa_Board⟩,
    n_Board_code_cache := kn_Board_code_cache,
    n_Board_counters := kn_Board_counters,
    n_Board_data := kn_Board_data,
    n_Board_data_cache := kn_Board_data_cache,
    n_Board_inputs := kn_Board_inputs,
    n_Board_outputs := kn_Board_outputs,
    f_PlanError := f_PlanError,
    x_PlanError := { gC := PySem.W.mg_of X G nc_PlanError, noSuper := PySem.W.mg_none_of X G zs_super, noTop := zq_top, cls := ⟨_, _, _, _, _, _, _, _, _, _, _, _, _, _, _, xl_PlanError, xb_PlanError⟩, ini := xi_PlanError, sup := xs_PlanError, subV := xv_PlanError, mroS := xm_PlanError, third := zt_third, sa := xa_PlanError, ga := xg_PlanError, gg := xh_PlanError, noN := xn_PlanError, iC := xf_PlanError, tC := xt_PlanError, kC := xk_PlanError, exC := xe_PlanError, tyC := xy_PlanError, hdC := xd_PlanError, te := exm_own xe_PlanError xu_PlanError xy_PlanError xw_PlanError, fn := ⟨_, _, _, _, _, _, _, _, _, _, _, _, _, _, _, _, _, _, _, _, _, _, _, _, _, _, _, _, _, _, _, fun _ => ⟨_, rfl⟩, l_PlanError, d_PlanError, e_PlanError, g_PlanError, h_PlanError, i_PlanError⟩ },
    xd_PlanError := ⟨xu_PlanError, xg_PlanError, xh_PlanError, xe_PlanError, xc_PlanError, xp_PlanError, xq_PlanError, xo_PlanError⟩,
    xf_PlanError := ⟨xg_PlanError, xh_PlanError, xe_PlanError, xd_PlanError⟩,
    m_str := PySem.W.mg_none_of X G z_str,
    m_divmod := PySem.W.mg_none_of X G z_divmod,
    m_abs := PySem.W.mg_none_of X G z_abs,
    m_list := PySem.W.mg_none_of X G z_list,
    m_int := PySem.W.mg_none_of X G z_int,
    m_len := PySem.W.mg_none_of X G z_len,
    m_range := PySem.W.mg_none_of X G z_range,
    m_sum := PySem.W.mg_none_of X G z_sum,
    t_WORDS := t_WORDS,
    c_WORDS := PySem.W.mg_of X G v_WORDS,
    t_SIGN_BIT := t_SIGN_BIT,
    c_SIGN_BIT := PySem.W.mg_of X G v_SIGN_BIT,
    t_GREATEST_WORD := t_GREATEST_WORD,
    c_GREATEST_WORD := PySem.W.mg_of X G v_GREATEST_WORD,
    t_PIECE := t_PIECE,
    c_PIECE := PySem.W.mg_of X G v_PIECE,
    t_PIECE_DIGITS := t_PIECE_DIGITS,
    c_PIECE_DIGITS := PySem.W.mg_of X G v_PIECE_DIGITS,
    p_LINE_SIZES := p_LINE_SIZES,
    c_LINE_SIZES := PySem.W.mg_of X G v_LINE_SIZES,
    l_LINE_SIZES := ⟨_, w_LINE_SIZES, rfl, rfl⟩,
    q_LINE_SIZES := fun H => sqT_lit w_LINE_SIZES y_LINE_SIZES,
    t_MOST_WAYS := t_MOST_WAYS,
    c_MOST_WAYS := PySem.W.mg_of X G v_MOST_WAYS,
    t_MOST_SETS := t_MOST_SETS,
    c_MOST_SETS := PySem.W.mg_of X G v_MOST_SETS,
    t_GREATEST_COST := t_GREATEST_COST,
    c_GREATEST_COST := PySem.W.mg_of X G v_GREATEST_COST,
    p_TAKEN_AT_TIMES := p_TAKEN_AT_TIMES,
    c_TAKEN_AT_TIMES := PySem.W.mg_of X G v_TAKEN_AT_TIMES,
    l_TAKEN_AT_TIMES := ⟨_, w_TAKEN_AT_TIMES, rfl, rfl⟩,
    q_TAKEN_AT_TIMES := fun H => sqT_lit w_TAKEN_AT_TIMES y_TAKEN_AT_TIMES,
    p_ALWAYS_TAKEN := p_ALWAYS_TAKEN,
    c_ALWAYS_TAKEN := PySem.W.mg_of X G v_ALWAYS_TAKEN,
    l_ALWAYS_TAKEN := ⟨_, w_ALWAYS_TAKEN, rfl, rfl⟩,
    q_ALWAYS_TAKEN := fun H => sqT_lit w_ALWAYS_TAKEN y_ALWAYS_TAKEN,
    t_REGISTERS := t_REGISTERS,
    c_REGISTERS := PySem.W.mg_of X G v_REGISTERS,
    t_PORTS := t_PORTS,
    c_PORTS := PySem.W.mg_of X G v_PORTS,
    t_COUNTERS := t_COUNTERS,
    c_COUNTERS := PySem.W.mg_of X G v_COUNTERS,
    t_DATA_WORDS := t_DATA_WORDS,
    c_DATA_WORDS := PySem.W.mg_of X G v_DATA_WORDS,
    p_ACCESSES := p_ACCESSES,
    c_ACCESSES := PySem.W.mg_of X G v_ACCESSES,
    l_ACCESSES := ⟨_, w_ACCESSES, rfl, rfl⟩,
    q_ACCESSES := fun H => sqT_lit w_ACCESSES y_ACCESSES,
    t_RETURN_REGISTER := t_RETURN_REGISTER,
    c_RETURN_REGISTER := PySem.W.mg_of X G v_RETURN_REGISTER,
    t_LOW_HALF := t_LOW_HALF,
    c_LOW_HALF := PySem.W.mg_of X G v_LOW_HALF,
    p_OPERATORS := p_OPERATORS,
    c_OPERATORS := PySem.W.mg_of X G v_OPERATORS,
    e_OPERATORS := e_OPERATORS,
    n_OPERATORS := n_OPERATORS,
    kd_OPERATORS := ⟨u_OPERATORS, kl_OPERATORS, zq_OPERATORS⟩,
    t_OPERATORS_0 := t_OPERATORS_0,
    i_OPERATORS_0 := i_OPERATORS_0,
    t_OPERATORS_1 := t_OPERATORS_1,
    i_OPERATORS_1 := i_OPERATORS_1,
    t_OPERATORS_2 := t_OPERATORS_2,
    i_OPERATORS_2 := i_OPERATORS_2,
    t_OPERATORS_3 := t_OPERATORS_3,
    i_OPERATORS_3 := i_OPERATORS_3,
    t_OPERATORS_4 := t_OPERATORS_4,
    i_OPERATORS_4 := i_OPERATORS_4,
    t_OPERATORS_5 := t_OPERATORS_5,
    i_OPERATORS_5 := i_OPERATORS_5,
    t_OPERATORS_6 := t_OPERATORS_6,
    i_OPERATORS_6 := i_OPERATORS_6,
    t_OPERATORS_7 := t_OPERATORS_7,
    i_OPERATORS_7 := i_OPERATORS_7,
    t_OPERATORS_8 := t_OPERATORS_8,
    i_OPERATORS_8 := i_OPERATORS_8,
    t_OPERATORS_9 := t_OPERATORS_9,
    i_OPERATORS_9 := i_OPERATORS_9,
    t_OPERATORS_10 := t_OPERATORS_10,
    i_OPERATORS_10 := i_OPERATORS_10,
    t_OPERATORS_11 := t_OPERATORS_11,
    i_OPERATORS_11 := i_OPERATORS_11,
    t_OPERATORS_12 := t_OPERATORS_12,
    i_OPERATORS_12 := i_OPERATORS_12,
    t_OPERATORS_13 := t_OPERATORS_13,
    i_OPERATORS_13 := i_OPERATORS_13,
    t_OPERATORS_14 := t_OPERATORS_14,
    i_OPERATORS_14 := i_OPERATORS_14,
    t_OPERATORS_15 := t_OPERATORS_15,
    i_OPERATORS_15 := i_OPERATORS_15 }
theorem all_mk {l : PySem.W.OpenLaw} {w : World} {K : PySem.W.Frag} {mg : Str → Option Value} {fa : Addr} (T : Top l.prog w K mg) (hfa : mg "law" = some (.ref fa)) :
    ∃ fd : FuncData, (∀ (s : Shared) (v : Value), BindsTo s fd ⟨[v], []⟩ [("script", v)]) ∧ ∀ base : Heap, K.In base → base.Ns mainGlobals mg → FnOk l.prog w K mg base CX0 7 fa fd ["script"] (sp_law K) := by
  have e := hfa.symm.trans T.g_law
  cases e
  refine ⟨T.d_law, fun s v => ?_, fun base _ _ => ok_law T⟩
  obtain ⟨oc, od, kV, doc, pm, an, cdv, ct, osl, e, lk, hcd⟩ := T.F_law.ex
  rw [e]
  exact .of_eq rfl
end Mine
open PySem PySem.W PyProof.Rows
set_option maxHeartbeats 0 in
theorem PySem.Challenge.cw_deadbeat_k23_whole_steps_with_caches_holds : PySem.Challenge.rw_deadbeat_k23_whole_steps_with_caches.Holds := by
  w_on; o_law; k_head; (case hw => w_witness2)
  k_fill
  refine L2.walk_of (l := PySem.Challenge.rw_deadbeat_k23_whole_steps_with_caches) (n := 63) (k := 7) (x := "script") (CX := fun _ => L2.CX0) (sp := fun w => Mine.sp_law _) rfl (by decide) rfl ⟨rfl, by decide, by decide⟩ (fun w h Y => PySem.W.kIn_of Y) ?F (fun _ _ a ns hl _ hS => ⟨a, ns, rfl, hS, hl, fun _ => rfl⟩) (fun _ _ _ _ _ h => h)
  case F =>
    intro w mg fa h KX G hmg
    refine' Mine.all_mk (Mine.top_mk (P := PySem.Challenge.rw_deadbeat_k23_whole_steps_with_caches.prog) (w := w) KX G ?n_wrap ?n_signed ?n_combine ?n__holds ?n_alter ?n_decimal ?n__law_start ?n__law_draw ?n__check_costs ?n__check_miss ?n_instruction_cost ?n__execution_cost ?n__calculation_cost ?n_step ?n__access ?n__data_address ?n__branch ?n__jump ?n__work ?n__calculated ?n__law_sign ?n__law_calc ?n__law_operation ?n__law_instruction ?n__law_put ?n__law_move ?n__law_goal ?n__law_cost ?n__law_use ?n__law_address ?n__law_shape ?n__law_same ?n_law ?nc_Cache ?nc_Costs ?nc_PlanError ?nc_Core ?nc_Board ?l_wrap ?c_wrap ?k_wrap ?l_signed ?c_signed ?k_signed ?l_combine ?c_combine ?k_combine ?l__holds ?c__holds ?k__holds ?l_alter ?c_alter ?k_alter ?l_decimal ?c_decimal ?k_decimal ?l__law_start ?c__law_start ?k__law_start ?l__law_draw ?c__law_draw ?k__law_draw ?fi_Cache_init ?fn_Cache_init ?l_Cache_init ?c_Cache_init ?k_Cache_init ?fi_Cache_holds ?fn_Cache_holds ?l_Cache_holds ?c_Cache_holds ?k_Cache_holds ?fi_Cache_use ?fn_Cache_use ?l_Cache_use ?c_Cache_use ?k_Cache_use ?fi_Cache_read ?fn_Cache_read ?l_Cache_read ?c_Cache_read ?k_Cache_read ?fi_Cache_write ?fn_Cache_write ?l_Cache_write ?c_Cache_write ?k_Cache_write ?fi_Cache_duplicate ?fn_Cache_duplicate ?l_Cache_duplicate ?c_Cache_duplicate ?k_Cache_duplicate ?fi_Costs_init ?fn_Costs_init ?l_Costs_init ?kw_Costs_init_fetch_hit ?kw_Costs_init_fetch_miss ?kw_Costs_init_plain ?kw_Costs_init_mul ?kw_Costs_init_div ?kw_Costs_init_load_hit ?kw_Costs_init_load_miss ?kw_Costs_init_store ?kw_Costs_init_taken ?kw_Costs_init_count ?kw_Costs_init_port ?kw_Costs_init_release ?kw_Costs_init_switch ?kw_Costs_init_enter ?kw_Costs_init_leave ?kw_Costs_init_finish ?c_Costs_init ?k_Costs_init ?l__check_costs ?c__check_costs ?k__check_costs ?l__check_miss ?c__check_miss ?k__check_miss ?l_instruction_cost ?kw_instruction_cost_load_hit ?kw_instruction_cost_taken ?c_instruction_cost ?k_instruction_cost ?l__execution_cost ?c__execution_cost ?k__execution_cost ?l__calculation_cost ?c__calculation_cost ?k__calculation_cost ?fi_Core_init ?fn_Core_init ?l_Core_init ?c_Core_init ?k_Core_init ?fi_Core_put ?fn_Core_put ?l_Core_put ?c_Core_put ?k_Core_put ?fi_Board_init ?fn_Board_init ?l_Board_init ?c_Board_init ?k_Board_init ?fi_Board_take ?fn_Board_take ?l_Board_take ?c_Board_take ?k_Board_take ?l_step ?c_step ?k_step ?l__access ?c__access ?k__access ?l__data_address ?c__data_address ?k__data_address ?l__branch ?c__branch ?k__branch ?l__jump ?c__jump ?k__jump ?l__work ?c__work ?k__work ?l__calculated ?c__calculated ?k__calculated ?l__law_sign ?c__law_sign ?k__law_sign ?l__law_calc ?c__law_calc ?k__law_calc ?l__law_operation ?c__law_operation ?k__law_operation ?l__law_instruction ?c__law_instruction ?k__law_instruction ?l__law_put ?c__law_put ?k__law_put ?l__law_move ?c__law_move ?k__law_move ?l__law_goal ?c__law_goal ?k__law_goal ?l__law_cost ?c__law_cost ?k__law_cost ?l__law_use ?c__law_use ?k__law_use ?l__law_address ?c__law_address ?k__law_address ?l__law_shape ?c__law_shape ?k__law_shape ?l__law_same ?c__law_same ?k__law_same ?l_law ?c_law ?k_law ?kpg_Cache ?khd_Cache ?kpo_Cache ?ksa_Cache ?kmk_Cache ?kkc_Cache ?kn_Cache_rows ?kn_Cache_sets ?kn_Cache_size ?kn_Cache_ways ?kpg_Costs ?khd_Costs ?kpo_Costs ?ksa_Costs ?kmk_Costs ?kkc_Costs ?kn_Costs_count ?kn_Costs_div ?kn_Costs_enter ?kn_Costs_fetch_hit ?kn_Costs_fetch_miss ?kn_Costs_finish ?kn_Costs_leave ?kn_Costs_load_hit ?kn_Costs_load_miss ?kn_Costs_mul ?kn_Costs_plain ?kn_Costs_port ?kn_Costs_release ?kn_Costs_store ?kn_Costs_switch ?kn_Costs_taken ?kpg_Core ?khd_Core ?kpo_Core ?ksa_Core ?kmk_Core ?kkc_Core ?kn_Core_at ?kn_Core_registers ?kpg_Board ?khd_Board ?kpo_Board ?ksa_Board ?kmk_Board ?kkc_Board ?kn_Board_code_cache ?kn_Board_counters ?kn_Board_data ?kn_Board_data_cache ?kn_Board_inputs ?kn_Board_outputs ?zs_super ?zt_third ?zq_top ?xl_PlanError ?xb_PlanError ?xi_PlanError ?xs_PlanError ?xv_PlanError ?xm_PlanError ?xo_PlanError ?xa_PlanError ?xg_PlanError ?xh_PlanError ?xn_PlanError ?xc_PlanError ?xf_PlanError ?xt_PlanError ?xk_PlanError ?xe_PlanError ?xy_PlanError ?xd_PlanError ?xu_PlanError ?xw_PlanError ?xp_PlanError ?xq_PlanError ?l_PlanError ?d_PlanError ?e_PlanError ?g_PlanError ?h_PlanError ?i_PlanError ?z_str ?z_divmod ?z_abs ?z_list ?z_int ?z_len ?z_range ?z_sum ?v_WORDS ?v_SIGN_BIT ?v_GREATEST_WORD ?v_PIECE ?v_PIECE_DIGITS ?v_LINE_SIZES ?w_LINE_SIZES ?y_LINE_SIZES ?v_MOST_WAYS ?v_MOST_SETS ?v_GREATEST_COST ?v_TAKEN_AT_TIMES ?w_TAKEN_AT_TIMES ?y_TAKEN_AT_TIMES ?v_ALWAYS_TAKEN ?w_ALWAYS_TAKEN ?y_ALWAYS_TAKEN ?v_REGISTERS ?v_PORTS ?v_COUNTERS ?v_DATA_WORDS ?v_ACCESSES ?w_ACCESSES ?y_ACCESSES ?v_RETURN_REGISTER ?v_LOW_HALF ?v_OPERATORS ?u_OPERATORS ?kl_OPERATORS ?zq_OPERATORS ?i_OPERATORS_0 ?i_OPERATORS_1 ?i_OPERATORS_2 ?i_OPERATORS_3 ?i_OPERATORS_4 ?i_OPERATORS_5 ?i_OPERATORS_6 ?i_OPERATORS_7 ?i_OPERATORS_8 ?i_OPERATORS_9 ?i_OPERATORS_10 ?i_OPERATORS_11 ?i_OPERATORS_12 ?i_OPERATORS_13 ?i_OPERATORS_14 ?i_OPERATORS_15) hmg
    (case n_wrap => k_is); (case n_signed => k_is); (case n_combine => k_is); (case n__holds => k_is); (case n_alter => k_is); (case n_decimal => k_is); (case n__law_start => k_is); (case n__law_draw => k_is); (case n__check_costs => k_is); (case n__check_miss => k_is); (case n_instruction_cost => k_is); (case n__execution_cost => k_is); (case n__calculation_cost => k_is); (case n_step => k_is); (case n__access => k_is); (case n__data_address => k_is); (case n__branch => k_is); (case n__jump => k_is); (case n__work => k_is); (case n__calculated => k_is); (case n__law_sign => k_is); (case n__law_calc => k_is); (case n__law_operation => k_is); (case n__law_instruction => k_is); (case n__law_put => k_is); (case n__law_move => k_is); (case n__law_goal => k_is); (case n__law_cost => k_is); (case n__law_use => k_is); (case n__law_address => k_is); (case n__law_shape => k_is); (case n__law_same => k_is); (case n_law => k_is); (case nc_Cache => k_is); (case nc_Costs => k_is); (case nc_PlanError => k_is); (case nc_Core => k_is); (case nc_Board => k_is); (case l_wrap => k_is); (case c_wrap => k_is); (case k_wrap => k_is); (case l_signed => k_is); (case c_signed => k_is); (case k_signed => k_is); (case l_combine => k_is); (case c_combine => k_is); (case k_combine => k_is); (case l__holds => k_is); (case c__holds => k_is); (case k__holds => k_is); (case l_alter => k_is); (case c_alter => k_is); (case k_alter => k_is); (case l_decimal => k_is); (case c_decimal => k_is); (case k_decimal => k_is); (case l__law_start => k_is); (case c__law_start => k_is); (case k__law_start => k_is); (case l__law_draw => k_is); (case c__law_draw => k_is); (case k__law_draw => k_is); (case fi_Cache_init => k_is); (case fn_Cache_init => k_is); (case l_Cache_init => k_is); (case c_Cache_init => k_is); (case k_Cache_init => k_is); (case fi_Cache_holds => k_is); (case fn_Cache_holds => k_is); (case l_Cache_holds => k_is); (case c_Cache_holds => k_is); (case k_Cache_holds => k_is); (case fi_Cache_use => k_is); (case fn_Cache_use => k_is); (case l_Cache_use => k_is); (case c_Cache_use => k_is); (case k_Cache_use => k_is); (case fi_Cache_read => k_is); (case fn_Cache_read => k_is); (case l_Cache_read => k_is); (case c_Cache_read => k_is); (case k_Cache_read => k_is); (case fi_Cache_write => k_is); (case fn_Cache_write => k_is); (case l_Cache_write => k_is); (case c_Cache_write => k_is); (case k_Cache_write => k_is); (case fi_Cache_duplicate => k_is); (case fn_Cache_duplicate => k_is); (case l_Cache_duplicate => k_is); (case c_Cache_duplicate => k_is); (case k_Cache_duplicate => k_is); (case fi_Costs_init => k_is); (case fn_Costs_init => k_is); (case l_Costs_init => k_is); (case kw_Costs_init_fetch_hit => k_is); (case kw_Costs_init_fetch_miss => k_is); (case kw_Costs_init_plain => k_is); (case kw_Costs_init_mul => k_is); (case kw_Costs_init_div => k_is); (case kw_Costs_init_load_hit => k_is); (case kw_Costs_init_load_miss => k_is); (case kw_Costs_init_store => k_is); (case kw_Costs_init_taken => k_is); (case kw_Costs_init_count => k_is); (case kw_Costs_init_port => k_is); (case kw_Costs_init_release => k_is); (case kw_Costs_init_switch => k_is); (case kw_Costs_init_enter => k_is); (case kw_Costs_init_leave => k_is); (case kw_Costs_init_finish => k_is); (case c_Costs_init => k_is); (case k_Costs_init => k_is); (case l__check_costs => k_is); (case c__check_costs => k_is); (case k__check_costs => k_is); (case l__check_miss => k_is); (case c__check_miss => k_is); (case k__check_miss => k_is); (case l_instruction_cost => k_is); (case kw_instruction_cost_load_hit => k_is); (case kw_instruction_cost_taken => k_is); (case c_instruction_cost => k_is); (case k_instruction_cost => k_is); (case l__execution_cost => k_is); (case c__execution_cost => k_is); (case k__execution_cost => k_is); (case l__calculation_cost => k_is); (case c__calculation_cost => k_is); (case k__calculation_cost => k_is); (case fi_Core_init => k_is); (case fn_Core_init => k_is); (case l_Core_init => k_is); (case c_Core_init => k_is); (case k_Core_init => k_is); (case fi_Core_put => k_is); (case fn_Core_put => k_is); (case l_Core_put => k_is); (case c_Core_put => k_is); (case k_Core_put => k_is); (case fi_Board_init => k_is); (case fn_Board_init => k_is); (case l_Board_init => k_is); (case c_Board_init => k_is); (case k_Board_init => k_is); (case fi_Board_take => k_is); (case fn_Board_take => k_is); (case l_Board_take => k_is); (case c_Board_take => k_is); (case k_Board_take => k_is); (case l_step => k_is); (case c_step => k_is); (case k_step => k_is); (case l__access => k_is); (case c__access => k_is); (case k__access => k_is); (case l__data_address => k_is); (case c__data_address => k_is); (case k__data_address => k_is); (case l__branch => k_is); (case c__branch => k_is); (case k__branch => k_is); (case l__jump => k_is); (case c__jump => k_is); (case k__jump => k_is); (case l__work => k_is); (case c__work => k_is); (case k__work => k_is); (case l__calculated => k_is); (case c__calculated => k_is); (case k__calculated => k_is); (case l__law_sign => k_is); (case c__law_sign => k_is); (case k__law_sign => k_is); (case l__law_calc => k_is); (case c__law_calc => k_is); (case k__law_calc => k_is); (case l__law_operation => k_is); (case c__law_operation => k_is); (case k__law_operation => k_is); (case l__law_instruction => k_is); (case c__law_instruction => k_is); (case k__law_instruction => k_is); (case l__law_put => k_is); (case c__law_put => k_is); (case k__law_put => k_is); (case l__law_move => k_is); (case c__law_move => k_is); (case k__law_move => k_is); (case l__law_goal => k_is); (case c__law_goal => k_is); (case k__law_goal => k_is); (case l__law_cost => k_is); (case c__law_cost => k_is); (case k__law_cost => k_is); (case l__law_use => k_is); (case c__law_use => k_is); (case k__law_use => k_is); (case l__law_address => k_is); (case c__law_address => k_is); (case k__law_address => k_is); (case l__law_shape => k_is); (case c__law_shape => k_is); (case k__law_shape => k_is); (case l__law_same => k_is); (case c__law_same => k_is); (case k__law_same => k_is); (case l_law => k_is); (case c_law => k_is); (case k_law => k_is); (case kpg_Cache => k_is); (case khd_Cache => k_is); (case kpo_Cache => k_is); (case ksa_Cache => k_is); (case kmk_Cache => k_is); (case kkc_Cache => k_is); (case kn_Cache_rows => k_is); (case kn_Cache_sets => k_is); (case kn_Cache_size => k_is); (case kn_Cache_ways => k_is); (case kpg_Costs => k_is); (case khd_Costs => k_is); (case kpo_Costs => k_is); (case ksa_Costs => k_is); (case kmk_Costs => k_is); (case kkc_Costs => k_is); (case kn_Costs_count => k_is); (case kn_Costs_div => k_is); (case kn_Costs_enter => k_is); (case kn_Costs_fetch_hit => k_is); (case kn_Costs_fetch_miss => k_is); (case kn_Costs_finish => k_is); (case kn_Costs_leave => k_is); (case kn_Costs_load_hit => k_is); (case kn_Costs_load_miss => k_is); (case kn_Costs_mul => k_is); (case kn_Costs_plain => k_is); (case kn_Costs_port => k_is); (case kn_Costs_release => k_is); (case kn_Costs_store => k_is); (case kn_Costs_switch => k_is); (case kn_Costs_taken => k_is); (case kpg_Core => k_is); (case khd_Core => k_is); (case kpo_Core => k_is); (case ksa_Core => k_is); (case kmk_Core => k_is); (case kkc_Core => k_is); (case kn_Core_at => k_is); (case kn_Core_registers => k_is); (case kpg_Board => k_is); (case khd_Board => k_is); (case kpo_Board => k_is); (case ksa_Board => k_is); (case kmk_Board => k_is); (case kkc_Board => k_is); (case kn_Board_code_cache => k_is); (case kn_Board_counters => k_is); (case kn_Board_data => k_is); (case kn_Board_data_cache => k_is); (case kn_Board_inputs => k_is); (case kn_Board_outputs => k_is); (case zs_super => k_is); (case zt_third => k_is); (case zq_top => first | rfl | k_is | kx_is | ks_is | decide +kernel | kernel_rfl | with_unfolding_all rfl); (case xl_PlanError => k_is); (case xb_PlanError => first | rfl | k_is | kx_is | ks_is | decide +kernel | kernel_rfl | with_unfolding_all rfl); (case xi_PlanError => first | rfl | k_is | kx_is | ks_is | decide +kernel | kernel_rfl | with_unfolding_all rfl); (case xs_PlanError => first | rfl | k_is | kx_is | ks_is | decide +kernel | kernel_rfl | with_unfolding_all rfl); (case xv_PlanError => k_is); (case xm_PlanError => k_is); (case xo_PlanError => k_is); (case xa_PlanError => k_is); (case xg_PlanError => k_is); (case xh_PlanError => k_is); (case xn_PlanError => k_is); (case xc_PlanError => k_is); (case xf_PlanError => k_is); (case xt_PlanError => k_is); (case xk_PlanError => k_is); (case xe_PlanError => k_is); (case xy_PlanError => k_is); (case xd_PlanError => k_is); (case xu_PlanError => k_is); (case xw_PlanError => k_is); (case xp_PlanError => k_is); (case xq_PlanError => k_is); (case l_PlanError => k_is); (case d_PlanError => k_is); (case e_PlanError => first | rfl | k_is | kx_is | ks_is | decide +kernel | kernel_rfl | with_unfolding_all rfl); (case g_PlanError => first | rfl | k_is | kx_is | ks_is | decide +kernel | kernel_rfl | with_unfolding_all rfl); (case h_PlanError => first | rfl | k_is | kx_is | ks_is | decide +kernel | kernel_rfl | with_unfolding_all rfl); (case i_PlanError => k_is); (case z_str => k_is); (case z_divmod => k_is); (case z_abs => k_is); (case z_list => k_is); (case z_int => k_is); (case z_len => k_is); (case z_range => k_is); (case z_sum => k_is); (case v_WORDS => k_is); (case v_SIGN_BIT => k_is); (case v_GREATEST_WORD => k_is); (case v_PIECE => k_is); (case v_PIECE_DIGITS => k_is); (case v_LINE_SIZES => k_is); (case w_LINE_SIZES => k_is); (case y_LINE_SIZES => first | k_is | (repeat (first | exact .nil | refine .cons ⟨_, rfl⟩ ?_))); (case v_MOST_WAYS => k_is); (case v_MOST_SETS => k_is); (case v_GREATEST_COST => k_is); (case v_TAKEN_AT_TIMES => k_is); (case w_TAKEN_AT_TIMES => k_is); (case y_TAKEN_AT_TIMES => first | k_is | (repeat (first | exact .nil | refine .cons ⟨_, rfl⟩ ?_))); (case v_ALWAYS_TAKEN => k_is); (case w_ALWAYS_TAKEN => k_is); (case y_ALWAYS_TAKEN => first | k_is | (repeat (first | exact .nil | refine .cons ⟨_, rfl⟩ ?_))); (case v_REGISTERS => k_is); (case v_PORTS => k_is); (case v_COUNTERS => k_is); (case v_DATA_WORDS => k_is); (case v_ACCESSES => k_is); (case w_ACCESSES => k_is); (case y_ACCESSES => first | k_is | (repeat (first | exact .nil | refine .cons ⟨_, rfl⟩ ?_))); (case v_RETURN_REGISTER => k_is); (case v_LOW_HALF => k_is); (case v_OPERATORS => k_is); (case u_OPERATORS => k_is); (case kl_OPERATORS => (repeat (first | exact trivial | refine ⟨⟨_, _, rfl, rfl⟩, ?_⟩))); (case zq_OPERATORS => first | rfl | k_is | kx_is | ks_is | decide +kernel | kernel_rfl | with_unfolding_all rfl); (case i_OPERATORS_0 => k_is); (case i_OPERATORS_1 => k_is); (case i_OPERATORS_2 => k_is); (case i_OPERATORS_3 => k_is); (case i_OPERATORS_4 => k_is); (case i_OPERATORS_5 => k_is); (case i_OPERATORS_6 => k_is); (case i_OPERATORS_7 => k_is); (case i_OPERATORS_8 => k_is); (case i_OPERATORS_9 => k_is); (case i_OPERATORS_10 => k_is); (case i_OPERATORS_11 => k_is); (case i_OPERATORS_12 => k_is); (case i_OPERATORS_13 => k_is); (case i_OPERATORS_14 => k_is); (case i_OPERATORS_15 => k_is)
