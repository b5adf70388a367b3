import PyProof.Rows.All
import Wide.All
import OpenK.AllK
import Wide.FinOn
import PyProof.RulesMatch
import HandS.Base
import HandS.Call
import HandS.Words
import HandS.IsInst
import HandS.ForExc
import HandS.Zip
import HandS.Walk
import HandS.Strs
import KE.KExcSuper
import KE.KSuperObj
import KE.KSuper
import HandS.ForMost
import HandS.ExcInit
import HandS.ExcSuper
import HandS.ExcField
import HandS.ExcIs
import KE.KExcIs
import KE.KIsAll
import HandS.RaiseMore
import PyProof.InstEq
import HandS.TupSets
import PyProof.EqKinds
import PyProof.NeKinds
import HandS.Evl
import HandS.SortInts
import HandS.List
import HandS.DictComp
import HandS.More
import PyProof.RulesMatchSeq
import PyProof.Rows.MatchSeqLen
import PyProof.Rows.TupIter
import HandS.Defaults
import HandS.MakeKwOnly
import KE.KDictZip
import KE.KDictItemsList
import HandS.ListItems
import HandS.Style
import HandS.RevRange
import HandS.TupLe
import HandS.TryOnly
import HandS.Ends
import PyProof.ReprRoads
import PyProof.MeetsIn
import HandS.ListEq
import HandS.DeepEq
import PySem.Challenge.RW_deadbeat_k77_one_instruction_in_the_anal
import HandS.Wide
import HandS.WideBits
import HandS.EndBits
import HandS.StrMore
import HandS.IntHex
import HandS.ReSub
import HandS.Codes
import HandS.SetFor
import HandS.Conv
import HandS.SortRule
import HandS.Deep
set_option Elab.async false
set_option linter.all false
set_option maxRecDepth 100000
namespace L2
open PySem PySem.Spec PyProof.Rows
/-- the cases of a match over texts: a written text or whatever is left, and what is done -/
def tCases (z : Str) : List (Option Str × TS) → TS
  | [] => fun D σ H => D.nx σ H
  | (none, t) :: _ => t
  | (some c, t) :: r => fun D σ H => if z = c then t D σ H else tCases z r D σ H
def tMatch (te : TE) (l : List (Option Str × TS)) : TS := fun D σ H => te σ H fun x H1 => ∃ z : Str, x = .str z ∧ tCases z l D σ H1
inductive PCs (X : Cx) : List MatchCase → List (Option Str × TS) → Prop
  | nil : PCs X [] []
  | rest {body : List Stmt} {t : TS} {p : Pos} {r : List MatchCase} : PSs X body t → PCs X (⟨.MatchAs none none p, none, body⟩ :: r) [(none, t)]
  | text {body : List Stmt} {t : TS} {c : Str} {j : Nat} {p p2 : Pos} {r : List MatchCase} {l : List (Option Str × TS)} : PSs X body t → PCs X r l →
      PCs X (⟨.MatchValue (.Constant (.str c) j p) p2, none, body⟩ :: r) ((some c, t) :: l)
theorem run_cases {X : Cx} {z : Str} {u : Value} (ru : RelV (.str z) u) : ∀ {cs : List MatchCase} {l : List (Option Str × TS)}, PCs X cs l → ∀ (first : Bool) (pins : List (Addr × Obj)) (s : Shared) (σ : St) (H : Hp) (D : Ends), Inv X pins σ H s → tCases z l D σ H →
    wpAny (model X.prog X.w) X.A (matchCases cs X.env u first) (SP X pins D) X.xe s
  | _, _, .nil, first, pins, s, σ, H, D, I, h => wpAny_matchCases_nil ⟨σ, H, I, h⟩
  | _, _, .rest hb, first, pins, s, σ, H, D, I, h => by
    refine wpAny_matchCases_cons (wpAny_matchPattern_Capture ?_)
    exact wpAny_assignInOrder_none (hb.run pins s σ H D I h)
  | _, _, .text (c := c) (l := l) hb hr, first, pins, s, σ, H, D, I, h => by
    refine wpAny_matchCases_cons (wpAny_matchPattern_Value ?_)
    refine thn ((pe_str (X := X) (x := c)).run pins s σ H (fun v H' => v = .str c ∧ H' = H) I ⟨rfl, rfl⟩) fun v s1 hh => ?_
    obtain ⟨x, H1, I1, rx, ex, eH⟩ := hh
    subst ex
    subst eH
    refine thn (op_eq pins s1 σ H1 (.str z) (.str c) u v (fun y H' => y = .bl (decide (V.str z = V.str c)) ∧ H' = H1) I1 ru rx ⟨rfl, rfl, rfl⟩) fun y s2 hh => ?_
    obtain ⟨x, H2, I2, rx2, ex, eH⟩ := hh
    subst ex
    subst eH
    cases rx2
    refine wpAny_truthy_bool ?_
    have h' : (if z = c then _ else _) := h
    by_cases e : z = c
    · rw [if_pos e] at h'
      rw [decide_eq_true (by rw [e])]
      exact wpAny_assignInOrder_none (hb.run pins s2 σ H2 D I2 h')
    · rw [if_neg e] at h'
      rw [decide_eq_false (fun q => e (by injection q))]
      exact run_cases ru hr false pins s2 σ H2 D I2 h'
theorem ps_match {X : Cx} {e : Expr} {te : TE} {cs : List MatchCase} {l : List (Option Str × TS)} {pos : Pos} (he : PE X e te) (hc : PCs X cs l) : PS X (.Match e cs pos) (tMatch te l) := by
  refine ⟨fun pins s σ H D I h => wpAny_Match ?_⟩
  refine thn (he.run pins s σ H _ I h) fun u s1 hh => ?_
  obtain ⟨x, H1, I1, rx, z, ez, hz⟩ := hh
  subst ez
  exact run_cases rx hc true pins s1 σ H1 D I1 hz
/-- a module's constant: an int, a text, an object -/
theorem pe_gi {X : Cx} {x : Str} {n : Int} {t : Tok} {pos : Pos} (hg : Gl X x) (hm : X.mg x = some (.int n t)) (hd : (x == ("__debug__" : Str)) = false := by decide) : PE X (.Name x pos) (tC (.int n)) := pe_glob hg hm ⟨_, rfl⟩ hd
theorem pe_gs {X : Cx} {x : Str} {z : Str} {t : Tok} {pos : Pos} (hg : Gl X x) (hm : X.mg x = some (.str z t)) (hd : (x == ("__debug__" : Str)) = false := by decide) : PE X (.Name x pos) (tC (.str z)) := pe_glob hg hm ⟨_, rfl⟩ hd
theorem pe_gr {X : Cx} {x : Str} {a : Addr} {pos : Pos} (hg : Gl X x) (hm : X.mg x = some (.ref a)) (hd : (x == ("__debug__" : Str)) = false := by decide) : PE X (.Name x pos) (tC (.ref a)) := pe_glob (v := .ref a) hg hm rfl hd
/-- a built-in type as a value -/
theorem pe_ty {X : Cx} {x : Str} {T : String} {pos : Pos} (hg : Gl X x) (hm : X.mg x = none) (hv : bootBuiltins x = some (.type T)) (hn : x ≠ "__name__" := by decide) (hd : (x == ("__debug__" : Str)) = false := by decide) : PE X (.Name x pos) (tC (.ty T)) :=
  ⟨fun _ s _ H _ I h => ld_blt I hg hm hv ⟨.ty T, H, I, rfl, h⟩ hn hd⟩
/-- isinstance of a plain value and a built-in type -/
theorem isi_int {K : PySem.W.Frag} {H : Hp} {Q : VK} {i : Int} (q : Q (.bl true) H) : rIsi K [.int i, .ty "int"] H Q := ⟨_, _, _, _, true, rfl, .ty _, .base (.int _), kit_ty (by decide +kernel), q⟩
theorem isi_int_bool {K : PySem.W.Frag} {H : Hp} {Q : VK} {i : Int} (q : Q (.bl false) H) : rIsi K [.int i, .ty "bool"] H Q := ⟨_, _, _, _, false, rfl, .ty _, .base (.int _), kit_ty (by decide +kernel), q⟩
theorem Same.none {H H' : Hp} (e : Same H H') {p : Addr} (h : H' p = Option.none) : H p = Option.none := Same.free e h
theorem same_new {H : Hp} {p : Addr} {o : HO} (h : H p = Option.none) : Same H (upd H p o) := fun b x e => by
  rw [upd_ne (ne_of_none e h)]
  exact e
theorem or_test {t u : TT} {σ : St} {H : Hp} {a b : Bool} {Q : Bool → Hp → Prop} (h1 : ∀ Q' : Bool → Hp → Prop, Q' a H → t σ H Q') (h2 : a = false → ∀ Q' : Bool → Hp → Prop, Q' b H → u σ H Q') (q : Q (a || b) H) : tOr t u σ H Q := by
  refine h1 _ ?_
  cases a with
  | true => exact iteT q
  | false => exact iteF (h2 rfl _ q)
theorem and_test {t u : TT} {σ : St} {H : Hp} {a b : Bool} {Q : Bool → Hp → Prop} (h1 : ∀ Q' : Bool → Hp → Prop, Q' a H → t σ H Q') (h2 : a = true → ∀ Q' : Bool → Hp → Prop, Q' b H → u σ H Q') (q : Q (a && b) H) : tAnd t u σ H Q := by
  refine h1 _ ?_
  cases a with
  | true => exact iteT (h2 rfl _ q)
  | false => exact iteF q
theorem if_or {t u : TT} {a b : Bool} {A B : TS} {D : Ends} {σ : St} {H : Hp} (h1 : ∀ Q' : Bool → Hp → Prop, Q' a H → t σ H Q') (h2 : a = false → ∀ Q' : Bool → Hp → Prop, Q' b H → u σ H Q') (q : if (a || b) = true then A D σ H else B D σ H) : tIfS (tOr t u) A B D σ H := or_test h1 h2 q
theorem if_and {t u : TT} {a b : Bool} {A B : TS} {D : Ends} {σ : St} {H : Hp} (h1 : ∀ Q' : Bool → Hp → Prop, Q' a H → t σ H Q') (h2 : a = true → ∀ Q' : Bool → Hp → Prop, Q' b H → u σ H Q') (q : if (a && b) = true then A D σ H else B D σ H) : tIfS (tAnd t u) A B D σ H := and_test h1 h2 q
theorem Same.off {H H1 : Hp} {D : Addr} {x : HO} (k : Same H H1) (n : H D = Option.none) : Same H (upd H1 D x) := fun b y e => by
  rw [upd_ne (ne_of_none e n)]
  exact k b y e
theorem Same.seqT {K : PySem.W.Frag} {H H' : Hp} {a : Addr} {xs : List V} (e : Same H H') (h : SqT K H a xs) : SqT K H' a xs := by
  rcases h with h | h
  · rcases h with h | ⟨o, h⟩
    · exact .inl (.inl (e _ _ h))
    · exact .inl (.inr ⟨o, e _ _ h⟩)
  · exact .inr h
/-- a def that may raise, called where it does not -/
theorem pass_no {X : Cx} : Passes (L2.CX X.prog X.w) X (fun _ _ _ => False) := fun _ _ _ _ _ _ _ c => by
  obtain ⟨_, _, _, _, _, _, _, _, _, _, _, _, z⟩ := c
  exact z.elim
def rListOf (K : PySem.W.Frag) : List V → Hp → VK → Prop := fun xs H Q => ∃ p ys, xs = [V.ref p] ∧ (SqL K H p ys ∨ SqT K H p ys) ∧ ∀ l, H l = Option.none → Q (.ref l) (upd H l (.lst ys))
theorem if_t {b : Bool} {A B : Prop} (h : b = true) (q : A) : if b = true then A else B := by
  rw [if_pos h]
  exact q
theorem if_f {b : Bool} {A B : Prop} (h : b = false) (q : B) : if b = true then A else B := by
  rw [if_neg (by rw [h]; exact Bool.noConfusion)]
  exact q
/-- a tuple of the written part, as it stands there -/
theorem sqT_lit {K : PySem.W.Frag} {p : Addr} {dd : Option Addr} {us : Array Value} {n : Nat} {sl : Array (Option Value)} {xs : List V} {H : Hp} (w : K.lookup p = some ⟨.type "tuple", dd, .seq us n, sl⟩) (y : Vals xs us.toList) (hl : xs.length ≤ sizeLine := by decide) : SqT K H p xs :=
  .inr ⟨_, us, n, w, rfl, rfl, Nat.le_trans (Nat.le_of_eq (by rw [← Array.length_toList]; exact (Paired.length y).symm)) hl, y⟩
end L2

set_option Elab.async false
set_option linter.all false
set_option maxRecDepth 100000
set_option maxHeartbeats 4000000
/-! # An error of the program's own: its maker calls that of ValueError with a text, then keeps one value -/
namespace PySem
namespace Errs
open PySem.W PySem.Calls PyProof.Rows PySem.HandSPX
/-! ### the text of the maker -/
def eA (fld : Str) (p1 p2 : Pos) : Arguments :=
  { posonlyargs := [], args := [⟨"self", none, p1⟩, ⟨fld, none, p2⟩], vararg := none, kwonlyargs := [], kw_defaults := [], kwarg := none, defaults := [] }
def eB (fld : Str) (parts : List Expr) (mp : Pos) (q1 q2 q3 q4 q5 q6 q7 q8 q9 : Pos) : List Stmt :=
  [.Expr (.Call (.Attribute (.Call (.Name "super" q1) [] [] q2) "__init__" q3) [.JoinedStr parts mp] [] q4) q5,
   .Assign [.Attribute (.Name "self" q6) fld q7] (.Name fld q8) q9]
def eS (fld : Str) (ex : List (Str × NameKind)) : Scope :=
  { kind := .function, names := [(PySem.Str.ofString "self", .local), (fld, .local), (PySem.Str.ofString "__class__", .free), (PySem.Str.ofString "super", .globalImplicit)] ++ ex, isGenerator := false, isCoroutine := false, more := [] }
/-- all is kept but the slots of the frames at fs -/
structure KeepF (fs : List Addr) (h h' : Heap) : Prop where
  keep : ∀ b o, b ∉ fs → h.get? b = some o → h'.get? b = some o
  slot : ∀ b o, h.get? b = some o → ∃ sl, h'.get? b = some { o with slots := sl }
theorem KeepF.of {fs : List Addr} {h h' : Heap} (k : ∀ b o, h.get? b = some o → h'.get? b = some o) : KeepF fs h h' := ⟨fun b o _ e => k b o e, fun b o e => ⟨o.slots, k b o e⟩⟩
theorem KeepF.of_un {fs : List Addr} {h h' : Heap} {H' : L2.Hp} (u : L2.Un fs [] (fun _ => none) H' h h') : KeepF fs h h' :=
  ⟨fun b o n e => u.keep b o e rfl n (by simp), fun b o e => u.any e rfl (by simp)⟩
/-- the message comes to some text; what stood is kept -/
def MsgOk (P : Program) (w : World) (K : Frag) (mg : Str → Option Value) (base : Heap) (lv : Nat) (ex : List (Str × NameKind)) (parts : List Expr) (mp : Pos) (fld : Str) (v : Value) : Prop :=
  ∀ (A : Around) (outer : List Env) (E : Value → Shared → Prop) (s : Shared) (env : Env) (m : Str → Option Value) (Q : Value → Shared → Prop),
    env.scope = eS fld ex → env.globals = mainGlobals → env.builtins = builtinsNs → L2.Room lv A → L2.Env0 P w K mg base A outer s (fun _ => none) →
    s.heap.Ns env.locals m → m fld = some v → (∀ u s', s'.os = s.os → AllBare s'.gens → KeepF (L2.frs outer) s.heap s'.heap → Q u s') →
    wpAny (model P w) A (eval (.JoinedStr parts mp) env) Q E s
def SupEq (parts : List Expr) (mp q1 q2 q3 q4 : Pos) : Prop :=
  ∀ env : Env, ∃ pl : Sem Bool, eval (.Call (.Attribute (.Call (.Name "super" q1) [] [] q2) "__init__" q3) [.JoinedStr parts mp] [] q4) env = (do
    let ov ← attributeBase (.Call (.Name "super" q1) [] [] q2) "__init__" env (eval (.Call (.Name "super" q1) [] [] q2) env)
    standAt q3.atName
    let __x ← holding [ov] (getMethod ov "__init__" pl)
    match __x with
    | (f, first) => callWith q4 f first (backTo q4 (starEach [.JoinedStr parts mp] env)) [])
/-- what the written part says of the class at C and of its maker at fI -/
structure ErrTxt (P : Program) (K : Frag) (mg : Str → Option Value) (nm fld : Str) (ex : List (Str × NameKind)) (parts : List Expr) (mp : Pos) (C fI : Addr) : Prop where
  gC : mg nm = some (.ref C)
  noSuper : mg "super" = none
  noTop : (List.lookup (PySem.Str.ofString "super") P.main.scope.names).isSome = false
  cls : ∃ nm q N bs bm sn sub ab col dd k0 k1 k2 k3 k5, K.lookup C = some (excClassObj nm q C N bs bm true sn sub ab col dd k0 k1 k2 k3 k5 "ValueError.__new__") ∧ refsVE bm = true
  ini : excInitIn K C veTail "ValueError.__new__" = true
  sup : ks_superIn K C C "__init__" = some (some (.builtin "ValueError.__init__"))
  subV : subIn K (.ref C) (.type "ValueError") = some true
  mroS : mroIn K C (.ref C) = some true
  third : nsIn K cStatics "thirdparty.any" = some none
  sa : findIn K (.ref C) "__setattr__" = some (some (.builtin "object.__setattr__"))
  ga : findIn K (.ref C) "__getattribute__" = some (some (.builtin "BaseException.__getattribute__"))
  gg : findIn K (.ref C) "__getattr__" = some none
  noN : findIn K (.ref C) fld = some none
  iC : findIn K (.ref C) "__init__" = some (some (.ref fI))
  tC : typeIn K (.ref fI) = some (.type "function")
  kC : keepIn K (.ref C) = true
  exC : subIn K (.ref C) (.type "BaseException") = some true
  tyC : typeIn K (.ref C) = some (.type "type")
  hdC : hasDictIn K C = true
  te : exmOne K (.ref C) (.ref C) = some true
  fn : ∃ (oc : Value) (od : Option Addr) (doc pm : Value) (an : Option Addr) (ct : Value) (osl : Array (Option Value)) (qual : Str) (cda cc : Addr)
      (ccl : Value) (cdd : Option Addr) (ccs : Array (Option Value)) (vs : Array Value) (tq tf : Tok) (file : Str) (cl : Value) (cld : Option Addr) (csl : Array (Option Value))
      (p1 p2 q1 q2 q3 q4 q5 q6 q7 q8 q9 : Pos), SupEq parts mp q1 q2 q3 q4 ∧
    K.lookup fI = some ⟨oc, od, .func (ksFn "__init__" qual (eA fld p1 p2) (eB fld parts mp q1 q2 q3 q4 q5 q6 q7 q8 q9) (eS fld ex) .none .none doc pm an (.ref cda) ct cc), osl⟩ ∧
    K.lookup cda = some ⟨ccl, cdd, .fields vs, ccs⟩ ∧ vs[1]? = some (.str qual tq) ∧ vs[2]? = some (.str file tf) ∧ (P.main.file == file) = true ∧
    K.lookup cc = some ⟨cl, cld, .cell (some (.ref C)), csl⟩
/-- the heap without the object at x -/
def without (h : Heap) (x : Addr) : Heap := { h with objs := h.objs.setIfInBounds x { cls := .none, data := .freed } }
theorem without_size (h : Heap) (x : Addr) : (without h x).objs.size = h.objs.size := by simp [without]
theorem without_at (h : Heap) (x : Addr) : (without h x).get? x = none := by
  unfold without Heap.get?
  by_cases e : x < h.objs.size
  · simp [Array.getElem?_setIfInBounds, e]
  · simp [Array.getElem?_setIfInBounds, e]
theorem without_ne (h : Heap) (x b : Addr) (hb : b ≠ x) : (without h x).get? b = h.get? b := by
  unfold without Heap.get?
  simp [Array.getElem?_setIfInBounds, Ne.symm hb]
/-- the heap below L without the object at x -/
def cutH (h : Heap) (L x : Addr) : Heap := { h with objs := (h.objs.extract 0 L).setIfInBounds x { cls := .none, data := .freed } }
theorem cut_size (h : Heap) (L x : Addr) : (cutH h L x).objs.size ≤ L := by simp [cutH]; omega
theorem cut_at (h : Heap) (L x : Addr) : (cutH h L x).get? x = none := by
  unfold cutH Heap.get?
  by_cases e : x < (h.objs.extract 0 L).size
  · rw [Array.getElem?_setIfInBounds_self_of_lt e]
  · have z : ((h.objs.extract 0 L).setIfInBounds x { cls := .none, data := .freed })[x]? = none := by
      rw [Array.getElem?_eq_none_iff]; simp at e ⊢; omega
    rw [z]
theorem cut_big (h : Heap) (L x b : Addr) (hb : L ≤ b) : (cutH h L x).get? b = none := Heap.get?_none_of_le (Nat.le_trans (cut_size h L x) hb)
theorem cut_lt (h : Heap) (L x b : Nat) (hb : b < L) (hx : b ≠ x) : (cutH h L x).get? b = h.get? b := by
  unfold cutH Heap.get?
  show (match ((h.objs.extract 0 L).setIfInBounds x { cls := .none, data := .freed })[b]? with | some ⟨_, _, .freed, _⟩ => none | o => o) = _
  rw [Array.getElem?_setIfInBounds_ne (Ne.symm hx)]
  have z : (h.objs.extract 0 L)[b]? = h.objs[b]? := by
    rw [Array.getElem?_extract]
    by_cases q : b < h.objs.size
    · rw [if_pos (by omega)]; simp
    · rw [if_neg (by omega)]
      exact (Array.getElem?_eq_none_iff.mpr (by omega)).symm
  rw [z]
  rfl
/-- what the maker leaves of a fresh exception at x; fs: the callers' frames -/
structure InitEnd (fs : List Addr) (fld : Str) (h h' : Heap) (x C dx : Addr) (v : Value) : Prop where
  keep : ∀ b o, b ≠ x → b ∉ fs → h.get? b = some o → h'.get? b = some o
  slot : ∀ b o, b ≠ x → h.get? b = some o → ∃ sl, h'.get? b = some { o with slots := sl }
  obj : ∃ t1 : Addr, h'.get? x = some { cls := .ref C, dict := some dx, data := .fields #[.ref t1, .none, .none, .none, .bool false, .none] }
  dbig : h.objs.size ≤ dx
  dne : dx ≠ x
  ns : h'.Ns1 dx (fun y => if y = fld then some v else none)
/-- a made error -/
structure OwnMade (fs : List Addr) (fld : Str) (h h' : Heap) (e C d : Addr) (v : Value) : Prop where
  keep : KeepF fs h h'
  new : h.objs.size ≤ e
  obj : ∃ oe vs, h'.get? e = some oe ∧ oe.cls = .ref C ∧ oe.dict = some d ∧ oe.data = .fields vs ∧ vs[1]? = some .none
  dbig : h.objs.size ≤ d
  dne : d ≠ e
  ns : h'.Ns1 d (fun y => if y = fld then some v else none)
theorem ld1 {M : Model} {A : Around} {E : Value → Shared → Prop} {s : Shared} {env : Env} {m : Str → Option Value} {x : Str} {pos : Pos} {v : Value} {Q : Value → Shared → Prop}
    (hn : s.heap.Ns env.locals m) (hv : m x = some v) (h : Q v s) (hk : env.scope.kind = .function) (hl : env.kindOf x = some .local) (hd : (x == ("__debug__" : Str)) = false) :
    wpAny M A (eval (.Name x pos) env) Q E s := wpAny_Name (wpAny_loadName_local hk hl hn hv h) hd
/-- the facts of the field's name -/
structure FldOk (fld : Str) (ex : List (Str × NameKind)) (parts : List Expr) (mp : Pos) : Prop where
  lkF : List.lookup fld (eS fld ex).names = some .local
  lkS : List.lookup ("self" : Str) (eS fld ex).names = some .local
  lkC : List.lookup ("__class__" : Str) (eS fld ex).names = some .free
  lkU : List.lookup ("super" : Str) (eS fld ex).names = some .globalImplicit
  dbg : (fld == ("__debug__" : Str)) = false
  noc : ∀ y ∈ (eS fld ex).names, y.2 ≠ .cell
  bf : ∀ x v : Value, List.lookup fld [(("self" : Str), x), (fld, v)].reverse = some v
  bs : ∀ x v : Value, List.lookup ("self" : Str) [(("self" : Str), x), (fld, v)].reverse = some x
  star : ∀ env : Env, starEach [.JoinedStr parts mp] env = (false, eval (.JoinedStr parts mp) env) :: starEach [] env
  bnd : ∀ (s : Shared) (x v : Value) (q : Str) (p1 p2 : Pos) (b : List Stmt) (doc pm cd ct : Value) (an : Option Addr) (cc : Addr),
    BindsTo s (ksFn "__init__" q (eA fld p1 p2) b (eS fld ex) .none .none doc pm an cd ct cc) ⟨[x, v], []⟩ [(("self" : Str), x), (fld, v)]
theorem env0_none {P : Program} {w : World} {K : Frag} {mg : Str → Option Value} {base : Heap} {A : Around} {outer : List Env} {s : Shared} {H : L2.Hp} (e : L2.Env0 P w K mg base A outer s H) :
    L2.Env0 P w K mg base A outer s (fun _ => none) :=
  ⟨e.frames, e.mod, fun b o q => ⟨(e.bs b o q).1, rfl⟩, e.bsz, e.funs, fun _ _ => rfl, fun a o q => (by cases q), e.bare⟩
section
variable {prog : Program} {w : World} {A : Around} {R : Result → Shared → Prop} {s : Shared} {K : Frag} {mg : Str → Option Value} {base : Heap} {lv : Nat} {outer : List Env} {nm fld : Str} {ex : List (Str × NameKind)} {parts : List Expr} {mp : Pos} {C fI : Addr}
theorem err_init (T : ErrTxt prog K mg nm fld ex parts mp C fI) (G : FldOk fld ex parts mp) {x t0 : Addr} {v : Value} (M : MsgOk prog w K mg base lv ex parts mp fld v)
    (e0 : L2.Env0 prog w K mg base A outer s (fun _ => none)) (hx : s.heap.get? x = some (excO C t0)) (hnx : K.lookup x = none) (hbx : base.get? x = none) (hr : L2.Room (lv + 1) A)
    (hq : ∀ s' dx, s'.os = s.os → AllBare s'.gens → InitEnd (L2.frs outer) fld s.heap s'.heap x C dx v → R (.ok (.ret .none)) s') :
    codeAny (model prog w) A (.call (.ref fI) ⟨[.ref x, v], []⟩) R s := by
  have X : K.In s.heap := e0.mod.kin.keeps fun b o e => (e0.bs b o e).1
  have hlim : s.heap.NoLimit := e0.mod.nolimit.keeps fun b o e => (e0.bs b o e).1
  have hg : s.heap.Ns mainGlobals mg := e0.mod.glob.keeps fun b o e => (e0.bs b o e).1
  obtain ⟨mb, hb0, hmb0⟩ := e0.mod.blt
  have hb : s.heap.Ns builtinsNs mb := hb0.keeps fun b o e => (e0.bs b o e).1
  have hmb : mb "super" = some (.type "super") := hmb0 _ (by decide)
  obtain ⟨oc, od, doc, pm, an, ct, osl, qual, cda, cc, ccl, cdd, ccs, vs, tq, tf, file, cl, cld, csl, p1, p2, q1, q2, q3, q4, q5, q6, q7, q8, q9, hev, ho, hcd, hvq, hvf, hfile, hcell⟩ := T.fn
  obtain ⟨nm, q, N, bs, bm, sn, sub, ab, col, dd, k0, k1, k2, k3, k5, hC, hbm⟩ := T.cls
  have hcl : clsIn K C = some { name := nm, bases := bs, mro := .ref C :: bm, ns := N, qualname := q, hasDict := true, slotNames := sn, subclasses := sub, abstract := ab, collection := col, hasDel := false } := by unfold clsIn; rw [hC] <;> rfl
  refine ks_codeAny_call_defAt (binds := [("self", .ref x), (fld, v)]) hr.depth (X _ _ ho) rfl hlim ⟨cda, _, vs, tq, rfl, X _ _ hcd, rfl, hvq⟩ rfl (G.bnd _ _ _ _ _ _ _ _ _ _ _ _ _) G.noc ?_ ?_ rfl rfl rfl
  · intro y hy
    simp only [List.mem_cons, List.not_mem_nil, or_false] at hy
    rcases hy with rfl | rfl
    · exact G.lkS
    · exact G.lkF
  intro h₁ hn k
  have X₁ : K.In h₁ := X.keeps k
  have hx₁ := k _ _ hx
  have hxL : x < s.heap.objs.size := Heap.lt_size hx
  have X₀ : K.In (without s.heap x) := fun a o e => by
    have ne : a ≠ x := fun z => by rw [z, hnx] at e; cases e
    rw [without_ne _ _ _ ne]; exact X a o e
  obtain ⟨env, henv⟩ : ∃ env, env = callEnv (ksFn "__init__" qual (eA fld p1 p2) (eB fld parts mp q1 q2 q3 q4 q5 q6 q7 q8 q9) (eS fld ex) .none .none doc pm an (.ref cda) ct cc) s.heap.objs.size fI := ⟨_, rfl⟩
  obtain ⟨pl, hpl⟩ := hev (callEnv (ksFn "__init__" qual (eA fld p1 p2) (eB fld parts mp q1 q2 q3 q4 q5 q6 q7 q8 q9) (eS fld ex) .none .none doc pm an (.ref cda) ct cc) s.heap.objs.size fI)
  refine ks_wpAt_execs_cons (ks_wpAt_Expr_any (ks_wpAt_MethodCall (he := hpl) (ks_wpAt_super_base G.lkU G.lkC (by decide) (f := fI) rfl (k _ _ (X _ _ ho)) rfl rfl rfl (k _ _ (X _ _ hcd)) rfl hvf hfile T.noTop ?_)))
  refine ks_loadName_global rfl G.lkU (loadGlobal_builtin (hg.keeps k) T.noSuper (hb.keeps k) hmb ⟨rfl, ?_⟩)
  refine wpAny_loadName_free rfl G.lkC (c := cc) (v := .ref C) rfl ⟨_, k _ _ (X _ _ hcell), rfl⟩ ?_
  refine wpAny_loadName_local rfl G.lkS hn (G.bs _ _) ?_
  refine ks_wpAny_isType_cls (k _ _ (X _ _ hC)) rfl ⟨rfl, ?_⟩
  refine ks_wpAny_call_super (k _ _ (X _ _ hC)) rfl hx₁ rfl (fun c e => by cases e) (looks_mroIn X₁ T.mroS) fun h₂ hso k₂ => ?_
  have zL : s.heap.objs.size < h₁.objs.size := hn.lt
  have F2 : Fr (without s.heap x) s.heap.objs.size h₂ (fun y => List.lookup y [(("self" : Str), Value.ref x), (fld, v)].reverse) :=
    ⟨hn.keeps k₂, fun b o e => by
      by_cases hb : b = x
      · rw [hb, without_at] at e; cases e
      · rw [without_ne _ _ _ hb] at e; exact k₂ _ _ (k _ _ e), by rw [without_size]; exact Nat.le_refl _⟩
  have N2 : News (without s.heap x) s.heap.objs.size h₂ [(h₁.objs.size, ks_superObj C x C), (x, excObj C t0 none .none)] := by
    intro p hp
    simp only [List.mem_cons, List.not_mem_nil, or_false] at hp
    rcases hp with rfl | rfl
    · refine ⟨hso, Nat.ne_of_gt zL, ?_⟩
      rw [without_ne _ _ _ (Nat.ne_of_gt (Nat.lt_trans hxL zL))]
      cases e : s.heap.get? h₁.objs.size with
      | none => rfl
      | some o => exact absurd (Heap.lt_size e) (Nat.not_lt.mpr (Nat.le_of_lt zL))
    · exact ⟨k₂ _ _ hx₁, Nat.ne_of_lt hxL, without_at _ _⟩
  refine kxs_method kxs_ValueError F2 X₀ N2 List.mem_cons_self (.of_exc0 N2 (List.mem_cons_of_mem _ List.mem_cons_self)) T.third T.sup T.subV (by decide) fun u h₃ F3 N3 lt3 => ?_
  refine kxs_callWith1 N3 List.mem_cons_self (spliced_more ?_ (G.star _)) (G.star _) rfl
  rw [← henv]
  have k3 : ∀ b o, b ≠ x → s.heap.get? b = some o → h₃.get? b = some o := fun b o hb e => F3.keep b o (by rw [without_ne _ _ _ hb]; exact e)
  have kb : ∀ b o, base.get? b = some o → h₃.get? b = some o := fun b o e => k3 b o (fun z => by rw [z, hbx] at e; cases e) (e0.bs b o e).1
  have fne : ∀ b ∈ L2.frs outer, b ≠ x := fun b hb z => by
    obtain ⟨_, o, ho', hf⟩ := e0.funs.mem (b := b) hb
    rw [z, hx] at ho'; cases ho'
    exact hf _ rfl
  have funs3 : h₃.FunFrames base outer := e0.funs.of_keeps fun b o e hf => by
    refine ⟨o, k3 b o (fun z => ?_) e, rfl⟩
    rw [z, hx] at e; cases e
    exact hf _ rfl
  have hL3 : base.get? s.heap.objs.size = none := Heap.get?_none_of_le e0.bsz
  have efr : env.frame = some s.heap.objs.size := by rw [henv] <;> rfl
  have elo : env.locals = s.heap.objs.size := by rw [henv] <;> rfl
  have ens : h₃.Ns env.locals (fun y => List.lookup y [(("self" : Str), Value.ref x), (fld, v)].reverse) := by rw [elo]; exact F3.ns
  have e3 : ∀ tk, L2.Env0 prog w K mg base (A.deeper env) (env :: outer) { s with heap := h₃, toks := tk } (fun _ => none) := fun tk =>
    ⟨Around.frames_deeper e0.frames, e0.mod, fun b o e => ⟨kb b o e, rfl⟩, Nat.le_trans e0.bsz (Nat.le_of_lt F3.ns.lt), .cons (by rw [henv]; intro z; cases z) efr (by rw [← elo]; exact ens) hL3 funs3, fun _ _ => rfl, fun a o q => (by cases q), e0.bare⟩
  refine M (A.deeper env) (env :: outer) _ _ env _ _ (by rw [henv] <;> rfl) (by rw [henv] <;> rfl) (by rw [henv] <;> rfl) (hr.deeper env) (e3 _) ens (G.bf _ _) fun um s4 os4 bare4 K4 => spliced_none ?_
  have efs : L2.frs (env :: outer) = s.heap.objs.size :: L2.frs outer := by unfold L2.frs; rw [List.filterMap_cons, efr]
  rw [efs] at K4
  obtain ⟨h4, g4, d4, t4, o4⟩ := s4
  obtain rfl : o4 = s.os := os4
  -- what stands beside the frames
  have nf : ∀ p ∈ (u, kxs_mw "ValueError.__init__" x) :: [(h₁.objs.size, ks_superObj C x C), (x, excObj C t0 none .none)], p.1 ∉ s.heap.objs.size :: L2.frs outer := by
    intro p hp z
    rcases List.mem_cons.mp z with z | z
    · exact (N3 p hp).2.1 z
    · obtain ⟨_, o, ho', hf⟩ := e0.funs.mem (b := p.1) z
      have lt := Heap.lt_size ho'
      simp only [List.mem_cons, List.not_mem_nil, or_false] at hp
      rcases hp with rfl | rfl | rfl
      · exact absurd (Nat.lt_trans (Nat.lt_trans lt zL) (lt3 _ List.mem_cons_self)) (Nat.lt_irrefl _)
      · exact absurd (Nat.lt_trans lt zL) (Nat.lt_irrefl _)
      · exact fne _ z rfl
  have F4 : Fr (cutH h4 s.heap.objs.size x) s.heap.objs.size h4 (fun y => List.lookup y [(("self" : Str), Value.ref x), (fld, v)].reverse) := by
    refine ⟨?_, fun b o e => ?_, cut_size _ _ _⟩
    · obtain ⟨o', es', ep', ho', r'⟩ := F3.ns
      obtain ⟨sl, z⟩ := K4.slot _ _ ho'
      exact ⟨_, es', ep', z, r'⟩
    · by_cases hb : b = x
      · rw [hb, cut_at] at e; cases e
      · by_cases hl : b < s.heap.objs.size
        · rw [cut_lt _ _ _ _ hl hb] at e; exact e
        · rw [cut_big _ _ _ _ (Nat.le_of_not_lt hl)] at e; cases e
  have N4 : News (cutH h4 s.heap.objs.size x) s.heap.objs.size h4 ((u, kxs_mw "ValueError.__init__" x) :: [(h₁.objs.size, ks_superObj C x C), (x, excObj C t0 none .none)]) := by
    intro p hp
    refine ⟨K4.keep _ _ (nf p hp) (N3 p hp).1, (N3 p hp).2.1, ?_⟩
    simp only [List.mem_cons, List.not_mem_nil, or_false] at hp
    rcases hp with rfl | rfl | rfl
    · exact cut_big _ _ _ _ (Nat.le_of_lt (Nat.lt_trans zL (lt3 _ List.mem_cons_self)))
    · exact cut_big _ _ _ _ (Nat.le_of_lt zL)
    · exact cut_at _ _ _
  have old4 : ∀ b o, b ≠ x → b ∉ L2.frs outer → s.heap.get? b = some o → h4.get? b = some o := fun b o hb hf e =>
    K4.keep b o (fun z => (List.mem_cons.mp z).elim (fun z => absurd (Heap.lt_size e) (by rw [z]; exact Nat.lt_irrefl _)) hf) (k3 b o hb e)
  have base4 : ∀ b o, base.get? b = some o → b ≠ x ∧ b < s.heap.objs.size ∧ h4.get? b = some o := fun b o e => by
    have hb : b ≠ x := fun z => by rw [z, hbx] at e; cases e
    have e' := (e0.bs b o e).1
    exact ⟨hb, Heap.lt_size e', old4 b o hb (fun z => by have := (e0.funs.mem (b := b) z).1; rw [e] at this; cases this) e'⟩
  have X4 : K.In (cutH h4 s.heap.objs.size x) := fun a o e => by
    obtain ⟨p, q, r⟩ := base4 a o (e0.mod.kin a o e)
    rw [cut_lt _ _ _ _ q p]; exact r
  refine ⟨kxs_at N4 List.mem_cons_self, ?_⟩
  refine kxs_call (bmB := veTail) (newId := "ValueError.__new__") (dv := none) (c2 := .none) (t := t0) F4 X4 N4 F.excBase_ValueError T.ini List.mem_cons_self (.tail ?_ (.tail ?_ (.head ?_))) ?_ fun t' h₅ F5 N5 lt5 => ?_
  · exact Nat.ne_of_gt (lt3 _ (List.mem_cons_of_mem _ List.mem_cons_self))
  · exact Nat.ne_of_gt (Nat.lt_trans hxL zL)
  · intro p hp; cases hp
  · rw [sizeLine_eq]; exact (by decide : 1 ≤ 16777216)
  rw [henv] at *
  refine wpAt_of_wpAny ?_
  have hx5 : h₅.get? x = some (excO C t') := (N5 (x, excObj C t' none .none) (by simp)).1
  have c5 : ∀ b o, b ≠ x → b < s.heap.objs.size → h4.get? b = some o → h₅.get? b = some o := fun b o hb hl e => F5.keep b o (by rw [cut_lt _ _ _ _ hl hb]; exact e)
  have k5 : ∀ b o, b ≠ x → b ∉ L2.frs outer → s.heap.get? b = some o → h₅.get? b = some o := fun b o hb hf e => c5 b o hb (Heap.lt_size e) (old4 b o hb hf e)
  have s5 : ∀ b o, b ≠ x → s.heap.get? b = some o → ∃ sl, h₅.get? b = some { o with slots := sl } := fun b o hb e => by
    obtain ⟨sl, z⟩ := K4.slot b o (k3 b o hb e)
    exact ⟨sl, c5 b _ hb (Heap.lt_size e) z⟩
  have X5 : K.In h₅ := fun a o e => by
    obtain ⟨p, q, r⟩ := base4 a o (e0.mod.kin a o e)
    exact c5 a o p q r
  refine wpAny_execs_cons (plainObj_wpAny_Assign_Attribute ?_)
  refine ld1 (v := v) F5.ns (G.bf _ _) (ld1 (v := .ref x) F5.ns (G.bs _ _) ?_ rfl G.lkS (by decide)) rfl G.lkF G.dbg
  refine set_plain X5 (ox := excO C t') (od := none) ⟨hx5, rfl, rfl, trivial⟩ T.sa ?_
  refine exc_osa X5 hx5 hcl (show refsVE (.ref C :: bm) = true from hbm) rfl T.noN (fun h₆ tk₆ dx k₆ dn dne hx₆ hn₆ => ?_)
  exact wpAny_execs_nil (hq _ dx rfl bare4 ⟨fun b o hb hf e => k₆ b o hb (k5 b o hb hf e), fun b o hb e => let ⟨sl, z⟩ := s5 b o hb e; ⟨sl, k₆ b _ hb z⟩, ⟨t', hx₆⟩, Nat.le_of_lt (Nat.lt_of_lt_of_le F5.ns.lt dn), dne, hn₆⟩)
theorem err_made (T : ErrTxt prog K mg nm fld ex parts mp C fI) (G : FldOk fld ex parts mp) {v : Value} (M : MsgOk prog w K mg base lv ex parts mp fld v)
    (e0 : L2.Env0 prog w K mg base A outer s (fun _ => none)) (hr : L2.Room (lv + 2) A)
    (hq : ∀ s' e d, s'.os = s.os → AllBare s'.gens → OwnMade (L2.frs outer) fld s.heap s'.heap e C d v → R (.ok (.ret (.ref e))) s') :
    codeAny (model prog w) A (.call (.ref C) ⟨[v], []⟩) R s := by
  obtain ⟨nm, q, N, bs, bm, sn, sub, ab, col, dd, k0, k1, k2, k3, k5, hC, hbm⟩ := T.cls
  obtain ⟨hp, g, dr, tk, os⟩ := s
  have X : K.In hp := e0.mod.kin.keeps fun b o e => (e0.bs b o e).1
  have k : ∀ b o, hp.get? b = some o → ((hp.push (kdv_tup [v])).push (excO C hp.objs.size)).get? b = some o := fun b o e => Heap.get?_push_of_some _ (Heap.get?_push_of_some _ e)
  have hget : ((hp.push (kdv_tup [v])).push (excO C hp.objs.size)).get? (hp.objs.size + 1) = some (excO C hp.objs.size) := by heap_get
  have hnx : K.lookup (hp.objs.size + 1) = none := by
    cases e : K.lookup (hp.objs.size + 1) with
    | none => rfl
    | some o =>
      have z : hp.get? (hp.objs.size + 1) = some o := X _ _ e
      exact absurd (Nat.lt_of_succ_lt (Heap.lt_size z)) (Nat.lt_irrefl _)
  have hbx : base.get? (hp.objs.size + 1) = none := Heap.get?_none_of_le (Nat.le_trans e0.bsz (Nat.le_succ _))
  have sz : ((hp.push (kdv_tup [v])).push (excO C hp.objs.size)).objs.size = hp.objs.size + 1 + 1 := by
    first
      | rfl
      | simp [Heap.size_push]
  refine call_own F.excBase_ValueError (fun X => refsVE_contains X bm hbm) (X _ _ hC) (looks_findIn X T.iC) (fun self => bind_fn X self T.tC) (by rw [sizeLine_eq]; exact (by decide : 1 ≤ 16777216)) ?_
  have e1 := e0.make C [v] []
  have e2 : L2.Env0 prog w K mg base (A.under (.builtin "type.__call__" ⟨.ref C :: [v], []⟩)) outer ⟨(hp.push (kdv_tup [v])).push (excO C hp.objs.size), g, dr, tk, os⟩ (fun _ => none) :=
    ⟨e1.frames, e1.mod, fun b o e => ⟨k b o (e1.bs b o e).1, rfl⟩, by show base.objs.size ≤ ((hp.push (kdv_tup [v])).push (excO C hp.objs.size)).objs.size; rw [sz]; exact Nat.le_trans e1.bsz (Nat.le_trans (Nat.le_succ _) (Nat.le_succ _)),
      e1.funs.of_keeps fun b o e _ => ⟨o, k b o e, rfl⟩, fun _ _ => rfl, fun a o q => (by cases q), e1.bare⟩
  refine err_init (s := ⟨(hp.push (kdv_tup [v])).push (excO C hp.objs.size), g, dr, tk, os⟩) T G M e2 hget hnx hbx (hr.make C [v] []) fun s' dx os' bare' ⟨k', s', ⟨t1, hx⟩, dn, dne, hns⟩ => ?_
  have z : hp.objs.size + 1 + 1 ≤ dx := by rw [← sz]; exact dn
  refine ⟨rfl, hq _ (hp.objs.size + 1) dx os' bare' ⟨⟨fun b o hf e => k' b o (Nat.ne_of_lt (Nat.lt_succ_of_lt (Heap.lt_size e))) hf (k b o e), fun b o e => s' b o (Nat.ne_of_lt (Nat.lt_succ_of_lt (Heap.lt_size e))) (k b o e)⟩, Nat.le_succ _, ⟨_, _, hx, rfl, rfl, rfl, rfl⟩, Nat.le_trans (Nat.le_trans (Nat.le_succ _) (Nat.le_succ _)) z, dne, hns⟩⟩
end
end Errs
end PySem

set_option Elab.async false
set_option linter.all false
set_option maxRecDepth 100000
set_option maxHeartbeats 4000000
namespace L2
open PySem PySem.Spec PyProof.Rows
theorem relO_fld {v : V} {v' : Value} (fld : Str) (r : RelV v v') (f : Str) : RelO (List.lookup f [(fld, v)]) (if f = fld then some v' else none) := by
  by_cases hw : f = fld
  · subst hw
    rw [if_pos rfl]
    have q : List.lookup f [(f, v)] = some v := by simp [List.lookup]
    rw [q]
    exact r
  · rw [if_neg hw]
    have qw : (f == fld) = false := by simpa using hw
    have q2 : List.lookup f [(fld, v)] = none := by simp [List.lookup, qw]
    rw [q2]
    trivial
/-- the message of this value is written, whatever stands for it -/
def MsgV (X : Cx) (lv : Nat) (ex : List (Str × NameKind)) (parts : List Expr) (mp : Pos) (fld : Str) (v : V) : Prop := ∀ u, RelV v u → PySem.Errs.MsgOk X.prog X.w X.K X.mg X.base lv ex parts mp fld u
section
variable {X : Cx} {nm fld : Str} {ex : List (Str × NameKind)} {parts : List Expr} {mp : Pos} {C fI : Addr} {lv : Nat}
/-- NAME(e) -/
def tMkErr (Mv : V → Prop) (fld : Str) (C : Addr) (ta : TA) : St → Hp → XK → Prop := fun σ H Q => ta σ H fun vs H1 => ∃ v, vs = [v] ∧ Mv v ∧ ∀ d, H1 d = none → Q (.ref C) (some d) (upd H1 d (.xd [(fld, v)]))
theorem pmk_err {a : Expr} {ta : TA} {p pos : Pos} {k : Nat} (T : PySem.Errs.ErrTxt X.prog X.K X.mg nm fld ex parts mp C fI) (G : PySem.Errs.FldOk fld ex parts mp) (hr : Room k X.A) (ha : PA X [a] ta) (hlv : lv + 2 ≤ k := by decide) (hg : Gl X nm := by rfl)
    (hdb : (nm == PySem.Str.ofString "__debug__") = false := by decide)
    (he : starEach (a :: []) X.env = (false, eval a X.env) :: starEach [] X.env := by rfl) (hpl : (backTo pos (starEach [] X.env)).any (·.1) = false := by rfl) :
    PMk X (.Call (.Name nm p) [a] [] pos) (tMkErr (MsgV X lv ex parts mp fld) fld C ta) := by
  intro pins s σ H Q I h
  refine wpAny_Call_Name_kw (ld_glob I hg T.gC ?_ hdb)
  refine PySem.W.callWith_K (h₀ := X.base) I.ok.mod.kin T.kC (thn (ha.run pos pins s σ H _ I h) fun us s1 hh => ?_) he hpl
  obtain ⟨vs, H1, I1, r1, v, ev, mv, q1⟩ := hh
  subst ev
  refine ⟨I1.kIn, ?_⟩
  cases r1 with
  | cons rv rn =>
    rename_i v' us'
    cases rn
    show wpAny _ _ (call (.ref C) [v']) _ _ _
    have e0 := PySem.Errs.env0_none I1.env0
    refine wpAny_call (PySem.Errs.err_made T G (mv v' rv) e0 (hr.mono hlv) fun s' e d os' bare' M => ?_)
    obtain ⟨hp, g, dr, tk, os⟩ := s1
    obtain ⟨h', g', dr', tk', os2⟩ := s'
    obtain rfl : os2 = os := os'
    show MkP X pins σ Q (.ref e) ⟨h', g', dr', tk', os2⟩
    obtain ⟨oe, fv, hoe, hc, hd, hdat, h1⟩ := M.obj
    have hns := M.ns
    have hnew : hp.objs.size ≤ e := M.new
    have hdbig : hp.objs.size ≤ d := M.dbig
    have fe : H1 e = none := I1.hok.fresh hnew
    have fd : H1 d = none := I1.hok.fresh hdbig
    obtain ⟨G', g1, g2⟩ := restrict h' fun b => decide (b ≠ e)
    have gk : ∀ b, b ≠ e → G'.get? b = h'.get? b := fun b hb => g1 b (decide_eq_true hb)
    have ge : G'.get? e = none := g2 e (by simp)
    have ne : ∀ b o, hp.get? b = some o → b ≠ e := fun b o q => Nat.ne_of_lt (Nat.lt_of_lt_of_le (Heap.lt_size q) hnew)
    have nd : ∀ b o, hp.get? b = some o → b ≠ d := fun b o q => Nat.ne_of_lt (Nat.lt_of_lt_of_le (Heap.lt_size q) hdbig)
    have k1 : ∀ b o, b ∉ frs X.stack → hp.get? b = some o → G'.get? b = some o := fun b o hf q => (gk b (ne b o q)).trans (M.keep.keep b o hf q)
    have k2 : ∀ b o, hp.get? b = some o → ∃ sl, G'.get? b = some { o with slots := sl } := fun b o q => let ⟨sl, z⟩ := M.keep.slot b o q; ⟨sl, (gk b (ne b o q)).trans z⟩
    have ob : ObjOk X.prog X.w (upd H1 d (.xd [(fld, v)])) G' d (.xd [(fld, v)]) :=
      ⟨_, hns.at (fun o q => (gk d M.dne).trans q), fun f => relO_fld fld rv f⟩
    have tne : ∀ b o, H1 b = some o → b ≠ d := fun b o q z => by rw [z, fd] at q; cases q
    have un : Un (frs X.stack) [] H1 (upd H1 d (.xd [(fld, v)])) hp G' :=
      ⟨fun b o q _ hf _ => k1 b o hf q, fun b o q _ _ _ => k2 b o q, fun b o q n _ => by rw [upd_ne (nd b o q)]; exact n, fun b o q _ => let ⟨sl, z⟩ := k2 b o q; ⟨_, z⟩,
        fun b xs q => by rw [upd_ne (tne b _ q)]; exact q, fun b u xs q => by rw [upd_ne (tne b _ q)]; exact q, fun b ps q => ⟨#[], by rw [upd_ne (tne b _ q), q]; simp⟩⟩
    have free := I1.stkFree
    have hok : HOk X.prog X.w (upd H1 d (.xd [(fld, v)])) G' := fun b u q => by
      by_cases hb : b = d
      · subst hb; rw [upd_same] at q; cases q; exact ob
      · rw [upd_ne hb] at q
        refine (I1.hok b u q).stay (fun c o hc z => k1 c o (fun hf => ?_) z) (fun c z => by rw [upd_ne (tne c _ z)]; exact z) fun c xs z => by rw [upd_ne (tne c _ z)]; exact z
        have fc := free c hf
        rcases hc with rfl | hc
        · rw [q] at fc; cases fc
        · rw [hc] at fc; cases fc
    have J : Inv X pins σ (upd H1 d (.xd [(fld, v)])) ⟨G', g', dr', tk', os2⟩ := I1.call (g' := g') (t' := tk') (d' := dr') (ch := []) un hok bare' (fun _ z => nomatch z)
    refine ⟨e, oe, fv, ⟨G', g', dr', tk', os2⟩, _, .ref C, some d, rfl, J, fun b o q => ?_, ge, hoe, ⟨hc, hd⟩, hdat, h1, ?_, rfl, bare', raises_own T.exC T.tyC, q1 d fd⟩
    · by_cases hb : b = e
      · have q' : G'.get? b = some o := q
        rw [hb, ge] at q'; cases q'
      · exact (gk b hb).symm.trans q
    · rw [upd_ne (Ne.symm M.dne)]
      exact fe
/-- raise NAME(e) -/
def tRaiseErr (Mv : V → Prop) (fld : Str) (C : Addr) (W : WX) (ta : TA) : TS := fun _ σ H => tMkErr Mv fld C ta σ H fun cls d H' => W cls d σ H'
theorem ps_raiseErr {a : Expr} {ta : TA} {W : WX} {p pos pos2 : Pos} {k : Nat} (hc : X.calm = true) (T : PySem.Errs.ErrTxt X.prog X.K X.mg nm fld ex parts mp C fI) (G : PySem.Errs.FldOk fld ex parts mp) (hr : Room k X.A) (tk : Takes X W) (ha : PA X [a] ta) (hlv : lv + 2 ≤ k := by decide) (hg : Gl X nm := by rfl)
    (hdb : (nm == PySem.Str.ofString "__debug__") = false := by decide)
    (he : starEach (a :: []) X.env = (false, eval a X.env) :: starEach [] X.env := by rfl) (hpl : (backTo pos (starEach [] X.env)).any (·.1) = false := by rfl) :
    PS X (.Raise (some (.Call (.Name nm p) [a] [] pos)) none pos2) (tRaiseErr (MsgV X lv ex parts mp fld) fld C W ta) := ps_raise hc tk (pmk_err T G hr ha hlv hg hdb he hpl)
/-! ### the messages -/
/-- decimal(e) in a message -/
theorem dec_part {f : Addr} {fd : FuncData} {sp : Sp} {v : V} {u : Value} {p1 p2 p3 : Pos} (F : FnOk X.prog X.w X.K X.mg X.base CX0 lv f fd ["n"] sp) (gf : X.mg "decimal" = some (.ref f)) (kp : PySem.W.keepIn X.K (.ref f) = true) (hb : Binds X.K fd ["n"] [])
    (hsp : ∀ (Q : VK) (E : XK), (∀ z H', z.length ≤ 1000000 → Q (.str z) H') → sp [v] (fun _ => none) Q E) (r : RelV v u)
    {A : Around} {outer : List Env} {E : Value → Shared → Prop} {s : Shared} {env : Env} {m : Str → Option Value} {Q : Value → Shared → Prop}
    (hs : env.scope = PySem.Errs.eS fld [("decimal", .globalImplicit)]) (hgl : env.globals = mainGlobals) (hr : Room lv A) (e0 : Env0 X.prog X.w X.K X.mg X.base A outer s (fun _ => none))
    (hn : s.heap.Ns env.locals m) (hm : m fld = some u) (h1 : List.lookup fld (PySem.Errs.eS fld [("decimal", .globalImplicit)]).names = some .local) (h2 : List.lookup ("decimal" : Str) (PySem.Errs.eS fld [("decimal", .globalImplicit)]).names = some .globalImplicit)
    (hd : (fld == ("__debug__" : Str)) = false) (hst : starEach [.Name fld p2] env = (false, eval (.Name fld p2) env) :: starEach [] env) (hpl : (backTo p3 (starEach [] env)).any (·.1) = false)
    (h : ∀ z tk s', z.length ≤ 1000000 → s'.os = s.os → AllBare s'.gens → PySem.Errs.KeepF (frs outer) s.heap s'.heap → Q (.str z tk) s') :
    wpAny (model X.prog X.w) A (eval (.Call (.Name "decimal" p1) [.Name fld p2] [] p3) env) Q E s := by
  have kin : X.K.In s.heap := e0.mod.kin.keeps fun b o e => (e0.bs b o e).1
  have hkd : env.scope.kind = .function := by rw [hs] <;> rfl
  refine wpAny_Call_Name_kw (Calls.Name_function_global hkd (by show env.scope.names.lookup _ = _; rw [hs]; exact h2) (Calls.loadGlobal_global (by rw [hgl]; exact e0.mod.glob.keeps fun b o e => (e0.bs b o e).1) gf ?_) (by decide))
  refine PySem.W.callWith_K (h₀ := X.base) e0.mod.kin kp (PyProof.Rows.spliced_more ?_ hst) hst hpl
  refine PySem.Errs.ld1 hn hm ?_ hkd (by show env.scope.names.lookup _ = _; rw [hs]; exact h1) hd
  refine PyProof.Rows.spliced_none ⟨kin, ?_⟩
  have b0 := hb s [u] kin rfl
  refine wpAny_call (codeAny_mono (F.run A outer s _ ⟨[u], []⟩ [u] [v] _ (fun _ _ _ => False) hr e0 b0 (.cons r .nil) (hsp (fun x H' => ∃ z, x = .str z ∧ z.length ≤ 1000000) _ fun z H' hz => ⟨z, rfl, hz⟩)) fun res s' got => ?_)
  match res, got with
  | .error e, got => exact False.elim got
  | .ok (.ret y), got =>
    obtain ⟨x, H', os', bare', un, hok, rv, z, rfl, hz⟩ := got
    obtain ⟨tk, rfl⟩ := rv
    exact h z tk s' hz os' bare' (PySem.Errs.KeepF.of_un un)
  | .ok .next, got => cases got
  | .ok .brk, got => cases got
  | .ok .cont, got => cases got
theorem msg_dec2 {f : Addr} {fd : FuncData} {sp : Sp} {v : V} {a : Str} {k1 : Nat} {p1 p2 p3 p4 p5 mp : Pos} (F : FnOk X.prog X.w X.K X.mg X.base CX0 lv f fd ["n"] sp) (gf : X.mg "decimal" = some (.ref f)) (kp : PySem.W.keepIn X.K (.ref f) = true) (hb : Binds X.K fd ["n"] [])
    (hsp : ∀ (Q : VK) (E : XK), (∀ z H', z.length ≤ 1000000 → Q (.str z) H') → sp [v] (fun _ => none) Q E)
    (h1 : List.lookup fld (PySem.Errs.eS fld [("decimal", .globalImplicit)]).names = some .local) (h2 : List.lookup ("decimal" : Str) (PySem.Errs.eS fld [("decimal", .globalImplicit)]).names = some .globalImplicit) (hd : (fld == ("__debug__" : Str)) = false)
    (hst : ∀ env : Env, starEach [.Name fld p2] env = (false, eval (.Name fld p2) env) :: starEach [] env) (hl : a.length ≤ 100) :
    MsgV X lv [("decimal", .globalImplicit)] [.Constant (.str a) k1 p4, .FormattedValue (.Call (.Name "decimal" p1) [.Name fld p2] [] p3) (-1) none p5] mp fld v := by
  intro u r A outer E s env m Q hs hgl hbl hr e0 hn hm hQ
  refine JoinedStr_many (joinParts_cons ?_)
  refine wpAny_Constant_str ?_
  have l0 : Str.empty.length = 0 := rfl
  refine ⟨by rw [sizeLine_eq, Str.length_append]; omega, ?_⟩
  refine joinParts_cons (FormattedValue_plain ?_)
  refine dec_part F gf kp hb hsp r hs hgl hr (e0 := ⟨e0.frames, e0.mod, e0.bs, e0.bsz, e0.funs, e0.frf, e0.hok, e0.bare⟩) hn hm h1 h2 hd (hst _) rfl fun z tk s' hz os' bare' K' => ?_
  refine formatField_str (fun t' tk' => ?_) (by rw [sizeLine_eq]; omega)
  refine ⟨by rw [sizeLine_eq, Str.length_append, Str.length_append]; omega, ?_⟩
  refine joinParts_nilE (joinParts_nil ?_ ?_)
  · exact hQ _ _ os' bare' K'
  · rw [sizeLine_eq, Str.length_append, Str.length_append]; omega
theorem msg_dec3 {f : Addr} {fd : FuncData} {sp : Sp} {v : V} {a b : Str} {k1 k2 : Nat} {p1 p2 p3 p4 p5 p6 mp : Pos} (F : FnOk X.prog X.w X.K X.mg X.base CX0 lv f fd ["n"] sp) (gf : X.mg "decimal" = some (.ref f)) (kp : PySem.W.keepIn X.K (.ref f) = true) (hb : Binds X.K fd ["n"] [])
    (hsp : ∀ (Q : VK) (E : XK), (∀ z H', z.length ≤ 1000000 → Q (.str z) H') → sp [v] (fun _ => none) Q E)
    (h1 : List.lookup fld (PySem.Errs.eS fld [("decimal", .globalImplicit)]).names = some .local) (h2 : List.lookup ("decimal" : Str) (PySem.Errs.eS fld [("decimal", .globalImplicit)]).names = some .globalImplicit) (hd : (fld == ("__debug__" : Str)) = false)
    (hst : ∀ env : Env, starEach [.Name fld p2] env = (false, eval (.Name fld p2) env) :: starEach [] env) (hl : a.length ≤ 100 ∧ b.length ≤ 100) :
    MsgV X lv [("decimal", .globalImplicit)] [.Constant (.str a) k1 p4, .FormattedValue (.Call (.Name "decimal" p1) [.Name fld p2] [] p3) (-1) none p5, .Constant (.str b) k2 p6] mp fld v := by
  intro u r A outer E s env m Q hs hgl hbl hr e0 hn hm hQ
  refine JoinedStr_many (joinParts_cons ?_)
  refine wpAny_Constant_str ?_
  have l0 : Str.empty.length = 0 := rfl
  refine ⟨by rw [sizeLine_eq, Str.length_append]; omega, ?_⟩
  refine joinParts_cons (FormattedValue_plain ?_)
  refine dec_part F gf kp hb hsp r hs hgl hr (e0 := ⟨e0.frames, e0.mod, e0.bs, e0.bsz, e0.funs, e0.frf, e0.hok, e0.bare⟩) hn hm h1 h2 hd (hst _) rfl fun z tk s' hz os' bare' K' => ?_
  refine formatField_str (fun t' tk' => ?_) (by rw [sizeLine_eq]; omega)
  refine ⟨by rw [sizeLine_eq, Str.length_append, Str.length_append]; omega, ?_⟩
  refine joinParts_consE (joinParts_cons ?_)
  refine wpAny_Constant_str ?_
  refine ⟨by rw [sizeLine_eq, Str.length_append, Str.length_append, Str.length_append]; omega, ?_⟩
  refine joinParts_nilE (joinParts_nil ?_ ?_)
  · exact hQ _ _ os' bare' K'
  · rw [sizeLine_eq, Str.length_append, Str.length_append, Str.length_append]; omega
theorem msg_str2 {a : Str} {k1 : Nat} {p1 p2 p3 mp : Pos} {z : Str} (h1 : List.lookup fld (PySem.Errs.eS fld []).names = some .local) (hd : (fld == ("__debug__" : Str)) = false)
    (hl : a.length ≤ 100) (ht : z.length ≤ 10000) :
    MsgV X lv [] [.Constant (.str a) k1 p1, .FormattedValue (.Name fld p2) (-1) none p3] mp fld (.str z) := by
  intro u r
  obtain ⟨tk, rfl⟩ := r
  intro A outer E s env m Q hs hgl hbl hr e0 hn hm hQ
  refine JoinedStr_many (joinParts_cons ?_)
  refine wpAny_Constant_str ?_
  have l0 : Str.empty.length = 0 := rfl
  refine ⟨by rw [sizeLine_eq, Str.length_append]; omega, ?_⟩
  refine joinParts_cons (FormattedValue_plain ?_)
  refine PySem.Errs.ld1 hn hm ?_ (by rw [hs] <;> rfl) (by show env.scope.names.lookup _ = _; rw [hs]; exact h1) hd
  refine formatField_str (fun t' tk' => ?_) (by rw [sizeLine_eq]; omega)
  refine ⟨by rw [sizeLine_eq, Str.length_append, Str.length_append]; omega, ?_⟩
  refine joinParts_nilE (joinParts_nil ?_ ?_)
  · exact hQ _ _ rfl e0.bare (.of fun _ _ e => e)
  · rw [sizeLine_eq, Str.length_append, Str.length_append]; omega
/-! ### isinstance(e, CLASS) of a caught error that keeps values -/
structure ExcD (K : PySem.W.Frag) (D : Addr) : Prop where
  cl : (PySem.W.clsIn K D).isSome = true
  ga : PySem.W.findIn K (.ref D) "__getattribute__" = some (some (.builtin "BaseException.__getattribute__"))
  gg : PySem.W.findIn K (.ref D) "__getattr__" = some none
  ex : PySem.W.subIn K (.ref D) (.type "BaseException") = some true
  cc : PySem.W.findIn K (.ref D) "__class__" = some (some (.builtin "object.__class__"))
  sp : PySem.W.specialIn K (.builtin "object.__class__") "__get__" = some (some (.builtin "getset_descriptor.__get__"))
  tk : PySem.W.takesIn K (.builtin "object.__class__") = some true
  mo : PySem.W.mroIn K D (.type "object") = some true
def rIsD (K : PySem.W.Frag) (D : Addr) (a : Addr) (cls : Value) (d : Option Addr) : List V → Hp → VK → Prop := fun xs H Q =>
  ∃ c cv b dd fl, xs = [.ref a, c] ∧ cls = .ref D ∧ d = some dd ∧ (∀ u, RelV c u → u = cv) ∧ PySem.W.kitOne K (.ref D) cv = some b ∧ H dd = some (.xd fl) ∧ Q (.bl b) H
theorem call_isD {X : Cx} {a D : Addr} {cls : Value} {do_ : Option Addr} {oe : Obj} {pn : List (Addr × Obj)} (C : ExcD X.K D) (hz : Zc cls do_ oe) (hf : ∃ vs, oe.data = .fields vs) :
    CallR (X.suite a ((a, oe) :: pn)) (.builtin "isinstance") (rIsD X.K D a cls do_) := by
  intro pins s σ H xs us Q I r h
  obtain ⟨c, cv, b, d, fl, rfl, rfl, rfl, hcv, e, hd, q⟩ := h
  cases r with
  | cons rx rr =>
    cases rr with
    | cons rt rn =>
      cases rn
      obtain rfl := hcv _ rt
      obtain rfl : _ = Value.ref a := rx
      obtain ⟨ha, _⟩ := I.pin (a, oe) (List.mem_append_left _ List.mem_cons_self)
      obtain ⟨vs, hv⟩ := hf
      have hx : ObjOk X.prog X.w H s.heap d (.xd fl) := I.hok d _ hd
      obtain ⟨mA, hns, hr⟩ := hx
      obtain ⟨od, ho, hl⟩ := lookIn_ns hns
      have J : PySem.W.InstAt s.heap a oe D (some od) := ⟨ha, hz.1, by unfold PySem.W.notCls; rw [hv] <;> rfl, by rw [hz.2]; exact ho⟩
      exact PySem.W.kia_one (PySem.W.kitx_exc C.cl C.ga C.gg C.ex C.cc C.sp C.tk C.mo) I.kIn J e (by intro z; cases z) fun tk => ⟨V.bl b, H, I.tok _, rfl, q⟩
end
end L2
namespace Mine
open PySem
/-- an error of the class at S is what the clause that names S takes -/
theorem exm_own {K : PySem.W.Frag} {S : Addr} (h1 : PySem.W.subIn K (.ref S) (.type "BaseException") = some true) (h2 : PySem.W.isClsIn K S = true) (h3 : PySem.W.typeIn K (.ref S) = some (.type "type")) (h4 : PySem.W.subIn K (.ref S) (.ref S) = some true) :
    PySem.W.exmOne K (.ref S) (.ref S) = some true := by
  have e1 : (PySem.W.subIn K (.ref S) (.type "BaseException") == some true) = true := by rw [h1] <;> rfl
  have e2 : ((PySem.W.clsIn K S).isSome && PySem.W.typeIn K (.ref S) == some (.type "type")) = true := by
    have h2' : (PySem.W.clsIn K S).isSome = true := h2
    rw [h2', h3] <;> rfl
  show (if (PySem.W.subIn K (.ref S) (.type "BaseException") == some true) = true then (if ((PySem.W.clsIn K S).isSome && PySem.W.typeIn K (.ref S) == some (.type "type")) = true then PySem.W.subIn K (.ref S) (.ref S) else none) else none) = some true
  rw [if_pos e1, if_pos e2]
  exact h4
end Mine

set_option Elab.async false
set_option linter.all false
set_option maxRecDepth 100000
namespace L2
open PySem PySem.Spec PyProof.Rows
/-! an own object, and a method, whose def may raise, within a try's body -/
section
variable {X : Cx} {CX : CXT} {lv : Nat} {fa cA : Addr} {fd : FuncData} {pn : List Str} {sp : Sp} {nm mm : Str} {p1 p2 p3 : Pos} {e1 oe : Expr} {er : List Expr} {to' : TE} {tr : TA}
theorem mkS_run {EE : XK} {pins : List (Addr × Obj)} {σ : St} {H : Hp} {s : Shared} {Q : VK} {us : List Value} {vs : List V}
    (M : Mk X.K cA fa) (F : FnOk X.prog X.w X.K X.mg X.base CX lv fa fd pn sp) (rm : Room (lv + 1) X.A)
    (bi : Binds X.K fd pn []) (out : PassesAt CX X σ EE) (I : Inv X pins σ H s) (r : Vals vs us)
    (h : ∀ x dx, H x = none → H dx = none → dx ≠ x →
      sp (.ref x :: vs) (upd (upd H dx (.own x)) x (.ins cA dx [])) (fun v H2 => v = .non ∧ Q (.ref x) H2) EE) :
    wpAny (model X.prog X.w) X.A (call (.ref cA) us) (EP X pins σ Q) X.xe s := by
  have J := Inv.made (C := cA) I
  obtain ⟨n, en⟩ : ∃ n, n = s.heap.objs.size := ⟨_, rfl⟩
  have q0 := h _ _ (I.hok.fresh (Nat.le_succ _)) (I.hok.fresh (Nat.le_refl _)) (Nat.ne_of_lt (Nat.lt_succ_self _))
  have rr : Vals (V.ref (s.heap.objs.size + 1) :: vs) (Value.ref (s.heap.objs.size + 1) :: us) := .cons rfl r
  have ln : (Value.ref (s.heap.objs.size + 1) :: us).length = pn.length :=
    rr.length.symm.trans (F.len _ _ _ _ q0)
  have bb := bi _ (Value.ref (s.heap.objs.size + 1) :: us) J.kIn (by rw [List.append_nil]; exact ln)
  rw [List.append_nil] at bb
  have run := F.run _ X.stack _ _ ⟨Value.ref (s.heap.objs.size + 1) :: us, []⟩ _ _ _ EE
    (rm.make cA us []) (J.env0.make cA us []) bb rr q0
  refine wpAny_call (make_map (f := fa) I.kIn M.makes M.init (beq_iff_eq.mp M.fn) (codeAny_mono run fun res s' got => ?_))
  match res, got with
  | .error e, got => exact out pins _ _ e s' J got
  | .ok (.ret u), got =>
    obtain ⟨v, H', J3, rv, ev, q3⟩ := J.after got
    rw [ev] at rv
    exact ⟨rv, V.ref (s.heap.objs.size + 1), H', J3, rfl, q3⟩
  | .ok .next, got => cases got
  | .ok .brk, got => cases got
  | .ok .cont, got => cases got
def tMakeS (C : Addr) (sp : Sp) (E : St → XK) (t : TA) : TE := fun σ H Q => t σ H fun vs H1 => ∀ x dx, H1 x = none → H1 dx = none → dx ≠ x →
  sp (.ref x :: vs) (upd (upd H1 dx (.own x)) x (.ins C dx [])) (fun v H2 => v = .non ∧ Q (.ref x) H2) (E σ)
theorem pe_makeS {EE : St → XK} (M : Mk X.K cA fa) (F : FnOk X.prog X.w X.K X.mg X.base CX lv fa fd pn sp)
    (rm : Room (lv + 1) X.A) (hg : Gl X nm) (hm : X.mg nm = some (.ref cA)) (bi : Binds X.K fd pn [])
    (out : ∀ σ, PassesAt CX X σ (EE σ)) (ha : PA X (e1 :: er) tr) (nd : (nm == ("__debug__" : Str)) = false := by decide)
    (t1 : starEach (e1 :: er) X.env = (false, eval e1 X.env) :: starEach er X.env := by rfl)
    (t2 : (backTo p2 (starEach er X.env)).any (·.1) = false := by rfl) :
    PE X (.Call (.Name nm p1) (e1 :: er) [] p2) (tMakeS cA sp EE tr) := by
  constructor
  intro pins s σ H Q I h
  refine wpAny_Call_Name_kw (ld_glob I hg hm (PySem.W.callWith_K (h₀ := X.base) I.ok.mod.kin M.kp ?_ t1 t2) nd)
  exact thn (ha.run p2 pins s σ H _ I h) fun us s1 ⟨vs, H1, I1, r, q⟩ => ⟨I1.kIn, mkS_run M F rm bi (out σ) I1 r q⟩
def tMethX (C : Addr) (m : Str) (sp : Sp) (E : St → XK) (ta : TE) (t : TA) : TE := fun σ H Q => ta σ H fun x H1 => ∃ a dx fs, x = .ref a ∧ H1 a = some (.ins C dx fs) ∧ fs.lookup m = none ∧
  t σ H1 fun vs H2 => sp (x :: vs) H2 Q (E σ)
theorem pe_methX {EE : St → XK} {pl : Sem Bool} (ho : PE X oe to') (c : Cls X.K cA) (hm : Meth X.K cA mm fa)
    (F : FnOk X.prog X.w X.K X.mg X.base CX lv fa fd pn sp) (rm : Room lv X.A) (bi : Binds X.K fd pn [])
    (out : ∀ σ, PassesAt CX X σ (EE σ)) (ha : PA X (e1 :: er) tr)
    (t1 : starEach (e1 :: er) X.env = (false, eval e1 X.env) :: starEach er X.env := by rfl)
    (t2 : (backTo p2 (starEach er X.env)).any (·.1) = false := by rfl)
    (ev : eval (.Call (.Attribute oe mm p3) (e1 :: er) [] p2) X.env = (do
      let ov ← eval oe X.env
      standAt p3.atName
      let (f, first) ← holding [ov] (getMethod ov mm pl)
      callWith p2 f first (backTo p2 (starEach (e1 :: er) X.env)) (backToKw p2 (keywordEach [] X.env))) := by rfl) :
    PE X (.Call (.Attribute oe mm p3) (e1 :: er) [] p2) (tMethX cA mm sp EE to' tr) := by
  constructor
  intro pins s σ H Q I h
  refine PySem.W.methodCall_KW (pl := pl) (thn (ho.run pins s σ H _ I h) fun u s1 got => ?_) ev
  obtain ⟨x, H1, I1, rx, a, dx, fs, rfl, ea, l, q⟩ := got
  cases (show u = Value.ref a from rx)
  refine getmeth_ok I1 ea c hm l (PySem.W.callWith_K (first := [.ref a]) (h₀ := X.base) I.ok.mod.kin hm.kp ?_ t1 t2)
  exact thn (ha.run p2 pins s1 σ H1 _ I1 q) fun us s2 ⟨vs, H2, I2, r, q2⟩ => ⟨I2.kIn, run_fnS (us := .ref a :: us) (vs := .ref a :: vs) F rm bi (out σ) I2 (.cons rfl r) q2⟩
end
end L2

set_option Elab.async false
set_option linter.all false
set_option maxRecDepth 100000
namespace L2
open PySem PySem.Spec PySem.Calls PyProof.Rows
/-! an own object without a == of its own, against an integer -/
theorem int_eq_declines_ins (b : Int) (u : Tok) (a C dx : Addr) :
    Meets (Builtin.«int.__eq__» ⟨[.int b u, .ref a], []⟩) (fun _ R s => s.heap.get? a = some (PySem.W.instObj C dx) ∧ R (.ok (.ret .notImplemented)) s) :=
  .of_wp fun prog w A R s h => by
    obtain ⟨hp, g, d, tk, os⟩ := s
    obtain ⟨hl, h⟩ := h
    unfold PySem.W.instObj at hl
    wp_walk using wpAny_loadPart' hl, wpAny_load hl
    exact ⟨_, rfl, h⟩
section
variable {prog : Program} {w : World} {A : Around} {E : Value → Shared → Prop} {s : Shared} {K : PySem.W.Frag} {x C dx : Addr} {od : Option Obj}
theorem ifBound_B {name : Str} {id : String} {args : List Value} {Q : Option Value → Shared → Prop} (X : K.In s.heap) (I : PySem.W.InstAt s.heap x (PySem.W.instObj C dx) C od)
    (hs : PySem.W.findIn K (.ref C) name = some (some (.builtin id))) (hb : ∀ self, bindSpecial (.builtin id) self = pure (.builtin id, [self]))
    (h : wpAny (model prog w) A (call (.builtin id) (.ref x :: args)) (fun v => Q (some v)) E s) : wpAny (model prog w) A (callSpecialIfBound? (.ref x) name args) Q E s := by
  simp only [callSpecialIfBound?, bindSpecialIfBound?]
  refine wpAny_holding (wpAny_bind (wpAny_bind (wpAny_bind (I.type.here ((PySem.W.looks_findIn X hs).here ?_)))))
  simp only [hb]
  refine wpAny_bind (wpAny_askSetting (wpAny_ite ?_))
  have fin : wpAny (model prog w) A (call (.builtin id) ([.ref x] ++ args) >>= fun v => pure (some v)) Q E s := wpAny_bind (wpAny_mono h (fun v s' h' => wpAny_pure h') fun _ _ h' => h')
  split
  · exact wpAny_bind (wpAny_pure (by exact wpAny_pure fin))
  · exact wpAny_tryCatch (wpAny_bind (wpAny_pure (by exact wpAny_pure fin)))
theorem call_objEq_int {n : Int} {t : Tok} {Q : Value → Shared → Prop} (X : K.In s.heap) (I : PySem.W.InstAt s.heap x (PySem.W.instObj C dx) C od)
    (ho : PySem.W.mroIn K C (.type "object") = some true) (hq : Q .notImplemented s) :
    wpAny (model prog w) A (call (.builtin "object.__eq__") [.ref x, .int n t]) Q E s := by
  refine wpAny_call (codeAny_call_builtin F.cmp_object.eq.plain F.cmpEntry_eq ?_)
  simp only [checkBuiltinCall, F.cmpKind_eq, F.cmpSplit_eq]
  refine wpAny_bind ?_
  unfold isInstance
  refine wpAny_bind (I.type.here ((PySem.W.looks_subIn (t := .ref C) X ho).here ?_))
  have body : wpAny (model prog w) A.in1 (Builtin.«object.__eq__» ⟨[.ref x, .int n t], []⟩) (fun fin s' => fin = .done (.ret .notImplemented) ∧ s' = s) E s := by
    unfold Builtin.«object.__eq__»
    have q : isSame (.ref x) (.int n t) = pure false := rfl
    repeat (first | rw [q] | wp_step)
    exact ⟨rfl, rfl⟩
  have fin : wpAny (model prog w) A.in1 (Builtin.«object.__eq__» ⟨[.ref x, .int n t], []⟩) (fun fin s' => match fin with
      | .done f => (match (Except.ok f : Result) with | .ok (.ret v) => Q v s' | .ok _ => False | .error e => E e s')
      | .again c' => c'.quiet = true ∧ codeAny (model prog w) A c' (fun r s' => match r with | .ok (.ret v) => Q v s' | .ok _ => False | .error e => E e s') s') (fun e s' => E e s') s :=
    wpAny_mono body (fun f s' h => by obtain ⟨rfl, rfl⟩ := h; exact hq) (fun _ _ e => e)
  cases hsig : Manifest.signature? "object.__eq__" with
  | none => exact wpAny_pure fin
  | some sig =>
    have ha := F.cmpArgs_eq (.ref x) (.int n t)
    simp only [argsOk, hsig] at ha
    have h2 : Bind.checkArgs "object.__eq__" sig ⟨[.ref x, .int n t], []⟩ = pure () := ha
    show wpAny (model prog w) A.in1 (Bind.checkArgs "object.__eq__" sig ⟨[.ref x, .int n t], []⟩) _ _ s
    rw [h2]
    exact wpAny_pure fin
theorem richCompare_inst_int {n : Int} {t : Tok} {Q : Value → Shared → Prop} (hu : A.units < cLine) (X : K.In s.heap) (I : PySem.W.InstAt s.heap x (PySem.W.instObj C dx) C od)
    (hs : PySem.W.findIn K (.ref C) "__eq__" = some (some (.builtin "object.__eq__"))) (ho : PySem.W.mroIn K C (.type "object") = some true)
    (hn : PySem.W.subIn K (.type "int") (.ref C) = some false) (hq : Q (.bool false) s) : wpAny (model prog w) A (richCompare .Eq (.ref x) (.int n t)) Q E s := by
  unfold richCompare
  simp only [oneThing_ref]
  refine wpAny_holding (wpAny_bind (wpAny_cRoomFor hu ?_))
  refine wpAny_bind (I.type.here (wpAny_bind (wpAny_typeOf (typeIs_int s n t) ?_)))
  have e1 : (Value.ref C != Value.type "int") = true := by rfl
  simp only [e1, if_true]
  refine wpAny_bind ((PySem.W.looks_subIn X hn).here ?_)
  simp only [Bool.false_eq_true, if_false, Bool.not_false, if_true]
  refine wpAny_bind (m := tryCompare (.ref x) _ (.int n t)) ?_
  unfold tryCompare
  refine wpAny_bind (ifBound_B X I hs F.cmp_object.eq.bind (call_objEq_int X I ho ?_))
  refine wpAny_pure ?_
  refine wpAny_bind (m := tryCompare (.int n t) _ (.ref x)) (wpAny_tryCompare_declines (typeIs_int s n t) F.slot_int_eq_refl (call_meets F.slot_int_eq_refl (typeIs_int s n t) F.entry_int_eq (F.args_int_eq_2 _ _) (int_eq_declines_ins n t x C dx) ⟨I.at_, rfl, ?_⟩))
  exact wpAny_bind (wpAny_rule (wpAny_bind (wpAny_of_eq (rfl : isSame (.ref x) (.int n t) = pure false) (wpAny_pure hq))))
end
structure ClsEq (K : PySem.W.Frag) (C : Addr) : Prop where
  eq : PySem.W.findIn K (.ref C) "__eq__" = some (some (.builtin "object.__eq__"))
  ob : PySem.W.mroIn K C (.type "object") = some true
  nt : PySem.W.subIn K (.type "int") (.ref C) = some false
section
variable {X : Cx}
def rEqOI (C : Addr) : R2 := fun x y H Q => ∃ (a dx : Addr) (fs : List (Str × V)) (i : Int), x = .ref a ∧ y = .int i ∧ H a = some (.ins C dx fs) ∧ Q (.bl false) H
theorem op_eqOI {C : Addr} (q : ClsEq X.K C) (hu : X.A.units < cLine) : OpR X (compareOp .Eq) (rEqOI C) := by
  intro pins s σ H x y v u Q I rx ry h
  obtain ⟨a, dx, fs, i, rfl, rfl, ha, hq⟩ := h
  cases (show v = Value.ref a from rx)
  obtain ⟨t, rfl⟩ := ry
  obtain ⟨mA, J, _⟩ := ins_get I.hok ha
  obtain ⟨od, J, _⟩ := J.look
  exact richCompare_inst_int hu I.kIn J q.eq q.ob q.nt ⟨.bl false, H, I, rfl, hq⟩
/-! ### len(set(xs)) for any ints -/
def distinct (ns : List Int) : Nat := (firstMet (fun i => ns.getD i 0) ns.length).length
theorem distinct_nodup {ns : List Int} (h : ns.Nodup) : distinct ns = ns.length := by
  unfold distinct
  rw [firstMet_nodup ns h ns.length (Nat.le_refl _), List.take_length]
theorem distinct_two {x : Int} : distinct [x, x] = 1 := by
  simp [distinct, firstMet, step_dedup, List.range_succ]
def tLenSetD (K : PySem.W.Frag) (ta : TE) : TE := fun σ H Q => ta σ H fun x H1 => ∃ (l : Addr) (ns : List Int), x = V.ref l ∧ SqL K H1 l (ns.map V.int) ∧ ns.length < 64 ∧ Q (.int (distinct ns)) H1
theorem pe_lenSetD {a : Expr} {ta : TE} {p p2 q pos : Pos} (hc : X.calm = true) (hg : Gl X "len") (hm : X.mg "len" = none) (hg2 : Gl X "set") (hm2 : X.mg "set" = none) (ha : PE X a ta)
    (na : starEach [a] X.env = (false, eval a X.env) :: starEach [] X.env := by rfl) : PE X (.Call (.Name "len" p) [.Call (.Name "set" p2) [a] [] q] [] pos) (tLenSetD X.K ta) := by
  refine ⟨fun pins s σ H Q I h => ?_⟩
  refine Call_ (ld_blt I hg hm PySem.boot_len ?_)
  refine PyProof.Rows.callWith_builtin1 (PyProof.Rows.args_cons ?_ rfl) rfl rfl
  refine Call_ (ld_blt I hg2 hm2 PyProof.Rows.boot_set ?_)
  refine PyProof.Rows.callWith_type1 (PyProof.Rows.args_cons (thn (ha.run pins s σ H _ I h) fun v s1 ⟨x, H1, I1, r1, q1⟩ => PyProof.Rows.args_nil ?_) na) na rfl
  obtain ⟨l, ns, rfl, hq, h1, q1⟩ := q1
  cases r1
  obtain ⟨its, r, pl, hz⟩ := I1.list hq
  have hl : its.toArray.size = ns.length := by rw [List.size_toArray, ← r.length, List.length_map]
  refine call_set_list (I1.ok.hd hc) pl.isList (ns := ns) (by simpa using r.ints) (by unfold scanBound; omega) fun h' tk hS hk => ?_
  rw [hl] at hS
  refine PyProof.Rows.args_nil ?_
  obtain ⟨o, es, ep, t, ho, hex, hd, _, _, _, hf, hn⟩ := hS
  have I2 : Inv X pins σ H1 { s1 with heap := h', toks := tk } := I1.kept fun b o e => hk b o (Heap.lt_size e) e
  have dl : (firstMet (fun i => ns.getD i 0) ns.length).length < 64 := Nat.lt_of_le_of_lt (firstMet_length_le _ _) h1
  refine call_len_set ho hex hd hf (by rw [hn] <;> omega) ⟨.int (distinct ns), H1, I2.tok _, ⟨_, by rw [hn]; rfl⟩, q1⟩
end
theorem for_enum {K : PySem.W.Frag} {a : Addr} {xs : List V} {g : TG} {tb : TS} {D : Ends} {σ : St} {H : Hp} (Pv : Nat → St → Hp → Prop) (h0 : Pv 0 σ H) (hl : ∀ i σ H, i ≤ xs.length → Pv i σ H → SqL K H a xs)
    (hs : ∀ (i : Nat) x T σ H, xs[i]? = some x → Pv i σ H → H T = none → g (.ref T) σ (upd H T (.tup [.int i, x])) fun σ2 H2 => tb { D with nx := Pv (i + 1), ct := Pv (i + 1), bk := D.nx } σ2 H2) (hd : ∀ σ H, Pv xs.length σ H → D.nx σ H) :
    ∃ W : Nat → Nat → St → Hp → Prop, (∃ m, W 0 m σ H) ∧ ∀ i m σ H, W i m σ H →
      ((Ite K a).stop i H ∧ D.nx σ H) ∨ ((Ite K a).go i H ∧ ∃ N : St → Hp → Prop, (∀ σ' H', N σ' H' → ∃ m', m' < m ∧ W (i + 1) m' σ' H') ∧ ∀ x H', (Ite K a).yld i H x H' → g x σ H' fun σ2 H2 => tb { D with nx := N, ct := N, bk := D.nx } σ2 H2) := by
  refine ⟨fun i m σ H => m = xs.length - i ∧ i ≤ xs.length ∧ Pv i σ H, ⟨xs.length, by simp, Nat.zero_le _, h0⟩, ?_⟩
  rintro i m σ H ⟨rfl, hi, p⟩
  have q := hl i σ H hi p
  by_cases hlt : i < xs.length
  · refine .inr ⟨⟨xs, xs[i], q, by simp [hlt]⟩, Pv (i + 1), fun σ' H' p' => ⟨xs.length - (i + 1), by omega, rfl, hlt, p'⟩, fun x H' y => ?_⟩
    obtain ⟨T, v, rfl, n, rfl, y⟩ := y
    exact hs i v T σ H (y xs q) p n
  · have e : i = xs.length := by omega
    subst e
    exact .inl ⟨⟨xs, q, Nat.le_refl _⟩, hd σ H p⟩
end L2

set_option Elab.async false
set_option linter.all false
set_option maxRecDepth 100000
namespace Rd
open PySem PySem.Spec PyProof.Rows L2
variable {K : PySem.W.Frag} {σ : L2.St} {H : Hp} {D : Ends} {Q : VK} {ta tb te tc : TE} {t u c : TT} {ts tu : TS} {g : TG} {x y v : V} {vs : List V} {tr : TA} {a b : Option V} {r : L2.St}
theorem seq (h : ts { D with nx := tu D } σ H) : tSeq ts tu D σ H := h
theorem next (h : D.nx σ H) : tNext D σ H := h
theorem brk (h : D.bk σ H) : tBreak D σ H := h
theorem cont (h : D.ct σ H) : tCont D σ H := h
theorem asg (h : te σ H fun x H1 => g x σ H1 D.nx) : tAsg te g D σ H := h
theorem ret (h : te σ H D.rt) : tRet te D σ H := h
theorem retN (h : D.rt .non H) : tRetN D σ H := h
theorem drop (h : te σ H fun _ H1 => D.nx σ H1) : tDrop te D σ H := h
theorem ifs (h : c σ H fun b H1 => if b = true then ts D σ H1 else tu D σ H1) : tIfS c ts tu D σ H := h
theorem ife (h : t σ H fun b H1 => if b = true then ta σ H1 Q else tb σ H1 Q) : tIf t ta tb σ H Q := h
theorem test {Q : Bool → Hp → Prop} (h : te σ H fun x H1 => ∃ k, x = .bl k ∧ Q k H1) : tTest te σ H Q := h
theorem tb_ {Q : Bool → Hp → Prop} (h : te σ H fun x H1 => ∃ k, x = .bl k ∧ Q k H1) : tB te σ H Q := h
theorem bl {b : Bool} {Q : Bool → Hp → Prop} (h : Q b H) : ∃ k, V.bl b = .bl k ∧ Q k H := ⟨b, rfl, h⟩
theorem bl2 {b : Bool} {P : Bool → Prop} (h : P b) : ∃ k, V.bl b = .bl k ∧ P k := ⟨b, rfl, h⟩
theorem and_ {Q : Bool → Hp → Prop} (h : t σ H fun c H1 => if c = true then u σ H1 Q else Q false H1) : tAnd t u σ H Q := h
theorem or_ {Q : Bool → Hp → Prop} (h : t σ H fun c H1 => if c = true then Q true H1 else u σ H1 Q) : tOr t u σ H Q := h
theorem not_ {Q : Bool → Hp → Prop} (h : t σ H fun c H1 => Q (!c) H1) : tNot t σ H Q := h
theorem andV (h : ta σ H fun x H1 => ∃ c, x = .bl c ∧ if c = true then tb σ H1 Q else Q (.bl false) H1) : tAndV ta tb σ H Q := h
theorem orV (h : ta σ H fun x H1 => ∃ c, x = .bl c ∧ if c = true then Q (.bl true) H1 else tb σ H1 Q) : tOrV ta tb σ H Q := h
theorem notV (h : ta σ H fun x H1 => ∃ c, x = .bl c ∧ Q (.bl (!c)) H1) : tNotV ta σ H Q := h
theorem op {r : R2} (h : ta σ H fun x H1 => tb σ H1 fun y H2 => r x y H2 Q) : tOp r ta tb σ H Q := h
theorem un {r : V → Hp → VK → Prop} (h : ta σ H fun x H1 => r x H1 Q) : tUn r ta σ H Q := h
theorem I0 {f : Int → Int → V} {i j : Int} (h : Q (f i j) H) : rI0 f (.int i) (.int j) H Q := ⟨i, j, rfl, rfl, h⟩
theorem I {C : Int → Int → Prop} {f : Int → Int → V} {i j : Int} (c : C i j) (h : Q (f i j) H) : rI C f (.int i) (.int j) H Q := ⟨i, j, rfl, rfl, c, h⟩
theorem U {f : Int → V} {i : Int} (h : Q (f i) H) : rU f (.int i) H Q := ⟨i, rfl, h⟩
theorem ip {f : Int → Int → Int} {i j : Int} (h : Q (.int (f i j)) H) : ipI f (.int i) (.int j) H Q := ⟨i, j, rfl, rfl, h⟩
theorem eq (s : scal x y = true) (h : Q (.bl (decide (x = y))) H) : rEq x y H Q := ⟨s, h⟩
theorem ne (s : scal x y = true) (h : Q (.bl (!decide (x = y))) H) : rNe x y H Q := ⟨s, h⟩
theorem c_ (h : Q v H) : tC v σ H Q := h
theorem nil {Q : List V → Hp → Prop} (h : Q [] H) : tNil σ H Q := h
theorem cons {Q : List V → Hp → Prop} (h : ta σ H fun x H1 => tr σ H1 fun xs H2 => Q (x :: xs) H2) : tCons ta tr σ H Q := h
theorem tup (h : tr σ H fun xs H1 => xs.length ≤ sizeLine ∧ ∀ p, H1 p = none → Q (.ref p) (upd H1 p (.tup xs))) : tTup tr σ H Q := h
theorem lst (h : tr σ H fun xs H1 => xs.length ≤ sizeLine ∧ ∀ p, H1 p = none → Q (.ref p) (upd H1 p (.lst xs))) : tLst tr σ H Q := h
theorem newT {xs : List V} (s : xs.length ≤ sizeLine) (h : ∀ p, H p = none → Q (.ref p) (upd H p (.tup xs))) : xs.length ≤ sizeLine ∧ ∀ p, H p = none → Q (.ref p) (upd H p (.tup xs)) := ⟨s, h⟩
theorem newL {xs : List V} (s : xs.length ≤ sizeLine) (h : ∀ p, H p = none → Q (.ref p) (upd H p (.lst xs))) : xs.length ≤ sizeLine ∧ ∀ p, H p = none → Q (.ref p) (upd H p (.lst xs)) := ⟨s, h⟩
theorem szA {xs : List V} {A : Prop} (s : xs.length ≤ sizeLine) (h : A) : xs.length ≤ sizeLine ∧ A := ⟨s, h⟩
theorem call {sp : Sp} {dvs : List V} {E : XK} (h : tr σ H fun vs H1 => sp (vs ++ dvs) H1 Q E) : tCall sp dvs E tr σ H Q := h
theorem cb {f : List V → Hp → VK → Prop} (h : tr σ H fun vs H1 => f vs H1 Q) : tCB f tr σ H Q := h
theorem bm {T : String} {f : V → List V → Hp → VK → Prop} (h : te σ H fun x H1 => tyV K T x H1 ∧ tr σ H1 fun xs H2 => f x xs H2 Q) : tBM K T f te tr σ H Q := h
theorem bm0 {T : String} {f : V → List V → Hp → VK → Prop} (h : te σ H fun x H1 => tyV K T x H1 ∧ f x [] H1 Q) : tBM0 K T f te σ H Q := h
theorem tyL {p : Addr} {xs : List V} {A : Prop} (s : H p = some (.lst xs)) (h : A) : tyV K "list" (.ref p) H ∧ A := ⟨.inl ⟨rfl, _, SqL.of s⟩, h⟩
theorem tyLq {p : Addr} {xs : List V} {A : Prop} (s : SqL K H p xs) (h : A) : tyV K "list" (.ref p) H ∧ A := ⟨.inl ⟨rfl, _, s⟩, h⟩
theorem tyS {z : Str} {A : Prop} (h : A) : tyV K "str" (.str z) H ∧ A := ⟨rfl, h⟩
theorem app {l : Addr} {xs : List V} (h : H l = some (.lst xs)) (s : xs.length < sizeLine) (q : Q .non (upd H l (.lst (xs ++ [y])))) : rAppend (.ref l) [y] H Q := ⟨l, xs, y, rfl, rfl, h, s, q⟩
theorem sl {f : V → Option Int → Option Int → Hp → VK → Prop} {tl th : TO} (h : te σ H fun x H1 => tl σ H1 fun l H2 => th σ H2 fun u H3 => f x l u H3 Q) : L2.tSl f te tl th σ H Q := h
theorem nopart {Q : Option Int → Hp → Prop} (h : Q none H) : tNoPart σ H Q := h
theorem part {Q : Option Int → Hp → Prop} (h : te σ H fun x H1 => ∃ i, x = .int i ∧ Q (some i) H1) : tPart te σ H Q := h
theorem int1 {i : Int} {P : Int → Prop} (h : P i) : ∃ j, V.int i = .int j ∧ P j := ⟨i, rfl, h⟩
theorem ints1 {i : Int} {P : Int → Prop} (h : P i) : ∃ j, [V.int i] = [.int j] ∧ P j := ⟨i, rfl, h⟩
theorem ints2 {i j : Int} {P : Int → Int → Prop} (h : P i j) : ∃ a b, [V.int i, V.int j] = [.int a, .int b] ∧ P a b := ⟨i, j, rfl, h⟩
theorem ixLq {p : Addr} {xs : List V} {i : Int} (h : SqL K H p xs) (e : atI xs i = some v) (q : Q v H) : rIxL K (.ref p) (.int i) H Q := ⟨p, xs, i, v, rfl, rfl, h, e, q⟩
theorem ixL {p : Addr} {xs : List V} {i : Int} (h : H p = some (.lst xs)) (e : atI xs i = some v) (q : Q v H) : rIxL K (.ref p) (.int i) H Q := ⟨p, xs, i, v, rfl, rfl, SqL.of h, e, q⟩
theorem ixT {p : Addr} {xs : List V} {i : Int} (h : H p = some (.tup xs)) (e : atI xs i = some v) (q : Q v H) : rIxT K (.ref p) (.int i) H Q := ⟨p, xs, i, v, rfl, rfl, SqT.of h, e, q⟩
theorem ixTq {p : Addr} {xs : List V} {i : Int} (h : SqT K H p xs) (e : atI xs i = some v) (q : Q v H) : rIxT K (.ref p) (.int i) H Q := ⟨p, xs, i, v, rfl, rfl, h, e, q⟩
theorem gtup {p : Addr} {xs : List V} {n : Nat} {f : TGs} {Q : L2.St → Hp → Prop} (h : H p = some (.tup xs)) (l : xs.length = n) (q : f xs σ H Q) : gTup K n f (.ref p) σ H Q := ⟨p, xs, rfl, SqT.of h, l, q⟩
theorem gtupq {p : Addr} {xs : List V} {n : Nat} {f : TGs} {Q : L2.St → Hp → Prop} (h : SqT K H p xs) (l : xs.length = n) (q : f xs σ H Q) : gTup K n f (.ref p) σ H Q := ⟨p, xs, rfl, h, l, q⟩
theorem yes {Q : Bool → Hp → Prop} (h : Q true H) : tYes σ H Q := h
theorem gcons {f : TGs} {Q : L2.St → Hp → Prop} (q : g v σ H fun σ' H' => f vs σ' H' Q) : gCons g f (v :: vs) σ H Q := ⟨v, vs, rfl, q⟩
theorem gnil {Q : L2.St → Hp → Prop} (q : Q σ H) : gNil [] σ H Q := ⟨rfl, q⟩
theorem sub {to ti : TE} {f : TSet} {Q : L2.St → Hp → Prop} (h : to σ H fun o H1 => ti σ H1 fun i H2 => f o i v H2 fun H3 => Q σ H3) : gSub to ti f v σ H Q := h
theorem setL {l : Addr} {xs : List V} {j : Nat} {i : Int} {Q : Hp → Prop} (h : H l = some (.lst xs)) (e : ixN xs.length i = some j) (q : Q (upd H l (.lst (xs.set j v)))) : rSetL (.ref l) (.int i) v H Q := ⟨l, xs, i, j, rfl, rfl, h, e, q⟩
theorem isN (h : ta σ H fun x H1 => Q (.bl (decide (x = .non))) H1) : tIsN ta σ H Q := h
theorem rf {α : Type} {a : α} {A : Prop} (h : A) : a = a ∧ A := ⟨rfl, h⟩
theorem sz {n : Nat} (h : n ≤ 100000) : n ≤ sizeLine := Nat.le_trans h (by decide)
theorem szl {n : Nat} (h : n < 100000) : n < sizeLine := Nat.lt_of_lt_of_le h (by decide)
theorem chain {r r' : R2} (h : ta σ H fun x H1 => tb σ H1 fun y H2 => r x y H2 fun z H3 => ∃ k, z = .bl k ∧ if k = true then tc σ H3 fun w H4 => r' y w H4 Q else Q (.bl false) H3) : tChain r r' ta tb tc σ H Q := h

theorem v0 (h : Q v H) : tVar 0 (some v :: r) H Q := ⟨v, rfl, h⟩
theorem n0 {Q : L2.St → Hp → Prop} (h : Q (some v :: r) H) : gName 0 v (a :: r) H Q := h
theorem g0 {ti : TIp} (h : te (some x :: r) H fun y H1 => ti x y H1 fun z H2 => D.nx (some z :: r) H2) : tAug 0 te ti D (some x :: r) H := ⟨x, rfl, h⟩
theorem v1 {a0 : Option V} (h : Q v H) : tVar 1 (a0 :: some v :: r) H Q := ⟨v, rfl, h⟩
theorem n1 {a0 : Option V} {Q : L2.St → Hp → Prop} (h : Q (a0 :: some v :: r) H) : gName 1 v (a0 :: a :: r) H Q := h
theorem g1 {a0 : Option V} {ti : TIp} (h : te (a0 :: some x :: r) H fun y H1 => ti x y H1 fun z H2 => D.nx (a0 :: some z :: r) H2) : tAug 1 te ti D (a0 :: some x :: r) H := ⟨x, rfl, h⟩
theorem v2 {a0 a1 : Option V} (h : Q v H) : tVar 2 (a0 :: a1 :: some v :: r) H Q := ⟨v, rfl, h⟩
theorem n2 {a0 a1 : Option V} {Q : L2.St → Hp → Prop} (h : Q (a0 :: a1 :: some v :: r) H) : gName 2 v (a0 :: a1 :: a :: r) H Q := h
theorem g2 {a0 a1 : Option V} {ti : TIp} (h : te (a0 :: a1 :: some x :: r) H fun y H1 => ti x y H1 fun z H2 => D.nx (a0 :: a1 :: some z :: r) H2) : tAug 2 te ti D (a0 :: a1 :: some x :: r) H := ⟨x, rfl, h⟩
theorem v3 {a0 a1 a2 : Option V} (h : Q v H) : tVar 3 (a0 :: a1 :: a2 :: some v :: r) H Q := ⟨v, rfl, h⟩
theorem n3 {a0 a1 a2 : Option V} {Q : L2.St → Hp → Prop} (h : Q (a0 :: a1 :: a2 :: some v :: r) H) : gName 3 v (a0 :: a1 :: a2 :: a :: r) H Q := h
theorem g3 {a0 a1 a2 : Option V} {ti : TIp} (h : te (a0 :: a1 :: a2 :: some x :: r) H fun y H1 => ti x y H1 fun z H2 => D.nx (a0 :: a1 :: a2 :: some z :: r) H2) : tAug 3 te ti D (a0 :: a1 :: a2 :: some x :: r) H := ⟨x, rfl, h⟩
theorem v4 {a0 a1 a2 a3 : Option V} (h : Q v H) : tVar 4 (a0 :: a1 :: a2 :: a3 :: some v :: r) H Q := ⟨v, rfl, h⟩
theorem n4 {a0 a1 a2 a3 : Option V} {Q : L2.St → Hp → Prop} (h : Q (a0 :: a1 :: a2 :: a3 :: some v :: r) H) : gName 4 v (a0 :: a1 :: a2 :: a3 :: a :: r) H Q := h
theorem g4 {a0 a1 a2 a3 : Option V} {ti : TIp} (h : te (a0 :: a1 :: a2 :: a3 :: some x :: r) H fun y H1 => ti x y H1 fun z H2 => D.nx (a0 :: a1 :: a2 :: a3 :: some z :: r) H2) : tAug 4 te ti D (a0 :: a1 :: a2 :: a3 :: some x :: r) H := ⟨x, rfl, h⟩
theorem v5 {a0 a1 a2 a3 a4 : Option V} (h : Q v H) : tVar 5 (a0 :: a1 :: a2 :: a3 :: a4 :: some v :: r) H Q := ⟨v, rfl, h⟩
theorem n5 {a0 a1 a2 a3 a4 : Option V} {Q : L2.St → Hp → Prop} (h : Q (a0 :: a1 :: a2 :: a3 :: a4 :: some v :: r) H) : gName 5 v (a0 :: a1 :: a2 :: a3 :: a4 :: a :: r) H Q := h
theorem g5 {a0 a1 a2 a3 a4 : Option V} {ti : TIp} (h : te (a0 :: a1 :: a2 :: a3 :: a4 :: some x :: r) H fun y H1 => ti x y H1 fun z H2 => D.nx (a0 :: a1 :: a2 :: a3 :: a4 :: some z :: r) H2) : tAug 5 te ti D (a0 :: a1 :: a2 :: a3 :: a4 :: some x :: r) H := ⟨x, rfl, h⟩
theorem v6 {a0 a1 a2 a3 a4 a5 : Option V} (h : Q v H) : tVar 6 (a0 :: a1 :: a2 :: a3 :: a4 :: a5 :: some v :: r) H Q := ⟨v, rfl, h⟩
theorem n6 {a0 a1 a2 a3 a4 a5 : Option V} {Q : L2.St → Hp → Prop} (h : Q (a0 :: a1 :: a2 :: a3 :: a4 :: a5 :: some v :: r) H) : gName 6 v (a0 :: a1 :: a2 :: a3 :: a4 :: a5 :: a :: r) H Q := h
theorem g6 {a0 a1 a2 a3 a4 a5 : Option V} {ti : TIp} (h : te (a0 :: a1 :: a2 :: a3 :: a4 :: a5 :: some x :: r) H fun y H1 => ti x y H1 fun z H2 => D.nx (a0 :: a1 :: a2 :: a3 :: a4 :: a5 :: some z :: r) H2) : tAug 6 te ti D (a0 :: a1 :: a2 :: a3 :: a4 :: a5 :: some x :: r) H := ⟨x, rfl, h⟩
theorem v7 {a0 a1 a2 a3 a4 a5 a6 : Option V} (h : Q v H) : tVar 7 (a0 :: a1 :: a2 :: a3 :: a4 :: a5 :: a6 :: some v :: r) H Q := ⟨v, rfl, h⟩
theorem n7 {a0 a1 a2 a3 a4 a5 a6 : Option V} {Q : L2.St → Hp → Prop} (h : Q (a0 :: a1 :: a2 :: a3 :: a4 :: a5 :: a6 :: some v :: r) H) : gName 7 v (a0 :: a1 :: a2 :: a3 :: a4 :: a5 :: a6 :: a :: r) H Q := h
theorem g7 {a0 a1 a2 a3 a4 a5 a6 : Option V} {ti : TIp} (h : te (a0 :: a1 :: a2 :: a3 :: a4 :: a5 :: a6 :: some x :: r) H fun y H1 => ti x y H1 fun z H2 => D.nx (a0 :: a1 :: a2 :: a3 :: a4 :: a5 :: a6 :: some z :: r) H2) : tAug 7 te ti D (a0 :: a1 :: a2 :: a3 :: a4 :: a5 :: a6 :: some x :: r) H := ⟨x, rfl, h⟩
theorem v8 {a0 a1 a2 a3 a4 a5 a6 a7 : Option V} (h : Q v H) : tVar 8 (a0 :: a1 :: a2 :: a3 :: a4 :: a5 :: a6 :: a7 :: some v :: r) H Q := ⟨v, rfl, h⟩
theorem n8 {a0 a1 a2 a3 a4 a5 a6 a7 : Option V} {Q : L2.St → Hp → Prop} (h : Q (a0 :: a1 :: a2 :: a3 :: a4 :: a5 :: a6 :: a7 :: some v :: r) H) : gName 8 v (a0 :: a1 :: a2 :: a3 :: a4 :: a5 :: a6 :: a7 :: a :: r) H Q := h
theorem g8 {a0 a1 a2 a3 a4 a5 a6 a7 : Option V} {ti : TIp} (h : te (a0 :: a1 :: a2 :: a3 :: a4 :: a5 :: a6 :: a7 :: some x :: r) H fun y H1 => ti x y H1 fun z H2 => D.nx (a0 :: a1 :: a2 :: a3 :: a4 :: a5 :: a6 :: a7 :: some z :: r) H2) : tAug 8 te ti D (a0 :: a1 :: a2 :: a3 :: a4 :: a5 :: a6 :: a7 :: some x :: r) H := ⟨x, rfl, h⟩
theorem v9 {a0 a1 a2 a3 a4 a5 a6 a7 a8 : Option V} (h : Q v H) : tVar 9 (a0 :: a1 :: a2 :: a3 :: a4 :: a5 :: a6 :: a7 :: a8 :: some v :: r) H Q := ⟨v, rfl, h⟩
theorem n9 {a0 a1 a2 a3 a4 a5 a6 a7 a8 : Option V} {Q : L2.St → Hp → Prop} (h : Q (a0 :: a1 :: a2 :: a3 :: a4 :: a5 :: a6 :: a7 :: a8 :: some v :: r) H) : gName 9 v (a0 :: a1 :: a2 :: a3 :: a4 :: a5 :: a6 :: a7 :: a8 :: a :: r) H Q := h
theorem g9 {a0 a1 a2 a3 a4 a5 a6 a7 a8 : Option V} {ti : TIp} (h : te (a0 :: a1 :: a2 :: a3 :: a4 :: a5 :: a6 :: a7 :: a8 :: some x :: r) H fun y H1 => ti x y H1 fun z H2 => D.nx (a0 :: a1 :: a2 :: a3 :: a4 :: a5 :: a6 :: a7 :: a8 :: some z :: r) H2) : tAug 9 te ti D (a0 :: a1 :: a2 :: a3 :: a4 :: a5 :: a6 :: a7 :: a8 :: some x :: r) H := ⟨x, rfl, h⟩
theorem v10 {a0 a1 a2 a3 a4 a5 a6 a7 a8 a9 : Option V} (h : Q v H) : tVar 10 (a0 :: a1 :: a2 :: a3 :: a4 :: a5 :: a6 :: a7 :: a8 :: a9 :: some v :: r) H Q := ⟨v, rfl, h⟩
theorem n10 {a0 a1 a2 a3 a4 a5 a6 a7 a8 a9 : Option V} {Q : L2.St → Hp → Prop} (h : Q (a0 :: a1 :: a2 :: a3 :: a4 :: a5 :: a6 :: a7 :: a8 :: a9 :: some v :: r) H) : gName 10 v (a0 :: a1 :: a2 :: a3 :: a4 :: a5 :: a6 :: a7 :: a8 :: a9 :: a :: r) H Q := h
theorem g10 {a0 a1 a2 a3 a4 a5 a6 a7 a8 a9 : Option V} {ti : TIp} (h : te (a0 :: a1 :: a2 :: a3 :: a4 :: a5 :: a6 :: a7 :: a8 :: a9 :: some x :: r) H fun y H1 => ti x y H1 fun z H2 => D.nx (a0 :: a1 :: a2 :: a3 :: a4 :: a5 :: a6 :: a7 :: a8 :: a9 :: some z :: r) H2) : tAug 10 te ti D (a0 :: a1 :: a2 :: a3 :: a4 :: a5 :: a6 :: a7 :: a8 :: a9 :: some x :: r) H := ⟨x, rfl, h⟩
theorem v11 {a0 a1 a2 a3 a4 a5 a6 a7 a8 a9 a10 : Option V} (h : Q v H) : tVar 11 (a0 :: a1 :: a2 :: a3 :: a4 :: a5 :: a6 :: a7 :: a8 :: a9 :: a10 :: some v :: r) H Q := ⟨v, rfl, h⟩
theorem n11 {a0 a1 a2 a3 a4 a5 a6 a7 a8 a9 a10 : Option V} {Q : L2.St → Hp → Prop} (h : Q (a0 :: a1 :: a2 :: a3 :: a4 :: a5 :: a6 :: a7 :: a8 :: a9 :: a10 :: some v :: r) H) : gName 11 v (a0 :: a1 :: a2 :: a3 :: a4 :: a5 :: a6 :: a7 :: a8 :: a9 :: a10 :: a :: r) H Q := h
theorem g11 {a0 a1 a2 a3 a4 a5 a6 a7 a8 a9 a10 : Option V} {ti : TIp} (h : te (a0 :: a1 :: a2 :: a3 :: a4 :: a5 :: a6 :: a7 :: a8 :: a9 :: a10 :: some x :: r) H fun y H1 => ti x y H1 fun z H2 => D.nx (a0 :: a1 :: a2 :: a3 :: a4 :: a5 :: a6 :: a7 :: a8 :: a9 :: a10 :: some z :: r) H2) : tAug 11 te ti D (a0 :: a1 :: a2 :: a3 :: a4 :: a5 :: a6 :: a7 :: a8 :: a9 :: a10 :: some x :: r) H := ⟨x, rfl, h⟩
theorem v12 {a0 a1 a2 a3 a4 a5 a6 a7 a8 a9 a10 a11 : Option V} (h : Q v H) : tVar 12 (a0 :: a1 :: a2 :: a3 :: a4 :: a5 :: a6 :: a7 :: a8 :: a9 :: a10 :: a11 :: some v :: r) H Q := ⟨v, rfl, h⟩
theorem n12 {a0 a1 a2 a3 a4 a5 a6 a7 a8 a9 a10 a11 : Option V} {Q : L2.St → Hp → Prop} (h : Q (a0 :: a1 :: a2 :: a3 :: a4 :: a5 :: a6 :: a7 :: a8 :: a9 :: a10 :: a11 :: some v :: r) H) : gName 12 v (a0 :: a1 :: a2 :: a3 :: a4 :: a5 :: a6 :: a7 :: a8 :: a9 :: a10 :: a11 :: a :: r) H Q := h
theorem g12 {a0 a1 a2 a3 a4 a5 a6 a7 a8 a9 a10 a11 : Option V} {ti : TIp} (h : te (a0 :: a1 :: a2 :: a3 :: a4 :: a5 :: a6 :: a7 :: a8 :: a9 :: a10 :: a11 :: some x :: r) H fun y H1 => ti x y H1 fun z H2 => D.nx (a0 :: a1 :: a2 :: a3 :: a4 :: a5 :: a6 :: a7 :: a8 :: a9 :: a10 :: a11 :: some z :: r) H2) : tAug 12 te ti D (a0 :: a1 :: a2 :: a3 :: a4 :: a5 :: a6 :: a7 :: a8 :: a9 :: a10 :: a11 :: some x :: r) H := ⟨x, rfl, h⟩
theorem v13 {a0 a1 a2 a3 a4 a5 a6 a7 a8 a9 a10 a11 a12 : Option V} (h : Q v H) : tVar 13 (a0 :: a1 :: a2 :: a3 :: a4 :: a5 :: a6 :: a7 :: a8 :: a9 :: a10 :: a11 :: a12 :: some v :: r) H Q := ⟨v, rfl, h⟩
theorem n13 {a0 a1 a2 a3 a4 a5 a6 a7 a8 a9 a10 a11 a12 : Option V} {Q : L2.St → Hp → Prop} (h : Q (a0 :: a1 :: a2 :: a3 :: a4 :: a5 :: a6 :: a7 :: a8 :: a9 :: a10 :: a11 :: a12 :: some v :: r) H) : gName 13 v (a0 :: a1 :: a2 :: a3 :: a4 :: a5 :: a6 :: a7 :: a8 :: a9 :: a10 :: a11 :: a12 :: a :: r) H Q := h
theorem g13 {a0 a1 a2 a3 a4 a5 a6 a7 a8 a9 a10 a11 a12 : Option V} {ti : TIp} (h : te (a0 :: a1 :: a2 :: a3 :: a4 :: a5 :: a6 :: a7 :: a8 :: a9 :: a10 :: a11 :: a12 :: some x :: r) H fun y H1 => ti x y H1 fun z H2 => D.nx (a0 :: a1 :: a2 :: a3 :: a4 :: a5 :: a6 :: a7 :: a8 :: a9 :: a10 :: a11 :: a12 :: some z :: r) H2) : tAug 13 te ti D (a0 :: a1 :: a2 :: a3 :: a4 :: a5 :: a6 :: a7 :: a8 :: a9 :: a10 :: a11 :: a12 :: some x :: r) H := ⟨x, rfl, h⟩
theorem v14 {a0 a1 a2 a3 a4 a5 a6 a7 a8 a9 a10 a11 a12 a13 : Option V} (h : Q v H) : tVar 14 (a0 :: a1 :: a2 :: a3 :: a4 :: a5 :: a6 :: a7 :: a8 :: a9 :: a10 :: a11 :: a12 :: a13 :: some v :: r) H Q := ⟨v, rfl, h⟩
theorem n14 {a0 a1 a2 a3 a4 a5 a6 a7 a8 a9 a10 a11 a12 a13 : Option V} {Q : L2.St → Hp → Prop} (h : Q (a0 :: a1 :: a2 :: a3 :: a4 :: a5 :: a6 :: a7 :: a8 :: a9 :: a10 :: a11 :: a12 :: a13 :: some v :: r) H) : gName 14 v (a0 :: a1 :: a2 :: a3 :: a4 :: a5 :: a6 :: a7 :: a8 :: a9 :: a10 :: a11 :: a12 :: a13 :: a :: r) H Q := h
theorem g14 {a0 a1 a2 a3 a4 a5 a6 a7 a8 a9 a10 a11 a12 a13 : Option V} {ti : TIp} (h : te (a0 :: a1 :: a2 :: a3 :: a4 :: a5 :: a6 :: a7 :: a8 :: a9 :: a10 :: a11 :: a12 :: a13 :: some x :: r) H fun y H1 => ti x y H1 fun z H2 => D.nx (a0 :: a1 :: a2 :: a3 :: a4 :: a5 :: a6 :: a7 :: a8 :: a9 :: a10 :: a11 :: a12 :: a13 :: some z :: r) H2) : tAug 14 te ti D (a0 :: a1 :: a2 :: a3 :: a4 :: a5 :: a6 :: a7 :: a8 :: a9 :: a10 :: a11 :: a12 :: a13 :: some x :: r) H := ⟨x, rfl, h⟩
theorem v15 {a0 a1 a2 a3 a4 a5 a6 a7 a8 a9 a10 a11 a12 a13 a14 : Option V} (h : Q v H) : tVar 15 (a0 :: a1 :: a2 :: a3 :: a4 :: a5 :: a6 :: a7 :: a8 :: a9 :: a10 :: a11 :: a12 :: a13 :: a14 :: some v :: r) H Q := ⟨v, rfl, h⟩
theorem n15 {a0 a1 a2 a3 a4 a5 a6 a7 a8 a9 a10 a11 a12 a13 a14 : Option V} {Q : L2.St → Hp → Prop} (h : Q (a0 :: a1 :: a2 :: a3 :: a4 :: a5 :: a6 :: a7 :: a8 :: a9 :: a10 :: a11 :: a12 :: a13 :: a14 :: some v :: r) H) : gName 15 v (a0 :: a1 :: a2 :: a3 :: a4 :: a5 :: a6 :: a7 :: a8 :: a9 :: a10 :: a11 :: a12 :: a13 :: a14 :: a :: r) H Q := h
theorem g15 {a0 a1 a2 a3 a4 a5 a6 a7 a8 a9 a10 a11 a12 a13 a14 : Option V} {ti : TIp} (h : te (a0 :: a1 :: a2 :: a3 :: a4 :: a5 :: a6 :: a7 :: a8 :: a9 :: a10 :: a11 :: a12 :: a13 :: a14 :: some x :: r) H fun y H1 => ti x y H1 fun z H2 => D.nx (a0 :: a1 :: a2 :: a3 :: a4 :: a5 :: a6 :: a7 :: a8 :: a9 :: a10 :: a11 :: a12 :: a13 :: a14 :: some z :: r) H2) : tAug 15 te ti D (a0 :: a1 :: a2 :: a3 :: a4 :: a5 :: a6 :: a7 :: a8 :: a9 :: a10 :: a11 :: a12 :: a13 :: a14 :: some x :: r) H := ⟨x, rfl, h⟩
theorem room65 {k : Nat} {A : Around} (r : Room k A) : A.units + 65 < cLine := by
  have := r.un
  omega
/-! ### iterators -/
def lcRest (g : TG) (tt : TT) (te : TE) (vs : List Nat) (σ : L2.St) (Q : VK) (J : It) (H1 : Hp) : Prop := ∀ D, H1 D = none → ∃ W : Nat → Nat → Hp → Prop, (∃ m, W 0 m (upd H1 D (.lst []))) ∧ ∀ i m H, W i m H →
  (J.stop i H ∧ Q (.ref D) H) ∨ (J.go i H ∧ ∃ Nx : Hp → Prop, (∀ H', Nx H' → ∃ m', m' < m ∧ W (i + 1) m' H') ∧ ∀ x H', J.yld i H x H' → g x (wipe σ vs) H' fun σ2 H2 => wipe σ2 vs = wipe σ vs ∧ tt σ2 H2 fun b H3 =>
    if b = true then te σ2 H3 fun y H4 => ∃ acc, H4 D = some (.lst acc) ∧ acc.length < sizeLine ∧ Nx (upd H4 D (.lst (acc ++ [y]))) else Nx H3)
theorem lc {wi : TI} {tt : TT} {ws : List Nat} (h : wi σ H (lcRest g tt te ws σ Q)) : tLc wi g tt te ws σ H Q := h
def forRest (g : TG) (tb : TS) (D : Ends) (σ0 : L2.St) (J : It) (H1 : Hp) : Prop := ∃ W : Nat → Nat → L2.St → Hp → Prop, (∃ m, W 0 m σ0 H1) ∧ ∀ i m σ H, W i m σ H →
  (J.stop i H ∧ D.nx σ H) ∨ (J.go i H ∧ ∃ N : L2.St → Hp → Prop, (∀ σ' H', N σ' H' → ∃ m', m' < m ∧ W (i + 1) m' σ' H') ∧ ∀ x H', J.yld i H x H' → g x σ H' fun σ2 H2 => tb { D with nx := N, ct := N, bk := D.nx } σ2 H2)
theorem for_ {wi : TI} {tb : TS} (h : wi σ H (forRest g tb D σ)) : tFor wi g tb D σ H := h
variable {R : It → Hp → Prop}
theorem ilist (h : te σ H fun x H1 => ∃ a, x = .ref a ∧ (∃ xs, SqL K H1 a xs) ∧ R (Itl K a) H1) : iList K te σ H R := h
theorem itup (h : te σ H fun x H1 => ∃ a, x = .ref a ∧ (∃ xs, SqT K H1 a xs) ∧ R (Itt K a) H1) : iTup K te σ H R := h
theorem irng1 (h : tr σ H fun vs H1 => ∃ j : Int, vs = [.int j] ∧ -(2 ^ 62) ≤ j ∧ j < 2 ^ 62 ∧ R (Itr 0 j.toNat) H1) : iRng1 tr σ H R := h
theorem irng2 (h : tr σ H fun vs H1 => ∃ i j : Int, vs = [.int i, .int j] ∧ (-(2 ^ 62) ≤ i ∧ i < 2 ^ 62 ∧ -(2 ^ 62) ≤ j ∧ j < 2 ^ 62) ∧ R (Itr i (j - i).toNat) H1) : iRng2 tr σ H R := h
theorem ienum (h : tr σ H fun vs H1 => ∃ a xs, vs = [.ref a] ∧ SqL K H1 a xs ∧ R (Ite K a) H1) : iEnum K tr σ H R := h
theorem istr (h : te σ H fun v H1 => ∃ x, v = .str x ∧ R (Its x) H1) : iStr te σ H R := h
theorem refA {a : Addr} {P : Addr → Prop} (h : P a) : ∃ b, V.ref a = .ref b ∧ P b := ⟨a, rfl, h⟩
theorem strA {a : Str} {P : Str → Prop} (h : P a) : ∃ b, V.str a = .str b ∧ P b := ⟨a, rfl, h⟩
theorem sqA {l : Addr} {xs : List V} {A : Prop} (h : H l = some (.lst xs)) (q : A) : (∃ xs, SqL K H l xs) ∧ A := ⟨⟨_, SqL.of h⟩, q⟩
theorem sqAq {l : Addr} {xs : List V} {A : Prop} (h : SqL K H l xs) (q : A) : (∃ xs, SqL K H l xs) ∧ A := ⟨⟨_, h⟩, q⟩
theorem stA {l : Addr} {xs : List V} {A : Prop} (h : H l = some (.tup xs)) (q : A) : (∃ xs, SqT K H l xs) ∧ A := ⟨⟨_, SqT.of h⟩, q⟩
theorem stAq {l : Addr} {xs : List V} {A : Prop} (h : SqT K H l xs) (q : A) : (∃ xs, SqT K H l xs) ∧ A := ⟨⟨_, h⟩, q⟩
theorem enA {l : Addr} {xs : List V} {P : Addr → Prop} (h : H l = some (.lst xs)) (q : P l) : ∃ a ys, [V.ref l] = [.ref a] ∧ SqL K H a ys ∧ P a := ⟨l, xs, rfl, SqL.of h, q⟩
theorem enAq {l : Addr} {xs : List V} {P : Addr → Prop} (h : SqL K H l xs) (q : P l) : ∃ a ys, [V.ref l] = [.ref a] ∧ SqL K H a ys ∧ P a := ⟨l, xs, rfl, h, q⟩
theorem lenL {l : Addr} {xs : List V} {P : List V → Prop} (h : H l = some (.lst xs)) (q : P xs) : ∃ p ys, [V.ref l] = [.ref p] ∧ (SqL K H p ys ∨ SqT K H p ys) ∧ P ys := ⟨l, xs, rfl, .inl (SqL.of h), q⟩
theorem lenLq {l : Addr} {xs : List V} {P : List V → Prop} (h : SqL K H l xs) (q : P xs) : ∃ p ys, [V.ref l] = [.ref p] ∧ (SqL K H p ys ∨ SqT K H p ys) ∧ P ys := ⟨l, xs, rfl, .inl h, q⟩
theorem lenTq {l : Addr} {xs : List V} {P : List V → Prop} (h : SqT K H l xs) (q : P xs) : ∃ p ys, [V.ref l] = [.ref p] ∧ (SqL K H p ys ∨ SqT K H p ys) ∧ P ys := ⟨l, xs, rfl, .inr h, q⟩
theorem lenT {l : Addr} {xs : List V} {P : List V → Prop} (h : H l = some (.tup xs)) (q : P xs) : ∃ p ys, [V.ref l] = [.ref p] ∧ (SqL K H p ys ∨ SqT K H p ys) ∧ P ys := ⟨l, xs, rfl, .inr (SqT.of h), q⟩
/-! ### comprehensions: each element by a relation -/
def But (D : Addr) (H H' : Hp) : Prop := ∀ b o, b ≠ D → H b = some o → H' b = some o
theorem But.refl {D : Addr} : But D H H := fun _ _ _ h => h
theorem But.trans {D : Addr} {H H1 H2 : Hp} (a : But D H H1) (b : But D H1 H2) : But D H H2 := fun x o n h => b x o n (a x o n h)
theorem But.same {D : Addr} {H H1 : Hp} (a : Same H H1) : But D H H1 := fun x o _ h => a x o h
theorem But.at_ {D : Addr} {o : HO} : But D H (upd H D o) := fun x u n h => by rw [upd_ne n]; exact h
theorem But.to {D : Addr} {H H1 : Hp} (a : But D H H1) (n : H D = none) : Same H H1 := fun x o h => a x o (fun z => by rw [z, n] at h; cases h) h
theorem lc_rel {J : It} {n : Nat} {G : Hp → Prop} {Y : Nat → Hp → V → Hp → Prop} (w : Walk J n G Y) {g : TG} {te : TE} {vs : List Nat} {σ : L2.St} {H1 : Hp} {D : Addr} {Qd : Hp → Prop} (R : Nat → V → Hp → Prop)
    (nD : H1 D = none) (hn : n ≤ 100000) (mono : ∀ i v H H', R i v H → But D H H' → R i v H') (hG : ∀ H, But D H1 H → G H)
    (hs : ∀ i x H H' (Kt : VK), i < n → But D H1 H → (∃ xs, H D = some (.lst xs)) → Y i H x H' → (∀ y H4, R i y H4 → Same H H4 → Kt y H4) → g x (wipe σ vs) H' fun σ2 H2 => wipe σ2 vs = wipe σ vs ∧ te σ2 H2 Kt)
    (hd : ∀ H ys, ys.length = n → (∀ i v, ys[i]? = some v → R i v H) → Same H1 H → H D = some (.lst ys) → Qd H) :
    ∃ W : Nat → Nat → Hp → Prop, (∃ m, W 0 m (upd H1 D (.lst []))) ∧ ∀ i m H, W i m H →
      (J.stop i H ∧ Qd H) ∨ (J.go i H ∧ ∃ Nx : Hp → Prop, (∀ H', Nx H' → ∃ m', m' < m ∧ W (i + 1) m' H') ∧ ∀ x H', J.yld i H x H' → g x (wipe σ vs) H' fun σ2 H2 => wipe σ2 vs = wipe σ vs ∧ tYes σ2 H2 fun b H3 =>
        if b = true then te σ2 H3 fun y H4 => ∃ acc, H4 D = some (.lst acc) ∧ acc.length < sizeLine ∧ Nx (upd H4 D (.lst (acc ++ [y]))) else Nx H3) := by
  refine lc_it w (fun i H => ∃ ys, ys.length = i ∧ (∀ i v, ys[i]? = some v → R i v H) ∧ But D H1 H ∧ H D = some (.lst ys)) ⟨[], rfl, fun i v h => by simp at h, But.at_, upd_same⟩ (fun i H _ h => ?_) (fun i x H H' hi h y => ?_) (fun H h => ?_)
  · obtain ⟨_, _, _, b, _⟩ := h
    exact hG H b
  · obtain ⟨ys, hl, hr, b, hD⟩ := h
    refine hs i x H H' _ hi b ⟨_, hD⟩ y fun v H4 r sm => ?_
    refine ⟨ys, sm _ _ hD, szl (by omega), ys ++ [v], by simp [hl], fun j u hj => ?_, (b.trans (But.same sm)).trans But.at_, upd_same⟩
    by_cases hj2 : j < ys.length
    · rw [List.getElem?_append_left hj2] at hj
      exact mono _ _ _ _ (hr j u hj) ((But.same sm).trans But.at_)
    · have e : j = ys.length := by
        have := (List.getElem?_eq_some_iff.mp hj).1
        simp at this; omega
      subst e
      rw [List.getElem?_append_right (Nat.le_refl _)] at hj
      simp at hj
      subst hj
      rw [hl]
      exact mono _ _ _ _ r But.at_
  · obtain ⟨ys, hl, hr, b, hD⟩ := h
    exact hd H ys hl hr (b.to nD) hD
/-! ### tests, ints in lists -/
theorem ifD {p : Prop} [Decidable p] {A B : Prop} (h1 : p → A) (h2 : ¬ p → B) : if decide p = true then A else B := by
  by_cases h : p
  · rw [decide_eq_true h, if_pos rfl]; exact h1 h
  · rw [decide_eq_false h, if_neg Bool.false_ne_true]; exact h2 h
theorem ifN {p : Prop} [Decidable p] {A B : Prop} (h1 : ¬ p → A) (h2 : p → B) : if (!decide p) = true then A else B := by
  by_cases h : p
  · rw [decide_eq_true h, if_neg (by decide)]; exact h2 h
  · rw [decide_eq_false h, if_pos (by decide)]; exact h1 h
theorem ifT {A B : Prop} (h : A) : if true = true then A else B := by rw [if_pos rfl]; exact h
theorem ifF {A B : Prop} (h : B) : if false = true then A else B := by rw [if_neg Bool.false_ne_true]; exact h
theorem ifB {b : Bool} {A B : Prop} (h1 : b = true → A) (h2 : b = false → B) : if b = true then A else B := by
  cases b with
  | true => exact ifT (h1 rfl)
  | false => exact ifF (h2 rfl)
theorem ifNB {b : Bool} {A B : Prop} (h1 : b = false → A) (h2 : b = true → B) : if (!b) = true then A else B := by
  cases b with
  | true => exact ifF (h2 rfl)
  | false => exact ifT (h1 rfl)
theorem flat_ints (ns : List Int) : (ns.map V.int).all flatV = true := by
  rw [List.all_eq_true]
  intro x hx
  obtain ⟨i, _, rfl⟩ := List.mem_map.mp hx
  rfl
theorem flat_strs (ns : List Str) : (ns.map V.str).all flatV = true := by
  rw [List.all_eq_true]
  intro x hx
  obtain ⟨i, _, rfl⟩ := List.mem_map.mp hx
  rfl
theorem eqV_ints (a b : Int) : eqV (.int a) (.int b) = decide (a = b) := by
  by_cases h : a = b <;> simp [eqV, h]
theorem inV_ints (x : Int) (r : List Int) : inV (.int x) (r.map V.int) = decide (x ∈ r) := by
  unfold inV
  rw [List.any_map]
  by_cases h : x ∈ r
  · rw [decide_eq_true h, List.any_eq_true]
    exact ⟨x, h, beq_self_eq_true x⟩
  · rw [decide_eq_false h, List.any_eq_false]
    intro y hy e
    have e2 : (y == x) = true := e
    exact h (by rw [← eq_of_beq e2]; exact hy)
theorem first_at (ns : List Int) (n : Int) (h : n ∈ ns) : ∃ j : Nat, ns[j]? = some n ∧ ∀ i, i < j → ns[i]? ≠ some n := by
  induction ns with
  | nil => simp at h
  | cons a r ih =>
    by_cases e : a = n
    · exact ⟨0, by simp [e], fun i hi => absurd hi (Nat.not_lt_zero _)⟩
    · obtain ⟨j, h1, h2⟩ := ih ((List.mem_cons.mp h).resolve_left fun z => e z.symm)
      refine ⟨j + 1, by simpa using h1, fun i hi => ?_⟩
      cases i with
      | zero => simp [e]
      | succ i => simpa using h2 i (by omega)
theorem inI {p : Addr} {ns : List Int} {n : Int} (h : H p = some (.lst (ns.map V.int))) (q : Q (.bl (decide (n ∈ ns))) H) : rIn K false (.int n) (.ref p) H Q :=
  ⟨p, _, rfl, .inl (SqL.of h), rfl, flat_ints _, by rw [inV_ints]; exact q⟩
theorem ninI {p : Addr} {ns : List Int} {n : Int} (h : H p = some (.lst (ns.map V.int))) (q : Q (.bl (!decide (n ∈ ns))) H) : rIn K true (.int n) (.ref p) H Q :=
  ⟨p, _, rfl, .inl (SqL.of h), rfl, flat_ints _, by rw [inV_ints]; exact q⟩
theorem idxI {a : Addr} {ns : List Int} {n : Int} {j : Nat} (h : H a = some (.lst (ns.map V.int))) (hj : ns[j]? = some n) (hf : ∀ i, i < j → ns[i]? ≠ some n) (q : Q (.int (j : Nat)) H) : rIndex K (.ref a) [.int n] H Q :=
  ⟨a, _, _, j, .int n, rfl, rfl, SqL.of h, rfl, flat_ints _, by rw [List.getElem?_map, hj]; rfl, by rw [eqV_ints, decide_eq_true rfl], fun m z' hm hz => by
    rw [List.getElem?_map] at hz
    cases e : ns[m]? with
    | none => rw [e] at hz; cases hz
    | some x =>
      rw [e] at hz; cases hz
      rw [eqV_ints]
      exact decide_eq_false fun e2 => hf m hm (by rw [e, e2]), q⟩
theorem vals_map {n : Nat} {ns : List V} (f : Nat → Int) (ln : ns.length = n) (hn : ∀ (i : Nat) v, ns[i]? = some v → v = .int (f i)) : ns = ((List.range n).map f).map V.int := by
  refine List.ext_getElem? fun i => ?_
  rw [List.map_map, List.getElem?_map]
  by_cases hi : i < n
  · obtain ⟨v, hv⟩ : ∃ v, ns[i]? = some v := ⟨_, List.getElem?_eq_getElem (by omega)⟩
    rw [hv, List.getElem?_range hi, hn i v hv]
    rfl
  · rw [List.getElem?_eq_none (by omega), List.getElem?_eq_none (by rw [List.length_range]; omega)]
    rfl
theorem at_int {ns : List Int} {i : Int} {j : Nat} {n : Int} (e : i = (j : Int)) (h : ns[j]? = some n) : atI (ns.map V.int) i = some (.int n) := by
  subst e
  exact atI_nat (by rw [List.getElem?_map, h]; rfl)
theorem at_val {xs : List V} {i : Int} {j : Nat} (e : i = (j : Int)) (h : xs[j]? = some v) : atI xs i = some v := by
  subst e
  exact atI_nat h
theorem zr {i : Nat} {H H' : Hp} (y : YFn (fun (i : Nat) => V.int ((0 : Int) + (i : Int))) i H x H') : x = .int (i : Int) ∧ H' = H := by
  obtain ⟨a, b⟩ := y
  exact ⟨by rw [b]; show V.int (0 + (i : Int)) = _; rw [Int.zero_add], a⟩
/-! ### new objects, by what they leave -/
def NewT (Q : VK) (xs : List V) (H : Hp) : Prop := xs.length ≤ sizeLine ∧ ∀ p, H p = none → Q (.ref p) (upd H p (.tup xs))
def NewL (Q : VK) (xs : List V) (H : Hp) : Prop := xs.length ≤ sizeLine ∧ ∀ p, H p = none → Q (.ref p) (upd H p (.lst xs))
theorem tupN (h : tr σ H (NewT Q)) : tTup tr σ H Q := h
theorem lstN (h : tr σ H (NewL Q)) : tLst tr σ H Q := h
theorem nwT {xs : List V} (s : xs.length ≤ sizeLine) (h : ∀ p H', H p = none → Same H H' → H' p = some (.tup xs) → Q (.ref p) H') : NewT Q xs H := ⟨s, fun p np => h p _ np (same_new np) upd_same⟩
theorem nwL {xs : List V} (s : xs.length ≤ sizeLine) (h : ∀ p H', H p = none → Same H H' → H' p = some (.lst xs) → Q (.ref p) H') : NewL Q xs H := ⟨s, fun p np => h p _ np (same_new np) upd_same⟩
def ListOf (K : PySem.W.Frag) (Q : VK) (vs : List V) (H : Hp) : Prop := ∃ p ys, vs = [.ref p] ∧ (SqL K H p ys ∨ SqT K H p ys) ∧ ∀ l, H l = none → Q (.ref l) (upd H l (.lst ys))
theorem cbListOf (h : tr σ H (ListOf K Q)) : tCB (fun xs H Q => ∃ p ys, xs = [.ref p] ∧ (SqL K H p ys ∨ SqT K H p ys) ∧ ∀ l, H l = none → Q (.ref l) (upd H l (.lst ys))) tr σ H Q := h
theorem listOfq {a : Addr} {ys : List V} (s : SqL K H a ys) (h : ∀ p H', H p = none → Same H H' → H' p = some (.lst ys) → Q (.ref p) H') : ListOf K Q [.ref a] H := ⟨a, ys, rfl, .inl s, fun p np => h p _ np (same_new np) upd_same⟩
theorem listOf {a : Addr} {ys : List V} (s : H a = some (.lst ys)) (h : ∀ p H', H p = none → Same H H' → H' p = some (.lst ys) → Q (.ref p) H') : ListOf K Q [.ref a] H := listOfq (SqL.of s) h
def SlL (K : PySem.W.Frag) (x : V) (lo hi : Option Int) (Q : VK) (H : Hp) : Prop := ∃ a xs, x = .ref a ∧ SqL K H a xs ∧ ∀ p, H p = none → Q (.ref p) (upd H p (.lst (cutV xs lo hi)))
theorem slN {tl th : TO} (h : te σ H fun x H1 => tl σ H1 fun l H2 => th σ H2 fun u H3 => SlL K x l u Q H3) : L2.tSl (rSlL K) te tl th σ H Q := h
theorem slq {a : Addr} {xs : List V} {lo hi : Option Int} (s : SqL K H a xs) (h : ∀ p H', H p = none → Same H H' → H' p = some (.lst (cutV xs lo hi)) → Q (.ref p) H') : SlL K (.ref a) lo hi Q H := ⟨a, xs, rfl, s, fun p np => h p _ np (same_new np) upd_same⟩
theorem slo {a : Addr} {xs : List V} {lo hi : Option Int} (s : H a = some (.lst xs)) (h : ∀ p H', H p = none → Same H H' → H' p = some (.lst (cutV xs lo hi)) → Q (.ref p) H') : SlL K (.ref a) lo hi Q H := slq (SqL.of s) h
def SrtI (K : PySem.W.Frag) (Q : VK) (vs : List V) (H : Hp) : Prop := rSortedI K vs H Q
theorem cbSrtI (h : tr σ H (SrtI K Q)) : tCB (rSortedI K) tr σ H Q := h
theorem srtI {a : Addr} {ns : List Int} (s : SqL K H a (ns.map V.int)) (h : ∀ (ns' : List Int) p H', ns'.Perm ns → ns'.Pairwise (· ≤ ·) → H p = none → Same H H' → H' p = some (.lst (ns'.map V.int)) → Q (.ref p) H') : SrtI K Q [.ref a] H :=
  ⟨a, ns, rfl, s, fun ns' p e1 e2 np => h ns' p _ e1 e2 np (same_new np) upd_same⟩
theorem srtIo {a : Addr} {ns : List Int} (s : H a = some (.lst (ns.map V.int))) (h : ∀ (ns' : List Int) p H', ns'.Perm ns → ns'.Pairwise (· ≤ ·) → H p = none → Same H H' → H' p = some (.lst (ns'.map V.int)) → Q (.ref p) H') : SrtI K Q [.ref a] H := srtI (SqL.of s) h
theorem eqD {d e : PyData} (h1 : Dp K H x d) (h2 : Dp K H y e) (s1 : SeqAt.shaped d = true) (s2 : SeqAt.shaped e = true) (q : Q (.bl (PyData.eqv d e)) H) : rEqD K x y H Q := ⟨d, e, h1, h2, s1, s2, q⟩
theorem neD {d e : PyData} (h1 : Dp K H x d) (h2 : Dp K H y e) (s1 : SeqAt.shaped d = true) (s2 : SeqAt.shaped e = true) (q : Q (.bl (!PyData.eqv d e)) H) : rNeD K x y H Q := ⟨d, e, h1, h2, s1, s2, q⟩
/-! ### isinstance -/
theorem isi {T U : String} {b : Bool} (t : TyX K H x (.type T)) (k : kitB T U = some b) (q : Q (.bl b) H) : rIsi K [x, .ty U] H Q := ⟨x, .ty U, _, _, b, rfl, .ty _, t, kit_ty k, q⟩
theorem isi_ii {n : Int} (q : Q (.bl true) H) : rIsi K [.int n, .ty "int"] H Q := isi (.base (.int _)) (by decide +kernel) q
theorem isi_ib {n : Int} (q : Q (.bl false) H) : rIsi K [.int n, .ty "bool"] H Q := isi (.base (.int _)) (by decide +kernel) q
theorem isi_is {n : Int} (q : Q (.bl false) H) : rIsi K [.int n, .ty "str"] H Q := isi (.base (.int _)) (by decide +kernel) q
theorem isi_il {n : Int} (q : Q (.bl false) H) : rIsi K [.int n, .ty "list"] H Q := isi (.base (.int _)) (by decide +kernel) q
theorem isi_it {n : Int} (q : Q (.bl false) H) : rIsi K [.int n, .ty "tuple"] H Q := isi (.base (.int _)) (by decide +kernel) q
theorem isi_id {n : Int} (q : Q (.bl false) H) : rIsi K [.int n, .ty "dict"] H Q := isi (.base (.int _)) (by decide +kernel) q
theorem isi_bi {n : Bool} (q : Q (.bl true) H) : rIsi K [.bl n, .ty "int"] H Q := isi (.base (.bl _)) (by decide +kernel) q
theorem isi_bb {n : Bool} (q : Q (.bl true) H) : rIsi K [.bl n, .ty "bool"] H Q := isi (.base (.bl _)) (by decide +kernel) q
theorem isi_bs {n : Bool} (q : Q (.bl false) H) : rIsi K [.bl n, .ty "str"] H Q := isi (.base (.bl _)) (by decide +kernel) q
theorem isi_bl {n : Bool} (q : Q (.bl false) H) : rIsi K [.bl n, .ty "list"] H Q := isi (.base (.bl _)) (by decide +kernel) q
theorem isi_bt {n : Bool} (q : Q (.bl false) H) : rIsi K [.bl n, .ty "tuple"] H Q := isi (.base (.bl _)) (by decide +kernel) q
theorem isi_bd {n : Bool} (q : Q (.bl false) H) : rIsi K [.bl n, .ty "dict"] H Q := isi (.base (.bl _)) (by decide +kernel) q
theorem isi_si {n : Str} (q : Q (.bl false) H) : rIsi K [.str n, .ty "int"] H Q := isi (.base (.str _)) (by decide +kernel) q
theorem isi_sb {n : Str} (q : Q (.bl false) H) : rIsi K [.str n, .ty "bool"] H Q := isi (.base (.str _)) (by decide +kernel) q
theorem isi_ss {n : Str} (q : Q (.bl true) H) : rIsi K [.str n, .ty "str"] H Q := isi (.base (.str _)) (by decide +kernel) q
theorem isi_sl {n : Str} (q : Q (.bl false) H) : rIsi K [.str n, .ty "list"] H Q := isi (.base (.str _)) (by decide +kernel) q
theorem isi_st {n : Str} (q : Q (.bl false) H) : rIsi K [.str n, .ty "tuple"] H Q := isi (.base (.str _)) (by decide +kernel) q
theorem isi_sd {n : Str} (q : Q (.bl false) H) : rIsi K [.str n, .ty "dict"] H Q := isi (.base (.str _)) (by decide +kernel) q
theorem isi_li {n : Addr} {xs : List V} (h : H n = some (.lst xs)) (q : Q (.bl false) H) : rIsi K [.ref n, .ty "int"] H Q := isi (.base (.lst h)) (by decide +kernel) q
theorem isi_lb {n : Addr} {xs : List V} (h : H n = some (.lst xs)) (q : Q (.bl false) H) : rIsi K [.ref n, .ty "bool"] H Q := isi (.base (.lst h)) (by decide +kernel) q
theorem isi_ls {n : Addr} {xs : List V} (h : H n = some (.lst xs)) (q : Q (.bl false) H) : rIsi K [.ref n, .ty "str"] H Q := isi (.base (.lst h)) (by decide +kernel) q
theorem isi_ll {n : Addr} {xs : List V} (h : H n = some (.lst xs)) (q : Q (.bl true) H) : rIsi K [.ref n, .ty "list"] H Q := isi (.base (.lst h)) (by decide +kernel) q
theorem isi_lt {n : Addr} {xs : List V} (h : H n = some (.lst xs)) (q : Q (.bl false) H) : rIsi K [.ref n, .ty "tuple"] H Q := isi (.base (.lst h)) (by decide +kernel) q
theorem isi_ld {n : Addr} {xs : List V} (h : H n = some (.lst xs)) (q : Q (.bl false) H) : rIsi K [.ref n, .ty "dict"] H Q := isi (.base (.lst h)) (by decide +kernel) q
theorem isi_ti {n : Addr} {xs : List V} (h : H n = some (.tup xs)) (q : Q (.bl false) H) : rIsi K [.ref n, .ty "int"] H Q := isi (.base (.tup h)) (by decide +kernel) q
theorem isi_tb {n : Addr} {xs : List V} (h : H n = some (.tup xs)) (q : Q (.bl false) H) : rIsi K [.ref n, .ty "bool"] H Q := isi (.base (.tup h)) (by decide +kernel) q
theorem isi_ts {n : Addr} {xs : List V} (h : H n = some (.tup xs)) (q : Q (.bl false) H) : rIsi K [.ref n, .ty "str"] H Q := isi (.base (.tup h)) (by decide +kernel) q
theorem isi_tl {n : Addr} {xs : List V} (h : H n = some (.tup xs)) (q : Q (.bl false) H) : rIsi K [.ref n, .ty "list"] H Q := isi (.base (.tup h)) (by decide +kernel) q
theorem isi_tt {n : Addr} {xs : List V} (h : H n = some (.tup xs)) (q : Q (.bl true) H) : rIsi K [.ref n, .ty "tuple"] H Q := isi (.base (.tup h)) (by decide +kernel) q
theorem isi_td {n : Addr} {xs : List V} (h : H n = some (.tup xs)) (q : Q (.bl false) H) : rIsi K [.ref n, .ty "dict"] H Q := isi (.base (.tup h)) (by decide +kernel) q
theorem isi_ni  (q : Q (.bl false) H) : rIsi K [.non, .ty "int"] H Q := isi (.base .non) (by decide +kernel) q
theorem isi_nb  (q : Q (.bl false) H) : rIsi K [.non, .ty "bool"] H Q := isi (.base .non) (by decide +kernel) q
theorem isi_ns  (q : Q (.bl false) H) : rIsi K [.non, .ty "str"] H Q := isi (.base .non) (by decide +kernel) q
theorem isi_nl  (q : Q (.bl false) H) : rIsi K [.non, .ty "list"] H Q := isi (.base .non) (by decide +kernel) q
theorem isi_nt  (q : Q (.bl false) H) : rIsi K [.non, .ty "tuple"] H Q := isi (.base .non) (by decide +kernel) q
theorem isi_nd  (q : Q (.bl false) H) : rIsi K [.non, .ty "dict"] H Q := isi (.base .non) (by decide +kernel) q
/-! ### slices of lists -/
theorem cut_to (xs : List V) (n : Nat) : cutV xs none (some (n : Int)) = xs.take n := by
  unfold cutV
  rw [HT.sIx_nat, HT.sIx_none, List.drop_zero, Nat.sub_zero]
  rcases Nat.le_total n xs.length with h | h
  · rw [Nat.min_eq_left h]
  · rw [Nat.min_eq_right h, List.take_of_length_le (Nat.le_refl _), List.take_of_length_le h]
theorem cut_from (xs : List V) (n : Nat) : cutV xs (some (n : Int)) none = xs.drop n := by
  unfold cutV
  rw [HT.sIx_nat, HT.sIx_none]
  rcases Nat.le_total n xs.length with h | h
  · rw [Nat.min_eq_left h, List.take_of_length_le (by rw [List.length_drop]; omega)]
  · rw [Nat.min_eq_right h, List.drop_of_length_le h, List.drop_of_length_le (Nat.le_refl _), List.take_nil]
theorem eqv_self (d : PyData) (h : d.canLay0 = true) : PyData.eqv d d = true := PySem.SeqAt.eqv_refl d h
/-! ### ints of a list, filtered -/
theorem lc_fl {a : Addr} {ns : List Int} {g : TG} {tt : TT} {te : TE} {vs : List Nat} {σ : L2.St} {H1 : Hp} {C : Addr} {Qd : Hp → Prop} (p : Int → Bool) (hS : SqL K H1 a (ns.map V.int)) (nD : H1 C = none) (hn : ns.length ≤ 90000)
    (hs : ∀ (i : Nat) H (n : Int) (Kt : VK) (Kn : Hp → Prop), ns[i]? = some n → But C H1 H → (p n = true → Kt (.int n) H) → (p n = false → Kn H) → g (.int n) (wipe σ vs) H fun σ2 H2 => wipe σ2 vs = wipe σ vs ∧ tt σ2 H2 fun b H3 => if b = true then te σ2 H3 Kt else Kn H3)
    (hd : ∀ H, Same H1 H → H C = some (.lst ((ns.filter p).map V.int)) → Qd H) :
    ∃ W : Nat → Nat → Hp → Prop, (∃ m, W 0 m (upd H1 C (.lst []))) ∧ ∀ i m H, W i m H →
      ((Itl K a).stop i H ∧ Qd H) ∨ ((Itl K a).go i H ∧ ∃ Nx : Hp → Prop, (∀ H', Nx H' → ∃ m', m' < m ∧ W (i + 1) m' H') ∧ ∀ x H', (Itl K a).yld i H x H' → g x (wipe σ vs) H' fun σ2 H2 => wipe σ2 vs = wipe σ vs ∧ tt σ2 H2 fun b H3 =>
        if b = true then te σ2 H3 fun y H4 => ∃ acc, H4 C = some (.lst acc) ∧ acc.length < sizeLine ∧ Nx (upd H4 C (.lst (acc ++ [y]))) else Nx H3) := by
  refine lc_it (walk_list (xs := ns.map V.int)) (fun i H => But C H1 H ∧ H C = some (.lst (((ns.take i).filter p).map V.int))) ⟨But.at_, by simp [upd_same]⟩ (fun i H _ h => (h.1.to nD).seq hS) (fun i x H H' hi ⟨b, hD⟩ y => ?_) (fun H ⟨b, hD⟩ => ?_)
  · obtain ⟨rfl, hx⟩ := y
    rw [List.getElem?_map] at hx
    obtain ⟨n, hn2, rfl⟩ : ∃ n, ns[i]? = some n ∧ V.int n = x := by
      cases e : ns[i]? with
      | none => rw [e] at hx; cases hx
      | some n => rw [e] at hx; exact ⟨n, rfl, Option.some.inj hx⟩
    have tk : (ns.take (i + 1)).filter p = (ns.take i).filter p ++ [n].filter p := by
      rw [List.take_add_one, hn2, List.filter_append]; rfl
    refine hs i _ n _ _ hn2 b (fun hp => ?_) (fun hp => ?_)
    · refine ⟨_, hD, szl ?_, b.trans But.at_, ?_⟩
      · rw [List.length_map]
        have := List.length_filter_le p (ns.take i)
        rw [List.length_take] at this
        omega
      · rw [upd_same, tk, List.filter_cons_of_pos hp]
        simp
    · refine ⟨b, ?_⟩
      rw [tk, List.filter_cons_of_neg (by simp [hp])]
      simpa using hD
  · rw [List.length_map, List.take_of_length_le (Nat.le_refl _)] at hD
    exact hd H (b.to nD) hD
theorem intI {i : Int} {A : Int → Prop} {B : Prop} (h : A i) : (∃ j, [V.int i] = [.int j] ∧ A j) ∨ B := .inl ⟨i, rfl, h⟩
theorem pos_ne {i : Int} (h : 0 < i) : i ≠ 0 := by omega
theorem ifnT {A B : Prop} (h : B) : if (!true) = true then A else B := by rw [if_neg (by decide)]; exact h
theorem ifnF {A B : Prop} (h : A) : if (!false) = true then A else B := by rw [if_pos (by decide)]; exact h
theorem cbListOfR {tr : TA} (h : tr σ H (ListOf K Q)) : tCB (rListOf K) tr σ H Q := h
def CatL (Q : VK) (x y : V) (H : Hp) : Prop := ∃ l b xs zs, x = .ref l ∧ y = .ref b ∧ H l = some (.lst xs) ∧ H b = some (.lst zs) ∧ xs.length + zs.length ≤ sizeLine ∧ ∀ p, H p = none → Q (.ref p) (upd H p (.lst (xs ++ zs)))
theorem catI (h : CatL Q x y H) : rCat x y H Q := h
theorem cat {a b : Addr} {xs zs : List V} (h1 : H a = some (.lst xs)) (h2 : H b = some (.lst zs)) (s : xs.length + zs.length ≤ 100000) (h : ∀ p H', H p = none → Same H H' → H' p = some (.lst (xs ++ zs)) → Q (.ref p) H') : CatL Q (.ref a) (.ref b) H := ⟨a, b, xs, zs, rfl, rfl, h1, h2, sz s, fun p np => h p _ np (same_new np) upd_same⟩
theorem v16 {a0 a1 a2 a3 a4 a5 a6 a7 a8 a9 a10 a11 a12 a13 a14 a15 : Option V} (h : Q v H) : tVar 16 (a0 :: a1 :: a2 :: a3 :: a4 :: a5 :: a6 :: a7 :: a8 :: a9 :: a10 :: a11 :: a12 :: a13 :: a14 :: a15 :: some v :: r) H Q := ⟨v, rfl, h⟩
theorem n16 {a0 a1 a2 a3 a4 a5 a6 a7 a8 a9 a10 a11 a12 a13 a14 a15 : Option V} {Q : L2.St → Hp → Prop} (h : Q (a0 :: a1 :: a2 :: a3 :: a4 :: a5 :: a6 :: a7 :: a8 :: a9 :: a10 :: a11 :: a12 :: a13 :: a14 :: a15 :: some v :: r) H) : gName 16 v (a0 :: a1 :: a2 :: a3 :: a4 :: a5 :: a6 :: a7 :: a8 :: a9 :: a10 :: a11 :: a12 :: a13 :: a14 :: a15 :: a :: r) H Q := h
theorem g16 {a0 a1 a2 a3 a4 a5 a6 a7 a8 a9 a10 a11 a12 a13 a14 a15 : Option V} {ti : TIp} (h : te (a0 :: a1 :: a2 :: a3 :: a4 :: a5 :: a6 :: a7 :: a8 :: a9 :: a10 :: a11 :: a12 :: a13 :: a14 :: a15 :: some x :: r) H fun y H1 => ti x y H1 fun z H2 => D.nx (a0 :: a1 :: a2 :: a3 :: a4 :: a5 :: a6 :: a7 :: a8 :: a9 :: a10 :: a11 :: a12 :: a13 :: a14 :: a15 :: some z :: r) H2) : tAug 16 te ti D (a0 :: a1 :: a2 :: a3 :: a4 :: a5 :: a6 :: a7 :: a8 :: a9 :: a10 :: a11 :: a12 :: a13 :: a14 :: a15 :: some x :: r) H := ⟨x, rfl, h⟩
theorem v17 {a0 a1 a2 a3 a4 a5 a6 a7 a8 a9 a10 a11 a12 a13 a14 a15 a16 : Option V} (h : Q v H) : tVar 17 (a0 :: a1 :: a2 :: a3 :: a4 :: a5 :: a6 :: a7 :: a8 :: a9 :: a10 :: a11 :: a12 :: a13 :: a14 :: a15 :: a16 :: some v :: r) H Q := ⟨v, rfl, h⟩
theorem n17 {a0 a1 a2 a3 a4 a5 a6 a7 a8 a9 a10 a11 a12 a13 a14 a15 a16 : Option V} {Q : L2.St → Hp → Prop} (h : Q (a0 :: a1 :: a2 :: a3 :: a4 :: a5 :: a6 :: a7 :: a8 :: a9 :: a10 :: a11 :: a12 :: a13 :: a14 :: a15 :: a16 :: some v :: r) H) : gName 17 v (a0 :: a1 :: a2 :: a3 :: a4 :: a5 :: a6 :: a7 :: a8 :: a9 :: a10 :: a11 :: a12 :: a13 :: a14 :: a15 :: a16 :: a :: r) H Q := h
theorem g17 {a0 a1 a2 a3 a4 a5 a6 a7 a8 a9 a10 a11 a12 a13 a14 a15 a16 : Option V} {ti : TIp} (h : te (a0 :: a1 :: a2 :: a3 :: a4 :: a5 :: a6 :: a7 :: a8 :: a9 :: a10 :: a11 :: a12 :: a13 :: a14 :: a15 :: a16 :: some x :: r) H fun y H1 => ti x y H1 fun z H2 => D.nx (a0 :: a1 :: a2 :: a3 :: a4 :: a5 :: a6 :: a7 :: a8 :: a9 :: a10 :: a11 :: a12 :: a13 :: a14 :: a15 :: a16 :: some z :: r) H2) : tAug 17 te ti D (a0 :: a1 :: a2 :: a3 :: a4 :: a5 :: a6 :: a7 :: a8 :: a9 :: a10 :: a11 :: a12 :: a13 :: a14 :: a15 :: a16 :: some x :: r) H := ⟨x, rfl, h⟩
theorem v18 {a0 a1 a2 a3 a4 a5 a6 a7 a8 a9 a10 a11 a12 a13 a14 a15 a16 a17 : Option V} (h : Q v H) : tVar 18 (a0 :: a1 :: a2 :: a3 :: a4 :: a5 :: a6 :: a7 :: a8 :: a9 :: a10 :: a11 :: a12 :: a13 :: a14 :: a15 :: a16 :: a17 :: some v :: r) H Q := ⟨v, rfl, h⟩
theorem n18 {a0 a1 a2 a3 a4 a5 a6 a7 a8 a9 a10 a11 a12 a13 a14 a15 a16 a17 : Option V} {Q : L2.St → Hp → Prop} (h : Q (a0 :: a1 :: a2 :: a3 :: a4 :: a5 :: a6 :: a7 :: a8 :: a9 :: a10 :: a11 :: a12 :: a13 :: a14 :: a15 :: a16 :: a17 :: some v :: r) H) : gName 18 v (a0 :: a1 :: a2 :: a3 :: a4 :: a5 :: a6 :: a7 :: a8 :: a9 :: a10 :: a11 :: a12 :: a13 :: a14 :: a15 :: a16 :: a17 :: a :: r) H Q := h
theorem g18 {a0 a1 a2 a3 a4 a5 a6 a7 a8 a9 a10 a11 a12 a13 a14 a15 a16 a17 : Option V} {ti : TIp} (h : te (a0 :: a1 :: a2 :: a3 :: a4 :: a5 :: a6 :: a7 :: a8 :: a9 :: a10 :: a11 :: a12 :: a13 :: a14 :: a15 :: a16 :: a17 :: some x :: r) H fun y H1 => ti x y H1 fun z H2 => D.nx (a0 :: a1 :: a2 :: a3 :: a4 :: a5 :: a6 :: a7 :: a8 :: a9 :: a10 :: a11 :: a12 :: a13 :: a14 :: a15 :: a16 :: a17 :: some z :: r) H2) : tAug 18 te ti D (a0 :: a1 :: a2 :: a3 :: a4 :: a5 :: a6 :: a7 :: a8 :: a9 :: a10 :: a11 :: a12 :: a13 :: a14 :: a15 :: a16 :: a17 :: some x :: r) H := ⟨x, rfl, h⟩
theorem v19 {a0 a1 a2 a3 a4 a5 a6 a7 a8 a9 a10 a11 a12 a13 a14 a15 a16 a17 a18 : Option V} (h : Q v H) : tVar 19 (a0 :: a1 :: a2 :: a3 :: a4 :: a5 :: a6 :: a7 :: a8 :: a9 :: a10 :: a11 :: a12 :: a13 :: a14 :: a15 :: a16 :: a17 :: a18 :: some v :: r) H Q := ⟨v, rfl, h⟩
theorem n19 {a0 a1 a2 a3 a4 a5 a6 a7 a8 a9 a10 a11 a12 a13 a14 a15 a16 a17 a18 : Option V} {Q : L2.St → Hp → Prop} (h : Q (a0 :: a1 :: a2 :: a3 :: a4 :: a5 :: a6 :: a7 :: a8 :: a9 :: a10 :: a11 :: a12 :: a13 :: a14 :: a15 :: a16 :: a17 :: a18 :: some v :: r) H) : gName 19 v (a0 :: a1 :: a2 :: a3 :: a4 :: a5 :: a6 :: a7 :: a8 :: a9 :: a10 :: a11 :: a12 :: a13 :: a14 :: a15 :: a16 :: a17 :: a18 :: a :: r) H Q := h
theorem g19 {a0 a1 a2 a3 a4 a5 a6 a7 a8 a9 a10 a11 a12 a13 a14 a15 a16 a17 a18 : Option V} {ti : TIp} (h : te (a0 :: a1 :: a2 :: a3 :: a4 :: a5 :: a6 :: a7 :: a8 :: a9 :: a10 :: a11 :: a12 :: a13 :: a14 :: a15 :: a16 :: a17 :: a18 :: some x :: r) H fun y H1 => ti x y H1 fun z H2 => D.nx (a0 :: a1 :: a2 :: a3 :: a4 :: a5 :: a6 :: a7 :: a8 :: a9 :: a10 :: a11 :: a12 :: a13 :: a14 :: a15 :: a16 :: a17 :: a18 :: some z :: r) H2) : tAug 19 te ti D (a0 :: a1 :: a2 :: a3 :: a4 :: a5 :: a6 :: a7 :: a8 :: a9 :: a10 :: a11 :: a12 :: a13 :: a14 :: a15 :: a16 :: a17 :: a18 :: some x :: r) H := ⟨x, rfl, h⟩
theorem v20 {a0 a1 a2 a3 a4 a5 a6 a7 a8 a9 a10 a11 a12 a13 a14 a15 a16 a17 a18 a19 : Option V} (h : Q v H) : tVar 20 (a0 :: a1 :: a2 :: a3 :: a4 :: a5 :: a6 :: a7 :: a8 :: a9 :: a10 :: a11 :: a12 :: a13 :: a14 :: a15 :: a16 :: a17 :: a18 :: a19 :: some v :: r) H Q := ⟨v, rfl, h⟩
theorem n20 {a0 a1 a2 a3 a4 a5 a6 a7 a8 a9 a10 a11 a12 a13 a14 a15 a16 a17 a18 a19 : Option V} {Q : L2.St → Hp → Prop} (h : Q (a0 :: a1 :: a2 :: a3 :: a4 :: a5 :: a6 :: a7 :: a8 :: a9 :: a10 :: a11 :: a12 :: a13 :: a14 :: a15 :: a16 :: a17 :: a18 :: a19 :: some v :: r) H) : gName 20 v (a0 :: a1 :: a2 :: a3 :: a4 :: a5 :: a6 :: a7 :: a8 :: a9 :: a10 :: a11 :: a12 :: a13 :: a14 :: a15 :: a16 :: a17 :: a18 :: a19 :: a :: r) H Q := h
theorem g20 {a0 a1 a2 a3 a4 a5 a6 a7 a8 a9 a10 a11 a12 a13 a14 a15 a16 a17 a18 a19 : Option V} {ti : TIp} (h : te (a0 :: a1 :: a2 :: a3 :: a4 :: a5 :: a6 :: a7 :: a8 :: a9 :: a10 :: a11 :: a12 :: a13 :: a14 :: a15 :: a16 :: a17 :: a18 :: a19 :: some x :: r) H fun y H1 => ti x y H1 fun z H2 => D.nx (a0 :: a1 :: a2 :: a3 :: a4 :: a5 :: a6 :: a7 :: a8 :: a9 :: a10 :: a11 :: a12 :: a13 :: a14 :: a15 :: a16 :: a17 :: a18 :: a19 :: some z :: r) H2) : tAug 20 te ti D (a0 :: a1 :: a2 :: a3 :: a4 :: a5 :: a6 :: a7 :: a8 :: a9 :: a10 :: a11 :: a12 :: a13 :: a14 :: a15 :: a16 :: a17 :: a18 :: a19 :: some x :: r) H := ⟨x, rfl, h⟩
theorem v21 {a0 a1 a2 a3 a4 a5 a6 a7 a8 a9 a10 a11 a12 a13 a14 a15 a16 a17 a18 a19 a20 : Option V} (h : Q v H) : tVar 21 (a0 :: a1 :: a2 :: a3 :: a4 :: a5 :: a6 :: a7 :: a8 :: a9 :: a10 :: a11 :: a12 :: a13 :: a14 :: a15 :: a16 :: a17 :: a18 :: a19 :: a20 :: some v :: r) H Q := ⟨v, rfl, h⟩
theorem n21 {a0 a1 a2 a3 a4 a5 a6 a7 a8 a9 a10 a11 a12 a13 a14 a15 a16 a17 a18 a19 a20 : Option V} {Q : L2.St → Hp → Prop} (h : Q (a0 :: a1 :: a2 :: a3 :: a4 :: a5 :: a6 :: a7 :: a8 :: a9 :: a10 :: a11 :: a12 :: a13 :: a14 :: a15 :: a16 :: a17 :: a18 :: a19 :: a20 :: some v :: r) H) : gName 21 v (a0 :: a1 :: a2 :: a3 :: a4 :: a5 :: a6 :: a7 :: a8 :: a9 :: a10 :: a11 :: a12 :: a13 :: a14 :: a15 :: a16 :: a17 :: a18 :: a19 :: a20 :: a :: r) H Q := h
theorem g21 {a0 a1 a2 a3 a4 a5 a6 a7 a8 a9 a10 a11 a12 a13 a14 a15 a16 a17 a18 a19 a20 : Option V} {ti : TIp} (h : te (a0 :: a1 :: a2 :: a3 :: a4 :: a5 :: a6 :: a7 :: a8 :: a9 :: a10 :: a11 :: a12 :: a13 :: a14 :: a15 :: a16 :: a17 :: a18 :: a19 :: a20 :: some x :: r) H fun y H1 => ti x y H1 fun z H2 => D.nx (a0 :: a1 :: a2 :: a3 :: a4 :: a5 :: a6 :: a7 :: a8 :: a9 :: a10 :: a11 :: a12 :: a13 :: a14 :: a15 :: a16 :: a17 :: a18 :: a19 :: a20 :: some z :: r) H2) : tAug 21 te ti D (a0 :: a1 :: a2 :: a3 :: a4 :: a5 :: a6 :: a7 :: a8 :: a9 :: a10 :: a11 :: a12 :: a13 :: a14 :: a15 :: a16 :: a17 :: a18 :: a19 :: a20 :: some x :: r) H := ⟨x, rfl, h⟩
theorem v22 {a0 a1 a2 a3 a4 a5 a6 a7 a8 a9 a10 a11 a12 a13 a14 a15 a16 a17 a18 a19 a20 a21 : Option V} (h : Q v H) : tVar 22 (a0 :: a1 :: a2 :: a3 :: a4 :: a5 :: a6 :: a7 :: a8 :: a9 :: a10 :: a11 :: a12 :: a13 :: a14 :: a15 :: a16 :: a17 :: a18 :: a19 :: a20 :: a21 :: some v :: r) H Q := ⟨v, rfl, h⟩
theorem n22 {a0 a1 a2 a3 a4 a5 a6 a7 a8 a9 a10 a11 a12 a13 a14 a15 a16 a17 a18 a19 a20 a21 : Option V} {Q : L2.St → Hp → Prop} (h : Q (a0 :: a1 :: a2 :: a3 :: a4 :: a5 :: a6 :: a7 :: a8 :: a9 :: a10 :: a11 :: a12 :: a13 :: a14 :: a15 :: a16 :: a17 :: a18 :: a19 :: a20 :: a21 :: some v :: r) H) : gName 22 v (a0 :: a1 :: a2 :: a3 :: a4 :: a5 :: a6 :: a7 :: a8 :: a9 :: a10 :: a11 :: a12 :: a13 :: a14 :: a15 :: a16 :: a17 :: a18 :: a19 :: a20 :: a21 :: a :: r) H Q := h
theorem g22 {a0 a1 a2 a3 a4 a5 a6 a7 a8 a9 a10 a11 a12 a13 a14 a15 a16 a17 a18 a19 a20 a21 : Option V} {ti : TIp} (h : te (a0 :: a1 :: a2 :: a3 :: a4 :: a5 :: a6 :: a7 :: a8 :: a9 :: a10 :: a11 :: a12 :: a13 :: a14 :: a15 :: a16 :: a17 :: a18 :: a19 :: a20 :: a21 :: some x :: r) H fun y H1 => ti x y H1 fun z H2 => D.nx (a0 :: a1 :: a2 :: a3 :: a4 :: a5 :: a6 :: a7 :: a8 :: a9 :: a10 :: a11 :: a12 :: a13 :: a14 :: a15 :: a16 :: a17 :: a18 :: a19 :: a20 :: a21 :: some z :: r) H2) : tAug 22 te ti D (a0 :: a1 :: a2 :: a3 :: a4 :: a5 :: a6 :: a7 :: a8 :: a9 :: a10 :: a11 :: a12 :: a13 :: a14 :: a15 :: a16 :: a17 :: a18 :: a19 :: a20 :: a21 :: some x :: r) H := ⟨x, rfl, h⟩
theorem v23 {a0 a1 a2 a3 a4 a5 a6 a7 a8 a9 a10 a11 a12 a13 a14 a15 a16 a17 a18 a19 a20 a21 a22 : Option V} (h : Q v H) : tVar 23 (a0 :: a1 :: a2 :: a3 :: a4 :: a5 :: a6 :: a7 :: a8 :: a9 :: a10 :: a11 :: a12 :: a13 :: a14 :: a15 :: a16 :: a17 :: a18 :: a19 :: a20 :: a21 :: a22 :: some v :: r) H Q := ⟨v, rfl, h⟩
theorem n23 {a0 a1 a2 a3 a4 a5 a6 a7 a8 a9 a10 a11 a12 a13 a14 a15 a16 a17 a18 a19 a20 a21 a22 : Option V} {Q : L2.St → Hp → Prop} (h : Q (a0 :: a1 :: a2 :: a3 :: a4 :: a5 :: a6 :: a7 :: a8 :: a9 :: a10 :: a11 :: a12 :: a13 :: a14 :: a15 :: a16 :: a17 :: a18 :: a19 :: a20 :: a21 :: a22 :: some v :: r) H) : gName 23 v (a0 :: a1 :: a2 :: a3 :: a4 :: a5 :: a6 :: a7 :: a8 :: a9 :: a10 :: a11 :: a12 :: a13 :: a14 :: a15 :: a16 :: a17 :: a18 :: a19 :: a20 :: a21 :: a22 :: a :: r) H Q := h
theorem g23 {a0 a1 a2 a3 a4 a5 a6 a7 a8 a9 a10 a11 a12 a13 a14 a15 a16 a17 a18 a19 a20 a21 a22 : Option V} {ti : TIp} (h : te (a0 :: a1 :: a2 :: a3 :: a4 :: a5 :: a6 :: a7 :: a8 :: a9 :: a10 :: a11 :: a12 :: a13 :: a14 :: a15 :: a16 :: a17 :: a18 :: a19 :: a20 :: a21 :: a22 :: some x :: r) H fun y H1 => ti x y H1 fun z H2 => D.nx (a0 :: a1 :: a2 :: a3 :: a4 :: a5 :: a6 :: a7 :: a8 :: a9 :: a10 :: a11 :: a12 :: a13 :: a14 :: a15 :: a16 :: a17 :: a18 :: a19 :: a20 :: a21 :: a22 :: some z :: r) H2) : tAug 23 te ti D (a0 :: a1 :: a2 :: a3 :: a4 :: a5 :: a6 :: a7 :: a8 :: a9 :: a10 :: a11 :: a12 :: a13 :: a14 :: a15 :: a16 :: a17 :: a18 :: a19 :: a20 :: a21 :: a22 :: some x :: r) H := ⟨x, rfl, h⟩
theorem v24 {a0 a1 a2 a3 a4 a5 a6 a7 a8 a9 a10 a11 a12 a13 a14 a15 a16 a17 a18 a19 a20 a21 a22 a23 : Option V} (h : Q v H) : tVar 24 (a0 :: a1 :: a2 :: a3 :: a4 :: a5 :: a6 :: a7 :: a8 :: a9 :: a10 :: a11 :: a12 :: a13 :: a14 :: a15 :: a16 :: a17 :: a18 :: a19 :: a20 :: a21 :: a22 :: a23 :: some v :: r) H Q := ⟨v, rfl, h⟩
theorem n24 {a0 a1 a2 a3 a4 a5 a6 a7 a8 a9 a10 a11 a12 a13 a14 a15 a16 a17 a18 a19 a20 a21 a22 a23 : Option V} {Q : L2.St → Hp → Prop} (h : Q (a0 :: a1 :: a2 :: a3 :: a4 :: a5 :: a6 :: a7 :: a8 :: a9 :: a10 :: a11 :: a12 :: a13 :: a14 :: a15 :: a16 :: a17 :: a18 :: a19 :: a20 :: a21 :: a22 :: a23 :: some v :: r) H) : gName 24 v (a0 :: a1 :: a2 :: a3 :: a4 :: a5 :: a6 :: a7 :: a8 :: a9 :: a10 :: a11 :: a12 :: a13 :: a14 :: a15 :: a16 :: a17 :: a18 :: a19 :: a20 :: a21 :: a22 :: a23 :: a :: r) H Q := h
theorem g24 {a0 a1 a2 a3 a4 a5 a6 a7 a8 a9 a10 a11 a12 a13 a14 a15 a16 a17 a18 a19 a20 a21 a22 a23 : Option V} {ti : TIp} (h : te (a0 :: a1 :: a2 :: a3 :: a4 :: a5 :: a6 :: a7 :: a8 :: a9 :: a10 :: a11 :: a12 :: a13 :: a14 :: a15 :: a16 :: a17 :: a18 :: a19 :: a20 :: a21 :: a22 :: a23 :: some x :: r) H fun y H1 => ti x y H1 fun z H2 => D.nx (a0 :: a1 :: a2 :: a3 :: a4 :: a5 :: a6 :: a7 :: a8 :: a9 :: a10 :: a11 :: a12 :: a13 :: a14 :: a15 :: a16 :: a17 :: a18 :: a19 :: a20 :: a21 :: a22 :: a23 :: some z :: r) H2) : tAug 24 te ti D (a0 :: a1 :: a2 :: a3 :: a4 :: a5 :: a6 :: a7 :: a8 :: a9 :: a10 :: a11 :: a12 :: a13 :: a14 :: a15 :: a16 :: a17 :: a18 :: a19 :: a20 :: a21 :: a22 :: a23 :: some x :: r) H := ⟨x, rfl, h⟩
theorem v25 {a0 a1 a2 a3 a4 a5 a6 a7 a8 a9 a10 a11 a12 a13 a14 a15 a16 a17 a18 a19 a20 a21 a22 a23 a24 : Option V} (h : Q v H) : tVar 25 (a0 :: a1 :: a2 :: a3 :: a4 :: a5 :: a6 :: a7 :: a8 :: a9 :: a10 :: a11 :: a12 :: a13 :: a14 :: a15 :: a16 :: a17 :: a18 :: a19 :: a20 :: a21 :: a22 :: a23 :: a24 :: some v :: r) H Q := ⟨v, rfl, h⟩
theorem n25 {a0 a1 a2 a3 a4 a5 a6 a7 a8 a9 a10 a11 a12 a13 a14 a15 a16 a17 a18 a19 a20 a21 a22 a23 a24 : Option V} {Q : L2.St → Hp → Prop} (h : Q (a0 :: a1 :: a2 :: a3 :: a4 :: a5 :: a6 :: a7 :: a8 :: a9 :: a10 :: a11 :: a12 :: a13 :: a14 :: a15 :: a16 :: a17 :: a18 :: a19 :: a20 :: a21 :: a22 :: a23 :: a24 :: some v :: r) H) : gName 25 v (a0 :: a1 :: a2 :: a3 :: a4 :: a5 :: a6 :: a7 :: a8 :: a9 :: a10 :: a11 :: a12 :: a13 :: a14 :: a15 :: a16 :: a17 :: a18 :: a19 :: a20 :: a21 :: a22 :: a23 :: a24 :: a :: r) H Q := h
theorem g25 {a0 a1 a2 a3 a4 a5 a6 a7 a8 a9 a10 a11 a12 a13 a14 a15 a16 a17 a18 a19 a20 a21 a22 a23 a24 : Option V} {ti : TIp} (h : te (a0 :: a1 :: a2 :: a3 :: a4 :: a5 :: a6 :: a7 :: a8 :: a9 :: a10 :: a11 :: a12 :: a13 :: a14 :: a15 :: a16 :: a17 :: a18 :: a19 :: a20 :: a21 :: a22 :: a23 :: a24 :: some x :: r) H fun y H1 => ti x y H1 fun z H2 => D.nx (a0 :: a1 :: a2 :: a3 :: a4 :: a5 :: a6 :: a7 :: a8 :: a9 :: a10 :: a11 :: a12 :: a13 :: a14 :: a15 :: a16 :: a17 :: a18 :: a19 :: a20 :: a21 :: a22 :: a23 :: a24 :: some z :: r) H2) : tAug 25 te ti D (a0 :: a1 :: a2 :: a3 :: a4 :: a5 :: a6 :: a7 :: a8 :: a9 :: a10 :: a11 :: a12 :: a13 :: a14 :: a15 :: a16 :: a17 :: a18 :: a19 :: a20 :: a21 :: a22 :: a23 :: a24 :: some x :: r) H := ⟨x, rfl, h⟩
theorem v26 {a0 a1 a2 a3 a4 a5 a6 a7 a8 a9 a10 a11 a12 a13 a14 a15 a16 a17 a18 a19 a20 a21 a22 a23 a24 a25 : Option V} (h : Q v H) : tVar 26 (a0 :: a1 :: a2 :: a3 :: a4 :: a5 :: a6 :: a7 :: a8 :: a9 :: a10 :: a11 :: a12 :: a13 :: a14 :: a15 :: a16 :: a17 :: a18 :: a19 :: a20 :: a21 :: a22 :: a23 :: a24 :: a25 :: some v :: r) H Q := ⟨v, rfl, h⟩
theorem n26 {a0 a1 a2 a3 a4 a5 a6 a7 a8 a9 a10 a11 a12 a13 a14 a15 a16 a17 a18 a19 a20 a21 a22 a23 a24 a25 : Option V} {Q : L2.St → Hp → Prop} (h : Q (a0 :: a1 :: a2 :: a3 :: a4 :: a5 :: a6 :: a7 :: a8 :: a9 :: a10 :: a11 :: a12 :: a13 :: a14 :: a15 :: a16 :: a17 :: a18 :: a19 :: a20 :: a21 :: a22 :: a23 :: a24 :: a25 :: some v :: r) H) : gName 26 v (a0 :: a1 :: a2 :: a3 :: a4 :: a5 :: a6 :: a7 :: a8 :: a9 :: a10 :: a11 :: a12 :: a13 :: a14 :: a15 :: a16 :: a17 :: a18 :: a19 :: a20 :: a21 :: a22 :: a23 :: a24 :: a25 :: a :: r) H Q := h
theorem g26 {a0 a1 a2 a3 a4 a5 a6 a7 a8 a9 a10 a11 a12 a13 a14 a15 a16 a17 a18 a19 a20 a21 a22 a23 a24 a25 : Option V} {ti : TIp} (h : te (a0 :: a1 :: a2 :: a3 :: a4 :: a5 :: a6 :: a7 :: a8 :: a9 :: a10 :: a11 :: a12 :: a13 :: a14 :: a15 :: a16 :: a17 :: a18 :: a19 :: a20 :: a21 :: a22 :: a23 :: a24 :: a25 :: some x :: r) H fun y H1 => ti x y H1 fun z H2 => D.nx (a0 :: a1 :: a2 :: a3 :: a4 :: a5 :: a6 :: a7 :: a8 :: a9 :: a10 :: a11 :: a12 :: a13 :: a14 :: a15 :: a16 :: a17 :: a18 :: a19 :: a20 :: a21 :: a22 :: a23 :: a24 :: a25 :: some z :: r) H2) : tAug 26 te ti D (a0 :: a1 :: a2 :: a3 :: a4 :: a5 :: a6 :: a7 :: a8 :: a9 :: a10 :: a11 :: a12 :: a13 :: a14 :: a15 :: a16 :: a17 :: a18 :: a19 :: a20 :: a21 :: a22 :: a23 :: a24 :: a25 :: some x :: r) H := ⟨x, rfl, h⟩
theorem v27 {a0 a1 a2 a3 a4 a5 a6 a7 a8 a9 a10 a11 a12 a13 a14 a15 a16 a17 a18 a19 a20 a21 a22 a23 a24 a25 a26 : Option V} (h : Q v H) : tVar 27 (a0 :: a1 :: a2 :: a3 :: a4 :: a5 :: a6 :: a7 :: a8 :: a9 :: a10 :: a11 :: a12 :: a13 :: a14 :: a15 :: a16 :: a17 :: a18 :: a19 :: a20 :: a21 :: a22 :: a23 :: a24 :: a25 :: a26 :: some v :: r) H Q := ⟨v, rfl, h⟩
theorem n27 {a0 a1 a2 a3 a4 a5 a6 a7 a8 a9 a10 a11 a12 a13 a14 a15 a16 a17 a18 a19 a20 a21 a22 a23 a24 a25 a26 : Option V} {Q : L2.St → Hp → Prop} (h : Q (a0 :: a1 :: a2 :: a3 :: a4 :: a5 :: a6 :: a7 :: a8 :: a9 :: a10 :: a11 :: a12 :: a13 :: a14 :: a15 :: a16 :: a17 :: a18 :: a19 :: a20 :: a21 :: a22 :: a23 :: a24 :: a25 :: a26 :: some v :: r) H) : gName 27 v (a0 :: a1 :: a2 :: a3 :: a4 :: a5 :: a6 :: a7 :: a8 :: a9 :: a10 :: a11 :: a12 :: a13 :: a14 :: a15 :: a16 :: a17 :: a18 :: a19 :: a20 :: a21 :: a22 :: a23 :: a24 :: a25 :: a26 :: a :: r) H Q := h
theorem g27 {a0 a1 a2 a3 a4 a5 a6 a7 a8 a9 a10 a11 a12 a13 a14 a15 a16 a17 a18 a19 a20 a21 a22 a23 a24 a25 a26 : Option V} {ti : TIp} (h : te (a0 :: a1 :: a2 :: a3 :: a4 :: a5 :: a6 :: a7 :: a8 :: a9 :: a10 :: a11 :: a12 :: a13 :: a14 :: a15 :: a16 :: a17 :: a18 :: a19 :: a20 :: a21 :: a22 :: a23 :: a24 :: a25 :: a26 :: some x :: r) H fun y H1 => ti x y H1 fun z H2 => D.nx (a0 :: a1 :: a2 :: a3 :: a4 :: a5 :: a6 :: a7 :: a8 :: a9 :: a10 :: a11 :: a12 :: a13 :: a14 :: a15 :: a16 :: a17 :: a18 :: a19 :: a20 :: a21 :: a22 :: a23 :: a24 :: a25 :: a26 :: some z :: r) H2) : tAug 27 te ti D (a0 :: a1 :: a2 :: a3 :: a4 :: a5 :: a6 :: a7 :: a8 :: a9 :: a10 :: a11 :: a12 :: a13 :: a14 :: a15 :: a16 :: a17 :: a18 :: a19 :: a20 :: a21 :: a22 :: a23 :: a24 :: a25 :: a26 :: some x :: r) H := ⟨x, rfl, h⟩
end Rd

set_option Elab.async false
set_option linter.all false
set_option maxRecDepth 100000
namespace Rd
open PySem PySem.Spec PyProof.Rows L2
variable {K : PySem.W.Frag} {σ : L2.St} {H : Hp} {D : Ends} {Q : VK} {v : V} {vs : List V}
theorem vv {i : Nat} (e : σ[i]? = some (some v)) (h : Q v H) : tVar i σ H Q := ⟨v, e, h⟩
theorem gdN {i : Nat} {Q : L2.St → Hp → Prop} (h : gName i v σ H Q) : gName i v σ H Q := h
theorem gdG {i : Nat} {te : TE} {ti : TIp} (h : tAug i te ti D σ H) : tAug i te ti D σ H := h
theorem gdI (h : rIsi K vs H Q) : rIsi K vs H Q := h
end Rd

set_option Elab.async false
set_option linter.all false
set_option maxRecDepth 100000
namespace Rd
open PySem PySem.Spec PyProof.Rows L2
variable {K : PySem.W.Frag} {σ : L2.St} {H : Hp} {D : Ends} {Q : VK} {ta tb te tv : TE} {x y v : V} {tr : TA} {f m : Str} {C : Addr} {sp : Sp} {dvs : List V} {E : XK}
/-! ### objects of own classes -/
def FldG (K : PySem.W.Frag) (x : V) (f : Str) (Q : VK) (H : Hp) : Prop := ∃ a C dx fs v, x = .ref a ∧ H a = some (.ins C dx fs) ∧ Cls K C ∧ NoAttr K C f ∧ fs.lookup f = some v ∧ Q v H
theorem fld (h : te σ H fun x H1 => FldG K x f Q H1) : tFld K te f σ H Q := h
theorem fldI {a dx : Addr} {fs : List (Str × V)} (h : H a = some (.ins C dx fs)) (c : Cls K C) (n : NoAttr K C f) (e : fs.lookup f = some v) (q : Q v H) : FldG K (.ref a) f Q H := ⟨a, C, dx, fs, v, rfl, h, c, n, e, q⟩
def SfG (K : PySem.W.Frag) (x : V) (f : Str) (y : V) (D : Ends) (σ : L2.St) (H : Hp) : Prop := ∃ a C dx fs, x = .ref a ∧ H a = some (.ins C dx fs) ∧ Cls K C ∧ NoAttr K C f ∧ fs.length < 1000 ∧ D.nx σ (upd H a (.ins C dx (putF f y fs)))
theorem sfld (h : tv σ H fun y H1 => ta σ H1 fun x H2 => SfG K x f y D σ H2) : sFld K ta tv f D σ H := h
theorem sfldI {a dx : Addr} {fs : List (Str × V)} (h : H a = some (.ins C dx fs)) (c : Cls K C) (n : NoAttr K C f) (l : fs.length < 1000) (q : D.nx σ (upd H a (.ins C dx (putF f y fs)))) : SfG K (.ref a) f y D σ H := ⟨a, C, dx, fs, rfl, h, c, n, l, q⟩
def MtG (C : Addr) (m : Str) (sp : Sp) (dvs : List V) (E : XK) (t : TA) (σ : L2.St) (Q : VK) (x : V) (H : Hp) : Prop := ∃ a dx fs, x = .ref a ∧ H a = some (.ins C dx fs) ∧ fs.lookup m = none ∧ t σ H fun vs H2 => sp (x :: (vs ++ dvs)) H2 Q E
theorem meth (h : ta σ H fun x H1 => MtG C m sp dvs E tr σ Q x H1) : tMeth C m sp dvs E ta tr σ H Q := h
theorem methI {a dx : Addr} {fs : List (Str × V)} (h : H a = some (.ins C dx fs)) (n : fs.lookup m = none) (q : tr σ H fun vs H2 => sp (.ref a :: (vs ++ dvs)) H2 Q E) : MtG C m sp dvs E tr σ Q (.ref a) H := ⟨a, dx, fs, rfl, h, n, q⟩
def MkG (C : Addr) (sp : Sp) (dvs : List V) (E : XK) (Q : VK) (vs : List V) (H1 : Hp) : Prop := ∀ x dx, H1 x = none → H1 dx = none → dx ≠ x → sp (.ref x :: (vs ++ dvs)) (upd (upd H1 dx (.own x)) x (.ins C dx [])) (fun v H2 => v = .non ∧ Q (.ref x) H2) E
theorem make (h : tr σ H fun vs H1 => MkG C sp dvs E Q vs H1) : tMake C sp dvs E tr σ H Q := h
theorem popI {l : Addr} {xs : List V} (h : H l = some (.lst xs)) (e : xs[xs.length - 1]? = some y) (q : Q y (upd H l (.lst xs.dropLast))) : rPop (.ref l) [] H Q := ⟨l, xs, y, rfl, rfl, h, e, q⟩
theorem maxL {a : Addr} {ns : List Int} (h : H a = some (.lst (ns.map V.int))) (l : 0 < ns.length) (q : ∀ m, m ∈ ns → (∀ y, y ∈ ns → y ≤ m) → Q (.int m) H) : rMax K [.ref a] H Q := ⟨a, ns, rfl, SqL.of h, l, q⟩
theorem anyL {a : Addr} {bs : List Bool} (h : H a = some (.lst (bs.map V.bl))) (q : Q (.bl (bs.any id)) H) : rAny K [.ref a] H Q := ⟨a, bs, rfl, SqL.of h, q⟩
theorem sumL {a : Addr} {ns : List Int} (h : H a = some (.lst (ns.map V.int))) (q : Q (.int ns.sum) H) : rSum K [.ref a] H Q := ⟨a, ns, rfl, SqL.of h, q⟩
variable {R : It → Hp → Prop}
theorem izip (h : tr σ H fun vs H1 => ∃ a b xs ys, vs = [.ref a, .ref b] ∧ ((SqL K H1 a xs ∧ SqL K H1 b ys ∧ R (Itz K a b) H1) ∨ (SqT K H1 a xs ∧ SqT K H1 b ys ∧ R (RZ.ItzT K a b) H1))) : RZ.iZipA K tr σ H R := h
theorem izI {a b : Addr} {xs ys : List V} {A : Addr → Addr → Prop} {B : Addr → Addr → Prop} (h1 : H a = some (.lst xs)) (h2 : H b = some (.lst ys)) (q : A a b) : ∃ a' b' xs ys, [V.ref a, .ref b] = [.ref a', .ref b'] ∧ ((SqL K H a' xs ∧ SqL K H b' ys ∧ A a' b') ∨ (SqT K H a' xs ∧ SqT K H b' ys ∧ B a' b')) := ⟨a, b, xs, ys, rfl, .inl ⟨SqL.of h1, SqL.of h2, q⟩⟩
end Rd

set_option Elab.async false
set_option linter.all false
set_option maxRecDepth 100000
/-! dicts whose keys are ints: what a reading asks of them, over lists of pairs -/
namespace L2
open PySem PySem.Spec PyProof.Rows
section
variable {X : Cx}
/-- name = {..} on one line, the name a local: the dict comprehension's form of the rule for a list -/
theorem ps_setDc {i : Nat} {y : Str} {py : Pos} {kx vx tg iter : Expr} {ifs : List Expr} {scope : Scope} {own : List (Str × Nat)} {pos spos : Pos} {wi : TI} {g : TG} {tt : TT} {tk tv : TE} (hc : X.calm = true) (hN : X.N.Nodup) (hy : X.N[i]? = some y) (hyl : X.env.scope.names.lookup y = some .local)
    (hsw : swapsWith (.DictComp kx vx [⟨tg, iter, ifs, 0⟩] scope pos) (some (.Name y py)) spos.line X.env = pure true) (hi : PI X tg iter wi) (ok : BlkOk X.N X.env.scope scope own)
    (hg : ∀ (s : Shared) (H : Hp) (C : Addr) (cl : List (Str × Addr)) (fp : List Addr), PG (X.blk s H scope (compEnvC scope cl C X.env) fp) tg g) (ht : ∀ (s : Shared) (H : Hp) (C : Addr) (cl : List (Str × Addr)) (fp : List Addr), PTs (X.blk s H scope (compEnvC scope cl C X.env) fp) ifs tt)
    (hk : ∀ (s : Shared) (H : Hp) (C : Addr) (cl : List (Str × Addr)) (fp : List Addr), PE (X.blk s H scope (compEnvC scope cl C X.env) fp) kx tk)
    (he : ∀ (s : Shared) (H : Hp) (C : Addr) (cl : List (Str × Addr)) (fp : List Addr), PE (X.blk s H scope (compEnvC scope cl C X.env) fp) vx tv) (hs : ∀ x, foldedSetIterable iter X.env x = pure x := by intro _; rfl) :
    PS X (.Assign [.Name y py] (.DictComp kx vx [⟨tg, iter, ifs, 0⟩] scope pos) spos) (tAsg (tDc wi g tt tk tv (own.map (·.2))) (gName i)) := by
  refine ⟨fun pins s σ H D I h => ?_⟩
  rw [exec_Assign_Name_used _ _ _ _ hsw]
  refine wpAny_bind (wpAny_standAt (wpAny_bind ?_))
  show wpAny _ X.A (do let _ ← comprehension (.DictComp kx vx [⟨tg, iter, ifs, 0⟩] scope pos) scope X.env (firstIterPos [⟨tg, iter, ifs, 0⟩] pos) newDict false (eval iter X.env) (some (assign (.Name y py) X.env))) _ _ s
  have h : tDc wi g tt tk tv (own.map (·.2)) σ H (fun x H1 => gName i x σ H1 D.nx) := h
  refine wpAny_bind (thn (dc_core (Qf := fun _ s' => SP X pins D .next s') hc hN I hi ok hg ht hk he hs h fun L C s' m H' I' q hn f => ?_) fun _ s' hq => wpAny_pure (wpAny_pure hq))
  show wpAny _ _ (assign (.Name y py) X.env (.ref L)) _ _ _
  refine wpAny_assign_Name (store_ok2 (v := V.ref L) I' hN hy (.inl hyl) rfl (fun s2 I2 ⟨a, sb, ha⟩ => ?_) (.inr hyl))
  obtain ⟨f0, f1, f2, f3, f4, f5⟩ := f
  have haC : C ≠ a := by
    rcases ha with z | z
    · rw [z]; exact f1
    · exact fun e => f4 y a z e.symm
  refine ⟨m, hn.sameBut sb haC, fun h3 sb3 => ?_⟩
  exact ⟨_, H', I2.turned (t' := s2.toks) (fun b o hb e => (sb3.2 b hb).trans e) f0 f1 f3 f4 f5, q⟩
theorem sw_trueD {kx vx : Expr} {gs : List Comprehension} {scope : Scope} {pos py : Pos} {y : Str} {l : Nat} {env : Env} (hk : env.scope.kind = .function) (hy : env.scope.names.lookup y = some .local) (hl : (py.line == pos.line) = true)
    (ha : (scope.names.any fun (n, k) => n == y && (k == .local || k == .cell)) = false) : swapsWith (.DictComp kx vx gs scope pos) (some (.Name y py)) l env = pure true := by
  have ky : env.kindOf y = some .local := hy
  have hb : env.blockKind = .function := by unfold Env.blockKind; rw [hk]; rfl
  unfold swapsWith
  simp only [hb, ky, ha, Expr.pos, hl]
  rfl
end
end L2
namespace Rd
open PySem PySem.Spec PyProof.Rows L2
variable {K : PySem.W.Frag} {σ : L2.St} {H : Hp} {D : Ends} {Q : VK} {ta tb te tc td ty tx : TE} {x y v : V}
/-- a dict of ints to values, in order -/
abbrev DI (m : List (Int × V)) : HO := .dK (m.map fun p => (Sum.inl p.1, p.2))
def lk (m : List (Int × V)) (k : Int) : Option V := (m.find? fun p => decide (p.1 = k)).map (·.2)
def pt (m : List (Int × V)) (k : Int) (v : V) : List (Int × V) := if (m.any fun p => decide (p.1 = k)) = true then m.map (fun p => if p.1 = k then (p.1, v) else p) else m ++ [(k, v)]
theorem valV_di (m : List (Int × V)) (k : Int) : valV (m.map fun p => ((Sum.inl p.1 : Key), p.2)) (Sum.inl k) = lk m k := by
  unfold valV lk
  induction m with
  | nil => rfl
  | cons a r ih =>
    rw [List.map_cons, List.find?_cons, List.find?_cons]
    by_cases h : a.1 = k
    · have e : decide ((Sum.inl a.1 : Key) = Sum.inl k) = true := decide_eq_true (by rw [h])
      rw [e, decide_eq_true h]; rfl
    · have e : decide ((Sum.inl a.1 : Key) = Sum.inl k) = false := decide_eq_false fun z => h (Sum.inl.inj z)
      rw [e, decide_eq_false h]; exact ih
theorem putK_di (m : List (Int × V)) (k : Int) (v : V) : putK (m.map fun p => ((Sum.inl p.1 : Key), p.2)) (Sum.inl k) v = (pt m k v).map fun p => ((Sum.inl p.1 : Key), p.2) := by
  have e : ∀ p : Int × V, decide ((Sum.inl p.1 : Key) = Sum.inl k) = decide (p.1 = k) := fun p => by
    by_cases h : p.1 = k
    · rw [decide_eq_true h, decide_eq_true (by rw [h])]
    · rw [decide_eq_false h, decide_eq_false fun z => h (Sum.inl.inj z)]
  unfold putK pt
  rw [List.any_map]
  have e2 : (m.any ((fun kv : Key × V => decide (kv.1 = Sum.inl k)) ∘ fun p => ((Sum.inl p.1 : Key), p.2))) = m.any fun p => decide (p.1 = k) := by
    congr 1; funext p; exact e p
  rw [e2]
  split
  · rw [List.map_map, List.map_map]
    congr 1; funext p
    show (if (Sum.inl p.1 : Key) = Sum.inl k then ((Sum.inl p.1 : Key), v) else (Sum.inl p.1, p.2)) = _
    by_cases h : p.1 = k
    · simp [h]
    · have h2 : ¬ (Sum.inl p.1 : Key) = Sum.inl k := fun z => h (Sum.inl.inj z)
      simp [h]
  · rw [List.map_append]; rfl
theorem get_di {a : Addr} {m : List (Int × V)} {k : Int} (h : Rd H a (DI m)) : DGet H a (.int k) (lk m k) := .inl ⟨_, Sum.inl k, h, rfl, (valV_di m k).symm⟩
theorem rd_of {a : Addr} {u : HO} (h : H a = some u) : L2.Rd H a u := .inl h
theorem rd_fz {a : Addr} {u : HO} {o : Obj} (h : H a = some (.frz o u)) : L2.Rd H a u := .inr ⟨o, h⟩
theorem lk_pt (m : List (Int × V)) (k k' : Int) (v : V) : lk (pt m k v) k' = if k' = k then some v else lk m k' := by
  unfold pt
  split
  · rename_i c
    unfold lk
    induction m with
    | nil => simp at c
    | cons a r ih =>
      rw [List.map_cons, List.find?_cons, List.find?_cons]
      by_cases h : a.1 = k
      · rw [if_pos h]
        by_cases h2 : k' = k
        · rw [if_pos h2, decide_eq_true (by rw [h, h2])]; rfl
        · have e : ¬ a.1 = k' := fun z => h2 (by rw [← z, h])
          rw [if_neg h2, decide_eq_false e]
          have e2 : List.map (fun p => if p.1 = k then (p.1, v) else p) r = List.map (fun p => if p.1 = k then (p.1, v) else p) r := rfl
          have : (List.find? (fun p => decide (p.1 = k')) (List.map (fun p => if p.1 = k then (p.1, v) else p) r)).map (·.2) = (List.find? (fun p => decide (p.1 = k')) r).map (·.2) := by
            clear ih c e2
            induction r with
            | nil => rfl
            | cons b r ih =>
              rw [List.map_cons, List.find?_cons, List.find?_cons]
              by_cases h3 : b.1 = k
              · rw [if_pos h3, decide_eq_false (fun z : b.1 = k' => h2 (by rw [← z, h3]))]; exact ih
              · rw [if_neg h3]
                by_cases h4 : b.1 = k'
                · rw [decide_eq_true h4]
                · rw [decide_eq_false h4]; exact ih
          exact this
      · rw [if_neg h]
        have c2 : (r.any fun p => decide (p.1 = k)) = true := by
          rw [List.any_cons, decide_eq_false h, Bool.false_or] at c; exact c
        by_cases h4 : a.1 = k'
        · have e : ¬ k' = k := fun z => h (by rw [h4, z])
          rw [decide_eq_true h4, if_neg e]
        · rw [decide_eq_false h4]; exact ih c2
  · rename_i c
    unfold lk
    rw [List.find?_append]
    have nk : ∀ p ∈ m, ¬ p.1 = k := fun p hp z => c (List.any_eq_true.mpr ⟨p, hp, decide_eq_true z⟩)
    by_cases h2 : k' = k
    · rw [if_pos h2, h2]
      have e : List.find? (fun p => decide (p.1 = k)) m = none := List.find?_eq_none.mpr fun p hp z => nk p hp (of_decide_eq_true z)
      rw [e]; simp
    · rw [if_neg h2]
      have e : ¬ k = k' := fun z => h2 z.symm
      have e2 : List.find? (fun p : Int × V => decide (p.1 = k')) [(k, v)] = none := by simp [e]
      rw [e2, Option.or_none]
theorem pt_len {m : List (Int × V)} {k : Int} {v : V} : (pt m k v).length ≤ m.length + 1 := by
  unfold pt
  split <;> simp
/-! ### expressions -/
def NewD (Q : VK) (H : Hp) : Prop := ∀ p, H p = none → Q (.ref p) (upd H p (.dK []))
theorem dnew (h : NewD Q H) : tDNewK σ H Q := h
theorem nwD (h : ∀ p H', H p = none → Same H H' → H' p = some (DI []) → Q (.ref p) H') : NewD Q H := fun p np => h p _ np (same_new np) upd_same
def DinG (Q : VK) (x y : V) (H : Hp) : Prop := ∃ a o, x = .ref a ∧ DGet H a y o ∧ Q (.bl o.isSome) H
theorem din (h : ty σ H fun y H1 => td σ H1 fun x H2 => DinG Q x y H2) : tDIn ty td σ H Q := h
theorem dinI {a : Addr} {m : List (Int × V)} {k : Int} (h : L2.Rd H a (DI m)) (q : Q (.bl (lk m k).isSome) H) : DinG Q (.ref a) (.int k) H := ⟨a, _, rfl, get_di h, q⟩
def DnotG (Q : VK) (x y : V) (H : Hp) : Prop := ∃ a o, x = .ref a ∧ DGet H a y o ∧ Q (.bl (!o.isSome)) H
theorem dnot (h : ty σ H fun y H1 => td σ H1 fun x H2 => DnotG Q x y H2) : tDNotIn ty td σ H Q := h
theorem dnotI {a : Addr} {m : List (Int × V)} {k : Int} (h : L2.Rd H a (DI m)) (q : Q (.bl (!(lk m k).isSome)) H) : DnotG Q (.ref a) (.int k) H := ⟨a, _, rfl, get_di h, q⟩
def DgG (Q : VK) (x y : V) (H : Hp) : Prop := ∃ a v, x = .ref a ∧ DGet H a y (some v) ∧ Q v H
theorem dget (h : td σ H fun x H1 => ty σ H1 fun y H2 => DgG Q x y H2) : tDGet td ty σ H Q := h
theorem dgetI {a : Addr} {m : List (Int × V)} {k : Int} (h : L2.Rd H a (DI m)) (e : lk m k = some v) (q : Q v H) : DgG Q (.ref a) (.int k) H := ⟨a, v, rfl, e ▸ get_di h, q⟩
def Dg2G (Q : VK) (a : Addr) (y z : V) (H : Hp) : Prop := ∃ o, DGet H a y o ∧ Q (o.getD z) H
theorem dget2 (h : td σ H fun x H1 => ∃ a, x = .ref a ∧ IsD H1 a ∧ ty σ H1 fun y H2 => tx σ H2 fun z H3 => Dg2G Q a y z H3) : tDGet2 td ty tx σ H Q := h
theorem isd {a : Addr} {m : List (Int × V)} {A : Prop} (h : H a = some (DI m)) (q : A) : IsD H a ∧ A := ⟨.inl ⟨_, .inl h⟩, q⟩
theorem dget2I {a : Addr} {m : List (Int × V)} {k : Int} {z : V} (h : L2.Rd H a (DI m)) (q : Q ((lk m k).getD z) H) : Dg2G Q a (.int k) z H := ⟨_, get_di h, q⟩
def DpG (D : Ends) (σ : L2.St) (x y v : V) (H : Hp) : Prop := ∃ a H4, x = .ref a ∧ DPut H a y v H4 ∧ D.nx σ H4
theorem dput {tv : TE} (h : tv σ H fun v H1 => td σ H1 fun x H2 => ty σ H2 fun y H3 => DpG D σ x y v H3) : sDPut td ty tv D σ H := h
theorem dputI {a : Addr} {m : List (Int × V)} {k : Int} (h : H a = some (DI m)) (l : m.length < 100000) (q : D.nx σ (upd H a (DI (pt m k v)))) : DpG D σ (.ref a) (.int k) v H :=
  ⟨a, _, rfl, .inl ⟨_, Sum.inl k, h, rfl, by rw [List.length_map]; exact szl l, rfl⟩, by rw [putK_di]; exact q⟩
/-- dict(d) -/
def DictOf (Q : VK) (vs : List V) (H : Hp) : Prop := ∃ (a : Addr) (kvs : List (Key × V)), vs = [.ref a] ∧ L2.Rd H a (.dK kvs) ∧ ∀ p, H p = none → Q (.ref p) (upd H p (.dK kvs))
theorem cbDictOf {tr : TA} (h : tr σ H (DictOf Q)) : tCB (fun xs H Q => ∃ (a : Addr) (kvs : List (Key × V)), xs = [.ref a] ∧ L2.Rd H a (.dK kvs) ∧ ∀ p, H p = none → Q (.ref p) (upd H p (.dK kvs))) tr σ H Q := h
theorem dictOf {a : Addr} {m : List (Int × V)} (s : H a = some (DI m)) (h : ∀ p H', H p = none → Same H H' → H' p = some (DI m) → Q (.ref p) H') : DictOf Q [.ref a] H := ⟨a, _, rfl, .inl s, fun p np => h p _ np (same_new np) upd_same⟩
theorem isi_dd {n : Addr} {m : List (Int × V)} (h : H n = some (DI m)) (q : Q (.bl true) H) : rIsi K [.ref n, .ty "dict"] H Q := isi (.base (.dK h)) (by decide +kernel) q
/-! ### == -/
theorem neDict {a b : Addr} {m n : List (Int × V)} (ea : H a = some (DI m)) (eb : H b = some (DI n)) (l : m.length = n.length) (e : ∀ p ∈ m, lk n p.1 = some p.2 ∧ flatB p.2 = true) (q : Q (.bl false) H) : rNeDA (.ref a) (.ref b) H Q :=
  ⟨a, b, _, _, rfl, rfl, ea, eb, by rw [List.length_map, List.length_map]; exact l, fun p hp => by
    obtain ⟨x, hx, rfl⟩ := List.mem_map.mp hp
    rw [valV_di]; exact e x hx, q⟩
theorem eqDict {a b : Addr} {m n : List (Int × V)} (ea : H a = some (DI m)) (eb : H b = some (DI n)) (l : m.length = n.length) (e : ∀ p ∈ m, lk n p.1 = some p.2 ∧ flatB p.2 = true) (q : Q (.bl true) H) : rEqDA (.ref a) (.ref b) H Q :=
  ⟨a, b, _, _, rfl, rfl, ea, eb, by rw [List.length_map, List.length_map]; exact l, fun p hp => by
    obtain ⟨x, hx, rfl⟩ := List.mem_map.mp hp
    rw [valV_di]; exact e x hx, q⟩
/-! ### walks -/
variable {R : It → Hp → Prop}
theorem iitems (h : te σ H fun x H1 => ∃ d o kvs, x = .ref d ∧ H1 d = some (.frz o (.dK kvs)) ∧ R (Iti d o kvs) H1) : iItems te σ H R := h
theorem itA {d : Addr} {o : Obj} {kvs : List (Key × V)} {P : Addr → Obj → List (Key × V) → Prop} (h : H d = some (.frz o (.dK kvs))) (q : P d o kvs) : ∃ d' o' kvs', V.ref d = .ref d' ∧ H d' = some (.frz o' (.dK kvs')) ∧ P d' o' kvs' := ⟨d, o, kvs, rfl, h, q⟩
theorem ikeys (h : te σ H fun x H1 => ∃ d o, x = .ref d ∧ ((∃ kvs, H1 d = some (.frz o (.dK kvs)) ∧ R (Itk d o kvs) H1) ∨ ∃ kvs, H1 d = some (.frz o (.dT kvs)) ∧ R (Itkt d o kvs) H1)) : iKeys te σ H R := h
theorem ikA {d : Addr} {o : Obj} {kvs : List (Key × V)} {P : Addr → Obj → List (Key × V) → Prop} {B : Addr → Obj → Prop} (h : H d = some (.frz o (.dK kvs))) (q : P d o kvs) : ∃ d' o', V.ref d = .ref d' ∧ ((∃ kvs', H d' = some (.frz o' (.dK kvs')) ∧ P d' o' kvs') ∨ B d' o') := ⟨d, o, rfl, .inl ⟨kvs, h, q⟩⟩
theorem lockS {t : TS} {d : Addr} {m : List (Int × V)} (h : H d = some (DI m)) (q : ∀ od, t ⟨fun σ' H' => H' d = some (.frz od (DI m)) ∧ D.nx σ' (upd H' d (DI m)), fun v H' => H' d = some (.frz od (DI m)) ∧ D.rt v (upd H' d (DI m)), fun σ' H' => H' d = some (.frz od (DI m)) ∧ D.bk σ' (upd H' d (DI m)), fun σ' H' => H' d = some (.frz od (DI m)) ∧ D.ct σ' (upd H' d (DI m))⟩ σ (upd H d (.frz od (DI m)))) : tLock t D σ H :=
  ⟨d, _, h, trivial, q⟩
theorem lockE {t : TE} {d : Addr} {m : List (Int × V)} (h : H d = some (DI m)) (q : ∀ od, t σ (upd H d (.frz od (DI m))) fun v H' => H' d = some (.frz od (DI m)) ∧ Q v (upd H' d (DI m))) : tLockE t σ H Q := ⟨d, _, h, trivial, q⟩
/-- the dict given back: all is kept -/
theorem unlock {H' : Hp} {d : Addr} {u : HO} (h : H d = some u) (b : But d H H') : Same H (upd H' d u) := fun c o e => by
  by_cases z : c = d
  · subst z; rw [upd_same]; exact h.symm.trans e
  · rw [upd_ne z]; exact b c o z e
theorem lock {d : Addr} {u : HO} : But d H (upd H d u) := But.at_
/-- the i-th pair of a walk over items: a new tuple -/
theorem items_at {m : List (Int × V)} {i : Nat} {x : V} {H H' : Hp} (y : YPair (fun i => ((m.map fun p => ((Sum.inl p.1 : Key), p.2))[i]?).map fun kv => kV kv.1) (fun i => ((m.map fun p => ((Sum.inl p.1 : Key), p.2))[i]?).map Prod.snd) i H x H') :
    ∃ (T : Addr) (p : Int × V), m[i]? = some p ∧ x = .ref T ∧ H T = none ∧ H' = upd H T (.tup [.int p.1, p.2]) := by
  obtain ⟨T, a, b, e1, e2, e3, e4, e5⟩ := y
  dsimp only at e4 e5
  rw [List.getElem?_map] at e4 e5
  cases e : m[i]? with
  | none => rw [e] at e4; cases e4
  | some p =>
    rw [e] at e4 e5
    cases e4; cases e5
    exact ⟨T, p, rfl, e1, e2, e3⟩
theorem keys_at {m : List (Int × V)} {i : Nat} {x : V} {H H' : Hp} (y : H' = H ∧ ∃ k v, (m.map fun p => ((Sum.inl p.1 : Key), p.2))[i]? = some (k, v) ∧ x = kV k) : H' = H ∧ ∃ p : Int × V, m[i]? = some p ∧ x = .int p.1 := by
  obtain ⟨e, k, v, h, rfl⟩ := y
  rw [List.getElem?_map] at h
  cases e2 : m[i]? with
  | none => rw [e2] at h; cases h
  | some p => rw [e2] at h; cases h; exact ⟨e, p, rfl, rfl⟩
/-! ### comprehensions -/
theorem dc {wi : TI} {g : TG} {tt : TT} {tk tv : TE} {ws : List Nat} (h : wi σ H fun J H1 => ∀ D, H1 D = none → ∃ W : Nat → Nat → Hp → Prop, (∃ m, W 0 m (upd H1 D (.dK []))) ∧ ∀ i m H, W i m H →
  (J.stop i H ∧ Q (.ref D) H) ∨ (J.go i H ∧ ∃ Nx : Hp → Prop, (∀ H', Nx H' → ∃ m', m' < m ∧ W (i + 1) m' H') ∧ ∀ x H', J.yld i H x H' → g x (wipe σ ws) H' fun σ2 H2 => wipe σ2 ws = wipe σ ws ∧ tt σ2 H2 fun b H3 =>
    if b = true then tk σ2 H3 fun y H4 => tv σ2 H4 fun z H5 => ∃ kvs k, y = kV k ∧ H5 D = some (.dK kvs) ∧ kvs.length < sizeLine ∧ Nx (upd H5 D (.dK (putK kvs k z))) else Nx H3)) : tDc wi g tt tk tv ws σ H Q := h
theorem dc_it {J : It} {n : Nat} {G : Hp → Prop} {Y : Nat → Hp → V → Hp → Prop} (w : Walk J n G Y) {g : TG} {tt : TT} {tk tv : TE} {vs : List Nat} {H1 : Hp} {d : Addr} {Qd : Hp → Prop} (Pv : Nat → Hp → Prop) (h0 : Pv 0 (upd H1 d (DI []))) (hG : ∀ i H, i ≤ n → Pv i H → G H)
    (hs : ∀ i x H H' (Kt : V → V → Hp → Prop) (Kn : Hp → Prop), i < n → Pv i H → Y i H x H' → (∀ m k z H5, H5 d = some (DI m) → m.length < 100000 → Pv (i + 1) (upd H5 d (DI (pt m k z))) → Kt (.int k) z H5) → (∀ H3, Pv (i + 1) H3 → Kn H3) →
      g x (wipe σ vs) H' fun σ2 H2 => wipe σ2 vs = wipe σ vs ∧ tt σ2 H2 fun b H3 => if b = true then tk σ2 H3 fun y H4 => tv σ2 H4 fun z H5 => Kt y z H5 else Kn H3)
    (hd : ∀ H, Pv n H → Qd H) :
    ∃ W : Nat → Nat → Hp → Prop, (∃ m, W 0 m (upd H1 d (.dK []))) ∧ ∀ i m H, W i m H →
      (J.stop i H ∧ Qd H) ∨ (J.go i H ∧ ∃ Nx : Hp → Prop, (∀ H', Nx H' → ∃ m', m' < m ∧ W (i + 1) m' H') ∧ ∀ x H', J.yld i H x H' → g x (wipe σ vs) H' fun σ2 H2 => wipe σ2 vs = wipe σ vs ∧ tt σ2 H2 fun b H3 =>
        if b = true then tk σ2 H3 fun y H4 => tv σ2 H4 fun z H5 => ∃ kvs k, y = kV k ∧ H5 d = some (.dK kvs) ∧ kvs.length < sizeLine ∧ Nx (upd H5 d (.dK (putK kvs k z))) else Nx H3) := by
  refine ⟨fun i m H => m = n - i ∧ i ≤ n ∧ Pv i H, ⟨n, by simp, Nat.zero_le _, h0⟩, ?_⟩
  rintro i m H ⟨rfl, hi, p⟩
  have q := hG i H hi p
  by_cases hlt : i < n
  · refine .inr ⟨w.goes i H hlt q, Pv (i + 1), fun H' p' => ⟨n - (i + 1), by omega, rfl, hlt, p'⟩, fun x H' y => ?_⟩
    exact hs i x H H' (fun y z H5 => ∃ kvs k, y = kV k ∧ H5 d = some (.dK kvs) ∧ kvs.length < sizeLine ∧ Pv (i + 1) (upd H5 d (.dK (putK kvs k z)))) _ hlt p (w.yields i H x H' hlt q y)
      (fun m k z H5 h5 hl r => ⟨_, Sum.inl k, rfl, h5, by rw [List.length_map]; exact szl hl, by rw [putK_di]; exact r⟩) fun _ h => h
  · have e : i = n := by omega
    subst e
    exact .inl ⟨w.stops H q, hd H p⟩
end Rd

set_option Elab.async false
set_option linter.all false
set_option maxRecDepth 100000
/-! match over tuples: case ("word", a, _, b), several such patterns, several texts -/
namespace L2
open PySem PySem.Spec PyProof.Rows
/-- one place of a pattern: a written text, a name that is taken, anything -/
inductive Pl
  | txt (c : Str)
  | cap (i : Nat)
  | any
def fit : List Pl → List V → Option Bool
  | [], [] => some true
  | .txt c :: ps, .str z :: xs => if z = c then fit ps xs else some false
  | .cap _ :: ps, _ :: xs => fit ps xs
  | .any :: ps, _ :: xs => fit ps xs
  | _, _ => none
def fitA (ps : List Pl) (xs : List V) : Option Bool := if ps.length = xs.length then fit ps xs else some false
def fitO : List (List Pl) → List V → Option Bool
  | [], _ => some false
  | p :: r, xs => match fitA p xs with
    | some true => some true
    | some false => fitO r xs
    | none => none
def caps : List Pl → List V → List (Nat × V)
  | .cap i :: ps, v :: vs => (i, v) :: caps ps vs
  | .txt _ :: ps, _ :: vs => caps ps vs
  | .any :: ps, _ :: vs => caps ps vs
  | _, _ => []
def tBnd : List Pl → List V → St → Hp → (St → Hp → Prop) → Prop
  | .cap i :: ps, v :: vs => fun σ H Q => gName i v σ H fun σ' H' => tBnd ps vs σ' H' Q
  | .txt _ :: ps, _ :: vs => fun σ H Q => tBnd ps vs σ H Q
  | .any :: ps, _ :: vs => fun σ H Q => tBnd ps vs σ H Q
  | _, _ => fun σ H Q => Q σ H
inductive Pt
  | rest
  | seq (ps : List Pl)
  | ors (pss : List (List Pl))
def tCasesQ (xs : List V) : List (Pt × TS) → TS
  | [] => fun D σ H => D.nx σ H
  | (.rest, t) :: _ => t
  | (.seq ps, t) :: r => fun D σ H => ∃ b, fitA ps xs = some b ∧ if b = true then tBnd ps xs σ H (fun σ' H' => t D σ' H') else tCasesQ xs r D σ H
  | (.ors pss, t) :: r => fun D σ H => ∃ b, fitO pss xs = some b ∧ if b = true then t D σ H else tCasesQ xs r D σ H
def tMatchQ (K : PySem.W.Frag) (te : TE) (l : List (Pt × TS)) : TS := fun D σ H => te σ H fun x H1 => ∃ a xs, x = .ref a ∧ SqT K H1 a xs ∧ xs.length ≤ 1000 ∧ tCasesQ xs l D σ H1
inductive PMs (X : Cx) : List Pattern → List Pl → Prop
  | nil : PMs X [] []
  | txt {c : Str} {j : Nat} {p p2 : Pos} {r : List Pattern} {l : List Pl} : PMs X r l → PMs X (.MatchValue (.Constant (.str c) j p) p2 :: r) (.txt c :: l)
  | cap {x : Str} {i : Nat} {p : Pos} {r : List Pattern} {l : List Pl} (hN : X.N.Nodup) (hi : X.N[i]? = some x) (hx : Loc X.env.scope x) (hf : X.fn x = true ∨ X.env.scope.names.lookup x = some .local) : PMs X r l → PMs X (.MatchAs none (some x) p :: r) (.cap i :: l)
  | any {p : Pos} {r : List Pattern} {l : List Pl} : PMs X r l → PMs X (.MatchAs none none p :: r) (.any :: l)
theorem PMs.len {X : Cx} {ps : List Pattern} {ls : List Pl} (h : PMs X ps ls) : ps.length = ls.length := by
  induction h with
  | nil => rfl
  | txt _ ih => exact congrArg Nat.succ ih
  | cap _ _ _ _ _ ih => exact congrArg Nat.succ ih
  | any _ ih => exact congrArg Nat.succ ih
theorem PMs.star {X : Cx} {ps : List Pattern} {ls : List Pl} (h : PMs X ps ls) : ps.findIdx? (·.isStar) = none := by
  induction h with
  | nil => rfl
  | txt _ ih => rw [List.findIdx?_cons, ih]; rfl
  | cap _ _ _ _ _ ih => rw [List.findIdx?_cons, ih]; rfl
  | any _ ih => rw [List.findIdx?_cons, ih]; rfl
/-- what the captures hold -/
inductive CapR (X : Cx) : List (Nat × V) → List (Str × Value) → Prop
  | nil : CapR X [] []
  | cons {i : Nat} {v : V} {x : Str} {u : Value} {l : List (Nat × V)} {m : List (Str × Value)} (hN : X.N.Nodup) (hi : X.N[i]? = some x) (hx : Loc X.env.scope x) (hf : X.fn x = true ∨ X.env.scope.names.lookup x = some .local) (r : RelV v u) : CapR X l m → CapR X ((i, v) :: l) ((x, u) :: m)
def tCap : List (Nat × V) → St → Hp → (St → Hp → Prop) → Prop
  | [] => fun σ H Q => Q σ H
  | (i, v) :: r => fun σ H Q => gName i v σ H fun σ' H' => tCap r σ' H' Q
theorem tBnd_caps : ∀ (ps : List Pl) (vs : List V) (σ : St) (H : Hp) (Q : St → Hp → Prop), tBnd ps vs σ H Q → tCap (caps ps vs) σ H Q
  | [], [], σ, H, Q, h => h
  | [], _ :: _, σ, H, Q, h => h
  | .cap i :: ps, v :: vs, σ, H, Q, h => by
    show tCap (caps ps vs) _ _ _
    exact tBnd_caps ps vs _ _ _ h
  | .txt _ :: ps, _ :: vs, σ, H, Q, h => tBnd_caps ps vs σ H Q h
  | .any :: ps, _ :: vs, σ, H, Q, h => tBnd_caps ps vs σ H Q h
  | .cap _ :: _, [], σ, H, Q, h => h
  | .txt _ :: _, [], σ, H, Q, h => h
  | .any :: _, [], σ, H, Q, h => h
section
variable {X : Cx}
theorem each_ok {ps : List Pattern} {ls : List Pl} (h : PMs X ps ls) : ∀ {vs : List V} {us : List Value} {b : Bool} {pins : List (Addr × Obj)} {s : Shared} {σ : St} {H : Hp} {Q : Option (List (Str × Value)) → Shared → Prop}, Inv X pins σ H s → Vals vs us → fit ls vs = some b →
    (∀ s' r, Inv X pins σ H s' → (b = false → r = none) → (b = true → ∃ bs, r = some bs ∧ CapR X (caps ls vs) bs) → Q r s') → wpAny (model X.prog X.w) X.A (matchEach ps X.env us) Q X.xe s := by
  induction h with
  | nil =>
    intro vs us b pins s σ H Q I r hf q
    cases r with
    | nil =>
      cases hf
      exact wpAny_matchEach_nil (q s _ I (fun z => nomatch z) fun _ => ⟨[], rfl, .nil⟩)
    | cons _ _ => cases hf
  | @txt c j p p2 r0 l0 hr ih =>
    intro vs us b pins s σ H Q I r hf q
    cases r with
    | nil => cases hf
    | @cons v u vr ur rv rr =>
      cases v with
      | str z =>
        have hf' : (if z = c then fit l0 vr else some false) = some b := hf
        refine wpAny_matchEach_cons (wpAny_matchPattern_Value ?_)
        refine thn ((pe_str (X := X) (x := c)).run pins s σ H (fun v H' => v = .str c ∧ H' = H) I ⟨rfl, rfl⟩) fun v s1 hh => ?_
        obtain ⟨x, H1, I1, rx, ex, eH⟩ := hh
        subst ex
        subst eH
        refine thn (op_eq pins s1 σ H1 (.str z) (.str c) u v (fun y H' => y = .bl (decide (V.str z = V.str c)) ∧ H' = H1) I1 rv rx ⟨rfl, rfl, rfl⟩) fun y s2 hh => ?_
        obtain ⟨x, H2, I2, rx2, ex, eH⟩ := hh
        subst ex
        subst eH
        cases rx2
        refine wpAny_truthy_bool ?_
        by_cases e : z = c
        · rw [if_pos e] at hf'
          rw [decide_eq_true (by rw [e])]
          refine ih I2 rr hf' fun s' r' I' h1 h2 => ?_
          cases b with
          | false =>
            cases h1 rfl
            exact q s' _ I' (fun _ => rfl) fun z => nomatch z
          | true =>
            obtain ⟨bs, rfl, cr⟩ := h2 rfl
            exact q s' _ I' (fun z => nomatch z) fun _ => ⟨bs, rfl, cr⟩
        · rw [if_neg e] at hf'
          cases hf'
          rw [decide_eq_false (fun q => e (by injection q))]
          exact q s2 _ I2 (fun _ => rfl) fun z => nomatch z
      | _ => cases hf
  | @cap x i p r0 l0 hN hi hx hfn hr ih =>
    intro vs us b pins s σ H Q I r hf q
    cases r with
    | nil => cases hf
    | @cons v u vr ur rv rr =>
      have hf' : fit l0 vr = some b := hf
      refine wpAny_matchEach_cons (wpAny_matchPattern_Capture ?_)
      refine ih I rr hf' fun s' r' I' h1 h2 => ?_
      cases b with
      | false =>
        cases h1 rfl
        exact q s' _ I' (fun _ => rfl) fun z => nomatch z
      | true =>
        obtain ⟨bs, rfl, cr⟩ := h2 rfl
        exact q s' _ I' (fun z => nomatch z) fun _ => ⟨_, rfl, .cons hN hi hx hfn rv cr⟩
  | @any p r0 l0 hr ih =>
    intro vs us b pins s σ H Q I r hf q
    cases r with
    | nil => cases hf
    | @cons v u vr ur rv rr =>
      have hf' : fit l0 vr = some b := hf
      refine wpAny_matchEach_cons (wpAny_matchPattern_Capture ?_)
      refine ih I rr hf' fun s' r' I' h1 h2 => ?_
      cases b with
      | false =>
        cases h1 rfl
        exact q s' _ I' (fun _ => rfl) fun z => nomatch z
      | true =>
        obtain ⟨bs, rfl, cr⟩ := h2 rfl
        exact q s' _ I' (fun z => nomatch z) fun _ => ⟨_, rfl, cr⟩
/-- one pattern over a tuple -/
theorem seq_ok {ps : List Pattern} {ls : List Pl} {pos : Pos} (hc : X.calm = true) (h : PMs X ps ls) (hw : (ps.all fun p => p.isWildcard || (p.isStar && p.names.isEmpty)) = false) {a : Addr} {xs : List V} {b : Bool} {pins : List (Addr × Obj)} {s : Shared} {σ : St} {H : Hp} {Q : Option (List (Str × Value)) → Shared → Prop}
    (I : Inv X pins σ H s) (hq : SqT X.K H a xs) (hl : xs.length ≤ 1000) (hf : fitA ls xs = some b)
    (q : ∀ s' r, Inv X pins σ H s' → (b = false → r = none) → (b = true → ∃ bs, r = some bs ∧ CapR X (caps ls xs) bs) → Q r s') : wpAny (model X.prog X.w) X.A (matchPattern (.MatchSequence ps pos) X.env (.ref a)) Q X.xe s := by
  obtain ⟨its, rv, ht, hz⟩ := I.tuple hq
  have hfit : (its.toArray.size : Int) < 2 ^ 63 := by
    have := rv.length
    simp only [List.size_toArray]
    omega
  have el : its.toArray.size = xs.length := by simp only [List.size_toArray]; exact rv.length.symm
  refine wpAny_matchPattern_Sequence (wpAny_collectionFlag ht.typeIs flag_seq_tuple ?_) h.star hw
  rw [if_pos rfl]
  refine pyLen_tuple ht hfit ?_
  have I1 : Inv X pins σ H { s with toks := s.toks + 1 + 1 } := I.kept (t' := s.toks + 1 + 1) fun b o e => e
  by_cases e : ls.length = xs.length
  · have ep : its.toArray.size = ps.length := by rw [el, ← e, h.len]
    rw [if_neg (by simp only [ep]; simp)]
    have hf' : fit ls xs = some b := by unfold fitA at hf; rw [if_pos e] at hf; exact hf
    rw [← ep]
    refine unpackItems_tuple (I.ok.hd hc) (show IsTup _ a its.toArray from ht) fun h' hx => ?_
    have I2 : Inv X pins σ H { s with heap := h', toks := s.toks + 1 + 1 } := I.kept (t' := s.toks + 1 + 1) fun b o e => hx b o (Nat.ne_of_lt (Heap.lt_size e)) e
    exact each_ok h I2 (by simpa using rv) hf' q
  · rw [if_pos (by simp only [el]; rw [h.len]; simp; omega)]
    have hf' : b = false := by
      unfold fitA at hf
      rw [if_neg e] at hf
      exact (Option.some.inj hf).symm
    exact q _ _ I1 (fun _ => rfl) fun z => by rw [hf'] at z; cases z
theorem assign_caps : ∀ {l : List (Nat × V)} {bs : List (Str × Value)} {pins : List (Addr × Obj)} {s : Shared} {σ : St} {H : Hp} {Q : St → Hp → Prop}, CapR X l bs → Inv X pins σ H s → tCap l σ H Q →
    wpAny (model X.prog X.w) X.A (assignInOrder (bs.map fun (n, _) => bindName X.env n) (bs.map (·.2))) (fun _ s' => ∃ σ' H', Inv X pins σ' H' s' ∧ Q σ' H') X.xe s
  | _, _, pins, s, σ, H, Q, .nil, I, h => wpAny_assignInOrder_none ⟨σ, H, I, h⟩
  | _, _, pins, s, σ, H, Q, .cons hN hi hx hf r c, I, h => by
    refine wpAny_assignInOrder_more (wpAny_bindName (store_ok I hN hi hx r (fun s' I' => ?_) hf))
    exact assign_caps c I' h
inductive PMss (X : Cx) : List Pattern → List (List Pl) → Prop
  | nil : PMss X [] []
  | cons {ps : List Pattern} {pos : Pos} {ls : List Pl} {r : List Pattern} {l : List (List Pl)} (h : PMs X ps ls) (hw : (ps.all fun p => p.isWildcard || (p.isStar && p.names.isEmpty)) = false) : PMss X r l → PMss X (.MatchSequence ps pos :: r) (ls :: l)
theorem first_ok (hc : X.calm = true) {pts : List Pattern} {lss : List (List Pl)} (h : PMss X pts lss) {a : Addr} {xs : List V} : ∀ {b : Bool} {pins : List (Addr × Obj)} {s : Shared} {σ : St} {H : Hp} {Q : Option (List (Str × Value)) → Shared → Prop},
    Inv X pins σ H s → SqT X.K H a xs → xs.length ≤ 1000 → fitO lss xs = some b → (∀ s' r, Inv X pins σ H s' → (b = false → r = none) → (b = true → ∃ bs, r = some bs) → Q r s') → wpAny (model X.prog X.w) X.A (matchFirst pts X.env (.ref a)) Q X.xe s := by
  induction h with
  | nil =>
    intro b pins s σ H Q I hq hl hf q
    cases hf
    exact wpAny_matchFirst_nil (q s _ I (fun _ => rfl) fun z => nomatch z)
  | @cons ps pos ls r l h hw hr ih =>
    intro b pins s σ H Q I hq hl hf q
    refine wpAny_matchFirst_cons ?_
    have hf' : (match fitA ls xs with | some true => some true | some false => fitO l xs | none => none) = some b := hf
    cases e : fitA ls xs with
    | none => rw [e] at hf'; cases hf'
    | some b1 =>
      rw [e] at hf'
      refine seq_ok hc h hw I hq hl e fun s' r' I' h1 h2 => ?_
      cases b1 with
      | false =>
        cases h1 rfl
        exact ih I' hq hl hf' q
      | true =>
        obtain ⟨bs, rfl, _⟩ := h2 rfl
        cases hf'
        exact q s' _ I' (fun z => nomatch z) fun _ => ⟨_, rfl⟩
inductive PCq (X : Cx) : List MatchCase → List (Pt × TS) → Prop
  | nil : PCq X [] []
  | rest {body : List Stmt} {t : TS} {p : Pos} {r : List MatchCase} : PSs X body t → PCq X (⟨.MatchAs none none p, none, body⟩ :: r) [(.rest, t)]
  | seq {body : List Stmt} {t : TS} {ps : List Pattern} {ls : List Pl} {p : Pos} {r : List MatchCase} {l : List (Pt × TS)} (h : PMs X ps ls) (hb : PSs X body t) (hr : PCq X r l) (hw : (ps.all fun p => p.isWildcard || (p.isStar && p.names.isEmpty)) = false := by rfl) :
      PCq X (⟨.MatchSequence ps p, none, body⟩ :: r) ((.seq ls, t) :: l)
  | ors {body : List Stmt} {t : TS} {ps : List Pattern} {lss : List (List Pl)} {p : Pos} {r : List MatchCase} {l : List (Pt × TS)} (h : PMss X ps lss) (hb : PSs X body t) (hr : PCq X r l) (hn : namesOfAll (ps.take 1) = [] := by rfl) :
      PCq X (⟨.MatchOr ps p, none, body⟩ :: r) ((.ors lss, t) :: l)
theorem run_casesQ (hc : X.calm = true) {a : Addr} {xs : List V} (hl : xs.length ≤ 1000) {cs : List MatchCase} {l : List (Pt × TS)} (h : PCq X cs l) : ∀ (first : Bool) (pins : List (Addr × Obj)) (s : Shared) (σ : St) (H : Hp) (D : Ends), Inv X pins σ H s → SqT X.K H a xs → tCasesQ xs l D σ H →
    wpAny (model X.prog X.w) X.A (matchCases cs X.env (.ref a) first) (SP X pins D) X.xe s := by
  induction h with
  | nil => exact fun first pins s σ H D I hq h => wpAny_matchCases_nil ⟨σ, H, I, h⟩
  | rest hb =>
    intro first pins s σ H D I hq h
    refine wpAny_matchCases_cons (wpAny_matchPattern_Capture ?_)
    exact wpAny_assignInOrder_none (hb.run pins s σ H D I h)
  | @seq body t ps ls p r l hp hb hr hw ih =>
    intro first pins s σ H D I hq h
    obtain ⟨b, hf, h⟩ := h
    refine wpAny_matchCases_cons (seq_ok hc hp hw I hq hl hf fun s' r' I' h1 h2 => ?_)
    cases b with
    | false =>
      cases h1 rfl
      rw [if_neg (by simp)] at h
      exact ih false pins s' σ H D I' hq h
    | true =>
      obtain ⟨bs, rfl, cr⟩ := h2 rfl
      rw [if_pos rfl] at h
      refine thn (assign_caps cr I' (tBnd_caps _ _ _ _ _ h)) fun _ s1 hh => ?_
      obtain ⟨σ', H', I2, q⟩ := hh
      exact hb.run pins s1 σ' H' D I2 q
  | @ors body t ps lss p r l hp hb hr hn ih =>
    intro first pins s σ H D I hq h
    obtain ⟨b, hf, h⟩ := h
    refine wpAny_matchCases_cons (wpAny_matchPattern_Or (first_ok hc hp I hq hl hf fun s' r' I' h1 h2 => ?_))
    cases b with
    | false =>
      cases h1 rfl
      rw [if_neg (by simp)] at h
      exact ih false pins s' σ H D I' hq h
    | true =>
      obtain ⟨bs, rfl⟩ := h2 rfl
      rw [if_pos rfl] at h
      show wpAny _ _ (assignInOrder (((namesOfAll (ps.take 1)).filterMap fun n => (bs.lookup n).map (n, ·)).map _) _) _ _ _
      rw [hn]
      exact wpAny_assignInOrder_none (hb.run pins s' σ H D I' h)
theorem ps_matchQ {e : Expr} {te : TE} {cs : List MatchCase} {l : List (Pt × TS)} {pos : Pos} (hc : X.calm = true) (he : PE X e te) (hp : PCq X cs l) : PS X (.Match e cs pos) (tMatchQ X.K te l) := by
  refine ⟨fun pins s σ H D I h => wpAny_Match ?_⟩
  refine thn (he.run pins s σ H _ I h) fun u s1 hh => ?_
  obtain ⟨x, H1, I1, rx, a, xs, ex, hq, hl, hz⟩ := hh
  subst ex
  cases rx
  exact run_casesQ hc hl hp true pins s1 σ H1 D I1 hq hz
end
/-! ### match over texts with several of them -/
def tCasesO (z : Str) : List (Option (List Str) × TS) → TS
  | [] => fun D σ H => D.nx σ H
  | (none, t) :: _ => t
  | (some cs, t) :: r => fun D σ H => if z ∈ cs then t D σ H else tCasesO z r D σ H
def tMatchO (te : TE) (l : List (Option (List Str) × TS)) : TS := fun D σ H => te σ H fun x H1 => ∃ z : Str, x = .str z ∧ tCasesO z l D σ H1
inductive PVs (X : Cx) : List Pattern → List Str → Prop
  | nil : PVs X [] []
  | cons {c : Str} {j : Nat} {p p2 : Pos} {r : List Pattern} {l : List Str} : PVs X r l → PVs X (.MatchValue (.Constant (.str c) j p) p2 :: r) (c :: l)
inductive PCo (X : Cx) : List MatchCase → List (Option (List Str) × TS) → Prop
  | nil : PCo X [] []
  | rest {body : List Stmt} {t : TS} {p : Pos} {r : List MatchCase} : PSs X body t → PCo X (⟨.MatchAs none none p, none, body⟩ :: r) [(none, t)]
  | text {body : List Stmt} {t : TS} {c : Str} {j : Nat} {p p2 : Pos} {r : List MatchCase} {l : List (Option (List Str) × TS)} : PSs X body t → PCo X r l →
      PCo X (⟨.MatchValue (.Constant (.str c) j p) p2, none, body⟩ :: r) ((some [c], t) :: l)
  | ors {body : List Stmt} {t : TS} {ps : List Pattern} {cs : List Str} {p : Pos} {r : List MatchCase} {l : List (Option (List Str) × TS)} (h : PVs X ps cs) (hb : PSs X body t) (hr : PCo X r l) (hn : namesOfAll (ps.take 1) = [] := by rfl) :
      PCo X (⟨.MatchOr ps p, none, body⟩ :: r) ((some cs, t) :: l)
section
variable {X : Cx}
theorem val_ok {c z : Str} {u : Value} (ru : RelV (.str z) u) {j : Nat} {p p2 : Pos} {pins : List (Addr × Obj)} {s : Shared} {σ : St} {H : Hp} {Q : Option (List (Str × Value)) → Shared → Prop} (I : Inv X pins σ H s)
    (q : ∀ s', Inv X pins σ H s' → Q (if z = c then some [] else none) s') : wpAny (model X.prog X.w) X.A (matchPattern (.MatchValue (.Constant (.str c) j p) p2) X.env u) Q X.xe s := by
  refine wpAny_matchPattern_Value ?_
  refine thn ((pe_str (X := X) (x := c)).run pins s σ H (fun v H' => v = .str c ∧ H' = H) I ⟨rfl, rfl⟩) fun v s1 hh => ?_
  obtain ⟨x, H1, I1, rx, ex, eH⟩ := hh
  subst ex
  subst eH
  refine thn (op_eq pins s1 σ H1 (.str z) (.str c) u v (fun y H' => y = .bl (decide (V.str z = V.str c)) ∧ H' = H1) I1 ru rx ⟨rfl, rfl, rfl⟩) fun y s2 hh => ?_
  obtain ⟨x, H2, I2, rx2, ex, eH⟩ := hh
  subst ex
  subst eH
  cases rx2
  refine wpAny_truthy_bool ?_
  have q2 := q s2 I2
  by_cases e : z = c
  · rw [if_pos e] at q2
    rw [decide_eq_true (by rw [e])]
    exact q2
  · rw [if_neg e] at q2
    rw [decide_eq_false (fun q => e (by injection q))]
    exact q2
theorem vals_ok {z : Str} {u : Value} (ru : RelV (.str z) u) {ps : List Pattern} {cs : List Str} (h : PVs X ps cs) : ∀ {pins : List (Addr × Obj)} {s : Shared} {σ : St} {H : Hp} {Q : Option (List (Str × Value)) → Shared → Prop}, Inv X pins σ H s →
    (∀ s', Inv X pins σ H s' → Q (if z ∈ cs then some [] else none) s') → wpAny (model X.prog X.w) X.A (matchFirst ps X.env u) Q X.xe s := by
  induction h with
  | nil =>
    intro pins s σ H Q I q
    have q2 := q s I
    rw [if_neg List.not_mem_nil] at q2
    exact wpAny_matchFirst_nil q2
  | @cons c j p p2 r l hr ih =>
    intro pins s σ H Q I q
    refine wpAny_matchFirst_cons (val_ok ru I fun s' I' => ?_)
    by_cases e : z = c
    · rw [if_pos e]
      have q2 := q s' I'
      rw [if_pos (by rw [e]; exact List.mem_cons_self ..)] at q2
      exact q2
    · rw [if_neg e]
      refine ih I' fun s2 I2 => ?_
      have q2 := q s2 I2
      by_cases m : z ∈ l
      · rw [if_pos m]
        rw [if_pos (List.mem_cons_of_mem _ m)] at q2
        exact q2
      · rw [if_neg m]
        rw [if_neg (fun w => (List.mem_cons.mp w).elim e m)] at q2
        exact q2
theorem run_casesO {z : Str} {u : Value} (ru : RelV (.str z) u) {cs : List MatchCase} {l : List (Option (List Str) × TS)} (h : PCo X cs l) : ∀ (first : Bool) (pins : List (Addr × Obj)) (s : Shared) (σ : St) (H : Hp) (D : Ends), Inv X pins σ H s → tCasesO z l D σ H →
    wpAny (model X.prog X.w) X.A (matchCases cs X.env u first) (SP X pins D) X.xe s := by
  induction h with
  | nil => exact fun first pins s σ H D I h => wpAny_matchCases_nil ⟨σ, H, I, h⟩
  | rest hb =>
    intro first pins s σ H D I h
    refine wpAny_matchCases_cons (wpAny_matchPattern_Capture ?_)
    exact wpAny_assignInOrder_none (hb.run pins s σ H D I h)
  | @text body t c j p p2 r l hb hr ih =>
    intro first pins s σ H D I h
    refine wpAny_matchCases_cons (val_ok ru I fun s' I' => ?_)
    have h' : (if z ∈ [c] then t D σ H else tCasesO z l D σ H) := h
    by_cases e : z = c
    · rw [if_pos e]
      rw [if_pos (List.mem_singleton.mpr e)] at h'
      exact wpAny_assignInOrder_none (hb.run pins s' σ H D I' h')
    · rw [if_neg e]
      rw [if_neg (fun w => e (List.mem_singleton.mp w))] at h'
      exact ih false pins s' σ H D I' h'
  | @ors body t ps cs p r l hp hb hr hn ih =>
    intro first pins s σ H D I h
    refine wpAny_matchCases_cons (wpAny_matchPattern_Or (vals_ok ru hp I fun s' I' => ?_))
    have h' : (if z ∈ cs then t D σ H else tCasesO z l D σ H) := h
    by_cases e : z ∈ cs
    · rw [if_pos e]
      rw [if_pos e] at h'
      show wpAny _ _ (assignInOrder (((namesOfAll (ps.take 1)).filterMap fun n => (([] : List (Str × Value)).lookup n).map (n, ·)).map _) _) _ _ _
      rw [hn]
      exact wpAny_assignInOrder_none (hb.run pins s' σ H D I' h')
    · rw [if_neg e]
      rw [if_neg e] at h'
      exact ih false pins s' σ H D I' h'
theorem ps_matchO {e : Expr} {te : TE} {cs : List MatchCase} {l : List (Option (List Str) × TS)} {pos : Pos} (he : PE X e te) (hp : PCo X cs l) : PS X (.Match e cs pos) (tMatchO te l) := by
  refine ⟨fun pins s σ H D I h => wpAny_Match ?_⟩
  refine thn (he.run pins s σ H _ I h) fun u s1 hh => ?_
  obtain ⟨x, H1, I1, rx, z, ez, hz⟩ := hh
  subst ez
  exact run_casesO rx hp true pins s1 σ H1 D I1 hz
end
end L2
namespace Rd
open PySem PySem.Spec PyProof.Rows L2
variable {K : PySem.W.Frag} {σ : L2.St} {H : Hp} {D : Ends} {te : TE} {t : TS} {v : V} {vs xs : List V} {ps : List Pl} {pss : List (List Pl)} {r : List (Pt × TS)} {z c : Str}
theorem mtq {l : List (Pt × TS)} (h : te σ H fun x H1 => ∃ a xs, x = .ref a ∧ SqT K H1 a xs ∧ xs.length ≤ 1000 ∧ tCasesQ xs l D σ H1) : tMatchQ K te l D σ H := h
theorem mtqI {a : Addr} {l : List (Pt × TS)} (h : SqT K H a xs) (hl : xs.length ≤ 1000) (q : tCasesQ xs l D σ H) : ∃ a' xs, V.ref a = .ref a' ∧ SqT K H a' xs ∧ xs.length ≤ 1000 ∧ tCasesQ xs l D σ H := ⟨a, xs, rfl, h, hl, q⟩
theorem mtRest {r : List (Pt × TS)} (h : t D σ H) : tCasesQ xs ((.rest, t) :: r) D σ H := h
theorem mtEnd (h : D.nx σ H) : tCasesQ xs [] D σ H := h
/-- another length -/
theorem mtLen (e : (ps.length == xs.length) = false) (h : tCasesQ xs r D σ H) : tCasesQ xs ((.seq ps, t) :: r) D σ H :=
  ⟨false, by unfold fitA; rw [if_neg (by simpa using e)], if_f rfl h⟩
/-- another word in the first place -/
theorem mtNo (e : z ≠ c) (h : tCasesQ (.str z :: xs) r D σ H) : tCasesQ (.str z :: xs) ((.seq (.txt c :: ps), t) :: r) D σ H :=
  ⟨false, (by
    unfold fitA
    by_cases l : (Pl.txt c :: ps).length = (V.str z :: xs).length
    · rw [if_pos l]; show (if z = c then _ else _) = _; rw [if_neg e]
    · rw [if_neg l]), if_f rfl h⟩
theorem mtNo2 (e : z ≠ c) (h : tCasesQ (v :: .str z :: xs) r D σ H) : tCasesQ (v :: .str z :: xs) ((.seq (.any :: .txt c :: ps), t) :: r) D σ H :=
  ⟨false, (by
    unfold fitA
    by_cases l : (Pl.any :: Pl.txt c :: ps).length = (v :: V.str z :: xs).length
    · rw [if_pos l]; show (if z = c then _ else _) = _; rw [if_neg e]
    · rw [if_neg l]), if_f rfl h⟩
/-- it fits: the same word, the rest any -/
theorem mtYes (e : fitA ps xs = some true) (h : tBnd ps xs σ H (fun σ' H' => t D σ' H')) : tCasesQ (.str c :: xs) ((.seq (.txt c :: ps), t) :: r) D σ H :=
  ⟨true, (by
    unfold fitA at e ⊢
    by_cases l : ps.length = xs.length
    · rw [if_pos l] at e
      rw [if_pos (show (Pl.txt c :: ps).length = (V.str c :: xs).length from congrArg Nat.succ l)]
      show (if c = c then fit ps xs else _) = _
      rw [if_pos rfl]; exact e
    · rw [if_neg l] at e; cases e), if_t rfl h⟩
theorem mtFit (e : fitA ps xs = some true) (h : tBnd ps xs σ H (fun σ' H' => t D σ' H')) : tCasesQ xs ((.seq ps, t) :: r) D σ H := ⟨true, e, if_t rfl h⟩
theorem mtOY (e : fitO pss xs = some true) (h : t D σ H) : tCasesQ xs ((.ors pss, t) :: r) D σ H := ⟨true, e, if_t rfl h⟩
theorem mtON (e : fitO pss xs = some false) (h : tCasesQ xs r D σ H) : tCasesQ xs ((.ors pss, t) :: r) D σ H := ⟨false, e, if_f rfl h⟩
theorem tbC {i : Nat} {Q : L2.St → Hp → Prop} (h : gName i v σ H fun σ' H' => tBnd ps vs σ' H' Q) : tBnd (.cap i :: ps) (v :: vs) σ H Q := h
theorem tbT {Q : L2.St → Hp → Prop} (h : tBnd ps vs σ H Q) : tBnd (.txt c :: ps) (v :: vs) σ H Q := h
theorem tbA {Q : L2.St → Hp → Prop} (h : tBnd ps vs σ H Q) : tBnd (.any :: ps) (v :: vs) σ H Q := h
theorem tbN {Q : L2.St → Hp → Prop} (h : Q σ H) : tBnd [] [] σ H Q := h
theorem mto {l : List (Option (List Str) × TS)} (h : te σ H fun x H1 => ∃ z : Str, x = .str z ∧ tCasesO z l D σ H1) : tMatchO te l D σ H := h
theorem mtoI {l : List (Option (List Str) × TS)} (q : tCasesO z l D σ H) : ∃ z' : Str, V.str z = .str z' ∧ tCasesO z' l D σ H := ⟨z, rfl, q⟩
theorem moRest {r : List (Option (List Str) × TS)} (h : t D σ H) : tCasesO z ((none, t) :: r) D σ H := h
theorem moEnd (h : D.nx σ H) : tCasesO z [] D σ H := h
theorem moY {cs : List Str} {r : List (Option (List Str) × TS)} (e : z ∈ cs) (h : t D σ H) : tCasesO z ((some cs, t) :: r) D σ H := by
  show (if z ∈ cs then _ else _)
  rw [if_pos e]; exact h
theorem moN {cs : List Str} {r : List (Option (List Str) × TS)} (e : z ∉ cs) (h : tCasesO z r D σ H) : tCasesO z ((some cs, t) :: r) D σ H := by
  show (if z ∈ cs then _ else _)
  rw [if_neg e]; exact h
end Rd
namespace Rd
open PySem PySem.Spec PyProof.Rows L2
theorem inV_strT (x : Str) (r : List Str) : inV (.str x) (r.map V.str) = decide (x ∈ r) := by
  unfold inV
  rw [List.any_map]
  by_cases h : x ∈ r
  · rw [decide_eq_true h, List.any_eq_true]
    exact ⟨x, h, beq_self_eq_true x⟩
  · rw [decide_eq_false h, List.any_eq_false]
    intro y hy e
    have e2 : (y == x) = true := e
    rw [beq_iff_eq] at e2
    exact h (e2 ▸ hy)
theorem flat_strT : ∀ r : List Str, (r.map V.str).all flatV = true
  | [] => rfl
  | _ :: r => flat_strT r
/-- a text in a tuple of texts -/
theorem inStrT {K : PySem.W.Frag} {H : Hp} {Q : VK} {p : Addr} (ns : List Str) {n : Str} (h : SqT K H p (ns.map V.str)) (q : Q (.bl (decide (n ∈ ns))) H) : rIn K false (.str n) (.ref p) H Q :=
  ⟨p, _, rfl, .inr h, rfl, flat_strT _, by rw [inV_strT]; exact q⟩
end Rd
namespace Rd
open PySem PySem.Spec PyProof.Rows L2
variable {σ : L2.St} {H : Hp} {D : Ends} {te : TE} {t : TS} {z c : Str}
/-! match over written texts -/
theorem mch {l : List (Option Str × TS)} (h : te σ H fun x H1 => ∃ z : Str, x = .str z ∧ tCases z l D σ H1) : tMatch te l D σ H := h
theorem mchI {l : List (Option Str × TS)} (q : tCases z l D σ H) : ∃ z' : Str, V.str z = .str z' ∧ tCases z' l D σ H := ⟨z, rfl, q⟩
theorem mchY {r : List (Option Str × TS)} (h : t D σ H) : tCases c ((some c, t) :: r) D σ H := by
  show (if c = c then _ else _)
  rw [if_pos rfl]; exact h
theorem mchN {r : List (Option Str × TS)} (e : z ≠ c) (h : tCases z r D σ H) : tCases z ((some c, t) :: r) D σ H := by
  show (if z = c then _ else _)
  rw [if_neg e]; exact h
theorem mchE (h : z = c → t D σ H) {r : List (Option Str × TS)} (g : z ≠ c → tCases z r D σ H) : tCases z ((some c, t) :: r) D σ H := by
  show (if z = c then _ else _)
  by_cases e : z = c
  · rw [if_pos e]; exact h e
  · rw [if_neg e]; exact g e
theorem mchRest {r : List (Option Str × TS)} (h : t D σ H) : tCases z ((none, t) :: r) D σ H := h
end Rd

set_option Elab.async false
set_option linter.all false
set_option maxRecDepth 100000
/-! calls with keywords: pieces of their values; C(k = v, ..) within a try -/
namespace L2
open PySem PySem.Spec PyProof.Rows
open PySem.W (Looks)
theorem looks_for {α β : Type} {M : Model} {h : Heap} {f : α → β → Sem (ForInStep β)} (I : List α → β → Prop) {last : β} (end_ : ∀ b, I [] b → b = last) (step : ∀ a l b, I (a :: l) b → ∃ b', Looks M h (f a b) (.yield b') ∧ I l b') : ∀ (l : List α) (b : β), I l b → Looks M h (forIn l b f) last
  | [], b, i => by
    rw [List.forIn_nil, end_ b i]
    exact .now
  | a :: l, b, i => by
    obtain ⟨b', h1, h2⟩ := step a l b i
    rw [List.forIn_cons]
    exact h1.andThen (looks_for I end_ step l b' h2)
theorem lookup_some {β : Type} (k : Str) : ∀ (l : List (Str × β)), (l.lookup k).isSome = (l.map (·.1)).contains k
  | [] => rfl
  | (a, v) :: l => by
    rw [List.lookup_cons, List.map_cons, List.contains_cons, ← lookup_some k l]
    cases e : k == a <;> simp
theorem bind_kw {M : Model} {K : PySem.W.Frag} {h : Heap} {x qual : Str} {params : Arguments} {body : List Stmt} {scope : Scope} {D : Addr} {doc pm : Value} {an : Option Addr} {cdv ct : Value} {us : List Value} {kw ms : List (Str × Value)} {r : List (Str × Value)}
    {normal kwonly ks : List Str} (X : K.In h) (h1 : params.posonlyargs = []) (h2 : params.vararg = none) (h3 : params.kwarg = none) (h4 : params.args.map (·.arg) = normal) (h5 : params.kwonlyargs.map (·.arg) = kwonly) (e0 : us.length = normal.length) (e1 : kw.map (·.1) = ks)
    (hk : (ks.all fun k => kwonly.contains k) = true) (hnd : (normal ++ ks).Nodup) (hms : ms.map (·.1) = kwonly.filter fun n => !(normal ++ ks).contains n) (hkd : kwonly.Nodup) (hD : ∀ q ∈ ms, PySem.W.nsIn K D q.1 = some (some q.2))
    (hr : (normal ++ kwonly).filterMap (fun n => ((normal.zip us ++ kw ++ ms).lookup n).map (n, ·)) = r) :
    PySem.W.Looks M h (bindArgs (PySem.W.fnOf x qual params body scope .none (.ref D) doc pm an cdv ct) ⟨us, kw⟩) r := by
  have kz : (normal.zip us).map (·.1) = normal := by
    rw [List.map_fst_zip]
    omega
  unfold bindArgs
  simp only [PySem.W.fnOf, h1, h2, h3, List.map_nil, List.nil_append, Option.isNone_none, Option.isSome_none, h4, h5]
  refine Looks.andThen (a := (normal.zip us ++ kw, [])) (looks_for (fun l b => ∃ d, b = (normal.zip us ++ d, []) ∧ d ++ l = kw) (fun b ⟨d, e, e2⟩ => by rw [e, ← e2, List.append_nil]) (fun a l b ⟨d, e, e2⟩ => ?_) _ _ ⟨[], by rw [List.append_nil], rfl⟩) ?_
  rotate_left
  · subst e
    refine ⟨(normal.zip us ++ (d ++ [a]), []), ?_, d ++ [a], rfl, by rw [← e2, List.append_assoc]; rfl⟩
    have ma : a.1 ∈ ks := by rw [← e1, ← e2]; simp
    have c1 : kwonly.contains a.1 = true := (List.all_eq_true.mp hk) _ ma
    have c2 : ((normal.zip us ++ d).lookup a.1).isSome = false := by
      rw [lookup_some, List.map_append, kz]
      rw [← e1, ← e2, List.map_append, List.map_cons] at hnd
      have := (List.nodup_append.mp hnd)
      cases e : (normal ++ d.map (·.1)).contains a.1 with
      | false => rfl
      | true =>
        exfalso
        rw [List.contains_iff_mem, List.mem_append] at e
        rcases e with e | e
        · exact this.2.2 _ e _ (by simp) rfl
        · exact (List.nodup_append.mp this.2.1).2.2 _ e _ (by simp) rfl
    rw [c1, Bool.or_true, if_pos rfl]
    simp only [c2, Bool.false_eq_true, if_false]
    rw [← List.append_assoc]
    exact .now
  · refine Looks.andThen (a := none) .now ?_
    have g1 : ¬ ((decide (us.length > normal.length) && true) = true) := by rw [e0]; simp
    have g0 : ((none : Option (Array Value)).getD #[]).toList = [] := rfl
    simp only [g0, List.length_nil, List.drop_nil, Nat.sub_zero, List.zip_nil_right, if_neg g1]
    have g2 : (normal.take normal.length).filter (fun n => ((normal.zip us ++ kw).lookup n).isNone) = [] := by
      rw [List.filter_eq_nil_iff]
      intro n hn
      rw [List.take_length] at hn
      have : ((normal.zip us ++ kw).lookup n).isSome = true := by
        rw [lookup_some, List.map_append, kz]
        rw [List.contains_iff_mem]
        exact List.mem_append.mpr (.inl hn)
      rw [Option.isNone_iff_eq_none]
      intro z
      rw [z] at this
      cases this
    rw [g2]
    simp only [List.isEmpty_nil, Bool.not_true, Bool.false_eq_true, if_false]
    rw [List.forIn_nil, pure_bind]
    refine Looks.andThen (a := (normal.zip us ++ kw ++ ms, [])) (looks_for (fun l b => ∃ d k, d ++ l = kwonly ∧ b = (normal.zip us ++ kw ++ ms.take k, []) ∧ (ms.take k).map (·.1) = d.filter (fun n => !(normal ++ ks).contains n) ∧ (ms.drop k).map (·.1) = l.filter (fun n => !(normal ++ ks).contains n))
      (fun b ⟨d, k, e, e2, e3, e4⟩ => ?_) (fun a l b ⟨d, k, e, e2, e3, e4⟩ => ?_) _ _ ⟨[], 0, rfl, by rw [List.take_zero, List.append_nil], rfl, by rw [List.drop_zero]; exact hms⟩) ?_
    rotate_left
    · have : ms.drop k = [] := by
        have := congrArg List.length e4
        rw [List.length_map, List.filter_nil] at this
        exact List.eq_nil_of_length_eq_zero this
      rw [e2, show ms.take k = ms from by
        have h := List.take_append_drop k ms
        rw [this, List.append_nil] at h
        exact h]
    · subst e2
      have md : a ∉ d := fun m => by
        rw [← e] at hkd
        exact (List.nodup_append.mp hkd).2.2 a m a (List.mem_cons_self ..) rfl
      have ek : ((normal.zip us ++ kw ++ ms.take k).lookup a).isSome = (normal ++ ks).contains a := by
        rw [lookup_some, List.map_append, List.map_append, kz, e1, e3]
        rw [Bool.eq_iff_iff, List.contains_iff_mem, List.contains_iff_mem, List.mem_append, List.mem_filter]
        constructor
        · rintro (h | h)
          · exact h
          · exact absurd h.1 md
        · exact fun h => .inl h
      rw [List.filter_cons] at e4
      cases c : (normal ++ ks).contains a with
      | true =>
        rw [c] at ek e4
        refine ⟨_, ?_, d ++ [a], k, by rw [← e, List.append_assoc]; rfl, rfl, by rw [e3, List.filter_append, List.filter_cons, c]; simp, e4⟩
        have e0 : ((normal.zip us ++ kw ++ ms.take k).lookup a).isNone = false := by
          cases z : (normal.zip us ++ kw ++ ms.take k).lookup a with
          | none => rw [z] at ek; cases ek
          | some _ => rfl
        simp only [e0, Bool.false_eq_true, if_false]
        exact .now
      | false =>
        rw [c] at ek e4
        rw [Bool.not_false, if_pos rfl] at e4
        have e0 : ((normal.zip us ++ kw ++ ms.take k).lookup a).isNone = true := by
          cases z : (normal.zip us ++ kw ++ ms.take k).lookup a with
          | none => rfl
          | some _ => rw [z] at ek; cases ek
        obtain ⟨q, hq⟩ : ∃ q, ms[k]? = some q := by
          cases z : ms[k]? with
          | some q => exact ⟨q, rfl⟩
          | none =>
            rw [List.drop_eq_nil_of_le (List.getElem?_eq_none_iff.mp z)] at e4
            cases e4
        have hk' := (List.getElem?_eq_some_iff.mp hq).1
        have hqe := (List.getElem?_eq_some_iff.mp hq).2
        have ed : ms.drop k = q :: ms.drop (k + 1) := by rw [List.drop_eq_getElem_cons hk', hqe]
        have et : ms.take (k + 1) = ms.take k ++ [q] := by rw [List.take_succ, hq]; rfl
        rw [ed, List.map_cons] at e4
        injection e4 with e5 e6
        have hn := hD q (List.mem_of_getElem? hq)
        refine ⟨(normal.zip us ++ kw ++ ms.take (k + 1), []), ?_, d ++ [a], k + 1, by rw [← e, List.append_assoc]; rfl, rfl, by rw [et, List.map_append, e3, List.filter_append, List.filter_cons, c, e5.symm]; simp, e6⟩
        simp only [e0, if_true]
        refine Looks.andThen (PySem.W.looks_nsIn X (e5 ▸ hn)) ?_
        rw [et, ← List.append_assoc, show [q] = [(a, q.2)] from by rw [← e5]]
        exact .now
    · simp only [List.isEmpty_nil, Bool.not_true, Bool.false_eq_true, if_false]
      rw [hr]
      exact .now
/-- a call with keywords of a def without defaults but keyword-only ones -/
theorem kbn_mk {K : PySem.W.Frag} {x qual : Str} {params : Arguments} {body : List Stmt} {scope : Scope} {kws : List (Str × V)} {f : Addr} {fd : FuncData} (F : FunD K x qual params body scope [] kws f fd) (hk : kws ≠ [])
    {normal kwonly ks : List Str} (ms : List (Str × V)) (g : {α : Type} → List α → List α → List α → List α) (hm : ∀ q ∈ ms, q ∈ kws)
    (h1 : params.posonlyargs = []) (h2 : params.vararg = none) (h3 : params.kwarg = none) (h4 : params.args.map (·.arg) = normal) (h5 : params.kwonlyargs.map (·.arg) = kwonly)
    (hks : (ks.all fun k => kwonly.contains k) = true) (hnd : (normal ++ ks).Nodup) (hms : ms.map (·.1) = kwonly.filter fun n => !(normal ++ ks).contains n) (hkd : kwonly.Nodup)
    (hrel : ∀ {vs mz zs : List V} {us mv ws : List Value}, Vals vs us → Vals mz mv → Vals zs ws → Vals (g vs mz zs) (g us mv ws))
    (hr : ∀ us mv ws : List Value, us.length = normal.length → mv.length = ms.length → ws.length = ks.length →
      (normal ++ kwonly).filterMap (fun n => ((normal.zip us ++ ks.zip ws ++ (ms.map (·.1)).zip mv).lookup n).map (n, ·)) = (normal ++ kwonly).zip (g us mv ws)) :
    ∃ mv : List Value, KBn K fd (normal ++ kwonly) normal.length ks (fun us ws => g us mv ws) (fun vs zs => g vs (ms.map (·.2)) zs) := by
  obtain ⟨oc, od, dV, kV, doc, pm, an, cdv, ct, osl, rfl, lk, hcd, hD, hK⟩ := F.ex
  rcases hD with ⟨_, rfl⟩ | ⟨e, _⟩
  · rcases hK with e | ⟨D, rfl, hq⟩
    · exact absurd e hk
    · obtain ⟨mv, hl, rk, hv⟩ := kwd_vals (ms := ms) fun q h => hq q (hm q h)
      refine ⟨mv, ⟨fun s us ws X l1 l2 => BindsTo.of_looks fun M => bind_kw X h1 h2 h3 h4 h5 l1 ?_ hks hnd (ms := (ms.map (·.1)).zip mv) ?_ hkd hv (hr us mv ws l1 hl l2), fun r1 r2 => hrel r1 rk r2⟩⟩
      · rw [List.map_fst_zip]; omega
      · rw [List.map_fst_zip, hms]; rw [List.length_map]; omega
  · exact absurd rfl e
theorem _root_.L2.Vals.tk : ∀ {xs : List V} {us : List Value}, Vals xs us → ∀ (n : Nat), Vals (xs.take n) (us.take n)
  | _, _, .nil, n => by rw [List.take_nil, List.take_nil]; exact .nil
  | _, _, .cons _ _, 0 => .nil
  | _, _, .cons a r, n + 1 => .cons a (Vals.tk r n)
theorem _root_.Paired.tk {xs : List V} {us : List Value} (h : Vals xs us) (n : Nat) : Vals (xs.take n) (us.take n) := Vals.tk h n
section
variable {X : Cx} {CX : CXT} {k n : Nat} {f C : Addr} {fd : FuncData} {ps ks : List Str} {sp : Sp} {E : L2.St → XK} {x : Str} {p pos : Pos} {e : Expr} {es : List Expr} {kws : List Keyword} {t tk : TA} {g : List Value → List Value → List Value} {gV : List V → List V → List V}
theorem run_makeKS {EE : XK} {pins : List (Addr × Obj)} {σ : St} {H : Hp} {s : Shared} {Q : VK} {us ws : List Value} {vs zs : List V} (M : Mk X.K C f) (F : FnOk X.prog X.w X.K X.mg X.base CX k f fd ps sp) (hr : Room (k + 1) X.A) (hb : KBn X.K fd ps (n + 1) ks g gV) (hx : PassesAt CX X σ EE)
    (I : Inv X pins σ H s) (r : Vals vs us) (rz : Vals zs ws) (l1 : vs.length = n) (l2 : zs.length = ks.length)
    (h : ∀ x dx, H x = none → H dx = none → dx ≠ x → sp (gV (.ref x :: vs) zs) (upd (upd H dx (.own x)) x (.ins C dx [])) (fun v H2 => v = .non ∧ Q (.ref x) H2) EE) :
    wpAny (model X.prog X.w) X.A (call (.ref C) us (ks.zip ws)) (EP X pins σ Q) X.xe s := by
  have hq := h (s.heap.objs.size + 1) s.heap.objs.size (I.hok.fresh (Nat.le_succ _)) (I.hok.fresh (Nat.le_refl _)) (Nat.ne_of_lt (Nat.lt_succ_self _))
  have I2 := Inv.made (C := C) I
  have r1 : Vals (V.ref (s.heap.objs.size + 1) :: vs) (Value.ref (s.heap.objs.size + 1) :: us) := .cons rfl r
  have r2 := hb.rel r1 rz
  have n1 : (Value.ref (s.heap.objs.size + 1) :: us).length = n + 1 := by
    rw [List.length_cons, ← r.length, l1]
  refine wpAny_call (make_map (f := f) I.kIn M.makes M.init (beq_iff_eq.mp M.fn) (codeAny_mono (F.run _ X.stack _ _ ⟨Value.ref (s.heap.objs.size + 1) :: us, ks.zip ws⟩ (g (Value.ref (s.heap.objs.size + 1) :: us) ws) _ _ EE (hr.make C us (ks.zip ws))
    (I2.env0.make C us (ks.zip ws)) (hb.to _ (Value.ref (s.heap.objs.size + 1) :: us) ws I2.kIn n1 (rz.length.symm.trans l2)) r2 hq) fun r s' hq' => ?_))
  cases r with
  | error e => exact hx pins _ _ e s' I2 hq'
  | ok fl =>
    cases fl with
    | ret u =>
      obtain ⟨v, H', I3, rv, ev, q3⟩ := I2.after hq'
      subst ev
      exact ⟨rv, ⟨V.ref (s.heap.objs.size + 1), H', I3, rfl, q3⟩⟩
    | next => exact False.elim hq'
    | brk => exact False.elim hq'
    | cont => exact False.elim hq'
def tMakeKS (C : Addr) (m : Nat) (sp : Sp) (gV : List V → List V → List V) (E : L2.St → XK) (tk : TA) : TE := fun σ H Q => tk σ H fun zs H2 => zs.length = m ∧ ∀ x dx, H2 x = none → H2 dx = none → dx ≠ x →
  sp (gV [.ref x] zs) (upd (upd H2 dx (.own x)) x (.ins C dx [])) (fun v H3 => v = .non ∧ Q (.ref x) H3) (E σ)
/-- C(k = v, ..) within a try -/
theorem pe_makeKS (M : Mk X.K C f) (F : FnOk X.prog X.w X.K X.mg X.base CX k f fd ps sp) (hr : Room (k + 1) X.A) (hg : Gl X x) (hm : X.mg x = some (.ref C)) (hb : KBn X.K fd ps 1 ks g gV) (hx : ∀ σ, PassesAt CX X σ (E σ)) (hkw : PK X kws tk)
    (hall : (backToKw pos (keywordEach kws X.env)).all (·.1.isSome) = true := by rfl) (hks : (backToKw pos (keywordEach kws X.env)).filterMap (·.1) = ks := by rfl) (hdb : (x == ("__debug__" : Str)) = false := by decide)
    (hpl : ((backTo pos (starEach [] X.env)).any (·.1) || (backToKw pos (keywordEach kws X.env)).any (·.1.isNone)) = false := by rfl) :
    PE X (.Call (.Name x p) [] kws pos) (tMakeKS C ks.length sp gV E tk) := by
  refine ⟨fun pins s σ H Q I h => ?_⟩
  refine wpAny_Call_Name_kw (ld_glob I hg hm ?_ hdb)
  refine PySem.W.callWith_KW0 (h₀ := X.base) I.ok.mod.kin M.kp hall ?_ hpl
  refine thn (hkw.run pos pins s σ H _ I h) fun ws s2 ⟨zs, H2, I2, rz, l2, q2⟩ => ⟨I2.kIn, ?_⟩
  rw [hks]
  exact run_makeKS (us := []) (vs := []) M F hr hb (hx σ) I2 .nil rz rfl l2 q2
end
end L2
namespace L2
open PySem PySem.Spec PyProof.Rows
/-! o.f = x, o.g = y, ..: many fields set from slots -/
def tFlds (K : PySem.W.Frag) : List (Nat × Str) → TS
  | [] => tNext
  | [p] => sFld K (tVar 0) (tVar p.1) p.2
  | p :: q :: r => tSeq (sFld K (tVar 0) (tVar p.1) p.2) (tFlds K (q :: r))
def valAt (σ : L2.St) (i : Nat) : V := (σ[i]?.join).getD .non
def putAll (σ : L2.St) : List (Nat × Str) → List (Str × V) → List (Str × V)
  | [], fs => fs
  | p :: r, fs => putAll σ r (putF p.2 (valAt σ p.1) fs)
theorem len_putF (f : Str) (v : V) : ∀ fs : List (Str × V), (putF f v fs).length ≤ fs.length + 1
  | [] => Nat.le_refl _
  | (g, x) :: r => by
    show (if g = f then (g, v) :: r else (g, x) :: putF f v r).length ≤ _
    have := len_putF f v r
    split <;> simp only [List.length_cons] <;> omega
theorem flds_ok {K : PySem.W.Frag} {o C dx : Addr} {σ : L2.St} {D : Ends} (cl : Cls K C) (h0 : σ[0]? = some (some (.ref o))) : ∀ (l : List (Nat × Str)) (fs : List (Str × V)) (H : Hp), fs.length + l.length ≤ 900 → l ≠ [] → (∀ p ∈ l, NoAttr K C p.2) → (∀ p ∈ l, ∃ v, σ[p.1]? = some (some v)) → H o = some (.ins C dx fs) →
    (∀ H', H' o = some (.ins C dx (putAll σ l fs)) → (∀ b x, b ≠ o → H b = some x → H' b = some x) → D.nx σ H') → tFlds K l D σ H
  | [], fs, H, hl, hne, hn, hv, ho, q => absurd rfl hne
  | [p], fs, H, hl, hne, hn, hv, ho, q => by
    obtain ⟨v, ev⟩ := hv p (List.mem_cons_self ..)
    refine ⟨v, ev, _, h0, o, C, dx, fs, rfl, ho, cl, hn p (List.mem_cons_self ..), by omega, q _ ?_ fun b x nb e => by rw [upd_ne nb]; exact e⟩
    rw [upd_same]
    show _ = some (HO.ins C dx (putF p.2 (valAt σ p.1) fs))
    unfold valAt
    rw [ev]; rfl
  | p :: p2 :: r, fs, H, hl, hne, hn, hv, ho, q => by
    obtain ⟨v, ev⟩ := hv p (List.mem_cons_self ..)
    have e1 : valAt σ p.1 = v := by unfold valAt; rw [ev]; rfl
    refine ⟨v, ev, _, h0, o, C, dx, fs, rfl, ho, cl, hn p (List.mem_cons_self ..), by omega, ?_⟩
    refine flds_ok cl h0 (p2 :: r) (putF p.2 v fs) _ ?_ (List.cons_ne_nil _ _) (fun x m => hn x (List.mem_cons_of_mem _ m)) (fun x m => hv x (List.mem_cons_of_mem _ m)) upd_same fun H' h1 h2 => ?_
    · have := len_putF p.2 v fs
      simp only [List.length_cons] at hl ⊢
      omega
    · refine q H' ?_ fun b x nb e => h2 b x nb (by rw [upd_ne nb]; exact e)
      show _ = some (HO.ins C dx (putAll σ (p2 :: r) (putF p.2 (valAt σ p.1) fs)))
      rw [e1]; exact h1
end L2
namespace Rd
open PySem PySem.Spec PyProof.Rows L2
variable {σ : L2.St} {H : Hp} {Q : VK} {tk tv : TA} {C : Addr} {n m : Nat} {sp : Sp} {gV : List V → List V → List V} {E : XK} {ES : L2.St → XK}
theorem callS (h : tv σ H fun vs H1 => sp vs H1 Q (ES σ)) : tCallS sp ES tv σ H Q := h
theorem mkS (h : tv σ H fun vs H1 => ∀ x dx, H1 x = none → H1 dx = none → dx ≠ x → sp (.ref x :: vs) (upd (upd H1 dx (.own x)) x (.ins C dx [])) (fun v H2 => v = .non ∧ Q (.ref x) H2) (ES σ)) : tMakeS C sp ES tv σ H Q := h
theorem mkKS (h : tk σ H fun zs H2 => zs.length = m ∧ ∀ x dx, H2 x = none → H2 dx = none → dx ≠ x → sp (gV [.ref x] zs) (upd (upd H2 dx (.own x)) x (.ins C dx [])) (fun v H3 => v = .non ∧ Q (.ref x) H3) (ES σ)) : tMakeKS C m sp gV ES tk σ H Q := h
theorem mkK (h : tv σ H fun vs H1 => tk σ H1 fun zs H2 => vs.length = n ∧ zs.length = m ∧ ∀ x dx, H2 x = none → H2 dx = none → dx ≠ x → sp (gV (.ref x :: vs) zs) (upd (upd H2 dx (.own x)) x (.ins C dx [])) (fun v H3 => v = .non ∧ Q (.ref x) H3) E) : tMakeK C n m sp gV E tv tk σ H Q := h
theorem callN (h : tv σ H fun vs H1 => tk σ H1 fun zs H2 => vs.length = n ∧ zs.length = m ∧ sp (gV vs zs) H2 Q E) : tCallN n m sp gV E tv tk σ H Q := h
end Rd

set_option Elab.async false
set_option linter.all false
set_option maxRecDepth 100000
/-! dicts from ints to ints -/
namespace Rd
open PySem PySem.Spec PyProof.Rows L2
abbrev iv (p : Int × Int) : Int × V := (p.1, V.int p.2)
abbrev DN (m : List (Int × Int)) : HO := DI (m.map iv)
def lkN (m : List (Int × Int)) (k : Int) : Option Int := (m.find? fun p => decide (p.1 = k)).map (·.2)
def ptN (m : List (Int × Int)) (k v : Int) : List (Int × Int) := if (m.any fun p => decide (p.1 = k)) = true then m.map (fun p => if p.1 = k then (p.1, v) else p) else m ++ [(k, v)]
theorem lk_iv (m : List (Int × Int)) (k : Int) : lk (m.map iv) k = (lkN m k).map V.int := by
  unfold lk lkN
  induction m with
  | nil => rfl
  | cons a r ih =>
    rw [List.map_cons, List.find?_cons, List.find?_cons]
    by_cases h : a.1 = k
    · have e : decide ((iv a).1 = k) = true := decide_eq_true h
      rw [e]; rfl
    · have e : decide ((iv a).1 = k) = false := decide_eq_false h
      rw [e]; exact ih
theorem pt_iv (m : List (Int × Int)) (k v : Int) : pt (m.map iv) k (.int v) = (ptN m k v).map iv := by
  unfold pt ptN
  rw [List.any_map]
  have e2 : (m.any ((fun p : Int × V => decide (p.1 = k)) ∘ iv)) = m.any fun p => decide (p.1 = k) := rfl
  rw [e2]
  split
  · rw [List.map_map, List.map_map]
    congr 1; funext p
    show (if p.1 = k then (p.1, V.int v) else iv p) = iv (if p.1 = k then (p.1, v) else p)
    split <;> rfl
  · rw [List.map_append]; rfl
theorem lkN_some {m : List (Int × Int)} {k v : Int} (h : lkN m k = some v) : (k, v) ∈ m := by
  unfold lkN at h
  cases e : m.find? fun p => decide (p.1 = k) with
  | none => rw [e] at h; cases h
  | some p =>
    rw [e] at h
    have h1 : p.2 = v := Option.some.inj h
    have h2 : p.1 = k := by have := List.find?_some e; simpa using this
    rw [← h1, ← h2]
    exact List.mem_of_find?_eq_some e
theorem lkN_mem {m : List (Int × Int)} (nd : (m.map (·.1)).Nodup) {k v : Int} (h : (k, v) ∈ m) : lkN m k = some v := by
  induction m with
  | nil => cases h
  | cons a r ih =>
    rw [List.map_cons, List.nodup_cons] at nd
    unfold lkN
    rw [List.find?_cons]
    rcases List.mem_cons.mp h with e | h
    · subst e; rw [decide_eq_true rfl]; rfl
    · have ne : ¬ a.1 = k := fun z => nd.1 (z ▸ List.mem_map.mpr ⟨_, h, rfl⟩)
      rw [decide_eq_false ne]; exact ih nd.2 h
theorem lkN_none {m : List (Int × Int)} {k : Int} : lkN m k = none ↔ k ∉ m.map (·.1) := by
  unfold lkN
  rw [Option.map_eq_none_iff, List.find?_eq_none]
  constructor
  · intro h z
    obtain ⟨p, hp, e⟩ := List.mem_map.mp z
    exact h p hp (decide_eq_true e)
  · intro h p hp e
    exact h (List.mem_map.mpr ⟨p, hp, of_decide_eq_true e⟩)
theorem any_key {m : List (Int × Int)} {k : Int} : (m.any fun p => decide (p.1 = k)) = true ↔ k ∈ m.map (·.1) := by
  rw [List.any_eq_true]
  constructor
  · rintro ⟨p, hp, e⟩; exact List.mem_map.mpr ⟨p, hp, of_decide_eq_true e⟩
  · intro h
    obtain ⟨p, hp, e⟩ := List.mem_map.mp h
    exact ⟨p, hp, decide_eq_true e⟩
theorem ptN_new {m : List (Int × Int)} {k v : Int} (h : k ∉ m.map (·.1)) : ptN m k v = m ++ [(k, v)] := by
  unfold ptN
  rw [if_neg (fun z => h (any_key.mp z))]
theorem ptN_len {m : List (Int × Int)} {k v : Int} : (ptN m k v).length ≤ m.length + 1 := by
  unfold ptN
  split <;> simp
theorem ptN_mem {m : List (Int × Int)} {k v : Int} {p : Int × Int} (h : p ∈ ptN m k v) : p = (k, v) ∨ (p ∈ m ∧ p.1 ≠ k) := by
  unfold ptN at h
  split at h
  · obtain ⟨q, hq, rfl⟩ := List.mem_map.mp h
    by_cases e : q.1 = k
    · rw [if_pos e, e]; exact .inl rfl
    · rw [if_neg e]; exact .inr ⟨hq, e⟩
  · rename_i c
    rcases List.mem_append.mp h with h | h
    · exact .inr ⟨h, fun e => c (any_key.mpr (List.mem_map.mpr ⟨p, h, e⟩))⟩
    · exact .inl (List.mem_singleton.mp h)
theorem ptN_keys {m : List (Int × Int)} {k v : Int} (nd : (m.map (·.1)).Nodup) : ((ptN m k v).map (·.1)).Nodup := by
  by_cases h : k ∈ m.map (·.1)
  · unfold ptN
    rw [if_pos (any_key.mpr h), List.map_map]
    have e : (fun x => x.1) ∘ (fun p : Int × Int => if p.1 = k then (p.1, v) else p) = fun p => p.1 := by
      funext p; show (if p.1 = k then (p.1, v) else p).1 = p.1; split <;> rfl
    rw [e]; exact nd
  · rw [ptN_new h, List.map_append, List.nodup_append]
    exact ⟨nd, by simp, fun a ha b hb e => h (by simp at hb; rw [← hb, ← e]; exact ha)⟩
/-- a value put, against the rest and the value at the end -/
theorem ptN_rest {m : List (Int × Int)} {k v : Int} (nd : (m.map (·.1)).Nodup) : (ptN m k v).length = (m.filter fun p => decide (p.1 ≠ k)).length + 1 := by
  by_cases h : k ∈ m.map (·.1)
  · unfold ptN
    rw [if_pos (any_key.mpr h), List.length_map]
    clear v
    induction m with
    | nil => simp at h
    | cons a r ih =>
      rw [List.map_cons, List.nodup_cons] at nd
      by_cases e : a.1 = k
      · have e2 : (r.filter fun p => decide (p.1 ≠ k)) = r := List.filter_eq_self.mpr fun p hp => decide_eq_true fun z => nd.1 (by rw [e, ← z]; exact List.mem_map.mpr ⟨p, hp, rfl⟩)
        rw [List.filter_cons_of_neg (by simp [e]), e2]; rfl
      · have h2 : k ∈ r.map (·.1) := by
          rw [List.map_cons] at h
          exact (List.mem_cons.mp h).resolve_left fun z => e z.symm
        rw [List.filter_cons_of_pos (by simp [e]), List.length_cons, List.length_cons, ih nd.2 h2]
  · have e2 : (m.filter fun p => decide (p.1 ≠ k)) = m := List.filter_eq_self.mpr fun p hp => decide_eq_true fun z => h (by rw [← z]; exact List.mem_map.mpr ⟨p, hp, rfl⟩)
    rw [ptN_new h, e2]; simp
variable {K : PySem.W.Frag} {σ : L2.St} {H : Hp} {D : Ends} {Q : VK} {v : V}
theorem dinN {a : Addr} {m : List (Int × Int)} {k : Int} (h : L2.Rd H a (DN m)) (q : Q (.bl (lkN m k).isSome) H) : DinG Q (.ref a) (.int k) H := dinI h (by rw [lk_iv, Option.isSome_map]; exact q)
theorem dnotN {a : Addr} {m : List (Int × Int)} {k : Int} (h : L2.Rd H a (DN m)) (q : Q (.bl (!(lkN m k).isSome)) H) : DnotG Q (.ref a) (.int k) H := dnotI h (by rw [lk_iv, Option.isSome_map]; exact q)
theorem dgetN {a : Addr} {m : List (Int × Int)} {k n : Int} (h : L2.Rd H a (DN m)) (e : lkN m k = some n) (q : Q (.int n) H) : DgG Q (.ref a) (.int k) H := dgetI h (by rw [lk_iv, e]; rfl) q
theorem dget2N {a : Addr} {m : List (Int × Int)} {k z : Int} (h : L2.Rd H a (DN m)) (q : Q (.int ((lkN m k).getD z)) H) : Dg2G Q a (.int k) (.int z) H := dget2I h (by
  rw [lk_iv]
  cases e : lkN m k with
  | none => rw [e] at q; exact q
  | some n => rw [e] at q; exact q)
theorem dputN {a : Addr} {m : List (Int × Int)} {k n : Int} (h : H a = some (DN m)) (l : m.length < 100000) (q : D.nx σ (upd H a (DN (ptN m k n)))) : DpG D σ (.ref a) (.int k) (.int n) H :=
  dputI h (by rw [List.length_map]; exact l) (by rw [pt_iv]; exact q)
theorem neDictN {a b : Addr} {m n : List (Int × Int)} (ea : H a = some (DN m)) (eb : H b = some (DN n)) (l : m.length = n.length) (e : ∀ p ∈ m, lkN n p.1 = some p.2) (q : Q (.bl false) H) : rNeDA (.ref a) (.ref b) H Q :=
  neDict ea eb (by rw [List.length_map, List.length_map]; exact l) (fun p hp => by
    obtain ⟨x, hx, rfl⟩ := List.mem_map.mp hp
    exact ⟨by rw [lk_iv, e x hx]; rfl, rfl⟩) q
theorem eqDictN {a b : Addr} {m n : List (Int × Int)} (ea : H a = some (DN m)) (eb : H b = some (DN n)) (l : m.length = n.length) (e : ∀ p ∈ m, lkN n p.1 = some p.2) (q : Q (.bl true) H) : rEqDA (.ref a) (.ref b) H Q :=
  eqDict ea eb (by rw [List.length_map, List.length_map]; exact l) (fun p hp => by
    obtain ⟨x, hx, rfl⟩ := List.mem_map.mp hp
    exact ⟨by rw [lk_iv, e x hx]; rfl, rfl⟩) q
theorem items_atN {m : List (Int × Int)} {i : Nat} {x : V} {H H' : Hp} (y : YPair (fun i => (((m.map iv).map fun p => ((Sum.inl p.1 : Key), p.2))[i]?).map fun kv => kV kv.1) (fun i => (((m.map iv).map fun p => ((Sum.inl p.1 : Key), p.2))[i]?).map Prod.snd) i H x H') :
    ∃ (T : Addr) (p : Int × Int), m[i]? = some p ∧ x = .ref T ∧ H T = none ∧ H' = upd H T (.tup [.int p.1, .int p.2]) := by
  obtain ⟨T, p, e, a, b, c⟩ := items_at y
  rw [List.getElem?_map] at e
  cases e2 : m[i]? with
  | none => rw [e2] at e; cases e
  | some q => rw [e2] at e; cases e; exact ⟨T, q, rfl, a, b, c⟩
theorem keys_atN {m : List (Int × Int)} {i : Nat} {x : V} {H H' : Hp} (y : H' = H ∧ ∃ k v, ((m.map iv).map fun p => ((Sum.inl p.1 : Key), p.2))[i]? = some (k, v) ∧ x = kV k) : H' = H ∧ ∃ p : Int × Int, m[i]? = some p ∧ x = .int p.1 := by
  obtain ⟨e0, p, e, a⟩ := keys_at y
  rw [List.getElem?_map] at e
  cases e2 : m[i]? with
  | none => rw [e2] at e; cases e
  | some q => rw [e2] at e; cases e; exact ⟨e0, q, rfl, a⟩
end Rd

set_option Elab.async false
set_option linter.all false
set_option maxRecDepth 100000
set_option maxHeartbeats 2000000
/-! list(zip(xs, ys)) of two lists -/
namespace Zl
open PySem PySem.Calls PyProof.Rows PyProof.V PySem.Spec PySem.W
/-- the addresses as hold the pairs so far -/
structure PairsG (xs ys : Array Value) (lo : Addr) (h : Heap) (as : List Addr) : Prop where
  rise : as.Pairwise (· < ·)
  above : ∀ a ∈ as, lo < a
  pairs : ∀ (j : Nat) (a : Addr), as[j]? = some a → ∃ x y, xs[j]? = some x ∧ ys[j]? = some y ∧ IsPair h a x y
theorem PairsG.there {xs ys : Array Value} {lo : Addr} {h : Heap} {as : List Addr} (g : PairsG xs ys lo h as) {a : Addr} (ha : a ∈ as) : a < h.objs.size := by
  obtain ⟨j, hj⟩ := List.mem_iff_getElem?.mp ha
  obtain ⟨_, _, _, _, e⟩ := g.pairs j a hj
  exact Heap.lt_size e
/-- the zip under way, its list at S -/
def ZSt (z TI TO i1 i2 l1 l2 S : Addr) (xs ys : Array Value) (i : Nat) (h : Heap) : Prop :=
  IsPair h TI (.ref i1) (.ref i2) ∧ h.IsListIter i1 l1 i ∧ h.IsListIter i2 l2 i ∧ h.IsList l1 xs ∧ h.IsList l2 ys ∧
    ((IsZip h z TI TO .none ∧ ∃ a b, IsPair h TO a b) ∨ ∃ T f oT, IsZipHeld h z TI TO T f ∧ h.get? T = some oT ∧ T ≠ z ∧ T ≠ i1 ∧ T ≠ i2 ∧ T ≠ S)
structure Off (z TI TO i1 i2 l1 l2 S : Addr) : Prop where
  z : z < S
  TI : TI < S
  TO : TO < S
  i1 : i1 < S
  i2 : i2 < S
  l1 : l1 < S
  l2 : l2 < S
section
variable {prog : Program} {w : World} {A : Around} {E : Value → Shared → Prop} {s : Shared} {z TI TO i1 i2 l1 l2 S : Addr} {xs ys : Array Value}
theorem ZSt.push {h h' : Heap} {i : Nat} (O : Off z TI TO i1 i2 l1 l2 S) (st : ZSt z TI TO i1 i2 l1 l2 S xs ys i h) (hk : ∀ b o, b ≠ S → h.get? b = some o → h'.get? b = some o) : ZSt z TI TO i1 i2 l1 l2 S xs ys i h' := by
  obtain ⟨hTI, h1, h2, hl1, hl2, hz⟩ := st
  refine ⟨hk _ _ (Nat.ne_of_lt O.TI) hTI, h1.at fun o e => hk _ o (Nat.ne_of_lt O.i1) e, h2.at fun o e => hk _ o (Nat.ne_of_lt O.i2) e, hl1.at fun o e => hk _ o (Nat.ne_of_lt O.l1) e, hl2.at fun o e => hk _ o (Nat.ne_of_lt O.l2) e, ?_⟩
  rcases hz with ⟨hz, a, b, hTO⟩ | ⟨T, f, oT, hz, hT, r1, r2, r3, r4⟩
  · exact .inl ⟨hk _ _ (Nat.ne_of_lt O.z) hz, a, b, hk _ _ (Nat.ne_of_lt O.TO) hTO⟩
  · exact .inr ⟨T, f, oT, hk _ _ (Nat.ne_of_lt O.z) hz, hk _ _ r4 hT, r1, r2, r3, r4⟩
theorem zl_item {i : Nat} {x y : Value} {Q : Option Value → Shared → Prop} (D : ZipApart z TI TO i1 i2 l1 l2) (st : ZSt z TI TO i1 i2 l1 l2 S xs ys i s.heap) (hS : S < s.heap.objs.size) (hx : xs[i]? = some x) (hy : ys[i]? = some y)
    (hQ : ∀ h', ZSt z TI TO i1 i2 l1 l2 S xs ys (i + 1) h' → IsPair h' s.heap.objs.size x y → h'.objs.size = s.heap.objs.size + 1 → (∀ b o, b ≠ z → b ≠ TO → b ≠ i1 → b ≠ i2 → s.heap.get? b = some o → h'.get? b = some o) → Q (some (.ref s.heap.objs.size)) { s with heap := h' }) :
    wpAny (model prog w) A (pyNext (.ref z)) Q E s := by
  obtain ⟨hTI, h1, h2, hl1, hl2, hz⟩ := st
  have lt : ∀ {c o}, s.heap.get? c = some o → s.heap.objs.size ≠ c := fun e => Nat.ne_of_gt (Heap.lt_size e)
  have n1 : s.heap.objs.size ≠ i1 := let ⟨_, e, _⟩ := h1; lt e
  have n2 : s.heap.objs.size ≠ i2 := let ⟨_, e, _⟩ := h2; lt e
  rcases hz with ⟨hz, a, b, hTO⟩ | ⟨T, f, oT, hz, hT, r1, r2, r3, r4⟩
  · refine wpAny_pyNext_zip_item D hz hTI hTO h1 h2 hl1 hl2 hx hy fun h' a1 a2 a3 a4 a5 a6 hk => ?_
    exact hQ h' ⟨hk _ _ D.TIz D.TITO D.TIi1 D.TIi2 hTI, a3, a4, hl1.at fun o e => hk _ o D.l1z D.l1TO D.l1i1 D.l1i2 e, hl2.at fun o e => hk _ o D.l2z D.l2TO D.l2i1 D.l2i2 e,
      .inr ⟨s.heap.objs.size, false, _, a1, a5, lt hz, n1, n2, Nat.ne_of_gt hS⟩⟩ a5 a6 hk
  · refine wpAny_pyNext_zip_item_held D hz hT hTI h1 h2 hl1 hl2 hx hy fun h' a1 a3 a4 a5 a6 hk => ?_
    exact hQ h' ⟨hk _ _ D.TIz D.TIi1 D.TIi2 hTI, a3, a4, hl1.at fun o e => hk _ o D.l1z D.l1i1 D.l1i2 e, hl2.at fun o e => hk _ o D.l2z D.l2i1 D.l2i2 e,
      .inr ⟨T, true, oT, a1, hk _ _ r1 r2 r3 hT, r1, r2, r3, r4⟩⟩ a5 a6 fun b o c1 _ c3 c4 e => hk b o c1 c3 c4 e
theorem zl_done {i : Nat} {Q : Option Value → Shared → Prop} (hh : A.handled = none) (D : ZipApart z TI TO i1 i2 l1 l2) (st : ZSt z TI TO i1 i2 l1 l2 S xs ys i s.heap) (hend : xs[i]? = none ∨ ys[i]? = none)
    (hQ : ∀ h', (∀ b o, b ≠ z → b ≠ TO → b ≠ i1 → b ≠ i2 → s.heap.get? b = some o → h'.get? b = some o) → Q none { s with heap := h' }) :
    wpAny (model prog w) A (pyNext (.ref z)) Q E s := by
  obtain ⟨hTI, h1, h2, hl1, hl2, hz⟩ := st
  rcases hz with ⟨hz, a, b, hTO⟩ | ⟨T, f, oT, hz, hT, r1, r2, r3, r4⟩
  · exact wpAny_pyNext_zip_end hh D hz hTI hTO h1 h2 hl1 hl2 hend fun h' hk => hQ h' hk
  · exact wpAny_pyNext_zip_end_held hh D hz hT hTI h1 h2 hl1 hl2 hend fun h' hk => hQ h' fun b o c1 _ c3 c4 e => hk b o c1 c3 c4 e
end
section
variable {prog : Program} {w : World} {A : Around} {s : Shared} {R : Result → Shared → Prop} {z TI TO i1 i2 l1 l2 S : Addr} {xs ys : Array Value}
theorem zl_loop (hh : A.handled = none) (D : ZipApart z TI TO i1 i2 l1 l2) (O : Off z TI TO i1 i2 l1 l2 S) (hxy : xs.size = ys.size) (hn : xs.size ≤ sizeLine) (res : Value) {h₁ : Heap}
    (hR : ∀ h' tk acc c as, (∀ b o, b ≠ S → b ≠ z → b ≠ TO → b ≠ i1 → b ≠ i2 → h₁.get? b = some o → h'.get? b = some o) → h'.get? S = some { cls := .type "list", dict := none, data := .seq acc c, slots := #[] } → as.length = xs.size → PairsG xs ys S h' as →
      acc.toList = as.map Value.ref → R (.ok (.ret res)) { s with heap := h', toks := tk }) :
    ∀ (k i : Nat) (h : Heap) (tk c : Nat) (acc : Array Value) (as : List Addr), xs.size - i = k → i ≤ xs.size → ZSt z TI TO i1 i2 l1 l2 S xs ys i h → (∀ b o, b ≠ S → b ≠ z → b ≠ TO → b ≠ i1 → b ≠ i2 → h₁.get? b = some o → h.get? b = some o) →
      h.get? S = some { cls := .type "list", dict := none, data := .seq acc c, slots := #[] } → acc.toList = as.map Value.ref → as.length = i → PairsG xs ys S h as →
      codeAny (model prog w) A (.builtin "list.extend.loop" ⟨[.ref S, .ref z, res], []⟩) R { s with heap := h, toks := tk } := by
  intro k
  induction k with
  | zero =>
    intro i h tk c acc as hk hi hst hkeep hS hacc hal hG
    have hin : i = xs.size := by omega
    refine codeAny_builtin PySem.F.entry_extend_loop ?_
    rw [Around.under_plainId PySem.F.plain_extend_loop _]
    show wpAny _ A.in1 (pyNext (.ref z) >>= _) _ _ _
    refine wpAny_bind (zl_done (s := { s with heap := h, toks := tk }) (A := A.in1) hh D hst (.inl (Array.getElem?_eq_none (by omega))) fun h' he => ?_)
    refine wpAny_pure (hR h' tk acc c as (fun b o h0 h1 h2 h3 h4 e => he b o h1 h2 h3 h4 (hkeep b o h0 h1 h2 h3 h4 e)) (he S _ (Nat.ne_of_gt O.z) (Nat.ne_of_gt O.TO) (Nat.ne_of_gt O.i1) (Nat.ne_of_gt O.i2) hS) (by omega) ⟨hG.rise, hG.above, fun j a hj => ?_⟩ hacc)
    obtain ⟨x, y, e1, e2, e3⟩ := hG.pairs j a hj
    have ab := hG.above a (List.mem_of_getElem? hj)
    exact ⟨x, y, e1, e2, he a _ (Nat.ne_of_gt (Nat.lt_trans O.z ab)) (Nat.ne_of_gt (Nat.lt_trans O.TO ab)) (Nat.ne_of_gt (Nat.lt_trans O.i1 ab)) (Nat.ne_of_gt (Nat.lt_trans O.i2 ab)) e3⟩
  | succ k ih =>
    intro i h tk c acc as hk hi hst hkeep hS hacc hal hG
    have hlt : i < xs.size := by omega
    have hlt2 : i < ys.size := by omega
    have hsz : acc.size = i := by rw [← Array.length_toList, hacc, List.length_map, hal]
    refine codeAny_builtin PySem.F.entry_extend_loop ?_
    rw [Around.under_plainId PySem.F.plain_extend_loop _]
    show wpAny _ A.in1 (pyNext (.ref z) >>= _) _ _ _
    have hSl : S < h.objs.size := Heap.lt_size hS
    refine wpAny_bind (zl_item (s := { s with heap := h, toks := tk }) D hst hSl (Array.getElem?_eq_getElem hlt) (Array.getElem?_eq_getElem hlt2) fun h' hst' ht hz hkp => ?_)
    dsimp only at ht hz hkp ⊢
    have hS' := hkp S _ (Nat.ne_of_gt O.z) (Nat.ne_of_gt O.TO) (Nat.ne_of_gt O.i1) (Nat.ne_of_gt O.i2) hS
    have up : ∀ b o, b ≠ S → h'.get? b = some o → (h'.update S (Obj.mapSeq (·.push (Value.ref h.objs.size)))).get? b = some o := fun b o hb e => (Heap.get?_update_other _ _ (Ne.symm hb)).trans e
    show wpAny _ A.in1 (updateSeq S (·.push (Value.ref h.objs.size)) >>= _) _ _ _
    refine wpAny_bind ?_
    refine wpAny_updateSeq hS' rfl (wpAny_pure ⟨plainId_quiet PySem.F.plain_extend_loop _, ih (i + 1) _ tk _ (acc.push (Value.ref h.objs.size)) (as ++ [h.objs.size]) (by omega) hlt (hst'.push O up)
      (fun b o h0 h1 h2 h3 h4 e => up b o h0 (hkp b o h1 h2 h3 h4 (hkeep b o h0 h1 h2 h3 h4 e))) (Heap.get?_update_self _ hS' rfl) (by rw [Array.toList_push, hacc, List.map_append]; rfl) (by rw [List.length_append, hal]; rfl) ⟨?_, ?_, ?_⟩⟩) (by rw [hsz]; omega) (by show (acc.push (Value.ref h.objs.size)).size ≤ sizeLine + 1; rw [Array.size_push, hsz]; omega)
    · refine List.pairwise_append.mpr ⟨hG.rise, List.pairwise_singleton _ _, fun a ha b hb => ?_⟩
      rw [List.mem_singleton.mp hb]
      exact hG.there ha
    · intro a ha
      rcases List.mem_append.mp ha with ha | ha
      · exact hG.above a ha
      · rw [List.mem_singleton.mp ha]; exact hSl
    · intro j b hj
      rcases Nat.lt_trichotomy j as.length with h1 | h1 | h1
      · rw [List.getElem?_append_left h1] at hj
        obtain ⟨x, y, e1, e2, e3⟩ := hG.pairs j b hj
        have ab := hG.above b (List.mem_of_getElem? hj)
        exact ⟨x, y, e1, e2, up b _ (Nat.ne_of_gt ab) (hkp b _ (Nat.ne_of_gt (Nat.lt_trans O.z ab)) (Nat.ne_of_gt (Nat.lt_trans O.TO ab)) (Nat.ne_of_gt (Nat.lt_trans O.i1 ab)) (Nat.ne_of_gt (Nat.lt_trans O.i2 ab)) e3)⟩
      · subst h1
        have hb : h.objs.size = b := by simpa using hj
        subst hb
        subst hal
        exact ⟨_, _, Array.getElem?_eq_getElem hlt, Array.getElem?_eq_getElem hlt2, up _ _ (Nat.ne_of_gt hSl) ht⟩
      · have hnone : (as ++ [h.objs.size])[j]? = none := List.getElem?_eq_none (by rw [List.length_append, List.length_singleton]; omega)
        rw [hnone] at hj; cases hj
end
theorem zip_no_len : typeLookup (.type "zip") "__len__" = pure none := by rw [typeLookup_type, builtinLookup_eq_fast]; kernel_rfl
theorem zip_no_hint : typeLookup (.type "zip") "__length_hint__" = pure none := by rw [typeLookup_type, builtinLookup_eq_fast]; kernel_rfl
section
variable {prog : Program} {w : World} {A : Around} {E : Value → Shared → Prop} {s : Shared} {z TI TO i1 i2 l1 l2 : Addr} {xs ys : Array Value}
theorem zl_extend {R : Result → Shared → Prop} (hh : A.handled = none) (S : Addr) (D : ZipApart z TI TO i1 i2 l1 l2) (O : Off z TI TO i1 i2 l1 l2 S) (hxy : xs.size = ys.size) (hn : xs.size ≤ sizeLine) (hst : ZSt z TI TO i1 i2 l1 l2 S xs ys 0 s.heap) (hzz : IsZip s.heap z TI TO .none) (res : Value) (c₀ : Nat) (hS : s.heap.get? S = some { cls := .type "list", data := .seq #[] c₀ })
    (hR : ∀ h' tk acc c as, (∀ b o, b ≠ S → b ≠ z → b ≠ TO → b ≠ i1 → b ≠ i2 → s.heap.get? b = some o → h'.get? b = some o) → h'.get? S = some { cls := .type "list", dict := none, data := .seq acc c, slots := #[] } → as.length = xs.size → PairsG xs ys S h' as →
      acc.toList = as.map Value.ref → R (.ok (.ret res)) { s with heap := h', toks := tk }) :
    wpAny (model prog w) A.in1 (Builtin.List.listExtendWith (.ref S) (.ref z) res)
      (fun fin s' => match fin with | .done f => R (.ok f) s' | .again c' => c'.quiet = true ∧ codeAny (model prog w) A c' R s') (fun e s' => R (.error e) s') s := by
  have hT : s.TypeIs (.ref z) "zip" := ⟨_, hzz, rfl⟩
  have hSz : S ≠ z := Nat.ne_of_gt O.z
  unfold Builtin.List.listExtendWith
  refine wpAny_bind (wpAny_typeOf hT ?_)
  have h1 : Builtin.List.listSameRef (.ref S) (.ref z) = false := by simp [Builtin.List.listSameRef, hSz]
  have h2 : (Value.type "zip" == Value.type "list") = false := by decide
  have h3 : (Value.type "zip" == Value.type "tuple") = false := by decide
  simp only [h1, h2, h3, Bool.or_false, Bool.false_eq_true, if_false]
  refine wpAny_bind (wpAny_pyIter_zip hzz ?_)
  refine wpAny_bind (wpAny_holding ?_)
  unfold Builtin.List.listLengthHint
  refine wpAny_bind (wpAny_specialOf hT zip_no_len ?_)
  show wpAny _ A.in1 (specialOf (Value.ref z) (Str.ofString "__length_hint__") >>= _) _ _ _
  refine wpAny_bind (wpAny_specialOf hT zip_no_hint ?_)
  refine wpAny_pure ?_
  show wpAny _ A.in1 (rule "list.extend.makes-room" >>= fun _ => Builtin.List.listTouch (.ref S) >>= fun _ =>
    again (.builtin "list.extend.loop" ⟨[.ref S, .ref z, res], []⟩)) _ _ _
  refine wpAny_bind (wpAny_rule ?_)
  refine wpAny_bind ?_
  show wpAny _ A.in1 (updateSeq S (·.push .none) >>= fun _ => updateSeq S (·.pop)) _ _ _
  refine wpAny_bind (wpAny_updateSeq hS rfl ?_)
  have hS₂ := Heap.get?_update_self (Obj.mapSeq (·.push Value.none)) hS rfl
  refine wpAny_updateSeq (hz := by seq_fits) hS₂ rfl ?_
  have hS₃ := Heap.get?_update_self (Obj.mapSeq (·.pop)) hS₂ rfl
  have oth : ∀ b o, b ≠ S → s.heap.get? b = some o → ((s.heap.update S (Obj.mapSeq (·.push Value.none))).update S (Obj.mapSeq (·.pop))).get? b = some o :=
    fun b o hb e => (Heap.get?_update_other _ _ (Ne.symm hb)).trans ((Heap.get?_update_other _ _ (Ne.symm hb)).trans e)
  refine wpAny_pure ⟨plainId_quiet F.plain_extend_loop _, zl_loop (s := s) (h₁ := s.heap) hh D O hxy hn res hR (xs.size - 0) 0 _ _ _ _ [] rfl (Nat.zero_le _) (hst.push O oth) (fun b o h0 _ _ _ _ e => oth b o h0 e) hS₃ rfl rfl ⟨.nil, by simp, fun j a h => by simp at h⟩⟩
theorem zl_call {Q : Value → Shared → Prop} (hh : A.handled = none) (D : ZipApart z TI TO i1 i2 l1 l2) (hlt : z < s.heap.objs.size ∧ TI < s.heap.objs.size ∧ TO < s.heap.objs.size ∧ i1 < s.heap.objs.size ∧ i2 < s.heap.objs.size ∧ l1 < s.heap.objs.size ∧ l2 < s.heap.objs.size) (hxy : xs.size = ys.size) (hn : xs.size ≤ sizeLine)
    (hTI : IsPair s.heap TI (.ref i1) (.ref i2)) (h1 : s.heap.IsListIter i1 l1 0) (h2 : s.heap.IsListIter i2 l2 0) (hl1 : s.heap.IsList l1 xs) (hl2 : s.heap.IsList l2 ys) (hz : IsZip s.heap z TI TO .none) (hTO : ∃ a b, IsPair s.heap TO a b)
    (hQ : ∀ h' tk acc c as, (∀ b o, b ≠ z → b ≠ TO → b ≠ i1 → b ≠ i2 → s.heap.get? b = some o → h'.get? b = some o) → h'.get? s.heap.objs.size = some { cls := .type "list", dict := none, data := .seq acc c, slots := #[] } → as.length = xs.size → PairsG xs ys s.heap.objs.size h' as →
      acc.toList = as.map Value.ref → Q (.ref s.heap.objs.size) { s with heap := h', toks := tk }) :
    wpAny (model prog w) A (call (.type "list") [.ref z]) Q E s := by
  refine callType_codes (Q₁ := fun obj s₁ => obj = .ref s.heap.objs.size ∧ s₁ = { s with heap := s.heap.push { cls := .type "list", data := .seq #[] } }) PySem.F.called_list (PySem.F.typeCall_list_1 _) PySem.F.entry_list_init
    (code_list_new _ ⟨rfl, rfl⟩) fun obj s₁ h₁ => ?_
  obtain ⟨rfl, rfl⟩ := h₁
  have hS : (s.heap.push { cls := .type "list", data := .seq #[] }).get? s.heap.objs.size = some { cls := .type "list", data := .seq #[] } := Heap.get?_push_size _ rfl
  obtain ⟨g1, g2, g3, g4, g5, g6, g7⟩ := hlt
  have O : Off z TI TO i1 i2 l1 l2 s.heap.objs.size := ⟨g1, g2, g3, g4, g5, g6, g7⟩
  have up : ∀ b o, s.heap.get? b = some o → (s.heap.push { cls := .type "list", data := .seq #[] }).get? b = some o := fun b o e => Heap.get?_push_of_some _ e
  have hst : ZSt z TI TO i1 i2 l1 l2 s.heap.objs.size xs ys 0 s.heap := ⟨hTI, h1, h2, hl1, hl2, .inl ⟨hz, hTO⟩⟩
  refine ⟨⟨_, hS, rfl⟩, PySem.F.args_list_init_2 _ _, ?_⟩
  show wpAny _ _ (do let old ← Builtin.List.listItems (.ref s.heap.objs.size); Builtin.List.listUpdate (.ref s.heap.objs.size) (fun _ => #[]); letGo old.toList.reverse; Builtin.List.listExtendWith (.ref s.heap.objs.size) (.ref z) .none) _ _ _
  refine wpAny_bind ?_
  unfold Builtin.List.listItems
  refine wpAny_bind (wpAny_seqItems hS rfl (wpAny_pure ?_))
  show wpAny _ _ (updateSeq s.heap.objs.size (fun _ => #[]) >>= fun _ => letGo (#[] : Array Value).toList.reverse >>= fun _ => Builtin.List.listExtendWith (.ref s.heap.objs.size) (.ref z) .none) _ _ _
  refine wpAny_bind (wpAny_updateSeq hS rfl ?_)
  have hS₂ := Heap.get?_update_self (Obj.mapSeq (fun _ => (#[] : Array Value))) hS rfl
  have oth : ∀ b o, b ≠ s.heap.objs.size → s.heap.get? b = some o → ((s.heap.push { cls := .type "list", data := .seq #[] }).update s.heap.objs.size (Obj.mapSeq (fun _ => (#[] : Array Value)))).get? b = some o :=
    fun b o hb e => (Heap.get?_update_other _ _ (Ne.symm hb)).trans (up b o e)
  refine wpAny_bind (wpAny_letGo ?_)
  refine zl_extend (A := A.in1) hh _ D O hxy hn (hst.push O oth) (oth _ _ (Nat.ne_of_lt g1) hz) .none _ hS₂ fun h' tk acc c as hk hS' hl hG hacc => ?_
  exact ⟨rfl, hQ h' tk acc c as (fun b o b1 b2 b3 b4 e => hk b o (Nat.ne_of_lt (Heap.lt_size e)) b1 b2 b3 b4 (oth b o (Nat.ne_of_lt (Heap.lt_size e)) e)) hS' hl hG hacc⟩
end
end Zl
namespace L2
open PySem PySem.Spec PyProof.Rows
def putP : Hp → List Addr → List V → List V → Hp
  | H, a :: as, x :: xs, y :: ys => putP (upd H a (.tup [x, y])) as xs ys
  | H, _, _, _ => H
theorem putP_off {b : Addr} : ∀ (as : List Addr) (xs ys : List V) (H : Hp), b ∉ as → putP H as xs ys b = H b
  | [], _, _, _, _ => rfl
  | _ :: _, [], _, _, _ => rfl
  | _ :: _, _ :: _, [], _, _ => rfl
  | a :: as, x :: xs, y :: ys, H, h => by
    show putP (upd H a (.tup [x, y])) as xs ys b = H b
    rw [putP_off as xs ys _ (fun z => h (List.mem_cons_of_mem _ z)), upd_ne (fun z => h (by rw [z]; exact List.mem_cons_self))]
theorem putP_at : ∀ (as : List Addr) (xs ys : List V) (H : Hp), as.length = xs.length → xs.length = ys.length → as.Nodup → ∀ (j : Nat) t, as[j]? = some t → ∃ x y, xs[j]? = some x ∧ ys[j]? = some y ∧ putP H as xs ys t = some (.tup [x, y])
  | [], _, _, _, _, _, _, _, _, h => by simp at h
  | _ :: _, [], _, _, h, _, _, _, _, _ => by simp at h
  | _ :: _, _ :: _, [], _, _, h, _, _, _, _ => by simp at h
  | a :: as, x :: xs, y :: ys, H, h1, h2, hn, j, t, ht => by
    have hn' := List.nodup_cons.mp hn
    cases j with
    | zero =>
      simp at ht; subst ht
      refine ⟨x, y, rfl, rfl, ?_⟩
      show putP (upd H a (.tup [x, y])) as xs ys a = _
      rw [putP_off as xs ys _ hn'.1, upd_same]
    | succ j =>
      obtain ⟨x', y', e1, e2, e3⟩ := putP_at as xs ys (upd H a (.tup [x, y])) (Nat.succ.inj h1) (Nat.succ.inj h2) hn'.2 j t (by simpa using ht)
      exact ⟨x', y', by simpa using e1, by simpa using e2, e3⟩
def tListZip (K : PySem.W.Frag) (ta : TA) : TE := fun σ H Q => ta σ H fun vs H1 => ∃ a b xs ys, vs = [V.ref a, .ref b] ∧ SqL K H1 a xs ∧ SqL K H1 b ys ∧ xs.length = ys.length ∧
  ∀ (p : Addr) (ts : List Addr) (H2 : Hp), Same H1 H2 → H1 p = none → H2 p = some (.lst (ts.map V.ref)) → ts.length = xs.length → (∀ (j : Nat) t, ts[j]? = some t → ∃ x y, xs[j]? = some x ∧ ys[j]? = some y ∧ H2 t = some (.tup [x, y])) → Q (.ref p) H2
section
variable {X : Cx}
theorem zip_laid {pins : List (Addr × Obj)} {σ : L2.St} {H : Hp} {s : Shared} {h' : Heap} {tk S : Nat} {xs ys : List V} {us ws : List Value} {acc : Array Value} {c : Nat} {as : List Addr} (I : Inv X pins σ H s) (hz : xs.length ≤ sizeLine) (hxy : xs.length = ys.length) (rx : Vals xs us) (ry : Vals ys ws) (hSS : s.heap.objs.size ≤ S)
    (hk : ∀ b o, s.heap.get? b = some o → h'.get? b = some o) (hS : h'.get? S = some { cls := .type "list", dict := none, data := .seq acc c, slots := #[] }) (hl : as.length = xs.length) (hG : Zl.PairsG us.toArray ws.toArray S h' as) (hacc : acc.toList = as.map Value.ref) :
    ∃ H' : Hp, Same H H' ∧ H S = none ∧ H' S = some (.lst (as.map V.ref)) ∧ (∀ (j : Nat) t, as[j]? = some t → ∃ x y, xs[j]? = some x ∧ ys[j]? = some y ∧ H' t = some (.tup [x, y])) ∧ Inv X pins σ H' { s with heap := h', toks := tk } := by
  have hSn : S ∉ as := fun z => Nat.lt_irrefl _ (hG.above _ z)
  have nd : as.Nodup := List.Pairwise.imp (fun {a b} (h : a < b) => Nat.ne_of_lt h) hG.rise
  have new : ∀ t ∈ as, H t = none := fun t ht => I.hok.fresh (Nat.le_trans hSS (Nat.le_of_lt (hG.above t ht)))
  have newS : H S = none := I.hok.fresh hSS
  have atP := putP_at as xs ys (upd H S (.lst (as.map V.ref))) hl hxy nd
  have off : ∀ b, b ∉ as → b ≠ S → putP (upd H S (.lst (as.map V.ref))) as xs ys b = H b := fun b h1 h2 => by rw [putP_off as xs ys _ h1, upd_ne h2]
  have low : ∀ b o, s.heap.get? b = some o → b ∉ as ∧ b ≠ S := fun b o e => ⟨fun z => absurd (Heap.lt_size e) (Nat.not_lt.mpr (Nat.le_trans hSS (Nat.le_of_lt (hG.above b z)))), Nat.ne_of_lt (Nat.lt_of_lt_of_le (Heap.lt_size e) hSS)⟩
  have kp : ∀ b u, H b = some u → (putP (upd H S (.lst (as.map V.ref))) as xs ys) b = some u := fun b u e => by
    rw [off b (fun z => by rw [new b z] at e; cases e) (fun z => by rw [z, newS] at e; cases e)]
    exact e
  have eS : putP (upd H S (.lst (as.map V.ref))) as xs ys S = some (.lst (as.map V.ref)) := by rw [putP_off as xs ys _ hSn, upd_same]
  refine ⟨putP (upd H S (.lst (as.map V.ref))) as xs ys, kp, newS, eS, atP, ?_⟩
  refine I.call' (ch := []) rfl ⟨fun b o q _ _ _ => hk b o q, fun b o q _ _ _ => ⟨o.slots, hk b o q⟩, fun b o q n _ => ?_, fun b o q _ => ⟨o, hk b o q⟩, fun b xs q => kp b _ q, fun b o u q => kp b _ q, fun b ps q => ⟨#[], by rw [kp b _ q]; simp⟩⟩ (fun b u q => ?_) I.bare fun b z => by simp at z
  · obtain ⟨z1, z2⟩ := low b o q
    rw [off b z1 z2]
    exact n
  · by_cases hb : b ∈ as
    · obtain ⟨j, e1⟩ := List.mem_iff_getElem?.mp hb
      obtain ⟨x, y, e2, e3, e4⟩ := atP j b e1
      rw [e4] at q
      cases q
      obtain ⟨u1, u2, f1, f2, f3⟩ := hG.pairs j b e1
      obtain ⟨v1, g1, g2⟩ := rx.get e2
      obtain ⟨v2, g3, g4⟩ := ry.get e3
      have f1 : us[j]? = some u1 := by simpa using f1
      have f2 : ws[j]? = some u2 := by simpa using f2
      rw [g1] at f1; cases f1
      rw [g3] at f2; cases f2
      exact ⟨by show 2 ≤ sizeLine; decide, [u1, u2], .cons g2 (.cons g4 .nil), ⟨_, f3, rfl, _, rfl⟩⟩
    · by_cases hb2 : b = S
      · rw [hb2] at q ⊢
        rw [eS] at q
        cases q
        refine ⟨by rw [List.length_map]; omega, acc.toList, c, by rw [hacc]; exact LiI.vals_refs as, ?_⟩
        rw [Array.toArray_toList]
        exact hS
      · rw [off b hb hb2] at q
        exact (I.hok b u q).stay (fun d v _ y => hk d v y) (fun d y => kp d _ y) fun d xs y => kp d _ y
theorem pe_listZip {e e2 : Expr} {ta : TA} {p p2 q pos : Pos} (hc : X.calm = true) (hg : Gl X "list") (hm : X.mg "list" = none) (hv : bootBuiltins "list" = some (.type "list")) (hg2 : Gl X "zip") (hm2 : X.mg "zip" = none) (ha : PA X [e, e2] ta)
    (hs : starEach [e, e2] X.env = (false, eval e X.env) :: starEach [e2] X.env := by rfl) (hpl : (backTo q (starEach [e2] X.env)).any (·.1) = false := by rfl) :
    PE X (.Call (.Name "list" p) [.Call (.Name "zip" p2) [e, e2] [] q] [] pos) (tListZip X.K ta) := by
  refine ⟨fun pins s σ H Q I h => ?_⟩
  refine Call_ (ld_blt I hg hm hv ?_)
  refine PyProof.Rows.callWith_type1 (PyProof.Rows.args_cons ?_ rfl) rfl rfl
  refine Call_ (ld_blt I hg2 hm2 PyProof.Rows.boot_zip (PyProof.Rows.callWith_type1 (thn (ha.run q pins s σ H _ I h) fun us s1 ⟨vs, H1, I1, r1, q1⟩ => ?_) hs hpl))
  obtain ⟨a, b, xs, ys, ex, hqx, hqy, hxy, q1⟩ := q1
  subst ex
  cases r1 with
  | cons r rr =>
    cases rr with
    | cons r' rr =>
      cases rr
      cases r
      cases r'
      obtain ⟨its, rv, p1, hz1⟩ := I1.list hqx
      obtain ⟨its2, rv2, pp2, hz2⟩ := I1.list hqy
      have ln1 : xs.length = its.length := rv.length
      have ln2 : ys.length = its2.length := rv2.length
      refine call_zip_2 p1.isList pp2.isList fun h' hz hTI hTO h1 h2 hsz hk => PyProof.Rows.args_nil ?_
      have D := PySem.W.ktu_apart s1.heap.objs.size a b p1.lt pp2.lt
      have la := p1.lt
      have lb := pp2.lt
      refine Zl.zl_call (s := { s1 with heap := h' }) (I1.ok.hd hc) D ?_ (by simp; omega) (by simp; omega) hTI h1 h2 (p1.isList.at fun o e => hk _ o e) (pp2.isList.at fun o e => hk _ o e) hz ⟨_, _, hTO⟩ fun h2' tk acc c as hk2 hS hl hG hacc => ?_
      · have up : ∀ k : Nat, k < s1.heap.objs.size + 5 → k < h'.objs.size := fun k hk => by rw [hsz]; exact hk
        exact ⟨up _ (Nat.add_lt_add_left (by decide) _), up _ (Nat.add_lt_add_left (by decide) _), up _ (Nat.add_lt_add_left (by decide) _), up _ (Nat.lt_add_of_pos_right (by decide)), up _ (Nat.add_lt_add_left (by decide) _), up _ (Nat.lt_add_right _ la), up _ (Nat.lt_add_right _ lb)⟩
      · have hS5 : s1.heap.objs.size ≤ h'.objs.size := by omega
        obtain ⟨H', k1, k2, k3, k4, J⟩ := zip_laid (tk := tk) (S := h'.objs.size) I1 hz1 hxy rv rv2 hS5 (fun b o e => hk2 b o (Nat.ne_of_lt (Nat.lt_add_right _ (Heap.lt_size e))) (Nat.ne_of_lt (Nat.lt_add_right _ (Heap.lt_size e))) (Nat.ne_of_lt (Heap.lt_size e)) (Nat.ne_of_lt (Nat.lt_add_right _ (Heap.lt_size e))) (hk b o e)) hS (by rw [hl]; simp; omega) hG hacc
        exact ⟨.ref _, H', J, rfl, q1 _ as H' k1 k2 k3 (by rw [hl]; simp; omega) k4⟩
end
end L2

set_option Elab.async false
set_option linter.all false
set_option maxRecDepth 100000
namespace L2
open PySem PySem.Spec PyProof.Rows
/-! list + list of lists that are read -/
def rCatQ (K : PySem.W.Frag) : R2 := fun x y H Q => ∃ l b xs zs, x = .ref l ∧ y = .ref b ∧ SqL K H l xs ∧ SqL K H b zs ∧ xs.length + zs.length ≤ sizeLine ∧ ∀ p, H p = none → Q (.ref p) (upd H p (.lst (xs ++ zs)))
theorem op_catQ {X : Cx} : OpR X (binaryOp .Add) (rCatQ X.K) := by
  intro pins s σ H x y v u Q I rx ry h
  obtain ⟨l, b, xs, zs, rfl, rfl, hH, hB, hz, q⟩ := h
  cases rx
  cases ry
  obtain ⟨its, r, pl, z⟩ := I.list hH
  obtain ⟨its2, r2, pl2, z2⟩ := I.list hB
  have hl := r.length
  have hl2 := r2.length
  obtain ⟨⟨cls, dd, data, sl⟩, ho, hc, n, hd⟩ := pl.isList
  obtain ⟨⟨cls2, dd2, data2, sl2⟩, ho2, hc2, n2, hd2⟩ := pl2.isList
  simp only at hc hd hc2 hd2
  subst hc hd hc2 hd2
  refine concat_meets ⟨_, ho, rfl⟩ ⟨_, ho2, rfl⟩ noFill_list_add seq_list_add PySem.F.slot_list_add PySem.F.entry_list_add (PySem.F.args_list_add_2 _ _) (list_addW l b its.toArray its2.toArray n n2 dd dd2 sl sl2 (by simp; omega)) ⟨ho, ho2, ?_⟩
  have ea : its.toArray ++ its2.toArray = (its ++ its2).toArray := by simp
  rw [ea]
  exact ⟨.ref _, _, I.lnew (t' := s.toks) (r.append r2) (by rw [List.length_append]; omega), rfl, q _ I.fresh⟩
end L2
namespace Rd
open PySem PySem.Spec PyProof.Rows L2
variable {K : PySem.W.Frag} {σ : L2.St} {H : Hp} {D : Ends} {Q : VK} {ta tb te tv : TE} {x y v : V} {tr : TA}
def CatQ (K : PySem.W.Frag) (Q : VK) (x y : V) (H : Hp) : Prop := rCatQ K x y H Q
theorem catQI (h : CatQ K Q x y H) : rCatQ K x y H Q := h
theorem catQ {a b : Addr} {xs zs : List V} (h1 : SqL K H a xs) (h2 : SqL K H b zs) (s : xs.length + zs.length ≤ 100000) (h : ∀ p H', H p = none → Same H H' → H' p = some (.lst (xs ++ zs)) → Q (.ref p) H') : CatQ K Q (.ref a) (.ref b) H := ⟨a, b, xs, zs, rfl, rfl, h1, h2, sz s, fun p np => h p _ np (same_new np) upd_same⟩
def RevL (K : PySem.W.Frag) (Q : VK) (x : V) (H : Hp) : Prop := ∃ a xs, x = .ref a ∧ SqL K H a xs ∧ ∀ p, H p = none → Q (.ref p) (upd H p (.lst xs.reverse))
theorem revN (h : te σ H (RevL K Q)) : tRevL K te σ H Q := h
theorem revq {a : Addr} {xs : List V} (s : SqL K H a xs) (h : ∀ p H', H p = none → Same H H' → H' p = some (.lst xs.reverse) → Q (.ref p) H') : RevL K Q (.ref a) H := ⟨a, xs, rfl, s, fun p np => h p _ np (same_new np) upd_same⟩
theorem ext {l b : Addr} {xs zs : List V} (h : H l = some (.lst xs)) (hb : H b = some (.lst zs)) (s : xs.length + zs.length ≤ 100000) (q : Q .non (upd H l (.lst (xs ++ zs)))) : rExtend (.ref l) [.ref b] H Q := ⟨l, b, xs, zs, rfl, rfl, h, hb, sz s, q⟩
def LzG (K : PySem.W.Frag) (Q : VK) (vs : List V) (H1 : Hp) : Prop := ∃ a b xs ys, vs = [V.ref a, .ref b] ∧ SqL K H1 a xs ∧ SqL K H1 b ys ∧ xs.length = ys.length ∧
  ∀ (p : Addr) (ts : List Addr) (H2 : Hp), Same H1 H2 → H1 p = none → H2 p = some (.lst (ts.map V.ref)) → ts.length = xs.length → (∀ (j : Nat) t, ts[j]? = some t → ∃ x y, xs[j]? = some x ∧ ys[j]? = some y ∧ H2 t = some (.tup [x, y])) → Q (.ref p) H2
theorem lzip (h : tr σ H (LzG K Q)) : tListZip K tr σ H Q := h
theorem lz {a b : Addr} {xs ys : List V} (h1 : SqL K H a xs) (h2 : SqL K H b ys) (l : xs.length = ys.length) (q : ∀ (p : Addr) (ts : List Addr) (H2 : Hp), Same H H2 → H p = none → H2 p = some (.lst (ts.map V.ref)) → ts.length = xs.length → (∀ (j : Nat) t, ts[j]? = some t → ∃ x y, xs[j]? = some x ∧ ys[j]? = some y ∧ H2 t = some (.tup [x, y])) → Q (.ref p) H2) : LzG K Q [.ref a, .ref b] H := ⟨a, b, xs, ys, rfl, h1, h2, l, q⟩
end Rd
namespace L2
open PySem PySem.Spec PyProof.Rows
/-- (n1, n2) > (m1, m2) -/
def rGtP (K : PySem.W.Frag) : R2 := fun x y H Q => ∃ (a b : Addr) (n1 n2 m1 m2 : Int), x = .ref a ∧ y = .ref b ∧ SqT K H a [.int n1, .int n2] ∧ SqT K H b [.int m1, .int m2] ∧ Q (.bl (decide (m1 < n1 ∨ (n1 = m1 ∧ m2 < n2)))) H
theorem op_gtP {X : Cx} (hu : X.A.units < cLine) : OpR X (compareOp .Gt) (rGtP X.K) := by
  intro pins s σ H x y v u Q I rx ry h
  obtain ⟨a, b, n1, n2, m1, m2, rfl, rfl, ha, hb, q⟩ := h
  cases rx
  cases ry
  obtain ⟨its, r1, p1, _⟩ := I.tuple ha
  obtain ⟨its2, r2, p2, _⟩ := I.tuple hb
  have i1 : IntsAre its [n1, n2] := Vals.ints (ns := [n1, n2]) r1
  have i2 : IntsAre its2 [m1, m2] := Vals.ints (ns := [m1, m2]) r2
  have e1 : its.toArray.size = 2 := by rw [List.size_toArray]; exact i1.length
  have e2 : its2.toArray.size = 2 := by rw [List.size_toArray]; exact i2.length
  have at1 : ∀ j (h1 : j < its.toArray.size), ∃ t, its.toArray[j] = .int ([n1, n2].getD j 0) t := fun j h1 => PyProof.Rows.IntsAre.int_at i1 _ _ (by simp at h1; simp [h1])
  have at2 : ∀ j (h1 : j < its2.toArray.size), ∃ t, its2.toArray[j] = .int ([m1, m2].getD j 0) t := fun j h1 => PyProof.Rows.IntsAre.int_at i2 _ _ (by simp at h1; simp [h1])
  have R := Ob.RcOp.tuples_gt (A := X.A) (s := s) (e := fun j => decide ([n1, n2].getD j 0 = [m1, m2].getD j 0)) (r := fun j => decide ([m1, m2].getD j 0 < [n1, n2].getD j 0)) p1 p2 hu (fun j h1 h2 => by
    obtain ⟨t, et⟩ := at1 j h1
    obtain ⟨t', et'⟩ := at2 j h2
    rw [et, et']
    have z : ([n1, n2].getD j 0 == [m1, m2].getD j 0) = decide ([n1, n2].getD j 0 = [m1, m2].getD j 0) := by
      by_cases q : [n1, n2].getD j 0 = [m1, m2].getD j 0
      · rw [decide_eq_true q]; exact beq_iff_eq.mpr q
      · rw [decide_eq_false q]; exact beq_eq_false_iff_ne.mpr q
    rw [← z]
    exact SeqAt.EqAt.int_int _ _ _ _) (fun j h1 h2 _ => by
    obtain ⟨t, et⟩ := at1 j h1
    obtain ⟨t', et'⟩ := at2 j h2
    rw [et, et']
    exact Ob.RcOp.gt_int _ _ _ _)
  rw [e1, e2] at R
  have ev : Ob.lexAt (fun j => decide ([n1, n2].getD j 0 = [m1, m2].getD j 0)) (fun j => decide ([m1, m2].getD j 0 < [n1, n2].getD j 0)) (decide (2 > 2)) 0 (min 2 2) = decide (m1 < n1 ∨ (n1 = m1 ∧ m2 < n2)) := by
    show Ob.lexAt _ _ _ 0 2 = _
    rw [Ob.lexAt_succ, Ob.lexAt_succ, Ob.lexAt_zero]
    show (if decide (n1 = m1) = true then (if decide (n2 = m2) = true then decide (2 > 2) else decide (m2 < n2)) else decide (m1 < n1)) = _
    by_cases h1 : n1 = m1
    · rw [if_pos (decide_eq_true h1)]
      by_cases h2 : n2 = m2
      · rw [if_pos (decide_eq_true h2)]
        exact (decide_eq_false (by omega)).trans (decide_eq_false (by omega)).symm
      · rw [if_neg (by simp [h2])]
        exact decide_eq_decide.mpr (by omega)
    · rw [if_neg (by simp [h1])]
      exact decide_eq_decide.mpr (by omega)
  exact R _ _ _ _ ⟨.bl _, H, I, rfl, by rw [ev]; exact q⟩
end L2
namespace Rd
open PySem PySem.Spec PyProof.Rows L2
theorem gtP {K : PySem.W.Frag} {H : Hp} {Q : VK} {a b : Addr} {n1 n2 m1 m2 : Int} (h1 : H a = some (.tup [.int n1, .int n2])) (h2 : H b = some (.tup [.int m1, .int m2])) (q : Q (.bl (decide (m1 < n1 ∨ (n1 = m1 ∧ m2 < n2)))) H) : rGtP K (.ref a) (.ref b) H Q := ⟨a, b, n1, n2, m1, m2, rfl, rfl, SqT.of h1, SqT.of h2, q⟩
theorem glst {K : PySem.W.Frag} {H : Hp} {σ : L2.St} {p : Addr} {xs : List V} {n : Nat} {f : TGs} {Q : L2.St → Hp → Prop} (h : H p = some (.lst xs)) (l : xs.length = n) (q : f xs σ H Q) : gLst K n f (.ref p) σ H Q := ⟨p, xs, rfl, SqL.of h, l, q⟩
end Rd
namespace Rd
open PySem PySem.Spec PyProof.Rows L2
theorem revR1 {te : TE} {σ : L2.St} {H : Hp} {R : It → Hp → Prop} (h : te σ H fun x H1 => ∃ n, x = .int n ∧ (-(2 ^ 62) ≤ (0 : Int) ∧ (0 : Int) < 2 ^ 62 ∧ -(2 ^ 62) ≤ n ∧ n < 2 ^ 62 ∧ R (Itc ((0 : Int) + (((n - 0).toNat : Nat) : Int) - 1) (-1) (n - 0).toNat) H1)) : iRevR (tRg1 te) σ H R := h
end Rd

set_option Elab.async false
set_option linter.all false
set_option maxRecDepth 100000
set_option maxHeartbeats 2000000
/-! a law whose own body shows data by repr: its promise knows that nothing is being shown around it -/
namespace L2
open PySem PySem.Spec PyProof.Rows
/-- as FnOk, where no object is under way in a repr -/
structure FnG (P : Program) (w : World) (K : PySem.W.Frag) (mg : Str → Option Value) (base : Heap) (k : Nat) (f : Addr) (fd : FuncData) (ps : List Str) (sp : Sp) : Prop where
  len : ∀ vs H Q E, sp vs H Q E → vs.length = ps.length
  run : ∀ (A : Around), A.guards = some [] → Room k A → ∀ (outer : List Env) (s : Shared) (H : Hp), Env0 P w K mg base A outer s H →
    ∀ (args : Args) (us : List Value) (vs : List V) (Q : VK) (E : XK), BindsTo s fd args (ps.zip us) → Vals vs us → sp vs H Q E → codeAny (model P w) A (.call (.ref f) args) (CR CX0 outer P w H s Q E) s
section
variable {P : Program} {w : World} {K : PySem.W.Frag} {mg : Str → Option Value} {base : Heap}
theorem Fun.okG {x qual : Str} {st : Stmt} {f : Addr} {fd : FuncData} {N ps : List Str} {k : Nat} {sp : Sp} (F : Fun K x qual st f fd) (S : FnScope N ps (defScope st)) (len : ∀ vs H Q E, sp vs H Q E → vs.length = ps.length)
    (body : ∀ (cdv : Value) (A : Around) (outer : List Env) (s : Shared) (H : Hp) (vs : List V) (Q : VK) (E : XK), A.guards = some [] → Room k (A.deeper (envOfC qual (defScope st) s.heap.objs.size f cdv)) → sp vs H Q E →
      ∃ t, PSs (cxOf CX0 P w K mg base N qual (defScope st) f cdv A outer s H E).nox (defBody st) t ∧ t { nx := fun _ H' => Q .non H', rt := Q } (start N vs) H) : FnG P w K mg base (k + 1) f fd ps sp := by
  obtain ⟨oc, od, kV, doc, pm, an, cdv, ct, osl, rfl, lk, code⟩ := F.ex
  constructor
  · exact len
  intro A gA room outer s H env args us vs Q E bind rel want
  have nvs := len vs H Q E want
  have inK : K.In s.heap := env.mod.kin.keeps fun b o e => (env.bs b o e).1
  have nolim : s.heap.NoLimit := env.mod.nolimit.keeps fun b o e => (env.bs b o e).1
  obtain ⟨t, pt, rt⟩ := body cdv A outer s H vs Q E gA (room.deeper _) want
  apply codeAny_call_function room.depth (inK _ _ lk) rfl S.co S.gen rfl (PySem.W.codeRec_of inK code)
  apply bind
  refine wpAny_newFunctionEnv_cells S.kind (fun y my => ?_) fun e' he' s1 inc => ?_
  · obtain ⟨n, v⟩ := y
    cases S.par n (List.of_mem_zip my).1 with
    | inl h => exact .inl h
    | inr h => exact .inr ⟨h, PySem.W.cellsFrom_some _ _ _ (.inl h)⟩
  cases he'
  refine ⟨nolim.keeps inc.toInCall.keep, codeAny_func ?_⟩
  have I0 : Inv (cxOf CX0 P w K mg base N qual (defScope st) f cdv A outer s H E) [] (start N vs) H s1 := inv_start S room.hd env nvs rel inc
  refine wpAny_mono (pt.nox.run [] s1 (start N vs) H _ I0 rt) ?_ fun _ _ h => h
  intro fl s' h
  cases fl with
  | ret u =>
    obtain ⟨v, _, H', J, r, q⟩ := h
    exact ⟨v, H', J.os, J.bare, J.base, J.hok, r, q⟩
  | next =>
    obtain ⟨_, H', J, q⟩ := h
    exact ⟨V.non, H', J.os, J.bare, J.base, J.hok, rfl, q⟩
  | brk => obtain ⟨_, _, _, q⟩ := h; exact q.elim
  | cont => obtain ⟨_, _, _, q⟩ := h; exact q.elim
end
/-- the law's row from such a promise -/
theorem walk_g {l : PySem.W.OpenLaw} {n k : Nat} {q : Program} {loose : List Str} {XP : (Str → Option Value) → Heap → Prop} {YP : World → Heap → Prop} {d : DefRec} {K : Params → PySem.W.Frag} {sp : World → Sp} {x : Str}
    (most : l.most = some n) (small : n ≤ sizeLine) (nodf : d.params.defaults = []) (room : Room k callerA) (part : ∀ (w : World) (h : Heap), YP w h → (K w.params).In h)
    (F : ∀ (w : World) (mg : Str → Option Value) (fa : Addr) (h : Heap), (K w.params).In h → h.Ns mainGlobals mg → mg d.name = some (.ref fa) →
      ∃ fd : FuncData, (∀ (s : Shared) (u : Value), BindsTo s fd ⟨[u], []⟩ [(x, u)]) ∧ ∀ base : Heap, FnG l.prog w (K w.params) mg base k fa fd [x] (sp w))
    (holds : ∀ (w : World) (H : Hp) (a : Addr) (ns : List Int), ns.length ≤ n → SqL (K w.params) H a (ns.map V.int) → sp w [.ref a] H (fun v _ => v = .bl true) fun _ _ _ => False) :
    PySem.W.WalkO q loose XP YP l.row.toRowW d [] (fun f vs => PySem.call f vs) := by
  apply Att.attach_call most nodf
  intro w s0 s mg mb fa o pm cd doc a vs ns G Y _ _ _ isLaw obj hin len gens
  have inK := part w _ Y
  obtain ⟨fd, bind, ok⟩ := F w mg fa _ inK G.T.g isLaw
  -- the heap as told: the script alone, unless it is the module's own
  let H : Hp := fun b => if b = a ∧ (K w.params).lookup a = none then some (.frz { cls := .type "list", data := .seq vs.toArray } (.lst (ns.map V.int))) else none
  have hAt : ∀ {b u}, H b = some u → b = a ∧ (K w.params).lookup a = none ∧ u = .frz { cls := .type "list", data := .seq vs.toArray } (.lst (ns.map V.int)) := by
    intro b u e
    by_cases z : b = a ∧ (K w.params).lookup a = none
    · rw [show H b = _ from if_pos z] at e
      exact ⟨z.1, z.2, (Option.some.inj e).symm⟩
    · rw [show H b = _ from if_neg z] at e; cases e
  have rv := vals_ints hin
  have lz : ns.length ≤ sizeLine := Nat.le_trans len small
  have seq : SqL (K w.params) H a (ns.map V.int) := by
    cases z : (K w.params).lookup a with
    | none => exact .inl (.inr ⟨_, if_pos ⟨rfl, z⟩⟩)
    | some o' =>
      have e := inK a o' z
      rw [obj] at e
      cases e
      exact .inr ⟨_, vs.toArray, _, z, rfl, rfl, rfl, by rw [List.size_toArray, hin.length]; exact lz, by simpa using rv⟩
  have hok : HOk l.prog w H s.heap := by
    intro b u e
    obtain ⟨rfl, _, rfl⟩ := hAt e
    exact ⟨obj, by rw [List.length_map]; exact lz, vs, _, rv, obj⟩
  have off : ∀ {b o}, s.heap.get? b = some o → (∀ us m, o.data ≠ .seq us m) → H b = none := by
    intro b o e no
    cases z : H b with
    | none => rfl
    | some u =>
      obtain ⟨rfl, _, _⟩ := hAt z
      rw [obj] at e; cases e
      exact (no _ _ rfl).elim
  have low : ∀ {b m}, s.heap.Ns b m → (hidT s.heap H).Ns b m := by
    rintro b m ⟨o, es, ep, e, dt, r⟩
    exact ⟨o, es, ep, hidT_get e (off e (by rw [dt]; exact fun _ _ z => by cases z)), dt, r⟩
  have inB : (K w.params).In (hidT s.heap H) := by
    intro b o e
    apply hidT_get (inK b o e)
    cases z : H b with
    | none => rfl
    | some u =>
      obtain ⟨rfl, none', _⟩ := hAt z
      rw [none'] at e; cases e
  obtain ⟨mc, g1, g2⟩ := G.T.nolimit
  have start : Env0 l.prog w (K w.params) mg (hidT s.heap H) callerA [] s H := {
    frames := rfl
    mod := ⟨inB, low G.T.g, ⟨mb, low G.T.b, G.T.builtins⟩, mc, low g1, g2⟩
    bs := fun _ _ e => of_hidT e
    bsz := Nat.le_of_eq (hidT_size _ _)
    funs := trivial
    frf := fun b m => nomatch (show b ∈ ([] : List Addr) from m)
    hok := hok
    bare := .of_eq gens }
  have run := (ok (hidT s.heap H)).run callerA rfl room [] s H start ⟨[.ref a], []⟩ [.ref a] [.ref a] _ _ (bind s (.ref a)) (.cons rfl .nil) (holds w H a ns len seq)
  refine codeAny_mono run ?_
  intro r s' h
  match r, h with
  | .error _, h => exact h.elim
  | .ok .next, h => exact h.elim
  | .ok .brk, h => exact h.elim
  | .ok .cont, h => exact h.elim
  | .ok (.ret u), h =>
    obtain ⟨v, H', os, bare, un, hok', rel, isT⟩ := h
    have e1 : v = .bl true := isT
    subst e1
    have e2 : u = Value.bool true := rel
    subst e2
    refine ⟨rfl, OldK.of_keep fun b o e => ?_, os, bare⟩
    cases z : H b with
    | none => exact un.keep b o e z (fun m => nomatch (show b ∈ ([] : List Addr) from m)) (fun m => nomatch m)
    | some t =>
      obtain ⟨rfl, _, rfl⟩ := hAt z
      have two := hok' b _ (un.frzs b _ _ z)
      rw [obj] at e; cases e
      exact two.1
theorem room70 {k : Nat} {A : Around} (r : Room k A) : A.units + 70 < cLine := by have := r.un; omega
/-! repr of data -/
section
variable {X : Cx}
def rReprD (K : PySem.W.Frag) : List V → Hp → VK → Prop := fun vs H Q => ∃ (a : Addr) (d : PyData), vs = [V.ref a] ∧ Dp K H (.ref a) d ∧ d.showable = true ∧ d.hasDict = false ∧ d.depth ≤ 64 ∧ d.shown.length ≤ sizeLine ∧ Q (.str d.shown) H
theorem cr_reprD (gA : X.A.guards = some []) (un : X.A.units + 70 < cLine) : CallR X (.builtin "repr") (rReprD X.K) := by
  intro pins s σ H xs us Q I r h
  obtain ⟨a, d, rfl, dp, sh, nd, dep, len, q⟩ := h
  rw [Vals.ref1 r]
  obtain ⟨as, rd⟩ := Dp.reads I d (.ref a) (.ref a) dp rfl
  exact repr_of_reads' rd sh (PyData.noDict_hsm nd) gA (by omega) (fun _ _ e => e) (fun h' u tk hk => ⟨.str d.shown, H, I.kept hk, ⟨_, rfl⟩, q⟩) len
end
end L2

set_option Elab.async false
set_option linter.all false
set_option maxRecDepth 100000
/-! dicts whose keys are texts: what a reading asks of them, over lists of pairs -/
namespace Rd
open PySem PySem.Spec PyProof.Rows L2
variable {K : PySem.W.Frag} {σ : L2.St} {H : Hp} {D : Ends} {Q : VK} {ta tb te tc td ty tx : TE} {x y v : V}
abbrev kS (p : Str × V) : Key × V := (Sum.inr p.1, p.2)
/-- a dict of texts to values, in order -/
abbrev DS (m : List (Str × V)) : HO := .dK (m.map kS)
def lks (m : List (Str × V)) (k : Str) : Option V := (m.find? fun p => decide (p.1 = k)).map (·.2)
theorem kS_eq (p : Str × V) (k : Str) : decide ((kS p).1 = Sum.inr k) = decide (p.1 = k) := by
  by_cases h : p.1 = k
  · rw [decide_eq_true h, decide_eq_true (by rw [← h])]
  · rw [decide_eq_false h, decide_eq_false fun z => h (Sum.inr.inj z)]
theorem valV_ds (m : List (Str × V)) (k : Str) : valV (m.map kS) (Sum.inr k) = lks m k := by
  unfold valV lks
  induction m with
  | nil => rfl
  | cons a r ih =>
    rw [List.map_cons, List.find?_cons, List.find?_cons, kS_eq a k]
    cases decide (a.1 = k) with
    | true => rfl
    | false => exact ih
theorem get_ds {a : Addr} {m : List (Str × V)} {k : Str} (h : L2.Rd H a (DS m)) : DGet H a (.str k) (lks m k) := .inl ⟨_, Sum.inr k, h, rfl, (valV_ds m k).symm⟩
theorem dgetS {a : Addr} {m : List (Str × V)} {k : Str} (h : L2.Rd H a (DS m)) (e : lks m k = some v) (q : Q v H) : DgG Q (.ref a) (.str k) H := ⟨a, v, rfl, e ▸ get_ds h, q⟩
theorem dgetSo {a : Addr} {m : List (Str × V)} {k : Str} (h : H a = some (DS m)) (e : lks m k = some v) (q : Q v H) : DgG Q (.ref a) (.str k) H := dgetS (.inl h) e q
/-- a key that is new -/
theorem put_new {m : List (Str × V)} {k : Str} (h : ∀ p ∈ m, p.1 ≠ k) : putK (m.map kS) (Sum.inr k) v = (m ++ [(k, v)]).map kS := by
  unfold putK
  rw [if_neg, List.map_append]
  · rfl
  · rw [List.any_map]
    intro c
    obtain ⟨p, mp, e⟩ := List.any_eq_true.mp c
    have e : decide ((kS p).1 = Sum.inr k) = true := e
    rw [kS_eq] at e
    exact h p mp (of_decide_eq_true e)
theorem dputS {a : Addr} {m : List (Str × V)} {k : Str} (h : H a = some (DS m)) (n : ∀ p ∈ m, p.1 ≠ k) (l : m.length < 100000) (q : D.nx σ (upd H a (DS (m ++ [(k, v)])))) : DpG D σ (.ref a) (.str k) v H :=
  ⟨a, _, rfl, .inl ⟨_, Sum.inr k, h, rfl, by rw [List.length_map]; exact szl l, rfl⟩, by rw [put_new n]; exact q⟩
theorem merge_new : ∀ (m : List (Str × V)) (l : List (Str × V)), (l.map (·.1) ++ m.map (·.1)).Nodup → mergeK (l.map kS) (m.map kS) = (l ++ m).map kS
  | [], l, _ => by rw [List.append_nil]; rfl
  | p :: r, l, h => by
    have hn : ∀ q ∈ l, q.1 ≠ p.1 := fun q mq z => by
      rw [List.nodup_append] at h
      exact h.2.2 q.1 (List.mem_map_of_mem mq) p.1 (by simp) z
    have e : mergeK (l.map kS) ((p :: r).map kS) = mergeK (putK (l.map kS) (Sum.inr p.1) p.2) (r.map kS) := rfl
    rw [e, put_new hn, merge_new r (l ++ [(p.1, p.2)]) (by simpa using h)]
    simp
theorem inV_strz (x : Str) (r : List Str) : inV (.str x) (r.map V.str) = decide (x ∈ r) := by
  unfold inV
  rw [List.any_map]
  by_cases h : x ∈ r
  · rw [decide_eq_true h, List.any_eq_true]
    exact ⟨x, h, beq_self_eq_true x⟩
  · rw [decide_eq_false h, List.any_eq_false]
    intro y hy e
    have e2 : (y == x) = true := e
    rw [beq_iff_eq] at e2
    exact h (e2 ▸ hy)
theorem inStrs {p : Addr} {ns : List Str} {n : Str} (h : H p = some (.lst (ns.map V.str))) (q : Q (.bl (decide (n ∈ ns))) H) : rIn K false (.str n) (.ref p) H Q :=
  ⟨p, _, rfl, .inl (SqL.of h), rfl, flat_strs _, by rw [inV_strz]; exact q⟩
/-! ### a display -/
def DspG (Q : VK) (p : Addr) (ps : List (V × V)) (H2 : Hp) : Prop := H2 p = some (.dK []) ∧ ∃ kvs : List (Key × V), ps = kvs.map (fun kv => (kV kv.1, kv.2)) ∧ kvs.length ≤ 15 ∧ Q (.ref p) (upd H2 p (.dK (mergeK [] kvs)))
def NewP (trs : List (TE × TE)) (σ : L2.St) (Q : VK) (H : Hp) : Prop := ∀ p, H p = none → tPairs trs σ (upd H p (.dK [])) fun ps H2 => DspG Q p ps H2
theorem disp {trs : List (TE × TE)} (h : NewP trs σ Q H) : tDisp trs σ H Q := h
theorem dsp {trs : List (TE × TE)} (h : ∀ p H', H p = none → Same H H' → H' p = some (.dK []) → tPairs trs σ H' fun ps H2 => DspG Q p ps H2) : NewP trs σ Q H := fun p np => h p _ np (same_new np) upd_same
theorem pnil {Q : List (V × V) → Hp → Prop} (h : Q [] H) : tPairs [] σ H Q := h
theorem pcons {Q : List (V × V) → Hp → Prop} {tk tv : TE} {r : List (TE × TE)} (h : tk σ H fun x H1 => tv σ H1 fun y H2 => tPairs r σ H2 fun ps H3 => Q ((x, y) :: ps) H3) : tPairs ((tk, tv) :: r) σ H Q := h
theorem dspS {p : Addr} {ps : List (V × V)} (m : List (Str × V)) (e : ps = m.map fun q => (V.str q.1, q.2)) (hp : H p = some (.dK [])) (l : m.length ≤ 15) (n : (m.map (·.1)).Nodup) (q : Q (.ref p) (upd H p (DS m))) : DspG Q p ps H :=
  ⟨hp, m.map kS, by rw [e, List.map_map]; rfl, by rw [List.length_map]; exact l, by
    have := merge_new m [] (by simpa using n)
    rw [List.map_nil, List.nil_append] at this
    rw [this]; exact q⟩
end Rd

set_option Elab.async false
set_option linter.all false
set_option maxRecDepth 100000
/-! repr of a dict of texts to lists of ints -/
namespace L2
open PySem PySem.Spec PyProof.Rows
theorem reads_ints {h : Heap} : ∀ {ns : List Int} {us : List Value}, Vals (ns.map V.int) us → ReadsAll h us (ns.map PyData.int) []
  | [], _, r => by cases r; exact .nil
  | n :: ns, _, r => by
    cases r with
    | cons r1 r2 =>
      obtain ⟨t, rfl⟩ := r1
      exact .cons (Reads.int n t) (reads_ints r2)
def nmD (m : List (Str × Addr × List Int)) : PyData := .dict (m.map fun p => (.str p.1, .list (p.2.2.map PyData.int)))
section
variable {X : Cx}
theorem pairs_reads {pins : List (Addr × Obj)} {σ : St} {H : Hp} {s : Shared} (I : Inv X pins σ H s) {P : Program} {w : World} (sm : H sysModules = none) : ∀ {m : List (Str × Addr × List Int)} {vs : List (Key × Value)} {es : List DictEntry}, (∀ p ∈ m, H p.2.1 = some (.lst (p.2.2.map V.int))) →
    KV (m.map fun p => (Sum.inr p.1, V.ref p.2.1)) vs → Pairs (mixKind P w) es vs → ReadsAll s.heap (es.map (·.key)) (m.map fun p => .str p.1) [] ∧ ∃ bs, ReadsAll s.heap (es.map (·.val)) (m.map fun p => .list (p.2.2.map PyData.int)) bs ∧ sysModules ∉ bs
  | [], vs, es, _, kv, ps => by
    cases kv
    cases ps
    exact ⟨.nil, [], .nil, by simp⟩
  | p :: m, vs, es, hm, kv, ps => by
    rw [List.map_cons] at kv
    cases kv with
    | cons a b =>
      cases ps with
      | cons c d e =>
        obtain ⟨e1, e2⟩ := a
        obtain ⟨h1, bs, h2, h3⟩ := pairs_reads I sm (fun q mq => hm q (List.mem_cons_of_mem _ mq)) b e
        have hp := hm p (List.mem_cons_self ..)
        obtain ⟨its, rv, ⟨o, n, ho, hc, _, hd⟩, _⟩ := I.list (SqL.of hp)
        have ne : p.2.1 ≠ sysModules := fun z => by rw [z, sm] at hp; cases hp
        rw [← e1] at c
        have e2 : _ = Value.ref p.2.1 := e2
        rw [e2] at d
        have c : keyIs (Sum.inr p.1) _ = true := c
        rcases keyIs_shape c with ⟨i, t, z, _⟩ | ⟨x, t, z, ek⟩
        · cases z
        · have ex : p.1 = x := Sum.inr.inj z
          refine ⟨?_, [p.2.1] ++ bs, ?_, ?_⟩
          · rw [List.map_cons, List.map_cons, ek, ← ex]
            exact .cons (Reads.str _ t) h1
          · rw [List.map_cons, List.map_cons, d]
            exact .cons (Reads.list ho hc hd (reads_ints rv)) h2
          · intro mm
            rcases List.mem_append.mp mm with mm | mm
            · exact ne (List.mem_singleton.mp mm).symm
            · exact h3 mm
def rReprN (K : PySem.W.Frag) : List V → Hp → VK → Prop := fun vs H Q => ∃ (a : Addr) (m : List (Str × Addr × List Int)), vs = [V.ref a] ∧ H a = some (.dK (m.map fun p => (Sum.inr p.1, V.ref p.2.1))) ∧ (∀ p ∈ m, H p.2.1 = some (.lst (p.2.2.map V.int))) ∧
  (nmD m).showable = true ∧ (nmD m).depth ≤ 64 ∧ (nmD m).shown.length ≤ sizeLine ∧ Q (.str (nmD m).shown) H
theorem cr_reprN (gS : ∃ o, X.base.get? sysModules = some o) (gA : X.A.guards = some []) (un : X.A.units + 70 < cLine) : CallR X (.builtin "repr") (rReprN X.K) := by
  intro pins s σ H xs us Q I r h
  obtain ⟨a, m, rfl, ha, hm, sh, dep, len, q⟩ := h
  rw [Vals.ref1 r]
  obtain ⟨o0, k1⟩ := gS
  have sm2 : H sysModules = none := (I.bs _ _ k1).2
  obtain ⟨_, na, vs, kv, o, es, ep, ho, ed, hd, _, ps, _⟩ := dk_of I.hok ha
  obtain ⟨h1, bs, h2, h3⟩ := pairs_reads I sm2 hm kv ps
  have rd : Reads s.heap (.ref a) (nmD m) (a :: [] ++ bs) := by
    refine Reads.dict ho ed.1 hd ?_ ?_
    · rw [List.map_map]; exact h1
    · rw [List.map_map]; exact h2
  refine repr_of_reads' rd sh (fun _ mm => ?_) gA (by omega) (fun _ _ e => e) (fun h' u tk hk => ⟨.str (nmD m).shown, H, I.kept hk, ⟨_, rfl⟩, q⟩) len
  rcases List.mem_append.mp mm with mm | mm
  · rw [List.mem_singleton.mp mm] at na
    exact absurd na (by simp)
  · exact h3 mm
end
end L2

set_option Elab.async false
set_option linter.all false
set_option maxRecDepth 100000
/-! repr of a tuple of dicts of ints; != of tuples whose items are equal dicts or plain values -/
namespace L2
open PySem PySem.Spec PyProof.Rows
def inD (m : List (Int × Int)) : PyData := .dict (m.map fun p => (.int p.1, .int p.2))
section
variable {X : Cx}
theorem int_pairs {h : Heap} {P : Program} {w : World} : ∀ {m : List (Int × Int)} {vs : List (Key × Value)} {es : List DictEntry}, KV ((m.map Rd.iv).map fun p => (Sum.inl p.1, p.2)) vs → Pairs (mixKind P w) es vs →
    ReadsAll h (es.map (·.key)) (m.map fun p => .int p.1) [] ∧ ReadsAll h (es.map (·.val)) (m.map fun p => .int p.2) []
  | [], vs, es, kv, ps => by
    cases kv
    cases ps
    exact ⟨.nil, .nil⟩
  | p :: m, vs, es, kv, ps => by
    rw [List.map_cons, List.map_cons] at kv
    cases kv with
    | cons a b =>
      cases ps with
      | cons c d e =>
        obtain ⟨e1, e2⟩ := a
        obtain ⟨h1, h2⟩ := int_pairs b e
        rw [← e1] at c
        have e2 : ∃ t, _ = Value.int p.2 t := e2
        obtain ⟨t2, e2⟩ := e2
        rw [e2] at d
        have c : keyIs (Sum.inl p.1) _ = true := c
        rcases keyIs_shape c with ⟨i, t, z, ek⟩ | ⟨x, t, z, _⟩
        · have ex : p.1 = i := Sum.inl.inj z
          refine ⟨?_, ?_⟩
          · rw [List.map_cons, List.map_cons, ek, ← ex]
            exact .cons (Reads.int _ t) h1
          · rw [List.map_cons, List.map_cons, d]
            exact .cons (Reads.int _ t2) h2
        · cases z
theorem dictI_reads {pins : List (Addr × Obj)} {σ : L2.St} {H : Hp} {s : Shared} (I : Inv X pins σ H s) {a : Addr} {m : List (Int × Int)} (ha : H a = some (Rd.DN m)) : ∃ bs, Reads s.heap (.ref a) (inD m) bs ∧ sysModules ∉ bs := by
  obtain ⟨_, na, vs, kv, o, es, ep, ho, ed, hd, _, ps, _⟩ := dk_of I.hok ha
  obtain ⟨h1, h2⟩ := int_pairs (h := s.heap) kv ps
  refine ⟨a :: [] ++ [], Reads.dict ho ed.1 hd ?_ ?_, fun mm => ?_⟩
  · rw [List.map_map]; exact h1
  · rw [List.map_map]; exact h2
  · rw [List.append_nil, List.mem_singleton] at mm
    rw [← mm] at na
    exact absurd na (by simp)
/-- repr of a tuple of two dicts of ints -/
def rReprI2 (K : PySem.W.Frag) : List V → Hp → VK → Prop := fun vs H Q => ∃ (t a b : Addr) (m n : List (Int × Int)), vs = [V.ref t] ∧ SqT K H t [.ref a, .ref b] ∧ H a = some (Rd.DN m) ∧ H b = some (Rd.DN n) ∧
  (PyData.tuple [inD m, inD n]).showable = true ∧ (PyData.tuple [inD m, inD n]).depth ≤ 64 ∧ (PyData.tuple [inD m, inD n]).shown.length ≤ sizeLine ∧ Q (.str (PyData.tuple [inD m, inD n]).shown) H
theorem cr_reprI2 (gA : X.A.guards = some []) (un : X.A.units + 70 < cLine) : CallR X (.builtin "repr") (rReprI2 X.K) := by
  intro pins s σ H xs us Q I r h
  obtain ⟨t, a, b, m, n, rfl, ht, ha, hb, sh, dep, len, q⟩ := h
  rw [Vals.ref1 r]
  obtain ⟨its, rv, ⟨o, ho, hc, k, hd⟩, _⟩ := I.tuple ht
  obtain ⟨as, ra, na⟩ := dictI_reads I ha
  obtain ⟨bs, rb, nb⟩ := dictI_reads I hb
  have rd : Reads s.heap (.ref t) (PyData.tuple [inD m, inD n]) (as ++ (bs ++ [])) := by
    refine Reads.tuple ho hc hd ?_
    cases rv with
    | cons r1 rv =>
      cases rv with
      | cons r2 rv =>
        cases rv
        cases r1
        cases r2
        exact .cons ra (.cons rb .nil)
  refine repr_of_reads' rd sh (fun _ mm => ?_) gA (by omega) (fun _ _ e => e) (fun h' u tk hk => ⟨.str (PyData.tuple [inD m, inD n]).shown, H, I.kept hk, ⟨_, rfl⟩, q⟩) len
  rcases List.mem_append.mp mm with mm | mm
  · exact na mm
  · rw [List.append_nil] at mm
    exact nb mm
end
section
variable {X : Cx}
def tLenSetE (K : PySem.W.Frag) (ta : TE) : TE := fun σ H Q => ta σ H fun x H1 => ∃ (l : Addr) (ns : List Int), x = V.ref l ∧ SqL K H1 l (ns.map V.int) ∧ ns.length ≤ 1000 ∧ Q (.int (distinct ns)) H1
theorem pe_lenSetE {a : Expr} {ta : TE} {p p2 q pos : Pos} (hc : X.calm = true) (hg : Gl X "len") (hm : X.mg "len" = none) (hg2 : Gl X "set") (hm2 : X.mg "set" = none) (ha : PE X a ta)
    (na : starEach [a] X.env = (false, eval a X.env) :: starEach [] X.env := by rfl) : PE X (.Call (.Name "len" p) [.Call (.Name "set" p2) [a] [] q] [] pos) (tLenSetE X.K ta) := by
  refine ⟨fun pins s σ H Q I h => ?_⟩
  refine Call_ (ld_blt I hg hm PySem.boot_len ?_)
  refine PyProof.Rows.callWith_builtin1 (PyProof.Rows.args_cons ?_ rfl) rfl rfl
  refine Call_ (ld_blt I hg2 hm2 PyProof.Rows.boot_set ?_)
  refine PyProof.Rows.callWith_type1 (PyProof.Rows.args_cons (thn (ha.run pins s σ H _ I h) fun v s1 ⟨x, H1, I1, r1, q1⟩ => PyProof.Rows.args_nil ?_) na) na rfl
  obtain ⟨l, ns, rfl, hq, h1, q1⟩ := q1
  cases r1
  obtain ⟨its, r, pl, hz⟩ := I1.list hq
  have hl : its.toArray.size = ns.length := by rw [List.size_toArray, ← r.length, List.length_map]
  refine call_set_list (I1.ok.hd hc) pl.isList (ns := ns) (by simpa using r.ints) (by unfold scanBound; omega) fun h' tk hS hk => ?_
  rw [hl] at hS
  refine PyProof.Rows.args_nil ?_
  obtain ⟨o, es, ep, t, ho, hex, hd, _, _, _, hf, hn⟩ := hS
  have I2 : Inv X pins σ H1 { s1 with heap := h', toks := tk } := I1.kept fun b o e => hk b o (Heap.lt_size e) e
  have dl : (firstMet (fun i => ns.getD i 0) ns.length).length ≤ 1000 := Nat.le_trans (firstMet_length_le _ _) h1
  refine call_len_set ho hex hd hf (by rw [hn] <;> omega) ⟨.int (distinct ns), H1, I2.tok _, ⟨_, by rw [hn]; rfl⟩, q1⟩
end
end L2

set_option Elab.async false
set_option linter.all false
set_option maxRecDepth 100000
/-! a != b of two tuples whose items are equal, dicts among them -/
namespace PySem.SeqAt
open AutoSeq1 (wpAny_loadPart')
open MeetsSeq MeetsSeq2 MeetsSeq3
section
variable {P : Program} {w : World}
theorem tupNeIn (x y : Addr) (us vs : Array Value) (j1 j2 : Nat) (d1 d2 : Option Addr) (s1 s2 : Array (Option Value)) (len : us.size = vs.size) :
    MeetsIn P w (Builtin.«tuple.__ne__» ⟨[.ref x, .ref y], []⟩)
      (fun A R s => s.heap.get? x = some ⟨.type "tuple", d1, .seq us j1, s1⟩ ∧ s.heap.get? y = some ⟨.type "tuple", d2, .seq vs j2, s2⟩ ∧ (∀ k (a : k < us.size) (b : k < vs.size), EqP P w A.in1 s us[k] vs[k] true) ∧ R (.ok (.ret (.bool false))) s) := by
  intro A R s got
  obtain ⟨hp, gg, dd, tt, oo⟩ := s
  obtain ⟨hx, hy, he, hR⟩ := got
  have st := AutoSeq1.sub_tuple_tuple
  have zl : (us.toList.zip vs.toList).length = us.size := by simp [len]
  wp_walk using wpAny_loadPart' hx, wpAny_loadPart' hy, wpAny_forIn_list _ (fun more acc s' => acc.1 = none ∧ s' = ⟨hp, gg, dd, tt, oo⟩ ∧ ∃ k, more = (us.toList.zip vs.toList).drop k) _
  case turn =>
    rintro ⟨u, v⟩ more acc s' ⟨ha, rfl, k, hz⟩
    have kl : k < (us.toList.zip vs.toList).length := by
      rcases Nat.lt_or_ge k (us.toList.zip vs.toList).length with q | q
      · exact q
      · rw [List.drop_of_length_le q] at hz; cases hz
    have k1 : k < us.size := zl ▸ kl
    have k2 : k < vs.size := len ▸ k1
    rw [List.drop_eq_getElem_cons kl] at hz
    injection hz with hh ht
    have eu : u = us[k] := by have := congrArg Prod.fst hh; simpa using this
    have ev : v = vs[k] := by have := congrArg Prod.snd hh; simpa using this
    subst eu ev
    refine wpAny_bind (he k k1 k2 _ _ ?_)
    wp_walk
    exact ⟨rfl, rfl, k + 1, ht⟩
  case fin =>
    rintro ⟨a1, a2⟩ s' ⟨ha, rfl, k, hz⟩
    simp only at ha
    subst ha
    wp_walk
    simpa [Builtin.Tuple.tupleCompareSizes, bne, len] using hR
  case h =>
    exact ⟨rfl, rfl, 0, rfl⟩
theorem neP_tuples {A : Around} {s : Shared} {x y : Addr} {us vs : Array Value} (hx : s.heap.IsTuple x us) (hy : s.heap.IsTuple y vs) (len : us.size = vs.size) (hu : A.units < cLine)
    (he : ∀ k (a : k < us.size) (b : k < vs.size), EqP P w A.in1 s us[k] vs[k] true) (E Q : Value → Shared → Prop) (q : Q (.bool false) s) : wpAny (model P w) A (richCompare .NotEq (.ref x) (.ref y)) Q E s := by
  obtain ⟨⟨c1, d1, t1, s1⟩, gx, cx, n1, ex⟩ := id hx
  obtain ⟨⟨c2, d2, t2, s2⟩, gy, cy, n2, ey⟩ := id hy
  simp only at cx ex cy ey
  subst cx ex cy ey
  have ta : s.TypeIs (.ref x) "tuple" := ⟨_, gx, rfl⟩
  have tb : s.TypeIs (.ref y) "tuple" := ⟨_, gy, rfl⟩
  exact wpAny_richCompare_same_room (op := .NotEq) ta tb F.slot_tuple_ne (call_meetsIn F.slot_tuple_ne ta F.entry_tuple_ne (F.args_tuple_ne_2 _ _) (tupNeIn x y us vs n1 n2 d1 d2 s1 s2 len)
    ⟨gx, gy, he, show Value.bool false ≠ Value.notImplemented ∧ Q (.bool false) s from ⟨(fun z => nomatch z), q⟩⟩) hu
end
end PySem.SeqAt
namespace L2
open PySem PySem.Spec PyProof.Rows
/-- a != b: equal tuples -/
def rNeTD (K : PySem.W.Frag) : R2 := fun x y H Q => ∃ (a b : Addr) (xs ys : List V), x = .ref a ∧ y = .ref b ∧ SqT K H a xs ∧ SqT K H b ys ∧ Paired (EqV K H 3) xs ys ∧ Q (.bl false) H
theorem op_neTD {X : Cx} (hu : X.A.units + 64 < cLine) : OpR X (compareOp .NotEq) (rNeTD X.K) := by
  intro pins s σ H x y v u Q I rx ry h
  obtain ⟨a, b, xs, ys, rfl, rfl, ha, hb, hp, q⟩ := h
  cases (show v = Value.ref a from rx)
  cases (show u = Value.ref b from ry)
  obtain ⟨us, r1, p1, _⟩ := I.tuple ha
  obtain ⟨ws, r2, p2, _⟩ := I.tuple hb
  have hsz : us.toArray.size = ws.toArray.size := by
    rw [List.size_toArray, List.size_toArray, ← r1.length, ← r2.length]
    exact Paired.length hp
  refine SeqAt.neP_tuples (show Heap.IsTuple _ _ _ from p1) (show Heap.IsTuple _ _ _ from p2) hsz (by omega) (fun k h1 h2 => ?_) _ _ ⟨.bl false, H, I, rfl, q⟩
  have z := items_run (fun x y v u => eqV_run I 3 X.A.in1 (by show X.A.units + 1 + 3 < cLine; omega) x y v u) hp r1 r2 k (by simpa using h1) (by simpa using h2)
  simpa using z
end L2


set_option Elab.async false
set_option linter.all false
set_option maxRecDepth 100000
set_option maxHeartbeats 400000


--@@guards
namespace Mine
open PySem PySem.Spec PyProof.Rows L2 Rd
local macro_rules | `(tactic| walk_at "my rn") => `(tactic| (repeat (first | ((with_reducible apply Rd.vv); exact rfl) | with_reducible refine Rd.c_ ?_ | with_reducible refine Rd.cons ?_ | with_reducible refine Rd.nil ?_ | with_reducible refine Rd.seq ?_ | with_reducible refine Rd.asg ?_ | ((with_reducible refine Rd.gdN ?_); (first | with_reducible refine Rd.n0 ?_ | with_reducible refine Rd.n1 ?_ | with_reducible refine Rd.n2 ?_ | with_reducible refine Rd.n3 ?_ | with_reducible refine Rd.n4 ?_ | with_reducible refine Rd.n5 ?_ | with_reducible refine Rd.n6 ?_ | with_reducible refine Rd.n7 ?_ | with_reducible refine Rd.n8 ?_ | with_reducible refine Rd.n9 ?_ | with_reducible refine Rd.n10 ?_ | with_reducible refine Rd.n11 ?_ | with_reducible refine Rd.n12 ?_ | with_reducible refine Rd.n13 ?_ | with_reducible refine Rd.n14 ?_ | with_reducible refine Rd.n15 ?_ | with_reducible refine Rd.n16 ?_ | with_reducible refine Rd.n17 ?_ | with_reducible refine Rd.n18 ?_ | with_reducible refine Rd.n19 ?_ | with_reducible refine Rd.n20 ?_ | with_reducible refine Rd.n21 ?_ | with_reducible refine Rd.n22 ?_ | with_reducible refine Rd.n23 ?_ | with_reducible refine Rd.n24 ?_ | with_reducible refine Rd.n25 ?_ | with_reducible refine Rd.n26 ?_ | with_reducible refine Rd.n27 ?_)) | with_reducible refine Rd.test ?_ | with_reducible refine Rd.tb_ ?_ | with_reducible refine Rd.op ?_ | with_reducible refine Rd.I0 ?_ | with_reducible refine Rd.bl ?_ | with_reducible refine Rd.bl2 ?_ | with_reducible refine Rd.ifs ?_ | with_reducible refine Rd.and_ ?_ | with_reducible refine Rd.or_ ?_ | with_reducible refine Rd.not_ ?_ | with_reducible refine Rd.drop ?_ | with_reducible refine Rd.ret ?_ | with_reducible refine Rd.next ?_ | with_reducible refine Rd.callS ?_ | with_reducible refine Rd.mkS ?_ | with_reducible refine Rd.mkKS ?_ | with_reducible refine Rd.mkK ?_ | with_reducible refine Rd.callN ?_ | with_reducible refine Rd.catQI ?_ | with_reducible refine Rd.revN ?_ | with_reducible refine Rd.lzip ?_ | with_reducible refine Rd.fld ?_ | with_reducible refine Rd.sfld ?_ | with_reducible refine Rd.meth ?_ | with_reducible refine Rd.make ?_ | with_reducible refine Rd.izip ?_ | with_reducible refine Rd.dnew ?_ | with_reducible refine Rd.din ?_ | with_reducible refine Rd.dnot ?_ | with_reducible refine Rd.dget ?_ | with_reducible refine Rd.dget2 ?_ | with_reducible refine Rd.dput ?_ | with_reducible refine Rd.cbDictOf ?_ | with_reducible refine Rd.iitems ?_ | with_reducible refine Rd.ikeys ?_ | with_reducible refine Rd.dc ?_ | with_reducible refine Rd.nwD ?_ | with_reducible refine Rd.tupN ?_ | with_reducible refine Rd.lstN ?_ | with_reducible refine Rd.cbListOf ?_ | with_reducible refine Rd.cbListOfR ?_ | with_reducible refine Rd.catI ?_ | with_reducible refine Rd.slN ?_ | with_reducible refine Rd.cbSrtI ?_ | with_reducible refine Rd.brk ?_ | with_reducible refine Rd.cont ?_ | with_reducible refine Rd.retN ?_ | with_reducible refine Rd.ife ?_ | with_reducible refine Rd.andV ?_ | with_reducible refine Rd.orV ?_ | with_reducible refine Rd.notV ?_ | with_reducible refine Rd.un ?_ | with_reducible refine Rd.U ?_ | with_reducible refine Rd.ip ?_ | with_reducible refine Rd.call ?_ | with_reducible refine Rd.cb ?_ | with_reducible refine Rd.bm ?_ | with_reducible refine Rd.bm0 ?_ | with_reducible refine Rd.nopart ?_ | with_reducible refine Rd.part ?_ | with_reducible refine Rd.int1 ?_ | with_reducible refine Rd.ints1 ?_ | with_reducible refine Rd.ints2 ?_ | with_reducible refine Rd.gcons ?_ | with_reducible refine Rd.gnil ?_ | with_reducible refine Rd.sub ?_ | with_reducible refine Rd.isN ?_ | with_reducible refine Rd.chain ?_ | with_reducible refine Rd.rf ?_ | with_reducible refine Rd.tyS ?_ | with_reducible refine Rd.intI ?_ | with_reducible refine Rd.lc ?_ | with_reducible refine Rd.for_ ?_ | with_reducible refine Rd.ilist ?_ | with_reducible refine Rd.itup ?_ | with_reducible refine Rd.irng1 ?_ | with_reducible refine Rd.irng2 ?_ | with_reducible refine Rd.ienum ?_ | with_reducible refine Rd.istr ?_ | with_reducible refine Rd.refA ?_ | with_reducible refine Rd.strA ?_ | with_reducible refine Rd.yes ?_ | with_reducible refine Rd.ifT ?_ | with_reducible refine Rd.ifF ?_ | with_reducible refine Rd.ifnT ?_ | with_reducible refine Rd.ifnF ?_ | with_reducible refine Rd.sl ?_ | ((with_reducible apply Rd.glst); (first | assumption | exact upd_same); exact rfl) | ((with_reducible apply Rd.gtP); assumption; assumption) | ((with_reducible apply Rd.revq); first | assumption | exact SqL.of (by assumption)) | ((with_reducible apply Rd.fldI); (first | assumption | exact upd_same); assumption; assumption; (first | assumption | with_unfolding_all rfl)) | ((with_reducible apply Rd.methI); (first | assumption | exact upd_same); (first | assumption | with_unfolding_all rfl)) | ((with_reducible apply Rd.sfldI); (first | assumption | exact upd_same); assumption; assumption; exact Nat.le_of_ble_eq_true rfl) | ((with_reducible apply Rd.maxL); assumption) | ((with_reducible apply Rd.anyL); assumption) | ((with_reducible apply Rd.sumL); assumption) | ((with_reducible refine Rd.izI (by assumption) (by assumption) ?_)) | with_reducible refine Rd.mch ?_ | with_reducible refine Rd.mchI ?_ | with_reducible refine Rd.mchRest ?_ | with_reducible refine Rd.mtq ?_ | with_reducible refine Rd.mtRest ?_ | with_reducible refine Rd.mtEnd ?_ | with_reducible refine Rd.tbC ?_ | with_reducible refine Rd.tbT ?_ | with_reducible refine Rd.tbA ?_ | with_reducible refine Rd.tbN ?_ | with_reducible refine Rd.mto ?_ | with_reducible refine Rd.mtoI ?_ | with_reducible refine Rd.moRest ?_ | with_reducible refine Rd.moEnd ?_ | ((with_reducible apply Rd.mtqI); (first | assumption | exact SqT.of upd_same | exact SqT.of (by assumption)); exact Nat.le_of_ble_eq_true rfl) | ((with_reducible refine Rd.mtLen ?_ ?_); exact rfl) | ((with_reducible refine Rd.mtYes ?_ ?_); exact rfl) | ((with_reducible refine Rd.mtNo ?_ ?_); (first | assumption | decide +kernel)) | ((with_reducible refine Rd.mtOY ?_ ?_); exact rfl) | ((with_reducible refine Rd.mtON ?_ ?_); exact rfl) | ((with_reducible refine Rd.eq ?_ ?_); exact rfl) | ((with_reducible refine Rd.ne ?_ ?_); exact rfl) | ((with_reducible refine Rd.szA ?_ ?_); exact Nat.le_of_ble_eq_true rfl) | ((with_reducible refine Rd.I ?_ ?_); first | assumption | decide | exact Or.inr (by decide +kernel) | exact Or.inl (by decide +kernel) | exact ⟨by decide, by decide⟩ | exact ⟨by decide, by decide, by decide⟩ | omega | exact ⟨by omega, by omega⟩) | ((with_reducible apply Rd.tyL); first | assumption | exact upd_same) | ((with_reducible apply Rd.tyLq); assumption) | ((with_reducible apply Rd.ixL); (first | assumption | exact upd_same); exact rfl) | ((with_reducible apply Rd.ixT); (first | assumption | exact upd_same); exact rfl) | ((with_reducible apply Rd.ixLq); assumption; exact rfl) | ((with_reducible apply Rd.ixTq); assumption; exact rfl) | ((with_reducible apply Rd.gtup); (first | assumption | exact upd_same); exact rfl) | ((with_reducible apply Rd.gtupq); assumption; exact rfl) | ((with_reducible apply Rd.sqAq); assumption) | ((with_reducible apply Rd.stAq); assumption) | ((with_reducible apply Rd.enAq); assumption) | ((with_reducible apply Rd.lenLq); assumption) | ((with_reducible apply Rd.lenTq); assumption) | ((with_reducible apply Rd.sqA); first | assumption | exact upd_same) | ((with_reducible apply Rd.stA); first | assumption | exact upd_same) | ((with_reducible apply Rd.enA); first | assumption | exact upd_same) | ((with_reducible apply Rd.lenL); first | assumption | exact upd_same) | ((with_reducible apply Rd.lenT); first | assumption | exact upd_same) | ((with_reducible refine Rd.nwT ?_ ?_); exact Nat.le_of_ble_eq_true rfl) | ((with_reducible refine Rd.nwL ?_ ?_); exact Nat.le_of_ble_eq_true rfl) | ((with_reducible apply Rd.isd); assumption) | ((with_reducible apply Rd.dictOf); assumption) | ((with_reducible apply Rd.itA); first | assumption | exact upd_same) | ((with_reducible apply Rd.ikA); first | assumption | exact upd_same) | ((with_reducible apply Rd.listOf); assumption) | ((with_reducible apply Rd.listOfq); assumption) | ((with_reducible apply Rd.slo); assumption) | ((with_reducible apply Rd.slq); assumption) | ((with_reducible apply Rd.srtI); assumption) | ((with_reducible apply Rd.srtIo); assumption) | ((with_reducible refine Rd.gdI ?_); (first | with_reducible refine Rd.isi_ii ?_ | with_reducible refine Rd.isi_ib ?_ | with_reducible refine Rd.isi_is ?_ | with_reducible refine Rd.isi_il ?_ | with_reducible refine Rd.isi_it ?_ | with_reducible refine Rd.isi_id ?_ | with_reducible refine Rd.isi_bi ?_ | with_reducible refine Rd.isi_bb ?_ | with_reducible refine Rd.isi_bs ?_ | with_reducible refine Rd.isi_bl ?_ | with_reducible refine Rd.isi_bt ?_ | with_reducible refine Rd.isi_bd ?_ | with_reducible refine Rd.isi_si ?_ | with_reducible refine Rd.isi_sb ?_ | with_reducible refine Rd.isi_ss ?_ | with_reducible refine Rd.isi_sl ?_ | with_reducible refine Rd.isi_st ?_ | with_reducible refine Rd.isi_sd ?_ | with_reducible refine Rd.isi_ni ?_ | with_reducible refine Rd.isi_nb ?_ | with_reducible refine Rd.isi_ns ?_ | with_reducible refine Rd.isi_nl ?_ | with_reducible refine Rd.isi_nt ?_ | with_reducible refine Rd.isi_nd ?_ | ((with_reducible refine Rd.isi_dd (by assumption) ?_)) | ((with_reducible refine Rd.isi_li (by assumption) ?_)) | ((with_reducible refine Rd.isi_lb (by assumption) ?_)) | ((with_reducible refine Rd.isi_ls (by assumption) ?_)) | ((with_reducible refine Rd.isi_ll (by assumption) ?_)) | ((with_reducible refine Rd.isi_lt (by assumption) ?_)) | ((with_reducible refine Rd.isi_ld (by assumption) ?_)) | ((with_reducible refine Rd.isi_ti (by assumption) ?_)) | ((with_reducible refine Rd.isi_tb (by assumption) ?_)) | ((with_reducible refine Rd.isi_ts (by assumption) ?_)) | ((with_reducible refine Rd.isi_tl (by assumption) ?_)) | ((with_reducible refine Rd.isi_tt (by assumption) ?_)) | ((with_reducible refine Rd.isi_td (by assumption) ?_)))) | ((with_reducible refine Rd.gdG ?_); (first | with_reducible refine Rd.g0 ?_ | with_reducible refine Rd.g1 ?_ | with_reducible refine Rd.g2 ?_ | with_reducible refine Rd.g3 ?_ | with_reducible refine Rd.g4 ?_ | with_reducible refine Rd.g5 ?_ | with_reducible refine Rd.g6 ?_ | with_reducible refine Rd.g7 ?_ | with_reducible refine Rd.g8 ?_ | with_reducible refine Rd.g9 ?_ | with_reducible refine Rd.g10 ?_ | with_reducible refine Rd.g11 ?_ | with_reducible refine Rd.g12 ?_ | with_reducible refine Rd.g13 ?_ | with_reducible refine Rd.g14 ?_ | with_reducible refine Rd.g15 ?_ | with_reducible refine Rd.g16 ?_ | with_reducible refine Rd.g17 ?_ | with_reducible refine Rd.g18 ?_ | with_reducible refine Rd.g19 ?_ | with_reducible refine Rd.g20 ?_ | with_reducible refine Rd.g21 ?_ | with_reducible refine Rd.g22 ?_ | with_reducible refine Rd.g23 ?_ | with_reducible refine Rd.g24 ?_ | with_reducible refine Rd.g25 ?_ | with_reducible refine Rd.g26 ?_ | with_reducible refine Rd.g27 ?_)))))
def topS (i : Nat) : Stmt := PySem.Challenge.pw_deadbeat_k77_one_instruction_in_the_anal.main.body.getD i (.Pass ⟨0, 0, 0, 0⟩)
abbrev s_decimal : Stmt := topS 3
theorem sc_decimal : FnScope ["n", "pieces", "rest", "low"] ["n"] (defScope s_decimal) := ⟨rfl, rfl, rfl, by decide +kernel, rfl, by decide +kernel, by decide +kernel⟩
abbrev s_use_line : Stmt := topS 10
theorem sc_use_line : FnScope ["shape", "known", "number", "_", "ways", "age", "ages"] ["shape", "known", "number"] (defScope s_use_line) := ⟨rfl, rfl, rfl, by decide +kernel, rfl, by decide +kernel, by decide +kernel⟩
abbrev s_use_some : Stmt := topS 11
theorem sc_use_some : FnScope ["shape", "known", "numbers"] ["shape", "known", "numbers"] (defScope s_use_some) := ⟨rfl, rfl, rfl, by decide +kernel, rfl, by decide +kernel, by decide +kernel⟩
abbrev s__older : Stmt := topS 12
theorem sc__older : FnScope ["shape", "known", "numbers", "limit", "sets", "ways", "_", "changed", "number", "ages", "line", "age"] ["shape", "known", "numbers", "limit"] (defScope s__older) := ⟨rfl, rfl, rfl, by decide +kernel, rfl, by decide +kernel, by decide +kernel⟩
abbrev s_data_lines : Stmt := topS 13
theorem sc_data_lines : FnScope ["shape", "instruction", "size", "_", "address", "cells"] ["shape", "instruction"] (defScope s_data_lines) := ⟨rfl, rfl, rfl, by decide +kernel, rfl, by decide +kernel, by decide +kernel⟩
abbrev s_after : Stmt := topS 14
theorem sc_after : FnScope ["processor", "code", "p", "known_code", "known_data", "code_shape", "data_shape", "_", "used"] ["processor", "code", "p", "known_code", "known_data"] (defScope s_after) := ⟨rfl, rfl, rfl, by decide +kernel, rfl, by decide +kernel, by decide +kernel⟩
abbrev s__data_after : Stmt := topS 15
theorem sc__data_after : FnScope ["shape", "instruction", "known", "lines"] ["shape", "instruction", "known"] (defScope s__data_after) := ⟨rfl, rfl, rfl, by decide +kernel, rfl, by decide +kernel, by decide +kernel⟩
abbrev s_hits : Stmt := topS 16
theorem sc_hits : FnScope ["processor", "code", "p", "known_code", "known_data", "code_shape", "data_shape", "_", "fetch_hit", "line"] ["processor", "code", "p", "known_code", "known_data"] (defScope s_hits) := ⟨rfl, rfl, rfl, by decide +kernel, rfl, by decide +kernel, by decide +kernel⟩
abbrev s_Costs_init : Stmt := inClass (topS 21) 0
theorem sc_Costs_init : FnScope ["self", "fetch_hit", "fetch_miss", "plain", "mul", "div", "load_hit", "load_miss", "store", "taken", "count", "port", "release", "switch", "enter", "leave", "finish"] ["self", "fetch_hit", "fetch_miss", "plain", "mul", "div", "load_hit", "load_miss", "store", "taken", "count", "port", "release", "switch", "enter", "leave", "finish"] (defScope s_Costs_init) := ⟨rfl, rfl, rfl, by decide +kernel, rfl, by decide +kernel, by decide +kernel⟩
abbrev s__check_costs : Stmt := topS 22
theorem sc__check_costs : FnScope ["costs", "least", "cost"] ["costs", "least"] (defScope s__check_costs) := ⟨rfl, rfl, rfl, by decide +kernel, rfl, by decide +kernel, by decide +kernel⟩
abbrev s__check_miss : Stmt := topS 23
theorem sc__check_miss : FnScope ["hit", "miss"] ["hit", "miss"] (defScope s__check_miss) := ⟨rfl, rfl, rfl, by decide +kernel, rfl, by decide +kernel, by decide +kernel⟩
abbrev s_instruction_cost : Stmt := topS 24
theorem sc_instruction_cost : FnScope ["costs", "instruction", "fetch_hit", "load_hit", "taken", "cost"] ["costs", "instruction", "fetch_hit", "load_hit", "taken"] (defScope s_instruction_cost) := ⟨rfl, rfl, rfl, by decide +kernel, rfl, by decide +kernel, by decide +kernel⟩
abbrev s__execution_cost : Stmt := topS 25
theorem sc__execution_cost : FnScope ["costs", "instruction", "load_hit"] ["costs", "instruction", "load_hit"] (defScope s__execution_cost) := ⟨rfl, rfl, rfl, by decide +kernel, rfl, by decide +kernel, by decide +kernel⟩
abbrev s__calculation_cost : Stmt := topS 26
theorem sc__calculation_cost : FnScope ["costs", "operation"] ["costs", "operation"] (defScope s__calculation_cost) := ⟨rfl, rfl, rfl, by decide +kernel, rfl, by decide +kernel, by decide +kernel⟩
abbrev s_place_cost : Stmt := topS 28
theorem sc_place_cost : FnScope ["processor", "code", "p", "known_code", "known_data", "called", "costs", "fetch_hit", "load_hit", "cost"] ["processor", "code", "p", "known_code", "known_data", "called"] (defScope s_place_cost) := ⟨rfl, rfl, rfl, by decide +kernel, rfl, by decide +kernel, by decide +kernel⟩
abbrev s_edge_cost : Stmt := topS 29
theorem sc_edge_cost : FnScope ["processor", "code", "p", "q"] ["processor", "code", "p", "q"] (defScope s_edge_cost) := ⟨rfl, rfl, rfl, by decide +kernel, rfl, by decide +kernel, by decide +kernel⟩
abbrev s__law_cell : Stmt := topS 31
theorem sc__law_cell : FnScope ["_law_script", "_law_k"] ["_law_script", "_law_k"] (defScope s__law_cell) := ⟨rfl, rfl, rfl, by decide +kernel, rfl, by decide +kernel, by decide +kernel⟩
abbrev s__law_mixed : Stmt := topS 32
theorem sc__law_mixed : FnScope ["_law_seed", "_law_k"] ["_law_seed", "_law_k"] (defScope s__law_mixed) := ⟨rfl, rfl, rfl, by decide +kernel, rfl, by decide +kernel, by decide +kernel⟩
abbrev s__law_rich : Stmt := topS 33
theorem sc__law_rich : FnScope ["_law_cell_here", "_law_k", "_law_once"] ["_law_cell_here", "_law_k"] (defScope s__law_rich) := ⟨rfl, rfl, rfl, by decide +kernel, rfl, by decide +kernel, by decide +kernel⟩
abbrev s__law_wide : Stmt := topS 34
theorem sc__law_wide : FnScope ["_law_script", "_law_k"] ["_law_script", "_law_k"] (defScope s__law_wide) := ⟨rfl, rfl, rfl, by decide +kernel, rfl, by decide +kernel, by decide +kernel⟩
abbrev s__law_shape : Stmt := topS 35
theorem sc__law_shape : FnScope ["_law_cell_here", "_law_sets"] ["_law_cell_here"] (defScope s__law_shape) := ⟨rfl, rfl, rfl, by decide +kernel, rfl, by decide +kernel, by decide +kernel⟩
abbrev s__law_costs : Stmt := topS 36
theorem sc__law_costs : FnScope ["_law_cell_here", "_law_fetch", "_law_load"] ["_law_cell_here"] (defScope s__law_costs) := ⟨rfl, rfl, rfl, by decide +kernel, rfl, by decide +kernel, by decide +kernel⟩
abbrev s__law_base : Stmt := topS 37
theorem sc__law_base : FnScope ["_law_costs_here", "_law_instruction_here", "_law_hit", "_law_kind"] ["_law_costs_here", "_law_instruction_here", "_law_hit"] (defScope s__law_base) := ⟨rfl, rfl, rfl, by decide +kernel, rfl, by decide +kernel, by decide +kernel⟩
abbrev s__law_data_lines : Stmt := topS 38
theorem sc__law_data_lines : FnScope ["_law_shape_here", "_law_instruction_here", "_law_kind", "_law_rows", "_law_a"] ["_law_shape_here", "_law_instruction_here"] (defScope s__law_data_lines) := ⟨rfl, rfl, rfl, by decide +kernel, rfl, by decide +kernel, by decide +kernel⟩
abbrev s__law_aged : Stmt := topS 39
theorem sc__law_aged : FnScope ["_law_known_here", "_law_shape_here", "_law_touched", "_law_limit", "_law_without", "_law_due", "_law_line", "_law_age"] ["_law_known_here", "_law_shape_here", "_law_touched", "_law_limit", "_law_without"] (defScope s__law_aged) := ⟨rfl, rfl, rfl, by decide +kernel, rfl, by decide +kernel, by decide +kernel⟩
abbrev s__law_used : Stmt := topS 40
theorem sc__law_used : FnScope ["_law_known_here", "_law_shape_here", "_law_line", "_law_limit", "_law_due"] ["_law_known_here", "_law_shape_here", "_law_line"] (defScope s__law_used) := ⟨rfl, rfl, rfl, by decide +kernel, rfl, by decide +kernel, by decide +kernel⟩
abbrev s__law_after : Stmt := topS 41
theorem sc__law_after : FnScope ["_law_shapes", "_law_code", "_law_p", "_law_known_here", "_law_instruction_here", "_law_kind", "_law_first", "_law_lines", "_law_touched", "_law_line"] ["_law_shapes", "_law_code", "_law_p", "_law_known_here"] (defScope s__law_after) := ⟨rfl, rfl, rfl, by decide +kernel, rfl, by decide +kernel, by decide +kernel⟩
abbrev s__law_hits : Stmt := topS 42
theorem sc__law_hits : FnScope ["_law_shapes", "_law_code", "_law_p", "_law_known_here", "_law_lines", "_law_line"] ["_law_shapes", "_law_code", "_law_p", "_law_known_here"] (defScope s__law_hits) := ⟨rfl, rfl, rfl, by decide +kernel, rfl, by decide +kernel, by decide +kernel⟩
abbrev s__law_instruction : Stmt := topS 43
theorem sc__law_instruction : FnScope ["_law_draw", "_law_p", "_law_e", "_law_kind", "_law_a", "_law_n", "_law_r", "_law_q"] ["_law_draw", "_law_p"] (defScope s__law_instruction) := ⟨rfl, rfl, rfl, by decide +kernel, rfl, by decide +kernel, by decide +kernel⟩
abbrev s__law_known : Stmt := topS 44
theorem sc__law_known : FnScope ["_law_shape_here", "_law_lines", "_law_seed", "_law_known_here", "_law_k", "_law_line"] ["_law_shape_here", "_law_lines", "_law_seed"] (defScope s__law_known) := ⟨rfl, rfl, rfl, by decide +kernel, rfl, by decide +kernel, by decide +kernel⟩
abbrev s__law_due_cost : Stmt := topS 45
theorem sc__law_due_cost : FnScope ["_law_shapes", "_law_costs_here", "_law_code", "_law_p", "_law_known_here", "_law_called", "_law_fetch_hit", "_law_load_hit", "_law_due"] ["_law_shapes", "_law_costs_here", "_law_code", "_law_p", "_law_known_here", "_law_called"] (defScope s__law_due_cost) := ⟨rfl, rfl, rfl, by decide +kernel, rfl, by decide +kernel, by decide +kernel⟩
abbrev s__law_edges_right : Stmt := topS 46
theorem sc__law_edges_right : FnScope ["_law_processor", "_law_code", "_law_p", "_law_kind", "_law_targets", "_law_q", "_law_due"] ["_law_processor", "_law_code", "_law_p"] (defScope s__law_edges_right) := ⟨rfl, rfl, rfl, by decide +kernel, rfl, by decide +kernel, by decide +kernel⟩
abbrev s_law : Stmt := topS 47
theorem sc_law : FnScope ["_law_script", "_law_draw", "_law_p", "_law_shapes", "_law_costs_here", "_law_processor", "_law_code", "_law_k", "_law_lines", "_law_known_here", "_law_kept", "_law_told", "_law_surely", "_law_called", "_law_q", "_law_cost"] ["_law_script"] (defScope s_law) := ⟨rfl, rfl, rfl, by decide +kernel, rfl, by decide +kernel, by decide +kernel⟩
abbrev kws_Costs_init : List (Str × V) := [("fetch_hit", .int (1)), ("fetch_miss", .int (11)), ("plain", .int (1)), ("mul", .int (3)), ("div", .int (8)), ("load_hit", .int (1)), ("load_miss", .int (11)), ("store", .int (4)), ("taken", .int (1)), ("count", .int (2)), ("port", .int (4)), ("release", .int (6)), ("switch", .int (12)), ("enter", .int (5)), ("leave", .int (5)), ("finish", .int (8))]
abbrev kws_instruction_cost : List (Str × V) := [("load_hit", .bl true), ("taken", .bl false)]
theorem kb_instruction_cost_0 {K : PySem.W.Frag} {a : Addr} {d : FuncData} (F : FunD K "instruction_cost" "instruction_cost" (defArgs s_instruction_cost) (defBody s_instruction_cost) (defScope s_instruction_cost) [] kws_instruction_cost a d) :
    ∃ mv : List Value, KBn K d ["costs", "instruction", "fetch_hit", "load_hit", "taken"] 2 ["fetch_hit", "load_hit"] (fun vs zs => (fun (mz : List Value) => vs ++ ((zs.drop 0).take 2) ++ ((mz.drop 0).take 1)) mv) (fun vs zs => (fun (mz : List V) => vs ++ ((zs.drop 0).take 2) ++ ((mz.drop 0).take 1)) [.bl false]) :=
  kbn_mk F (List.cons_ne_nil _ _) (normal := ["costs", "instruction"]) (kwonly := ["fetch_hit", "load_hit", "taken"]) (ks := ["fetch_hit", "load_hit"]) [("taken", .bl false)] (fun vs mz zs => vs ++ ((zs.drop 0).take 2) ++ ((mz.drop 0).take 1)) (by decide +kernel) rfl rfl rfl rfl rfl (by decide +kernel) (by decide +kernel) (by decide +kernel) (by decide +kernel) (fun hv hm hz => ((hv.append ((hz.drop 0).tk 2)).append ((hm.drop 0).tk 1))) fun us mv ws l1 l2 l3 => by
    match us, mv, ws, l1, l2, l3 with
    | [u0, u1], [m0], [w0, w1], _, _, _ => kernel_rfl
theorem kb_Costs_init_1 {K : PySem.W.Frag} {a : Addr} {d : FuncData} (F : FunD K "__init__" "Costs.__init__" (defArgs s_Costs_init) (defBody s_Costs_init) (defScope s_Costs_init) [] kws_Costs_init a d) :
    ∃ mv : List Value, KBn K d ["self", "fetch_hit", "fetch_miss", "plain", "mul", "div", "load_hit", "load_miss", "store", "taken", "count", "port", "release", "switch", "enter", "leave", "finish"] 1 ["fetch_hit", "fetch_miss", "plain", "mul", "div", "load_hit", "load_miss", "store", "taken", "count", "port", "enter", "leave", "finish"] (fun vs zs => (fun (mz : List Value) => vs ++ ((zs.drop 0).take 11) ++ ((mz.drop 0).take 2) ++ ((zs.drop 11).take 3)) mv) (fun vs zs => (fun (mz : List V) => vs ++ ((zs.drop 0).take 11) ++ ((mz.drop 0).take 2) ++ ((zs.drop 11).take 3)) [.int (6), .int (12)]) :=
  kbn_mk F (List.cons_ne_nil _ _) (normal := ["self"]) (kwonly := ["fetch_hit", "fetch_miss", "plain", "mul", "div", "load_hit", "load_miss", "store", "taken", "count", "port", "release", "switch", "enter", "leave", "finish"]) (ks := ["fetch_hit", "fetch_miss", "plain", "mul", "div", "load_hit", "load_miss", "store", "taken", "count", "port", "enter", "leave", "finish"]) [("release", .int (6)), ("switch", .int (12))] (fun vs mz zs => vs ++ ((zs.drop 0).take 11) ++ ((mz.drop 0).take 2) ++ ((zs.drop 11).take 3)) (by decide +kernel) rfl rfl rfl rfl rfl (by decide +kernel) (by decide +kernel) (by decide +kernel) (by decide +kernel) (fun hv hm hz => (((hv.append ((hz.drop 0).tk 11)).append ((hm.drop 0).tk 2)).append ((hz.drop 11).tk 3))) fun us mv ws l1 l2 l3 => by
    match us, mv, ws, l1, l2, l3 with
    | [u0], [m0, m1], [w0, w1, w2, w3, w4, w5, w6, w7, w8, w9, w10, w11, w12, w13], _, _, _ => kernel_rfl
def parts_PlanError : List Expr := [(PySem.Expr.Constant (PySem.Const.str "value ") 0 ⟨20, 27, 20, 33⟩), (PySem.Expr.FormattedValue (value := (PySem.Expr.Call (func := (PySem.Expr.Name "decimal" ⟨20, 34, 20, 41⟩)) (args := [(PySem.Expr.Name "at" ⟨20, 42, 20, 44⟩)]) (keywords := []) (pos := ⟨20, 34, 20, 45⟩))) (conversion := (-1)) (format_spec := none) (pos := ⟨20, 33, 20, 46⟩))]
theorem fo_PlanError : PySem.Errs.FldOk "at" [("decimal", .globalImplicit)] parts_PlanError ⟨20, 25, 20, 47⟩ := ⟨rfl, rfl, rfl, rfl, rfl, (by decide), fun _ _ => rfl, fun _ _ => rfl, fun _ => rfl, fun _ _ _ _ _ _ _ _ _ _ _ _ _ => .of_eq rfl⟩
structure Top (P : Program) (K : PySem.W.Frag) (mg : Str → Option Value) where
  C_Costs : Addr
  gc_Costs : mg "Costs" = some (.ref C_Costs)
  C_PlanError : Addr
  gc_PlanError : mg "PlanError" = some (.ref C_PlanError)
  f_PlanError : Addr
  x_PlanError : PySem.Errs.ErrTxt P K mg "PlanError" "at" [("decimal", .globalImplicit)] parts_PlanError ⟨20, 25, 20, 47⟩ C_PlanError f_PlanError
  xd_PlanError : ExcD K C_PlanError
  xf_PlanError : XfC K C_PlanError
  cl_Costs : Cls K C_Costs
  n_Costs_count : NoAttr K C_Costs "count"
  n_Costs_div : NoAttr K C_Costs "div"
  n_Costs_enter : NoAttr K C_Costs "enter"
  n_Costs_fetch_hit : NoAttr K C_Costs "fetch_hit"
  n_Costs_fetch_miss : NoAttr K C_Costs "fetch_miss"
  n_Costs_finish : NoAttr K C_Costs "finish"
  n_Costs_leave : NoAttr K C_Costs "leave"
  n_Costs_load_hit : NoAttr K C_Costs "load_hit"
  n_Costs_load_miss : NoAttr K C_Costs "load_miss"
  n_Costs_mul : NoAttr K C_Costs "mul"
  n_Costs_plain : NoAttr K C_Costs "plain"
  n_Costs_port : NoAttr K C_Costs "port"
  n_Costs_release : NoAttr K C_Costs "release"
  n_Costs_store : NoAttr K C_Costs "store"
  n_Costs_switch : NoAttr K C_Costs "switch"
  n_Costs_taken : NoAttr K C_Costs "taken"
  a_decimal : Addr
  d_decimal : FuncData
  F_decimal : Fun K "decimal" "decimal" s_decimal a_decimal d_decimal
  g_decimal : mg "decimal" = some (.ref a_decimal)
  b_decimal : Binds K d_decimal ["n"] []
  a_use_line : Addr
  d_use_line : FuncData
  F_use_line : Fun K "use_line" "use_line" s_use_line a_use_line d_use_line
  g_use_line : mg "use_line" = some (.ref a_use_line)
  b_use_line : Binds K d_use_line ["shape", "known", "number"] []
  a_use_some : Addr
  d_use_some : FuncData
  F_use_some : Fun K "use_some" "use_some" s_use_some a_use_some d_use_some
  g_use_some : mg "use_some" = some (.ref a_use_some)
  b_use_some : Binds K d_use_some ["shape", "known", "numbers"] []
  a__older : Addr
  d__older : FuncData
  F__older : Fun K "_older" "_older" s__older a__older d__older
  g__older : mg "_older" = some (.ref a__older)
  b__older : Binds K d__older ["shape", "known", "numbers", "limit"] []
  a_data_lines : Addr
  d_data_lines : FuncData
  F_data_lines : Fun K "data_lines" "data_lines" s_data_lines a_data_lines d_data_lines
  g_data_lines : mg "data_lines" = some (.ref a_data_lines)
  b_data_lines : Binds K d_data_lines ["shape", "instruction"] []
  a_after : Addr
  d_after : FuncData
  F_after : Fun K "after" "after" s_after a_after d_after
  g_after : mg "after" = some (.ref a_after)
  b_after : Binds K d_after ["processor", "code", "p", "known_code", "known_data"] []
  a__data_after : Addr
  d__data_after : FuncData
  F__data_after : Fun K "_data_after" "_data_after" s__data_after a__data_after d__data_after
  g__data_after : mg "_data_after" = some (.ref a__data_after)
  b__data_after : Binds K d__data_after ["shape", "instruction", "known"] []
  a_hits : Addr
  d_hits : FuncData
  F_hits : Fun K "hits" "hits" s_hits a_hits d_hits
  g_hits : mg "hits" = some (.ref a_hits)
  b_hits : Binds K d_hits ["processor", "code", "p", "known_code", "known_data"] []
  a_Costs_init : Addr
  d_Costs_init : FuncData
  F_Costs_init : FunD K "__init__" "Costs.__init__" (defArgs s_Costs_init) (defBody s_Costs_init) (defScope s_Costs_init) [] kws_Costs_init a_Costs_init d_Costs_init
  M_Costs : Mk K C_Costs a_Costs_init
  a__check_costs : Addr
  d__check_costs : FuncData
  F__check_costs : Fun K "_check_costs" "_check_costs" s__check_costs a__check_costs d__check_costs
  g__check_costs : mg "_check_costs" = some (.ref a__check_costs)
  b__check_costs : Binds K d__check_costs ["costs", "least"] []
  a__check_miss : Addr
  d__check_miss : FuncData
  F__check_miss : Fun K "_check_miss" "_check_miss" s__check_miss a__check_miss d__check_miss
  g__check_miss : mg "_check_miss" = some (.ref a__check_miss)
  b__check_miss : Binds K d__check_miss ["hit", "miss"] []
  a_instruction_cost : Addr
  d_instruction_cost : FuncData
  F_instruction_cost : FunD K "instruction_cost" "instruction_cost" (defArgs s_instruction_cost) (defBody s_instruction_cost) (defScope s_instruction_cost) [] kws_instruction_cost a_instruction_cost d_instruction_cost
  g_instruction_cost : mg "instruction_cost" = some (.ref a_instruction_cost)
  a__execution_cost : Addr
  d__execution_cost : FuncData
  F__execution_cost : Fun K "_execution_cost" "_execution_cost" s__execution_cost a__execution_cost d__execution_cost
  g__execution_cost : mg "_execution_cost" = some (.ref a__execution_cost)
  b__execution_cost : Binds K d__execution_cost ["costs", "instruction", "load_hit"] []
  a__calculation_cost : Addr
  d__calculation_cost : FuncData
  F__calculation_cost : Fun K "_calculation_cost" "_calculation_cost" s__calculation_cost a__calculation_cost d__calculation_cost
  g__calculation_cost : mg "_calculation_cost" = some (.ref a__calculation_cost)
  b__calculation_cost : Binds K d__calculation_cost ["costs", "operation"] []
  a_place_cost : Addr
  d_place_cost : FuncData
  F_place_cost : Fun K "place_cost" "place_cost" s_place_cost a_place_cost d_place_cost
  g_place_cost : mg "place_cost" = some (.ref a_place_cost)
  b_place_cost : Binds K d_place_cost ["processor", "code", "p", "known_code", "known_data", "called"] []
  a_edge_cost : Addr
  d_edge_cost : FuncData
  F_edge_cost : Fun K "edge_cost" "edge_cost" s_edge_cost a_edge_cost d_edge_cost
  g_edge_cost : mg "edge_cost" = some (.ref a_edge_cost)
  b_edge_cost : Binds K d_edge_cost ["processor", "code", "p", "q"] []
  a__law_cell : Addr
  d__law_cell : FuncData
  F__law_cell : Fun K "_law_cell" "_law_cell" s__law_cell a__law_cell d__law_cell
  g__law_cell : mg "_law_cell" = some (.ref a__law_cell)
  b__law_cell : Binds K d__law_cell ["_law_script", "_law_k"] []
  a__law_mixed : Addr
  d__law_mixed : FuncData
  F__law_mixed : Fun K "_law_mixed" "_law_mixed" s__law_mixed a__law_mixed d__law_mixed
  g__law_mixed : mg "_law_mixed" = some (.ref a__law_mixed)
  b__law_mixed : Binds K d__law_mixed ["_law_seed", "_law_k"] []
  a__law_rich : Addr
  d__law_rich : FuncData
  F__law_rich : Fun K "_law_rich" "_law_rich" s__law_rich a__law_rich d__law_rich
  g__law_rich : mg "_law_rich" = some (.ref a__law_rich)
  b__law_rich : Binds K d__law_rich ["_law_cell_here", "_law_k"] []
  a__law_wide : Addr
  d__law_wide : FuncData
  F__law_wide : Fun K "_law_wide" "_law_wide" s__law_wide a__law_wide d__law_wide
  g__law_wide : mg "_law_wide" = some (.ref a__law_wide)
  b__law_wide : Binds K d__law_wide ["_law_script", "_law_k"] []
  a__law_shape : Addr
  d__law_shape : FuncData
  F__law_shape : Fun K "_law_shape" "_law_shape" s__law_shape a__law_shape d__law_shape
  g__law_shape : mg "_law_shape" = some (.ref a__law_shape)
  b__law_shape : Binds K d__law_shape ["_law_cell_here"] []
  a__law_costs : Addr
  d__law_costs : FuncData
  F__law_costs : Fun K "_law_costs" "_law_costs" s__law_costs a__law_costs d__law_costs
  g__law_costs : mg "_law_costs" = some (.ref a__law_costs)
  b__law_costs : Binds K d__law_costs ["_law_cell_here"] []
  a__law_base : Addr
  d__law_base : FuncData
  F__law_base : Fun K "_law_base" "_law_base" s__law_base a__law_base d__law_base
  g__law_base : mg "_law_base" = some (.ref a__law_base)
  b__law_base : Binds K d__law_base ["_law_costs_here", "_law_instruction_here", "_law_hit"] []
  a__law_data_lines : Addr
  d__law_data_lines : FuncData
  F__law_data_lines : Fun K "_law_data_lines" "_law_data_lines" s__law_data_lines a__law_data_lines d__law_data_lines
  g__law_data_lines : mg "_law_data_lines" = some (.ref a__law_data_lines)
  b__law_data_lines : Binds K d__law_data_lines ["_law_shape_here", "_law_instruction_here"] []
  a__law_aged : Addr
  d__law_aged : FuncData
  F__law_aged : Fun K "_law_aged" "_law_aged" s__law_aged a__law_aged d__law_aged
  g__law_aged : mg "_law_aged" = some (.ref a__law_aged)
  b__law_aged : Binds K d__law_aged ["_law_known_here", "_law_shape_here", "_law_touched", "_law_limit", "_law_without"] []
  a__law_used : Addr
  d__law_used : FuncData
  F__law_used : Fun K "_law_used" "_law_used" s__law_used a__law_used d__law_used
  g__law_used : mg "_law_used" = some (.ref a__law_used)
  b__law_used : Binds K d__law_used ["_law_known_here", "_law_shape_here", "_law_line"] []
  a__law_after : Addr
  d__law_after : FuncData
  F__law_after : Fun K "_law_after" "_law_after" s__law_after a__law_after d__law_after
  g__law_after : mg "_law_after" = some (.ref a__law_after)
  b__law_after : Binds K d__law_after ["_law_shapes", "_law_code", "_law_p", "_law_known_here"] []
  a__law_hits : Addr
  d__law_hits : FuncData
  F__law_hits : Fun K "_law_hits" "_law_hits" s__law_hits a__law_hits d__law_hits
  g__law_hits : mg "_law_hits" = some (.ref a__law_hits)
  b__law_hits : Binds K d__law_hits ["_law_shapes", "_law_code", "_law_p", "_law_known_here"] []
  a__law_instruction : Addr
  d__law_instruction : FuncData
  F__law_instruction : Fun K "_law_instruction" "_law_instruction" s__law_instruction a__law_instruction d__law_instruction
  g__law_instruction : mg "_law_instruction" = some (.ref a__law_instruction)
  b__law_instruction : Binds K d__law_instruction ["_law_draw", "_law_p"] []
  a__law_known : Addr
  d__law_known : FuncData
  F__law_known : Fun K "_law_known" "_law_known" s__law_known a__law_known d__law_known
  g__law_known : mg "_law_known" = some (.ref a__law_known)
  b__law_known : Binds K d__law_known ["_law_shape_here", "_law_lines", "_law_seed"] []
  a__law_due_cost : Addr
  d__law_due_cost : FuncData
  F__law_due_cost : Fun K "_law_due_cost" "_law_due_cost" s__law_due_cost a__law_due_cost d__law_due_cost
  g__law_due_cost : mg "_law_due_cost" = some (.ref a__law_due_cost)
  b__law_due_cost : Binds K d__law_due_cost ["_law_shapes", "_law_costs_here", "_law_code", "_law_p", "_law_known_here", "_law_called"] []
  a__law_edges_right : Addr
  d__law_edges_right : FuncData
  F__law_edges_right : Fun K "_law_edges_right" "_law_edges_right" s__law_edges_right a__law_edges_right d__law_edges_right
  g__law_edges_right : mg "_law_edges_right" = some (.ref a__law_edges_right)
  b__law_edges_right : Binds K d__law_edges_right ["_law_processor", "_law_code", "_law_p"] []
  a_law : Addr
  d_law : FuncData
  F_law : Fun K "law" "law" s_law a_law d_law
  g_law : mg "law" = some (.ref a_law)
  b_law : Binds K d_law ["_law_script"] []
  m_str : mg "str" = none
  m_divmod : mg "divmod" = none
  m_abs : mg "abs" = none
  m_set : mg "set" = none
  m_len : mg "len" = none
  m_list : mg "list" = none
  m_range : mg "range" = none
  m_dict : mg "dict" = none
  m_all : mg "all" = none
  m_int : mg "int" = none
  m_min : mg "min" = none
  m_repr : mg "repr" = none
  m_bool : mg "bool" = none
  m_isinstance : mg "isinstance" = none
  m_tuple : mg "tuple" = none
  t_PIECE : Tok
  c_PIECE : mg "PIECE" = some (.int 1000000000000000000 t_PIECE)
  t_PIECE_DIGITS : Tok
  c_PIECE_DIGITS : mg "PIECE_DIGITS" = some (.int 18 t_PIECE_DIGITS)
  p_STORES : Addr
  c_STORES : mg "STORES" = some (.ref p_STORES)
  l_STORES : ∃ o, K.lookup p_STORES = some o ∧ o.cls = .type "tuple" ∧ o.dict = none
  q_STORES : ∀ H, SqT K H p_STORES [.str "store", .str "storex"]
  p_LOADS : Addr
  c_LOADS : mg "LOADS" = some (.ref p_LOADS)
  l_LOADS : ∃ o, K.lookup p_LOADS = some o ∧ o.cls = .type "tuple" ∧ o.dict = none
  q_LOADS : ∀ H, SqT K H p_LOADS [.str "load", .str "loadx"]
  t_GREATEST_COST : Tok
  c_GREATEST_COST : mg "GREATEST_COST" = some (.int 64 t_GREATEST_COST)
  p_TAKEN_AT_TIMES : Addr
  c_TAKEN_AT_TIMES : mg "TAKEN_AT_TIMES" = some (.ref p_TAKEN_AT_TIMES)
  l_TAKEN_AT_TIMES : ∃ o, K.lookup p_TAKEN_AT_TIMES = some o ∧ o.cls = .type "tuple" ∧ o.dict = none
  q_TAKEN_AT_TIMES : ∀ H, SqT K H p_TAKEN_AT_TIMES [.str "jzero", .str "again"]
  p_ALWAYS_TAKEN : Addr
  c_ALWAYS_TAKEN : mg "ALWAYS_TAKEN" = some (.ref p_ALWAYS_TAKEN)
  l_ALWAYS_TAKEN : ∃ o, K.lookup p_ALWAYS_TAKEN = some o ∧ o.cls = .type "tuple" ∧ o.dict = none
  q_ALWAYS_TAKEN : ∀ H, SqT K H p_ALWAYS_TAKEN [.str "jump", .str "link", .str "back"]
/-! ### what == and index compare: data under an object -/
def DOk (n : Nat) (d : PyData) : Prop := d.canLay0 = true ∧ d.depth ≤ n
theorem DOk.shaped {n : Nat} {d : PyData} (h : DOk n d) (hn : n ≤ 64) : SeqAt.shaped d = true := by
  unfold SeqAt.shaped
  rw [h.1, decide_eq_true (Nat.le_trans h.2 hn)]
  rfl
theorem DOk.mono {n m : Nat} {d : PyData} (h : DOk n d) (hn : n ≤ m) : DOk m d := ⟨h.1, Nat.le_trans h.2 hn⟩
theorem dok_int {n : Nat} {i : Int} : DOk n (.int i) := ⟨by simp only [PyData.canLay0], by simp only [PyData.depth]; exact Nat.zero_le _⟩
theorem dok_non {n : Nat} : DOk n .none := ⟨by simp only [PyData.canLay0], by simp only [PyData.depth]; exact Nat.zero_le _⟩
theorem dok_bl {n : Nat} {b : Bool} : DOk n (.bool b) := ⟨by simp only [PyData.canLay0], by simp only [PyData.depth]; exact Nat.zero_le _⟩
theorem dok_str {n : Nat} {x : Str} (h : PyData.strOk x = true) : DOk n (.str x) := ⟨by simp only [PyData.canLay0]; exact h, by simp only [PyData.depth]; exact Nat.zero_le _⟩
theorem dok_all {n : Nat} : ∀ {ds : List PyData}, (∀ d ∈ ds, DOk n d) → PyData.canLayAll0 ds = true ∧ PyData.depthAll ds ≤ n
  | [], _ => ⟨by simp only [PyData.canLayAll0], by simp only [PyData.depthAll]; exact Nat.zero_le _⟩
  | d :: r, h => by
    obtain ⟨a, b⟩ := dok_all (ds := r) fun x m => h x (List.mem_cons_of_mem _ m)
    obtain ⟨c, e⟩ := h d List.mem_cons_self
    exact ⟨by simp only [PyData.canLayAll0, c, a] <;> rfl, by simp only [PyData.depthAll]; omega⟩
theorem dok_list {n : Nat} {ds : List PyData} (h : ∀ d ∈ ds, DOk n d) : DOk (n + 1) (.list ds) := by
  obtain ⟨a, b⟩ := dok_all h
  exact ⟨by simp only [PyData.canLay0]; exact a, by simp only [PyData.depth]; omega⟩
theorem dok_tup {n : Nat} {ds : List PyData} (h : ∀ d ∈ ds, DOk n d) : DOk (n + 1) (.tuple ds) := by
  obtain ⟨a, b⟩ := dok_all h
  exact ⟨by simp only [PyData.canLay0]; exact a, by simp only [PyData.depth]; omega⟩
theorem dpAll_map {K : PySem.W.Frag} {H : Hp} (f : V → PyData) : ∀ {zs : List V}, (∀ v ∈ zs, Dp K H v (f v)) → DpAll K H zs (zs.map f)
  | [], _ => .nil
  | z :: r, h => .cons (h z List.mem_cons_self) (dpAll_map f fun v m => h v (List.mem_cons_of_mem _ m))
theorem dpAll_ints {K : PySem.W.Frag} {H : Hp} : ∀ {ns : List Int}, DpAll K H (ns.map V.int) (ns.map PyData.int)
  | [] => .nil
  | n :: r => .cons (.int n) dpAll_ints
theorem dp_ints {K : PySem.W.Frag} {H : Hp} {a : Addr} {ns : List Int} (h : SqL K H a (ns.map V.int)) : Dp K H (.ref a) (.list (ns.map PyData.int)) := .lst h dpAll_ints
theorem dp_intsT {K : PySem.W.Frag} {H : Hp} {a : Addr} {ns : List Int} (h : SqT K H a (ns.map V.int)) : Dp K H (.ref a) (.tuple (ns.map PyData.int)) := .tup h dpAll_ints
theorem ints_dok (n : Nat) (ns : List Int) : DOk (n + 1) (.list (ns.map PyData.int)) := dok_list fun d m => by
  obtain ⟨i, _, rfl⟩ := List.mem_map.mp m
  exact dok_int
theorem ints_shaped (ns : List Int) : SeqAt.shaped (.list (ns.map PyData.int)) = true := (ints_dok 0 ns).shaped (by decide)
theorem eqvAll_ints : ∀ ns ms : List Int, PyData.eqvAll (ns.map PyData.int) (ms.map PyData.int) = decide (ns = ms)
  | [], [] => by simp [PyData.eqvAll]
  | [], b :: s => by simp [PyData.eqvAll]
  | a :: r, [] => by simp [PyData.eqvAll]
  | a :: r, b :: s => by
    rw [List.map_cons, List.map_cons, PyData.eqvAll, eqvAll_ints r s, PyData.eqv]
    by_cases h : a = b <;> by_cases h2 : r = s <;> simp [h, h2]
theorem eqv_ints (ns ms : List Int) : PyData.eqv (.list (ns.map PyData.int)) (.list (ms.map PyData.int)) = decide (ns = ms) := by
  rw [PyData.eqv, eqvAll_ints]
theorem eqv_intsT (ns ms : List Int) : PyData.eqv (.tuple (ns.map PyData.int)) (.tuple (ms.map PyData.int)) = decide (ns = ms) := by
  rw [PyData.eqv, eqvAll_ints]

/-! ### deadbeat.must: what is known of a cache -/
def agedP (S W lim : Int) (tch : List Int) (p : Int × Int) : Option (Int × Int) :=
  let a := if p.1 % S ∈ tch ∧ p.2 < lim then p.2 + 1 else p.2
  if a < W then some (p.1, a) else none
def older (S W lim : Int) (tch : List Int) (m : List (Int × Int)) : List (Int × Int) := m.filterMap (agedP S W lim tch)
def useLine (S W : Int) (m : List (Int × Int)) (n : Int) : List (Int × Int) := ptN (older S W ((lkN m n).getD W) [n % S] m) n 0
def useSome (S W : Int) (m : List (Int × Int)) (ns : List Int) : List (Int × Int) := if distinct ns = 1 then useLine S W m (ns.headD 0) else older S W W (ns.map (· % S)) m
def meetOf (m o : List (Int × Int)) : List (Int × Int) := m.filterMap fun p => (lkN o p.1).map fun b => (p.1, if b > p.2 then b else p.2)
theorem agedP_key {S W lim : Int} {tch : List Int} {p q : Int × Int} (h : agedP S W lim tch p = some q) : q.1 = p.1 := by
  unfold agedP at h
  by_cases c : (if p.1 % S ∈ tch ∧ p.2 < lim then p.2 + 1 else p.2) < W
  · rw [if_pos c] at h
    rw [← Option.some.inj h]
  · rw [if_neg c] at h; cases h
theorem fm_keys {f : Int × Int → Option (Int × Int)} (hf : ∀ p q, f p = some q → q.1 = p.1) : ∀ {m : List (Int × Int)}, (m.map (·.1)).Nodup → ((m.filterMap f).map (·.1)).Nodup
  | [], _ => by simp
  | a :: r, nd => by
    rw [List.map_cons, List.nodup_cons] at nd
    rw [List.filterMap_cons]
    cases e : f a with
    | none => exact fm_keys hf nd.2
    | some b =>
      rw [List.map_cons, List.nodup_cons]
      refine ⟨fun h => ?_, fm_keys hf nd.2⟩
      obtain ⟨q, hq, e2⟩ := List.mem_map.mp h
      obtain ⟨p, hp, e3⟩ := List.mem_filterMap.mp hq
      rw [hf _ _ e] at e2
      exact nd.1 (List.mem_map.mpr ⟨p, hp, by rw [← hf _ _ e3, e2]⟩)
theorem older_keys {S W lim : Int} {tch : List Int} {m : List (Int × Int)} (nd : (m.map (·.1)).Nodup) : ((older S W lim tch m).map (·.1)).Nodup := fm_keys (fun _ _ => agedP_key) nd
theorem older_len {S W lim : Int} {tch : List Int} {m : List (Int × Int)} : (older S W lim tch m).length ≤ m.length := List.length_filterMap_le _ _
theorem fm_take {f : Int × Int → Option (Int × Int)} {m : List (Int × Int)} {i : Nat} {p : Int × Int} (h : m[i]? = some p) : (m.take (i + 1)).filterMap f = (m.take i).filterMap f ++ (f p).toList := by
  rw [List.take_add_one, h, List.filterMap_append]
  cases e : f p <;> simp [e]
theorem fm_fresh {f : Int × Int → Option (Int × Int)} (hf : ∀ p q, f p = some q → q.1 = p.1) {m : List (Int × Int)} (nd : (m.map (·.1)).Nodup) {i : Nat} {p : Int × Int} (h : m[i]? = some p) : p.1 ∉ ((m.take i).filterMap f).map (·.1) := by
  intro z
  obtain ⟨q, hq, e⟩ := List.mem_map.mp z
  obtain ⟨r, hr, e2⟩ := List.mem_filterMap.mp hq
  obtain ⟨j, hj⟩ := List.mem_iff_getElem?.mp hr
  have hji : j < i := by
    have := (List.getElem?_eq_some_iff.mp hj).1
    rw [List.length_take] at this; omega
  rw [List.getElem?_take_of_lt hji] at hj
  have e3 : r.1 = p.1 := by rw [← hf _ _ e2, e]
  have k1 : (m.map (·.1))[j]? = some p.1 := by rw [List.getElem?_map, hj]; exact congrArg some e3
  have k2 : (m.map (·.1))[i]? = some p.1 := by rw [List.getElem?_map, h]; rfl
  have := (List.getElem?_inj (List.getElem?_eq_some_iff.mp k1).1 nd).mp (k1.trans k2.symm)
  omega
theorem older_step {S W lim : Int} {tch : List Int} {m : List (Int × Int)} {i : Nat} {p : Int × Int} (h : m[i]? = some p) : older S W lim tch (m.take (i + 1)) = older S W lim tch (m.take i) ++ (agedP S W lim tch p).toList := fm_take h
theorem older_fresh {S W lim : Int} {tch : List Int} {m : List (Int × Int)} (nd : (m.map (·.1)).Nodup) {i : Nat} {p : Int × Int} (h : m[i]? = some p) : p.1 ∉ (older S W lim tch (m.take i)).map (·.1) := fm_fresh (fun _ _ => agedP_key) nd h
theorem agedP_pos {S W lim : Int} {tch : List Int} {p : Int × Int} (c : (if p.1 % S ∈ tch ∧ p.2 < lim then p.2 + 1 else p.2) < W) : agedP S W lim tch p = some (p.1, if p.1 % S ∈ tch ∧ p.2 < lim then p.2 + 1 else p.2) := if_pos c
theorem agedP_neg {S W lim : Int} {tch : List Int} {p : Int × Int} (c : ¬ (if p.1 % S ∈ tch ∧ p.2 < lim then p.2 + 1 else p.2) < W) : agedP S W lim tch p = none := if_neg c
section
variable {P : Program} {w : World} {K : PySem.W.Frag} {mg : Str → Option Value} {base : Heap}
/-- a shape: a tuple of three ints -/
def ShapeAt (K : PySem.W.Frag) (H : Hp) (t : Addr) (S W L : Int) : Prop := SqT K H t [.int S, .int W, .int L]
def sp__older (K : PySem.W.Frag) : Sp := fun vs H Q _ => ∃ (t d l : Addr) (S W L lim : Int) (m : List (Int × Int)) (ns : List Int), vs = [.ref t, .ref d, .ref l, .int lim] ∧ ShapeAt K H t S W L ∧ 0 < S ∧ H d = some (DN m) ∧ (m.map (·.1)).Nodup ∧ m.length ≤ 1000 ∧
  H l = some (.lst (ns.map V.int)) ∧ ns.length ≤ 1000 ∧ ∀ (p : Addr) H', H p = none → Same H H' → H' p = some (DN (older S W lim (ns.map (· % S)) m)) → Q (.ref p) H'
theorem ok__older (T : Top P K mg) : FnOk P w K mg base CX0 1 T.a__older T.d__older ["shape", "known", "numbers", "limit"]  (sp__older K) := by
  refine T.F__older.ok sc__older (fun vs H Q E h => ?_) (fun cdv A outer s H vs Q E hr h => ?_)
  · obtain ⟨_, _, _, _, _, _, _, _, _, rfl, _⟩ := h
    rfl
  · obtain ⟨t, d, l, S, W, L, lim, m, ns, rfl, hsh, hS, hd, nd, lm, hl, ln, q⟩ := h
    refine ⟨_, (pss_cons (ps_asg (pv 0) (pg_tup rfl (pgs_cons (pg_name (i := 4) sc__older.nd rfl (by first | exact Or.inl rfl | exact Or.inr rfl)) (pgs_cons (pg_name (i := 5) sc__older.nd rfl (by first | exact Or.inl rfl | exact Or.inr rfl)) (pgs_cons (pg_name (i := 6) sc__older.nd rfl (by first | exact Or.inl rfl | exact Or.inr rfl)) pgs_nil)))))
  (pss_cons (ps_setDc (i := 7) (own := [("number", 8)]) (g := gName 8) (tt := tYes) rfl sc__older.nd rfl rfl (sw_trueD rfl rfl rfl (by decide +kernel)) (pi_list (pv 2)) (blkOk_by (N := ["shape", "known", "numbers", "limit", "sets", "ways", "_", "changed", "number", "ages", "line", "age"]) (sc := defScope s__older) (by decide +kernel)) (fun _ _ _ _ _ => pg_name (i := 8) sc__older.nd rfl (Or.inl rfl)) (fun _ _ _ _ _ => pts_nil) (fun _ _ _ _ _ => (pe_op op_mod (pv 8) (pv 4))) (fun _ _ _ _ _ => pe_bl))
  (pss_cons (ps_set (i := 9) sc__older.nd rfl (by first | exact Or.inl rfl | exact Or.inr rfl) pe_dnewK)
  (pss_cons (ps_lock (ps_for PassesOwn.never rfl (pi_items (pv 1)) (pg_tup rfl (pgs_cons (pg_name (i := 10) sc__older.nd rfl (by first | exact Or.inl rfl | exact Or.inr rfl)) (pgs_cons (pg_name (i := 11) sc__older.nd rfl (by first | exact Or.inl rfl | exact Or.inr rfl)) pgs_nil)))
  (Evl.pss_cut (ps_if (pw_and (pt_cmp (pc_din (hu_of hr) (pe_op op_mod (pv 10) (pv 4)) (pv 7))) (pw_and1 (pt_cmpR op_lt (pv 11) (pv 3) (nomark _)))).pt
  (pss_one (ps_aug (i := 11) sc__older.nd rfl (by first | exact Or.inl rfl | exact Or.inr rfl) pe_int ip_add))
  pss_nil)
  (pss_one (ps_if (pt_cmpR op_lt (pv 11) (pv 5) (nomark _))
  (pss_one (ps_dput (hu_of hr) (pv 9) (pv 10) (pv 11) rfl))
  pss_nil)))))
  (pss_one (ps_ret (pv 9))))))), ?_⟩
    rw [show ∀ a0 a1 a2 a3 : V, L2.start ["shape", "known", "numbers", "limit", "sets", "ways", "_", "changed", "number", "ages", "line", "age"] [a0, a1, a2, a3] = [some a0, some a1, some a2, some a3, none, none, none, none, none, none, none, none] from fun _ _ _ _ => rfl]
    have hsh' : SqT K H t [.int S, .int W, .int L] := hsh
    walk_at "my rn"
    refine fun D nD => dc_it (walk_list (xs := ns.map V.int)) (fun i H' => But D H H' ∧ ∃ cm : List (Int × V), H' D = some (DI cm) ∧ cm.length ≤ i ∧ ∀ k, (lk cm k).isSome = decide (k ∈ (ns.take i).map (· % S)))
      ⟨lock, [], upd_same, Nat.le_refl _, fun k => by simp [lk]⟩ (fun i H' _ h => SqL.of ((h.1.to nD) _ _ hl)) (fun i x H1 H2 Kt Kn hi ⟨b, cm, hD, lc, hk⟩ y kt kn => ?_) (fun H1 ⟨b, cm, hD, lc, hk⟩ => ?_)
    · obtain ⟨rfl, hx⟩ := y
      rw [List.getElem?_map] at hx
      obtain ⟨n, hn, rfl⟩ : ∃ n, ns[i]? = some n ∧ V.int n = x := by
        cases e : ns[i]? with
        | none => rw [e] at hx; cases hx
        | some n => rw [e] at hx; exact ⟨n, rfl, Option.some.inj hx⟩
      simp only [List.map_cons, List.map_nil, L2.wipe, List.set_cons_succ, List.set_cons_zero]
      walk_at "my rn"
      refine ⟨rfl, ?_⟩
      walk_at "my rn"
      refine kt cm _ _ _ hD (by rw [List.length_map] at hi; omega) ⟨b.trans lock, _, upd_same, Nat.le_trans pt_len (Nat.succ_le_succ lc), fun k => ?_⟩
      rw [lk_pt, List.take_add_one, hn, List.map_append]
      by_cases h : k = n % S
      · rw [if_pos h, h]; simp
      · rw [if_neg h, hk k]
        simp [h]
    rw [List.length_map, List.take_of_length_le (Nat.le_refl _)] at hk
    have s1 := b.to nD
    walk_at "my rn"
    intro A H2 nA s2 hA
    have s02 := s1.trans s2
    have hd2 := s02 _ _ hd
    have hD2 := s2 _ _ hD
    have dA : d ≠ A := ne_of_none (s1 _ _ hd) nA
    have DA : D ≠ A := ne_of_none hD nA
    have dD : d ≠ D := ne_of_none hd nD
    walk_at "my rn"
    refine lockS hd2 fun od => ?_
    walk_at "my rn"
    obtain ⟨touch, etch⟩ : ∃ touch, touch = ns.map (· % S) := ⟨_, rfl⟩
    rw [← etch] at hk q
    refine for_it walk_items (fun i σ H' => H' d = some (.frz od (DN m)) ∧ (∀ b o, b ≠ d → b ≠ A → H2 b = some o → H' b = some o) ∧ H' A = some (DN (older S W lim touch (m.take i))) ∧
      ∃ y10 y11, σ = [some (.ref t), some (.ref d), some (.ref l), some (.int lim), some (.int S), some (.int W), some (.int L), some (.ref D), none, some (.ref A), y10, y11])
      ⟨upd_same, fun b o nb _ h => by rw [upd_ne nb]; exact h, by rw [upd_ne dA.symm]; exact hA, none, none, rfl⟩ (fun i σ H' _ h => h.1) ?_ ?_
    · rintro i x σ H3 H4 hi ⟨hf, k3, hA3, y10, y11, rfl⟩ y
      obtain ⟨T, p, hp, rfl, nT, rfl⟩ := items_atN y
      have s34 : Same H3 (upd H3 T (.tup [.int p.1, .int p.2])) := same_new nT
      have hD4 := s34 _ _ (k3 _ _ dD.symm DA hD2)
      walk_at "my rn"
      refine ⟨fun σ' H' => H' = upd H3 T (.tup [.int p.1, .int p.2]) ∧ σ' = [some (.ref t), some (.ref d), some (.ref l), some (.int lim), some (.int S), some (.int W), some (.int L), some (.ref D), none, some (.ref A), some (.int p.1), some (.int (if p.1 % S ∈ touch ∧ p.2 < lim then p.2 + 1 else p.2))], ?_, ?_⟩
      · walk_at "my rn"
        refine dinI (rd_of hD4) ?_
        walk_at "my rn"
        rw [hk]
        refine ifD (fun c => ?_) (fun c => ?_)
        · walk_at "my rn"
          refine ifD (fun c2 => ?_) (fun c2 => ?_)
          · walk_at "my rn"
            rw [if_pos ⟨c, c2⟩]
          · walk_at "my rn"
            rw [if_neg fun z => c2 z.2]
        · walk_at "my rn"
          rw [if_neg fun z => c z.1]
      · rintro σ' H' ⟨e', rfl⟩
        subst e'
        have lA : (older S W lim touch (m.take i)).length ≤ 1000 := Nat.le_trans older_len (by rw [List.length_take]; omega)
        have hA4 := s34 _ _ hA3
        have fr := older_fresh (S := S) (W := W) (lim := lim) (tch := touch) nd hp
        have tk := older_step (S := S) (W := W) (lim := lim) (tch := touch) hp
        walk_at "my rn"
        refine ifD (fun c => ?_) (fun c => ?_)
        · walk_at "my rn"
          refine dputN hA4 (by omega) ?_
          have e : older S W lim touch (m.take (i + 1)) = ptN (older S W lim touch (m.take i)) p.1 (if p.1 % S ∈ touch ∧ p.2 < lim then p.2 + 1 else p.2) := by
            rw [ptN_new fr, tk, agedP_pos c]; rfl
          refine ⟨?_, ?_, ?_, _, _, rfl⟩
          · rw [upd_ne dA]; exact s34 _ _ hf
          · intro b o nd' nA' h
            rw [upd_ne nA']
            exact s34 _ _ (k3 b o nd' nA' h)
          · rw [upd_same, e]
        · walk_at "my rn"
          have e : older S W lim touch (m.take (i + 1)) = older S W lim touch (m.take i) := by
            rw [tk, agedP_neg c]; exact List.append_nil _
          refine ⟨s34 _ _ hf, fun b o nd' nA' h => s34 _ _ (k3 b o nd' nA' h), by rw [e]; exact hA4, _, _, rfl⟩
    · rintro σ H3 ⟨hf, k3, hA3, y10, y11, rfl⟩
      refine ⟨hf, ?_⟩
      walk_at "my rn"
      rw [List.length_map, List.length_map, List.take_of_length_le (Nat.le_refl _)] at hA3
      refine q A _ (s1.free nA) (fun b o h => ?_) (by rw [upd_ne dA.symm]; exact hA3)
      have h2 := s02 _ _ h
      by_cases z : b = d
      · subst z; rw [upd_same]; exact hd2.symm.trans h2
      · rw [upd_ne z]
        exact k3 b o z (fun z2 => by rw [z2, s1.free nA] at h; cases h) h2
def sp_use_line (K : PySem.W.Frag) : Sp := fun vs H Q _ => ∃ (t d : Addr) (S W L n : Int) (m : List (Int × Int)), vs = [.ref t, .ref d, .int n] ∧ ShapeAt K H t S W L ∧ 0 < S ∧ H d = some (DN m) ∧ (m.map (·.1)).Nodup ∧ m.length ≤ 1000 ∧
  ∀ (p : Addr) H', H p = none → Same H H' → H' p = some (DN (useLine S W m n)) → Q (.ref p) H'
theorem ok_use_line (T : Top P K mg) : FnOk P w K mg base CX0 2 T.a_use_line T.d_use_line ["shape", "known", "number"]  (sp_use_line K) := by
  refine T.F_use_line.ok sc_use_line (fun vs H Q E h => ?_) (fun cdv A outer s H vs Q E hr h => ?_)
  · obtain ⟨_, _, _, _, _, _, _, rfl, _⟩ := h
    rfl
  · obtain ⟨t, d, S, W, L, n, m, rfl, hsh, hS, hd, nd, lm, q⟩ := h
    refine ⟨_, (pss_cons (ps_asg (pv 0) (pg_tup rfl (pgs_cons (pg_name (i := 3) sc_use_line.nd rfl (by first | exact Or.inl rfl | exact Or.inr rfl)) (pgs_cons (pg_name (i := 4) sc_use_line.nd rfl (by first | exact Or.inl rfl | exact Or.inr rfl)) (pgs_cons (pg_name (i := 3) sc_use_line.nd rfl (by first | exact Or.inl rfl | exact Or.inr rfl)) pgs_nil)))))
  (pss_cons (ps_set (i := 5) sc_use_line.nd rfl (by first | exact Or.inl rfl | exact Or.inr rfl) (pe_dget2 (hu_of hr) (pv 1) (pv 2) (pv 4) ⟨by rfl, by rfl, by rfl, by rfl⟩))
  (pss_cons (ps_set (i := 6) sc_use_line.nd rfl (by first | exact Or.inl rfl | exact Or.inr rfl) (pe_call (ok__older T) (hr.mono (by decide)) (by rfl) T.g__older T.F__older.kp T.b__older .nil pass0 (pa_cons (pv 0) (pa_cons (pv 1) (pa_cons (pe_lst (pa_cons (pv 2) pa_nil)) (pa_cons (pv 5) pa_nil))))))
  (pss_cons (ps_dput (hu_of hr) (pv 6) (pv 2) pe_int rfl)
  (pss_one (ps_ret (pv 6))))))), ?_⟩
    rw [show ∀ a0 a1 a2 : V, L2.start ["shape", "known", "number", "_", "ways", "age", "ages"] [a0, a1, a2] = [some a0, some a1, some a2, none, none, none, none] from fun _ _ _ => rfl]
    have hsh' : SqT K H t [.int S, .int W, .int L] := hsh
    walk_at "my rn"
    refine dget2N (rd_of hd) ?_
    walk_at "my rn"
    intro l H1 nl s1 hl
    walk_at "my rn"
    refine ⟨t, d, l, S, W, L, _, m, [n], rfl, s1.seqT hsh, hS, s1 _ _ hd, nd, lm, hl, by simp, fun p H2 np s2 hp => ?_⟩
    walk_at "my rn"
    have lo : (older S W ((lkN m n).getD W) [n % S] m).length ≤ 1000 := Nat.le_trans older_len lm
    refine dputN hp (by simp only [List.map_cons, List.map_nil]; omega) ?_
    walk_at "my rn"
    exact q p _ (s1.free np) ((s1.trans s2).off (s1.free np)) (by rw [upd_same]; rfl)
def sp_use_some (K : PySem.W.Frag) : Sp := fun vs H Q _ => ∃ (t d l : Addr) (S W L : Int) (m : List (Int × Int)) (ns : List Int), vs = [.ref t, .ref d, .ref l] ∧ ShapeAt K H t S W L ∧ 0 < S ∧ H d = some (DN m) ∧ (m.map (·.1)).Nodup ∧ m.length ≤ 1000 ∧
  H l = some (.lst (ns.map V.int)) ∧ ns ≠ [] ∧ ns.length ≤ 1000 ∧ ∀ (p : Addr) H', H p = none → Same H H' → H' p = some (DN (useSome S W m ns)) → Q (.ref p) H'
theorem ok_use_some (T : Top P K mg) : FnOk P w K mg base CX0 3 T.a_use_some T.d_use_some ["shape", "known", "numbers"]  (sp_use_some K) := by
  refine T.F_use_some.ok sc_use_some (fun vs H Q E h => ?_) (fun cdv A outer s H vs Q E hr h => ?_)
  · obtain ⟨_, _, _, _, _, _, _, _, rfl, _⟩ := h
    rfl
  · obtain ⟨t, d, l, S, W, L, m, ns, rfl, hsh, hS, hd, nd, lm, hl, ne, ln, q⟩ := h
    refine ⟨_, (pss_cons (ps_if (pt_cmpR op_eq (pe_lenSetE (by rfl) (by rfl) T.m_len (by rfl) T.m_set (pv 2)) pe_int (nomark _))
  (pss_one (ps_ret (pe_call (ok_use_line T) (hr.mono (by decide)) (by rfl) T.g_use_line T.F_use_line.kp T.b_use_line .nil pass0 (pa_cons (pv 0) (pa_cons (pv 1) (pa_cons (pe_ix ix_list (pv 2) pe_int (fun _ _ => rfl)) pa_nil))))))
  pss_nil)
  (pss_one (ps_ret (pe_call (ok__older T) (hr.mono (by decide)) (by rfl) T.g__older T.F__older.kp T.b__older .nil pass0 (pa_cons (pv 0) (pa_cons (pv 1) (pa_cons (pv 2) (pa_cons (pe_ix ix_tup (pv 0) pe_int (fun _ _ => rfl)) pa_nil)))))))), ?_⟩
    rw [show ∀ a0 a1 a2 : V, L2.start ["shape", "known", "numbers"] [a0, a1, a2] = [some a0, some a1, some a2] from fun _ _ _ => rfl]
    have hsh' : SqT K H t [.int S, .int W, .int L] := hsh
    walk_at "my rn"
    refine ⟨_, rfl, l, ns, rfl, SqL.of hl, ln, ?_⟩
    walk_at "my rn"
    refine ifD (fun c => ?_) (fun c => ?_)
    · have c2 : distinct ns = 1 := by have := V.int.inj c; omega
      obtain ⟨a, r, rfl⟩ : ∃ a r, ns = a :: r := by
        cases ns with
        | nil => exact absurd rfl ne
        | cons a r => exact ⟨a, r, rfl⟩
      walk_at "my rn"
      refine Rd.ixL hl (Rd.at_int (j := 0) rfl rfl) ?_
      walk_at "my rn"
      refine ⟨t, d, S, W, L, _, m, rfl, hsh, hS, hd, nd, lm, fun p H' np s1 hp => q p H' np s1 ?_⟩
      rw [useSome, if_pos c2]
      exact hp
    · have c2 : ¬ distinct ns = 1 := fun z => c (by rw [z]; rfl)
      walk_at "my rn"
      refine ⟨t, d, l, S, W, L, _, m, ns, rfl, hsh, hS, hd, nd, lm, hl, ln, fun p H' np s1 hp => q p H' np s1 ?_⟩
      rw [useSome, if_neg c2]
      exact hp
end

theorem bits_lt {n : Int} (h : Builtin.Int.intBits n ≤ 1048576) : n.natAbs < 2 ^ 1048576 := by
  unfold Builtin.Int.intBits at h
  by_cases e : n = 0
  · subst e; exact Nat.pow_pos (by decide)
  · have z : (n == 0) = false := by simpa using e
    rw [z] at h
    have h2 : n.natAbs.log2 < 1048576 := h
    exact (Nat.log2_lt (by omega)).mp h2
/-! ### deadbeat.words, decimal: an integer in decimal, some digits at a time -/
theorem dec_str (m : Nat) (h : m < 1000000000000000000) : (Str.ofString (toString ((m : Nat) : Int))).length ≤ 18 := by
  rw [SX.num_S m, SX.S_len]
  exact TL.numL_len (k := 18) (by decide) (by omega)
theorem dec_log (m : Nat) (h : m < 1000000000000000000) : ((m : Int).natAbs).log2 < 1920 := by
  by_cases h0 : m = 0
  · subst h0; decide
  · have z : ((m : Int).natAbs) = m := rfl
    rw [z]
    exact Nat.lt_trans ((Nat.log2_lt h0).mpr (show m < 2 ^ 60 by omega)) (by decide)
theorem zfill_le (x : Str) (h : x.length ≤ 18) : (Txt.zfill x 18).length ≤ 18 := by
  unfold Txt.zfill
  by_cases c : (18 : Int) ≤ x.length
  · rw [if_pos c]; exact h
  · rw [if_neg c]
    unfold PySem.zfilled
    have key : ∀ c, x.cps[0]? = some c → 1 ≤ x.length := fun c hc => (Array.getElem?_eq_some_iff.mp hc).1
    split
    · rename_i hc'
      have h2 := key _ hc'
      rw [PySem.size_cat, PySem.size_padded, PySem.size_strSub x 0 1 h2, PySem.size_strSub x 1 x.length (Nat.le_refl _)]; omega
    · rename_i hc'
      have h2 := key _ hc'
      rw [PySem.size_cat, PySem.size_padded, PySem.size_strSub x 0 1 h2, PySem.size_strSub x 1 x.length (Nat.le_refl _)]; omega
    · rw [PySem.size_padded]; omega
/-- the pieces so far: some short texts, what is left of n -/
structure DecInv (n : Int) (ps : List Str) (r : Int) : Prop where
  r0 : 0 ≤ r
  pos : ps = [] ∧ r = n.natAbs ∨ 1 ≤ r ∧ 1000000000000000000 ≤ n.natAbs
  le : r.toNat * (1000000000000000000 : Nat) ^ ps.length ≤ n.natAbs
  short : ∀ p ∈ ps, p.length ≤ 18
theorem dec_count {n : Int} {ps : List Str} {r : Int} (d : DecInv n ps r) (h : n.natAbs < 2 ^ 1048576) : ps.length ≤ 20000 := by
  rcases d.pos with ⟨e, _⟩ | e
  · rw [e]; exact Nat.zero_le _
  · have h1 : 1 ≤ r.toNat := by omega
    have h2 : (2 ^ 59 : Nat) ^ ps.length ≤ n.natAbs :=
      Nat.le_trans (Nat.pow_le_pow_left (show (2 ^ 59 : Nat) ≤ 1000000000000000000 by decide) _) (Nat.le_trans (Nat.le_mul_of_pos_left _ h1) d.le)
    rw [← Nat.pow_mul] at h2
    have h3 : 59 * ps.length < 1048576 := (Nat.pow_lt_pow_iff_right (by decide : 1 < 2)).mp (Nat.lt_of_le_of_lt h2 h)
    omega
theorem sum_short {ps : List Str} (h : ∀ p ∈ ps, p.length ≤ 18) : (ps.map (·.length)).sum ≤ 18 * ps.length := by
  induction ps with
  | nil => simp
  | cons a r ih =>
    have h1 := h a (by simp)
    have h2 := ih fun p hp => h p (by simp [hp])
    simp only [List.map_cons, List.sum_cons, List.length_cons]
    omega
section
variable {P : Program} {w : World} {K : PySem.W.Frag} {mg : Str → Option Value} {base : Heap}
def sp_decimal : Sp := fun vs H Q _ => ∃ n : Int, vs = [.int n] ∧ n.natAbs < 2 ^ 1048576 ∧
  ∀ (z : Str) (H' : Hp), z.length ≤ 1000000 → (0 ≤ n → n < 1000000000000000000 → z = toString n) → Same H H' → Q (.str z) H'
theorem ok_decimal (T : Top P K mg) : FnOk P w K mg base CX0 1 T.a_decimal T.d_decimal ["n"]  sp_decimal := by
  refine T.F_decimal.ok sc_decimal (fun vs H Q E h => ?_) (fun cdv A outer s H vs Q E hr h => ?_)
  · obtain ⟨_, rfl, _⟩ := h
    rfl
  · obtain ⟨n, rfl, hn, q⟩ := h
    refine ⟨_, (pss_cons (ps_set (i := 1) sc_decimal.nd rfl (by first | exact Or.inl rfl | exact Or.inr rfl) (pe_lst pa_nil))
  (pss_cons (ps_set (i := 2) sc_decimal.nd rfl (by first | exact Or.inl rfl | exact Or.inr rfl) (pe_callB call_abs (by rfl) T.m_abs (by decide +kernel) (pa_cons (pv 0) pa_nil)))
  (pss_cons (ps_while PassesOwn.never (pt_cmpR op_ge (pv 2) (pe_gi (by rfl) T.c_PIECE) (nomark _))
  (pss_cons (ps_asg (pe_callB call_divmodW (by rfl) T.m_divmod (by decide +kernel) (pa_cons (pv 2) (pa_cons (pe_gi (by rfl) T.c_PIECE) pa_nil))) (pg_tup rfl (pgs_cons (pg_name (i := 2) sc_decimal.nd rfl (by first | exact Or.inl rfl | exact Or.inr rfl)) (pgs_cons (pg_name (i := 3) sc_decimal.nd rfl (by first | exact Or.inl rfl | exact Or.inr rfl)) pgs_nil))))
  (pss_one (ps_expr (pe_bm PySem.F.plainAttrs_list PySem.F.slot_list_append PySem.F.type_list_append mt_append (pv 1) (pa_cons (pe_bm PySem.F.plainAttrs_str PySem.F.slot_str_zfill PySem.F.type_str_zfill mt_zfill (pe_callTy call_str_int (by rfl) T.m_str (by decide +kernel) (pa_cons (pv 3) pa_nil)) (pa_cons (pe_gi (by rfl) T.c_PIECE_DIGITS) pa_nil)) pa_nil))))))
  (pss_cons (ps_expr (pe_bm PySem.F.plainAttrs_list PySem.F.slot_list_append PySem.F.type_list_append mt_append (pv 1) (pa_cons (pe_callTy call_str_int (by rfl) T.m_str (by decide +kernel) (pa_cons (pv 2) pa_nil)) pa_nil)))
  (Evl.pss_cut (ps_if (pt_cmpR op_lt (pv 0) pe_int (nomark _))
  (pss_one (ps_expr (pe_bm PySem.F.plainAttrs_list PySem.F.slot_list_append PySem.F.type_list_append mt_append (pv 1) (pa_cons pe_str pa_nil))))
  pss_nil)
  (pss_one (ps_ret (pe_bm PySem.F.plainAttrs_str PySem.F.slot_str_join PySem.F.type_str_join mt_join pe_str (pa_cons (pe_revL (pv 1)) pa_nil))))))))), ?_⟩
    refine ⟨Nat.zero_le _, fun p np => ?_⟩
    refine ⟨_, rfl, n, rfl, ?_⟩
    have ea : (if n < 0 then -n else n) = ((n.natAbs : Nat) : Int) := by split <;> omega
    show gName 2 (V.int (if n < 0 then -n else n)) _ _ _
    rw [ea]
    refine while_by (fun σ H' => ∃ (ps : List Str) (r : Int) (y : Option V), σ = [some (.int n), some (.ref p), some (.int r), y] ∧ H' p = some (.lst (ps.map V.str)) ∧ Same H H' ∧ DecInv n ps r)
      (fun σ _ => match σ with | [_, _, some (.int r), _] => r.toNat | _ => 0) ⟨[], _, none, rfl, upd_same, same_new np, ⟨by omega, .inl ⟨rfl, rfl⟩, by simp, by simp⟩⟩ ?_ ?_
    rotate_left
    · intro σ H' Q1 Q2 f h
      obtain ⟨i, h1, j, h2, a, h3, h4, h5, h6⟩ := h
      exact ⟨i, h1, j, h2, a, h3, h4, h5, f _ _ h6⟩
    · rintro σ H1 ⟨ps, r, y, rfl, hp, sm, d⟩
      have hcnt := dec_count d hn
      refine ⟨_, rfl, _, _, rfl, rfl, _, rfl, ?_⟩
      by_cases c : (1000000000000000000 : Int) ≤ r
      · rw [decide_eq_true c]
        refine iteT ?_
        refine ⟨_, rfl, _, _, rfl, ⟨by decide, PyProof.noPylong_of_log2 (by decide)⟩, fun t nt => ?_⟩
        have tp : p ≠ t := ne_of_none hp nt
        obtain ⟨lo, elo⟩ : ∃ lo : Nat, r % 1000000000000000000 = (lo : Int) := ⟨(r % 1000000000000000000).toNat, by omega⟩
        have lo1 : lo < 1000000000000000000 := by omega
        rw [elo]
        refine ⟨t, _, rfl, SqT.of upd_same, rfl, _, _, rfl, _, _, rfl, rfl, ?_⟩
        have hp' : upd H1 t (.tup [.int (r / 1000000000000000000), .int (lo : Int)]) p = some (.lst (ps.map V.str)) := by rw [upd_ne tp]; exact hp
        refine ⟨_, rfl, .inl ⟨rfl, _, SqL.of hp'⟩, _, rfl, _, rfl, dec_log lo lo1, rfl, _, _, rfl, rfl, rfl, p, _, _, rfl, rfl, hp', ?_, ?_⟩
        · rw [List.length_map, sizeLine_eq]; omega
        have z1 := zfill_le _ (dec_str lo lo1)
        refine ⟨⟨ps ++ [Txt.zfill (Str.ofString (toString ((lo : Nat) : Int))) 18], _, _, rfl, by rw [upd_same, List.map_append]; rfl, (sm.off (sm.free nt)).off np, ?_⟩, ?_⟩
        · have big : 1000000000000000000 ≤ n.natAbs := by
            have := Nat.le_trans (Nat.le_mul_of_pos_right r.toNat (Nat.pow_pos (n := ps.length) (by decide : 0 < 1000000000000000000))) d.le
            omega
          refine ⟨by omega, .inr ⟨by omega, big⟩, ?_, fun x hx => ?_⟩
          · rw [List.length_append, List.length_singleton, Nat.pow_succ, Nat.mul_comm ((1000000000000000000 : Nat) ^ ps.length), ← Nat.mul_assoc]
            refine Nat.le_trans (Nat.mul_le_mul_right _ ?_) d.le
            omega
          · rcases List.mem_append.mp hx with hx | hx
            · exact d.short x hx
            · rw [List.mem_singleton.mp hx]; exact z1
        · show (r / 1000000000000000000).toNat < r.toNat
          omega
      · rw [decide_eq_false c]
        refine iteF ?_
        have r0 := d.r0
        obtain ⟨m, rfl⟩ : ∃ m : Nat, r = (m : Int) := ⟨r.toNat, by omega⟩
        have m1 : m < 1000000000000000000 := by omega
        refine ⟨_, rfl, .inl ⟨rfl, _, SqL.of hp⟩, _, rfl, _, rfl, dec_log m m1, p, _, _, rfl, rfl, hp, ?_, ?_⟩
        · rw [List.length_map, sizeLine_eq]; omega
        obtain ⟨qs, eqs⟩ : ∃ qs : List Str, qs = ps ++ [Str.ofString (toString ((m : Nat) : Int))] := ⟨_, rfl⟩
        have hq : upd H1 p (.lst (ps.map V.str ++ [V.str (Str.ofString (toString ((m : Nat) : Int)))])) p = some (.lst (qs.map V.str)) := by rw [upd_same, eqs, List.map_append]; rfl
        have sm2 : Same H (upd H1 p (.lst (ps.map V.str ++ [V.str (Str.ofString (toString ((m : Nat) : Int)))]))) := sm.off np
        have short : ∀ x ∈ qs, x.length ≤ 18 := fun x hx => by
          rw [eqs] at hx
          rcases List.mem_append.mp hx with hx | hx
          · exact d.short x hx
          · rw [List.mem_singleton.mp hx]; exact dec_str m m1
        have cnt : qs.length ≤ 20001 := by rw [eqs, List.length_append, List.length_singleton]; omega
        refine ⟨fun σ' H2 => ∃ rs : List Str, σ' = [some (.int n), some (.ref p), some (.int (m : Int)), y] ∧ (∀ x ∈ rs, x.length ≤ 18) ∧ rs.length ≤ 20002 ∧ H2 p = some (.lst (rs.map V.str)) ∧ Same H H2 ∧ (0 ≤ n → n < 1000000000000000000 → rs = [Str.ofString (toString n)]), ?_, ?_⟩
        · refine ⟨_, rfl, _, _, rfl, rfl, _, rfl, ite2 (fun c2 => ?_) (fun c2 => ?_)⟩
          · have neg := of_decide_eq_true c2
            refine ⟨_, rfl, .inl ⟨rfl, _, SqL.of hq⟩, p, _, _, rfl, rfl, hq, ?_, ?_⟩
            · rw [List.length_map, sizeLine_eq]; omega
            · refine ⟨qs ++ [("-" : Str)], rfl, fun x hx => ?_, ?_, (by rw [upd_same, List.map_append]; rfl), sm2.off np, fun a _ => absurd neg (by omega)⟩
              · rcases List.mem_append.mp hx with hx | hx
                · exact short x hx
                · rw [List.mem_singleton.mp hx]; decide
              · rw [List.length_append]; exact Nat.succ_le_succ cnt
          · refine ⟨qs, rfl, short, (by omega), hq, sm2, fun a b => ?_⟩
            rcases d.pos with ⟨e, e2⟩ | ⟨e, e2⟩
            · have e3 : n = (m : Int) := by omega
              rw [eqs, e, e3]
              rfl
            · omega
        · rintro σ' H2 ⟨rs, rfl, hs, hl, h2, s2, hz⟩
          have sum := sum_short (ps := rs.reverse) (fun x hx => hs x (List.mem_reverse.mp hx))
          rw [List.length_reverse] at sum
          have e0 : ("" : Str).length = 0 := rfl
          refine ⟨rfl, _, rfl, p, _, rfl, SqL.of h2, fun u nu => ⟨"", u, rs.reverse, rfl, rfl, .inl (SqL.of (by rw [upd_same, List.map_reverse])), ?_, q _ _ ?_ (fun a b => ?_) (s2.trans (same_new nu))⟩⟩
          · rw [e0]; omega
          · show (PySem.Builtin.Str.glued "" rs.reverse).length ≤ _
            rw [PySem.size_glued, e0]; omega
          · rw [hz a b]
            rfl
end

/-! ### the costs of the processor -/
structure Cost where
  (fh fm pl mu dv lh lm st tk ct po rl sw en lv fi : Int)
def Cost.l (c : Cost) : List Int := [c.fh, c.fm, c.pl, c.mu, c.dv, c.lh, c.lm, c.st, c.tk, c.ct, c.po, c.rl, c.sw, c.en, c.lv, c.fi]
def Cost.fs (c : Cost) : List (Str × V) := [("fetch_hit", .int c.fh), ("fetch_miss", .int c.fm), ("plain", .int c.pl), ("mul", .int c.mu), ("div", .int c.dv), ("load_hit", .int c.lh), ("load_miss", .int c.lm), ("store", .int c.st), ("taken", .int c.tk), ("count", .int c.ct), ("port", .int c.po), ("release", .int c.rl), ("switch", .int c.sw), ("enter", .int c.en), ("leave", .int c.lv), ("finish", .int c.fi)]
/-- all its numbers are small -/
def Cost.Sm (c : Cost) : Prop := ∀ x ∈ c.l, -1 ≤ x ∧ x ≤ 1000
structure Cost.Ok (c : Cost) : Prop where
  a : ∀ x ∈ [c.fh, c.fm, c.pl, c.mu, c.dv, c.lh, c.lm, c.st, c.tk, c.ct, c.po], 1 ≤ x ∧ x ≤ 64
  b : ∀ x ∈ [c.rl, c.sw, c.en, c.lv, c.fi], 0 ≤ x ∧ x ≤ 64
  f : c.fh ≤ c.fm
  l : c.lh ≤ c.lm
theorem Cost.sm1 {c : Cost} (h : c.Sm) : ∀ x ∈ [c.fh, c.fm, c.pl, c.mu, c.dv, c.lh, c.lm, c.st, c.tk, c.ct, c.po], -1 ≤ x ∧ x ≤ 1000 := fun x m => h x (List.mem_append_left [c.rl, c.sw, c.en, c.lv, c.fi] m)
theorem Cost.sm2 {c : Cost} (h : c.Sm) : ∀ x ∈ [c.rl, c.sw, c.en, c.lv, c.fi], -1 ≤ x ∧ x ≤ 1000 := fun x m => h x (List.mem_append_right [c.fh, c.fm, c.pl, c.mu, c.dv, c.lh, c.lm, c.st, c.tk, c.ct, c.po] m)
def CostsAt (C : Addr) (H : Hp) (o : Addr) (c : Cost) : Prop := ∃ dx, H o = some (.ins C dx c.fs)
theorem CostsAt.same {C : Addr} {H H' : Hp} {o : Addr} {c : Cost} (h : CostsAt C H o c) (s : Same H H') : CostsAt C H' o c := by
  obtain ⟨dx, h⟩ := h
  exact ⟨dx, s _ _ h⟩
theorem msg_pl {P : Program} {w : World} {K : PySem.W.Frag} {mg : Str → Option Value} {base : Heap} (T : Top P K mg) {CX : CXT} {N : List Str} {qual : Str} {scope : Scope} {f : Addr} {cd : Value} {A : Around} {outer : List Env} {s : Shared} {H : Hp} {E : XK} {mp : Pos} {n : Int} (h : -1 ≤ n) (h2 : n ≤ 100000) :
    MsgV (cxOf CX P w K mg base N qual scope f cd A outer s H E) 1 [("decimal", .globalImplicit)] parts_PlanError mp "at" (.int n) :=
  have hb : n.natAbs < 2 ^ 1048576 := Nat.lt_of_le_of_lt (show n.natAbs ≤ 100000 by omega) (Nat.lt_of_lt_of_le (show 100000 < 2 ^ 17 by decide) (Nat.pow_le_pow_right (by decide) (by decide)))
  msg_dec2 (X := cxOf CX P w K mg base N qual scope f cd A outer s H E) (ok_decimal T) T.g_decimal T.F_decimal.kp T.b_decimal (fun Q E q => ⟨n, rfl, hb, fun z H' hz _ _ => q z H' hz⟩) rfl rfl (by decide) (fun _ => rfl) (by decide)
theorem and_cut {a b : Prop} [Decidable a] [Decidable b] {G : Prop} (h : ¬ (a ∧ b)) (h1 : decide a = false → G) (h2 : decide a = true → decide b = false → G) : G := by
  by_cases ha : a
  · exact h2 (decide_eq_true ha) (decide_eq_false fun hb => h ⟨ha, hb⟩)
  · exact h1 (decide_eq_false ha)
def AtOut (C : Addr) (H : Hp) (E : XK) : Prop := ∀ (n : Int) H' d, Same H H' → H d = none → H' d = some (.xd [(("at" : Str), .int n)]) → E (.ref C) (some d) H'

section
variable {P : Program} {w : World} {K : PySem.W.Frag} {mg : Str → Option Value} {base : Heap}
def sp__check_costs (K : PySem.W.Frag) (PE : Addr) : Sp := fun vs H Q E => ∃ (l : Addr) (ns : List Int) (n : Int), vs = [.ref l, .int n] ∧ SqL K H l (ns.map V.int) ∧ ns.length ≤ 100 ∧ (∀ x ∈ ns, -1 ≤ x ∧ x ≤ 1000) ∧
  ((∀ x ∈ ns, n ≤ x ∧ x ≤ 64) → Q .non H) ∧ (¬ (∀ x ∈ ns, n ≤ x ∧ x ≤ 64) → AtOut PE H E)
theorem ok__check_costs (T : Top P K mg) : FnOk P w K mg base (L2.CX P w) 4 T.a__check_costs T.d__check_costs ["costs", "least"]  (sp__check_costs K T.C_PlanError) := by
  refine T.F__check_costs.okX sc__check_costs (fun vs H Q E h => ?_) (fun cdv A outer s H vs Q E hr h => ?_)
  · obtain ⟨_, _, _, rfl, _⟩ := h
    rfl
  · obtain ⟨l, ns, n, rfl, hl, ln, sm, q, qe⟩ := h
    refine ⟨_, (pss_one (ps_for (passes_of rfl) rfl (pi_list (pv 0)) (pg_name (i := 2) sc__check_costs.nd rfl (by first | exact Or.inl rfl | exact Or.inr rfl))
  (pss_one (ps_if (pt_not (pt_chain op_le op_le (pv 1) (pv 2) (pe_gi (by rfl) T.c_GREATEST_COST)))
  (pss_one (ps_raiseErr (lv := 1) rfl T.x_PlanError fo_PlanError hr (takes_of rfl rfl rfl rfl) (pa_cons (pv 2) pa_nil)))
  pss_nil)))), ?_⟩
    rw [show ∀ a0 a1 : V, L2.start ["costs", "least", "cost"] [a0, a1] = [some a0, some a1, none] from fun _ _ => rfl]
    walk_at "my rn"
    refine for_it (walk_list (xs := ns.map V.int)) (fun i σ H' => ∃ y, σ = [some (.ref l), some (.int n), y] ∧ H' = H ∧ ∀ x ∈ ns.take i, n ≤ x ∧ x ≤ 64) ⟨none, rfl, rfl, fun x m => by rw [List.take_zero] at m; cases m⟩ (fun i σ H' _ ⟨_, _, e, _⟩ => by rw [e]; exact hl) ?_ ?_
    · rintro i x σ Ho H' hi ⟨y, rfl, rfl, al⟩ ⟨rfl, hx⟩
      rw [List.getElem?_map] at hx
      obtain ⟨v, hv, rfl⟩ : ∃ v, ns[i]? = some v ∧ V.int v = x := by
        cases z : ns[i]? with
        | none => rw [z] at hx; cases hx
        | some v => rw [z] at hx; exact ⟨v, rfl, Option.some.inj hx⟩
      have mv := List.mem_of_getElem? hv
      have bv := sm v mv
      walk_at "my rn"
      refine Rd.ifD (fun h1 => ?_) fun h1 => ?_
      · walk_at "my rn"
        refine Rd.ifN (p := v ≤ 64) (fun h2 => ?_) fun h2 => ?_
        · refine ⟨_, rfl, _, rfl, msg_pl T (by omega) (by omega), fun d hd => ?_⟩
          exact qe (fun z => h2 (z v mv).2) _ _ d (same_new hd) hd upd_same
        · refine ⟨_, rfl, rfl, fun x m => ?_⟩
          rw [List.take_add_one, hv] at m
          rcases List.mem_append.mp m with m | m
          · exact al x m
          · rw [show x = v from by simpa using m]
            omega
      · walk_at "my rn"
        refine ⟨_, rfl, _, rfl, msg_pl T (by omega) (by omega), fun d hd => ?_⟩
        exact qe (fun z => h1 (z v mv).1) _ _ d (same_new hd) hd upd_same
    · rintro σ H' ⟨y, rfl, rfl, al⟩
      refine q fun x m => al x ?_
      rw [List.take_of_length_le (by rw [List.length_map]; exact Nat.le_refl _)]
      exact m
def sp__check_miss (PE : Addr) : Sp := fun vs H Q E => ∃ (a b : Int), vs = [.int a, .int b] ∧ -1 ≤ b ∧ b ≤ 1000 ∧ (a ≤ b → Q .non H) ∧ (¬ a ≤ b → AtOut PE H E)
theorem ok__check_miss (T : Top P K mg) : FnOk P w K mg base (L2.CX P w) 4 T.a__check_miss T.d__check_miss ["hit", "miss"]  (sp__check_miss T.C_PlanError) := by
  refine T.F__check_miss.okX sc__check_miss (fun vs H Q E h => ?_) (fun cdv A outer s H vs Q E hr h => ?_)
  · obtain ⟨_, _, rfl, _⟩ := h
    rfl
  · obtain ⟨a, b, rfl, b1, b2, q, qe⟩ := h
    refine ⟨_, (pss_one (ps_if (pt_cmpR op_lt (pv 1) (pv 0) (nomark _))
  (pss_one (ps_raiseErr (lv := 1) rfl T.x_PlanError fo_PlanError hr (takes_of rfl rfl rfl rfl) (pa_cons (pv 1) pa_nil)))
  pss_nil)), ?_⟩
    rw [show ∀ a0 a1 : V, L2.start ["hit", "miss"] [a0, a1] = [some a0, some a1] from fun _ _ => rfl]
    walk_at "my rn"
    refine Rd.ifD (fun h1 => ?_) fun h1 => ?_
    · refine ⟨_, rfl, _, rfl, msg_pl T (by omega) (by omega), fun d hd => ?_⟩
      exact qe (by omega) _ _ d (same_new hd) hd upd_same
    · exact q (by omega)
def sp_Costs_init (C PE : Addr) : Sp := fun vs H Q E => ∃ (o dx : Addr) (c : Cost), vs = .ref o :: c.l.map V.int ∧ c.Sm ∧ H o = some (.ins C dx []) ∧
  (c.Ok → ∀ (H' : Hp), H' o = some (.ins C dx c.fs) → (∀ b x, b ≠ o → H b = some x → H' b = some x) → Q .non H') ∧ (¬ c.Ok → AtOut PE H E)
theorem AtOut.same {C : Addr} {H H1 : Hp} {E : XK} (h : AtOut C H E) (s : Same H H1) : AtOut C H1 E := fun n H' d s1 nd hd => h n H' d (s.trans s1) (s.free nd) hd
theorem ok_Costs_init (T : Top P K mg) : FnOk P w K mg base (L2.CX P w) 5 T.a_Costs_init T.d_Costs_init ["self", "fetch_hit", "fetch_miss", "plain", "mul", "div", "load_hit", "load_miss", "store", "taken", "count", "port", "release", "switch", "enter", "leave", "finish"]  (sp_Costs_init T.C_Costs T.C_PlanError) := by
  refine T.F_Costs_init.ok sc_Costs_init (fun vs H Q E h => ?_) (fun cdv A outer s H vs Q E hr h => ?_)
  · obtain ⟨_, _, _, rfl, _⟩ := h
    rfl
  · obtain ⟨o, dx, c, rfl, sm, ho, q, qe⟩ := h
    refine ⟨_, (pss_cons (ps_expr (pe_callS (ok__check_costs T) (hr.mono (by decide)) (by rfl) T.g__check_costs T.F__check_costs.kp T.b__check_costs (fun σ => passAt (takes_of rfl rfl rfl rfl) σ) (pa_cons (pe_lst (pa_cons (pv 1) (pa_cons (pv 2) (pa_cons (pv 3) (pa_cons (pv 4) (pa_cons (pv 5) (pa_cons (pv 6) (pa_cons (pv 7) (pa_cons (pv 8) (pa_cons (pv 9) (pa_cons (pv 10) (pa_cons (pv 11) pa_nil)))))))))))) (pa_cons pe_int pa_nil))))
  (pss_cons (ps_expr (pe_callS (ok__check_costs T) (hr.mono (by decide)) (by rfl) T.g__check_costs T.F__check_costs.kp T.b__check_costs (fun σ => passAt (takes_of rfl rfl rfl rfl) σ) (pa_cons (pe_lst (pa_cons (pv 12) (pa_cons (pv 13) (pa_cons (pv 14) (pa_cons (pv 15) (pa_cons (pv 16) pa_nil)))))) (pa_cons pe_int pa_nil))))
  (pss_cons (ps_expr (pe_callS (ok__check_miss T) (hr.mono (by decide)) (by rfl) T.g__check_miss T.F__check_miss.kp T.b__check_miss (fun σ => passAt (takes_of rfl rfl rfl rfl) σ) (pa_cons (pv 1) (pa_cons (pv 2) pa_nil))))
  (pss_cons (ps_expr (pe_callS (ok__check_miss T) (hr.mono (by decide)) (by rfl) T.g__check_miss T.F__check_miss.kp T.b__check_miss (fun σ => passAt (takes_of rfl rfl rfl rfl) σ) (pa_cons (pv 6) (pa_cons (pv 7) pa_nil))))
  (pss_cons (ps_fld (pv 0) (pv 1) rfl)
  (pss_cons (ps_fld (pv 0) (pv 2) rfl)
  (pss_cons (ps_fld (pv 0) (pv 3) rfl)
  (pss_cons (ps_fld (pv 0) (pv 4) rfl)
  (pss_cons (ps_fld (pv 0) (pv 5) rfl)
  (pss_cons (ps_fld (pv 0) (pv 6) rfl)
  (pss_cons (ps_fld (pv 0) (pv 7) rfl)
  (pss_cons (ps_fld (pv 0) (pv 8) rfl)
  (pss_cons (ps_fld (pv 0) (pv 9) rfl)
  (pss_cons (ps_fld (pv 0) (pv 10) rfl)
  (pss_cons (ps_fld (pv 0) (pv 11) rfl)
  (pss_cons (ps_fld (pv 0) (pv 12) rfl)
  (pss_cons (ps_fld (pv 0) (pv 13) rfl)
  (pss_cons (ps_fld (pv 0) (pv 14) rfl)
  (pss_cons (ps_fld (pv 0) (pv 15) rfl)
  (pss_one (ps_fld (pv 0) (pv 16) rfl))))))))))))))))))))), ?_⟩
    unfold Cost.l
    simp only [List.map_cons, List.map_nil]
    rw [show ∀ a0 a1 a2 a3 a4 a5 a6 a7 a8 a9 a10 a11 a12 a13 a14 a15 a16 : V, L2.start ["self", "fetch_hit", "fetch_miss", "plain", "mul", "div", "load_hit", "load_miss", "store", "taken", "count", "port", "release", "switch", "enter", "leave", "finish"] [a0, a1, a2, a3, a4, a5, a6, a7, a8, a9, a10, a11, a12, a13, a14, a15, a16] = [some a0, some a1, some a2, some a3, some a4, some a5, some a6, some a7, some a8, some a9, some a10, some a11, some a12, some a13, some a14, some a15, some a16] from fun _ _ _ _ _ _ _ _ _ _ _ _ _ _ _ _ _ => rfl]
    have s1 := Cost.sm1 sm
    have s2 := Cost.sm2 sm
    have ne1 : ∀ {H1 : Hp}, Same H H1 → H1 o = some (.ins T.C_Costs dx []) := fun s => s _ _ ho
    walk_at "my rn"
    intro p1 H1 np1 sm1 hp1
    walk_at "my rn"
    refine ⟨p1, [c.fh, c.fm, c.pl, c.mu, c.dv, c.lh, c.lm, c.st, c.tk, c.ct, c.po], 1, rfl, SqL.of hp1, Nat.le_of_ble_eq_true rfl, s1, fun g1 => ?_, fun n1 => AtOut.same (qe fun ok => n1 ok.a) sm1⟩
    walk_at "my rn"
    intro p2 H2 np2 sm2 hp2
    walk_at "my rn"
    refine ⟨p2, [c.rl, c.sw, c.en, c.lv, c.fi], 0, rfl, SqL.of hp2, Nat.le_of_ble_eq_true rfl, s2, fun g2 => ?_, fun n1 => AtOut.same (qe fun ok => n1 ok.b) (sm1.trans sm2)⟩
    walk_at "my rn"
    refine ⟨c.fh, c.fm, rfl, (s1 _ (by simp)).1, (s1 _ (by simp)).2, fun g3 => ?_, fun n1 => AtOut.same (qe fun ok => n1 ok.f) (sm1.trans sm2)⟩
    walk_at "my rn"
    refine ⟨c.lh, c.lm, rfl, (s1 _ (by simp)).1, (s1 _ (by simp)).2, fun g4 => ?_, fun n1 => AtOut.same (qe fun ok => n1 ok.l) (sm1.trans sm2)⟩
    have ho2 := ne1 (sm1.trans sm2)
    refine flds_ok (o := o) (dx := dx) T.cl_Costs rfl [(1, "fetch_hit"), (2, "fetch_miss"), (3, "plain"), (4, "mul"), (5, "div"), (6, "load_hit"), (7, "load_miss"), (8, "store"), (9, "taken"), (10, "count"), (11, "port"), (12, "release"), (13, "switch"), (14, "enter"), (15, "leave"), (16, "finish")] [] H2 (by decide) (List.cons_ne_nil _ _) ?_ ?_ ho2 ?_
    · simp only [List.forall_mem_cons]
      exact ⟨T.n_Costs_fetch_hit, T.n_Costs_fetch_miss, T.n_Costs_plain, T.n_Costs_mul, T.n_Costs_div, T.n_Costs_load_hit, T.n_Costs_load_miss, T.n_Costs_store, T.n_Costs_taken, T.n_Costs_count, T.n_Costs_port, T.n_Costs_release, T.n_Costs_switch, T.n_Costs_enter, T.n_Costs_leave, T.n_Costs_finish, fun _ h => nomatch h⟩
    · simp only [List.forall_mem_cons]
      exact ⟨⟨_, rfl⟩, ⟨_, rfl⟩, ⟨_, rfl⟩, ⟨_, rfl⟩, ⟨_, rfl⟩, ⟨_, rfl⟩, ⟨_, rfl⟩, ⟨_, rfl⟩, ⟨_, rfl⟩, ⟨_, rfl⟩, ⟨_, rfl⟩, ⟨_, rfl⟩, ⟨_, rfl⟩, ⟨_, rfl⟩, ⟨_, rfl⟩, ⟨_, rfl⟩, fun _ h => nomatch h⟩
    · intro H3 h1 h2
      exact q ⟨g1, g2, g3, g4⟩ H3 h1 fun b x nb e => h2 b x nb ((sm1.trans sm2) b x e)
end

end Mine


set_option Elab.async false
set_option linter.all false
set_option maxRecDepth 100000
set_option maxHeartbeats 400000


--@@guards
namespace Mine
open PySem PySem.Spec PyProof.Rows L2 Rd
local macro_rules | `(tactic| walk_at "my rn") => `(tactic| (repeat (first | ((with_reducible apply Rd.vv); exact rfl) | with_reducible refine Rd.c_ ?_ | with_reducible refine Rd.cons ?_ | with_reducible refine Rd.nil ?_ | with_reducible refine Rd.seq ?_ | with_reducible refine Rd.asg ?_ | ((with_reducible refine Rd.gdN ?_); (first | with_reducible refine Rd.n0 ?_ | with_reducible refine Rd.n1 ?_ | with_reducible refine Rd.n2 ?_ | with_reducible refine Rd.n3 ?_ | with_reducible refine Rd.n4 ?_ | with_reducible refine Rd.n5 ?_ | with_reducible refine Rd.n6 ?_ | with_reducible refine Rd.n7 ?_ | with_reducible refine Rd.n8 ?_ | with_reducible refine Rd.n9 ?_ | with_reducible refine Rd.n10 ?_ | with_reducible refine Rd.n11 ?_ | with_reducible refine Rd.n12 ?_ | with_reducible refine Rd.n13 ?_ | with_reducible refine Rd.n14 ?_ | with_reducible refine Rd.n15 ?_ | with_reducible refine Rd.n16 ?_ | with_reducible refine Rd.n17 ?_ | with_reducible refine Rd.n18 ?_ | with_reducible refine Rd.n19 ?_ | with_reducible refine Rd.n20 ?_ | with_reducible refine Rd.n21 ?_ | with_reducible refine Rd.n22 ?_ | with_reducible refine Rd.n23 ?_ | with_reducible refine Rd.n24 ?_ | with_reducible refine Rd.n25 ?_ | with_reducible refine Rd.n26 ?_ | with_reducible refine Rd.n27 ?_)) | with_reducible refine Rd.test ?_ | with_reducible refine Rd.tb_ ?_ | with_reducible refine Rd.op ?_ | with_reducible refine Rd.I0 ?_ | with_reducible refine Rd.bl ?_ | with_reducible refine Rd.bl2 ?_ | with_reducible refine Rd.ifs ?_ | with_reducible refine Rd.and_ ?_ | with_reducible refine Rd.or_ ?_ | with_reducible refine Rd.not_ ?_ | with_reducible refine Rd.drop ?_ | with_reducible refine Rd.ret ?_ | with_reducible refine Rd.next ?_ | with_reducible refine Rd.callS ?_ | with_reducible refine Rd.mkS ?_ | with_reducible refine Rd.mkKS ?_ | with_reducible refine Rd.mkK ?_ | with_reducible refine Rd.callN ?_ | with_reducible refine Rd.catQI ?_ | with_reducible refine Rd.revN ?_ | with_reducible refine Rd.lzip ?_ | with_reducible refine Rd.fld ?_ | with_reducible refine Rd.sfld ?_ | with_reducible refine Rd.meth ?_ | with_reducible refine Rd.make ?_ | with_reducible refine Rd.izip ?_ | with_reducible refine Rd.dnew ?_ | with_reducible refine Rd.din ?_ | with_reducible refine Rd.dnot ?_ | with_reducible refine Rd.dget ?_ | with_reducible refine Rd.dget2 ?_ | with_reducible refine Rd.dput ?_ | with_reducible refine Rd.cbDictOf ?_ | with_reducible refine Rd.iitems ?_ | with_reducible refine Rd.ikeys ?_ | with_reducible refine Rd.dc ?_ | with_reducible refine Rd.nwD ?_ | with_reducible refine Rd.tupN ?_ | with_reducible refine Rd.lstN ?_ | with_reducible refine Rd.cbListOf ?_ | with_reducible refine Rd.cbListOfR ?_ | with_reducible refine Rd.catI ?_ | with_reducible refine Rd.slN ?_ | with_reducible refine Rd.cbSrtI ?_ | with_reducible refine Rd.brk ?_ | with_reducible refine Rd.cont ?_ | with_reducible refine Rd.retN ?_ | with_reducible refine Rd.ife ?_ | with_reducible refine Rd.andV ?_ | with_reducible refine Rd.orV ?_ | with_reducible refine Rd.notV ?_ | with_reducible refine Rd.un ?_ | with_reducible refine Rd.U ?_ | with_reducible refine Rd.ip ?_ | with_reducible refine Rd.call ?_ | with_reducible refine Rd.cb ?_ | with_reducible refine Rd.bm ?_ | with_reducible refine Rd.bm0 ?_ | with_reducible refine Rd.nopart ?_ | with_reducible refine Rd.part ?_ | with_reducible refine Rd.int1 ?_ | with_reducible refine Rd.ints1 ?_ | with_reducible refine Rd.ints2 ?_ | with_reducible refine Rd.gcons ?_ | with_reducible refine Rd.gnil ?_ | with_reducible refine Rd.sub ?_ | with_reducible refine Rd.isN ?_ | with_reducible refine Rd.chain ?_ | with_reducible refine Rd.rf ?_ | with_reducible refine Rd.tyS ?_ | with_reducible refine Rd.intI ?_ | with_reducible refine Rd.lc ?_ | with_reducible refine Rd.for_ ?_ | with_reducible refine Rd.ilist ?_ | with_reducible refine Rd.itup ?_ | with_reducible refine Rd.irng1 ?_ | with_reducible refine Rd.irng2 ?_ | with_reducible refine Rd.ienum ?_ | with_reducible refine Rd.istr ?_ | with_reducible refine Rd.refA ?_ | with_reducible refine Rd.strA ?_ | with_reducible refine Rd.yes ?_ | with_reducible refine Rd.ifT ?_ | with_reducible refine Rd.ifF ?_ | with_reducible refine Rd.ifnT ?_ | with_reducible refine Rd.ifnF ?_ | with_reducible refine Rd.sl ?_ | ((with_reducible apply Rd.glst); (first | assumption | exact upd_same); exact rfl) | ((with_reducible apply Rd.gtP); assumption; assumption) | ((with_reducible apply Rd.revq); first | assumption | exact SqL.of (by assumption)) | ((with_reducible apply Rd.fldI); (first | assumption | exact upd_same); assumption; assumption; (first | assumption | with_unfolding_all rfl)) | ((with_reducible apply Rd.methI); (first | assumption | exact upd_same); (first | assumption | with_unfolding_all rfl)) | ((with_reducible apply Rd.sfldI); (first | assumption | exact upd_same); assumption; assumption; exact Nat.le_of_ble_eq_true rfl) | ((with_reducible apply Rd.maxL); assumption) | ((with_reducible apply Rd.anyL); assumption) | ((with_reducible apply Rd.sumL); assumption) | ((with_reducible refine Rd.izI (by assumption) (by assumption) ?_)) | with_reducible refine Rd.mch ?_ | with_reducible refine Rd.mchI ?_ | with_reducible refine Rd.mchRest ?_ | with_reducible refine Rd.mtq ?_ | with_reducible refine Rd.mtRest ?_ | with_reducible refine Rd.mtEnd ?_ | with_reducible refine Rd.tbC ?_ | with_reducible refine Rd.tbT ?_ | with_reducible refine Rd.tbA ?_ | with_reducible refine Rd.tbN ?_ | with_reducible refine Rd.mto ?_ | with_reducible refine Rd.mtoI ?_ | with_reducible refine Rd.moRest ?_ | with_reducible refine Rd.moEnd ?_ | ((with_reducible apply Rd.mtqI); (first | assumption | exact SqT.of upd_same | exact SqT.of (by assumption)); exact Nat.le_of_ble_eq_true rfl) | ((with_reducible refine Rd.mtLen ?_ ?_); exact rfl) | ((with_reducible refine Rd.mtYes ?_ ?_); exact rfl) | ((with_reducible refine Rd.mtNo ?_ ?_); (first | assumption | decide +kernel)) | ((with_reducible refine Rd.mtOY ?_ ?_); exact rfl) | ((with_reducible refine Rd.mtON ?_ ?_); exact rfl) | ((with_reducible refine Rd.eq ?_ ?_); exact rfl) | ((with_reducible refine Rd.ne ?_ ?_); exact rfl) | ((with_reducible refine Rd.szA ?_ ?_); exact Nat.le_of_ble_eq_true rfl) | ((with_reducible refine Rd.I ?_ ?_); first | assumption | decide | exact Or.inr (by decide +kernel) | exact Or.inl (by decide +kernel) | exact ⟨by decide, by decide⟩ | exact ⟨by decide, by decide, by decide⟩ | omega | exact ⟨by omega, by omega⟩) | ((with_reducible apply Rd.tyL); first | assumption | exact upd_same) | ((with_reducible apply Rd.tyLq); assumption) | ((with_reducible apply Rd.ixL); (first | assumption | exact upd_same); exact rfl) | ((with_reducible apply Rd.ixT); (first | assumption | exact upd_same); exact rfl) | ((with_reducible apply Rd.ixLq); assumption; exact rfl) | ((with_reducible apply Rd.ixTq); assumption; exact rfl) | ((with_reducible apply Rd.gtup); (first | assumption | exact upd_same); exact rfl) | ((with_reducible apply Rd.gtupq); assumption; exact rfl) | ((with_reducible apply Rd.sqAq); assumption) | ((with_reducible apply Rd.stAq); assumption) | ((with_reducible apply Rd.enAq); assumption) | ((with_reducible apply Rd.lenLq); assumption) | ((with_reducible apply Rd.lenTq); assumption) | ((with_reducible apply Rd.sqA); first | assumption | exact upd_same) | ((with_reducible apply Rd.stA); first | assumption | exact upd_same) | ((with_reducible apply Rd.enA); first | assumption | exact upd_same) | ((with_reducible apply Rd.lenL); first | assumption | exact upd_same) | ((with_reducible apply Rd.lenT); first | assumption | exact upd_same) | ((with_reducible refine Rd.nwT ?_ ?_); exact Nat.le_of_ble_eq_true rfl) | ((with_reducible refine Rd.nwL ?_ ?_); exact Nat.le_of_ble_eq_true rfl) | ((with_reducible apply Rd.isd); assumption) | ((with_reducible apply Rd.dictOf); assumption) | ((with_reducible apply Rd.itA); first | assumption | exact upd_same) | ((with_reducible apply Rd.ikA); first | assumption | exact upd_same) | ((with_reducible apply Rd.listOf); assumption) | ((with_reducible apply Rd.listOfq); assumption) | ((with_reducible apply Rd.slo); assumption) | ((with_reducible apply Rd.slq); assumption) | ((with_reducible apply Rd.srtI); assumption) | ((with_reducible apply Rd.srtIo); assumption) | ((with_reducible refine Rd.gdI ?_); (first | with_reducible refine Rd.isi_ii ?_ | with_reducible refine Rd.isi_ib ?_ | with_reducible refine Rd.isi_is ?_ | with_reducible refine Rd.isi_il ?_ | with_reducible refine Rd.isi_it ?_ | with_reducible refine Rd.isi_id ?_ | with_reducible refine Rd.isi_bi ?_ | with_reducible refine Rd.isi_bb ?_ | with_reducible refine Rd.isi_bs ?_ | with_reducible refine Rd.isi_bl ?_ | with_reducible refine Rd.isi_bt ?_ | with_reducible refine Rd.isi_bd ?_ | with_reducible refine Rd.isi_si ?_ | with_reducible refine Rd.isi_sb ?_ | with_reducible refine Rd.isi_ss ?_ | with_reducible refine Rd.isi_sl ?_ | with_reducible refine Rd.isi_st ?_ | with_reducible refine Rd.isi_sd ?_ | with_reducible refine Rd.isi_ni ?_ | with_reducible refine Rd.isi_nb ?_ | with_reducible refine Rd.isi_ns ?_ | with_reducible refine Rd.isi_nl ?_ | with_reducible refine Rd.isi_nt ?_ | with_reducible refine Rd.isi_nd ?_ | ((with_reducible refine Rd.isi_dd (by assumption) ?_)) | ((with_reducible refine Rd.isi_li (by assumption) ?_)) | ((with_reducible refine Rd.isi_lb (by assumption) ?_)) | ((with_reducible refine Rd.isi_ls (by assumption) ?_)) | ((with_reducible refine Rd.isi_ll (by assumption) ?_)) | ((with_reducible refine Rd.isi_lt (by assumption) ?_)) | ((with_reducible refine Rd.isi_ld (by assumption) ?_)) | ((with_reducible refine Rd.isi_ti (by assumption) ?_)) | ((with_reducible refine Rd.isi_tb (by assumption) ?_)) | ((with_reducible refine Rd.isi_ts (by assumption) ?_)) | ((with_reducible refine Rd.isi_tl (by assumption) ?_)) | ((with_reducible refine Rd.isi_tt (by assumption) ?_)) | ((with_reducible refine Rd.isi_td (by assumption) ?_)))) | ((with_reducible refine Rd.gdG ?_); (first | with_reducible refine Rd.g0 ?_ | with_reducible refine Rd.g1 ?_ | with_reducible refine Rd.g2 ?_ | with_reducible refine Rd.g3 ?_ | with_reducible refine Rd.g4 ?_ | with_reducible refine Rd.g5 ?_ | with_reducible refine Rd.g6 ?_ | with_reducible refine Rd.g7 ?_ | with_reducible refine Rd.g8 ?_ | with_reducible refine Rd.g9 ?_ | with_reducible refine Rd.g10 ?_ | with_reducible refine Rd.g11 ?_ | with_reducible refine Rd.g12 ?_ | with_reducible refine Rd.g13 ?_ | with_reducible refine Rd.g14 ?_ | with_reducible refine Rd.g15 ?_ | with_reducible refine Rd.g16 ?_ | with_reducible refine Rd.g17 ?_ | with_reducible refine Rd.g18 ?_ | with_reducible refine Rd.g19 ?_ | with_reducible refine Rd.g20 ?_ | with_reducible refine Rd.g21 ?_ | with_reducible refine Rd.g22 ?_ | with_reducible refine Rd.g23 ?_ | with_reducible refine Rd.g24 ?_ | with_reducible refine Rd.g25 ?_ | with_reducible refine Rd.g26 ?_ | with_reducible refine Rd.g27 ?_)))))







/-! ### what an instruction costs -/
def calcCost (c : Cost) (op : Str) : Int := if op = "mul" then c.mu else if op = "div" ∨ op = "mod" then c.dv else c.pl
def exCost (c : Cost) (nm op : Str) (lh : Bool) : Int :=
  if nm ∈ (["load", "loadx"] : List Str) then (if lh = true then c.lh else c.lm) else if nm ∈ (["store", "storex"] : List Str) then c.st else if nm ∈ (["calc"] : List Str) then calcCost c op
  else if nm ∈ (["count", "again"] : List Str) then c.ct else if nm ∈ (["in", "out"] : List Str) then c.po else c.pl
def iCost (c : Cost) (nm op : Str) (fh lh tk : Bool) : Int := (if fh = true then c.fh else c.fm) + exCost c nm op lh + (if nm ∈ (["jump", "link", "back"] : List Str) ∨ (tk = true ∧ nm ∈ (["jzero", "again"] : List Str)) then c.tk else 0)
/-- an instruction: its name first; a calc has its operation behind -/
structure InsAt (K : PySem.W.Frag) (H : Hp) (t : Addr) (nm op : Str) : Prop where
  ex : ∃ xs, SqT K H t xs ∧ xs[0]? = some (.str nm) ∧ (nm = "calc" → xs[1]? = some (.str op))
theorem InsAt.same {K : PySem.W.Frag} {H H' : Hp} {t : Addr} {nm op : Str} (h : InsAt K H t nm op) (s : Same H H') : InsAt K H' t nm op := by
  obtain ⟨xs, h, e⟩ := h.ex
  exact ⟨xs, s.seqT h, e⟩
section
variable {P : Program} {w : World} {K : PySem.W.Frag} {mg : Str → Option Value} {base : Heap}
theorem Cost.look {c : Cost} : c.fs.lookup ("fetch_hit" : Str) = some (.int c.fh) ∧ c.fs.lookup ("fetch_miss" : Str) = some (.int c.fm) ∧ c.fs.lookup ("plain" : Str) = some (.int c.pl) ∧ c.fs.lookup ("mul" : Str) = some (.int c.mu) ∧ c.fs.lookup ("div" : Str) = some (.int c.dv) ∧
  c.fs.lookup ("load_hit" : Str) = some (.int c.lh) ∧ c.fs.lookup ("load_miss" : Str) = some (.int c.lm) ∧ c.fs.lookup ("store" : Str) = some (.int c.st) ∧ c.fs.lookup ("taken" : Str) = some (.int c.tk) ∧ c.fs.lookup ("count" : Str) = some (.int c.ct) ∧ c.fs.lookup ("port" : Str) = some (.int c.po) := by
  refine ⟨?_, ?_, ?_, ?_, ?_, ?_, ?_, ?_, ?_, ?_, ?_⟩ <;> with_unfolding_all rfl
theorem Cost.look2 {c : Cost} : c.fs.lookup ("release" : Str) = some (.int c.rl) ∧ c.fs.lookup ("switch" : Str) = some (.int c.sw) ∧ c.fs.lookup ("enter" : Str) = some (.int c.en) ∧ c.fs.lookup ("leave" : Str) = some (.int c.lv) ∧ c.fs.lookup ("finish" : Str) = some (.int c.fi) := by
  refine ⟨?_, ?_, ?_, ?_, ?_⟩ <;> with_unfolding_all rfl
def sp__calculation_cost (C : Addr) : Sp := fun vs H Q _ => ∃ (o : Addr) (c : Cost) (op : Str), vs = [.ref o, .str op] ∧ CostsAt C H o c ∧ Q (.int (calcCost c op)) H
theorem ok__calculation_cost (T : Top P K mg) : FnOk P w K mg base CX0 1 T.a__calculation_cost T.d__calculation_cost ["costs", "operation"]  (sp__calculation_cost T.C_Costs) := by
  refine T.F__calculation_cost.ok sc__calculation_cost (fun vs H Q E h => ?_) (fun cdv A outer s H vs Q E hr h => ?_)
  · obtain ⟨_, _, _, rfl, _⟩ := h
    rfl
  · obtain ⟨o, c, op, rfl, ⟨dx, ho⟩, q⟩ := h
    refine ⟨_, (pss_cons (ps_if (pt_cmpR op_eq (pv 1) pe_str (nomark _))
  (pss_one (ps_ret (pe_fld (pv 0) rfl)))
  pss_nil)
  (pss_cons (ps_if (pw_or (pt_cmpR op_eq (pv 1) pe_str (nomark _)) (pw_or1 (pt_cmpR op_eq (pv 1) pe_str (nomark _)))).pt
  (pss_one (ps_ret (pe_fld (pv 0) rfl)))
  pss_nil)
  (pss_one (ps_ret (pe_fld (pv 0) rfl))))), ?_⟩
    rw [show ∀ a0 a1 : V, L2.start ["costs", "operation"] [a0, a1] = [some a0, some a1] from fun _ _ => rfl]
    obtain ⟨l1, l2, l3, l4, l5, l6, l7, l8, l9, l10, l11⟩ := @Cost.look c
    have cl := T.cl_Costs
    have n0 := T.n_Costs_mul
    have n1 := T.n_Costs_div
    have n2 := T.n_Costs_plain
    unfold calcCost at q
    walk_at "my rn"
    refine Rd.ifD (fun h1 => ?_) fun h1 => ?_
    · rw [if_pos (V.str.inj h1)] at q
      walk_at "my rn"
      exact q
    · rw [if_neg (fun z => h1 (by rw [z]))] at q
      walk_at "my rn"
      refine Rd.ifD (fun h2 => ?_) fun h2 => ?_
      · rw [if_pos (.inl (V.str.inj h2))] at q
        walk_at "my rn"
        exact q
      · walk_at "my rn"
        refine Rd.ifD (fun h3 => ?_) fun h3 => ?_
        · rw [if_pos (.inr (V.str.inj h3))] at q
          walk_at "my rn"
          exact q
        · rw [if_neg (fun z => z.elim (fun z => h2 (by rw [z])) fun z => h3 (by rw [z]))] at q
          walk_at "my rn"
          exact q
def sp__execution_cost (K : PySem.W.Frag) (C : Addr) : Sp := fun vs H Q _ => ∃ (o t : Addr) (c : Cost) (nm op : Str) (lh : Bool), vs = [.ref o, .ref t, .bl lh] ∧ CostsAt C H o c ∧ InsAt K H t nm op ∧ Q (.int (exCost c nm op lh)) H
theorem ok__execution_cost (T : Top P K mg) : FnOk P w K mg base CX0 2 T.a__execution_cost T.d__execution_cost ["costs", "instruction", "load_hit"]  (sp__execution_cost K T.C_Costs) := by
  refine T.F__execution_cost.ok sc__execution_cost (fun vs H Q E h => ?_) (fun cdv A outer s H vs Q E hr h => ?_)
  · obtain ⟨_, _, _, _, _, _, rfl, _⟩ := h
    rfl
  · obtain ⟨o, t, c, nm, op, lh, rfl, ⟨dx, ho⟩, ⟨xs, ht, h0, h1⟩, q⟩ := h
    refine ⟨_, (pss_one (ps_matchO (pe_ix ix_tup (pv 1) pe_int (fun _ _ => rfl))
  (PCo.ors (PVs.cons (PVs.cons PVs.nil)) (pss_one (ps_ret (pe_ifExp (pt_val (pv 2)) (pe_fld (pv 0) rfl) (pe_fld (pv 0) rfl))))
  (PCo.ors (PVs.cons (PVs.cons PVs.nil)) (pss_one (ps_ret (pe_fld (pv 0) rfl)))
  (PCo.text (pss_one (ps_ret (pe_call (ok__calculation_cost T) (hr.mono (by decide)) (by rfl) T.g__calculation_cost T.F__calculation_cost.kp T.b__calculation_cost .nil pass0 (pa_cons (pv 0) (pa_cons (pe_ix ix_tup (pv 1) pe_int (fun _ _ => rfl)) pa_nil)))))
  (PCo.ors (PVs.cons (PVs.cons PVs.nil)) (pss_one (ps_ret (pe_fld (pv 0) rfl)))
  (PCo.ors (PVs.cons (PVs.cons PVs.nil)) (pss_one (ps_ret (pe_fld (pv 0) rfl)))
  (PCo.rest (pss_one (ps_ret (pe_fld (pv 0) rfl))))))))))), ?_⟩
    rw [show ∀ a0 a1 a2 : V, L2.start ["costs", "instruction", "load_hit"] [a0, a1, a2] = [some a0, some a1, some a2] from fun _ _ _ => rfl]
    obtain ⟨l1, l2, l3, l4, l5, l6, l7, l8, l9, l10, l11⟩ := @Cost.look c
    have cl := T.cl_Costs
    unfold exCost at q
    walk_at "my rn"
    refine Rd.ixTq ht (Rd.at_val (j := 0) rfl h0) ?_
    walk_at "my rn"
    have n0 := T.n_Costs_load_hit
    have n1 := T.n_Costs_load_miss
    have n2 := T.n_Costs_store
    have n3 := T.n_Costs_count
    have n4 := T.n_Costs_port
    have n5 := T.n_Costs_plain
    by_cases e : nm ∈ (["load", "loadx"] : List Str)
    · rw [if_pos e] at q
      refine Rd.moY e ?_
      walk_at "my rn"
      refine Rd.ifB (fun h => ?_) fun h => ?_
      · rw [if_pos h] at q
        walk_at "my rn"
        exact q
      · rw [if_neg (by rw [h]; simp)] at q
        walk_at "my rn"
        exact q
    · rw [if_neg e] at q
      refine Rd.moN e ?_
      by_cases e : nm ∈ (["store", "storex"] : List Str)
      · rw [if_pos e] at q
        refine Rd.moY e ?_
        walk_at "my rn"
        exact q
      · rw [if_neg e] at q
        refine Rd.moN e ?_
        by_cases e : nm ∈ (["calc"] : List Str)
        · rw [if_pos e] at q
          refine Rd.moY e ?_
          walk_at "my rn"
          refine Rd.ixTq ht (Rd.at_val (j := 1) rfl (h1 (List.mem_singleton.mp e))) ?_
          walk_at "my rn"
          exact ⟨o, c, op, rfl, ⟨dx, ho⟩, q⟩
        · rw [if_neg e] at q
          refine Rd.moN e ?_
          by_cases e : nm ∈ (["count", "again"] : List Str)
          · rw [if_pos e] at q
            refine Rd.moY e ?_
            walk_at "my rn"
            exact q
          · rw [if_neg e] at q
            refine Rd.moN e ?_
            by_cases e : nm ∈ (["in", "out"] : List Str)
            · rw [if_pos e] at q
              refine Rd.moY e ?_
              walk_at "my rn"
              exact q
            · rw [if_neg e] at q
              refine Rd.moN e ?_
              walk_at "my rn"
              exact q
def sp_instruction_cost (K : PySem.W.Frag) (C : Addr) : Sp := fun vs H Q _ => ∃ (o t : Addr) (c : Cost) (nm op : Str) (fh lh tk : Bool), vs = [.ref o, .ref t, .bl fh, .bl lh, .bl tk] ∧ CostsAt C H o c ∧ InsAt K H t nm op ∧ Q (.int (iCost c nm op fh lh tk)) H
theorem ok_instruction_cost (T : Top P K mg) : FnOk P w K mg base CX0 3 T.a_instruction_cost T.d_instruction_cost ["costs", "instruction", "fetch_hit", "load_hit", "taken"]  (sp_instruction_cost K T.C_Costs) := by
  refine T.F_instruction_cost.ok sc_instruction_cost (fun vs H Q E h => ?_) (fun cdv A outer s H vs Q E hr h => ?_)
  · obtain ⟨_, _, _, _, _, _, _, _, rfl, _⟩ := h
    rfl
  · obtain ⟨o, t, c, nm, op, fh, lh, tk, rfl, hc, hi, q⟩ := h
    obtain ⟨dx, ho⟩ := id hc
    obtain ⟨xs, ht, h0, h1⟩ := id hi
    refine ⟨_, (pss_cons (ps_set (i := 5) sc_instruction_cost.nd rfl (by first | exact Or.inl rfl | exact Or.inr rfl) (pe_ifExp (pt_val (pv 2)) (pe_fld (pv 0) rfl) (pe_fld (pv 0) rfl)))
  (pss_cons (ps_aug (i := 5) sc_instruction_cost.nd rfl (by first | exact Or.inl rfl | exact Or.inr rfl) (pe_call (ok__execution_cost T) (hr.mono (by decide)) (by rfl) T.g__execution_cost T.F__execution_cost.kp T.b__execution_cost .nil pass0 (pa_cons (pv 0) (pa_cons (pv 1) (pa_cons (pv 3) pa_nil)))) ip_add)
  (pss_cons (ps_if (pw_or (pt_cmpR op_in_seq (pe_ix ix_tup (pv 1) pe_int (fun _ _ => rfl)) (pe_gr (by rfl) T.c_ALWAYS_TAKEN) (by with_unfolding_all rfl)) (pw_or1 (pw_and (pt_val (pv 4)) (pw_and1 (pt_cmpR op_in_seq (pe_ix ix_tup (pv 1) pe_int (fun _ _ => rfl)) (pe_gr (by rfl) T.c_TAKEN_AT_TIMES) (by with_unfolding_all rfl)))).pt)).pt
  (pss_one (ps_aug (i := 5) sc_instruction_cost.nd rfl (by first | exact Or.inl rfl | exact Or.inr rfl) (pe_fld (pv 0) rfl) ip_add))
  pss_nil)
  (pss_one (ps_ret (pv 5)))))), ?_⟩
    rw [show ∀ a0 a1 a2 a3 a4 : V, L2.start ["costs", "instruction", "fetch_hit", "load_hit", "taken", "cost"] [a0, a1, a2, a3, a4] = [some a0, some a1, some a2, some a3, some a4, none] from fun _ _ _ _ _ => rfl]
    obtain ⟨l1, l2, l3, l4, l5, l6, l7, l8, l9, l10, l11⟩ := @Cost.look c
    have cl := T.cl_Costs
    have n0 := T.n_Costs_fetch_hit
    have n1 := T.n_Costs_fetch_miss
    have n2 := T.n_Costs_taken
    have n0 := T.n_Costs_fetch_hit
    have n1 := T.n_Costs_fetch_miss
    have n2 := T.n_Costs_taken
    unfold iCost at q
    have end_ : ∀ (f : Int), (if fh = true then c.fh else c.fm) = f → (∀ z, z = (if nm ∈ (["jump", "link", "back"] : List Str) ∨ (tk = true ∧ nm ∈ (["jzero", "again"] : List Str)) then c.tk else 0) → Q (.int (f + exCost c nm op lh + z)) H) := fun f e z ez => by
      rw [e] at q
      rw [ez]; exact q
    have b1 := Rd.at_val (j := 0) (xs := xs) rfl h0
    cases fh
    all_goals
      walk_at "my rn"
      refine ⟨o, t, c, nm, op, lh, rfl, hc, hi, ?_⟩
      walk_at "my rn"
      refine Rd.ixTq ht b1 ?_
      walk_at "my rn"
      refine Rd.inStrT ["jump", "link", "back"] (T.q_ALWAYS_TAKEN _) ?_
      walk_at "my rn"
      refine Rd.ifD (fun h2 => ?_) fun h2 => ?_
      · walk_at "my rn"
        exact end_ _ (by simp) _ (by rw [if_pos (.inl h2)])
      · walk_at "my rn"
        refine Rd.ifB (fun h3 => ?_) fun h3 => ?_
        · walk_at "my rn"
          refine Rd.ixTq ht b1 ?_
          walk_at "my rn"
          refine Rd.inStrT ["jzero", "again"] (T.q_TAKEN_AT_TIMES _) ?_
          walk_at "my rn"
          refine Rd.ifD (fun h4 => ?_) fun h4 => ?_
          · walk_at "my rn"
            exact end_ _ (by simp) _ (by rw [if_pos (.inr ⟨h3, h4⟩)])
          · walk_at "my rn"
            have := end_ _ rfl 0 (by rw [if_neg (fun z => z.elim h2 fun z => h4 z.2)])
            rw [Int.add_zero] at this
            exact this
        · walk_at "my rn"
          have := end_ _ rfl 0 (by rw [if_neg (fun z => z.elim h2 fun z => by rw [h3] at z; cases z.1)])
          rw [Int.add_zero] at this
          exact this
end

/-! ### one instruction in the analysis -/
/-- what the analysis reads of an instruction -/
structure InsR where
  nm : Str
  op : Str
  a : Int
  n : Int
  q : Int
structure InsX (K : PySem.W.Frag) (H : Hp) (t : Addr) (i : InsR) : Prop where
  ex : ∃ xs, SqT K H t xs ∧ xs[0]? = some (.str i.nm) ∧ (i.nm = "calc" → xs[1]? = some (.str i.op)) ∧ (i.nm ∈ (["load", "store"] : List Str) → xs[2]? = some (.int i.a)) ∧
    (i.nm ∈ (["loadx", "storex"] : List Str) → ∃ u v w, xs = [u, v, w, .int i.a, .int i.n]) ∧ (i.nm ∈ (["jump", "link"] : List Str) → xs[1]? = some (.int i.q)) ∧ (i.nm ∈ (["jzero", "again"] : List Str) → xs[2]? = some (.int i.q))
structure InsR.Ok (i : InsR) : Prop where
  a0 : 0 ≤ i.a
  a1 : i.a ≤ 16384
  n0 : 1 ≤ i.n
  n1 : i.n ≤ 64
theorem InsX.same {K : PySem.W.Frag} {H H' : Hp} {t : Addr} {i : InsR} (h : InsX K H t i) (s : Same H H') : InsX K H' t i := by
  obtain ⟨xs, h, e⟩ := h.ex
  exact ⟨xs, s.seqT h, e⟩
theorem InsX.at {K : PySem.W.Frag} {H : Hp} {t : Addr} {i : InsR} (h : InsX K H t i) : InsAt K H t i.nm i.op := by
  obtain ⟨xs, h, e0, e1, _⟩ := h.ex
  exact ⟨xs, h, e0, e1⟩
def rgI (a b : Int) : List Int := (List.range (b - a).toNat).map fun i => a + (i : Nat)
theorem rgV_rgI (a b : Int) : rgV a b = (rgI a b).map V.int := by
  unfold rgV rgI
  rw [List.map_map]
  rfl
def dLines (L : Int) (i : InsR) : List Int :=
  if i.nm ∈ (["load", "store"] : List Str) then [i.a / L] else if i.nm ∈ (["loadx", "storex"] : List Str) then rgI (i.a / L) ((i.a + i.n - 1) / L + 1) else []
theorem dLines_len {L : Int} {i : InsR} (h : i.Ok) (hL : 1 ≤ L) : (dLines L i).length ≤ 70 := by
  unfold dLines
  split
  · exact Nat.le_of_ble_eq_true rfl
  · split
    · unfold rgI
      rw [List.length_map, List.length_range]
      have h1 : (i.a + i.n - 1) / L ≤ i.a / L + 64 := by
        have := h.n1
        have e : i.a + i.n - 1 ≤ i.a + 64 * L := by
          have : 64 * 1 ≤ 64 * L := by omega
          omega
        have := Int.ediv_le_ediv (by omega : 0 < L) e
        rw [Int.add_mul_ediv_right _ _ (by omega)] at this
        exact this
      omega
    · exact Nat.zero_le _
def dAfter (S W L : Int) (i : InsR) (m : List (Int × Int)) : List (Int × Int) :=
  if dLines L i = [] then m else if i.nm ∈ (["store", "storex"] : List Str) ∧ (lkN m ((dLines L i).headD 0)).isSome = false then older S W W ((dLines L i).map (· % S)) m else useSome S W m (dLines L i)
def lHit (L : Int) (i : InsR) (m : List (Int × Int)) : Bool := if i.nm ∈ (["load", "loadx"] : List Str) then (dLines L i).all fun x => (lkN m x).isSome else true
def pCost (c : Cost) (i : InsR) (fh lh : Bool) (cal : Int) : Int := iCost c i.nm i.op fh lh false + (if i.nm = "link" then cal else if i.nm = "enter" then c.en else if i.nm = "leave" then c.lv else if i.nm = "done" then c.fi else 0)
section
variable {P : Program} {w : World} {K : PySem.W.Frag} {mg : Str → Option Value} {base : Heap}
theorem _root_.Rd.lstRg {te : L2.St → Hp → (Int → Int → Hp → Prop) → Prop} {σ : L2.St} {H : Hp} {Q : VK} (h : te σ H fun a b H1 => RgOk a b ∧ ∀ q, H1 q = none → Q (.ref q) (upd H1 q (.lst (rgV a b)))) : tLstRg te σ H Q := h
theorem _root_.Rd.rg2 {ta tb : TE} {σ : L2.St} {H : Hp} {Q : Int → Int → Hp → Prop} (h : ta σ H fun x H1 => tb σ H1 fun y H2 => ∃ i j, x = .int i ∧ y = .int j ∧ Q i j H2) : tRg2 ta tb σ H Q := h
theorem dnotN {H : Hp} {Q : VK} {a : Addr} {m : List (Int × Int)} {k : Int} (h : L2.Rd H a (DN m)) (q : Q (.bl (!(lkN m k).isSome)) H) : DnotG Q (.ref a) (.int k) H := dnotI h (by rw [lk_iv, Option.isSome_map]; exact q)
def sp_data_lines (K : PySem.W.Frag) : Sp := fun vs H Q _ => ∃ (t u : Addr) (S W L : Int) (i : InsR), vs = [.ref t, .ref u] ∧ ShapeAt K H t S W L ∧ 1 ≤ L ∧ L ≤ 16 ∧ InsX K H u i ∧ i.Ok ∧
  ∀ (p : Addr) H', H p = none → Same H H' → H' p = some (.lst ((dLines L i).map V.int)) → Q (.ref p) H'
theorem ok_data_lines (T : Top P K mg) : FnOk P w K mg base CX0 1 T.a_data_lines T.d_data_lines ["shape", "instruction"]  (sp_data_lines K) := by
  refine T.F_data_lines.ok sc_data_lines (fun vs H Q E h => ?_) (fun cdv A outer s H vs Q E hr h => ?_)
  · obtain ⟨_, _, _, _, _, _, rfl, _⟩ := h
    rfl
  · obtain ⟨t, u, S, W, L, i, rfl, hsh, l1, l2, ⟨xs, ht, h0, h1, h2, h3, h4, h5⟩, ok, q⟩ := h
    refine ⟨_, (pss_cons (ps_set (i := 2) sc_data_lines.nd rfl (by first | exact Or.inl rfl | exact Or.inr rfl) (pe_ix ix_tup (pv 0) pe_int (fun _ _ => rfl)))
  (pss_one (ps_matchO (pe_ix ix_tup (pv 1) pe_int (fun _ _ => rfl))
  (PCo.ors (PVs.cons (PVs.cons PVs.nil)) (pss_one (ps_ret (pe_lst (pa_cons (pe_op op_fdiv (pe_ix ix_tup (pv 1) pe_int (fun _ _ => rfl)) (pv 2)) pa_nil))))
  (PCo.ors (PVs.cons (PVs.cons PVs.nil)) (pss_cons (ps_asg (pv 1) (pg_tup rfl (pgs_cons (pg_name (i := 3) sc_data_lines.nd rfl (by first | exact Or.inl rfl | exact Or.inr rfl)) (pgs_cons (pg_name (i := 3) sc_data_lines.nd rfl (by first | exact Or.inl rfl | exact Or.inr rfl)) (pgs_cons (pg_name (i := 3) sc_data_lines.nd rfl (by first | exact Or.inl rfl | exact Or.inr rfl)) (pgs_cons (pg_name (i := 4) sc_data_lines.nd rfl (by first | exact Or.inl rfl | exact Or.inr rfl)) (pgs_cons (pg_name (i := 5) sc_data_lines.nd rfl (by first | exact Or.inl rfl | exact Or.inr rfl)) pgs_nil)))))))
  (pss_one (ps_ret (pe_listRg rfl (by rfl) T.m_list (prg_2 (by rfl) T.m_range (pe_op op_fdiv (pv 4) (pv 2)) (pe_op op_add (pe_op op_fdiv (pe_op op_sub (pe_op op_add (pv 4) (pv 5)) pe_int) (pv 2)) pe_int))))))
  (PCo.rest (pss_one (ps_ret (pe_lst pa_nil))))))))), ?_⟩
    rw [show ∀ a0 a1 : V, L2.start ["shape", "instruction", "size", "_", "address", "cells"] [a0, a1] = [some a0, some a1, none, none, none, none] from fun _ _ => rfl]
    have hsh' : SqT K H t [.int S, .int W, .int L] := hsh
    obtain ⟨a0, a1, n0, n1⟩ := ok
    walk_at "my rn"
    refine Rd.ixTq ht (Rd.at_val (j := 0) rfl h0) ?_
    walk_at "my rn"
    unfold dLines at q
    by_cases e : i.nm ∈ (["load", "store"] : List Str)
    · rw [if_pos e] at q
      refine Rd.moY e ?_
      walk_at "my rn"
      refine Rd.ixTq ht (Rd.at_val (j := 2) rfl (h2 e)) ?_
      walk_at "my rn"
      intro p H' np s hp
      exact q p H' np s hp
    · rw [if_neg e] at q
      refine Rd.moN e ?_
      by_cases e2 : i.nm ∈ (["loadx", "storex"] : List Str)
      · rw [if_pos e2] at q
        refine Rd.moY e2 ?_
        obtain ⟨u0, u1, u2, rfl⟩ := h3 e2
        walk_at "my rn"
        refine Rd.lstRg (Rd.rg2 ?_)
        walk_at "my rn"
        refine ⟨_, _, rfl, rfl, RgOk.of_le ?_ ?_ ?_ ?_, fun p np => ?_⟩
        · exact Int.ediv_nonneg a0 (by omega)
        · have := Int.ediv_le_self L (show 0 ≤ i.a + i.n - 1 by omega); omega
        · have := Int.ediv_le_self L a0; omega
        · have := Int.ediv_nonneg (show 0 ≤ i.a + i.n - 1 by omega) (show 0 ≤ L by omega); omega
        · exact q p _ np (same_new np) (by rw [upd_same, rgV_rgI])
      · rw [if_neg e2] at q
        refine Rd.moN e2 ?_
        walk_at "my rn"
        intro p H' np s hp
        exact q p H' np s hp
def sp__data_after (K : PySem.W.Frag) : Sp := fun vs H Q _ => ∃ (t u d : Addr) (S W L : Int) (i : InsR) (m : List (Int × Int)), vs = [.ref t, .ref u, .ref d] ∧ ShapeAt K H t S W L ∧ 0 < S ∧ 1 ≤ L ∧ L ≤ 16 ∧ InsX K H u i ∧ i.Ok ∧ H d = some (DN m) ∧ (m.map (·.1)).Nodup ∧ m.length ≤ 1000 ∧
  ∀ (p : Addr) H', H p = none → Same H H' → H' p = some (DN (dAfter S W L i m)) → Q (.ref p) H'
theorem ok__data_after (T : Top P K mg) : FnOk P w K mg base CX0 4 T.a__data_after T.d__data_after ["shape", "instruction", "known"]  (sp__data_after K) := by
  refine T.F__data_after.ok sc__data_after (fun vs H Q E h => ?_) (fun cdv A outer s H vs Q E hr h => ?_)
  · obtain ⟨_, _, _, _, _, _, _, _, rfl, _⟩ := h
    rfl
  · obtain ⟨t, u, d, S, W, L, i, m, rfl, hsh, hS, l1, l2, hi, ok, hd, nd, lm, q⟩ := h
    obtain ⟨xs, ht, h0, _⟩ := id hi.ex
    refine ⟨_, (pss_cons (ps_set (i := 3) sc__data_after.nd rfl (by first | exact Or.inl rfl | exact Or.inr rfl) (pe_call (ok_data_lines T) (hr.mono (by decide)) (by rfl) T.g_data_lines T.F_data_lines.kp T.b_data_lines .nil pass0 (pa_cons (pv 0) (pa_cons (pv 1) pa_nil))))
  (pss_cons (ps_if (pt_cmpR op_eq (pe_callB call_len_seq (by rfl) T.m_len PySem.boot_len (pa_cons (pv 3) pa_nil)) pe_int (nomark _))
  (pss_one (ps_ret (pe_callTy call_dictD (by rfl) T.m_dict (by decide +kernel) (pa_cons (pv 2) pa_nil))))
  pss_nil)
  (pss_cons (ps_if (pw_and (pt_cmpR op_in_seq (pe_ix ix_tup (pv 1) pe_int (fun _ _ => rfl)) (pe_gr (by rfl) T.c_STORES) (by with_unfolding_all rfl)) (pw_and1 (pt_cmp (pc_dnotin (hu_of hr) (pe_ix ix_list (pv 3) pe_int (fun _ _ => rfl)) (pv 2))))).pt
  (pss_one (ps_ret (pe_call (ok__older T) (hr.mono (by decide)) (by rfl) T.g__older T.F__older.kp T.b__older .nil pass0 (pa_cons (pv 0) (pa_cons (pv 2) (pa_cons (pv 3) (pa_cons (pe_ix ix_tup (pv 0) pe_int (fun _ _ => rfl)) pa_nil)))))))
  pss_nil)
  (pss_one (ps_ret (pe_call (ok_use_some T) (hr.mono (by decide)) (by rfl) T.g_use_some T.F_use_some.kp T.b_use_some .nil pass0 (pa_cons (pv 0) (pa_cons (pv 2) (pa_cons (pv 3) pa_nil))))))))), ?_⟩
    rw [show ∀ a0 a1 a2 : V, L2.start ["shape", "instruction", "known", "lines"] [a0, a1, a2] = [some a0, some a1, some a2, none] from fun _ _ _ => rfl]
    have hsh' : SqT K H t [.int S, .int W, .int L] := hsh
    walk_at "my rn"
    refine ⟨t, u, S, W, L, i, rfl, hsh, l1, l2, hi, ok, fun p H1 np s1 hp => ?_⟩
    have ln := dLines_len ok l1 (L := L)
    have hd1 := s1 _ _ hd
    have ht1 := s1.seqT ht
    have hsh1 : ShapeAt K H1 t S W L := s1.seqT hsh'
    have hsh2 : SqT K H1 t [.int S, .int W, .int L] := hsh1
    unfold dAfter at q
    walk_at "my rn"
    by_cases e : dLines L i = []
    · rw [if_pos e] at q
      rw [e]
      rw [decide_eq_true (by rfl)]
      refine Rd.ifT ?_
      walk_at "my rn"
      intro p2 H2 n2 s2 h2
      exact q p2 H2 (s1.free n2) (s1.trans s2) h2
    · rw [if_neg e] at q
      rw [decide_eq_false (fun z => e (by
        have z := V.int.inj z
        rw [List.length_map] at z
        exact List.eq_nil_of_length_eq_zero (by omega)))]
      refine Rd.ifF ?_
      walk_at "my rn"
      refine Rd.ixTq ht1 (Rd.at_val (j := 0) rfl h0) ?_
      walk_at "my rn"
      refine Rd.inStrT ["store", "storex"] (T.q_STORES _) ?_
      walk_at "my rn"
      obtain ⟨x, r, er⟩ : ∃ x r, dLines L i = x :: r := by
        cases z : dLines L i with
        | nil => exact absurd z e
        | cons x r => exact ⟨x, r, rfl⟩
      have h0l : atI ((dLines L i).map V.int) 0 = some (.int x) := Rd.at_int (j := 0) rfl (by rw [er]; rfl)
      have some_ : Q = Q → ∀ (p : Addr) (H' : Hp), H1 p = none → Same H1 H' → ¬ (i.nm ∈ (["store", "storex"] : List Str) ∧ (lkN m ((dLines L i).headD 0)).isSome = false) → H' p = some (DN (useSome S W m (dLines L i))) → Q (.ref p) H' := fun _ p H' np s c h => by
        refine q p H' (s1.free np) (s1.trans s) ?_
        rw [if_neg c]; exact h
      refine Rd.ifD (fun e1 => ?_) fun e1 => ?_
      · walk_at "my rn"
        refine Rd.ixL hp h0l ?_
        walk_at "my rn"
        refine dnotN (rd_of hd1) ?_
        walk_at "my rn"
        refine Rd.ifNB (fun e2 => ?_) fun e2 => ?_
        · walk_at "my rn"
          refine ⟨t, d, p, S, W, L, _, m, dLines L i, rfl, hsh1, hS, hd1, nd, lm, hp, by omega, fun p3 H3 n3 s3 h3 => ?_⟩
          refine q p3 H3 (s1.free n3) (s1.trans s3) ?_
          rw [if_pos ⟨e1, by rw [er]; exact e2⟩]
          exact h3
        · walk_at "my rn"
          refine ⟨t, d, p, S, W, L, m, dLines L i, rfl, hsh1, hS, hd1, nd, lm, hp, e, by omega, fun p3 H3 n3 s3 h3 => ?_⟩
          refine some_ rfl p3 H3 n3 s3 (fun z => ?_) h3
          have z2 : (lkN m x).isSome = false := by have := z.2; rw [er] at this; exact this
          rw [e2] at z2; cases z2
      · walk_at "my rn"
        refine ⟨t, d, p, S, W, L, m, dLines L i, rfl, hsh1, hS, hd1, nd, lm, hp, e, by omega, fun p3 H3 n3 s3 h3 => ?_⟩
        exact some_ rfl p3 H3 n3 s3 (fun z => e1 z.1) h3
def sp_after (K : PySem.W.Frag) : Sp := fun vs H Q _ => ∃ (t c t0 t1 o u d e : Addr) (S W L S1 W1 L1 p : Int) (i : InsR) (m n : List (Int × Int)) (xs : List V), vs = [.ref t, .ref c, .int p, .ref d, .ref e] ∧ SqT K H t [.ref t0, .ref t1, .ref o] ∧ ShapeAt K H t0 S W L ∧ ShapeAt K H t1 S1 W1 L1 ∧
  0 < S ∧ 0 < S1 ∧ 1 ≤ L ∧ L ≤ 16 ∧ 1 ≤ L1 ∧ L1 ≤ 16 ∧ SqL K H c xs ∧ atI xs p = some (.ref u) ∧ InsX K H u i ∧ i.Ok ∧ H d = some (DN m) ∧ (m.map (·.1)).Nodup ∧ m.length ≤ 1000 ∧ H e = some (DN n) ∧ (n.map (·.1)).Nodup ∧ n.length ≤ 1000 ∧
  ∀ (r a b : Addr) H', Same H H' → H' r = some (.tup [.ref a, .ref b]) → H' a = some (DN (if i.nm = "link" then [] else useLine S W m (p / L))) → H' b = some (DN (if i.nm = "link" then [] else dAfter S1 W1 L1 i n)) → Q (.ref r) H'
theorem ok_after (T : Top P K mg) : FnOk P w K mg base CX0 5 T.a_after T.d_after ["processor", "code", "p", "known_code", "known_data"]  (sp_after K) := by
  refine T.F_after.ok sc_after (fun vs H Q E h => ?_) (fun cdv A outer s H vs Q E hr h => ?_)
  · obtain ⟨_, _, _, _, _, _, _, _, _, _, _, _, _, _, _, _, _, _, _, rfl, _⟩ := h
    rfl
  · obtain ⟨t, c, t0, t1, o, u, d, e, S, W, L, S1, W1, L1, p, i, m, n, xs, rfl, ht, hs0, hs1, hS, hS1, l1, l2, l3, l4, hc, hp, hi, ok, hd, nd, lm, he, ne, le, q⟩ := h
    obtain ⟨ys, hu, h0, _⟩ := id hi.ex
    refine ⟨_, (pss_cons (ps_asg (pv 0) (pg_tup rfl (pgs_cons (pg_name (i := 5) sc_after.nd rfl (by first | exact Or.inl rfl | exact Or.inr rfl)) (pgs_cons (pg_name (i := 6) sc_after.nd rfl (by first | exact Or.inl rfl | exact Or.inr rfl)) (pgs_cons (pg_name (i := 7) sc_after.nd rfl (by first | exact Or.inl rfl | exact Or.inr rfl)) pgs_nil)))))
  (pss_cons (ps_if (pt_cmpR op_eq (pe_ix ix_tup (pe_ix ix_list (pv 1) (pv 2) (fun _ _ => rfl)) pe_int (fun _ _ => rfl)) pe_str (nomark _))
  (pss_one (ps_ret (pe_tup (pa_cons pe_dnewK (pa_cons pe_dnewK pa_nil)))))
  pss_nil)
  (pss_cons (ps_set (i := 8) sc_after.nd rfl (by first | exact Or.inl rfl | exact Or.inr rfl) (pe_call (ok_use_line T) (hr.mono (by decide)) (by rfl) T.g_use_line T.F_use_line.kp T.b_use_line .nil pass0 (pa_cons (pv 5) (pa_cons (pv 3) (pa_cons (pe_op op_fdiv (pv 2) (pe_ix ix_tup (pv 5) pe_int (fun _ _ => rfl))) pa_nil)))))
  (pss_one (ps_ret (pe_tup (pa_cons (pv 8) (pa_cons (pe_call (ok__data_after T) (hr.mono (by decide)) (by rfl) T.g__data_after T.F__data_after.kp T.b__data_after .nil pass0 (pa_cons (pv 6) (pa_cons (pe_ix ix_list (pv 1) (pv 2) (fun _ _ => rfl)) (pa_cons (pv 4) pa_nil)))) pa_nil)))))))), ?_⟩
    rw [show ∀ a0 a1 a2 a3 a4 : V, L2.start ["processor", "code", "p", "known_code", "known_data", "code_shape", "data_shape", "_", "used"] [a0, a1, a2, a3, a4] = [some a0, some a1, some a2, some a3, some a4, none, none, none, none] from fun _ _ _ _ _ => rfl]
    have hs0' : SqT K H t0 [.int S, .int W, .int L] := hs0
    walk_at "my rn"
    refine Rd.ixLq hc hp ?_
    walk_at "my rn"
    refine Rd.ixTq hu (Rd.at_val (j := 0) rfl h0) ?_
    walk_at "my rn"
    by_cases el : i.nm = "link"
    · rw [if_pos el, if_pos el] at q
      rw [decide_eq_true (by rw [el])]
      refine Rd.ifT ?_
      walk_at "my rn"
      intro a H1 na sa ha
      walk_at "my rn"
      intro b H2 nb sb hb
      walk_at "my rn"
      intro r H3 nr sr hr
      walk_at "my rn"
      exact q r a b H3 (sa.trans (sb.trans sr)) hr (sr _ _ (sb _ _ ha)) (sr _ _ hb)
    · rw [if_neg el, if_neg el] at q
      rw [decide_eq_false (fun z => el (V.str.inj z))]
      refine Rd.ifF ?_
      walk_at "my rn"
      refine ⟨t0, d, S, W, L, _, m, rfl, hs0, hS, hd, nd, lm, fun a H1 na sa ha => ?_⟩
      have hc1 := sa.seq hc
      have ht11 : ShapeAt K H1 t1 S1 W1 L1 := sa.seqT hs1
      walk_at "my rn"
      refine Rd.ixLq hc1 hp ?_
      walk_at "my rn"
      refine ⟨t1, u, e, S1, W1, L1, i, n, rfl, ht11, hS1, l3, l4, hi.same sa, ok, sa _ _ he, ne, le, fun b H2 nb sb hb => ?_⟩
      walk_at "my rn"
      intro r H3 nr sr hr
      exact q r a b H3 (sa.trans (sb.trans sr)) hr (sr _ _ (sb _ _ ha)) (sr _ _ hb)
end

end Mine


set_option Elab.async false
set_option linter.all false
set_option maxRecDepth 100000
set_option maxHeartbeats 400000


--@@guards
namespace Mine
open PySem PySem.Spec PyProof.Rows L2 Rd
local macro_rules | `(tactic| walk_at "my rn") => `(tactic| (repeat (first | ((with_reducible apply Rd.vv); exact rfl) | with_reducible refine Rd.c_ ?_ | with_reducible refine Rd.cons ?_ | with_reducible refine Rd.nil ?_ | with_reducible refine Rd.seq ?_ | with_reducible refine Rd.asg ?_ | ((with_reducible refine Rd.gdN ?_); (first | with_reducible refine Rd.n0 ?_ | with_reducible refine Rd.n1 ?_ | with_reducible refine Rd.n2 ?_ | with_reducible refine Rd.n3 ?_ | with_reducible refine Rd.n4 ?_ | with_reducible refine Rd.n5 ?_ | with_reducible refine Rd.n6 ?_ | with_reducible refine Rd.n7 ?_ | with_reducible refine Rd.n8 ?_ | with_reducible refine Rd.n9 ?_ | with_reducible refine Rd.n10 ?_ | with_reducible refine Rd.n11 ?_ | with_reducible refine Rd.n12 ?_ | with_reducible refine Rd.n13 ?_ | with_reducible refine Rd.n14 ?_ | with_reducible refine Rd.n15 ?_ | with_reducible refine Rd.n16 ?_ | with_reducible refine Rd.n17 ?_ | with_reducible refine Rd.n18 ?_ | with_reducible refine Rd.n19 ?_ | with_reducible refine Rd.n20 ?_ | with_reducible refine Rd.n21 ?_ | with_reducible refine Rd.n22 ?_ | with_reducible refine Rd.n23 ?_ | with_reducible refine Rd.n24 ?_ | with_reducible refine Rd.n25 ?_ | with_reducible refine Rd.n26 ?_ | with_reducible refine Rd.n27 ?_)) | with_reducible refine Rd.test ?_ | with_reducible refine Rd.tb_ ?_ | with_reducible refine Rd.op ?_ | with_reducible refine Rd.I0 ?_ | with_reducible refine Rd.bl ?_ | with_reducible refine Rd.bl2 ?_ | with_reducible refine Rd.ifs ?_ | with_reducible refine Rd.and_ ?_ | with_reducible refine Rd.or_ ?_ | with_reducible refine Rd.not_ ?_ | with_reducible refine Rd.drop ?_ | with_reducible refine Rd.ret ?_ | with_reducible refine Rd.next ?_ | with_reducible refine Rd.callS ?_ | with_reducible refine Rd.mkS ?_ | with_reducible refine Rd.mkKS ?_ | with_reducible refine Rd.mkK ?_ | with_reducible refine Rd.callN ?_ | with_reducible refine Rd.catQI ?_ | with_reducible refine Rd.revN ?_ | with_reducible refine Rd.lzip ?_ | with_reducible refine Rd.fld ?_ | with_reducible refine Rd.sfld ?_ | with_reducible refine Rd.meth ?_ | with_reducible refine Rd.make ?_ | with_reducible refine Rd.izip ?_ | with_reducible refine Rd.dnew ?_ | with_reducible refine Rd.din ?_ | with_reducible refine Rd.dnot ?_ | with_reducible refine Rd.dget ?_ | with_reducible refine Rd.dget2 ?_ | with_reducible refine Rd.dput ?_ | with_reducible refine Rd.cbDictOf ?_ | with_reducible refine Rd.iitems ?_ | with_reducible refine Rd.ikeys ?_ | with_reducible refine Rd.dc ?_ | with_reducible refine Rd.nwD ?_ | with_reducible refine Rd.tupN ?_ | with_reducible refine Rd.lstN ?_ | with_reducible refine Rd.cbListOf ?_ | with_reducible refine Rd.cbListOfR ?_ | with_reducible refine Rd.catI ?_ | with_reducible refine Rd.slN ?_ | with_reducible refine Rd.cbSrtI ?_ | with_reducible refine Rd.brk ?_ | with_reducible refine Rd.cont ?_ | with_reducible refine Rd.retN ?_ | with_reducible refine Rd.ife ?_ | with_reducible refine Rd.andV ?_ | with_reducible refine Rd.orV ?_ | with_reducible refine Rd.notV ?_ | with_reducible refine Rd.un ?_ | with_reducible refine Rd.U ?_ | with_reducible refine Rd.ip ?_ | with_reducible refine Rd.call ?_ | with_reducible refine Rd.cb ?_ | with_reducible refine Rd.bm ?_ | with_reducible refine Rd.bm0 ?_ | with_reducible refine Rd.nopart ?_ | with_reducible refine Rd.part ?_ | with_reducible refine Rd.int1 ?_ | with_reducible refine Rd.ints1 ?_ | with_reducible refine Rd.ints2 ?_ | with_reducible refine Rd.gcons ?_ | with_reducible refine Rd.gnil ?_ | with_reducible refine Rd.sub ?_ | with_reducible refine Rd.isN ?_ | with_reducible refine Rd.chain ?_ | with_reducible refine Rd.rf ?_ | with_reducible refine Rd.tyS ?_ | with_reducible refine Rd.intI ?_ | with_reducible refine Rd.lc ?_ | with_reducible refine Rd.for_ ?_ | with_reducible refine Rd.ilist ?_ | with_reducible refine Rd.itup ?_ | with_reducible refine Rd.irng1 ?_ | with_reducible refine Rd.irng2 ?_ | with_reducible refine Rd.ienum ?_ | with_reducible refine Rd.istr ?_ | with_reducible refine Rd.refA ?_ | with_reducible refine Rd.strA ?_ | with_reducible refine Rd.yes ?_ | with_reducible refine Rd.ifT ?_ | with_reducible refine Rd.ifF ?_ | with_reducible refine Rd.ifnT ?_ | with_reducible refine Rd.ifnF ?_ | with_reducible refine Rd.sl ?_ | ((with_reducible apply Rd.glst); (first | assumption | exact upd_same); exact rfl) | ((with_reducible apply Rd.gtP); assumption; assumption) | ((with_reducible apply Rd.revq); first | assumption | exact SqL.of (by assumption)) | ((with_reducible apply Rd.fldI); (first | assumption | exact upd_same); assumption; assumption; (first | assumption | with_unfolding_all rfl)) | ((with_reducible apply Rd.methI); (first | assumption | exact upd_same); (first | assumption | with_unfolding_all rfl)) | ((with_reducible apply Rd.sfldI); (first | assumption | exact upd_same); assumption; assumption; exact Nat.le_of_ble_eq_true rfl) | ((with_reducible apply Rd.maxL); assumption) | ((with_reducible apply Rd.anyL); assumption) | ((with_reducible apply Rd.sumL); assumption) | ((with_reducible refine Rd.izI (by assumption) (by assumption) ?_)) | with_reducible refine Rd.mch ?_ | with_reducible refine Rd.mchI ?_ | with_reducible refine Rd.mchRest ?_ | with_reducible refine Rd.mtq ?_ | with_reducible refine Rd.mtRest ?_ | with_reducible refine Rd.mtEnd ?_ | with_reducible refine Rd.tbC ?_ | with_reducible refine Rd.tbT ?_ | with_reducible refine Rd.tbA ?_ | with_reducible refine Rd.tbN ?_ | with_reducible refine Rd.mto ?_ | with_reducible refine Rd.mtoI ?_ | with_reducible refine Rd.moRest ?_ | with_reducible refine Rd.moEnd ?_ | ((with_reducible apply Rd.mtqI); (first | assumption | exact SqT.of upd_same | exact SqT.of (by assumption)); exact Nat.le_of_ble_eq_true rfl) | ((with_reducible refine Rd.mtLen ?_ ?_); exact rfl) | ((with_reducible refine Rd.mtYes ?_ ?_); exact rfl) | ((with_reducible refine Rd.mtNo ?_ ?_); (first | assumption | decide +kernel)) | ((with_reducible refine Rd.mtOY ?_ ?_); exact rfl) | ((with_reducible refine Rd.mtON ?_ ?_); exact rfl) | ((with_reducible refine Rd.eq ?_ ?_); exact rfl) | ((with_reducible refine Rd.ne ?_ ?_); exact rfl) | ((with_reducible refine Rd.szA ?_ ?_); exact Nat.le_of_ble_eq_true rfl) | ((with_reducible refine Rd.I ?_ ?_); first | assumption | decide | exact Or.inr (by decide +kernel) | exact Or.inl (by decide +kernel) | exact ⟨by decide, by decide⟩ | exact ⟨by decide, by decide, by decide⟩ | omega | exact ⟨by omega, by omega⟩) | ((with_reducible apply Rd.tyL); first | assumption | exact upd_same) | ((with_reducible apply Rd.tyLq); assumption) | ((with_reducible apply Rd.ixL); (first | assumption | exact upd_same); exact rfl) | ((with_reducible apply Rd.ixT); (first | assumption | exact upd_same); exact rfl) | ((with_reducible apply Rd.ixLq); assumption; exact rfl) | ((with_reducible apply Rd.ixTq); assumption; exact rfl) | ((with_reducible apply Rd.gtup); (first | assumption | exact upd_same); exact rfl) | ((with_reducible apply Rd.gtupq); assumption; exact rfl) | ((with_reducible apply Rd.sqAq); assumption) | ((with_reducible apply Rd.stAq); assumption) | ((with_reducible apply Rd.enAq); assumption) | ((with_reducible apply Rd.lenLq); assumption) | ((with_reducible apply Rd.lenTq); assumption) | ((with_reducible apply Rd.sqA); first | assumption | exact upd_same) | ((with_reducible apply Rd.stA); first | assumption | exact upd_same) | ((with_reducible apply Rd.enA); first | assumption | exact upd_same) | ((with_reducible apply Rd.lenL); first | assumption | exact upd_same) | ((with_reducible apply Rd.lenT); first | assumption | exact upd_same) | ((with_reducible refine Rd.nwT ?_ ?_); exact Nat.le_of_ble_eq_true rfl) | ((with_reducible refine Rd.nwL ?_ ?_); exact Nat.le_of_ble_eq_true rfl) | ((with_reducible apply Rd.isd); assumption) | ((with_reducible apply Rd.dictOf); assumption) | ((with_reducible apply Rd.itA); first | assumption | exact upd_same) | ((with_reducible apply Rd.ikA); first | assumption | exact upd_same) | ((with_reducible apply Rd.listOf); assumption) | ((with_reducible apply Rd.listOfq); assumption) | ((with_reducible apply Rd.slo); assumption) | ((with_reducible apply Rd.slq); assumption) | ((with_reducible apply Rd.srtI); assumption) | ((with_reducible apply Rd.srtIo); assumption) | ((with_reducible refine Rd.gdI ?_); (first | with_reducible refine Rd.isi_ii ?_ | with_reducible refine Rd.isi_ib ?_ | with_reducible refine Rd.isi_is ?_ | with_reducible refine Rd.isi_il ?_ | with_reducible refine Rd.isi_it ?_ | with_reducible refine Rd.isi_id ?_ | with_reducible refine Rd.isi_bi ?_ | with_reducible refine Rd.isi_bb ?_ | with_reducible refine Rd.isi_bs ?_ | with_reducible refine Rd.isi_bl ?_ | with_reducible refine Rd.isi_bt ?_ | with_reducible refine Rd.isi_bd ?_ | with_reducible refine Rd.isi_si ?_ | with_reducible refine Rd.isi_sb ?_ | with_reducible refine Rd.isi_ss ?_ | with_reducible refine Rd.isi_sl ?_ | with_reducible refine Rd.isi_st ?_ | with_reducible refine Rd.isi_sd ?_ | with_reducible refine Rd.isi_ni ?_ | with_reducible refine Rd.isi_nb ?_ | with_reducible refine Rd.isi_ns ?_ | with_reducible refine Rd.isi_nl ?_ | with_reducible refine Rd.isi_nt ?_ | with_reducible refine Rd.isi_nd ?_ | ((with_reducible refine Rd.isi_dd (by assumption) ?_)) | ((with_reducible refine Rd.isi_li (by assumption) ?_)) | ((with_reducible refine Rd.isi_lb (by assumption) ?_)) | ((with_reducible refine Rd.isi_ls (by assumption) ?_)) | ((with_reducible refine Rd.isi_ll (by assumption) ?_)) | ((with_reducible refine Rd.isi_lt (by assumption) ?_)) | ((with_reducible refine Rd.isi_ld (by assumption) ?_)) | ((with_reducible refine Rd.isi_ti (by assumption) ?_)) | ((with_reducible refine Rd.isi_tb (by assumption) ?_)) | ((with_reducible refine Rd.isi_ts (by assumption) ?_)) | ((with_reducible refine Rd.isi_tl (by assumption) ?_)) | ((with_reducible refine Rd.isi_tt (by assumption) ?_)) | ((with_reducible refine Rd.isi_td (by assumption) ?_)))) | ((with_reducible refine Rd.gdG ?_); (first | with_reducible refine Rd.g0 ?_ | with_reducible refine Rd.g1 ?_ | with_reducible refine Rd.g2 ?_ | with_reducible refine Rd.g3 ?_ | with_reducible refine Rd.g4 ?_ | with_reducible refine Rd.g5 ?_ | with_reducible refine Rd.g6 ?_ | with_reducible refine Rd.g7 ?_ | with_reducible refine Rd.g8 ?_ | with_reducible refine Rd.g9 ?_ | with_reducible refine Rd.g10 ?_ | with_reducible refine Rd.g11 ?_ | with_reducible refine Rd.g12 ?_ | with_reducible refine Rd.g13 ?_ | with_reducible refine Rd.g14 ?_ | with_reducible refine Rd.g15 ?_ | with_reducible refine Rd.g16 ?_ | with_reducible refine Rd.g17 ?_ | with_reducible refine Rd.g18 ?_ | with_reducible refine Rd.g19 ?_ | with_reducible refine Rd.g20 ?_ | with_reducible refine Rd.g21 ?_ | with_reducible refine Rd.g22 ?_ | with_reducible refine Rd.g23 ?_ | with_reducible refine Rd.g24 ?_ | with_reducible refine Rd.g25 ?_ | with_reducible refine Rd.g26 ?_ | with_reducible refine Rd.g27 ?_)))))







section
variable {P : Program} {w : World} {K : PySem.W.Frag} {mg : Str → Option Value} {base : Heap}
theorem inStrTN {H : Hp} {Q : VK} {p : Addr} (ns : List Str) {n : Str} (h : SqT K H p (ns.map V.str)) (q : Q (.bl (!decide (n ∈ ns))) H) : rIn K true (.str n) (.ref p) H Q :=
  ⟨p, _, rfl, .inr h, rfl, flat_strT _, by rw [inV_strT]; exact q⟩
def sp_hits (K : PySem.W.Frag) : Sp := fun vs H Q _ => ∃ (t c t0 t1 o u d e : Addr) (S W L S1 W1 L1 p : Int) (i : InsR) (m n : List (Int × Int)) (xs : List V), vs = [.ref t, .ref c, .int p, .ref d, .ref e] ∧ SqT K H t [.ref t0, .ref t1, .ref o] ∧ ShapeAt K H t0 S W L ∧ ShapeAt K H t1 S1 W1 L1 ∧
  1 ≤ L ∧ L ≤ 16 ∧ 1 ≤ L1 ∧ L1 ≤ 16 ∧ SqL K H c xs ∧ atI xs p = some (.ref u) ∧ InsX K H u i ∧ i.Ok ∧ H d = some (DN m) ∧ H e = some (DN n) ∧
  ∀ (r : Addr) H', Same H H' → H' r = some (.tup [.bl (lkN m (p / L)).isSome, .bl (lHit L1 i n)]) → Q (.ref r) H'
theorem ok_hits (T : Top P K mg) : FnOk P w K mg base CX0 2 T.a_hits T.d_hits ["processor", "code", "p", "known_code", "known_data"]  (sp_hits K) := by
  refine T.F_hits.ok sc_hits (fun vs H Q E h => ?_) (fun cdv A outer s H vs Q E hr h => ?_)
  · obtain ⟨_, _, _, _, _, _, _, _, _, _, _, _, _, _, _, _, _, _, _, rfl, _⟩ := h
    rfl
  · obtain ⟨t, c, t0, t1, o, u, d, e, S, W, L, S1, W1, L1, p, i, m, n, xs, rfl, ht, hs0, hs1, l1, l2, l3, l4, hc, hp, hi, ok, hd, he, q⟩ := h
    obtain ⟨ys, hu, h0, _⟩ := id hi.ex
    refine ⟨_, (pss_cons (ps_asg (pv 0) (pg_tup rfl (pgs_cons (pg_name (i := 5) sc_hits.nd rfl (by first | exact Or.inl rfl | exact Or.inr rfl)) (pgs_cons (pg_name (i := 6) sc_hits.nd rfl (by first | exact Or.inl rfl | exact Or.inr rfl)) (pgs_cons (pg_name (i := 7) sc_hits.nd rfl (by first | exact Or.inl rfl | exact Or.inr rfl)) pgs_nil)))))
  (pss_cons (ps_set (i := 8) sc_hits.nd rfl (by first | exact Or.inl rfl | exact Or.inr rfl) (pe_cmp (pc_din (hu_of hr) (pe_op op_fdiv (pv 2) (pe_ix ix_tup (pv 5) pe_int (fun _ _ => rfl))) (pv 3))))
  (pss_cons (ps_if (pt_cmpR op_notIn_seq (pe_ix ix_tup (pe_ix ix_list (pv 1) (pv 2) (fun _ _ => rfl)) pe_int (fun _ _ => rfl)) (pe_gr (by rfl) T.c_LOADS) (by with_unfolding_all rfl))
  (pss_one (ps_ret (pe_tup (pa_cons (pv 8) (pa_cons pe_bl pa_nil)))))
  pss_nil)
  (pss_one (ps_ret (pe_tup (pa_cons (pv 8) (pa_cons (pe_callB (cr_all rfl) (by rfl) T.m_all (by decide +kernel) (pa_cons (pe_lc (own := [("line", 9)]) (g := gName 9) (tt := tYes) rfl sc_hits.nd (pi_list (pe_call (ok_data_lines T) (hr.mono (by decide)) (by rfl) T.g_data_lines T.F_data_lines.kp T.b_data_lines .nil pass0 (pa_cons (pv 6) (pa_cons (pe_ix ix_list (pv 1) (pv 2) (fun _ _ => rfl)) pa_nil)))) (blkOk_by (N := ["processor", "code", "p", "known_code", "known_data", "code_shape", "data_shape", "_", "fetch_hit", "line"]) (sc := defScope s_hits) (by decide +kernel)) (fun _ _ _ _ _ => pg_name (i := 9) sc_hits.nd rfl (Or.inl rfl)) (fun _ _ _ _ _ => pts_nil) (fun _ _ _ _ _ => (pe_cmp (pc_din (hu_of hr) (pv 9) (pv 4))))) pa_nil)) pa_nil)))))))), ?_⟩
    rw [show ∀ a0 a1 a2 a3 a4 : V, L2.start ["processor", "code", "p", "known_code", "known_data", "code_shape", "data_shape", "_", "fetch_hit", "line"] [a0, a1, a2, a3, a4] = [some a0, some a1, some a2, some a3, some a4, none, none, none, none, none] from fun _ _ _ _ _ => rfl]
    have hs0' : SqT K H t0 [.int S, .int W, .int L] := hs0
    walk_at "my rn"
    refine dinN (rd_of hd) ?_
    walk_at "my rn"
    refine Rd.ixLq hc hp ?_
    walk_at "my rn"
    refine Rd.ixTq hu (Rd.at_val (j := 0) rfl h0) ?_
    walk_at "my rn"
    refine inStrTN ["load", "loadx"] (T.q_LOADS _) ?_
    walk_at "my rn"
    unfold lHit at q
    refine Rd.ifN (fun e1 => ?_) fun e1 => ?_
    · rw [if_neg e1] at q
      walk_at "my rn"
      intro r H1 nr s1 hr1
      exact q r H1 s1 hr1
    · rw [if_pos e1] at q
      walk_at "my rn"
      refine Rd.ixLq hc hp ?_
      walk_at "my rn"
      refine ⟨t1, u, S1, W1, L1, i, rfl, hs1, l3, l4, hi, ok, fun l H1 nl s1 hl => ?_⟩
      have ln := dLines_len ok l3 (L := L1)
      have he1 := s1 _ _ he
      walk_at "my rn"
      intro D nD
      refine Rd.lc_rel (walk_list (xs := (dLines L1 i).map V.int)) (fun j v _ => ∃ x, (dLines L1 i)[j]? = some x ∧ v = .bl (lkN n x).isSome) nD (by rw [List.length_map]; omega) (fun _ _ _ _ h _ => h) (fun H b => SqL.of ((b.to nD) _ _ hl)) (fun j x Hjo Hj Kt hj b hDl y kt => ?_) (fun H2 vs lvs hvs s2 hD => ?_)
      · obtain ⟨rfl, hx⟩ := y
        rw [List.getElem?_map] at hx
        obtain ⟨v, hv, rfl⟩ : ∃ v, (dLines L1 i)[j]? = some v ∧ V.int v = x := by
          cases z : (dLines L1 i)[j]? with
          | none => rw [z] at hx; cases hx
          | some v => rw [z] at hx; exact ⟨v, rfl, Option.some.inj hx⟩
        simp only [List.map_cons, List.map_nil, L2.wipe, List.set_cons_succ, List.set_cons_zero]
        walk_at "my rn"
        refine ⟨rfl, ?_⟩
        walk_at "my rn"
        refine dinN (rd_of ((b.to nD) _ _ he1)) ?_
        exact kt _ _ ⟨v, hv, rfl⟩ (Same.refl _)
      · have evs : vs = ((dLines L1 i).map fun x => (lkN n x).isSome).map V.bl := by
          refine List.ext_getElem? fun j => ?_
          rw [List.map_map, List.getElem?_map]
          by_cases hj : j < (dLines L1 i).length
          · have hj2 : j < vs.length := by rw [lvs, List.length_map]; exact hj
            obtain ⟨x, hx, ex⟩ := hvs j _ (List.getElem?_eq_getElem hj2)
            rw [List.getElem?_eq_getElem hj2, ex, hx]; rfl
          · rw [List.getElem?_eq_none (by rw [lvs, List.length_map]; omega), List.getElem?_eq_none (by omega)]; rfl
        rw [evs] at hD
        walk_at "my rn"
        refine ⟨D, _, rfl, SqL.of hD, ?_⟩
        walk_at "my rn"
        intro r H3 nr s3 hr3
        refine q r H3 (s1.trans (s2.trans s3)) ?_
        rw [hr3, List.all_map]
        rfl
def sp_place_cost (K : PySem.W.Frag) (C : Addr) : Sp := fun vs H Q _ => ∃ (t c t0 t1 o u d e f : Addr) (S W L S1 W1 L1 p cal : Int) (i : InsR) (m n k : List (Int × Int)) (xs : List V) (ct : Cost), vs = [.ref t, .ref c, .int p, .ref d, .ref e, .ref f] ∧ SqT K H t [.ref t0, .ref t1, .ref o] ∧ ShapeAt K H t0 S W L ∧ ShapeAt K H t1 S1 W1 L1 ∧ CostsAt C H o ct ∧
  1 ≤ L ∧ L ≤ 16 ∧ 1 ≤ L1 ∧ L1 ≤ 16 ∧ SqL K H c xs ∧ atI xs p = some (.ref u) ∧ InsX K H u i ∧ i.Ok ∧ H d = some (DN m) ∧ H e = some (DN n) ∧ H f = some (DN k) ∧ (i.nm = "link" → lkN k i.q = some cal) ∧
  ∀ H', Same H H' → Q (.int (pCost ct i (lkN m (p / L)).isSome (lHit L1 i n) cal)) H'
theorem ok_place_cost (T : Top P K mg) : FnOk P w K mg base CX0 4 T.a_place_cost T.d_place_cost ["processor", "code", "p", "known_code", "known_data", "called"]  (sp_place_cost K T.C_Costs) := by
  refine T.F_place_cost.ok sc_place_cost (fun vs H Q E h => ?_) (fun cdv A outer s H vs Q E hr h => ?_)
  · obtain ⟨_, _, _, _, _, _, _, _, _, _, _, _, _, _, _, _, _, _, _, _, _, _, _, rfl, _⟩ := h
    rfl
  · obtain ⟨t, c, t0, t1, o, u, d, e, f, S, W, L, S1, W1, L1, p, cal, i, m, n, k, xs, ct, rfl, ht, hs0, hs1, hct, l1, l2, l3, l4, hc, hp, hi, ok, hd, he, hf, hcal, q⟩ := h
    obtain ⟨ys, hu, h0, _, _, _, hq, _⟩ := id hi.ex
    refine ⟨_, (pss_cons (ps_set (i := 6) sc_place_cost.nd rfl (by first | exact Or.inl rfl | exact Or.inr rfl) (pe_ix ix_tup (pv 0) pe_int (fun _ _ => rfl)))
  (pss_cons (ps_asg (pe_call (ok_hits T) (hr.mono (by decide)) (by rfl) T.g_hits T.F_hits.kp T.b_hits .nil pass0 (pa_cons (pv 0) (pa_cons (pv 1) (pa_cons (pv 2) (pa_cons (pv 3) (pa_cons (pv 4) pa_nil)))))) (pg_tup rfl (pgs_cons (pg_name (i := 7) sc_place_cost.nd rfl (by first | exact Or.inl rfl | exact Or.inr rfl)) (pgs_cons (pg_name (i := 8) sc_place_cost.nd rfl (by first | exact Or.inl rfl | exact Or.inr rfl)) pgs_nil))))
  (pss_cons (ps_set (i := 9) sc_place_cost.nd rfl (by first | exact Or.inl rfl | exact Or.inr rfl) (pe_callN (ok_instruction_cost T) (hr.mono (by decide)) (by rfl) T.g_instruction_cost T.F_instruction_cost.kp (kb_instruction_cost_0 T.F_instruction_cost).choose_spec pass0 (pa_cons (pv 6) (pa_cons (pe_ix ix_list (pv 1) (pv 2) (fun _ _ => rfl)) pa_nil)) (pk_cons (pv 7) (pk_cons (pv 8) pk_nil))))
  (pss_one (ps_match (pe_ix ix_tup (pe_ix ix_list (pv 1) (pv 2) (fun _ _ => rfl)) pe_int (fun _ _ => rfl))
  (PCs.text (pss_one (ps_ret (pe_op op_add (pv 9) (pe_dget (hu_of hr) (pv 5) (pe_ix ix_tup (pe_ix ix_list (pv 1) (pv 2) (fun _ _ => rfl)) pe_int (fun _ _ => rfl)) (fun _ _ => rfl)))))
  (PCs.text (pss_one (ps_ret (pe_op op_add (pv 9) (pe_fld (pv 6) rfl))))
  (PCs.text (pss_one (ps_ret (pe_op op_add (pv 9) (pe_fld (pv 6) rfl))))
  (PCs.text (pss_one (ps_ret (pe_op op_add (pv 9) (pe_fld (pv 6) rfl))))
  (PCs.rest (pss_one (ps_ret (pv 9))))))))))))), ?_⟩
    rw [show ∀ a0 a1 a2 a3 a4 a5 : V, L2.start ["processor", "code", "p", "known_code", "known_data", "called", "costs", "fetch_hit", "load_hit", "cost"] [a0, a1, a2, a3, a4, a5] = [some a0, some a1, some a2, some a3, some a4, some a5, none, none, none, none] from fun _ _ _ _ _ _ => rfl]
    walk_at "my rn"
    refine ⟨t, c, t0, t1, o, u, d, e, S, W, L, S1, W1, L1, p, i, m, n, xs, rfl, ht, hs0, hs1, l1, l2, l3, l4, hc, hp, hi, ok, hd, he, fun r H1 s1 hr1 => ?_⟩
    have hc1 := s1.seq hc
    have hu1 := s1.seqT hu
    have hct1 := hct.same s1
    have hi1 := hi.same s1
    walk_at "my rn"
    refine Rd.ixLq hc1 hp ?_
    walk_at "my rn"
    refine ⟨rfl, rfl, o, u, ct, i.nm, i.op, _, _, _, rfl, hct1, hi1.at, ?_⟩
    walk_at "my rn"
    refine Rd.ixLq hc1 hp ?_
    walk_at "my rn"
    refine Rd.ixTq hu1 (Rd.at_val (j := 0) rfl h0) ?_
    walk_at "my rn"
    obtain ⟨dx, ho⟩ := id hct1
    obtain ⟨k12, k13, k14, k15, k16⟩ := @Cost.look2 ct
    have cl := T.cl_Costs
    have n13 := T.n_Costs_enter
    have n14 := T.n_Costs_leave
    have n15 := T.n_Costs_finish
    have q : ∀ z, z = (if i.nm = "link" then cal else if i.nm = "enter" then ct.en else if i.nm = "leave" then ct.lv else if i.nm = "done" then ct.fi else 0) → Q (.int (iCost ct i.nm i.op (lkN m (p / L)).isSome (lHit L1 i n) false + z)) H1 := fun z ez => by
      have := q H1 s1
      unfold pCost at this
      rw [ez]; exact this
    refine Rd.mchE (fun e1 => ?_) fun e1 => ?_
    · walk_at "my rn"
      refine Rd.ixLq hc1 hp ?_
      walk_at "my rn"
      refine Rd.ixTq hu1 (Rd.at_val (j := 1) rfl (hq (by rw [e1]; decide +kernel))) ?_
      walk_at "my rn"
      refine dgetN (rd_of (s1 _ _ hf)) (hcal e1) ?_
      walk_at "my rn"
      exact q _ (by rw [if_pos e1])
    · refine Rd.mchE (fun e2 => ?_) fun e2 => ?_
      · walk_at "my rn"
        exact q _ (by rw [if_neg e1, if_pos e2])
      · refine Rd.mchE (fun e3 => ?_) fun e3 => ?_
        · walk_at "my rn"
          exact q _ (by rw [if_neg e1, if_neg e2, if_pos e3])
        · refine Rd.mchE (fun e4 => ?_) fun e4 => ?_
          · walk_at "my rn"
            exact q _ (by rw [if_neg e1, if_neg e2, if_neg e3, if_pos e4])
          · walk_at "my rn"
            have := q 0 (by rw [if_neg e1, if_neg e2, if_neg e3, if_neg e4])
            rw [Int.add_zero] at this
            exact this
def eCost (c : Cost) (i : InsR) (x : Int) : Int := if i.nm ∈ (["jzero", "again"] : List Str) ∧ i.q = x then c.tk else 0
def sp_edge_cost (K : PySem.W.Frag) (C : Addr) : Sp := fun vs H Q _ => ∃ (t c o u : Addr) (p x : Int) (t0 t1 : V) (i : InsR) (xs : List V) (ct : Cost), vs = [.ref t, .ref c, .int p, .int x] ∧ SqT K H t [t0, t1, .ref o] ∧ CostsAt C H o ct ∧ SqL K H c xs ∧ atI xs p = some (.ref u) ∧ InsX K H u i ∧
  ∀ H', Same H H' → Q (.int (eCost ct i x)) H'
theorem ok_edge_cost (T : Top P K mg) : FnOk P w K mg base CX0 1 T.a_edge_cost T.d_edge_cost ["processor", "code", "p", "q"]  (sp_edge_cost K T.C_Costs) := by
  refine T.F_edge_cost.ok sc_edge_cost (fun vs H Q E h => ?_) (fun cdv A outer s H vs Q E hr h => ?_)
  · obtain ⟨_, _, _, _, _, _, _, _, _, _, _, rfl, _⟩ := h
    rfl
  · obtain ⟨t, c, o, u, p, x, t0, t1, i, xs, ct, rfl, ht, hct, hc, hp, hi, q⟩ := h
    obtain ⟨ys, hu, h0, _, _, _, _, hq⟩ := id hi.ex
    refine ⟨_, (pss_cons (ps_if (pw_and (pt_cmpR op_in_seq (pe_ix ix_tup (pe_ix ix_list (pv 1) (pv 2) (fun _ _ => rfl)) pe_int (fun _ _ => rfl)) (pe_tup (pa_cons pe_str (pa_cons pe_str pa_nil))) (by with_unfolding_all rfl)) (pw_and1 (pt_cmpR op_eq (pe_ix ix_tup (pe_ix ix_list (pv 1) (pv 2) (fun _ _ => rfl)) pe_int (fun _ _ => rfl)) (pv 3) (nomark _)))).pt
  (pss_one (ps_ret (pe_fld (pe_ix ix_tup (pv 0) pe_int (fun _ _ => rfl)) rfl)))
  pss_nil)
  (pss_one (ps_ret pe_int))), ?_⟩
    rw [show ∀ a0 a1 a2 a3 : V, L2.start ["processor", "code", "p", "q"] [a0, a1, a2, a3] = [some a0, some a1, some a2, some a3] from fun _ _ _ _ => rfl]
    unfold eCost at q
    walk_at "my rn"
    refine Rd.ixLq hc hp ?_
    walk_at "my rn"
    refine Rd.ixTq hu (Rd.at_val (j := 0) rfl h0) ?_
    walk_at "my rn"
    intro b H1 nb s1 hb
    refine Rd.inStrT ["jzero", "again"] (SqT.of hb) ?_
    have hc1 := s1.seq hc
    have ht1 := s1.seqT ht
    have hu1 := s1.seqT hu
    obtain ⟨dx, ho⟩ := hct.same s1
    have l9 := (@Cost.look ct).2.2.2.2.2.2.2.2.1
    have cl := T.cl_Costs
    have n2 := T.n_Costs_taken
    walk_at "my rn"
    refine Rd.ifD (fun e1 => ?_) fun e1 => ?_
    · walk_at "my rn"
      refine Rd.ixLq hc1 hp ?_
      walk_at "my rn"
      refine Rd.ixTq hu1 (Rd.at_val (j := 2) rfl (hq e1)) ?_
      walk_at "my rn"
      refine Rd.ifD (fun e2 => ?_) fun e2 => ?_
      · walk_at "my rn"
        have := q H1 s1
        rw [if_pos ⟨e1, V.int.inj e2⟩] at this
        exact this
      · walk_at "my rn"
        have := q H1 s1
        rw [if_neg (fun z => e2 (by rw [z.2]))] at this
        exact this
    · walk_at "my rn"
      have := q H1 s1
      rw [if_neg (fun z => e1 z.1)] at this
      exact this
end

end Mine


set_option Elab.async false
set_option linter.all false
set_option maxRecDepth 100000
set_option maxHeartbeats 400000


--@@guards
namespace Mine
open PySem PySem.Spec PyProof.Rows L2 Rd
local macro_rules | `(tactic| walk_at "my rn") => `(tactic| (repeat (first | ((with_reducible apply Rd.vv); exact rfl) | with_reducible refine Rd.c_ ?_ | with_reducible refine Rd.cons ?_ | with_reducible refine Rd.nil ?_ | with_reducible refine Rd.seq ?_ | with_reducible refine Rd.asg ?_ | ((with_reducible refine Rd.gdN ?_); (first | with_reducible refine Rd.n0 ?_ | with_reducible refine Rd.n1 ?_ | with_reducible refine Rd.n2 ?_ | with_reducible refine Rd.n3 ?_ | with_reducible refine Rd.n4 ?_ | with_reducible refine Rd.n5 ?_ | with_reducible refine Rd.n6 ?_ | with_reducible refine Rd.n7 ?_ | with_reducible refine Rd.n8 ?_ | with_reducible refine Rd.n9 ?_ | with_reducible refine Rd.n10 ?_ | with_reducible refine Rd.n11 ?_ | with_reducible refine Rd.n12 ?_ | with_reducible refine Rd.n13 ?_ | with_reducible refine Rd.n14 ?_ | with_reducible refine Rd.n15 ?_ | with_reducible refine Rd.n16 ?_ | with_reducible refine Rd.n17 ?_ | with_reducible refine Rd.n18 ?_ | with_reducible refine Rd.n19 ?_ | with_reducible refine Rd.n20 ?_ | with_reducible refine Rd.n21 ?_ | with_reducible refine Rd.n22 ?_ | with_reducible refine Rd.n23 ?_ | with_reducible refine Rd.n24 ?_ | with_reducible refine Rd.n25 ?_ | with_reducible refine Rd.n26 ?_ | with_reducible refine Rd.n27 ?_)) | with_reducible refine Rd.test ?_ | with_reducible refine Rd.tb_ ?_ | with_reducible refine Rd.op ?_ | with_reducible refine Rd.I0 ?_ | with_reducible refine Rd.bl ?_ | with_reducible refine Rd.bl2 ?_ | with_reducible refine Rd.ifs ?_ | with_reducible refine Rd.and_ ?_ | with_reducible refine Rd.or_ ?_ | with_reducible refine Rd.not_ ?_ | with_reducible refine Rd.drop ?_ | with_reducible refine Rd.ret ?_ | with_reducible refine Rd.next ?_ | with_reducible refine Rd.callS ?_ | with_reducible refine Rd.mkS ?_ | with_reducible refine Rd.mkKS ?_ | with_reducible refine Rd.mkK ?_ | with_reducible refine Rd.callN ?_ | with_reducible refine Rd.catQI ?_ | with_reducible refine Rd.revN ?_ | with_reducible refine Rd.lzip ?_ | with_reducible refine Rd.fld ?_ | with_reducible refine Rd.sfld ?_ | with_reducible refine Rd.meth ?_ | with_reducible refine Rd.make ?_ | with_reducible refine Rd.izip ?_ | with_reducible refine Rd.dnew ?_ | with_reducible refine Rd.din ?_ | with_reducible refine Rd.dnot ?_ | with_reducible refine Rd.dget ?_ | with_reducible refine Rd.dget2 ?_ | with_reducible refine Rd.dput ?_ | with_reducible refine Rd.cbDictOf ?_ | with_reducible refine Rd.iitems ?_ | with_reducible refine Rd.ikeys ?_ | with_reducible refine Rd.dc ?_ | with_reducible refine Rd.nwD ?_ | with_reducible refine Rd.tupN ?_ | with_reducible refine Rd.lstN ?_ | with_reducible refine Rd.cbListOf ?_ | with_reducible refine Rd.cbListOfR ?_ | with_reducible refine Rd.catI ?_ | with_reducible refine Rd.slN ?_ | with_reducible refine Rd.cbSrtI ?_ | with_reducible refine Rd.brk ?_ | with_reducible refine Rd.cont ?_ | with_reducible refine Rd.retN ?_ | with_reducible refine Rd.ife ?_ | with_reducible refine Rd.andV ?_ | with_reducible refine Rd.orV ?_ | with_reducible refine Rd.notV ?_ | with_reducible refine Rd.un ?_ | with_reducible refine Rd.U ?_ | with_reducible refine Rd.ip ?_ | with_reducible refine Rd.call ?_ | with_reducible refine Rd.cb ?_ | with_reducible refine Rd.bm ?_ | with_reducible refine Rd.bm0 ?_ | with_reducible refine Rd.nopart ?_ | with_reducible refine Rd.part ?_ | with_reducible refine Rd.int1 ?_ | with_reducible refine Rd.ints1 ?_ | with_reducible refine Rd.ints2 ?_ | with_reducible refine Rd.gcons ?_ | with_reducible refine Rd.gnil ?_ | with_reducible refine Rd.sub ?_ | with_reducible refine Rd.isN ?_ | with_reducible refine Rd.chain ?_ | with_reducible refine Rd.rf ?_ | with_reducible refine Rd.tyS ?_ | with_reducible refine Rd.intI ?_ | with_reducible refine Rd.lc ?_ | with_reducible refine Rd.for_ ?_ | with_reducible refine Rd.ilist ?_ | with_reducible refine Rd.itup ?_ | with_reducible refine Rd.irng1 ?_ | with_reducible refine Rd.irng2 ?_ | with_reducible refine Rd.ienum ?_ | with_reducible refine Rd.istr ?_ | with_reducible refine Rd.refA ?_ | with_reducible refine Rd.strA ?_ | with_reducible refine Rd.yes ?_ | with_reducible refine Rd.ifT ?_ | with_reducible refine Rd.ifF ?_ | with_reducible refine Rd.ifnT ?_ | with_reducible refine Rd.ifnF ?_ | with_reducible refine Rd.sl ?_ | ((with_reducible apply Rd.glst); (first | assumption | exact upd_same); exact rfl) | ((with_reducible apply Rd.gtP); assumption; assumption) | ((with_reducible apply Rd.revq); first | assumption | exact SqL.of (by assumption)) | ((with_reducible apply Rd.fldI); (first | assumption | exact upd_same); assumption; assumption; (first | assumption | with_unfolding_all rfl)) | ((with_reducible apply Rd.methI); (first | assumption | exact upd_same); (first | assumption | with_unfolding_all rfl)) | ((with_reducible apply Rd.sfldI); (first | assumption | exact upd_same); assumption; assumption; exact Nat.le_of_ble_eq_true rfl) | ((with_reducible apply Rd.maxL); assumption) | ((with_reducible apply Rd.anyL); assumption) | ((with_reducible apply Rd.sumL); assumption) | ((with_reducible refine Rd.izI (by assumption) (by assumption) ?_)) | with_reducible refine Rd.mch ?_ | with_reducible refine Rd.mchI ?_ | with_reducible refine Rd.mchRest ?_ | with_reducible refine Rd.mtq ?_ | with_reducible refine Rd.mtRest ?_ | with_reducible refine Rd.mtEnd ?_ | with_reducible refine Rd.tbC ?_ | with_reducible refine Rd.tbT ?_ | with_reducible refine Rd.tbA ?_ | with_reducible refine Rd.tbN ?_ | with_reducible refine Rd.mto ?_ | with_reducible refine Rd.mtoI ?_ | with_reducible refine Rd.moRest ?_ | with_reducible refine Rd.moEnd ?_ | ((with_reducible apply Rd.mtqI); (first | assumption | exact SqT.of upd_same | exact SqT.of (by assumption)); exact Nat.le_of_ble_eq_true rfl) | ((with_reducible refine Rd.mtLen ?_ ?_); exact rfl) | ((with_reducible refine Rd.mtYes ?_ ?_); exact rfl) | ((with_reducible refine Rd.mtNo ?_ ?_); (first | assumption | decide +kernel)) | ((with_reducible refine Rd.mtOY ?_ ?_); exact rfl) | ((with_reducible refine Rd.mtON ?_ ?_); exact rfl) | ((with_reducible refine Rd.eq ?_ ?_); exact rfl) | ((with_reducible refine Rd.ne ?_ ?_); exact rfl) | ((with_reducible refine Rd.szA ?_ ?_); exact Nat.le_of_ble_eq_true rfl) | ((with_reducible refine Rd.I ?_ ?_); first | assumption | decide | exact Or.inr (by decide +kernel) | exact Or.inl (by decide +kernel) | exact ⟨by decide, by decide⟩ | exact ⟨by decide, by decide, by decide⟩ | omega | exact ⟨by omega, by omega⟩) | ((with_reducible apply Rd.tyL); first | assumption | exact upd_same) | ((with_reducible apply Rd.tyLq); assumption) | ((with_reducible apply Rd.ixL); (first | assumption | exact upd_same); exact rfl) | ((with_reducible apply Rd.ixT); (first | assumption | exact upd_same); exact rfl) | ((with_reducible apply Rd.ixLq); assumption; exact rfl) | ((with_reducible apply Rd.ixTq); assumption; exact rfl) | ((with_reducible apply Rd.gtup); (first | assumption | exact upd_same); exact rfl) | ((with_reducible apply Rd.gtupq); assumption; exact rfl) | ((with_reducible apply Rd.sqAq); assumption) | ((with_reducible apply Rd.stAq); assumption) | ((with_reducible apply Rd.enAq); assumption) | ((with_reducible apply Rd.lenLq); assumption) | ((with_reducible apply Rd.lenTq); assumption) | ((with_reducible apply Rd.sqA); first | assumption | exact upd_same) | ((with_reducible apply Rd.stA); first | assumption | exact upd_same) | ((with_reducible apply Rd.enA); first | assumption | exact upd_same) | ((with_reducible apply Rd.lenL); first | assumption | exact upd_same) | ((with_reducible apply Rd.lenT); first | assumption | exact upd_same) | ((with_reducible refine Rd.nwT ?_ ?_); exact Nat.le_of_ble_eq_true rfl) | ((with_reducible refine Rd.nwL ?_ ?_); exact Nat.le_of_ble_eq_true rfl) | ((with_reducible apply Rd.isd); assumption) | ((with_reducible apply Rd.dictOf); assumption) | ((with_reducible apply Rd.itA); first | assumption | exact upd_same) | ((with_reducible apply Rd.ikA); first | assumption | exact upd_same) | ((with_reducible apply Rd.listOf); assumption) | ((with_reducible apply Rd.listOfq); assumption) | ((with_reducible apply Rd.slo); assumption) | ((with_reducible apply Rd.slq); assumption) | ((with_reducible apply Rd.srtI); assumption) | ((with_reducible apply Rd.srtIo); assumption) | ((with_reducible refine Rd.gdI ?_); (first | with_reducible refine Rd.isi_ii ?_ | with_reducible refine Rd.isi_ib ?_ | with_reducible refine Rd.isi_is ?_ | with_reducible refine Rd.isi_il ?_ | with_reducible refine Rd.isi_it ?_ | with_reducible refine Rd.isi_id ?_ | with_reducible refine Rd.isi_bi ?_ | with_reducible refine Rd.isi_bb ?_ | with_reducible refine Rd.isi_bs ?_ | with_reducible refine Rd.isi_bl ?_ | with_reducible refine Rd.isi_bt ?_ | with_reducible refine Rd.isi_bd ?_ | with_reducible refine Rd.isi_si ?_ | with_reducible refine Rd.isi_sb ?_ | with_reducible refine Rd.isi_ss ?_ | with_reducible refine Rd.isi_sl ?_ | with_reducible refine Rd.isi_st ?_ | with_reducible refine Rd.isi_sd ?_ | with_reducible refine Rd.isi_ni ?_ | with_reducible refine Rd.isi_nb ?_ | with_reducible refine Rd.isi_ns ?_ | with_reducible refine Rd.isi_nl ?_ | with_reducible refine Rd.isi_nt ?_ | with_reducible refine Rd.isi_nd ?_ | ((with_reducible refine Rd.isi_dd (by assumption) ?_)) | ((with_reducible refine Rd.isi_li (by assumption) ?_)) | ((with_reducible refine Rd.isi_lb (by assumption) ?_)) | ((with_reducible refine Rd.isi_ls (by assumption) ?_)) | ((with_reducible refine Rd.isi_ll (by assumption) ?_)) | ((with_reducible refine Rd.isi_lt (by assumption) ?_)) | ((with_reducible refine Rd.isi_ld (by assumption) ?_)) | ((with_reducible refine Rd.isi_ti (by assumption) ?_)) | ((with_reducible refine Rd.isi_tb (by assumption) ?_)) | ((with_reducible refine Rd.isi_ts (by assumption) ?_)) | ((with_reducible refine Rd.isi_tl (by assumption) ?_)) | ((with_reducible refine Rd.isi_tt (by assumption) ?_)) | ((with_reducible refine Rd.isi_td (by assumption) ?_)))) | ((with_reducible refine Rd.gdG ?_); (first | with_reducible refine Rd.g0 ?_ | with_reducible refine Rd.g1 ?_ | with_reducible refine Rd.g2 ?_ | with_reducible refine Rd.g3 ?_ | with_reducible refine Rd.g4 ?_ | with_reducible refine Rd.g5 ?_ | with_reducible refine Rd.g6 ?_ | with_reducible refine Rd.g7 ?_ | with_reducible refine Rd.g8 ?_ | with_reducible refine Rd.g9 ?_ | with_reducible refine Rd.g10 ?_ | with_reducible refine Rd.g11 ?_ | with_reducible refine Rd.g12 ?_ | with_reducible refine Rd.g13 ?_ | with_reducible refine Rd.g14 ?_ | with_reducible refine Rd.g15 ?_ | with_reducible refine Rd.g16 ?_ | with_reducible refine Rd.g17 ?_ | with_reducible refine Rd.g18 ?_ | with_reducible refine Rd.g19 ?_ | with_reducible refine Rd.g20 ?_ | with_reducible refine Rd.g21 ?_ | with_reducible refine Rd.g22 ?_ | with_reducible refine Rd.g23 ?_ | with_reducible refine Rd.g24 ?_ | with_reducible refine Rd.g25 ?_ | with_reducible refine Rd.g26 ?_ | with_reducible refine Rd.g27 ?_)))))







/-! ### the law's mathematics -/
/-- what is known is true of the rows: each line stands there, not behind its age -/
def Tr (S : Int) (m : List (Int × Int)) (rows : List (List Int)) : Prop := ∀ p ∈ m, ∃ r, rows[(p.1 % S).toNat]? = some r ∧ ∃ j : Nat, r[j]? = some p.1 ∧ (j : Int) ≤ p.2
def usedRow (W n : Int) (r : List Int) : List Int := ([n] ++ r.filter fun x => decide (x ≠ n)).take W.toNat
theorem filt_at (n l : Int) (hl : l ≠ n) : ∀ (r : List Int) (j : Nat), r[j]? = some l → ∃ i : Nat, (r.filter fun x => decide (x ≠ n))[i]? = some l ∧ i ≤ j ∧ (n ∈ r.take j → i + 1 ≤ j)
  | [], j, h => by simp at h
  | a :: r, 0, h => by
    simp at h; subst h
    exact ⟨0, by rw [List.filter_cons_of_pos (by simpa using hl)]; rfl, Nat.le_refl _, by simp⟩
  | a :: r, j + 1, h => by
    obtain ⟨i, h1, h2, h3⟩ := filt_at n l hl r j (by simpa using h)
    by_cases e : a = n
    · exact ⟨i, by rw [List.filter_cons_of_neg (by simp [e])]; exact h1, by omega, fun _ => by omega⟩
    · refine ⟨i + 1, by rw [List.filter_cons_of_pos (by simpa using e)]; simpa using h1, by omega, fun m => ?_⟩
      rw [List.take_succ_cons] at m
      have := h3 ((List.mem_cons.mp m).resolve_left fun z => e z.symm)
      omega
theorem used_at {W n l a : Int} {r : List Int} {j : Nat} (hl : l ≠ n) (hj : r[j]? = some l) (ha : (j : Int) + 1 ≤ a ∨ (n ∈ r.take j ∧ (j : Int) ≤ a)) (hw : a < W) : ∃ i : Nat, (usedRow W n r)[i]? = some l ∧ (i : Int) ≤ a := by
  obtain ⟨i, h1, h2, h3⟩ := filt_at n l hl r j hj
  have hi : ((i + 1 : Nat) : Int) ≤ a := by
    rcases ha with ha | ⟨m, ha⟩
    · omega
    · have := h3 m; omega
  refine ⟨i + 1, ?_, hi⟩
  unfold usedRow
  rw [List.getElem?_take_of_lt (by omega)]
  simpa using h1
theorem used_head {W n : Int} {r : List Int} (hw : 0 < W) : (usedRow W n r)[0]? = some n := by
  unfold usedRow
  rw [List.getElem?_take_of_lt (by omega)]
  rfl
theorem mod_ne {S a b : Int} (hS : 0 < S) (h : a % S ≠ b % S) : (a % S).toNat ≠ (b % S).toNat := by
  have := Int.emod_nonneg a (show S ≠ 0 by omega)
  have := Int.emod_nonneg b (show S ≠ 0 by omega)
  omega
theorem older_mem {S W lim : Int} {tch : List Int} {m : List (Int × Int)} {q : Int × Int} (h : q ∈ older S W lim tch m) : ∃ a, (q.1, a) ∈ m ∧ q.2 < W ∧ q.2 = if q.1 % S ∈ tch ∧ a < lim then a + 1 else a := by
  obtain ⟨p, hp, e⟩ := List.mem_filterMap.mp h
  by_cases c : (if p.1 % S ∈ tch ∧ p.2 < lim then p.2 + 1 else p.2) < W
  · rw [agedP_pos c] at e
    cases e
    exact ⟨p.2, hp, c, rfl⟩
  · rw [agedP_neg c] at e; cases e
theorem line_true {S W n : Int} {m : List (Int × Int)} {rows : List (List Int)} {r : List Int} (hS : 0 < S) (hW : 0 < W) (t : Tr S m rows) (hr : rows[(n % S).toNat]? = some r) :
    Tr S (useLine S W m n) (rows.set (n % S).toNat (usedRow W n r)) := by
  have hl := (List.getElem?_eq_some_iff.mp hr).1
  intro q hq
  rcases ptN_mem hq with rfl | ⟨hq, ne⟩
  · exact ⟨_, List.getElem?_set_self hl, 0, used_head hW, Int.le_refl _⟩
  · obtain ⟨a, hm, hw, e⟩ := older_mem hq
    obtain ⟨r1, h1, j, hj, ja⟩ := t _ hm
    simp only at h1 hj ja
    by_cases c : q.1 % S = n % S
    · rw [c] at h1
      cases h1.symm.trans hr
      rw [c]
      refine ⟨_, List.getElem?_set_self hl, used_at ne hj ?_ hw⟩
      by_cases c2 : a < (lkN m n).getD W
      · rw [if_pos ⟨by simp [c], c2⟩] at e
        exact .inl (by omega)
      · rw [if_neg fun z => c2 z.2] at e
        cases el : lkN m n with
        | none => rw [el] at c2; simp only [Option.getD_none] at c2; omega
        | some b =>
          rw [el] at c2
          simp only [Option.getD_some] at c2
          obtain ⟨r2, g1, i, gi, ib⟩ := t _ (lkN_some el)
          simp only at g1 gi ib
          cases g1.symm.trans hr
          by_cases z : i < j
          · refine .inr ⟨?_, by omega⟩
            have : (r.take j)[i]? = some n := by rw [List.getElem?_take_of_lt z]; exact gi
            exact List.mem_of_getElem? this
          · have : i ≠ j := fun z2 => by subst z2; rw [gi] at hj; exact ne (Option.some.inj hj).symm
            exact .inl (by omega)
    · refine ⟨r1, ?_, j, hj, ?_⟩
      · rw [List.getElem?_set_ne (mod_ne hS fun z => c z.symm)]; exact h1
      · rw [e]; split <;> omega
theorem some_true {S W n : Int} {m : List (Int × Int)} {rows : List (List Int)} {r : List Int} {tch : List Int} (hS : 0 < S) (hW : 0 < W) (t : Tr S m rows) (hr : rows[(n % S).toNat]? = some r) (hn : n % S ∈ tch) :
    Tr S (older S W W tch m) (rows.set (n % S).toNat (usedRow W n r)) := by
  have hl := (List.getElem?_eq_some_iff.mp hr).1
  intro q hq
  obtain ⟨a, hm, hw, e⟩ := older_mem hq
  obtain ⟨r1, h1, j, hj, ja⟩ := t _ hm
  simp only at h1 hj ja
  by_cases ne : q.1 = n
  · rw [ne]
    exact ⟨_, List.getElem?_set_self hl, 0, used_head hW, by rw [e]; split <;> omega⟩
  · by_cases c : q.1 % S = n % S
    · rw [c] at h1
      cases h1.symm.trans hr
      rw [c]
      refine ⟨_, List.getElem?_set_self hl, used_at ne hj (.inl ?_) hw⟩
      by_cases c2 : a < W
      · rw [if_pos ⟨by rw [c]; exact hn, c2⟩] at e; omega
      · rw [if_neg fun z => c2 z.2] at e; omega
    · refine ⟨r1, ?_, j, hj, ?_⟩
      · rw [List.getElem?_set_ne (mod_ne hS fun z => c z.symm)]; exact h1
      · rw [e]; split <;> omega
theorem older_without {S W lim n : Int} {tch : List Int} {m : List (Int × Int)} : m.filterMap (fun p => (agedP S W lim tch p).filter fun q => decide (q.1 ≠ n)) = (older S W lim tch m).filter fun q => decide (q.1 ≠ n) := by
  unfold older
  rw [List.filter_filterMap]
def dueLine (S W : Int) (m : List (Int × Int)) (n : Int) : List (Int × Int) := ((older S W ((lkN m n).getD W) [n % S] m).filter fun q => decide (q.1 ≠ n)) ++ [(n, 0)]
theorem due_keys {S W n : Int} {m : List (Int × Int)} (nd : (m.map (·.1)).Nodup) : ((dueLine S W m n).map (·.1)).Nodup := by
  unfold dueLine
  rw [List.map_append, List.nodup_append]
  refine ⟨(older_keys nd).sublist (List.Sublist.map _ List.filter_sublist), by simp, fun a ha b hb e => ?_⟩
  simp at hb
  obtain ⟨p, hp, e2⟩ := List.mem_map.mp ha
  have := of_decide_eq_true (List.mem_filter.mp hp).2
  exact this (by rw [e2, e, hb])
theorem use_due {S W n : Int} {m : List (Int × Int)} (nd : (m.map (·.1)).Nodup) : (useLine S W m n).length = (dueLine S W m n).length ∧ ∀ p ∈ useLine S W m n, lkN (dueLine S W m n) p.1 = some p.2 := by
  refine ⟨by unfold useLine dueLine; rw [ptN_rest (older_keys nd), List.length_append]; rfl, fun p hp => ?_⟩
  refine lkN_mem (due_keys nd) ?_
  unfold dueLine
  rcases ptN_mem hp with rfl | ⟨h1, h2⟩
  · exact List.mem_append.mpr (.inr (List.mem_singleton.mpr rfl))
  · exact List.mem_append.mpr (.inl (List.mem_filter.mpr ⟨h1, decide_eq_true h2⟩))

theorem range_getD (ns : List Int) : (List.range ns.length).map (fun i => ns.getD i 0) = ns := by
  apply List.ext_getElem
  · rw [List.length_map, List.length_range]
  · intro i h1 h2
    rw [List.getElem_map, List.getElem_range, List.getD_eq_getElem?_getD, List.getElem?_eq_getElem h2]
    rfl
theorem dedup_same {a : Int} : ∀ (r : List Int), (∀ x ∈ r, x = a) → r.foldl step_dedup [a] = [a]
  | [], _ => rfl
  | b :: r, h => by
    have e := h b List.mem_cons_self
    subst e
    rw [List.foldl_cons, show step_dedup [b] b = [b] by simp [step_dedup]]
    exact dedup_same r fun x m => h x (List.mem_cons_of_mem _ m)
theorem distinct_one {a : Int} {r : List Int} : distinct (a :: r) = 1 ↔ (a :: r).filter (fun x => decide (x ≠ a)) = [] := by
  constructor
  · intro h
    obtain ⟨y, hy⟩ := List.length_eq_one_iff.mp h
    have mem : ∀ k ∈ a :: r, k = y := fun k hk => by
      have := firstMet_any (fun i => (a :: r).getD i 0) (a :: r).length k
      rw [hy, range_getD] at this
      have h2 : (a :: r).any (· == k) = true := List.any_eq_true.mpr ⟨k, hk, beq_self_eq_true k⟩
      rw [h2] at this
      simp at this
      exact this.symm
    refine List.filter_eq_nil_iff.mpr fun x hx => ?_
    rw [mem x hx, mem a List.mem_cons_self]
    simp
  · intro h
    have al : ∀ x ∈ a :: r, x = a := fun x hx => by
      have := List.filter_eq_nil_iff.mp h x hx
      simpa using this
    unfold distinct firstMet
    rw [range_getD, List.foldl_cons, show step_dedup [] a = [a] from rfl, dedup_same r fun x m => al x (List.mem_cons_of_mem _ m)]
    rfl
theorem some_ok {S W : Int} {m : List (Int × Int)} {rows : List (List Int)} {r : List Int} {ns : List Int} {n : Int} (hS : 0 < S) (hW : 0 < W) (t : Tr S m rows) (hn : n ∈ ns) (hr : rows[(n % S).toNat]? = some r) :
    Tr S (useSome S W m ns) (rows.set (n % S).toNat (usedRow W n r)) := by
  unfold useSome
  by_cases c : distinct ns = 1
  · rw [if_pos c]
    obtain ⟨a, rs, rfl⟩ : ∃ a rs, ns = a :: rs := by
      cases ns with
      | nil => cases hn
      | cons a rs => exact ⟨a, rs, rfl⟩
    have e := List.filter_eq_nil_iff.mp (distinct_one.mp c) n hn
    have e : n = a := by simpa using e
    subst e
    exact line_true hS hW t hr
  · rw [if_neg c]
    exact some_true hS hW t hr (List.mem_map.mpr ⟨n, hn, rfl⟩)
/-- what use_some gives, against the law's -/
theorem some_due {S W : Int} {m : List (Int × Int)} {a : Int} {r : List Int} (nd : (m.map (·.1)).Nodup) (pos : ∀ p ∈ m, 0 ≤ p.1) :
    let due := if (a :: r).filter (fun x => decide (x ≠ a)) = [] then dueLine S W m a else (older S W W ((a :: r).map (· % S)) m).filter fun q => decide (q.1 ≠ -1)
    (useSome S W m (a :: r)).length = due.length ∧ ∀ p ∈ useSome S W m (a :: r), lkN due p.1 = some p.2 := by
  intro due
  unfold useSome
  by_cases c : distinct (a :: r) = 1
  · rw [if_pos c]
    have e : due = dueLine S W m a := if_pos (distinct_one.mp c)
    rw [e]
    exact use_due nd
  · rw [if_neg c]
    have e : due = older S W W ((a :: r).map (· % S)) m := by
      have : due = (older S W W ((a :: r).map (· % S)) m).filter fun q => decide (q.1 ≠ -1) := if_neg fun z => c (distinct_one.mpr z)
      rw [this]
      refine List.filter_eq_self.mpr fun q hq => ?_
      obtain ⟨b, hb, _⟩ := older_mem hq
      have := pos _ hb
      simp only at this
      exact decide_eq_true (by omega)
    rw [e]
    exact ⟨rfl, fun p hp => lkN_mem (older_keys nd) hp⟩

section
variable {P : Program} {w : World} {K : PySem.W.Frag} {mg : Str → Option Value} {base : Heap}
def sp__law_cell (K : PySem.W.Frag) : Sp := fun vs H Q _ => ∃ (l : Addr) (s : List Int) (k : Nat), vs = [.ref l, .int (k : Int)] ∧ SqL K H l (s.map V.int) ∧ ∀ v : Int, Q (.int v) H
theorem ok__law_cell (T : Top P K mg) : FnOk P w K mg base CX0 1 T.a__law_cell T.d__law_cell ["_law_script", "_law_k"]  (sp__law_cell K) := by
  refine T.F__law_cell.ok sc__law_cell (fun vs H Q E h => ?_) (fun cdv A outer s H vs Q E hr h => ?_)
  · obtain ⟨_, _, _, rfl, _⟩ := h
    rfl
  · obtain ⟨l, ns, k, rfl, hl, q⟩ := h
    refine ⟨_, (pss_cons (ps_if (pt_cmpR op_lt (pv 1) (pe_callB call_len_seq (by rfl) T.m_len PySem.boot_len (pa_cons (pv 0) pa_nil)) (nomark _))
  (pss_one (ps_ret (pe_callTy call_int1 (by rfl) T.m_int (by decide +kernel) (pa_cons (pe_ix ix_list (pv 0) (pv 1) (fun _ _ => rfl)) pa_nil))))
  pss_nil)
  (pss_one (ps_ret pe_int))), ?_⟩
    rw [show ∀ a0 a1 : V, L2.start ["_law_script", "_law_k"] [a0, a1] = [some a0, some a1] from fun _ _ => rfl]
    walk_at "my rn"
    refine ifD (fun c => ?_) (fun c => ?_)
    · rw [List.length_map] at c
      have hk : k < ns.length := by omega
      walk_at "my rn"
      refine Rd.ixLq hl (Rd.at_int (j := k) rfl (List.getElem?_eq_getElem hk)) ?_
      walk_at "my rn"
      exact q _
    · walk_at "my rn"
      exact q _
def sp__law_mixed : Sp := fun vs H Q _ => ∃ (s k : Int), vs = [.int s, .int k] ∧ ∀ v : Int, 0 ≤ v → Q (.int v) H
theorem ok__law_mixed (T : Top P K mg) : FnOk P w K mg base CX0 1 T.a__law_mixed T.d__law_mixed ["_law_seed", "_law_k"]  sp__law_mixed := by
  refine T.F__law_mixed.ok sc__law_mixed (fun vs H Q E h => ?_) (fun cdv A outer s H vs Q E hr h => ?_)
  · obtain ⟨_, _, rfl, _⟩ := h
    rfl
  · obtain ⟨s0, k, rfl, q⟩ := h
    refine ⟨_, (pss_one (ps_ret (pe_op op_fdiv (pe_op op_mod (pe_callTy call_int1 (by rfl) T.m_int (by decide +kernel) (pa_cons (pe_op op_add (pe_op op_add (pe_op op_mul (pe_callTy call_int1 (by rfl) T.m_int (by decide +kernel) (pa_cons (pv 0) pa_nil)) pe_int) (pe_op op_mul (pv 1) pe_int)) pe_int) pa_nil)) pe_int) pe_int))), ?_⟩
    rw [show ∀ a0 a1 : V, L2.start ["_law_seed", "_law_k"] [a0, a1] = [some a0, some a1] from fun _ _ => rfl]
    walk_at "my rn"
    refine q _ ?_
    omega
def sp__law_rich : Sp := fun vs H Q _ => ∃ (s k : Int), vs = [.int s, .int k] ∧ ∀ v : Int, 0 ≤ v → Q (.int v) H
theorem ok__law_rich (T : Top P K mg) : FnOk P w K mg base CX0 1 T.a__law_rich T.d__law_rich ["_law_cell_here", "_law_k"]  sp__law_rich := by
  refine T.F__law_rich.ok sc__law_rich (fun vs H Q E h => ?_) (fun cdv A outer s H vs Q E hr h => ?_)
  · obtain ⟨_, _, rfl, _⟩ := h
    rfl
  · obtain ⟨s0, k, rfl, q⟩ := h
    refine ⟨_, (pss_cons (ps_if (pt_cmpR op_ge (pe_callTy call_int1 (by rfl) T.m_int (by decide +kernel) (pa_cons (pv 0) pa_nil)) (pe_op op_pow pe_int pe_int) (nomark _))
  (pss_one (ps_ret (pe_callTy call_int1 (by rfl) T.m_int (by decide +kernel) (pa_cons (pv 0) pa_nil))))
  pss_nil)
  (pss_cons (ps_set (i := 2) sc__law_rich.nd rfl (by first | exact Or.inl rfl | exact Or.inr rfl) (pe_op op_mod (pe_callTy call_int1 (by rfl) T.m_int (by decide +kernel) (pa_cons (pe_op op_add (pe_op op_add (pe_op op_mul (pe_callTy call_int1 (by rfl) T.m_int (by decide +kernel) (pa_cons (pv 0) pa_nil)) pe_int) (pe_op op_mul (pv 1) pe_int)) pe_int) pa_nil)) pe_int))
  (pss_one (ps_ret (pe_op op_add (pe_op op_mul (pv 2) pe_int) (pe_op op_mod (pe_callTy call_int1 (by rfl) T.m_int (by decide +kernel) (pa_cons (pe_op op_add (pe_op op_add (pe_op op_mul (pv 2) pe_int) (pe_op op_mul (pe_callTy call_int1 (by rfl) T.m_int (by decide +kernel) (pa_cons (pv 0) pa_nil)) pe_int)) (pv 1)) pa_nil)) pe_int)))))), ?_⟩
    rw [show ∀ a0 a1 : V, L2.start ["_law_cell_here", "_law_k", "_law_once"] [a0, a1] = [some a0, some a1, none] from fun _ _ => rfl]
    walk_at "my rn"
    refine ifD (fun c => ?_) (fun c => ?_)
    · walk_at "my rn"
      refine q _ ?_
      have e : (10 : Int) ^ (18 : Int).toNat = 1000000000000000000 := by decide +kernel
      rw [e] at c
      omega
    · walk_at "my rn"
      refine q _ ?_
      omega
def sp__law_wide (K : PySem.W.Frag) : Sp := fun vs H Q _ => ∃ (l : Addr) (s : List Int) (k : Nat), vs = [.ref l, .int (k : Int)] ∧ SqL K H l (s.map V.int) ∧ ∀ v : Int, 0 ≤ v → Q (.int v) H
theorem ok__law_wide (T : Top P K mg) : FnOk P w K mg base CX0 2 T.a__law_wide T.d__law_wide ["_law_script", "_law_k"]  (sp__law_wide K) := by
  refine T.F__law_wide.ok sc__law_wide (fun vs H Q E h => ?_) (fun cdv A outer s H vs Q E hr h => ?_)
  · obtain ⟨_, _, _, rfl, _⟩ := h
    rfl
  · obtain ⟨l, ns, k, rfl, hl, q⟩ := h
    refine ⟨_, (pss_one (ps_ret (pe_call (ok__law_rich T) (hr.mono (by decide)) (by rfl) T.g__law_rich T.F__law_rich.kp T.b__law_rich .nil pass0 (pa_cons (pe_call (ok__law_cell T) (hr.mono (by decide)) (by rfl) T.g__law_cell T.F__law_cell.kp T.b__law_cell .nil pass0 (pa_cons (pv 0) (pa_cons (pv 1) pa_nil))) (pa_cons (pv 1) pa_nil))))), ?_⟩
    rw [show ∀ a0 a1 : V, L2.start ["_law_script", "_law_k"] [a0, a1] = [some a0, some a1] from fun _ _ => rfl]
    walk_at "my rn"
    refine ⟨l, ns, k, rfl, hl, fun v => ?_⟩
    walk_at "my rn"
    refine ⟨v, k, rfl, fun u hu => ?_⟩
    walk_at "my rn"
    exact q u hu

structure ShOk (S W L : Int) : Prop where
  s0 : 1 ≤ S
  s1 : S ≤ 64
  w0 : 1 ≤ W
  w1 : W ≤ 4
  l : L = 1 ∨ L = 2 ∨ L = 4 ∨ L = 8 ∨ L = 16
theorem atl_mem {xs : List Int} {z : Int} (h0 : 0 ≤ z) (h1 : z < (xs.length : Int)) : ∃ e ∈ xs, atI (xs.map V.int) z = some (.int e) := by
  obtain ⟨n, rfl⟩ : ∃ n : Nat, z = n := ⟨z.toNat, by omega⟩
  have hn : n < xs.length := by omega
  exact ⟨xs[n], List.getElem_mem hn, Rd.at_int rfl (List.getElem?_eq_getElem hn)⟩
def sp__law_shape (K : PySem.W.Frag) : Sp := fun vs H Q _ => ∃ (c : Int), vs = [.int c] ∧ 0 ≤ c ∧ ∀ (t : Addr) (S W L : Int) (H' : Hp), ShOk S W L → Same H H' → ShapeAt K H' t S W L → Q (.ref t) H'
theorem ok__law_shape (T : Top P K mg) : FnOk P w K mg base CX0 1 T.a__law_shape T.d__law_shape ["_law_cell_here"]  (sp__law_shape K) := by
  refine T.F__law_shape.ok sc__law_shape (fun vs H Q E h => ?_) (fun cdv A outer s H vs Q E hr h => ?_)
  · obtain ⟨_, rfl, _⟩ := h
    rfl
  · obtain ⟨c, rfl, c0, q⟩ := h
    refine ⟨_, (pss_cons (ps_set (i := 1) sc__law_shape.nd rfl (by first | exact Or.inl rfl | exact Or.inr rfl) (pe_op op_add pe_int (pe_op op_mod (pe_callTy call_int1 (by rfl) T.m_int (by decide +kernel) (pa_cons (pv 0) pa_nil)) pe_int)))
  (pss_cons (ps_if (pt_cmpR op_eq (pe_op op_mod (pe_op op_fdiv (pe_callTy call_int1 (by rfl) T.m_int (by decide +kernel) (pa_cons (pv 0) pa_nil)) pe_int) pe_int) pe_int (nomark _))
  (pss_one (ps_set (i := 1) sc__law_shape.nd rfl (by first | exact Or.inl rfl | exact Or.inr rfl) (pe_op op_add pe_int (pe_op op_mod (pe_op op_fdiv (pe_callTy call_int1 (by rfl) T.m_int (by decide +kernel) (pa_cons (pv 0) pa_nil)) pe_int) pe_int))))
  pss_nil)
  (pss_one (ps_ret (pe_tup (pa_cons (pv 1) (pa_cons (pe_op op_add pe_int (pe_op op_mod (pe_op op_fdiv (pe_callTy call_int1 (by rfl) T.m_int (by decide +kernel) (pa_cons (pv 0) pa_nil)) pe_int) pe_int)) (pa_cons (pe_ix ix_list (pe_lst (pa_cons pe_int (pa_cons pe_int (pa_cons pe_int (pa_cons pe_int (pa_cons pe_int pa_nil)))))) (pe_op op_mod (pe_op op_fdiv (pe_callTy call_int1 (by rfl) T.m_int (by decide +kernel) (pa_cons (pv 0) pa_nil)) pe_int) pe_int) (fun _ _ => rfl)) pa_nil)))))))), ?_⟩
    rw [show ∀ a0 : V, L2.start ["_law_cell_here", "_law_sets"] [a0] = [some a0, none] from fun _ => rfl]
    have c5 := Int.emod_nonneg (c / 16) (show (5 : Int) ≠ 0 by decide)
    have c6 := Int.emod_lt_of_pos (c / 16) (show (0 : Int) < 5 by decide)
    walk_at "my rn"
    refine ifD (fun e => ?_) (fun e => ?_)
    all_goals
      walk_at "my rn"
      intro Z H1 nZ s1 hZ
      obtain ⟨L, mL, hL⟩ := atl_mem (xs := [1, 2, 4, 8, 16]) c5 c6
      walk_at "my rn"
      refine Rd.ixL hZ hL ?_
      walk_at "my rn"
      intro t H2 nt s2 ht
      refine q t _ _ L H2 ⟨?_, ?_, ?_, ?_, ?_⟩ (s1.trans s2) (SqT.of ht)
      · omega
      · omega
      · omega
      · omega
      · simpa using mL
def sp__law_costs (C : Addr) : Sp := fun vs H Q _ => ∃ (c : Int), vs = [.int c] ∧ 0 ≤ c ∧ ∀ (o : Addr) (ct : Cost) (H' : Hp), ct.Ok → Same H H' → CostsAt C H' o ct → Q (.ref o) H'
theorem Cost.Ok.sm {c : Cost} (h : c.Ok) : c.Sm := fun x m => by
  rcases List.mem_append.mp (show x ∈ [c.fh, c.fm, c.pl, c.mu, c.dv, c.lh, c.lm, c.st, c.tk, c.ct, c.po] ++ [c.rl, c.sw, c.en, c.lv, c.fi] from m) with m | m
  · have := h.a x m; omega
  · have := h.b x m; omega
theorem ok__law_costs (T : Top P K mg) : FnOk P w K mg base CX0 7 T.a__law_costs T.d__law_costs ["_law_cell_here"]  (sp__law_costs T.C_Costs) := by
  refine T.F__law_costs.ok sc__law_costs (fun vs H Q E h => ?_) (fun cdv A outer s H vs Q E hr h => ?_)
  · obtain ⟨_, rfl, _⟩ := h
    rfl
  · obtain ⟨c, rfl, c0, q⟩ := h
    refine ⟨_, (pss_cons (ps_set (i := 1) sc__law_costs.nd rfl (by first | exact Or.inl rfl | exact Or.inr rfl) (pe_op op_add pe_int (pe_op op_mod (pe_callTy call_int1 (by rfl) T.m_int (by decide +kernel) (pa_cons (pv 0) pa_nil)) pe_int)))
  (pss_cons (ps_set (i := 2) sc__law_costs.nd rfl (by first | exact Or.inl rfl | exact Or.inr rfl) (pe_op op_add pe_int (pe_op op_mod (pe_op op_fdivW (pe_callTy call_int1 (by rfl) T.m_int (by decide +kernel) (pa_cons (pv 0) pa_nil)) pe_int) pe_int)))
  (pss_one (ps_ret (pe_makeK0 T.M_Costs (ok_Costs_init T) (hr.mono (by decide)) (by rfl) T.gc_Costs (kb_Costs_init_1 T.F_Costs_init).choose_spec pass_no (pk_cons (pv 1) (pk_cons (pe_op op_add (pv 1) (pe_op op_mod (pe_op op_fdivW (pe_callTy call_int1 (by rfl) T.m_int (by decide +kernel) (pa_cons (pv 0) pa_nil)) pe_int) pe_int)) (pk_cons (pe_op op_add pe_int (pe_op op_mod (pe_op op_fdivW (pe_callTy call_int1 (by rfl) T.m_int (by decide +kernel) (pa_cons (pv 0) pa_nil)) pe_int) pe_int)) (pk_cons (pe_op op_add pe_int (pe_op op_mod (pe_op op_fdivW (pe_callTy call_int1 (by rfl) T.m_int (by decide +kernel) (pa_cons (pv 0) pa_nil)) pe_int) pe_int)) (pk_cons (pe_op op_add pe_int (pe_op op_mod (pe_op op_fdivW (pe_callTy call_int1 (by rfl) T.m_int (by decide +kernel) (pa_cons (pv 0) pa_nil)) pe_int) pe_int)) (pk_cons (pv 2) (pk_cons (pe_op op_add (pv 2) (pe_op op_mod (pe_op op_fdivW (pe_callTy call_int1 (by rfl) T.m_int (by decide +kernel) (pa_cons (pv 0) pa_nil)) pe_int) pe_int)) (pk_cons (pe_op op_add pe_int (pe_op op_mod (pe_op op_fdivW (pe_callTy call_int1 (by rfl) T.m_int (by decide +kernel) (pa_cons (pv 0) pa_nil)) pe_int) pe_int)) (pk_cons (pe_op op_add pe_int (pe_op op_mod (pe_op op_fdivW (pe_callTy call_int1 (by rfl) T.m_int (by decide +kernel) (pa_cons (pv 0) pa_nil)) pe_int) pe_int)) (pk_cons (pe_op op_add pe_int (pe_op op_mod (pe_op op_fdivW (pe_callTy call_int1 (by rfl) T.m_int (by decide +kernel) (pa_cons (pv 0) pa_nil)) pe_int) pe_int)) (pk_cons (pe_op op_add pe_int (pe_op op_mod (pe_op op_fdivW (pe_callTy call_int1 (by rfl) T.m_int (by decide +kernel) (pa_cons (pv 0) pa_nil)) pe_int) pe_int)) (pk_cons (pe_op op_mod (pe_op op_fdivW (pe_callTy call_int1 (by rfl) T.m_int (by decide +kernel) (pa_cons (pv 0) pa_nil)) pe_int) pe_int) (pk_cons (pe_op op_mod (pe_op op_fdivW (pe_callTy call_int1 (by rfl) T.m_int (by decide +kernel) (pa_cons (pv 0) pa_nil)) pe_int) pe_int) (pk_cons (pe_op op_mod (pe_op op_fdivW (pe_callTy call_int1 (by rfl) T.m_int (by decide +kernel) (pa_cons (pv 0) pa_nil)) pe_int) pe_int) pk_nil))))))))))))))))))), ?_⟩
    rw [show ∀ a0 : V, L2.start ["_law_cell_here", "_law_fetch", "_law_load"] [a0] = [some a0, none, none] from fun _ => rfl]
    walk_at "my rn"
    refine ⟨rfl, rfl, fun x dx nx nd ned => ?_⟩
    have sx : Same H (L2.upd (L2.upd H dx (.own x)) x (.ins T.C_Costs dx [])) := fun b y e => by
      rw [upd_ne (ne_of_none e nx), upd_ne (ne_of_none e nd)]
      exact e
    obtain ⟨cu, ecu⟩ : ∃ cu : Cost, cu = ⟨1 + c % 5, 1 + c % 5 + c / 25 % 12, 1 + c / 300 % 3, 1 + c / 900 % 4, 1 + c / 3600 % 9, 1 + c / 5 % 5, 1 + c / 5 % 5 + c / 32400 % 12, 1 + c / 388800 % 6, 1 + c / 2332800 % 3, 1 + c / 6998400 % 3, 1 + c / 20995200 % 5, 6, 12, c / 104976000 % 7, c / 734832000 % 7, c / 5143824000 % 9⟩ := ⟨_, rfl⟩
    have cok : cu.Ok := by
      rw [ecu]
      refine ⟨?_, ?_, ?_, ?_⟩
      · simp only [List.forall_mem_cons]
        refine ⟨?_, ?_, ?_, ?_, ?_, ?_, ?_, ?_, ?_, ?_, ?_, fun _ h => nomatch h⟩ <;> omega
      · simp only [List.forall_mem_cons]
        refine ⟨?_, ?_, ?_, ?_, ?_, fun _ h => nomatch h⟩ <;> omega
      · show 1 + c % 5 ≤ 1 + c % 5 + c / 25 % 12; omega
      · show 1 + c / 5 % 5 ≤ 1 + c / 5 % 5 + c / 32400 % 12; omega
    refine ⟨x, dx, cu, by rw [ecu]; rfl, cok.sm, upd_same, fun _ H9 h1 h2 => ⟨rfl, ?_⟩, fun z => absurd cok z⟩
    exact q x cu H9 cok (fun b y e => h2 b y (ne_of_none e nx) (sx b y e)) ⟨dx, h1⟩
end

end Mine


set_option Elab.async false
set_option linter.all false
set_option maxRecDepth 100000
set_option maxHeartbeats 400000


--@@guards
namespace Mine
open PySem PySem.Spec PyProof.Rows L2 Rd
local macro_rules | `(tactic| walk_at "my rn") => `(tactic| (repeat (first | ((with_reducible apply Rd.vv); exact rfl) | with_reducible refine Rd.c_ ?_ | with_reducible refine Rd.cons ?_ | with_reducible refine Rd.nil ?_ | with_reducible refine Rd.seq ?_ | with_reducible refine Rd.asg ?_ | ((with_reducible refine Rd.gdN ?_); (first | with_reducible refine Rd.n0 ?_ | with_reducible refine Rd.n1 ?_ | with_reducible refine Rd.n2 ?_ | with_reducible refine Rd.n3 ?_ | with_reducible refine Rd.n4 ?_ | with_reducible refine Rd.n5 ?_ | with_reducible refine Rd.n6 ?_ | with_reducible refine Rd.n7 ?_ | with_reducible refine Rd.n8 ?_ | with_reducible refine Rd.n9 ?_ | with_reducible refine Rd.n10 ?_ | with_reducible refine Rd.n11 ?_ | with_reducible refine Rd.n12 ?_ | with_reducible refine Rd.n13 ?_ | with_reducible refine Rd.n14 ?_ | with_reducible refine Rd.n15 ?_ | with_reducible refine Rd.n16 ?_ | with_reducible refine Rd.n17 ?_ | with_reducible refine Rd.n18 ?_ | with_reducible refine Rd.n19 ?_ | with_reducible refine Rd.n20 ?_ | with_reducible refine Rd.n21 ?_ | with_reducible refine Rd.n22 ?_ | with_reducible refine Rd.n23 ?_ | with_reducible refine Rd.n24 ?_ | with_reducible refine Rd.n25 ?_ | with_reducible refine Rd.n26 ?_ | with_reducible refine Rd.n27 ?_)) | with_reducible refine Rd.test ?_ | with_reducible refine Rd.tb_ ?_ | with_reducible refine Rd.op ?_ | with_reducible refine Rd.I0 ?_ | with_reducible refine Rd.bl ?_ | with_reducible refine Rd.bl2 ?_ | with_reducible refine Rd.ifs ?_ | with_reducible refine Rd.and_ ?_ | with_reducible refine Rd.or_ ?_ | with_reducible refine Rd.not_ ?_ | with_reducible refine Rd.drop ?_ | with_reducible refine Rd.ret ?_ | with_reducible refine Rd.next ?_ | with_reducible refine Rd.callS ?_ | with_reducible refine Rd.mkS ?_ | with_reducible refine Rd.mkKS ?_ | with_reducible refine Rd.mkK ?_ | with_reducible refine Rd.callN ?_ | with_reducible refine Rd.catQI ?_ | with_reducible refine Rd.revN ?_ | with_reducible refine Rd.lzip ?_ | with_reducible refine Rd.fld ?_ | with_reducible refine Rd.sfld ?_ | with_reducible refine Rd.meth ?_ | with_reducible refine Rd.make ?_ | with_reducible refine Rd.izip ?_ | with_reducible refine Rd.dnew ?_ | with_reducible refine Rd.din ?_ | with_reducible refine Rd.dnot ?_ | with_reducible refine Rd.dget ?_ | with_reducible refine Rd.dget2 ?_ | with_reducible refine Rd.dput ?_ | with_reducible refine Rd.cbDictOf ?_ | with_reducible refine Rd.iitems ?_ | with_reducible refine Rd.ikeys ?_ | with_reducible refine Rd.dc ?_ | with_reducible refine Rd.nwD ?_ | with_reducible refine Rd.tupN ?_ | with_reducible refine Rd.lstN ?_ | with_reducible refine Rd.cbListOf ?_ | with_reducible refine Rd.cbListOfR ?_ | with_reducible refine Rd.catI ?_ | with_reducible refine Rd.slN ?_ | with_reducible refine Rd.cbSrtI ?_ | with_reducible refine Rd.brk ?_ | with_reducible refine Rd.cont ?_ | with_reducible refine Rd.retN ?_ | with_reducible refine Rd.ife ?_ | with_reducible refine Rd.andV ?_ | with_reducible refine Rd.orV ?_ | with_reducible refine Rd.notV ?_ | with_reducible refine Rd.un ?_ | with_reducible refine Rd.U ?_ | with_reducible refine Rd.ip ?_ | with_reducible refine Rd.call ?_ | with_reducible refine Rd.cb ?_ | with_reducible refine Rd.bm ?_ | with_reducible refine Rd.bm0 ?_ | with_reducible refine Rd.nopart ?_ | with_reducible refine Rd.part ?_ | with_reducible refine Rd.int1 ?_ | with_reducible refine Rd.ints1 ?_ | with_reducible refine Rd.ints2 ?_ | with_reducible refine Rd.gcons ?_ | with_reducible refine Rd.gnil ?_ | with_reducible refine Rd.sub ?_ | with_reducible refine Rd.isN ?_ | with_reducible refine Rd.chain ?_ | with_reducible refine Rd.rf ?_ | with_reducible refine Rd.tyS ?_ | with_reducible refine Rd.intI ?_ | with_reducible refine Rd.lc ?_ | with_reducible refine Rd.for_ ?_ | with_reducible refine Rd.ilist ?_ | with_reducible refine Rd.itup ?_ | with_reducible refine Rd.irng1 ?_ | with_reducible refine Rd.irng2 ?_ | with_reducible refine Rd.ienum ?_ | with_reducible refine Rd.istr ?_ | with_reducible refine Rd.refA ?_ | with_reducible refine Rd.strA ?_ | with_reducible refine Rd.yes ?_ | with_reducible refine Rd.ifT ?_ | with_reducible refine Rd.ifF ?_ | with_reducible refine Rd.ifnT ?_ | with_reducible refine Rd.ifnF ?_ | with_reducible refine Rd.sl ?_ | ((with_reducible apply Rd.glst); (first | assumption | exact upd_same); exact rfl) | ((with_reducible apply Rd.gtP); assumption; assumption) | ((with_reducible apply Rd.revq); first | assumption | exact SqL.of (by assumption)) | ((with_reducible apply Rd.fldI); (first | assumption | exact upd_same); assumption; assumption; (first | assumption | with_unfolding_all rfl)) | ((with_reducible apply Rd.methI); (first | assumption | exact upd_same); (first | assumption | with_unfolding_all rfl)) | ((with_reducible apply Rd.sfldI); (first | assumption | exact upd_same); assumption; assumption; exact Nat.le_of_ble_eq_true rfl) | ((with_reducible apply Rd.maxL); assumption) | ((with_reducible apply Rd.anyL); assumption) | ((with_reducible apply Rd.sumL); assumption) | ((with_reducible refine Rd.izI (by assumption) (by assumption) ?_)) | with_reducible refine Rd.mch ?_ | with_reducible refine Rd.mchI ?_ | with_reducible refine Rd.mchRest ?_ | with_reducible refine Rd.mtq ?_ | with_reducible refine Rd.mtRest ?_ | with_reducible refine Rd.mtEnd ?_ | with_reducible refine Rd.tbC ?_ | with_reducible refine Rd.tbT ?_ | with_reducible refine Rd.tbA ?_ | with_reducible refine Rd.tbN ?_ | with_reducible refine Rd.mto ?_ | with_reducible refine Rd.mtoI ?_ | with_reducible refine Rd.moRest ?_ | with_reducible refine Rd.moEnd ?_ | ((with_reducible apply Rd.mtqI); (first | assumption | exact SqT.of upd_same | exact SqT.of (by assumption)); exact Nat.le_of_ble_eq_true rfl) | ((with_reducible refine Rd.mtLen ?_ ?_); exact rfl) | ((with_reducible refine Rd.mtYes ?_ ?_); exact rfl) | ((with_reducible refine Rd.mtNo ?_ ?_); (first | assumption | decide +kernel)) | ((with_reducible refine Rd.mtOY ?_ ?_); exact rfl) | ((with_reducible refine Rd.mtON ?_ ?_); exact rfl) | ((with_reducible refine Rd.eq ?_ ?_); exact rfl) | ((with_reducible refine Rd.ne ?_ ?_); exact rfl) | ((with_reducible refine Rd.szA ?_ ?_); exact Nat.le_of_ble_eq_true rfl) | ((with_reducible refine Rd.I ?_ ?_); first | assumption | decide | exact Or.inr (by decide +kernel) | exact Or.inl (by decide +kernel) | exact ⟨by decide, by decide⟩ | exact ⟨by decide, by decide, by decide⟩ | omega | exact ⟨by omega, by omega⟩) | ((with_reducible apply Rd.tyL); first | assumption | exact upd_same) | ((with_reducible apply Rd.tyLq); assumption) | ((with_reducible apply Rd.ixL); (first | assumption | exact upd_same); exact rfl) | ((with_reducible apply Rd.ixT); (first | assumption | exact upd_same); exact rfl) | ((with_reducible apply Rd.ixLq); assumption; exact rfl) | ((with_reducible apply Rd.ixTq); assumption; exact rfl) | ((with_reducible apply Rd.gtup); (first | assumption | exact upd_same); exact rfl) | ((with_reducible apply Rd.gtupq); assumption; exact rfl) | ((with_reducible apply Rd.sqAq); assumption) | ((with_reducible apply Rd.stAq); assumption) | ((with_reducible apply Rd.enAq); assumption) | ((with_reducible apply Rd.lenLq); assumption) | ((with_reducible apply Rd.lenTq); assumption) | ((with_reducible apply Rd.sqA); first | assumption | exact upd_same) | ((with_reducible apply Rd.stA); first | assumption | exact upd_same) | ((with_reducible apply Rd.enA); first | assumption | exact upd_same) | ((with_reducible apply Rd.lenL); first | assumption | exact upd_same) | ((with_reducible apply Rd.lenT); first | assumption | exact upd_same) | ((with_reducible refine Rd.nwT ?_ ?_); exact Nat.le_of_ble_eq_true rfl) | ((with_reducible refine Rd.nwL ?_ ?_); exact Nat.le_of_ble_eq_true rfl) | ((with_reducible apply Rd.isd); assumption) | ((with_reducible apply Rd.dictOf); assumption) | ((with_reducible apply Rd.itA); first | assumption | exact upd_same) | ((with_reducible apply Rd.ikA); first | assumption | exact upd_same) | ((with_reducible apply Rd.listOf); assumption) | ((with_reducible apply Rd.listOfq); assumption) | ((with_reducible apply Rd.slo); assumption) | ((with_reducible apply Rd.slq); assumption) | ((with_reducible apply Rd.srtI); assumption) | ((with_reducible apply Rd.srtIo); assumption) | ((with_reducible refine Rd.gdI ?_); (first | with_reducible refine Rd.isi_ii ?_ | with_reducible refine Rd.isi_ib ?_ | with_reducible refine Rd.isi_is ?_ | with_reducible refine Rd.isi_il ?_ | with_reducible refine Rd.isi_it ?_ | with_reducible refine Rd.isi_id ?_ | with_reducible refine Rd.isi_bi ?_ | with_reducible refine Rd.isi_bb ?_ | with_reducible refine Rd.isi_bs ?_ | with_reducible refine Rd.isi_bl ?_ | with_reducible refine Rd.isi_bt ?_ | with_reducible refine Rd.isi_bd ?_ | with_reducible refine Rd.isi_si ?_ | with_reducible refine Rd.isi_sb ?_ | with_reducible refine Rd.isi_ss ?_ | with_reducible refine Rd.isi_sl ?_ | with_reducible refine Rd.isi_st ?_ | with_reducible refine Rd.isi_sd ?_ | with_reducible refine Rd.isi_ni ?_ | with_reducible refine Rd.isi_nb ?_ | with_reducible refine Rd.isi_ns ?_ | with_reducible refine Rd.isi_nl ?_ | with_reducible refine Rd.isi_nt ?_ | with_reducible refine Rd.isi_nd ?_ | ((with_reducible refine Rd.isi_dd (by assumption) ?_)) | ((with_reducible refine Rd.isi_li (by assumption) ?_)) | ((with_reducible refine Rd.isi_lb (by assumption) ?_)) | ((with_reducible refine Rd.isi_ls (by assumption) ?_)) | ((with_reducible refine Rd.isi_ll (by assumption) ?_)) | ((with_reducible refine Rd.isi_lt (by assumption) ?_)) | ((with_reducible refine Rd.isi_ld (by assumption) ?_)) | ((with_reducible refine Rd.isi_ti (by assumption) ?_)) | ((with_reducible refine Rd.isi_tb (by assumption) ?_)) | ((with_reducible refine Rd.isi_ts (by assumption) ?_)) | ((with_reducible refine Rd.isi_tl (by assumption) ?_)) | ((with_reducible refine Rd.isi_tt (by assumption) ?_)) | ((with_reducible refine Rd.isi_td (by assumption) ?_)))) | ((with_reducible refine Rd.gdG ?_); (first | with_reducible refine Rd.g0 ?_ | with_reducible refine Rd.g1 ?_ | with_reducible refine Rd.g2 ?_ | with_reducible refine Rd.g3 ?_ | with_reducible refine Rd.g4 ?_ | with_reducible refine Rd.g5 ?_ | with_reducible refine Rd.g6 ?_ | with_reducible refine Rd.g7 ?_ | with_reducible refine Rd.g8 ?_ | with_reducible refine Rd.g9 ?_ | with_reducible refine Rd.g10 ?_ | with_reducible refine Rd.g11 ?_ | with_reducible refine Rd.g12 ?_ | with_reducible refine Rd.g13 ?_ | with_reducible refine Rd.g14 ?_ | with_reducible refine Rd.g15 ?_ | with_reducible refine Rd.g16 ?_ | with_reducible refine Rd.g17 ?_ | with_reducible refine Rd.g18 ?_ | with_reducible refine Rd.g19 ?_ | with_reducible refine Rd.g20 ?_ | with_reducible refine Rd.g21 ?_ | with_reducible refine Rd.g22 ?_ | with_reducible refine Rd.g23 ?_ | with_reducible refine Rd.g24 ?_ | with_reducible refine Rd.g25 ?_ | with_reducible refine Rd.g26 ?_ | with_reducible refine Rd.g27 ?_)))))







theorem rgI_length (a b : Int) : (rgI a b).length = (b - a).toNat := by unfold rgI; rw [List.length_map, List.length_range]
theorem rgI_mem {a b x : Int} : x ∈ rgI a b ↔ a ≤ x ∧ x < b := by
  unfold rgI
  rw [List.mem_map]
  constructor
  · rintro ⟨i, hi, rfl⟩
    rw [List.mem_range] at hi
    omega
  · rintro ⟨h1, h2⟩
    exact ⟨(x - a).toNat, by rw [List.mem_range]; omega, by omega⟩
theorem rgI_succ {a b : Int} (h : a ≤ b) : rgI a (b + 1) = rgI a b ++ [b] := by
  unfold rgI
  rw [show (b + 1 - a).toNat = (b - a).toNat + 1 by omega, List.range_succ, List.map_append]
  simp
  omega
theorem rgI_one (a : Int) : rgI a (a + 1) = [a] := by
  rw [rgI_succ (Int.le_refl a)]
  unfold rgI
  rw [show (a - a).toNat = 0 by omega]; rfl
/-- the lines of k cells from a on -/
def rowsAt (L a : Int) (k : Nat) : List Int := if k = 0 then [] else rgI (a / L) ((a + k - 1) / L + 1)
theorem rows_step {L a : Int} {k : Nat} (hL : 1 ≤ L) : rowsAt L a (k + 1) = if (a + k) / L ∈ rowsAt L a k then rowsAt L a k else rowsAt L a k ++ [(a + k) / L] := by
  have m1 : a / L ≤ (a + k) / L := Int.ediv_le_ediv (by omega) (by omega)
  unfold rowsAt
  rw [if_neg (by omega), show (a + ((k + 1 : Nat) : Int) - 1) = a + k by push_cast; omega]
  by_cases k0 : k = 0
  · subst k0
    rw [if_pos rfl, if_neg List.not_mem_nil, List.nil_append]
    have : a + ((0 : Nat) : Int) = a := by simp
    rw [this, rgI_one]
  · rw [if_neg k0]
    have m2 : (a + k - 1) / L ≤ (a + k) / L := Int.ediv_le_ediv (by omega) (by omega)
    have m3 : (a + k) / L ≤ (a + k - 1) / L + 1 := by
      have e : a + k ≤ (a + k - 1) + 1 * L := by omega
      have := Int.ediv_le_ediv (by omega : 0 < L) e
      rw [Int.add_mul_ediv_right _ _ (by omega)] at this
      exact this
    have m4 : a / L ≤ (a + k - 1) / L := Int.ediv_le_ediv (by omega) (by omega)
    by_cases e : (a + k) / L = (a + k - 1) / L
    · rw [if_pos (by rw [rgI_mem]; omega), e]
    · have e2 : (a + k) / L = (a + k - 1) / L + 1 := by omega
      rw [if_neg (by rw [rgI_mem]; omega), e2, rgI_succ (by omega)]
section
variable {P : Program} {w : World} {K : PySem.W.Frag} {mg : Str → Option Value} {base : Heap}
def sp__law_data_lines (K : PySem.W.Frag) : Sp := fun vs H Q _ => ∃ (t u : Addr) (S W L : Int) (i : InsR), vs = [.ref t, .ref u] ∧ ShapeAt K H t S W L ∧ 1 ≤ L ∧ L ≤ 16 ∧ InsX K H u i ∧ i.Ok ∧
  ∀ (p : Addr) H', H p = none → Same H H' → H' p = some (.lst ((dLines L i).map V.int)) → Q (.ref p) H'
theorem ok__law_data_lines (T : Top P K mg) : FnOk P w K mg base CX0 1 T.a__law_data_lines T.d__law_data_lines ["_law_shape_here", "_law_instruction_here"]  (sp__law_data_lines K) := by
  refine T.F__law_data_lines.ok sc__law_data_lines (fun vs H Q E h => ?_) (fun cdv A outer s H vs Q E hr h => ?_)
  · obtain ⟨_, _, _, _, _, _, rfl, _⟩ := h
    rfl
  · obtain ⟨t, u, S, W, L, i, rfl, hsh, l1, l2, ⟨xs, ht, h0, h1, h2, h3, h4, h5⟩, ok, q⟩ := h
    refine ⟨_, (pss_cons (ps_set (i := 2) sc__law_data_lines.nd rfl (by first | exact Or.inl rfl | exact Or.inr rfl) (pe_ix ix_tup (pv 1) pe_int (fun _ _ => rfl)))
  (pss_cons (ps_if (pt_cmpR op_in_seq (pv 2) (pe_tup (pa_cons pe_str (pa_cons pe_str pa_nil))) (by with_unfolding_all rfl))
  (pss_one (ps_ret (pe_lst (pa_cons (pe_op op_fdiv (pe_ix ix_tup (pv 1) pe_int (fun _ _ => rfl)) (pe_ix ix_tup (pv 0) pe_int (fun _ _ => rfl))) pa_nil))))
  pss_nil)
  (pss_cons (ps_if (pt_cmpR op_in_seq (pv 2) (pe_tup (pa_cons pe_str (pa_cons pe_str pa_nil))) (by with_unfolding_all rfl))
  (pss_cons (ps_set (i := 3) sc__law_data_lines.nd rfl (by first | exact Or.inl rfl | exact Or.inr rfl) (pe_lst pa_nil))
  (pss_cons (ps_for PassesOwn.never rfl (pi_range2 (by rfl) T.m_range (pa_cons (pe_ix ix_tup (pv 1) pe_int (fun _ _ => rfl)) (pa_cons (pe_op op_add (pe_ix ix_tup (pv 1) pe_int (fun _ _ => rfl)) (pe_ix ix_tup (pv 1) pe_int (fun _ _ => rfl))) pa_nil))) (pg_name (i := 4) sc__law_data_lines.nd rfl (by first | exact Or.inl rfl | exact Or.inr rfl))
  (pss_one (ps_if (pt_cmpR op_notIn_seq (pe_op op_fdiv (pv 4) (pe_ix ix_tup (pv 0) pe_int (fun _ _ => rfl))) (pv 3) (by with_unfolding_all rfl))
  (pss_one (ps_expr (pe_bm PySem.F.plainAttrs_list PySem.F.slot_list_append PySem.F.type_list_append mt_append (pv 3) (pa_cons (pe_op op_fdiv (pv 4) (pe_ix ix_tup (pv 0) pe_int (fun _ _ => rfl))) pa_nil))))
  pss_nil)))
  (pss_one (ps_ret (pv 3)))))
  pss_nil)
  (pss_one (ps_ret (pe_lst pa_nil)))))), ?_⟩
    rw [show ∀ a0 a1 : V, L2.start ["_law_shape_here", "_law_instruction_here", "_law_kind", "_law_rows", "_law_a"] [a0, a1] = [some a0, some a1, none, none, none] from fun _ _ => rfl]
    have hsh' : SqT K H t [.int S, .int W, .int L] := hsh
    obtain ⟨a0, a1, n0, n1⟩ := ok
    unfold dLines at q
    walk_at "my rn"
    refine Rd.ixTq ht (Rd.at_val (j := 0) rfl h0) ?_
    walk_at "my rn"
    intro b H1 nb s1 hb
    have hs1 := s1.seqT hsh'
    refine Rd.inStrT ["load", "store"] (SqT.of hb) ?_
    walk_at "my rn"
    refine ifD (fun e => ?_) (fun e => ?_)
    · rw [if_pos e] at q
      walk_at "my rn"
      refine Rd.ixTq (s1.seqT ht) (Rd.at_val (j := 2) rfl (h2 e)) ?_
      walk_at "my rn"
      intro p H' np s hp
      exact q p H' (s1.free np) (s1.trans s) hp
    · rw [if_neg e] at q
      walk_at "my rn"
      intro b2 H2 nb2 s2 hb2
      have s12 := s1.trans s2
      have hs2 := s12.seqT hsh'
      refine Rd.inStrT ["loadx", "storex"] (SqT.of hb2) ?_
      walk_at "my rn"
      refine ifD (fun e2 => ?_) (fun e2 => ?_)
      · rw [if_pos e2] at q
        obtain ⟨u0, u1, u2, rfl⟩ := h3 e2
        have ht2 := s12.seqT ht
        walk_at "my rn"
        intro D H3 nD s3 hD
        have ht3 := s3.seqT ht2
        have hs3 := s3.seqT hs2
        walk_at "my rn"
        refine ⟨by omega, for_it (walk_range (n := (i.a + i.n - i.a).toNat)) (fun k σ H' => ∃ y, σ = [some (.ref t), some (.ref u), some (.str i.nm), some (.ref D), y] ∧ Same H2 H' ∧ H' D = some (.lst ((rowsAt L i.a k).map V.int))) ⟨none, rfl, s3, hD⟩ (fun _ _ _ _ _ => trivial) ?_ ?_⟩
        · rintro k x σ Ho H' hk ⟨y, rfl, s', hD'⟩ yy
          obtain ⟨e3, e4⟩ := yy
          subst e3
          subst e4
          have hs' := s'.seqT hs2
          have hlen : (rowsAt L i.a k).length ≤ 100 := by
            unfold rowsAt
            split
            · exact Nat.zero_le _
            · rw [rgI_length]
              have e : i.a + k - 1 ≤ i.a + 64 * L := by omega
              have := Int.ediv_le_ediv (by omega : 0 < L) e
              rw [Int.add_mul_ediv_right _ _ (by omega)] at this
              omega
          walk_at "my rn"
          refine Rd.ninI hD' ?_
          have st := rows_step (L := L) (a := i.a) (k := k) l1
          walk_at "my rn"
          refine ifN (fun e6 => ?_) (fun e6 => ?_)
          · rw [if_neg e6] at st
            walk_at "my rn"
            refine Rd.app hD' (Rd.szl (by rw [List.length_map]; omega)) ?_
            refine ⟨_, rfl, s'.off nD, ?_⟩
            rw [upd_same, st, List.map_append]
            rfl
          · rw [if_pos e6] at st
            walk_at "my rn"
            exact ⟨_, rfl, s', by rw [st]; exact hD'⟩
        · rintro σ H' ⟨y, rfl, s', hD'⟩
          walk_at "my rn"
          refine q D H' (s12.free nD) (s12.trans s') ?_
          rw [hD']
          unfold rowsAt
          rw [if_neg (by omega), show i.a + ((i.a + i.n - i.a).toNat : Int) - 1 = i.a + i.n - 1 by omega]
      · rw [if_neg e2] at q
        walk_at "my rn"
        intro p H' np s hp
        exact q p H' (s12.free np) (s12.trans s) hp
end

end Mine


set_option Elab.async false
set_option linter.all false
set_option maxRecDepth 100000
set_option maxHeartbeats 400000


--@@guards
namespace Mine
open PySem PySem.Spec PyProof.Rows L2 Rd
local macro_rules | `(tactic| walk_at "my rn") => `(tactic| (repeat (first | ((with_reducible apply Rd.vv); exact rfl) | with_reducible refine Rd.c_ ?_ | with_reducible refine Rd.cons ?_ | with_reducible refine Rd.nil ?_ | with_reducible refine Rd.seq ?_ | with_reducible refine Rd.asg ?_ | ((with_reducible refine Rd.gdN ?_); (first | with_reducible refine Rd.n0 ?_ | with_reducible refine Rd.n1 ?_ | with_reducible refine Rd.n2 ?_ | with_reducible refine Rd.n3 ?_ | with_reducible refine Rd.n4 ?_ | with_reducible refine Rd.n5 ?_ | with_reducible refine Rd.n6 ?_ | with_reducible refine Rd.n7 ?_ | with_reducible refine Rd.n8 ?_ | with_reducible refine Rd.n9 ?_ | with_reducible refine Rd.n10 ?_ | with_reducible refine Rd.n11 ?_ | with_reducible refine Rd.n12 ?_ | with_reducible refine Rd.n13 ?_ | with_reducible refine Rd.n14 ?_ | with_reducible refine Rd.n15 ?_ | with_reducible refine Rd.n16 ?_ | with_reducible refine Rd.n17 ?_ | with_reducible refine Rd.n18 ?_ | with_reducible refine Rd.n19 ?_ | with_reducible refine Rd.n20 ?_ | with_reducible refine Rd.n21 ?_ | with_reducible refine Rd.n22 ?_ | with_reducible refine Rd.n23 ?_ | with_reducible refine Rd.n24 ?_ | with_reducible refine Rd.n25 ?_ | with_reducible refine Rd.n26 ?_ | with_reducible refine Rd.n27 ?_)) | with_reducible refine Rd.test ?_ | with_reducible refine Rd.tb_ ?_ | with_reducible refine Rd.op ?_ | with_reducible refine Rd.I0 ?_ | with_reducible refine Rd.bl ?_ | with_reducible refine Rd.bl2 ?_ | with_reducible refine Rd.ifs ?_ | with_reducible refine Rd.and_ ?_ | with_reducible refine Rd.or_ ?_ | with_reducible refine Rd.not_ ?_ | with_reducible refine Rd.drop ?_ | with_reducible refine Rd.ret ?_ | with_reducible refine Rd.next ?_ | with_reducible refine Rd.callS ?_ | with_reducible refine Rd.mkS ?_ | with_reducible refine Rd.mkKS ?_ | with_reducible refine Rd.mkK ?_ | with_reducible refine Rd.callN ?_ | with_reducible refine Rd.catQI ?_ | with_reducible refine Rd.revN ?_ | with_reducible refine Rd.lzip ?_ | with_reducible refine Rd.fld ?_ | with_reducible refine Rd.sfld ?_ | with_reducible refine Rd.meth ?_ | with_reducible refine Rd.make ?_ | with_reducible refine Rd.izip ?_ | with_reducible refine Rd.dnew ?_ | with_reducible refine Rd.din ?_ | with_reducible refine Rd.dnot ?_ | with_reducible refine Rd.dget ?_ | with_reducible refine Rd.dget2 ?_ | with_reducible refine Rd.dput ?_ | with_reducible refine Rd.cbDictOf ?_ | with_reducible refine Rd.iitems ?_ | with_reducible refine Rd.ikeys ?_ | with_reducible refine Rd.dc ?_ | with_reducible refine Rd.nwD ?_ | with_reducible refine Rd.tupN ?_ | with_reducible refine Rd.lstN ?_ | with_reducible refine Rd.cbListOf ?_ | with_reducible refine Rd.cbListOfR ?_ | with_reducible refine Rd.catI ?_ | with_reducible refine Rd.slN ?_ | with_reducible refine Rd.cbSrtI ?_ | with_reducible refine Rd.brk ?_ | with_reducible refine Rd.cont ?_ | with_reducible refine Rd.retN ?_ | with_reducible refine Rd.ife ?_ | with_reducible refine Rd.andV ?_ | with_reducible refine Rd.orV ?_ | with_reducible refine Rd.notV ?_ | with_reducible refine Rd.un ?_ | with_reducible refine Rd.U ?_ | with_reducible refine Rd.ip ?_ | with_reducible refine Rd.call ?_ | with_reducible refine Rd.cb ?_ | with_reducible refine Rd.bm ?_ | with_reducible refine Rd.bm0 ?_ | with_reducible refine Rd.nopart ?_ | with_reducible refine Rd.part ?_ | with_reducible refine Rd.int1 ?_ | with_reducible refine Rd.ints1 ?_ | with_reducible refine Rd.ints2 ?_ | with_reducible refine Rd.gcons ?_ | with_reducible refine Rd.gnil ?_ | with_reducible refine Rd.sub ?_ | with_reducible refine Rd.isN ?_ | with_reducible refine Rd.chain ?_ | with_reducible refine Rd.rf ?_ | with_reducible refine Rd.tyS ?_ | with_reducible refine Rd.intI ?_ | with_reducible refine Rd.lc ?_ | with_reducible refine Rd.for_ ?_ | with_reducible refine Rd.ilist ?_ | with_reducible refine Rd.itup ?_ | with_reducible refine Rd.irng1 ?_ | with_reducible refine Rd.irng2 ?_ | with_reducible refine Rd.ienum ?_ | with_reducible refine Rd.istr ?_ | with_reducible refine Rd.refA ?_ | with_reducible refine Rd.strA ?_ | with_reducible refine Rd.yes ?_ | with_reducible refine Rd.ifT ?_ | with_reducible refine Rd.ifF ?_ | with_reducible refine Rd.ifnT ?_ | with_reducible refine Rd.ifnF ?_ | with_reducible refine Rd.sl ?_ | ((with_reducible apply Rd.glst); (first | assumption | exact upd_same); exact rfl) | ((with_reducible apply Rd.gtP); assumption; assumption) | ((with_reducible apply Rd.revq); first | assumption | exact SqL.of (by assumption)) | ((with_reducible apply Rd.fldI); (first | assumption | exact upd_same); assumption; assumption; (first | assumption | with_unfolding_all rfl)) | ((with_reducible apply Rd.methI); (first | assumption | exact upd_same); (first | assumption | with_unfolding_all rfl)) | ((with_reducible apply Rd.sfldI); (first | assumption | exact upd_same); assumption; assumption; exact Nat.le_of_ble_eq_true rfl) | ((with_reducible apply Rd.maxL); assumption) | ((with_reducible apply Rd.anyL); assumption) | ((with_reducible apply Rd.sumL); assumption) | ((with_reducible refine Rd.izI (by assumption) (by assumption) ?_)) | with_reducible refine Rd.mch ?_ | with_reducible refine Rd.mchI ?_ | with_reducible refine Rd.mchRest ?_ | with_reducible refine Rd.mtq ?_ | with_reducible refine Rd.mtRest ?_ | with_reducible refine Rd.mtEnd ?_ | with_reducible refine Rd.tbC ?_ | with_reducible refine Rd.tbT ?_ | with_reducible refine Rd.tbA ?_ | with_reducible refine Rd.tbN ?_ | with_reducible refine Rd.mto ?_ | with_reducible refine Rd.mtoI ?_ | with_reducible refine Rd.moRest ?_ | with_reducible refine Rd.moEnd ?_ | ((with_reducible apply Rd.mtqI); (first | assumption | exact SqT.of upd_same | exact SqT.of (by assumption)); exact Nat.le_of_ble_eq_true rfl) | ((with_reducible refine Rd.mtLen ?_ ?_); exact rfl) | ((with_reducible refine Rd.mtYes ?_ ?_); exact rfl) | ((with_reducible refine Rd.mtNo ?_ ?_); (first | assumption | decide +kernel)) | ((with_reducible refine Rd.mtOY ?_ ?_); exact rfl) | ((with_reducible refine Rd.mtON ?_ ?_); exact rfl) | ((with_reducible refine Rd.eq ?_ ?_); exact rfl) | ((with_reducible refine Rd.ne ?_ ?_); exact rfl) | ((with_reducible refine Rd.szA ?_ ?_); exact Nat.le_of_ble_eq_true rfl) | ((with_reducible refine Rd.I ?_ ?_); first | assumption | decide | exact Or.inr (by decide +kernel) | exact Or.inl (by decide +kernel) | exact ⟨by decide, by decide⟩ | exact ⟨by decide, by decide, by decide⟩ | omega | exact ⟨by omega, by omega⟩) | ((with_reducible apply Rd.tyL); first | assumption | exact upd_same) | ((with_reducible apply Rd.tyLq); assumption) | ((with_reducible apply Rd.ixL); (first | assumption | exact upd_same); exact rfl) | ((with_reducible apply Rd.ixT); (first | assumption | exact upd_same); exact rfl) | ((with_reducible apply Rd.ixLq); assumption; exact rfl) | ((with_reducible apply Rd.ixTq); assumption; exact rfl) | ((with_reducible apply Rd.gtup); (first | assumption | exact upd_same); exact rfl) | ((with_reducible apply Rd.gtupq); assumption; exact rfl) | ((with_reducible apply Rd.sqAq); assumption) | ((with_reducible apply Rd.stAq); assumption) | ((with_reducible apply Rd.enAq); assumption) | ((with_reducible apply Rd.lenLq); assumption) | ((with_reducible apply Rd.lenTq); assumption) | ((with_reducible apply Rd.sqA); first | assumption | exact upd_same) | ((with_reducible apply Rd.stA); first | assumption | exact upd_same) | ((with_reducible apply Rd.enA); first | assumption | exact upd_same) | ((with_reducible apply Rd.lenL); first | assumption | exact upd_same) | ((with_reducible apply Rd.lenT); first | assumption | exact upd_same) | ((with_reducible refine Rd.nwT ?_ ?_); exact Nat.le_of_ble_eq_true rfl) | ((with_reducible refine Rd.nwL ?_ ?_); exact Nat.le_of_ble_eq_true rfl) | ((with_reducible apply Rd.isd); assumption) | ((with_reducible apply Rd.dictOf); assumption) | ((with_reducible apply Rd.itA); first | assumption | exact upd_same) | ((with_reducible apply Rd.ikA); first | assumption | exact upd_same) | ((with_reducible apply Rd.listOf); assumption) | ((with_reducible apply Rd.listOfq); assumption) | ((with_reducible apply Rd.slo); assumption) | ((with_reducible apply Rd.slq); assumption) | ((with_reducible apply Rd.srtI); assumption) | ((with_reducible apply Rd.srtIo); assumption) | ((with_reducible refine Rd.gdI ?_); (first | with_reducible refine Rd.isi_ii ?_ | with_reducible refine Rd.isi_ib ?_ | with_reducible refine Rd.isi_is ?_ | with_reducible refine Rd.isi_il ?_ | with_reducible refine Rd.isi_it ?_ | with_reducible refine Rd.isi_id ?_ | with_reducible refine Rd.isi_bi ?_ | with_reducible refine Rd.isi_bb ?_ | with_reducible refine Rd.isi_bs ?_ | with_reducible refine Rd.isi_bl ?_ | with_reducible refine Rd.isi_bt ?_ | with_reducible refine Rd.isi_bd ?_ | with_reducible refine Rd.isi_si ?_ | with_reducible refine Rd.isi_sb ?_ | with_reducible refine Rd.isi_ss ?_ | with_reducible refine Rd.isi_sl ?_ | with_reducible refine Rd.isi_st ?_ | with_reducible refine Rd.isi_sd ?_ | with_reducible refine Rd.isi_ni ?_ | with_reducible refine Rd.isi_nb ?_ | with_reducible refine Rd.isi_ns ?_ | with_reducible refine Rd.isi_nl ?_ | with_reducible refine Rd.isi_nt ?_ | with_reducible refine Rd.isi_nd ?_ | ((with_reducible refine Rd.isi_dd (by assumption) ?_)) | ((with_reducible refine Rd.isi_li (by assumption) ?_)) | ((with_reducible refine Rd.isi_lb (by assumption) ?_)) | ((with_reducible refine Rd.isi_ls (by assumption) ?_)) | ((with_reducible refine Rd.isi_ll (by assumption) ?_)) | ((with_reducible refine Rd.isi_lt (by assumption) ?_)) | ((with_reducible refine Rd.isi_ld (by assumption) ?_)) | ((with_reducible refine Rd.isi_ti (by assumption) ?_)) | ((with_reducible refine Rd.isi_tb (by assumption) ?_)) | ((with_reducible refine Rd.isi_ts (by assumption) ?_)) | ((with_reducible refine Rd.isi_tl (by assumption) ?_)) | ((with_reducible refine Rd.isi_tt (by assumption) ?_)) | ((with_reducible refine Rd.isi_td (by assumption) ?_)))) | ((with_reducible refine Rd.gdG ?_); (first | with_reducible refine Rd.g0 ?_ | with_reducible refine Rd.g1 ?_ | with_reducible refine Rd.g2 ?_ | with_reducible refine Rd.g3 ?_ | with_reducible refine Rd.g4 ?_ | with_reducible refine Rd.g5 ?_ | with_reducible refine Rd.g6 ?_ | with_reducible refine Rd.g7 ?_ | with_reducible refine Rd.g8 ?_ | with_reducible refine Rd.g9 ?_ | with_reducible refine Rd.g10 ?_ | with_reducible refine Rd.g11 ?_ | with_reducible refine Rd.g12 ?_ | with_reducible refine Rd.g13 ?_ | with_reducible refine Rd.g14 ?_ | with_reducible refine Rd.g15 ?_ | with_reducible refine Rd.g16 ?_ | with_reducible refine Rd.g17 ?_ | with_reducible refine Rd.g18 ?_ | with_reducible refine Rd.g19 ?_ | with_reducible refine Rd.g20 ?_ | with_reducible refine Rd.g21 ?_ | with_reducible refine Rd.g22 ?_ | with_reducible refine Rd.g23 ?_ | with_reducible refine Rd.g24 ?_ | with_reducible refine Rd.g25 ?_ | with_reducible refine Rd.g26 ?_ | with_reducible refine Rd.g27 ?_)))))







theorem seqT_off {K : PySem.W.Frag} {H1 H' : Hp} {D A t : Addr} {m n : List (Key × V)} {xs : List V} (k : ∀ b o, b ≠ D → b ≠ A → H1 b = some o → H' b = some o) (hD : H1 D = some (.dK m)) (hA : H1 A = some (.dK n)) (h : SqT K H1 t xs) : SqT K H' t xs := by
  rcases h with h | h
  · rcases h with h | ⟨o, h⟩
    · exact .inl (.inl (k _ _ (fun z => by rw [z, hD] at h; cases h) (fun z => by rw [z, hA] at h; cases h) h))
    · exact .inl (.inr ⟨o, k _ _ (fun z => by rw [z, hD] at h; cases h) (fun z => by rw [z, hA] at h; cases h) h⟩)
  · exact .inr h
def lBase (c : Cost) (i : InsR) (lh : Bool) : Int := exCost c i.nm i.op lh + (if i.nm ∈ (["link", "back"] : List Str) then c.tk else if i.nm = "enter" then c.en else if i.nm = "leave" then c.lv else if i.nm = "done" then c.fi else 0)
section
variable {P : Program} {w : World} {K : PySem.W.Frag} {mg : Str → Option Value} {base : Heap}
def sp__law_aged (K : PySem.W.Frag) : Sp := fun vs H Q _ => ∃ (D U Sh : Addr) (S W L lim wo : Int) (m : List (Int × Int)) (tch : List Int), vs = [.ref D, .ref Sh, .ref U, .int lim, .int wo] ∧ ShapeAt K H Sh S W L ∧ 0 < S ∧ H D = some (DN m) ∧ (m.map (·.1)).Nodup ∧ m.length ≤ 1000 ∧ H U = some (.lst (tch.map V.int)) ∧
  ∀ (A : Addr) H', H A = none → Same H H' → H' A = some (DN ((older S W lim tch m).filter fun q => decide (q.1 ≠ wo))) → Q (.ref A) H'
theorem ok__law_aged (T : Top P K mg) : FnOk P w K mg base CX0 1 T.a__law_aged T.d__law_aged ["_law_known_here", "_law_shape_here", "_law_touched", "_law_limit", "_law_without"]  (sp__law_aged K) := by
  refine T.F__law_aged.ok sc__law_aged (fun vs H Q E h => ?_) (fun cdv A outer s H vs Q E hr h => ?_)
  · obtain ⟨_, _, _, _, _, _, _, _, _, _, rfl, _⟩ := h
    rfl
  · obtain ⟨D, U, Sh, S, W, L, lim, wo, m, tch, rfl, hsh, hS, hD, nd, lm, hT, q⟩ := h
    refine ⟨_, (pss_cons (ps_set (i := 5) sc__law_aged.nd rfl (by first | exact Or.inl rfl | exact Or.inr rfl) pe_dnewK)
  (pss_cons (ps_lock (ps_for PassesOwn.never rfl (pi_keys (pv 0)) (pg_name (i := 6) sc__law_aged.nd rfl (by first | exact Or.inl rfl | exact Or.inr rfl))
  (pss_cons (ps_set (i := 7) sc__law_aged.nd rfl (by first | exact Or.inl rfl | exact Or.inr rfl) (pe_dget (hu_of hr) (pv 0) (pv 6) (fun _ _ => rfl)))
  (Evl.pss_cut (ps_if (pw_and (pt_cmpR op_in_seq (pe_op op_mod (pe_callTy call_int1 (by rfl) T.m_int (by decide +kernel) (pa_cons (pv 6) pa_nil)) (pe_ix ix_tup (pv 1) pe_int (fun _ _ => rfl))) (pv 2) (by with_unfolding_all rfl)) (pw_and1 (pt_cmpR op_lt (pv 7) (pv 3) (nomark _)))).pt
  (pss_one (ps_set (i := 7) sc__law_aged.nd rfl (by first | exact Or.inl rfl | exact Or.inr rfl) (pe_op op_add (pv 7) pe_int)))
  pss_nil)
  (pss_one (ps_if (pw_and (pt_cmpR op_lt (pv 7) (pe_ix ix_tup (pv 1) pe_int (fun _ _ => rfl)) (nomark _)) (pw_and1 (pt_cmpR op_ne (pv 6) (pv 4) (nomark _)))).pt
  (pss_one (ps_dput (hu_of hr) (pv 5) (pv 6) (pv 7) rfl))
  pss_nil))))))
  (pss_one (ps_ret (pv 5))))), ?_⟩
    rw [show ∀ a0 a1 a2 a3 a4 : V, L2.start ["_law_known_here", "_law_shape_here", "_law_touched", "_law_limit", "_law_without", "_law_due", "_law_line", "_law_age"] [a0, a1, a2, a3, a4] = [some a0, some a1, some a2, some a3, some a4, none, none, none] from fun _ _ _ _ _ => rfl]
    walk_at "my rn"
    intro A H1 nA s1 hA
    have hD1 := s1 _ _ hD
    have hT1 := s1 _ _ hT
    have hsh1 : SqT K H1 Sh [.int S, .int W, .int L] := s1.seqT hsh
    have DA : D ≠ A := ne_of_none hD nA
    have TD : U ≠ D := fun z => by rw [z, hD] at hT; cases hT
    have TA : U ≠ A := ne_of_none hT nA
    walk_at "my rn"
    refine lockS hD1 fun od => ?_
    walk_at "my rn"
    obtain ⟨f, ef⟩ : ∃ f : Int × Int → Option (Int × Int), f = fun p => (agedP S W lim tch p).filter fun q => decide (q.1 ≠ wo) := ⟨_, rfl⟩
    have fk : ∀ p q, f p = some q → q.1 = p.1 := fun p q h => by
      rw [ef] at h
      exact agedP_key (Option.filter_eq_some_iff.mp h).1
    refine for_it walk_keys (fun i σ H' => H' D = some (.frz od (DN m)) ∧ (∀ b o, b ≠ D → b ≠ A → H1 b = some o → H' b = some o) ∧ H' A = some (DN ((m.take i).filterMap f)) ∧ ∃ y7 y8, σ = [some (.ref D), some (.ref Sh), some (.ref U), some (.int lim), some (.int wo), some (.ref A), y7, y8])
      ⟨upd_same, fun b o nb _ h => by rw [upd_ne nb]; exact h, by rw [upd_ne DA.symm]; exact hA, none, none, rfl⟩ (fun i σ H' _ h => h.1) ?_ ?_
    · rintro i x σ H2 H2' hi ⟨hf, k2, hA2, y7, y8, rfl⟩ yy
      obtain ⟨e2, p, hp, rfl⟩ := keys_atN yy
      rw [e2]
      have hT2 := k2 _ _ TD TA hT1
      have hsh2 := seqT_off k2 hD1 hA hsh1
      have ll : ((m.take i).filterMap f).length ≤ 1000 := Nat.le_trans (List.length_filterMap_le _ _) (by rw [List.length_take]; omega)
      have tk := fm_take (f := f) hp
      have fr := fm_fresh fk nd hp
      walk_at "my rn"
      refine dgetN (rd_fz hf) (lkN_mem nd (List.mem_of_getElem? hp)) ?_
      walk_at "my rn"
      refine ⟨fun σ' H' => H' = H2 ∧ σ' = [some (.ref D), some (.ref Sh), some (.ref U), some (.int lim), some (.int wo), some (.ref A), some (.int p.1), some (.int (if p.1 % S ∈ tch ∧ p.2 < lim then p.2 + 1 else p.2))], ?_, ?_⟩
      · walk_at "my rn"
        refine Rd.inI hT2 ?_
        walk_at "my rn"
        refine ifD (fun c => ?_) (fun c => ?_)
        · walk_at "my rn"
          refine ifD (fun c2 => ?_) (fun c2 => ?_)
          · walk_at "my rn"
            rw [if_pos ⟨c, c2⟩]
          · walk_at "my rn"
            rw [if_neg fun z => c2 z.2]
        · walk_at "my rn"
          rw [if_neg fun z => c z.1]
      · rintro σ' H' ⟨e', rfl⟩
        rw [e', ← e2]
        rw [← e2] at hf k2 hA2 hsh2
        walk_at "my rn"
        refine ifD (fun c => ?_) (fun c => ?_)
        · walk_at "my rn"
          refine ifN (fun c2 => ?_) (fun c2 => ?_)
          · walk_at "my rn"
            refine dputN hA2 (by omega) ?_
            have e : f p = some (p.1, if p.1 % S ∈ tch ∧ p.2 < lim then p.2 + 1 else p.2) := by
              rw [ef]
              show Option.filter _ (agedP S W lim tch p) = _
              rw [agedP_pos c]
              exact Option.filter_some_pos (decide_eq_true fun z => c2 (by rw [z]))
            refine ⟨by rw [upd_ne DA]; exact hf, fun b o n1 n2 h => by rw [upd_ne n2]; exact k2 b o n1 n2 h, ?_, _, _, rfl⟩
            rw [upd_same, tk, e, ptN_new fr]
            rfl
          · walk_at "my rn"
            have e : f p = none := by
              rw [ef]
              show Option.filter _ (agedP S W lim tch p) = _
              rw [agedP_pos c]
              exact Option.filter_some_neg (by simpa using V.int.inj c2)
            refine ⟨hf, k2, ?_, _, _, rfl⟩
            rw [tk, e, Option.toList_none, List.append_nil]; exact hA2
        · walk_at "my rn"
          have e : f p = none := by
            rw [ef]
            show Option.filter _ (agedP S W lim tch p) = _
            rw [agedP_neg c]
            rfl
          refine ⟨hf, k2, ?_, _, _, rfl⟩
          rw [tk, e, Option.toList_none, List.append_nil]; exact hA2
    · rintro σ H2 ⟨hf, k2, hA2, y7, y8, rfl⟩
      refine ⟨hf, ?_⟩
      walk_at "my rn"
      rw [List.length_map, List.length_map, List.take_of_length_le (Nat.le_refl _), ef, older_without] at hA2
      refine q A _ nA (fun b o h => ?_) (by rw [upd_ne DA.symm]; exact hA2)
      by_cases z : b = D
      · subst z; rw [upd_same]; exact hD.symm.trans h
      · rw [upd_ne z]
        exact k2 b o z (fun z2 => by rw [z2, nA] at h; cases h) (s1 _ _ h)

def sp__law_used (K : PySem.W.Frag) : Sp := fun vs H Q _ => ∃ (t d : Addr) (S W L n : Int) (m : List (Int × Int)), vs = [.ref d, .ref t, .int n] ∧ ShapeAt K H t S W L ∧ 0 < S ∧ H d = some (DN m) ∧ (m.map (·.1)).Nodup ∧ m.length ≤ 1000 ∧
  ∀ (p : Addr) H', H p = none → Same H H' → H' p = some (DN (dueLine S W m n)) → Q (.ref p) H'
theorem ok__law_used (T : Top P K mg) : FnOk P w K mg base CX0 2 T.a__law_used T.d__law_used ["_law_known_here", "_law_shape_here", "_law_line"]  (sp__law_used K) := by
  refine T.F__law_used.ok sc__law_used (fun vs H Q E h => ?_) (fun cdv A outer s H vs Q E hr h => ?_)
  · obtain ⟨_, _, _, _, _, _, _, rfl, _⟩ := h
    rfl
  · obtain ⟨t, d, S, W, L, n, m, rfl, hsh, hS, hd, nd, lm, q⟩ := h
    refine ⟨_, (pss_cons (ps_set (i := 3) sc__law_used.nd rfl (by first | exact Or.inl rfl | exact Or.inr rfl) (pe_ifExp (pt_cmp (pc_din (hu_of hr) (pv 2) (pv 0))) (pe_dget (hu_of hr) (pv 0) (pv 2) (fun _ _ => rfl)) (pe_ix ix_tup (pv 1) pe_int (fun _ _ => rfl))))
  (pss_cons (ps_set (i := 4) sc__law_used.nd rfl (by first | exact Or.inl rfl | exact Or.inr rfl) (pe_call (ok__law_aged T) (hr.mono (by decide)) (by rfl) T.g__law_aged T.F__law_aged.kp T.b__law_aged .nil pass0 (pa_cons (pv 0) (pa_cons (pv 1) (pa_cons (pe_lst (pa_cons (pe_op op_mod (pe_callTy call_int1 (by rfl) T.m_int (by decide +kernel) (pa_cons (pv 2) pa_nil)) (pe_ix ix_tup (pv 1) pe_int (fun _ _ => rfl))) pa_nil)) (pa_cons (pv 3) (pa_cons (pv 2) pa_nil)))))))
  (pss_cons (ps_dput (hu_of hr) (pv 4) (pv 2) pe_int rfl)
  (pss_one (ps_ret (pv 4)))))), ?_⟩
    rw [show ∀ a0 a1 a2 : V, L2.start ["_law_known_here", "_law_shape_here", "_law_line", "_law_limit", "_law_due"] [a0, a1, a2] = [some a0, some a1, some a2, none, none] from fun _ _ _ => rfl]
    have hsh' : SqT K H t [.int S, .int W, .int L] := hsh
    have fin_ : ∀ (lim : Int), lim = (lkN m n).getD W → ∀ (U A : Addr) (H1 H2 : Hp), H U = none → Same H H1 → H1 A = none → Same H1 H2 → H2 A = some (DN ((older S W lim [n % S] m).filter fun q => decide (q.1 ≠ n))) → Q (.ref A) (upd H2 A (DN (ptN ((older S W lim [n % S] m).filter fun q => decide (q.1 ≠ n)) n 0))) := fun lim e U A H1 H2 nU s1 nA s2 hA => by
      refine q A _ (s1.free nA) ((s1.trans s2).off (s1.free nA)) ?_
      rw [upd_same, e]
      unfold dueLine
      rw [ptN_new]
      intro z
      obtain ⟨p, hp, e2⟩ := List.mem_map.mp z
      exact of_decide_eq_true (List.mem_filter.mp hp).2 e2
    have len_ : ∀ (lim : Int), ((older S W lim [n % S] m).filter fun q => decide (q.1 ≠ n)).length ≤ 1000 := fun lim => Nat.le_trans (List.length_filter_le _ _) (Nat.le_trans older_len lm)
    walk_at "my rn"
    refine dinN (rd_of hd) ?_
    walk_at "my rn"
    refine Rd.ifB (fun e => ?_) fun e => ?_
    · obtain ⟨lim, el⟩ := Option.isSome_iff_exists.mp e
      walk_at "my rn"
      refine dgetN (rd_of hd) el ?_
      walk_at "my rn"
      intro U H1 nU s1 hU
      walk_at "my rn"
      refine ⟨d, U, t, S, W, L, lim, n, m, [n % S], rfl, s1.seqT hsh', hS, s1 _ _ hd, nd, lm, hU, fun A H2 nA s2 hA => ?_⟩
      walk_at "my rn"
      refine dputN hA (by have := len_ lim; omega) ?_
      walk_at "my rn"
      exact fin_ lim (by rw [el]; rfl) U A H1 H2 nU s1 nA s2 hA
    · have el : lkN m n = none := by
        cases z : lkN m n with
        | none => rfl
        | some _ => rw [z] at e; cases e
      walk_at "my rn"
      intro U H1 nU s1 hU
      walk_at "my rn"
      refine ⟨d, U, t, S, W, L, W, n, m, [n % S], rfl, s1.seqT hsh', hS, s1 _ _ hd, nd, lm, hU, fun A H2 nA s2 hA => ?_⟩
      walk_at "my rn"
      refine dputN hA (by have := len_ W; omega) ?_
      walk_at "my rn"
      exact fin_ W (by rw [el]; rfl) U A H1 H2 nU s1 nA s2 hA
end

end Mine


set_option Elab.async false
set_option linter.all false
set_option maxRecDepth 100000
set_option maxHeartbeats 400000


--@@guards
namespace Mine
open PySem PySem.Spec PyProof.Rows L2 Rd
local macro_rules | `(tactic| walk_at "my rn") => `(tactic| (repeat (first | ((with_reducible apply Rd.vv); exact rfl) | with_reducible refine Rd.c_ ?_ | with_reducible refine Rd.cons ?_ | with_reducible refine Rd.nil ?_ | with_reducible refine Rd.seq ?_ | with_reducible refine Rd.asg ?_ | ((with_reducible refine Rd.gdN ?_); (first | with_reducible refine Rd.n0 ?_ | with_reducible refine Rd.n1 ?_ | with_reducible refine Rd.n2 ?_ | with_reducible refine Rd.n3 ?_ | with_reducible refine Rd.n4 ?_ | with_reducible refine Rd.n5 ?_ | with_reducible refine Rd.n6 ?_ | with_reducible refine Rd.n7 ?_ | with_reducible refine Rd.n8 ?_ | with_reducible refine Rd.n9 ?_ | with_reducible refine Rd.n10 ?_ | with_reducible refine Rd.n11 ?_ | with_reducible refine Rd.n12 ?_ | with_reducible refine Rd.n13 ?_ | with_reducible refine Rd.n14 ?_ | with_reducible refine Rd.n15 ?_ | with_reducible refine Rd.n16 ?_ | with_reducible refine Rd.n17 ?_ | with_reducible refine Rd.n18 ?_ | with_reducible refine Rd.n19 ?_ | with_reducible refine Rd.n20 ?_ | with_reducible refine Rd.n21 ?_ | with_reducible refine Rd.n22 ?_ | with_reducible refine Rd.n23 ?_ | with_reducible refine Rd.n24 ?_ | with_reducible refine Rd.n25 ?_ | with_reducible refine Rd.n26 ?_ | with_reducible refine Rd.n27 ?_)) | with_reducible refine Rd.test ?_ | with_reducible refine Rd.tb_ ?_ | with_reducible refine Rd.op ?_ | with_reducible refine Rd.I0 ?_ | with_reducible refine Rd.bl ?_ | with_reducible refine Rd.bl2 ?_ | with_reducible refine Rd.ifs ?_ | with_reducible refine Rd.and_ ?_ | with_reducible refine Rd.or_ ?_ | with_reducible refine Rd.not_ ?_ | with_reducible refine Rd.drop ?_ | with_reducible refine Rd.ret ?_ | with_reducible refine Rd.next ?_ | with_reducible refine Rd.callS ?_ | with_reducible refine Rd.mkS ?_ | with_reducible refine Rd.mkKS ?_ | with_reducible refine Rd.mkK ?_ | with_reducible refine Rd.callN ?_ | with_reducible refine Rd.catQI ?_ | with_reducible refine Rd.revN ?_ | with_reducible refine Rd.lzip ?_ | with_reducible refine Rd.fld ?_ | with_reducible refine Rd.sfld ?_ | with_reducible refine Rd.meth ?_ | with_reducible refine Rd.make ?_ | with_reducible refine Rd.izip ?_ | with_reducible refine Rd.dnew ?_ | with_reducible refine Rd.din ?_ | with_reducible refine Rd.dnot ?_ | with_reducible refine Rd.dget ?_ | with_reducible refine Rd.dget2 ?_ | with_reducible refine Rd.dput ?_ | with_reducible refine Rd.cbDictOf ?_ | with_reducible refine Rd.iitems ?_ | with_reducible refine Rd.ikeys ?_ | with_reducible refine Rd.dc ?_ | with_reducible refine Rd.nwD ?_ | with_reducible refine Rd.tupN ?_ | with_reducible refine Rd.lstN ?_ | with_reducible refine Rd.cbListOf ?_ | with_reducible refine Rd.cbListOfR ?_ | with_reducible refine Rd.catI ?_ | with_reducible refine Rd.slN ?_ | with_reducible refine Rd.cbSrtI ?_ | with_reducible refine Rd.brk ?_ | with_reducible refine Rd.cont ?_ | with_reducible refine Rd.retN ?_ | with_reducible refine Rd.ife ?_ | with_reducible refine Rd.andV ?_ | with_reducible refine Rd.orV ?_ | with_reducible refine Rd.notV ?_ | with_reducible refine Rd.un ?_ | with_reducible refine Rd.U ?_ | with_reducible refine Rd.ip ?_ | with_reducible refine Rd.call ?_ | with_reducible refine Rd.cb ?_ | with_reducible refine Rd.bm ?_ | with_reducible refine Rd.bm0 ?_ | with_reducible refine Rd.nopart ?_ | with_reducible refine Rd.part ?_ | with_reducible refine Rd.int1 ?_ | with_reducible refine Rd.ints1 ?_ | with_reducible refine Rd.ints2 ?_ | with_reducible refine Rd.gcons ?_ | with_reducible refine Rd.gnil ?_ | with_reducible refine Rd.sub ?_ | with_reducible refine Rd.isN ?_ | with_reducible refine Rd.chain ?_ | with_reducible refine Rd.rf ?_ | with_reducible refine Rd.tyS ?_ | with_reducible refine Rd.intI ?_ | with_reducible refine Rd.lc ?_ | with_reducible refine Rd.for_ ?_ | with_reducible refine Rd.ilist ?_ | with_reducible refine Rd.itup ?_ | with_reducible refine Rd.irng1 ?_ | with_reducible refine Rd.irng2 ?_ | with_reducible refine Rd.ienum ?_ | with_reducible refine Rd.istr ?_ | with_reducible refine Rd.refA ?_ | with_reducible refine Rd.strA ?_ | with_reducible refine Rd.yes ?_ | with_reducible refine Rd.ifT ?_ | with_reducible refine Rd.ifF ?_ | with_reducible refine Rd.ifnT ?_ | with_reducible refine Rd.ifnF ?_ | with_reducible refine Rd.sl ?_ | ((with_reducible apply Rd.glst); (first | assumption | exact upd_same); exact rfl) | ((with_reducible apply Rd.gtP); assumption; assumption) | ((with_reducible apply Rd.revq); first | assumption | exact SqL.of (by assumption)) | ((with_reducible apply Rd.fldI); (first | assumption | exact upd_same); assumption; assumption; (first | assumption | with_unfolding_all rfl)) | ((with_reducible apply Rd.methI); (first | assumption | exact upd_same); (first | assumption | with_unfolding_all rfl)) | ((with_reducible apply Rd.sfldI); (first | assumption | exact upd_same); assumption; assumption; exact Nat.le_of_ble_eq_true rfl) | ((with_reducible apply Rd.maxL); assumption) | ((with_reducible apply Rd.anyL); assumption) | ((with_reducible apply Rd.sumL); assumption) | ((with_reducible refine Rd.izI (by assumption) (by assumption) ?_)) | with_reducible refine Rd.mch ?_ | with_reducible refine Rd.mchI ?_ | with_reducible refine Rd.mchRest ?_ | with_reducible refine Rd.mtq ?_ | with_reducible refine Rd.mtRest ?_ | with_reducible refine Rd.mtEnd ?_ | with_reducible refine Rd.tbC ?_ | with_reducible refine Rd.tbT ?_ | with_reducible refine Rd.tbA ?_ | with_reducible refine Rd.tbN ?_ | with_reducible refine Rd.mto ?_ | with_reducible refine Rd.mtoI ?_ | with_reducible refine Rd.moRest ?_ | with_reducible refine Rd.moEnd ?_ | ((with_reducible apply Rd.mtqI); (first | assumption | exact SqT.of upd_same | exact SqT.of (by assumption)); exact Nat.le_of_ble_eq_true rfl) | ((with_reducible refine Rd.mtLen ?_ ?_); exact rfl) | ((with_reducible refine Rd.mtYes ?_ ?_); exact rfl) | ((with_reducible refine Rd.mtNo ?_ ?_); (first | assumption | decide +kernel)) | ((with_reducible refine Rd.mtOY ?_ ?_); exact rfl) | ((with_reducible refine Rd.mtON ?_ ?_); exact rfl) | ((with_reducible refine Rd.eq ?_ ?_); exact rfl) | ((with_reducible refine Rd.ne ?_ ?_); exact rfl) | ((with_reducible refine Rd.szA ?_ ?_); exact Nat.le_of_ble_eq_true rfl) | ((with_reducible refine Rd.I ?_ ?_); first | assumption | decide | exact Or.inr (by decide +kernel) | exact Or.inl (by decide +kernel) | exact ⟨by decide, by decide⟩ | exact ⟨by decide, by decide, by decide⟩ | omega | exact ⟨by omega, by omega⟩) | ((with_reducible apply Rd.tyL); first | assumption | exact upd_same) | ((with_reducible apply Rd.tyLq); assumption) | ((with_reducible apply Rd.ixL); (first | assumption | exact upd_same); exact rfl) | ((with_reducible apply Rd.ixT); (first | assumption | exact upd_same); exact rfl) | ((with_reducible apply Rd.ixLq); assumption; exact rfl) | ((with_reducible apply Rd.ixTq); assumption; exact rfl) | ((with_reducible apply Rd.gtup); (first | assumption | exact upd_same); exact rfl) | ((with_reducible apply Rd.gtupq); assumption; exact rfl) | ((with_reducible apply Rd.sqAq); assumption) | ((with_reducible apply Rd.stAq); assumption) | ((with_reducible apply Rd.enAq); assumption) | ((with_reducible apply Rd.lenLq); assumption) | ((with_reducible apply Rd.lenTq); assumption) | ((with_reducible apply Rd.sqA); first | assumption | exact upd_same) | ((with_reducible apply Rd.stA); first | assumption | exact upd_same) | ((with_reducible apply Rd.enA); first | assumption | exact upd_same) | ((with_reducible apply Rd.lenL); first | assumption | exact upd_same) | ((with_reducible apply Rd.lenT); first | assumption | exact upd_same) | ((with_reducible refine Rd.nwT ?_ ?_); exact Nat.le_of_ble_eq_true rfl) | ((with_reducible refine Rd.nwL ?_ ?_); exact Nat.le_of_ble_eq_true rfl) | ((with_reducible apply Rd.isd); assumption) | ((with_reducible apply Rd.dictOf); assumption) | ((with_reducible apply Rd.itA); first | assumption | exact upd_same) | ((with_reducible apply Rd.ikA); first | assumption | exact upd_same) | ((with_reducible apply Rd.listOf); assumption) | ((with_reducible apply Rd.listOfq); assumption) | ((with_reducible apply Rd.slo); assumption) | ((with_reducible apply Rd.slq); assumption) | ((with_reducible apply Rd.srtI); assumption) | ((with_reducible apply Rd.srtIo); assumption) | ((with_reducible refine Rd.gdI ?_); (first | with_reducible refine Rd.isi_ii ?_ | with_reducible refine Rd.isi_ib ?_ | with_reducible refine Rd.isi_is ?_ | with_reducible refine Rd.isi_il ?_ | with_reducible refine Rd.isi_it ?_ | with_reducible refine Rd.isi_id ?_ | with_reducible refine Rd.isi_bi ?_ | with_reducible refine Rd.isi_bb ?_ | with_reducible refine Rd.isi_bs ?_ | with_reducible refine Rd.isi_bl ?_ | with_reducible refine Rd.isi_bt ?_ | with_reducible refine Rd.isi_bd ?_ | with_reducible refine Rd.isi_si ?_ | with_reducible refine Rd.isi_sb ?_ | with_reducible refine Rd.isi_ss ?_ | with_reducible refine Rd.isi_sl ?_ | with_reducible refine Rd.isi_st ?_ | with_reducible refine Rd.isi_sd ?_ | with_reducible refine Rd.isi_ni ?_ | with_reducible refine Rd.isi_nb ?_ | with_reducible refine Rd.isi_ns ?_ | with_reducible refine Rd.isi_nl ?_ | with_reducible refine Rd.isi_nt ?_ | with_reducible refine Rd.isi_nd ?_ | ((with_reducible refine Rd.isi_dd (by assumption) ?_)) | ((with_reducible refine Rd.isi_li (by assumption) ?_)) | ((with_reducible refine Rd.isi_lb (by assumption) ?_)) | ((with_reducible refine Rd.isi_ls (by assumption) ?_)) | ((with_reducible refine Rd.isi_ll (by assumption) ?_)) | ((with_reducible refine Rd.isi_lt (by assumption) ?_)) | ((with_reducible refine Rd.isi_ld (by assumption) ?_)) | ((with_reducible refine Rd.isi_ti (by assumption) ?_)) | ((with_reducible refine Rd.isi_tb (by assumption) ?_)) | ((with_reducible refine Rd.isi_ts (by assumption) ?_)) | ((with_reducible refine Rd.isi_tl (by assumption) ?_)) | ((with_reducible refine Rd.isi_tt (by assumption) ?_)) | ((with_reducible refine Rd.isi_td (by assumption) ?_)))) | ((with_reducible refine Rd.gdG ?_); (first | with_reducible refine Rd.g0 ?_ | with_reducible refine Rd.g1 ?_ | with_reducible refine Rd.g2 ?_ | with_reducible refine Rd.g3 ?_ | with_reducible refine Rd.g4 ?_ | with_reducible refine Rd.g5 ?_ | with_reducible refine Rd.g6 ?_ | with_reducible refine Rd.g7 ?_ | with_reducible refine Rd.g8 ?_ | with_reducible refine Rd.g9 ?_ | with_reducible refine Rd.g10 ?_ | with_reducible refine Rd.g11 ?_ | with_reducible refine Rd.g12 ?_ | with_reducible refine Rd.g13 ?_ | with_reducible refine Rd.g14 ?_ | with_reducible refine Rd.g15 ?_ | with_reducible refine Rd.g16 ?_ | with_reducible refine Rd.g17 ?_ | with_reducible refine Rd.g18 ?_ | with_reducible refine Rd.g19 ?_ | with_reducible refine Rd.g20 ?_ | with_reducible refine Rd.g21 ?_ | with_reducible refine Rd.g22 ?_ | with_reducible refine Rd.g23 ?_ | with_reducible refine Rd.g24 ?_ | with_reducible refine Rd.g25 ?_ | with_reducible refine Rd.g26 ?_ | with_reducible refine Rd.g27 ?_)))))







theorem ex_calc {c : Cost} {nm op : Str} {lh : Bool} {z : Int} (h : nm = "calc") (e : calcCost c op = z) : exCost c nm op lh = z := by
  subst h
  unfold exCost; rw [if_neg (by decide +kernel), if_neg (by decide +kernel), if_pos (by decide +kernel), e]
section
variable {P : Program} {w : World} {K : PySem.W.Frag} {mg : Str → Option Value} {base : Heap}
def sp__law_base (K : PySem.W.Frag) (C : Addr) : Sp := fun vs H Q _ => ∃ (o u : Addr) (c : Cost) (i : InsR) (lh : Bool), vs = [.ref o, .ref u, .bl lh] ∧ CostsAt C H o c ∧ InsX K H u i ∧ i.op ≠ "mod" ∧ ∀ H', Same H H' → Q (.int (lBase c i lh)) H'
theorem ok__law_base (T : Top P K mg) : FnOk P w K mg base CX0 1 T.a__law_base T.d__law_base ["_law_costs_here", "_law_instruction_here", "_law_hit"]  (sp__law_base K T.C_Costs) := by
  refine T.F__law_base.ok sc__law_base (fun vs H Q E h => ?_) (fun cdv A outer s H vs Q E hr h => ?_)
  · obtain ⟨_, _, _, _, _, rfl, _⟩ := h
    rfl
  · obtain ⟨o, u, c, i, lh, rfl, hc, ⟨xs, ht, h0, h1, _⟩, om, q⟩ := h
    refine ⟨_, (pss_cons (ps_set (i := 3) sc__law_base.nd rfl (by first | exact Or.inl rfl | exact Or.inr rfl) (pe_ix ix_tup (pv 1) pe_int (fun _ _ => rfl)))
  (pss_cons (ps_if (pw_and (pt_cmpR op_eq (pv 3) pe_str (nomark _)) (pw_and1 (pt_cmpR op_eq (pe_ix ix_tup (pv 1) pe_int (fun _ _ => rfl)) pe_str (nomark _)))).pt
  (pss_one (ps_ret (pe_fld (pv 0) rfl)))
  pss_nil)
  (pss_cons (ps_if (pw_and (pt_cmpR op_eq (pv 3) pe_str (nomark _)) (pw_and1 (pt_cmpR op_eq (pe_ix ix_tup (pv 1) pe_int (fun _ _ => rfl)) pe_str (nomark _)))).pt
  (pss_one (ps_ret (pe_fld (pv 0) rfl)))
  pss_nil)
  (pss_cons (ps_if (pt_cmpR op_in_seq (pv 3) (pe_tup (pa_cons pe_str (pa_cons pe_str pa_nil))) (by with_unfolding_all rfl))
  (pss_one (ps_ret (pe_ifExp (pt_val (pv 2)) (pe_fld (pv 0) rfl) (pe_fld (pv 0) rfl))))
  pss_nil)
  (pss_cons (ps_if (pt_cmpR op_in_seq (pv 3) (pe_tup (pa_cons pe_str (pa_cons pe_str pa_nil))) (by with_unfolding_all rfl))
  (pss_one (ps_ret (pe_fld (pv 0) rfl)))
  pss_nil)
  (pss_cons (ps_if (pt_cmpR op_in_seq (pv 3) (pe_tup (pa_cons pe_str (pa_cons pe_str pa_nil))) (by with_unfolding_all rfl))
  (pss_one (ps_ret (pe_fld (pv 0) rfl)))
  pss_nil)
  (pss_cons (ps_if (pt_cmpR op_in_seq (pv 3) (pe_tup (pa_cons pe_str (pa_cons pe_str pa_nil))) (by with_unfolding_all rfl))
  (pss_one (ps_ret (pe_fld (pv 0) rfl)))
  pss_nil)
  (pss_cons (ps_if (pt_cmpR op_in_seq (pv 3) (pe_tup (pa_cons pe_str (pa_cons pe_str pa_nil))) (by with_unfolding_all rfl))
  (pss_one (ps_ret (pe_op op_add (pe_fld (pv 0) rfl) (pe_fld (pv 0) rfl))))
  pss_nil)
  (pss_cons (ps_if (pt_cmpR op_eq (pv 3) pe_str (nomark _))
  (pss_one (ps_ret (pe_op op_add (pe_fld (pv 0) rfl) (pe_fld (pv 0) rfl))))
  pss_nil)
  (pss_cons (ps_if (pt_cmpR op_eq (pv 3) pe_str (nomark _))
  (pss_one (ps_ret (pe_op op_add (pe_fld (pv 0) rfl) (pe_fld (pv 0) rfl))))
  pss_nil)
  (pss_cons (ps_if (pt_cmpR op_eq (pv 3) pe_str (nomark _))
  (pss_one (ps_ret (pe_op op_add (pe_fld (pv 0) rfl) (pe_fld (pv 0) rfl))))
  pss_nil)
  (pss_one (ps_ret (pe_fld (pv 0) rfl)))))))))))))), ?_⟩
    rw [show ∀ a0 a1 a2 : V, L2.start ["_law_costs_here", "_law_instruction_here", "_law_hit", "_law_kind"] [a0, a1, a2] = [some a0, some a1, some a2, none] from fun _ _ _ => rfl]
    have b0 := Rd.at_val (j := 0) (xs := xs) rfl h0
    obtain ⟨l1, l2, l3, l4, l5, l6, l7, l8, l9, l10, l11⟩ := @Cost.look c
    obtain ⟨l12, l13, l14, l15, l16⟩ := @Cost.look2 c
    have cl := T.cl_Costs
    have n0 := T.n_Costs_fetch_hit
    have n1 := T.n_Costs_fetch_miss
    have n2 := T.n_Costs_plain
    have n3 := T.n_Costs_mul
    have n4 := T.n_Costs_div
    have n5 := T.n_Costs_load_hit
    have n6 := T.n_Costs_load_miss
    have n7 := T.n_Costs_store
    have n8 := T.n_Costs_taken
    have n9 := T.n_Costs_count
    have n10 := T.n_Costs_port
    have n11 := T.n_Costs_release
    have n12 := T.n_Costs_switch
    have n13 := T.n_Costs_enter
    have n14 := T.n_Costs_leave
    have n15 := T.n_Costs_finish
    obtain ⟨dx, ho⟩ := id hc
    have q : ∀ (ex x : Int) H', Same H H' → exCost c i.nm i.op lh = ex → (if i.nm ∈ (["link", "back"] : List Str) then c.tk else if i.nm = "enter" then c.en else if i.nm = "leave" then c.lv else if i.nm = "done" then c.fi else 0) = x → Q (.int (ex + x)) H' := fun ex x H' s e1 e2 => by
      have := q H' s
      unfold lBase at this
      rw [e1, e2] at this
      exact this
    have q0 : ∀ (ex : Int) H', Same H H' → exCost c i.nm i.op lh = ex → i.nm ∉ (["link", "back", "enter", "leave", "done"] : List Str) → Q (.int ex) H' := fun ex H' s e1 e2 => by
      have := q ex 0 H' s e1 (by
        simp only [List.mem_cons, List.mem_nil_iff, or_false, not_or] at e2 ⊢
        rw [if_neg (by rintro (z | z); exact e2.1 z; exact e2.2.1 z), if_neg e2.2.2.1, if_neg e2.2.2.2.1, if_neg e2.2.2.2.2])
      rw [Int.add_zero] at this
      exact this
    walk_at "my rn"
    refine Rd.ixTq ht b0 ?_
    walk_at "my rn"
    have tail_ : ∀ (P1 : Prop), P1 → P1 := fun _ h => h
    by_cases ec : i.nm = "calc"
    · have h1' := Rd.at_val (j := 1) (xs := xs) rfl (h1 ec)
      have nin : i.nm ∉ (["link", "back", "enter", "leave", "done"] : List Str) := by rw [ec]; decide +kernel
      rw [decide_eq_true (by rw [ec])]
      refine Rd.ifT ?_
      walk_at "my rn"
      refine Rd.ixTq ht h1' ?_
      walk_at "my rn"
      refine ifD (fun e1 => ?_) (fun e1 => ?_)
      · walk_at "my rn"
        exact q0 _ H (Same.refl _) (ex_calc ec (by unfold calcCost; rw [if_pos (V.str.inj e1)])) nin
      · walk_at "my rn"
        rw [decide_eq_true (by rw [ec])]
        refine Rd.ifT ?_
        walk_at "my rn"
        refine Rd.ixTq ht h1' ?_
        walk_at "my rn"
        refine ifD (fun e2 => ?_) (fun e2 => ?_)
        · walk_at "my rn"
          exact q0 _ H (Same.refl _) (ex_calc ec (by unfold calcCost; rw [if_neg (fun z => e1 (by rw [z])), if_pos (.inl (V.str.inj e2))])) nin
        · have fin_ : ∀ H', Same H H' → Q (.int c.pl) H' := fun H' s => q0 _ H' s (ex_calc ec (by unfold calcCost; rw [if_neg (fun z => e1 (by rw [z])), if_neg (fun z => z.elim (fun z => e2 (by rw [z])) om)])) nin
          walk_at "my rn"
          intro b1 H1 m1 t1 g1
          refine Rd.inStrT ["load", "loadx"] (SqT.of g1) ?_
          walk_at "my rn"
          rw [decide_eq_false (by rw [ec]; decide +kernel)]
          refine Rd.ifF ?_
          walk_at "my rn"
          intro b2 H2 m2 t2 g2
          refine Rd.inStrT ["store", "storex"] (SqT.of g2) ?_
          walk_at "my rn"
          rw [decide_eq_false (by rw [ec]; decide +kernel)]
          refine Rd.ifF ?_
          walk_at "my rn"
          intro b3 H3 m3 t3 g3
          refine Rd.inStrT ["count", "again"] (SqT.of g3) ?_
          walk_at "my rn"
          rw [decide_eq_false (by rw [ec]; decide +kernel)]
          refine Rd.ifF ?_
          walk_at "my rn"
          intro b4 H4 m4 t4 g4
          refine Rd.inStrT ["in", "out"] (SqT.of g4) ?_
          walk_at "my rn"
          rw [decide_eq_false (by rw [ec]; decide +kernel)]
          refine Rd.ifF ?_
          walk_at "my rn"
          intro b5 H5 m5 t5 g5
          refine Rd.inStrT ["link", "back"] (SqT.of g5) ?_
          walk_at "my rn"
          rw [decide_eq_false (by rw [ec]; decide +kernel)]
          refine Rd.ifF ?_
          walk_at "my rn"
          rw [decide_eq_false (by rw [ec]; decide +kernel)]
          refine Rd.ifF ?_
          have ho5 := t5 _ _ (t4 _ _ (t3 _ _ (t2 _ _ (t1 _ _ ho))))
          walk_at "my rn"
          rw [decide_eq_false (by rw [ec]; decide +kernel)]
          refine Rd.ifF ?_
          walk_at "my rn"
          rw [decide_eq_false (by rw [ec]; decide +kernel)]
          refine Rd.ifF ?_
          walk_at "my rn"
          exact fin_ H5 (t1.trans (t2.trans (t3.trans (t4.trans t5))))
    · rw [decide_eq_false (fun z => ec (V.str.inj z))]
      refine Rd.ifF ?_
      walk_at "my rn"
      rw [decide_eq_false (fun z => ec (V.str.inj z))]
      refine Rd.ifF ?_
      walk_at "my rn"
      intro b1 H1 m1 t1 g1
      have ho1 := t1 _ _ ho
      refine Rd.inStrT ["load", "loadx"] (SqT.of g1) ?_
      walk_at "my rn"
      refine ifD (fun e1 => ?_) (fun e1 => ?_)
      · have nin : i.nm ∉ (["link", "back", "enter", "leave", "done"] : List Str) := by
          simp only [List.mem_cons, List.mem_nil_iff, or_false] at e1
          rcases e1 with z | z <;> (rw [z]; decide +kernel)
        walk_at "my rn"
        refine Rd.ifB (fun e9 => ?_) fun e9 => ?_
        · walk_at "my rn"
          exact q0 _ _ t1 (by unfold exCost; rw [if_pos e1, if_pos e9]) nin
        · walk_at "my rn"
          exact q0 _ _ t1 (by unfold exCost; rw [if_pos e1, if_neg (by rw [e9]; simp)]) nin
      · walk_at "my rn"
        intro b2 H2 m2 t2 g2
        have s2 := t1.trans t2
        have ho2 := t2 _ _ ho1
        refine Rd.inStrT ["store", "storex"] (SqT.of g2) ?_
        walk_at "my rn"
        refine ifD (fun e2 => ?_) (fun e2 => ?_)
        · have nin : i.nm ∉ (["link", "back", "enter", "leave", "done"] : List Str) := by
            simp only [List.mem_cons, List.mem_nil_iff, or_false] at e2
            rcases e2 with z | z <;> (rw [z]; decide +kernel)
          walk_at "my rn"
          exact q0 _ _ s2 (by unfold exCost; rw [if_neg e1, if_pos e2]) nin
        · walk_at "my rn"
          intro b3 H3 m3 t3 g3
          have s3 := s2.trans t3
          have ho3 := t3 _ _ ho2
          refine Rd.inStrT ["count", "again"] (SqT.of g3) ?_
          walk_at "my rn"
          refine ifD (fun e3 => ?_) (fun e3 => ?_)
          · have nin : i.nm ∉ (["link", "back", "enter", "leave", "done"] : List Str) := by
              simp only [List.mem_cons, List.mem_nil_iff, or_false] at e3
              rcases e3 with z | z <;> (rw [z]; decide +kernel)
            walk_at "my rn"
            exact q0 _ _ s3 (by unfold exCost; rw [if_neg e1, if_neg e2, if_neg (by simpa using ec), if_pos e3]) nin
          · walk_at "my rn"
            intro b4 H4 m4 t4 g4
            have s4 := s3.trans t4
            have ho4 := t4 _ _ ho3
            refine Rd.inStrT ["in", "out"] (SqT.of g4) ?_
            walk_at "my rn"
            refine ifD (fun e4 => ?_) (fun e4 => ?_)
            · have nin : i.nm ∉ (["link", "back", "enter", "leave", "done"] : List Str) := by
                simp only [List.mem_cons, List.mem_nil_iff, or_false] at e4
                rcases e4 with z | z <;> (rw [z]; decide +kernel)
              walk_at "my rn"
              exact q0 _ _ s4 (by unfold exCost; rw [if_neg e1, if_neg e2, if_neg (by simpa using ec), if_neg e3, if_pos e4]) nin
            · have epl : exCost c i.nm i.op lh = c.pl := by unfold exCost; rw [if_neg e1, if_neg e2, if_neg (by simpa using ec), if_neg e3, if_neg e4]
              walk_at "my rn"
              intro b5 H5 m5 t5 g5
              have s5 := s4.trans t5
              have ho5 := t5 _ _ ho4
              refine Rd.inStrT ["link", "back"] (SqT.of g5) ?_
              walk_at "my rn"
              refine ifD (fun e5 => ?_) (fun e5 => ?_)
              · walk_at "my rn"
                exact q _ _ _ s5 epl (by rw [if_pos e5])
              · walk_at "my rn"
                refine ifD (fun e6 => ?_) (fun e6 => ?_)
                · walk_at "my rn"
                  exact q _ _ _ s5 epl (by rw [if_neg e5, if_pos (V.str.inj e6)])
                · walk_at "my rn"
                  refine ifD (fun e7 => ?_) (fun e7 => ?_)
                  · walk_at "my rn"
                    exact q _ _ _ s5 epl (by rw [if_neg e5, if_neg (fun z => e6 (by rw [z])), if_pos (V.str.inj e7)])
                  · walk_at "my rn"
                    refine ifD (fun e8 => ?_) (fun e8 => ?_)
                    · walk_at "my rn"
                      exact q _ _ _ s5 epl (by rw [if_neg e5, if_neg (fun z => e6 (by rw [z])), if_neg (fun z => e7 (by rw [z])), if_pos (V.str.inj e8)])
                    · walk_at "my rn"
                      have := q _ 0 _ s5 epl (by rw [if_neg e5, if_neg (fun z => e6 (by rw [z])), if_neg (fun z => e7 (by rw [z])), if_neg (fun z => e8 (by rw [z]))])
                      rw [Int.add_zero] at this
                      exact this
end

end Mine


set_option Elab.async false
set_option linter.all false
set_option maxRecDepth 100000
set_option maxHeartbeats 400000


--@@guards
namespace Mine
open PySem PySem.Spec PyProof.Rows L2 Rd
local macro_rules | `(tactic| walk_at "my rn") => `(tactic| (repeat (first | ((with_reducible apply Rd.vv); exact rfl) | with_reducible refine Rd.c_ ?_ | with_reducible refine Rd.cons ?_ | with_reducible refine Rd.nil ?_ | with_reducible refine Rd.seq ?_ | with_reducible refine Rd.asg ?_ | ((with_reducible refine Rd.gdN ?_); (first | with_reducible refine Rd.n0 ?_ | with_reducible refine Rd.n1 ?_ | with_reducible refine Rd.n2 ?_ | with_reducible refine Rd.n3 ?_ | with_reducible refine Rd.n4 ?_ | with_reducible refine Rd.n5 ?_ | with_reducible refine Rd.n6 ?_ | with_reducible refine Rd.n7 ?_ | with_reducible refine Rd.n8 ?_ | with_reducible refine Rd.n9 ?_ | with_reducible refine Rd.n10 ?_ | with_reducible refine Rd.n11 ?_ | with_reducible refine Rd.n12 ?_ | with_reducible refine Rd.n13 ?_ | with_reducible refine Rd.n14 ?_ | with_reducible refine Rd.n15 ?_ | with_reducible refine Rd.n16 ?_ | with_reducible refine Rd.n17 ?_ | with_reducible refine Rd.n18 ?_ | with_reducible refine Rd.n19 ?_ | with_reducible refine Rd.n20 ?_ | with_reducible refine Rd.n21 ?_ | with_reducible refine Rd.n22 ?_ | with_reducible refine Rd.n23 ?_ | with_reducible refine Rd.n24 ?_ | with_reducible refine Rd.n25 ?_ | with_reducible refine Rd.n26 ?_ | with_reducible refine Rd.n27 ?_)) | with_reducible refine Rd.test ?_ | with_reducible refine Rd.tb_ ?_ | with_reducible refine Rd.op ?_ | with_reducible refine Rd.I0 ?_ | with_reducible refine Rd.bl ?_ | with_reducible refine Rd.bl2 ?_ | with_reducible refine Rd.ifs ?_ | with_reducible refine Rd.and_ ?_ | with_reducible refine Rd.or_ ?_ | with_reducible refine Rd.not_ ?_ | with_reducible refine Rd.drop ?_ | with_reducible refine Rd.ret ?_ | with_reducible refine Rd.next ?_ | with_reducible refine Rd.callS ?_ | with_reducible refine Rd.mkS ?_ | with_reducible refine Rd.mkKS ?_ | with_reducible refine Rd.mkK ?_ | with_reducible refine Rd.callN ?_ | with_reducible refine Rd.catQI ?_ | with_reducible refine Rd.revN ?_ | with_reducible refine Rd.lzip ?_ | with_reducible refine Rd.fld ?_ | with_reducible refine Rd.sfld ?_ | with_reducible refine Rd.meth ?_ | with_reducible refine Rd.make ?_ | with_reducible refine Rd.izip ?_ | with_reducible refine Rd.dnew ?_ | with_reducible refine Rd.din ?_ | with_reducible refine Rd.dnot ?_ | with_reducible refine Rd.dget ?_ | with_reducible refine Rd.dget2 ?_ | with_reducible refine Rd.dput ?_ | with_reducible refine Rd.cbDictOf ?_ | with_reducible refine Rd.iitems ?_ | with_reducible refine Rd.ikeys ?_ | with_reducible refine Rd.dc ?_ | with_reducible refine Rd.nwD ?_ | with_reducible refine Rd.tupN ?_ | with_reducible refine Rd.lstN ?_ | with_reducible refine Rd.cbListOf ?_ | with_reducible refine Rd.cbListOfR ?_ | with_reducible refine Rd.catI ?_ | with_reducible refine Rd.slN ?_ | with_reducible refine Rd.cbSrtI ?_ | with_reducible refine Rd.brk ?_ | with_reducible refine Rd.cont ?_ | with_reducible refine Rd.retN ?_ | with_reducible refine Rd.ife ?_ | with_reducible refine Rd.andV ?_ | with_reducible refine Rd.orV ?_ | with_reducible refine Rd.notV ?_ | with_reducible refine Rd.un ?_ | with_reducible refine Rd.U ?_ | with_reducible refine Rd.ip ?_ | with_reducible refine Rd.call ?_ | with_reducible refine Rd.cb ?_ | with_reducible refine Rd.bm ?_ | with_reducible refine Rd.bm0 ?_ | with_reducible refine Rd.nopart ?_ | with_reducible refine Rd.part ?_ | with_reducible refine Rd.int1 ?_ | with_reducible refine Rd.ints1 ?_ | with_reducible refine Rd.ints2 ?_ | with_reducible refine Rd.gcons ?_ | with_reducible refine Rd.gnil ?_ | with_reducible refine Rd.sub ?_ | with_reducible refine Rd.isN ?_ | with_reducible refine Rd.chain ?_ | with_reducible refine Rd.rf ?_ | with_reducible refine Rd.tyS ?_ | with_reducible refine Rd.intI ?_ | with_reducible refine Rd.lc ?_ | with_reducible refine Rd.for_ ?_ | with_reducible refine Rd.ilist ?_ | with_reducible refine Rd.itup ?_ | with_reducible refine Rd.irng1 ?_ | with_reducible refine Rd.irng2 ?_ | with_reducible refine Rd.ienum ?_ | with_reducible refine Rd.istr ?_ | with_reducible refine Rd.refA ?_ | with_reducible refine Rd.strA ?_ | with_reducible refine Rd.yes ?_ | with_reducible refine Rd.ifT ?_ | with_reducible refine Rd.ifF ?_ | with_reducible refine Rd.ifnT ?_ | with_reducible refine Rd.ifnF ?_ | with_reducible refine Rd.sl ?_ | ((with_reducible apply Rd.glst); (first | assumption | exact upd_same); exact rfl) | ((with_reducible apply Rd.gtP); assumption; assumption) | ((with_reducible apply Rd.revq); first | assumption | exact SqL.of (by assumption)) | ((with_reducible apply Rd.fldI); (first | assumption | exact upd_same); assumption; assumption; (first | assumption | with_unfolding_all rfl)) | ((with_reducible apply Rd.methI); (first | assumption | exact upd_same); (first | assumption | with_unfolding_all rfl)) | ((with_reducible apply Rd.sfldI); (first | assumption | exact upd_same); assumption; assumption; exact Nat.le_of_ble_eq_true rfl) | ((with_reducible apply Rd.maxL); assumption) | ((with_reducible apply Rd.anyL); assumption) | ((with_reducible apply Rd.sumL); assumption) | ((with_reducible refine Rd.izI (by assumption) (by assumption) ?_)) | with_reducible refine Rd.mch ?_ | with_reducible refine Rd.mchI ?_ | with_reducible refine Rd.mchRest ?_ | with_reducible refine Rd.mtq ?_ | with_reducible refine Rd.mtRest ?_ | with_reducible refine Rd.mtEnd ?_ | with_reducible refine Rd.tbC ?_ | with_reducible refine Rd.tbT ?_ | with_reducible refine Rd.tbA ?_ | with_reducible refine Rd.tbN ?_ | with_reducible refine Rd.mto ?_ | with_reducible refine Rd.mtoI ?_ | with_reducible refine Rd.moRest ?_ | with_reducible refine Rd.moEnd ?_ | ((with_reducible apply Rd.mtqI); (first | assumption | exact SqT.of upd_same | exact SqT.of (by assumption)); exact Nat.le_of_ble_eq_true rfl) | ((with_reducible refine Rd.mtLen ?_ ?_); exact rfl) | ((with_reducible refine Rd.mtYes ?_ ?_); exact rfl) | ((with_reducible refine Rd.mtNo ?_ ?_); (first | assumption | decide +kernel)) | ((with_reducible refine Rd.mtOY ?_ ?_); exact rfl) | ((with_reducible refine Rd.mtON ?_ ?_); exact rfl) | ((with_reducible refine Rd.eq ?_ ?_); exact rfl) | ((with_reducible refine Rd.ne ?_ ?_); exact rfl) | ((with_reducible refine Rd.szA ?_ ?_); exact Nat.le_of_ble_eq_true rfl) | ((with_reducible refine Rd.I ?_ ?_); first | assumption | decide | exact Or.inr (by decide +kernel) | exact Or.inl (by decide +kernel) | exact ⟨by decide, by decide⟩ | exact ⟨by decide, by decide, by decide⟩ | omega | exact ⟨by omega, by omega⟩) | ((with_reducible apply Rd.tyL); first | assumption | exact upd_same) | ((with_reducible apply Rd.tyLq); assumption) | ((with_reducible apply Rd.ixL); (first | assumption | exact upd_same); exact rfl) | ((with_reducible apply Rd.ixT); (first | assumption | exact upd_same); exact rfl) | ((with_reducible apply Rd.ixLq); assumption; exact rfl) | ((with_reducible apply Rd.ixTq); assumption; exact rfl) | ((with_reducible apply Rd.gtup); (first | assumption | exact upd_same); exact rfl) | ((with_reducible apply Rd.gtupq); assumption; exact rfl) | ((with_reducible apply Rd.sqAq); assumption) | ((with_reducible apply Rd.stAq); assumption) | ((with_reducible apply Rd.enAq); assumption) | ((with_reducible apply Rd.lenLq); assumption) | ((with_reducible apply Rd.lenTq); assumption) | ((with_reducible apply Rd.sqA); first | assumption | exact upd_same) | ((with_reducible apply Rd.stA); first | assumption | exact upd_same) | ((with_reducible apply Rd.enA); first | assumption | exact upd_same) | ((with_reducible apply Rd.lenL); first | assumption | exact upd_same) | ((with_reducible apply Rd.lenT); first | assumption | exact upd_same) | ((with_reducible refine Rd.nwT ?_ ?_); exact Nat.le_of_ble_eq_true rfl) | ((with_reducible refine Rd.nwL ?_ ?_); exact Nat.le_of_ble_eq_true rfl) | ((with_reducible apply Rd.isd); assumption) | ((with_reducible apply Rd.dictOf); assumption) | ((with_reducible apply Rd.itA); first | assumption | exact upd_same) | ((with_reducible apply Rd.ikA); first | assumption | exact upd_same) | ((with_reducible apply Rd.listOf); assumption) | ((with_reducible apply Rd.listOfq); assumption) | ((with_reducible apply Rd.slo); assumption) | ((with_reducible apply Rd.slq); assumption) | ((with_reducible apply Rd.srtI); assumption) | ((with_reducible apply Rd.srtIo); assumption) | ((with_reducible refine Rd.gdI ?_); (first | with_reducible refine Rd.isi_ii ?_ | with_reducible refine Rd.isi_ib ?_ | with_reducible refine Rd.isi_is ?_ | with_reducible refine Rd.isi_il ?_ | with_reducible refine Rd.isi_it ?_ | with_reducible refine Rd.isi_id ?_ | with_reducible refine Rd.isi_bi ?_ | with_reducible refine Rd.isi_bb ?_ | with_reducible refine Rd.isi_bs ?_ | with_reducible refine Rd.isi_bl ?_ | with_reducible refine Rd.isi_bt ?_ | with_reducible refine Rd.isi_bd ?_ | with_reducible refine Rd.isi_si ?_ | with_reducible refine Rd.isi_sb ?_ | with_reducible refine Rd.isi_ss ?_ | with_reducible refine Rd.isi_sl ?_ | with_reducible refine Rd.isi_st ?_ | with_reducible refine Rd.isi_sd ?_ | with_reducible refine Rd.isi_ni ?_ | with_reducible refine Rd.isi_nb ?_ | with_reducible refine Rd.isi_ns ?_ | with_reducible refine Rd.isi_nl ?_ | with_reducible refine Rd.isi_nt ?_ | with_reducible refine Rd.isi_nd ?_ | ((with_reducible refine Rd.isi_dd (by assumption) ?_)) | ((with_reducible refine Rd.isi_li (by assumption) ?_)) | ((with_reducible refine Rd.isi_lb (by assumption) ?_)) | ((with_reducible refine Rd.isi_ls (by assumption) ?_)) | ((with_reducible refine Rd.isi_ll (by assumption) ?_)) | ((with_reducible refine Rd.isi_lt (by assumption) ?_)) | ((with_reducible refine Rd.isi_ld (by assumption) ?_)) | ((with_reducible refine Rd.isi_ti (by assumption) ?_)) | ((with_reducible refine Rd.isi_tb (by assumption) ?_)) | ((with_reducible refine Rd.isi_ts (by assumption) ?_)) | ((with_reducible refine Rd.isi_tl (by assumption) ?_)) | ((with_reducible refine Rd.isi_tt (by assumption) ?_)) | ((with_reducible refine Rd.isi_td (by assumption) ?_)))) | ((with_reducible refine Rd.gdG ?_); (first | with_reducible refine Rd.g0 ?_ | with_reducible refine Rd.g1 ?_ | with_reducible refine Rd.g2 ?_ | with_reducible refine Rd.g3 ?_ | with_reducible refine Rd.g4 ?_ | with_reducible refine Rd.g5 ?_ | with_reducible refine Rd.g6 ?_ | with_reducible refine Rd.g7 ?_ | with_reducible refine Rd.g8 ?_ | with_reducible refine Rd.g9 ?_ | with_reducible refine Rd.g10 ?_ | with_reducible refine Rd.g11 ?_ | with_reducible refine Rd.g12 ?_ | with_reducible refine Rd.g13 ?_ | with_reducible refine Rd.g14 ?_ | with_reducible refine Rd.g15 ?_ | with_reducible refine Rd.g16 ?_ | with_reducible refine Rd.g17 ?_ | with_reducible refine Rd.g18 ?_ | with_reducible refine Rd.g19 ?_ | with_reducible refine Rd.g20 ?_ | with_reducible refine Rd.g21 ?_ | with_reducible refine Rd.g22 ?_ | with_reducible refine Rd.g23 ?_ | with_reducible refine Rd.g24 ?_ | with_reducible refine Rd.g25 ?_ | with_reducible refine Rd.g26 ?_ | with_reducible refine Rd.g27 ?_)))))







def dueData (S W L : Int) (i : InsR) (n : List (Int × Int)) : List (Int × Int) :=
  if dLines L i = [] then n else if (dLines L i).length = 1 ∧ (i.nm ∈ (["load", "loadx"] : List Str) ∨ (lkN n ((dLines L i).headD 0)).isSome = true) then dueLine S W n ((dLines L i).headD 0)
  else (older S W W ((dLines L i).map (· % S)) n).filter fun q => decide (q.1 ≠ -1)
theorem older_pos {S W lim : Int} {tch : List Int} {m : List (Int × Int)} (pos : ∀ p ∈ m, 0 ≤ p.1) : (older S W lim tch m).filter (fun q => decide (q.1 ≠ -1)) = older S W lim tch m :=
  List.filter_eq_self.mpr fun q hq => by
    obtain ⟨b, hb, _⟩ := older_mem hq
    have := pos _ hb
    simp only at this
    exact decide_eq_true (by omega)
theorem dLines_kind {L : Int} {i : InsR} (h : dLines L i ≠ []) : i.nm ∈ (["load", "loadx"] : List Str) ∨ i.nm ∈ (["store", "storex"] : List Str) := by
  unfold dLines at h
  by_cases e : i.nm ∈ (["load", "store"] : List Str)
  · simp only [List.mem_cons, List.mem_nil_iff, or_false] at e ⊢
    rcases e with e | e
    · exact .inl (.inl e)
    · exact .inr (.inl e)
  · rw [if_neg e] at h
    by_cases e2 : i.nm ∈ (["loadx", "storex"] : List Str)
    · simp only [List.mem_cons, List.mem_nil_iff, or_false] at e2 ⊢
      rcases e2 with e | e
      · exact .inl (.inr e)
      · exact .inr (.inr e)
    · rw [if_neg e2] at h
      exact absurd rfl h
theorem kinds_apart {nm : Str} (h : nm ∈ (["load", "loadx"] : List Str)) : nm ∉ (["store", "storex"] : List Str) := by
  simp only [List.mem_cons, List.mem_nil_iff, or_false] at h
  rcases h with rfl | rfl <;> decide +kernel
theorem dLines_second {L : Int} {i : InsR} {a b : Int} {r : List Int} (h : dLines L i = a :: b :: r) : b ≠ a := by
  unfold dLines at h
  by_cases e : i.nm ∈ (["load", "store"] : List Str)
  · rw [if_pos e] at h; cases h
  · rw [if_neg e] at h
    by_cases e2 : i.nm ∈ (["loadx", "storex"] : List Str)
    · rw [if_pos e2] at h
      have h0 : (rgI (i.a / L) ((i.a + i.n - 1) / L + 1))[0]? = some a := by rw [h]; rfl
      have h1 : (rgI (i.a / L) ((i.a + i.n - 1) / L + 1))[1]? = some b := by rw [h]; rfl
      unfold rgI at h0 h1
      rw [List.getElem?_map] at h0 h1
      have l1 : 1 < ((i.a + i.n - 1) / L + 1 - i.a / L).toNat := by
        cases z : (List.range ((i.a + i.n - 1) / L + 1 - i.a / L).toNat)[1]? with
        | none => rw [z] at h1; cases h1
        | some _ => have := (List.getElem?_eq_some_iff.mp z).1; rw [List.length_range] at this; exact this
      rw [List.getElem?_range (by omega)] at h0 h1
      have e0 := Option.some.inj h0
      have e1 := Option.some.inj h1
      simp only at e0 e1
      omega
    · rw [if_neg e2] at h; cases h
theorem data_due {S W L : Int} {i : InsR} {n : List (Int × Int)} (nd : (n.map (·.1)).Nodup) (pos : ∀ p ∈ n, 0 ≤ p.1) : (dAfter S W L i n).length = (dueData S W L i n).length ∧ ∀ p ∈ dAfter S W L i n, lkN (dueData S W L i n) p.1 = some p.2 := by
  unfold dAfter dueData
  by_cases e : dLines L i = []
  · rw [if_pos e, if_pos e]
    exact ⟨rfl, fun p hp => lkN_mem nd hp⟩
  · rw [if_neg e, if_neg e]
    obtain ⟨a, r, er⟩ : ∃ a r, dLines L i = a :: r := by
      cases z : dLines L i with
      | nil => exact absurd z e
      | cons a r => exact ⟨a, r, rfl⟩
    have hh : (dLines L i).headD 0 = a := by rw [er]; rfl
    rw [hh]
    have same_ : (older S W W ((dLines L i).map (· % S)) n).length = (older S W W ((dLines L i).map (· % S)) n).length ∧ ∀ p ∈ older S W W ((dLines L i).map (· % S)) n, lkN (older S W W ((dLines L i).map (· % S)) n) p.1 = some p.2 := ⟨rfl, fun p hp => lkN_mem (older_keys nd) hp⟩
    by_cases c : i.nm ∈ (["store", "storex"] : List Str) ∧ (lkN n a).isSome = false
    · rw [if_pos c, if_neg (fun z => by
        rcases z.2 with z | z
        · exact kinds_apart z c.1
        · rw [c.2] at z; cases z), older_pos pos]
      exact same_
    · rw [if_neg c]
      have sd := some_due (S := S) (W := W) (a := a) (r := r) nd pos
      rw [er]
      cases r with
      | nil =>
        have hcond : i.nm ∈ (["load", "loadx"] : List Str) ∨ (lkN n a).isSome = true := by
          rcases dLines_kind e with k | k
          · exact .inl k
          · refine .inr ?_
            cases z : (lkN n a).isSome with
            | true => rfl
            | false => exact absurd ⟨k, z⟩ c
        have e2 : (([a] : List Int).filter fun x => decide (x ≠ a)) = [] := by simp
        simp only [e2, if_true] at sd
        rw [if_pos ⟨rfl, hcond⟩]
        exact sd
      | cons b r =>
        rw [if_neg (fun z => by have := z.1; simp at this)]
        have ne : ((a :: b :: r).filter fun x => decide (x ≠ a)) ≠ [] := by
          intro z
          have : b ∈ ((a :: b :: r).filter fun x => decide (x ≠ a)) := List.mem_filter.mpr ⟨by simp, decide_eq_true (dLines_second er)⟩
          rw [z] at this
          cases this
        simp only [if_neg ne] at sd
        exact sd
section
variable {P : Program} {w : World} {K : PySem.W.Frag} {mg : Str → Option Value} {base : Heap}
def sp__law_after (K : PySem.W.Frag) : Sp := fun vs H Q _ => ∃ (t c t0 t1 u k d e : Addr) (S W L S1 W1 L1 p : Int) (i : InsR) (m n : List (Int × Int)) (xs : List V), vs = [.ref t, .ref c, .int p, .ref k] ∧ SqT K H t [.ref t0, .ref t1] ∧ SqT K H k [.ref d, .ref e] ∧ ShapeAt K H t0 S W L ∧ ShapeAt K H t1 S1 W1 L1 ∧
  0 < S ∧ 0 < S1 ∧ 1 ≤ L ∧ L ≤ 16 ∧ 1 ≤ L1 ∧ L1 ≤ 16 ∧ SqL K H c xs ∧ atI xs p = some (.ref u) ∧ InsX K H u i ∧ i.Ok ∧ H d = some (DN m) ∧ (m.map (·.1)).Nodup ∧ m.length ≤ 1000 ∧ H e = some (DN n) ∧ (n.map (·.1)).Nodup ∧ n.length ≤ 1000 ∧
  ∀ (r a b : Addr) H', Same H H' → H' r = some (.tup [.ref a, .ref b]) → H' a = some (DN (if i.nm = "link" then [] else dueLine S W m (p / L))) → H' b = some (DN (if i.nm = "link" then [] else dueData S1 W1 L1 i n)) → Q (.ref r) H'
theorem ok__law_after (T : Top P K mg) : FnOk P w K mg base CX0 3 T.a__law_after T.d__law_after ["_law_shapes", "_law_code", "_law_p", "_law_known_here"]  (sp__law_after K) := by
  refine T.F__law_after.ok sc__law_after (fun vs H Q E h => ?_) (fun cdv A outer s H vs Q E hr h => ?_)
  · obtain ⟨_, _, _, _, _, _, _, _, _, _, _, _, _, _, _, _, _, _, _, rfl, _⟩ := h
    rfl
  · obtain ⟨t, c, t0, t1, u, k, d, e, S, W, L, S1, W1, L1, p, i, m, n, xs, rfl, ht, hk, hs0, hs1, hS, hS1, l1, l2, l3, l4, hc, hp, hi, ok, hd, nd, lm, he, ne, le, q⟩ := h
    obtain ⟨ys, hu, h0, _⟩ := id hi.ex
    refine ⟨_, (pss_cons (ps_set (i := 4) sc__law_after.nd rfl (by first | exact Or.inl rfl | exact Or.inr rfl) (pe_ix ix_list (pv 1) (pv 2) (fun _ _ => rfl)))
  (pss_cons (ps_set (i := 5) sc__law_after.nd rfl (by first | exact Or.inl rfl | exact Or.inr rfl) (pe_ix ix_tup (pv 4) pe_int (fun _ _ => rfl)))
  (pss_cons (ps_if (pt_cmpR op_eq (pv 5) pe_str (nomark _))
  (pss_one (ps_ret (pe_tup (pa_cons pe_dnewK (pa_cons pe_dnewK pa_nil)))))
  pss_nil)
  (pss_cons (ps_set (i := 6) sc__law_after.nd rfl (by first | exact Or.inl rfl | exact Or.inr rfl) (pe_call (ok__law_used T) (hr.mono (by decide)) (by rfl) T.g__law_used T.F__law_used.kp T.b__law_used .nil pass0 (pa_cons (pe_ix ix_tup (pv 3) pe_int (fun _ _ => rfl)) (pa_cons (pe_ix ix_tup (pv 0) pe_int (fun _ _ => rfl)) (pa_cons (pe_op op_fdiv (pv 2) (pe_ix ix_tup (pe_ix ix_tup (pv 0) pe_int (fun _ _ => rfl)) pe_int (fun _ _ => rfl))) pa_nil)))))
  (pss_cons (ps_set (i := 7) sc__law_after.nd rfl (by first | exact Or.inl rfl | exact Or.inr rfl) (pe_call (ok__law_data_lines T) (hr.mono (by decide)) (by rfl) T.g__law_data_lines T.F__law_data_lines.kp T.b__law_data_lines .nil pass0 (pa_cons (pe_ix ix_tup (pv 0) pe_int (fun _ _ => rfl)) (pa_cons (pv 4) pa_nil))))
  (pss_cons (ps_if (pt_cmpR op_eq (pe_callB call_len_seq (by rfl) T.m_len PySem.boot_len (pa_cons (pv 7) pa_nil)) pe_int (nomark _))
  (pss_one (ps_ret (pe_tup (pa_cons (pv 6) (pa_cons (pe_callTy call_dictD (by rfl) T.m_dict (by decide +kernel) (pa_cons (pe_ix ix_tup (pv 3) pe_int (fun _ _ => rfl)) pa_nil)) pa_nil)))))
  pss_nil)
  (Evl.pss_cut (ps_if (pw_and (pt_cmpR op_eq (pe_callB call_len_seq (by rfl) T.m_len PySem.boot_len (pa_cons (pv 7) pa_nil)) pe_int (nomark _)) (pw_and1 (pw_or (pt_cmpR op_in_seq (pv 5) (pe_tup (pa_cons pe_str (pa_cons pe_str pa_nil))) (by with_unfolding_all rfl)) (pw_or1 (pt_cmp (pc_din (hu_of hr) (pe_ix ix_list (pv 7) pe_int (fun _ _ => rfl)) (pe_ix ix_tup (pv 3) pe_int (fun _ _ => rfl)))))).pt)).pt
  (pss_one (ps_ret (pe_tup (pa_cons (pv 6) (pa_cons (pe_call (ok__law_used T) (hr.mono (by decide)) (by rfl) T.g__law_used T.F__law_used.kp T.b__law_used .nil pass0 (pa_cons (pe_ix ix_tup (pv 3) pe_int (fun _ _ => rfl)) (pa_cons (pe_ix ix_tup (pv 0) pe_int (fun _ _ => rfl)) (pa_cons (pe_ix ix_list (pv 7) pe_int (fun _ _ => rfl)) pa_nil)))) pa_nil)))))
  pss_nil)
  (pss_cons (ps_setLc (i := 8) (own := [("_law_line", 9)]) (g := gName 9) (tt := tYes) rfl sc__law_after.nd rfl rfl (sw_true rfl rfl rfl (by decide +kernel)) (pi_list (pv 7)) (blkOk_by (N := ["_law_shapes", "_law_code", "_law_p", "_law_known_here", "_law_instruction_here", "_law_kind", "_law_first", "_law_lines", "_law_touched", "_law_line"]) (sc := defScope s__law_after) (by decide +kernel)) (fun _ _ _ _ _ => pg_name (i := 9) sc__law_after.nd rfl (Or.inl rfl)) (fun _ _ _ _ _ => pts_nil) (fun _ _ _ _ _ => (pe_op op_mod (pe_callTy call_int1 (by rfl) T.m_int (by decide +kernel) (pa_cons (pv 9) pa_nil)) (pe_ix (r := rIxT K) ix_tup (pe_ix (r := rIxT K) ix_tup (pv 0) pe_int (fun _ _ => rfl)) pe_int (fun _ _ => rfl)))))
  (pss_one (ps_ret (pe_tup (pa_cons (pv 6) (pa_cons (pe_call (ok__law_aged T) (hr.mono (by decide)) (by rfl) T.g__law_aged T.F__law_aged.kp T.b__law_aged .nil pass0 (pa_cons (pe_ix ix_tup (pv 3) pe_int (fun _ _ => rfl)) (pa_cons (pe_ix ix_tup (pv 0) pe_int (fun _ _ => rfl)) (pa_cons (pv 8) (pa_cons (pe_ix ix_tup (pe_ix ix_tup (pv 0) pe_int (fun _ _ => rfl)) pe_int (fun _ _ => rfl)) (pa_cons (pe_un un_neg pe_int) pa_nil)))))) pa_nil))))))))))))), ?_⟩
    rw [show ∀ a0 a1 a2 a3 : V, L2.start ["_law_shapes", "_law_code", "_law_p", "_law_known_here", "_law_instruction_here", "_law_kind", "_law_first", "_law_lines", "_law_touched", "_law_line"] [a0, a1, a2, a3] = [some a0, some a1, some a2, some a3, none, none, none, none, none, none] from fun _ _ _ _ => rfl]
    have hs0' : SqT K H t0 [.int S, .int W, .int L] := hs0
    walk_at "my rn"
    refine Rd.ixLq hc hp ?_
    walk_at "my rn"
    refine Rd.ixTq hu (Rd.at_val (j := 0) rfl h0) ?_
    walk_at "my rn"
    by_cases el : i.nm = "link"
    · rw [if_pos el, if_pos el] at q
      rw [decide_eq_true (by rw [el])]
      refine Rd.ifT ?_
      walk_at "my rn"
      intro a H1 na sa ha
      walk_at "my rn"
      intro b H2 nb sb hb
      walk_at "my rn"
      intro r H3 nr sr hr
      walk_at "my rn"
      exact q r a b H3 (sa.trans (sb.trans sr)) hr (sr _ _ (sb _ _ ha)) (sr _ _ hb)
    · rw [if_neg el, if_neg el] at q
      rw [decide_eq_false (fun z => el (V.str.inj z))]
      refine Rd.ifF ?_
      walk_at "my rn"
      refine ⟨t0, d, S, W, L, _, m, rfl, hs0, hS, hd, nd, lm, fun a H1 na sa ha => ?_⟩
      have hc1 := sa.seq hc
      have ht01 := sa.seqT ht
      have hk1 := sa.seqT hk
      have he1 := sa _ _ he
      have ht11 : ShapeAt K H1 t1 S1 W1 L1 := sa.seqT hs1
      have hi1 := hi.same sa
      walk_at "my rn"
      refine ⟨t1, u, S1, W1, L1, i, rfl, ht11, l3, l4, hi1, ok, fun l H2 nl s2 hl => ?_⟩
      have ln := dLines_len ok l3 (L := L1)
      have s02 := sa.trans s2
      have ha2 := s2 _ _ ha
      have he2 := s2 _ _ he1
      have ht02 := s2.seqT ht01
      have hk2 := s2.seqT hk1
      have ht12 : ShapeAt K H2 t1 S1 W1 L1 := s2.seqT ht11
      have ht12' : SqT K H2 t1 [.int S1, .int W1, .int L1] := ht12
      unfold dueData at q
      walk_at "my rn"
      by_cases e0 : dLines L1 i = []
      · rw [if_pos e0] at q
        rw [e0]
        rw [decide_eq_true (by rfl)]
        refine Rd.ifT ?_
        walk_at "my rn"
        intro b H3 nb sb hb
        walk_at "my rn"
        intro r H4 nr sr hr
        exact q r a b H4 (s02.trans (sb.trans sr)) hr (sr _ _ (sb _ _ ha2)) (sr _ _ hb)
      · rw [if_neg e0] at q
        rw [decide_eq_false (fun z => e0 (by
          have z := V.int.inj z
          rw [List.length_map] at z
          exact List.eq_nil_of_length_eq_zero (by omega)))]
        refine Rd.ifF ?_
        obtain ⟨x, r0, er⟩ : ∃ x r, dLines L1 i = x :: r := by
          cases z : dLines L1 i with
          | nil => exact absurd z e0
          | cons x r => exact ⟨x, r, rfl⟩
        have hx : (dLines L1 i).headD 0 = x := by rw [er]; rfl
        have h0l : atI ((dLines L1 i).map V.int) 0 = some (.int x) := Rd.at_int (j := 0) rfl (by rw [er]; rfl)
        rw [hx] at q
        have one_ : ((dLines L1 i).length = 1 ∧ (i.nm ∈ (["load", "loadx"] : List Str) ∨ (lkN n x).isSome = true)) → ∀ (r b : Addr) H', Same H2 H' → H' r = some (.tup [.ref a, .ref b]) → H' b = some (DN (dueLine S1 W1 n x)) → Q (.ref r) H' := fun z r b H' s h1 h2 => by
          refine q r a b H' (s02.trans s) h1 (s _ _ ha2) ?_
          rw [if_pos z]; exact h2
        have many_ : ¬ ((dLines L1 i).length = 1 ∧ (i.nm ∈ (["load", "loadx"] : List Str) ∨ (lkN n x).isSome = true)) → ∀ (r b : Addr) H', Same H2 H' → H' r = some (.tup [.ref a, .ref b]) → H' b = some (DN ((older S1 W1 W1 ((dLines L1 i).map (· % S1)) n).filter fun q => decide (q.1 ≠ -1))) → Q (.ref r) H' := fun z r b H' s h1 h2 => by
          refine q r a b H' (s02.trans s) h1 (s _ _ ha2) ?_
          rw [if_neg z]; exact h2
        refine ⟨fun σ' H' => σ' = [some (.ref t), some (.ref c), some (.int p), some (.ref k), some (.ref u), some (.str i.nm), some (.ref a), some (.ref l), none, none] ∧ Same H2 H' ∧ ¬ ((dLines L1 i).length = 1 ∧ (i.nm ∈ (["load", "loadx"] : List Str) ∨ (lkN n x).isSome = true)), ?_, ?_⟩
        · have then_ : ((dLines L1 i).length = 1 ∧ (i.nm ∈ (["load", "loadx"] : List Str) ∨ (lkN n x).isSome = true)) → True := fun _ => trivial
          walk_at "my rn"
          refine ifD (fun e1 => ?_) (fun e1 => ?_)
          · have e1' : (dLines L1 i).length = 1 := by
              have := V.int.inj e1
              rw [List.length_map] at this
              omega
            walk_at "my rn"
            intro b H3 nb s3 hb
            have s03 := s2.trans s3
            have hk3 := s3.seqT hk2
            have ht3 := s3.seqT ht02
            have hl3 := s3 _ _ hl
            refine Rd.inStrT ["load", "loadx"] (SqT.of hb) ?_
            walk_at "my rn"
            refine ifD (fun e2 => ?_) (fun e2 => ?_)
            · walk_at "my rn"
              refine Rd.ixL hl3 h0l ?_
              walk_at "my rn"
              refine ⟨t1, e, S1, W1, L1, x, n, rfl, s3.seqT ht12', hS1, s3 _ _ he2, ne, le, fun b3 H4 n4 s4 h4 => ?_⟩
              walk_at "my rn"
              intro r H5 nr sr hr
              exact one_ ⟨e1', .inl e2⟩ r b3 H5 (s3.trans (s4.trans sr)) hr (sr _ _ h4)
            · walk_at "my rn"
              refine Rd.ixL hl3 h0l ?_
              walk_at "my rn"
              refine dinN (rd_of (s3 _ _ he2)) ?_
              walk_at "my rn"
              refine Rd.ifB (fun e3 => ?_) fun e3 => ?_
              · walk_at "my rn"
                refine Rd.ixL hl3 h0l ?_
                walk_at "my rn"
                refine ⟨t1, e, S1, W1, L1, x, n, rfl, s3.seqT ht12', hS1, s3 _ _ he2, ne, le, fun b3 H4 n4 s4 h4 => ?_⟩
                walk_at "my rn"
                intro r H5 nr sr hr
                exact one_ ⟨e1', .inr e3⟩ r b3 H5 (s3.trans (s4.trans sr)) hr (sr _ _ h4)
              · walk_at "my rn"
                exact ⟨s3, fun z => z.2.elim e2 fun z => by rw [e3] at z; cases z⟩
          · walk_at "my rn"
            exact ⟨Same.refl _, fun z => e1 (by rw [List.length_map, z.1]; rfl)⟩
        · rintro σ' H3 ⟨rfl, s3, no⟩
          have hk3 := s3.seqT hk2
          have ht3 := s3.seqT ht02
          have hl3 := s3 _ _ hl
          have hs13 := s3.seqT ht12'
          walk_at "my rn"
          intro D nD
          refine Rd.lc_rel (walk_list (xs := (dLines L1 i).map V.int)) (fun j v _ => ∃ y, (dLines L1 i)[j]? = some y ∧ v = .int (y % S1)) nD (by rw [List.length_map]; omega) (fun _ _ _ _ h _ => h) (fun H b => SqL.of ((b.to nD) _ _ hl3)) (fun j x Hjo Hj Kt hj b hDl y kt => ?_) (fun H4 vs lvs hvs s4 hD => ?_)
          · obtain ⟨rfl, hx⟩ := y
            rw [List.getElem?_map] at hx
            obtain ⟨v, hv, rfl⟩ : ∃ v, (dLines L1 i)[j]? = some v ∧ V.int v = x := by
              cases z : (dLines L1 i)[j]? with
              | none => rw [z] at hx; cases hx
              | some v => rw [z] at hx; exact ⟨v, rfl, Option.some.inj hx⟩
            have sb := b.to nD
            have htb := sb.seqT ht3
            have hsb := sb.seqT hs13
            simp only [List.map_cons, List.map_nil, L2.wipe, List.set_cons_succ, List.set_cons_zero]
            walk_at "my rn"
            refine ⟨rfl, ?_⟩
            walk_at "my rn"
            exact kt _ _ ⟨v, hv, rfl⟩ (Same.refl _)
          · have evs : vs = ((dLines L1 i).map (· % S1)).map V.int := by
              refine List.ext_getElem? fun j => ?_
              rw [List.map_map, List.getElem?_map]
              by_cases hj : j < (dLines L1 i).length
              · have hj2 : j < vs.length := by rw [lvs, List.length_map]; exact hj
                obtain ⟨x, hx, ex⟩ := hvs j _ (List.getElem?_eq_getElem hj2)
                rw [List.getElem?_eq_getElem hj2, ex, hx]; rfl
              · rw [List.getElem?_eq_none (by rw [lvs, List.length_map]; omega), List.getElem?_eq_none (by omega)]; rfl
            rw [evs] at hD
            have hk4 := s4.seqT hk3
            have ht4 := s4.seqT ht3
            have hs14 := s4.seqT hs13
            have he4 := s4 _ _ (s3 _ _ he2)
            walk_at "my rn"
            refine ⟨e, D, t1, S1, W1, L1, W1, -1, n, _, rfl, hs14, hS1, he4, ne, le, hD, fun b H5 nb s5 hb => ?_⟩
            walk_at "my rn"
            intro r H6 nr sr hr
            exact many_ no r b H6 (s3.trans (s4.trans (s5.trans sr))) hr (sr _ _ hb)
end

end Mine


set_option Elab.async false
set_option linter.all false
set_option maxRecDepth 100000
set_option maxHeartbeats 400000


--@@guards
namespace Mine
open PySem PySem.Spec PyProof.Rows L2 Rd
local macro_rules | `(tactic| walk_at "my rn") => `(tactic| (repeat (first | ((with_reducible apply Rd.vv); exact rfl) | with_reducible refine Rd.c_ ?_ | with_reducible refine Rd.cons ?_ | with_reducible refine Rd.nil ?_ | with_reducible refine Rd.seq ?_ | with_reducible refine Rd.asg ?_ | ((with_reducible refine Rd.gdN ?_); (first | with_reducible refine Rd.n0 ?_ | with_reducible refine Rd.n1 ?_ | with_reducible refine Rd.n2 ?_ | with_reducible refine Rd.n3 ?_ | with_reducible refine Rd.n4 ?_ | with_reducible refine Rd.n5 ?_ | with_reducible refine Rd.n6 ?_ | with_reducible refine Rd.n7 ?_ | with_reducible refine Rd.n8 ?_ | with_reducible refine Rd.n9 ?_ | with_reducible refine Rd.n10 ?_ | with_reducible refine Rd.n11 ?_ | with_reducible refine Rd.n12 ?_ | with_reducible refine Rd.n13 ?_ | with_reducible refine Rd.n14 ?_ | with_reducible refine Rd.n15 ?_ | with_reducible refine Rd.n16 ?_ | with_reducible refine Rd.n17 ?_ | with_reducible refine Rd.n18 ?_ | with_reducible refine Rd.n19 ?_ | with_reducible refine Rd.n20 ?_ | with_reducible refine Rd.n21 ?_ | with_reducible refine Rd.n22 ?_ | with_reducible refine Rd.n23 ?_ | with_reducible refine Rd.n24 ?_ | with_reducible refine Rd.n25 ?_ | with_reducible refine Rd.n26 ?_ | with_reducible refine Rd.n27 ?_)) | with_reducible refine Rd.test ?_ | with_reducible refine Rd.tb_ ?_ | with_reducible refine Rd.op ?_ | with_reducible refine Rd.I0 ?_ | with_reducible refine Rd.bl ?_ | with_reducible refine Rd.bl2 ?_ | with_reducible refine Rd.ifs ?_ | with_reducible refine Rd.and_ ?_ | with_reducible refine Rd.or_ ?_ | with_reducible refine Rd.not_ ?_ | with_reducible refine Rd.drop ?_ | with_reducible refine Rd.ret ?_ | with_reducible refine Rd.next ?_ | with_reducible refine Rd.callS ?_ | with_reducible refine Rd.mkS ?_ | with_reducible refine Rd.mkKS ?_ | with_reducible refine Rd.mkK ?_ | with_reducible refine Rd.callN ?_ | with_reducible refine Rd.catQI ?_ | with_reducible refine Rd.revN ?_ | with_reducible refine Rd.lzip ?_ | with_reducible refine Rd.fld ?_ | with_reducible refine Rd.sfld ?_ | with_reducible refine Rd.meth ?_ | with_reducible refine Rd.make ?_ | with_reducible refine Rd.izip ?_ | with_reducible refine Rd.dnew ?_ | with_reducible refine Rd.din ?_ | with_reducible refine Rd.dnot ?_ | with_reducible refine Rd.dget ?_ | with_reducible refine Rd.dget2 ?_ | with_reducible refine Rd.dput ?_ | with_reducible refine Rd.cbDictOf ?_ | with_reducible refine Rd.iitems ?_ | with_reducible refine Rd.ikeys ?_ | with_reducible refine Rd.dc ?_ | with_reducible refine Rd.nwD ?_ | with_reducible refine Rd.tupN ?_ | with_reducible refine Rd.lstN ?_ | with_reducible refine Rd.cbListOf ?_ | with_reducible refine Rd.cbListOfR ?_ | with_reducible refine Rd.catI ?_ | with_reducible refine Rd.slN ?_ | with_reducible refine Rd.cbSrtI ?_ | with_reducible refine Rd.brk ?_ | with_reducible refine Rd.cont ?_ | with_reducible refine Rd.retN ?_ | with_reducible refine Rd.ife ?_ | with_reducible refine Rd.andV ?_ | with_reducible refine Rd.orV ?_ | with_reducible refine Rd.notV ?_ | with_reducible refine Rd.un ?_ | with_reducible refine Rd.U ?_ | with_reducible refine Rd.ip ?_ | with_reducible refine Rd.call ?_ | with_reducible refine Rd.cb ?_ | with_reducible refine Rd.bm ?_ | with_reducible refine Rd.bm0 ?_ | with_reducible refine Rd.nopart ?_ | with_reducible refine Rd.part ?_ | with_reducible refine Rd.int1 ?_ | with_reducible refine Rd.ints1 ?_ | with_reducible refine Rd.ints2 ?_ | with_reducible refine Rd.gcons ?_ | with_reducible refine Rd.gnil ?_ | with_reducible refine Rd.sub ?_ | with_reducible refine Rd.isN ?_ | with_reducible refine Rd.chain ?_ | with_reducible refine Rd.rf ?_ | with_reducible refine Rd.tyS ?_ | with_reducible refine Rd.intI ?_ | with_reducible refine Rd.lc ?_ | with_reducible refine Rd.for_ ?_ | with_reducible refine Rd.ilist ?_ | with_reducible refine Rd.itup ?_ | with_reducible refine Rd.irng1 ?_ | with_reducible refine Rd.irng2 ?_ | with_reducible refine Rd.ienum ?_ | with_reducible refine Rd.istr ?_ | with_reducible refine Rd.refA ?_ | with_reducible refine Rd.strA ?_ | with_reducible refine Rd.yes ?_ | with_reducible refine Rd.ifT ?_ | with_reducible refine Rd.ifF ?_ | with_reducible refine Rd.ifnT ?_ | with_reducible refine Rd.ifnF ?_ | with_reducible refine Rd.sl ?_ | ((with_reducible apply Rd.glst); (first | assumption | exact upd_same); exact rfl) | ((with_reducible apply Rd.gtP); assumption; assumption) | ((with_reducible apply Rd.revq); first | assumption | exact SqL.of (by assumption)) | ((with_reducible apply Rd.fldI); (first | assumption | exact upd_same); assumption; assumption; (first | assumption | with_unfolding_all rfl)) | ((with_reducible apply Rd.methI); (first | assumption | exact upd_same); (first | assumption | with_unfolding_all rfl)) | ((with_reducible apply Rd.sfldI); (first | assumption | exact upd_same); assumption; assumption; exact Nat.le_of_ble_eq_true rfl) | ((with_reducible apply Rd.maxL); assumption) | ((with_reducible apply Rd.anyL); assumption) | ((with_reducible apply Rd.sumL); assumption) | ((with_reducible refine Rd.izI (by assumption) (by assumption) ?_)) | with_reducible refine Rd.mch ?_ | with_reducible refine Rd.mchI ?_ | with_reducible refine Rd.mchRest ?_ | with_reducible refine Rd.mtq ?_ | with_reducible refine Rd.mtRest ?_ | with_reducible refine Rd.mtEnd ?_ | with_reducible refine Rd.tbC ?_ | with_reducible refine Rd.tbT ?_ | with_reducible refine Rd.tbA ?_ | with_reducible refine Rd.tbN ?_ | with_reducible refine Rd.mto ?_ | with_reducible refine Rd.mtoI ?_ | with_reducible refine Rd.moRest ?_ | with_reducible refine Rd.moEnd ?_ | ((with_reducible apply Rd.mtqI); (first | assumption | exact SqT.of upd_same | exact SqT.of (by assumption)); exact Nat.le_of_ble_eq_true rfl) | ((with_reducible refine Rd.mtLen ?_ ?_); exact rfl) | ((with_reducible refine Rd.mtYes ?_ ?_); exact rfl) | ((with_reducible refine Rd.mtNo ?_ ?_); (first | assumption | decide +kernel)) | ((with_reducible refine Rd.mtOY ?_ ?_); exact rfl) | ((with_reducible refine Rd.mtON ?_ ?_); exact rfl) | ((with_reducible refine Rd.eq ?_ ?_); exact rfl) | ((with_reducible refine Rd.ne ?_ ?_); exact rfl) | ((with_reducible refine Rd.szA ?_ ?_); exact Nat.le_of_ble_eq_true rfl) | ((with_reducible refine Rd.I ?_ ?_); first | assumption | decide | exact Or.inr (by decide +kernel) | exact Or.inl (by decide +kernel) | exact ⟨by decide, by decide⟩ | exact ⟨by decide, by decide, by decide⟩ | omega | exact ⟨by omega, by omega⟩) | ((with_reducible apply Rd.tyL); first | assumption | exact upd_same) | ((with_reducible apply Rd.tyLq); assumption) | ((with_reducible apply Rd.ixL); (first | assumption | exact upd_same); exact rfl) | ((with_reducible apply Rd.ixT); (first | assumption | exact upd_same); exact rfl) | ((with_reducible apply Rd.ixLq); assumption; exact rfl) | ((with_reducible apply Rd.ixTq); assumption; exact rfl) | ((with_reducible apply Rd.gtup); (first | assumption | exact upd_same); exact rfl) | ((with_reducible apply Rd.gtupq); assumption; exact rfl) | ((with_reducible apply Rd.sqAq); assumption) | ((with_reducible apply Rd.stAq); assumption) | ((with_reducible apply Rd.enAq); assumption) | ((with_reducible apply Rd.lenLq); assumption) | ((with_reducible apply Rd.lenTq); assumption) | ((with_reducible apply Rd.sqA); first | assumption | exact upd_same) | ((with_reducible apply Rd.stA); first | assumption | exact upd_same) | ((with_reducible apply Rd.enA); first | assumption | exact upd_same) | ((with_reducible apply Rd.lenL); first | assumption | exact upd_same) | ((with_reducible apply Rd.lenT); first | assumption | exact upd_same) | ((with_reducible refine Rd.nwT ?_ ?_); exact Nat.le_of_ble_eq_true rfl) | ((with_reducible refine Rd.nwL ?_ ?_); exact Nat.le_of_ble_eq_true rfl) | ((with_reducible apply Rd.isd); assumption) | ((with_reducible apply Rd.dictOf); assumption) | ((with_reducible apply Rd.itA); first | assumption | exact upd_same) | ((with_reducible apply Rd.ikA); first | assumption | exact upd_same) | ((with_reducible apply Rd.listOf); assumption) | ((with_reducible apply Rd.listOfq); assumption) | ((with_reducible apply Rd.slo); assumption) | ((with_reducible apply Rd.slq); assumption) | ((with_reducible apply Rd.srtI); assumption) | ((with_reducible apply Rd.srtIo); assumption) | ((with_reducible refine Rd.gdI ?_); (first | with_reducible refine Rd.isi_ii ?_ | with_reducible refine Rd.isi_ib ?_ | with_reducible refine Rd.isi_is ?_ | with_reducible refine Rd.isi_il ?_ | with_reducible refine Rd.isi_it ?_ | with_reducible refine Rd.isi_id ?_ | with_reducible refine Rd.isi_bi ?_ | with_reducible refine Rd.isi_bb ?_ | with_reducible refine Rd.isi_bs ?_ | with_reducible refine Rd.isi_bl ?_ | with_reducible refine Rd.isi_bt ?_ | with_reducible refine Rd.isi_bd ?_ | with_reducible refine Rd.isi_si ?_ | with_reducible refine Rd.isi_sb ?_ | with_reducible refine Rd.isi_ss ?_ | with_reducible refine Rd.isi_sl ?_ | with_reducible refine Rd.isi_st ?_ | with_reducible refine Rd.isi_sd ?_ | with_reducible refine Rd.isi_ni ?_ | with_reducible refine Rd.isi_nb ?_ | with_reducible refine Rd.isi_ns ?_ | with_reducible refine Rd.isi_nl ?_ | with_reducible refine Rd.isi_nt ?_ | with_reducible refine Rd.isi_nd ?_ | ((with_reducible refine Rd.isi_dd (by assumption) ?_)) | ((with_reducible refine Rd.isi_li (by assumption) ?_)) | ((with_reducible refine Rd.isi_lb (by assumption) ?_)) | ((with_reducible refine Rd.isi_ls (by assumption) ?_)) | ((with_reducible refine Rd.isi_ll (by assumption) ?_)) | ((with_reducible refine Rd.isi_lt (by assumption) ?_)) | ((with_reducible refine Rd.isi_ld (by assumption) ?_)) | ((with_reducible refine Rd.isi_ti (by assumption) ?_)) | ((with_reducible refine Rd.isi_tb (by assumption) ?_)) | ((with_reducible refine Rd.isi_ts (by assumption) ?_)) | ((with_reducible refine Rd.isi_tl (by assumption) ?_)) | ((with_reducible refine Rd.isi_tt (by assumption) ?_)) | ((with_reducible refine Rd.isi_td (by assumption) ?_)))) | ((with_reducible refine Rd.gdG ?_); (first | with_reducible refine Rd.g0 ?_ | with_reducible refine Rd.g1 ?_ | with_reducible refine Rd.g2 ?_ | with_reducible refine Rd.g3 ?_ | with_reducible refine Rd.g4 ?_ | with_reducible refine Rd.g5 ?_ | with_reducible refine Rd.g6 ?_ | with_reducible refine Rd.g7 ?_ | with_reducible refine Rd.g8 ?_ | with_reducible refine Rd.g9 ?_ | with_reducible refine Rd.g10 ?_ | with_reducible refine Rd.g11 ?_ | with_reducible refine Rd.g12 ?_ | with_reducible refine Rd.g13 ?_ | with_reducible refine Rd.g14 ?_ | with_reducible refine Rd.g15 ?_ | with_reducible refine Rd.g16 ?_ | with_reducible refine Rd.g17 ?_ | with_reducible refine Rd.g18 ?_ | with_reducible refine Rd.g19 ?_ | with_reducible refine Rd.g20 ?_ | with_reducible refine Rd.g21 ?_ | with_reducible refine Rd.g22 ?_ | with_reducible refine Rd.g23 ?_ | with_reducible refine Rd.g24 ?_ | with_reducible refine Rd.g25 ?_ | with_reducible refine Rd.g26 ?_ | with_reducible refine Rd.g27 ?_)))))







theorem cost_id {ct : Cost} {i : InsR} {fh lh : Bool} {cal : Int} : (if fh = true then ct.fh else ct.fm) + lBase ct i lh + (if i.nm = "jump" then ct.tk else 0) + (if i.nm = "link" then cal else 0) = pCost ct i fh lh cal := by
  unfold pCost iCost lBase
  by_cases e1 : i.nm = "jump"
  · rw [e1, if_pos (show ("jump" : Str) ∈ (["jump", "link", "back"] : List Str) ∨ _ from .inl (by decide +kernel)), if_pos rfl, if_neg (show ¬ ("jump" : Str) = "link" by decide +kernel), if_neg (show ¬ ("jump" : Str) ∈ (["link", "back"] : List Str) by decide +kernel),
      if_neg (show ¬ ("jump" : Str) = "enter" by decide +kernel), if_neg (show ¬ ("jump" : Str) = "leave" by decide +kernel), if_neg (show ¬ ("jump" : Str) = "done" by decide +kernel)]
    rw [if_neg (show ¬ ("jump" : Str) = "link" by decide +kernel)]
    omega
  · by_cases e2 : i.nm = "link"
    · rw [e2, if_pos (show ("link" : Str) ∈ (["jump", "link", "back"] : List Str) ∨ _ from .inl (by decide +kernel)), if_neg (show ¬ ("link" : Str) = "jump" by decide +kernel), if_pos rfl, if_pos (show ("link" : Str) ∈ (["link", "back"] : List Str) by decide +kernel), if_pos rfl]
      omega
    · by_cases e3 : i.nm = "back"
      · rw [e3, if_pos (show ("back" : Str) ∈ (["jump", "link", "back"] : List Str) ∨ _ from .inl (by decide +kernel)), if_neg (show ¬ ("back" : Str) = "jump" by decide +kernel), if_neg (show ¬ ("back" : Str) = "link" by decide +kernel), if_pos (show ("back" : Str) ∈ (["link", "back"] : List Str) by decide +kernel)]
        rw [if_neg (show ¬ ("back" : Str) = "link" by decide +kernel), if_neg (show ¬ ("back" : Str) = "enter" by decide +kernel), if_neg (show ¬ ("back" : Str) = "leave" by decide +kernel), if_neg (show ¬ ("back" : Str) = "done" by decide +kernel)]
        omega
      · rw [if_neg e1, if_neg e2, if_neg e2, if_neg (show ¬ i.nm ∈ (["link", "back"] : List Str) by simp [e2, e3]), if_neg (show ¬ (i.nm ∈ (["jump", "link", "back"] : List Str) ∨ _) by simp [e1, e2, e3])]
        omega
section
variable {P : Program} {w : World} {K : PySem.W.Frag} {mg : Str → Option Value} {base : Heap}
def sp__law_hits (K : PySem.W.Frag) : Sp := fun vs H Q _ => ∃ (t c t0 t1 u k d e : Addr) (S W L S1 W1 L1 p : Int) (i : InsR) (m n : List (Int × Int)) (xs : List V), vs = [.ref t, .ref c, .int p, .ref k] ∧ SqT K H t [.ref t0, .ref t1] ∧ SqT K H k [.ref d, .ref e] ∧ ShapeAt K H t0 S W L ∧ ShapeAt K H t1 S1 W1 L1 ∧
  1 ≤ L ∧ L ≤ 16 ∧ 1 ≤ L1 ∧ L1 ≤ 16 ∧ SqL K H c xs ∧ atI xs p = some (.ref u) ∧ InsX K H u i ∧ i.Ok ∧ H d = some (DN m) ∧ H e = some (DN n) ∧
  ∀ (r : Addr) H', Same H H' → H' r = some (.tup [.bl (lkN m (p / L)).isSome, .bl (lHit L1 i n)]) → Q (.ref r) H'
theorem ok__law_hits (T : Top P K mg) : FnOk P w K mg base CX0 2 T.a__law_hits T.d__law_hits ["_law_shapes", "_law_code", "_law_p", "_law_known_here"]  (sp__law_hits K) := by
  refine T.F__law_hits.ok sc__law_hits (fun vs H Q E h => ?_) (fun cdv A outer s H vs Q E hr h => ?_)
  · obtain ⟨_, _, _, _, _, _, _, _, _, _, _, _, _, _, _, _, _, _, _, rfl, _⟩ := h
    rfl
  · obtain ⟨t, c, t0, t1, u, k, d, e, S, W, L, S1, W1, L1, p, i, m, n, xs, rfl, ht, hk, hs0, hs1, l1, l2, l3, l4, hc, hp, hi, ok, hd, he, q⟩ := h
    obtain ⟨ys, hu, h0, _⟩ := id hi.ex
    refine ⟨_, (pss_cons (ps_set (i := 4) sc__law_hits.nd rfl (by first | exact Or.inl rfl | exact Or.inr rfl) (pe_lst pa_nil))
  (Evl.pss_cut (ps_if (pt_cmpR op_in_seq (pe_ix ix_tup (pe_ix ix_list (pv 1) (pv 2) (fun _ _ => rfl)) pe_int (fun _ _ => rfl)) (pe_tup (pa_cons pe_str (pa_cons pe_str pa_nil))) (by with_unfolding_all rfl))
  (pss_one (ps_set (i := 4) sc__law_hits.nd rfl (by first | exact Or.inl rfl | exact Or.inr rfl) (pe_call (ok__law_data_lines T) (hr.mono (by decide)) (by rfl) T.g__law_data_lines T.F__law_data_lines.kp T.b__law_data_lines .nil pass0 (pa_cons (pe_ix ix_tup (pv 0) pe_int (fun _ _ => rfl)) (pa_cons (pe_ix ix_list (pv 1) (pv 2) (fun _ _ => rfl)) pa_nil)))))
  pss_nil)
  (pss_one (ps_ret (pe_tup (pa_cons (pe_cmp (pc_din (hu_of hr) (pe_op op_fdiv (pv 2) (pe_ix ix_tup (pe_ix ix_tup (pv 0) pe_int (fun _ _ => rfl)) pe_int (fun _ _ => rfl))) (pe_ix ix_tup (pv 3) pe_int (fun _ _ => rfl)))) (pa_cons (pe_callB (cr_all rfl) (by rfl) T.m_all (by decide +kernel) (pa_cons (pe_lc (own := [("_law_line", 5)]) (g := gName 5) (tt := tYes) rfl sc__law_hits.nd (pi_list (pv 4)) (blkOk_by (N := ["_law_shapes", "_law_code", "_law_p", "_law_known_here", "_law_lines", "_law_line"]) (sc := defScope s__law_hits) (by decide +kernel)) (fun _ _ _ _ _ => pg_name (i := 5) sc__law_hits.nd rfl (Or.inl rfl)) (fun _ _ _ _ _ => pts_nil) (fun _ _ _ _ _ => (pe_cmp (pc_din (hu_of hr) (pv 5) (pe_ix (r := rIxT K) ix_tup (pv 3) pe_int (fun _ _ => rfl)))))) pa_nil)) pa_nil))))))), ?_⟩
    rw [show ∀ a0 a1 a2 a3 : V, L2.start ["_law_shapes", "_law_code", "_law_p", "_law_known_here", "_law_lines", "_law_line"] [a0, a1, a2, a3] = [some a0, some a1, some a2, some a3, none, none] from fun _ _ _ _ => rfl]
    have hs0' : SqT K H t0 [.int S, .int W, .int L] := hs0
    walk_at "my rn"
    intro l0 H1 nl0 s1 hl0
    have hc1 := s1.seq hc
    have hu1 := s1.seqT hu
    have ht1 := s1.seqT ht
    walk_at "my rn"
    refine ⟨fun σ' H' => ∃ (D : Addr) (ls : List Int), σ' = [some (.ref t), some (.ref c), some (.int p), some (.ref k), some (.ref D), none] ∧ Same H H' ∧ H' D = some (.lst (ls.map V.int)) ∧ ls.length ≤ 100 ∧ (ls.all fun x => (lkN n x).isSome) = lHit L1 i n, ?_, ?_⟩
    · walk_at "my rn"
      refine Rd.ixLq hc1 hp ?_
      walk_at "my rn"
      refine Rd.ixTq hu1 (Rd.at_val (j := 0) rfl h0) ?_
      walk_at "my rn"
      intro b H2 nb s2 hb
      have s12 := s1.trans s2
      have ht2 := s2.seqT ht1
      have hc2 := s2.seq hc1
      have hs12 : ShapeAt K H2 t1 S1 W1 L1 := s12.seqT hs1
      refine Rd.inStrT ["load", "loadx"] (SqT.of hb) ?_
      unfold lHit
      walk_at "my rn"
      refine ifD (fun e1 => ?_) (fun e1 => ?_)
      · walk_at "my rn"
        refine Rd.ixLq hc2 hp ?_
        walk_at "my rn"
        refine ⟨t1, u, S1, W1, L1, i, rfl, hs12, l3, l4, hi.same s12, ok, fun l H3 nl s3 hl => ?_⟩
        walk_at "my rn"
        refine ⟨l, _, rfl, s12.trans s3, hl, by have := dLines_len ok l3 (L := L1); omega, by rw [if_pos e1]⟩
      · walk_at "my rn"
        exact ⟨l0, [], rfl, s12, s2 _ _ hl0, Nat.zero_le _, by rw [if_neg e1]; rfl⟩
    · rintro σ' H3 ⟨l, ls, rfl, s3, hl, ln, eh⟩
      have ht3 := s3.seqT ht
      have hk3 := s3.seqT hk
      have hs3 := s3.seqT hs0'
      have hd3 := s3 _ _ hd
      have he3 := s3 _ _ he
      walk_at "my rn"
      refine dinN (rd_of hd3) ?_
      walk_at "my rn"
      intro D nD
      refine Rd.lc_rel (walk_list (xs := ls.map V.int)) (fun j v _ => ∃ x, ls[j]? = some x ∧ v = .bl (lkN n x).isSome) nD (by rw [List.length_map]; omega) (fun _ _ _ _ h _ => h) (fun H b => SqL.of ((b.to nD) _ _ hl)) (fun j x Hjo Hj Kt hj b hDl y kt => ?_) (fun H2 vs lvs hvs s2 hD => ?_)
      · obtain ⟨rfl, hx⟩ := y
        rw [List.getElem?_map] at hx
        obtain ⟨v, hv, rfl⟩ : ∃ v, ls[j]? = some v ∧ V.int v = x := by
          cases z : ls[j]? with
          | none => rw [z] at hx; cases hx
          | some v => rw [z] at hx; exact ⟨v, rfl, Option.some.inj hx⟩
        have hkj := (b.to nD).seqT hk3
        simp only [List.map_cons, List.map_nil, L2.wipe, List.set_cons_succ, List.set_cons_zero]
        walk_at "my rn"
        refine ⟨rfl, ?_⟩
        walk_at "my rn"
        refine dinN (rd_of ((b.to nD) _ _ he3)) ?_
        exact kt _ _ ⟨v, hv, rfl⟩ (Same.refl _)
      · have evs : vs = (ls.map fun x => (lkN n x).isSome).map V.bl := by
          refine List.ext_getElem? fun j => ?_
          rw [List.map_map, List.getElem?_map]
          by_cases hj : j < ls.length
          · have hj2 : j < vs.length := by rw [lvs, List.length_map]; exact hj
            obtain ⟨x, hx, ex⟩ := hvs j _ (List.getElem?_eq_getElem hj2)
            rw [List.getElem?_eq_getElem hj2, ex, hx]; rfl
          · rw [List.getElem?_eq_none (by rw [lvs, List.length_map]; omega), List.getElem?_eq_none (by omega)]; rfl
        rw [evs] at hD
        walk_at "my rn"
        refine ⟨D, _, rfl, SqL.of hD, ?_⟩
        walk_at "my rn"
        intro r H4 nr s4 hr
        refine q r H4 (s3.trans (s2.trans s4)) ?_
        rw [hr, List.all_map, ← eh]
        rfl
def sp__law_due_cost (K : PySem.W.Frag) (C : Addr) : Sp := fun vs H Q _ => ∃ (t o c t0 t1 u k d e f : Addr) (S W L S1 W1 L1 p cal : Int) (i : InsR) (m n cl : List (Int × Int)) (xs : List V) (ct : Cost), vs = [.ref t, .ref o, .ref c, .int p, .ref k, .ref f] ∧ SqT K H t [.ref t0, .ref t1] ∧ SqT K H k [.ref d, .ref e] ∧ ShapeAt K H t0 S W L ∧ ShapeAt K H t1 S1 W1 L1 ∧ CostsAt C H o ct ∧
  1 ≤ L ∧ L ≤ 16 ∧ 1 ≤ L1 ∧ L1 ≤ 16 ∧ SqL K H c xs ∧ atI xs p = some (.ref u) ∧ InsX K H u i ∧ i.Ok ∧ i.op ≠ "mod" ∧ H d = some (DN m) ∧ H e = some (DN n) ∧ H f = some (DN cl) ∧ (i.nm = "link" → lkN cl i.q = some cal) ∧
  ∀ H', Same H H' → Q (.int (pCost ct i (lkN m (p / L)).isSome (lHit L1 i n) cal)) H'
theorem ok__law_due_cost (T : Top P K mg) : FnOk P w K mg base CX0 3 T.a__law_due_cost T.d__law_due_cost ["_law_shapes", "_law_costs_here", "_law_code", "_law_p", "_law_known_here", "_law_called"]  (sp__law_due_cost K T.C_Costs) := by
  refine T.F__law_due_cost.ok sc__law_due_cost (fun vs H Q E h => ?_) (fun cdv A outer s H vs Q E hr h => ?_)
  · obtain ⟨_, _, _, _, _, _, _, _, _, _, _, _, _, _, _, _, _, _, _, _, _, _, _, _, rfl, _⟩ := h
    rfl
  · obtain ⟨t, o, c, t0, t1, u, k, d, e, f, S, W, L, S1, W1, L1, p, cal, i, m, n, cl, xs, ct, rfl, ht, hk, hs0, hs1, hct, l1, l2, l3, l4, hc, hp, hi, ok, om, hd, he, hf, hcal, q⟩ := h
    obtain ⟨ys, hu, h0, _, _, _, hq, _⟩ := id hi.ex
    refine ⟨_, (pss_cons (ps_asg (pe_call (ok__law_hits T) (hr.mono (by decide)) (by rfl) T.g__law_hits T.F__law_hits.kp T.b__law_hits .nil pass0 (pa_cons (pv 0) (pa_cons (pv 2) (pa_cons (pv 3) (pa_cons (pv 4) pa_nil))))) (pg_tup rfl (pgs_cons (pg_name (i := 6) sc__law_due_cost.nd rfl (by first | exact Or.inl rfl | exact Or.inr rfl)) (pgs_cons (pg_name (i := 7) sc__law_due_cost.nd rfl (by first | exact Or.inl rfl | exact Or.inr rfl)) pgs_nil))))
  (pss_cons (ps_set (i := 8) sc__law_due_cost.nd rfl (by first | exact Or.inl rfl | exact Or.inr rfl) (pe_op op_add (pe_ifExp (pt_val (pv 6)) (pe_fld (pv 1) rfl) (pe_fld (pv 1) rfl)) (pe_call (ok__law_base T) (hr.mono (by decide)) (by rfl) T.g__law_base T.F__law_base.kp T.b__law_base .nil pass0 (pa_cons (pv 1) (pa_cons (pe_ix ix_list (pv 2) (pv 3) (fun _ _ => rfl)) (pa_cons (pv 7) pa_nil))))))
  (pss_cons (ps_if (pt_cmpR op_eq (pe_ix ix_tup (pe_ix ix_list (pv 2) (pv 3) (fun _ _ => rfl)) pe_int (fun _ _ => rfl)) pe_str (nomark _))
  (pss_one (ps_set (i := 8) sc__law_due_cost.nd rfl (by first | exact Or.inl rfl | exact Or.inr rfl) (pe_op op_add (pv 8) (pe_fld (pv 1) rfl))))
  pss_nil)
  (pss_cons (ps_if (pt_cmpR op_eq (pe_ix ix_tup (pe_ix ix_list (pv 2) (pv 3) (fun _ _ => rfl)) pe_int (fun _ _ => rfl)) pe_str (nomark _))
  (pss_one (ps_set (i := 8) sc__law_due_cost.nd rfl (by first | exact Or.inl rfl | exact Or.inr rfl) (pe_op op_add (pv 8) (pe_dget (hu_of hr) (pv 5) (pe_ix ix_tup (pe_ix ix_list (pv 2) (pv 3) (fun _ _ => rfl)) pe_int (fun _ _ => rfl)) (fun _ _ => rfl)))))
  pss_nil)
  (pss_one (ps_ret (pv 8))))))), ?_⟩
    rw [show ∀ a0 a1 a2 a3 a4 a5 : V, L2.start ["_law_shapes", "_law_costs_here", "_law_code", "_law_p", "_law_known_here", "_law_called", "_law_fetch_hit", "_law_load_hit", "_law_due"] [a0, a1, a2, a3, a4, a5] = [some a0, some a1, some a2, some a3, some a4, some a5, none, none, none] from fun _ _ _ _ _ _ => rfl]
    walk_at "my rn"
    refine ⟨t, c, t0, t1, u, k, d, e, S, W, L, S1, W1, L1, p, i, m, n, xs, rfl, ht, hk, hs0, hs1, l1, l2, l3, l4, hc, hp, hi, ok, hd, he, fun r H1 s1 hr1 => ?_⟩
    have hc1 := s1.seq hc
    have hct1 := hct.same s1
    obtain ⟨dx, ho⟩ := id hct1
    obtain ⟨k1, k2, _⟩ := @Cost.look ct
    have kc := T.cl_Costs
    have nn1 := T.n_Costs_fetch_hit
    have nn2 := T.n_Costs_fetch_miss
    have nn3 := T.n_Costs_taken
    have k9 := (@Cost.look ct).2.2.2.2.2.2.2.2.1
    walk_at "my rn"
    obtain ⟨fv, efv⟩ : ∃ fv, fv = (if (lkN m (p / L)).isSome = true then ct.fh else ct.fm) := ⟨_, rfl⟩
    have q : ∀ H' (x y : Int), Same H H' → (if i.nm = "jump" then ct.tk else 0) = x → (if i.nm = "link" then cal else 0) = y → Q (.int (fv + lBase ct i (lHit L1 i n) + x + y)) H' := fun H' x y s e1 e2 => by
      have := q H' s
      rw [← cost_id, e1, e2, ← efv] at this
      exact this
    refine Rd.ifB (fun e9 => ?_) fun e9 => ?_
    all_goals
      first | rw [if_pos e9] at efv | rw [if_neg (by rw [e9]; simp)] at efv
      walk_at "my rn"
      refine Rd.ixLq hc1 hp ?_
      walk_at "my rn"
      refine ⟨o, u, ct, i, _, rfl, hct1, hi.same s1, om, fun H2 s2 => ?_⟩
      have s12 := s1.trans s2
      have hc2 := s2.seq hc1
      have hu2 := s12.seqT hu
      have ho2 := s2 _ _ ho
      walk_at "my rn"
      refine Rd.ixLq hc2 hp ?_
      walk_at "my rn"
      refine Rd.ixTq hu2 (Rd.at_val (j := 0) rfl h0) ?_
      walk_at "my rn"
      rw [← efv]
      by_cases e1 : i.nm = "jump"
      · rw [decide_eq_true (by rw [e1])]
        refine Rd.ifT ?_
        walk_at "my rn"
        refine Rd.ixLq hc2 hp ?_
        walk_at "my rn"
        refine Rd.ixTq hu2 (Rd.at_val (j := 0) rfl h0) ?_
        walk_at "my rn"
        rw [decide_eq_false (by rw [e1]; decide +kernel)]
        refine Rd.ifF ?_
        walk_at "my rn"
        have := q H2 ct.tk 0 s12 (by rw [if_pos e1]) (by rw [e1, if_neg (by decide +kernel)])
        rw [Int.add_zero] at this
        exact this
      · rw [decide_eq_false (fun z => e1 (V.str.inj z))]
        refine Rd.ifF ?_
        walk_at "my rn"
        refine Rd.ixLq hc2 hp ?_
        walk_at "my rn"
        refine Rd.ixTq hu2 (Rd.at_val (j := 0) rfl h0) ?_
        walk_at "my rn"
        refine ifD (fun e2 => ?_) (fun e2 => ?_)
        · walk_at "my rn"
          refine Rd.ixLq hc2 hp ?_
          walk_at "my rn"
          refine Rd.ixTq hu2 (Rd.at_val (j := 1) rfl (hq (by rw [V.str.inj e2]; decide +kernel))) ?_
          walk_at "my rn"
          refine dgetN (rd_of (s12 _ _ hf)) (hcal (V.str.inj e2)) ?_
          walk_at "my rn"
          have := q H2 0 cal s12 (by rw [if_neg e1]) (by rw [if_pos (V.str.inj e2)])
          rw [Int.add_zero] at this
          exact this
        · walk_at "my rn"
          have := q H2 0 0 s12 (by rw [if_neg e1]) (by rw [if_neg (fun z => e2 (by rw [z]))])
          rw [Int.add_zero, Int.add_zero] at this
          exact this
end

end Mine


set_option Elab.async false
set_option linter.all false
set_option maxRecDepth 100000
set_option maxHeartbeats 400000


--@@guards
namespace Mine
open PySem PySem.Spec PyProof.Rows L2 Rd
local macro_rules | `(tactic| walk_at "my rn") => `(tactic| (repeat (first | ((with_reducible apply Rd.vv); exact rfl) | with_reducible refine Rd.c_ ?_ | with_reducible refine Rd.cons ?_ | with_reducible refine Rd.nil ?_ | with_reducible refine Rd.seq ?_ | with_reducible refine Rd.asg ?_ | ((with_reducible refine Rd.gdN ?_); (first | with_reducible refine Rd.n0 ?_ | with_reducible refine Rd.n1 ?_ | with_reducible refine Rd.n2 ?_ | with_reducible refine Rd.n3 ?_ | with_reducible refine Rd.n4 ?_ | with_reducible refine Rd.n5 ?_ | with_reducible refine Rd.n6 ?_ | with_reducible refine Rd.n7 ?_ | with_reducible refine Rd.n8 ?_ | with_reducible refine Rd.n9 ?_ | with_reducible refine Rd.n10 ?_ | with_reducible refine Rd.n11 ?_ | with_reducible refine Rd.n12 ?_ | with_reducible refine Rd.n13 ?_ | with_reducible refine Rd.n14 ?_ | with_reducible refine Rd.n15 ?_ | with_reducible refine Rd.n16 ?_ | with_reducible refine Rd.n17 ?_ | with_reducible refine Rd.n18 ?_ | with_reducible refine Rd.n19 ?_ | with_reducible refine Rd.n20 ?_ | with_reducible refine Rd.n21 ?_ | with_reducible refine Rd.n22 ?_ | with_reducible refine Rd.n23 ?_ | with_reducible refine Rd.n24 ?_ | with_reducible refine Rd.n25 ?_ | with_reducible refine Rd.n26 ?_ | with_reducible refine Rd.n27 ?_)) | with_reducible refine Rd.test ?_ | with_reducible refine Rd.tb_ ?_ | with_reducible refine Rd.op ?_ | with_reducible refine Rd.I0 ?_ | with_reducible refine Rd.bl ?_ | with_reducible refine Rd.bl2 ?_ | with_reducible refine Rd.ifs ?_ | with_reducible refine Rd.and_ ?_ | with_reducible refine Rd.or_ ?_ | with_reducible refine Rd.not_ ?_ | with_reducible refine Rd.drop ?_ | with_reducible refine Rd.ret ?_ | with_reducible refine Rd.next ?_ | with_reducible refine Rd.callS ?_ | with_reducible refine Rd.mkS ?_ | with_reducible refine Rd.mkKS ?_ | with_reducible refine Rd.mkK ?_ | with_reducible refine Rd.callN ?_ | with_reducible refine Rd.catQI ?_ | with_reducible refine Rd.revN ?_ | with_reducible refine Rd.lzip ?_ | with_reducible refine Rd.fld ?_ | with_reducible refine Rd.sfld ?_ | with_reducible refine Rd.meth ?_ | with_reducible refine Rd.make ?_ | with_reducible refine Rd.izip ?_ | with_reducible refine Rd.dnew ?_ | with_reducible refine Rd.din ?_ | with_reducible refine Rd.dnot ?_ | with_reducible refine Rd.dget ?_ | with_reducible refine Rd.dget2 ?_ | with_reducible refine Rd.dput ?_ | with_reducible refine Rd.cbDictOf ?_ | with_reducible refine Rd.iitems ?_ | with_reducible refine Rd.ikeys ?_ | with_reducible refine Rd.dc ?_ | with_reducible refine Rd.nwD ?_ | with_reducible refine Rd.tupN ?_ | with_reducible refine Rd.lstN ?_ | with_reducible refine Rd.cbListOf ?_ | with_reducible refine Rd.cbListOfR ?_ | with_reducible refine Rd.catI ?_ | with_reducible refine Rd.slN ?_ | with_reducible refine Rd.cbSrtI ?_ | with_reducible refine Rd.brk ?_ | with_reducible refine Rd.cont ?_ | with_reducible refine Rd.retN ?_ | with_reducible refine Rd.ife ?_ | with_reducible refine Rd.andV ?_ | with_reducible refine Rd.orV ?_ | with_reducible refine Rd.notV ?_ | with_reducible refine Rd.un ?_ | with_reducible refine Rd.U ?_ | with_reducible refine Rd.ip ?_ | with_reducible refine Rd.call ?_ | with_reducible refine Rd.cb ?_ | with_reducible refine Rd.bm ?_ | with_reducible refine Rd.bm0 ?_ | with_reducible refine Rd.nopart ?_ | with_reducible refine Rd.part ?_ | with_reducible refine Rd.int1 ?_ | with_reducible refine Rd.ints1 ?_ | with_reducible refine Rd.ints2 ?_ | with_reducible refine Rd.gcons ?_ | with_reducible refine Rd.gnil ?_ | with_reducible refine Rd.sub ?_ | with_reducible refine Rd.isN ?_ | with_reducible refine Rd.chain ?_ | with_reducible refine Rd.rf ?_ | with_reducible refine Rd.tyS ?_ | with_reducible refine Rd.intI ?_ | with_reducible refine Rd.lc ?_ | with_reducible refine Rd.for_ ?_ | with_reducible refine Rd.ilist ?_ | with_reducible refine Rd.itup ?_ | with_reducible refine Rd.irng1 ?_ | with_reducible refine Rd.irng2 ?_ | with_reducible refine Rd.ienum ?_ | with_reducible refine Rd.istr ?_ | with_reducible refine Rd.refA ?_ | with_reducible refine Rd.strA ?_ | with_reducible refine Rd.yes ?_ | with_reducible refine Rd.ifT ?_ | with_reducible refine Rd.ifF ?_ | with_reducible refine Rd.ifnT ?_ | with_reducible refine Rd.ifnF ?_ | with_reducible refine Rd.sl ?_ | ((with_reducible apply Rd.glst); (first | assumption | exact upd_same); exact rfl) | ((with_reducible apply Rd.gtP); assumption; assumption) | ((with_reducible apply Rd.revq); first | assumption | exact SqL.of (by assumption)) | ((with_reducible apply Rd.fldI); (first | assumption | exact upd_same); assumption; assumption; (first | assumption | with_unfolding_all rfl)) | ((with_reducible apply Rd.methI); (first | assumption | exact upd_same); (first | assumption | with_unfolding_all rfl)) | ((with_reducible apply Rd.sfldI); (first | assumption | exact upd_same); assumption; assumption; exact Nat.le_of_ble_eq_true rfl) | ((with_reducible apply Rd.maxL); assumption) | ((with_reducible apply Rd.anyL); assumption) | ((with_reducible apply Rd.sumL); assumption) | ((with_reducible refine Rd.izI (by assumption) (by assumption) ?_)) | with_reducible refine Rd.mch ?_ | with_reducible refine Rd.mchI ?_ | with_reducible refine Rd.mchRest ?_ | with_reducible refine Rd.mtq ?_ | with_reducible refine Rd.mtRest ?_ | with_reducible refine Rd.mtEnd ?_ | with_reducible refine Rd.tbC ?_ | with_reducible refine Rd.tbT ?_ | with_reducible refine Rd.tbA ?_ | with_reducible refine Rd.tbN ?_ | with_reducible refine Rd.mto ?_ | with_reducible refine Rd.mtoI ?_ | with_reducible refine Rd.moRest ?_ | with_reducible refine Rd.moEnd ?_ | ((with_reducible apply Rd.mtqI); (first | assumption | exact SqT.of upd_same | exact SqT.of (by assumption)); exact Nat.le_of_ble_eq_true rfl) | ((with_reducible refine Rd.mtLen ?_ ?_); exact rfl) | ((with_reducible refine Rd.mtYes ?_ ?_); exact rfl) | ((with_reducible refine Rd.mtNo ?_ ?_); (first | assumption | decide +kernel)) | ((with_reducible refine Rd.mtOY ?_ ?_); exact rfl) | ((with_reducible refine Rd.mtON ?_ ?_); exact rfl) | ((with_reducible refine Rd.eq ?_ ?_); exact rfl) | ((with_reducible refine Rd.ne ?_ ?_); exact rfl) | ((with_reducible refine Rd.szA ?_ ?_); exact Nat.le_of_ble_eq_true rfl) | ((with_reducible refine Rd.I ?_ ?_); first | assumption | decide | exact Or.inr (by decide +kernel) | exact Or.inl (by decide +kernel) | exact ⟨by decide, by decide⟩ | exact ⟨by decide, by decide, by decide⟩ | omega | exact ⟨by omega, by omega⟩) | ((with_reducible apply Rd.tyL); first | assumption | exact upd_same) | ((with_reducible apply Rd.tyLq); assumption) | ((with_reducible apply Rd.ixL); (first | assumption | exact upd_same); exact rfl) | ((with_reducible apply Rd.ixT); (first | assumption | exact upd_same); exact rfl) | ((with_reducible apply Rd.ixLq); assumption; exact rfl) | ((with_reducible apply Rd.ixTq); assumption; exact rfl) | ((with_reducible apply Rd.gtup); (first | assumption | exact upd_same); exact rfl) | ((with_reducible apply Rd.gtupq); assumption; exact rfl) | ((with_reducible apply Rd.sqAq); assumption) | ((with_reducible apply Rd.stAq); assumption) | ((with_reducible apply Rd.enAq); assumption) | ((with_reducible apply Rd.lenLq); assumption) | ((with_reducible apply Rd.lenTq); assumption) | ((with_reducible apply Rd.sqA); first | assumption | exact upd_same) | ((with_reducible apply Rd.stA); first | assumption | exact upd_same) | ((with_reducible apply Rd.enA); first | assumption | exact upd_same) | ((with_reducible apply Rd.lenL); first | assumption | exact upd_same) | ((with_reducible apply Rd.lenT); first | assumption | exact upd_same) | ((with_reducible refine Rd.nwT ?_ ?_); exact Nat.le_of_ble_eq_true rfl) | ((with_reducible refine Rd.nwL ?_ ?_); exact Nat.le_of_ble_eq_true rfl) | ((with_reducible apply Rd.isd); assumption) | ((with_reducible apply Rd.dictOf); assumption) | ((with_reducible apply Rd.itA); first | assumption | exact upd_same) | ((with_reducible apply Rd.ikA); first | assumption | exact upd_same) | ((with_reducible apply Rd.listOf); assumption) | ((with_reducible apply Rd.listOfq); assumption) | ((with_reducible apply Rd.slo); assumption) | ((with_reducible apply Rd.slq); assumption) | ((with_reducible apply Rd.srtI); assumption) | ((with_reducible apply Rd.srtIo); assumption) | ((with_reducible refine Rd.gdI ?_); (first | with_reducible refine Rd.isi_ii ?_ | with_reducible refine Rd.isi_ib ?_ | with_reducible refine Rd.isi_is ?_ | with_reducible refine Rd.isi_il ?_ | with_reducible refine Rd.isi_it ?_ | with_reducible refine Rd.isi_id ?_ | with_reducible refine Rd.isi_bi ?_ | with_reducible refine Rd.isi_bb ?_ | with_reducible refine Rd.isi_bs ?_ | with_reducible refine Rd.isi_bl ?_ | with_reducible refine Rd.isi_bt ?_ | with_reducible refine Rd.isi_bd ?_ | with_reducible refine Rd.isi_si ?_ | with_reducible refine Rd.isi_sb ?_ | with_reducible refine Rd.isi_ss ?_ | with_reducible refine Rd.isi_sl ?_ | with_reducible refine Rd.isi_st ?_ | with_reducible refine Rd.isi_sd ?_ | with_reducible refine Rd.isi_ni ?_ | with_reducible refine Rd.isi_nb ?_ | with_reducible refine Rd.isi_ns ?_ | with_reducible refine Rd.isi_nl ?_ | with_reducible refine Rd.isi_nt ?_ | with_reducible refine Rd.isi_nd ?_ | ((with_reducible refine Rd.isi_dd (by assumption) ?_)) | ((with_reducible refine Rd.isi_li (by assumption) ?_)) | ((with_reducible refine Rd.isi_lb (by assumption) ?_)) | ((with_reducible refine Rd.isi_ls (by assumption) ?_)) | ((with_reducible refine Rd.isi_ll (by assumption) ?_)) | ((with_reducible refine Rd.isi_lt (by assumption) ?_)) | ((with_reducible refine Rd.isi_ld (by assumption) ?_)) | ((with_reducible refine Rd.isi_ti (by assumption) ?_)) | ((with_reducible refine Rd.isi_tb (by assumption) ?_)) | ((with_reducible refine Rd.isi_ts (by assumption) ?_)) | ((with_reducible refine Rd.isi_tl (by assumption) ?_)) | ((with_reducible refine Rd.isi_tt (by assumption) ?_)) | ((with_reducible refine Rd.isi_td (by assumption) ?_)))) | ((with_reducible refine Rd.gdG ?_); (first | with_reducible refine Rd.g0 ?_ | with_reducible refine Rd.g1 ?_ | with_reducible refine Rd.g2 ?_ | with_reducible refine Rd.g3 ?_ | with_reducible refine Rd.g4 ?_ | with_reducible refine Rd.g5 ?_ | with_reducible refine Rd.g6 ?_ | with_reducible refine Rd.g7 ?_ | with_reducible refine Rd.g8 ?_ | with_reducible refine Rd.g9 ?_ | with_reducible refine Rd.g10 ?_ | with_reducible refine Rd.g11 ?_ | with_reducible refine Rd.g12 ?_ | with_reducible refine Rd.g13 ?_ | with_reducible refine Rd.g14 ?_ | with_reducible refine Rd.g15 ?_ | with_reducible refine Rd.g16 ?_ | with_reducible refine Rd.g17 ?_ | with_reducible refine Rd.g18 ?_ | with_reducible refine Rd.g19 ?_ | with_reducible refine Rd.g20 ?_ | with_reducible refine Rd.g21 ?_ | with_reducible refine Rd.g22 ?_ | with_reducible refine Rd.g23 ?_ | with_reducible refine Rd.g24 ?_ | with_reducible refine Rd.g25 ?_ | with_reducible refine Rd.g26 ?_ | with_reducible refine Rd.g27 ?_)))))







section
variable {P : Program} {w : World} {K : PySem.W.Frag} {mg : Str → Option Value} {base : Heap}
def sp__law_edges_right (K : PySem.W.Frag) (C : Addr) : Sp := fun vs H Q _ => ∃ (t c o u : Addr) (p : Int) (t0 t1 : V) (i : InsR) (xs : List V) (ct : Cost), vs = [.ref t, .ref c, .int p] ∧ SqT K H t [t0, t1, .ref o] ∧ CostsAt C H o ct ∧ SqL K H c xs ∧ xs.length ≤ 1000 ∧ atI xs p = some (.ref u) ∧ InsX K H u i ∧
  ∀ H', Q (.bl true) H'
theorem ok__law_edges_right (T : Top P K mg) : FnOk P w K mg base CX0 2 T.a__law_edges_right T.d__law_edges_right ["_law_processor", "_law_code", "_law_p"]  (sp__law_edges_right K T.C_Costs) := by
  refine T.F__law_edges_right.ok sc__law_edges_right (fun vs H Q E h => ?_) (fun cdv A outer s H vs Q E hr h => ?_)
  · obtain ⟨_, _, _, _, _, _, _, _, _, _, rfl, _⟩ := h
    rfl
  · obtain ⟨t, c, o, u, p, t0, t1, i, xs, ct, rfl, ht, hct, hc, lxs, hp, hi, q⟩ := h
    obtain ⟨ys, hu, h0, _, _, _, hj, hz⟩ := id hi.ex
    refine ⟨_, (pss_cons (ps_set (i := 3) sc__law_edges_right.nd rfl (by first | exact Or.inl rfl | exact Or.inr rfl) (pe_ix ix_tup (pe_ix ix_list (pv 1) (pv 2) (fun _ _ => rfl)) pe_int (fun _ _ => rfl)))
  (pss_cons (ps_set (i := 4) sc__law_edges_right.nd rfl (by first | exact Or.inl rfl | exact Or.inr rfl) (pe_lst (pa_cons (pe_op op_add (pv 2) pe_int) pa_nil)))
  (Evl.pss_cut (ps_if (pt_cmpR op_in_seq (pv 3) (pe_tup (pa_cons pe_str (pa_cons pe_str pa_nil))) (by with_unfolding_all rfl))
  (pss_one (ps_set (i := 4) sc__law_edges_right.nd rfl (by first | exact Or.inl rfl | exact Or.inr rfl) (pe_lst pa_nil)))
  pss_nil)
  (Evl.pss_cut (ps_if (pt_cmpR op_eq (pv 3) pe_str (nomark _))
  (pss_one (ps_set (i := 4) sc__law_edges_right.nd rfl (by first | exact Or.inl rfl | exact Or.inr rfl) (pe_lst (pa_cons (pe_ix ix_tup (pe_ix ix_list (pv 1) (pv 2) (fun _ _ => rfl)) pe_int (fun _ _ => rfl)) pa_nil))))
  pss_nil)
  (Evl.pss_cut (ps_if (pt_cmpR op_in_seq (pv 3) (pe_tup (pa_cons pe_str (pa_cons pe_str pa_nil))) (by with_unfolding_all rfl))
  (pss_one (ps_set (i := 4) sc__law_edges_right.nd rfl (by first | exact Or.inl rfl | exact Or.inr rfl) (pe_lst (pa_cons (pe_op op_add (pv 2) pe_int) (pa_cons (pe_ix ix_tup (pe_ix ix_list (pv 1) (pv 2) (fun _ _ => rfl)) pe_int (fun _ _ => rfl)) pa_nil)))))
  pss_nil)
  (pss_cons (ps_for PassesOwn.never rfl (pi_list (pv 4)) (pg_name (i := 5) sc__law_edges_right.nd rfl (by first | exact Or.inl rfl | exact Or.inr rfl))
  (pss_cons (ps_set (i := 6) sc__law_edges_right.nd rfl (by first | exact Or.inl rfl | exact Or.inr rfl) pe_int)
  (Evl.pss_cut (ps_if (pw_and (pt_cmpR op_in_seq (pv 3) (pe_tup (pa_cons pe_str (pa_cons pe_str pa_nil))) (by with_unfolding_all rfl)) (pw_and1 (pt_cmpR op_eq (pv 5) (pe_ix ix_tup (pe_ix ix_list (pv 1) (pv 2) (fun _ _ => rfl)) pe_int (fun _ _ => rfl)) (nomark _)))).pt
  (pss_one (ps_set (i := 6) sc__law_edges_right.nd rfl (by first | exact Or.inl rfl | exact Or.inr rfl) (pe_fld (pe_ix ix_tup (pv 0) pe_int (fun _ _ => rfl)) rfl)))
  pss_nil)
  (pss_one (ps_if (pt_cmpR op_ne (pe_call (ok_edge_cost T) (hr.mono (by decide)) (by rfl) T.g_edge_cost T.F_edge_cost.kp T.b_edge_cost .nil pass0 (pa_cons (pv 0) (pa_cons (pe_callTy call_list_of (by rfl) T.m_list (by decide +kernel) (pa_cons (pv 1) pa_nil)) (pa_cons (pv 2) (pa_cons (pv 5) pa_nil))))) (pv 6) (nomark _))
  (pss_one (ps_ret pe_bl))
  pss_nil)))))
  (pss_one (ps_ret pe_bl)))))))), ?_⟩
    rw [show ∀ a0 a1 a2 : V, L2.start ["_law_processor", "_law_code", "_law_p", "_law_kind", "_law_targets", "_law_q", "_law_due"] [a0, a1, a2] = [some a0, some a1, some a2, none, none, none, none] from fun _ _ _ => rfl]
    walk_at "my rn"
    refine Rd.ixLq hc hp ?_
    walk_at "my rn"
    refine Rd.ixTq hu (Rd.at_val (j := 0) rfl h0) ?_
    walk_at "my rn"
    intro D H1 nD s1 hD
    walk_at "my rn"
    obtain ⟨Mid, eM⟩ : ∃ Mid : L2.St → Hp → Prop, Mid = fun σ' H' => ∃ (D : Addr) (ls : List Int), σ' = [some (.ref t), some (.ref c), some (.int p), some (.str i.nm), some (.ref D), none, none] ∧ Same H H' ∧ H' D = some (.lst (ls.map V.int)) ∧ ls.length ≤ 3 := ⟨_, rfl⟩
    refine ⟨Mid, ?_, ?_⟩
    · rw [eM]
      walk_at "my rn"
      intro b H2 nb s2 hb
      refine Rd.inStrT ["back", "done"] (SqT.of hb) ?_
      walk_at "my rn"
      refine ifD (fun e => ?_) (fun e => ?_)
      · walk_at "my rn"
        intro D2 H3 nD2 s3 hD2
        exact ⟨D2, [], rfl, s1.trans (s2.trans s3), hD2, by decide⟩
      · walk_at "my rn"
        exact ⟨D, [p + 1], rfl, s1.trans s2, s2 _ _ hD, by simp⟩
    · rw [eM]
      rintro σ' H2 ⟨D, ls, rfl, s2, hD, ll⟩
      have hc2 := s2.seq hc
      have hu2 := s2.seqT hu
      refine ⟨Mid, ?_, ?_⟩
      · rw [eM]
        walk_at "my rn"
        refine ifD (fun e => ?_) (fun e => ?_)
        · walk_at "my rn"
          refine Rd.ixLq hc2 hp ?_
          walk_at "my rn"
          refine Rd.ixTq hu2 (Rd.at_val (j := 1) rfl (hj (by rw [V.str.inj e]; decide +kernel))) ?_
          walk_at "my rn"
          intro D2 H3 nD2 s3 hD2
          exact ⟨D2, [i.q], rfl, s2.trans s3, hD2, by simp⟩
        · walk_at "my rn"
          exact ⟨D, ls, rfl, s2, hD, ll⟩
      · rw [eM]
        rintro σ' H2 ⟨D, ls, rfl, s2, hD, ll⟩
        have hc2 := s2.seq hc
        have hu2 := s2.seqT hu
        refine ⟨Mid, ?_, ?_⟩
        · rw [eM]
          walk_at "my rn"
          intro b H3 nb s3 hb
          have hc3 := s3.seq hc2
          have hu3 := s3.seqT hu2
          refine Rd.inStrT ["jzero", "again"] (SqT.of hb) ?_
          walk_at "my rn"
          refine ifD (fun e => ?_) (fun e => ?_)
          · walk_at "my rn"
            refine Rd.ixLq hc3 hp ?_
            walk_at "my rn"
            refine Rd.ixTq hu3 (Rd.at_val (j := 2) rfl (hz e)) ?_
            walk_at "my rn"
            intro D2 H4 nD2 s4 hD2
            exact ⟨D2, [p + 1, i.q], rfl, s2.trans (s3.trans s4), hD2, by simp⟩
          · walk_at "my rn"
            exact ⟨D, ls, rfl, s2.trans s3, s3 _ _ hD, ll⟩
        · rw [eM]
          rintro σ' H2 ⟨D, ls, rfl, s2, hD, ll⟩
          walk_at "my rn"
          refine for_it (walk_list (xs := ls.map V.int)) (fun k σ H' => ∃ y z, σ = [some (.ref t), some (.ref c), some (.int p), some (.str i.nm), some (.ref D), y, z] ∧ Same H H' ∧ H' D = some (.lst (ls.map V.int))) ⟨none, none, rfl, s2, hD⟩ (fun k σ H' _ ⟨_, _, _, _, h⟩ => SqL.of h) ?_ ?_
          · rintro k x σ Ho H3 hk ⟨y, z, rfl, s3, hD3⟩ ⟨e3, hx⟩
            subst e3
            rw [List.getElem?_map] at hx
            obtain ⟨v, hv, rfl⟩ : ∃ v, ls[k]? = some v ∧ V.int v = x := by
              cases z : ls[k]? with
              | none => rw [z] at hx; cases hx
              | some v => rw [z] at hx; exact ⟨v, rfl, Option.some.inj hx⟩
            have hc3 := s3.seq hc
            have hu3 := s3.seqT hu
            have ht3 := s3.seqT ht
            have hct3 := hct.same s3
            walk_at "my rn"
            refine ⟨fun σ' H' => σ' = [some (.ref t), some (.ref c), some (.int p), some (.str i.nm), some (.ref D), some (.int v), some (.int (eCost ct i v))] ∧ Same H3 H', ?_, ?_⟩
            · walk_at "my rn"
              intro b H4 nb s4 hb
              have hc4 := s4.seq hc3
              have hu4 := s4.seqT hu3
              have ht4 := s4.seqT ht3
              obtain ⟨dx, ho4⟩ := hct3.same s4
              have k9 := (@Cost.look ct).2.2.2.2.2.2.2.2.1
              have kc := T.cl_Costs
              have nn3 := T.n_Costs_taken
              unfold eCost
              refine Rd.inStrT ["jzero", "again"] (SqT.of hb) ?_
              walk_at "my rn"
              refine ifD (fun e => ?_) (fun e => ?_)
              · walk_at "my rn"
                refine Rd.ixLq hc4 hp ?_
                walk_at "my rn"
                refine Rd.ixTq hu4 (Rd.at_val (j := 2) rfl (hz e)) ?_
                walk_at "my rn"
                refine ifD (fun e2 => ?_) (fun e2 => ?_)
                · walk_at "my rn"
                  rw [if_pos ⟨e, (V.int.inj e2).symm⟩]
                  exact ⟨rfl, s4⟩
                · walk_at "my rn"
                  rw [if_neg (fun z => e2 (by rw [z.2]))]
                  exact ⟨rfl, s4⟩
              · walk_at "my rn"
                rw [if_neg (fun z => e z.1)]
                exact ⟨rfl, s4⟩
            · rintro σ' H4 ⟨rfl, s4⟩
              have hc4 := s4.seq hc3
              walk_at "my rn"
              intro B H5 nB s5 hB
              walk_at "my rn"
              refine ⟨t, B, o, u, p, v, t0, t1, i, xs, ct, rfl, (s4.trans s5).seqT ht3, hct3.same (s4.trans s5), SqL.of hB, hp, (hi.same s3).same (s4.trans s5), fun H6 s6 => ?_⟩
              walk_at "my rn"
              rw [decide_eq_true rfl]
              refine Rd.ifnT ?_
              have s36 := s4.trans (s5.trans s6)
              exact ⟨_, _, rfl, s3.trans s36, s36 _ _ hD3⟩
          · rintro σ H3 ⟨y, z, rfl, s3, hD3⟩
            walk_at "my rn"
            exact q _
/-- what the law knows of a cache at the start -/
structure Kn (m : List (Int × Int)) : Prop where
  nd : (m.map (·.1)).Nodup
  k : ∀ q ∈ m, (0 ≤ q.1 ∧ q.1 < 4294967296) ∧ 0 ≤ q.2 ∧ q.2 < 4294967296
theorem Kn.put {m : List (Int × Int)} (h : Kn m) {a b : Int} (ha : 0 ≤ a ∧ a < 4294967296) (hb : 0 ≤ b ∧ b < 4294967296) : Kn (ptN m a b) ∧ (ptN m a b).length ≤ m.length + 1 :=
  ⟨⟨ptN_keys h.nd, fun p hp => by
    rcases ptN_mem hp with rfl | ⟨hp, _⟩
    · exact ⟨ha, hb⟩
    · exact h.k p hp⟩, ptN_len⟩
def sp__law_known (K : PySem.W.Frag) : Sp := fun vs H Q _ => ∃ (t l : Addr) (S W L sd : Int) (ls : List Int), vs = [.ref t, .ref l, .int sd] ∧ ShapeAt K H t S W L ∧ ShOk S W L ∧ H l = some (.lst (ls.map V.int)) ∧ (∀ x ∈ ls, 0 ≤ x ∧ x < 100000) ∧
  ∀ (A : Addr) (m : List (Int × Int)) (H' : Hp), Kn m → m.length ≤ 8 → H A = none → Same H H' → H' A = some (DN m) → Q (.ref A) H'
theorem ok__law_known (T : Top P K mg) : FnOk P w K mg base CX0 2 T.a__law_known T.d__law_known ["_law_shape_here", "_law_lines", "_law_seed"]  (sp__law_known K) := by
  refine T.F__law_known.ok sc__law_known (fun vs H Q E h => ?_) (fun cdv A outer s H vs Q E hr h => ?_)
  · obtain ⟨_, _, _, _, _, _, _, rfl, _⟩ := h
    rfl
  · obtain ⟨t, l, S, W, L, sd, ls, rfl, hsh, so, hl, lb, q⟩ := h
    refine ⟨_, (pss_cons (ps_set (i := 3) sc__law_known.nd rfl (by first | exact Or.inl rfl | exact Or.inr rfl) pe_dnewK)
  (pss_cons (ps_for PassesOwn.never rfl (pi_range1 (by rfl) T.m_range (pa_cons (pe_op op_mod (pe_call (ok__law_mixed T) (hr.mono (by decide)) (by rfl) T.g__law_mixed T.F__law_mixed.kp T.b__law_mixed .nil pass0 (pa_cons (pv 2) (pa_cons pe_int pa_nil))) pe_int) pa_nil)) (pg_name (i := 4) sc__law_known.nd rfl (by first | exact Or.inl rfl | exact Or.inr rfl))
  (pss_cons (ps_set (i := 5) sc__law_known.nd rfl (by first | exact Or.inl rfl | exact Or.inr rfl) (pe_op op_mod (pe_call (ok__law_mixed T) (hr.mono (by decide)) (by rfl) T.g__law_mixed T.F__law_mixed.kp T.b__law_mixed .nil pass0 (pa_cons (pv 2) (pa_cons (pe_op op_add pe_int (pv 4)) pa_nil))) (pe_op op_fdiv pe_int (pe_ix ix_tup (pv 0) pe_int (fun _ _ => rfl)))))
  (Evl.pss_cut (ps_if (pw_and (pt_cmpR op_gt (pe_callB call_len_seq (by rfl) T.m_len PySem.boot_len (pa_cons (pv 1) pa_nil)) pe_int (nomark _)) (pw_and1 (pt_cmpR op_gt (pe_op op_mod (pe_call (ok__law_mixed T) (hr.mono (by decide)) (by rfl) T.g__law_mixed T.F__law_mixed.kp T.b__law_mixed .nil pass0 (pa_cons (pv 2) (pa_cons (pe_op op_add pe_int (pv 4)) pa_nil))) pe_int) pe_int (nomark _)))).pt
  (pss_one (ps_set (i := 5) sc__law_known.nd rfl (by first | exact Or.inl rfl | exact Or.inr rfl) (pe_ix ix_list (pv 1) (pe_op op_mod (pe_call (ok__law_mixed T) (hr.mono (by decide)) (by rfl) T.g__law_mixed T.F__law_mixed.kp T.b__law_mixed .nil pass0 (pa_cons (pv 2) (pa_cons (pe_op op_add pe_int (pv 4)) pa_nil))) (pe_callB call_len_seq (by rfl) T.m_len PySem.boot_len (pa_cons (pv 1) pa_nil))) (fun _ _ => rfl))))
  (pss_one (ps_if (pw_and (pt_cmpR op_gt (pe_callB call_len_seq (by rfl) T.m_len PySem.boot_len (pa_cons (pv 1) pa_nil)) pe_int (nomark _)) (pw_and1 (pt_cmpR op_eq (pe_op op_mod (pe_call (ok__law_mixed T) (hr.mono (by decide)) (by rfl) T.g__law_mixed T.F__law_mixed.kp T.b__law_mixed .nil pass0 (pa_cons (pv 2) (pa_cons (pe_op op_add pe_int (pv 4)) pa_nil))) pe_int) pe_int (nomark _)))).pt
  (pss_one (ps_set (i := 5) sc__law_known.nd rfl (by first | exact Or.inl rfl | exact Or.inr rfl) (pe_op op_mod (pe_callTy call_int1 (by rfl) T.m_int (by decide +kernel) (pa_cons (pe_op op_add (pe_ix ix_list (pv 1) pe_int (fun _ _ => rfl)) (pe_op op_mul (pe_ix ix_tup (pv 0) pe_int (fun _ _ => rfl)) (pe_op op_add pe_int (pe_op op_mod (pe_call (ok__law_mixed T) (hr.mono (by decide)) (by rfl) T.g__law_mixed T.F__law_mixed.kp T.b__law_mixed .nil pass0 (pa_cons (pv 2) (pa_cons (pe_op op_add pe_int (pv 4)) pa_nil))) pe_int)))) pa_nil)) (pe_op op_fdiv pe_int (pe_ix ix_tup (pv 0) pe_int (fun _ _ => rfl))))))
  pss_nil)))
  (pss_one (ps_dput (hu_of hr) (pv 3) (pv 5) (pe_op op_mod (pe_call (ok__law_mixed T) (hr.mono (by decide)) (by rfl) T.g__law_mixed T.F__law_mixed.kp T.b__law_mixed .nil pass0 (pa_cons (pv 2) (pa_cons (pe_op op_add pe_int (pv 4)) pa_nil))) (pe_ix ix_tup (pv 0) pe_int (fun _ _ => rfl))) rfl)))))
  (pss_one (ps_ret (pv 3))))), ?_⟩
    rw [show ∀ a0 a1 a2 : V, L2.start ["_law_shape_here", "_law_lines", "_law_seed", "_law_known_here", "_law_k", "_law_line"] [a0, a1, a2] = [some a0, some a1, some a2, none, none, none] from fun _ _ _ => rfl]
    have hsh' : SqT K H t [.int S, .int W, .int L] := hsh
    walk_at "my rn"
    intro A H1 nA s1 hA
    walk_at "my rn"
    refine ⟨sd, 1, rfl, fun v v0 => ?_⟩
    obtain ⟨⟨s0, s3⟩, w0, w1⟩ : (1 ≤ S ∧ S ≤ 64) ∧ 1 ≤ W ∧ W ≤ 4 := ⟨⟨so.s0, so.s1⟩, so.w0, so.w1⟩
    obtain ⟨l1, l2⟩ : 1 ≤ L ∧ L ≤ 16 := by have := so.l; omega
    have hq : 0 < (16384 : Int) / L ∧ (16384 : Int) / L ≤ 16384 := by have := so.l; rcases this with rfl | rfl | rfl | rfl | rfl <;> decide
    obtain ⟨hq0, hq1⟩ := hq
    have mb := fun x => Int.emod_lt_of_pos x hq0
    have mn := fun x => Int.emod_nonneg x (show (16384 : Int) / L ≠ 0 by omega)
    have hl1 := s1 _ _ hl
    have hs1 := s1.seqT hsh'
    have lA : l ≠ A := ne_of_none hl nA
    walk_at "my rn"
    refine ⟨by omega, by omega, for_it walk_range (fun k σ H' => ∃ (m : List (Int × Int)) (y z : Option V), σ = [some (.ref t), some (.ref l), some (.int sd), some (.ref A), y, z] ∧ Kn m ∧ m.length ≤ k ∧ H' A = some (DN m) ∧ H' l = some (.lst (ls.map V.int)) ∧ Same H H') ⟨[], none, none, rfl, ⟨List.nodup_nil, fun q h => by cases h⟩, Nat.zero_le _, hA, hl1, s1⟩ (fun _ _ _ _ _ => trivial) ?_ ?_⟩
    · rintro k x σ Ho H' hk ⟨m, y, z, rfl, kn, lm, hA', hl', s'⟩ yy
      obtain ⟨rfl, e3⟩ := Rd.zr yy
      subst e3
      have hs' := s'.seqT hsh'
      have k8 : k < 9 := by have : k < (v % 9).toNat := hk; omega
      walk_at "my rn"
      refine ⟨sd, _, rfl, fun v1 v10 => ?_⟩
      walk_at "my rn"
      refine ⟨fun σ' H1 => ∃ ln : Int, (0 ≤ ln ∧ ln < 4294967296) ∧ H1 = H' ∧ σ' = [some (.ref t), some (.ref l), some (.int sd), some (.ref A), some (.int (k : Int)), some (.int ln)], ?_, ?_⟩
      · have own : ∃ ln : Int, (0 ≤ ln ∧ ln < 4294967296) ∧ ln = v1 % (16384 / L) := ⟨_, ⟨mn _, by have := mb v1; omega⟩, rfl⟩
        have nw := mn v1
        have nb := mb v1
        walk_at "my rn"
        refine ifD (fun e1 => ?_) (fun e1 => ?_)
        · have e1m := e1
          rw [List.length_map] at e1
          obtain ⟨x0, r0, er⟩ : ∃ x r, ls = x :: r := by
            cases ls with
            | nil => exact absurd e1 (by decide)
            | cons x r => exact ⟨x, r, rfl⟩
          have b0 := lb x0 (by rw [er]; exact List.mem_cons_self ..)
          walk_at "my rn"
          refine ⟨sd, _, rfl, fun v2 v20 => ?_⟩
          walk_at "my rn"
          refine ifD (fun e2 => ?_) (fun e2 => ?_)
          · walk_at "my rn"
            refine ⟨sd, _, rfl, fun v3 v30 => ?_⟩
            walk_at "my rn"
            obtain ⟨x, mx, hx⟩ := atl_mem (xs := ls) (Int.emod_nonneg v3 (show (ls.length : Int) ≠ 0 by omega)) (Int.emod_lt_of_pos v3 e1)
            rw [List.length_map]
            refine Rd.ixL hl' hx ?_
            have bx := lb x mx
            walk_at "my rn"
            exact ⟨x, ⟨bx.1, by omega⟩, rfl, rfl⟩
          · walk_at "my rn"
            rw [decide_eq_true e1m]
            refine Rd.ifT ?_
            walk_at "my rn"
            refine ⟨sd, _, rfl, fun v3 v30 => ?_⟩
            walk_at "my rn"
            refine ifD (fun e3 => ?_) (fun e3 => ?_)
            · walk_at "my rn"
              refine Rd.ixL hl' (Rd.at_int (j := 0) rfl (by rw [er]; rfl)) ?_
              walk_at "my rn"
              refine ⟨sd, _, rfl, fun v4 v40 => ?_⟩
              walk_at "my rn"
              refine Rd.I (show CMul S (1 + v4 % 3) from .inl ⟨by omega, by omega⟩) ?_
              have nz := mn (x0 + S * (1 + v4 % 3))
              have bz := mb (x0 + S * (1 + v4 % 3))
              walk_at "my rn"
              exact ⟨_, ⟨nz, by omega⟩, rfl, rfl⟩
            · walk_at "my rn"
              exact ⟨_, ⟨nw, by omega⟩, rfl, rfl⟩
        · refine Rd.ifF ?_
          walk_at "my rn"
          rw [decide_eq_false e1]
          refine Rd.ifF ?_
          walk_at "my rn"
          exact ⟨_, ⟨nw, by omega⟩, rfl, rfl⟩
      · rintro σ' H1 ⟨ln, bl, rfl, rfl⟩
        walk_at "my rn"
        refine ⟨sd, _, rfl, fun v4 v40 => ?_⟩
        walk_at "my rn"
        refine dputN hA' (by omega) ?_
        have kp := kn.put bl (b := v4 % W) ⟨Int.emod_nonneg _ (by omega), by have := Int.emod_lt_of_pos v4 (show 0 < W by omega); omega⟩
        refine ⟨_, _, _, rfl, kp.1, Nat.le_trans kp.2 (by omega), upd_same, by rw [upd_ne lA]; exact hl', s'.off nA⟩
    · rintro σ H' ⟨m, y, z, rfl, kn, lm, hA', hl', s'⟩
      walk_at "my rn"
      exact q A m H' kn (by have : m.length ≤ (v % 9).toNat := lm; omega) nA s' hA'
end

end Mine


set_option Elab.async false
set_option linter.all false
set_option maxRecDepth 100000
set_option maxHeartbeats 400000


--@@guards
namespace Mine
open PySem PySem.Spec PyProof.Rows L2 Rd
local macro_rules | `(tactic| walk_at "my rn") => `(tactic| (repeat (first | ((with_reducible apply Rd.vv); exact rfl) | with_reducible refine Rd.c_ ?_ | with_reducible refine Rd.cons ?_ | with_reducible refine Rd.nil ?_ | with_reducible refine Rd.seq ?_ | with_reducible refine Rd.asg ?_ | ((with_reducible refine Rd.gdN ?_); (first | with_reducible refine Rd.n0 ?_ | with_reducible refine Rd.n1 ?_ | with_reducible refine Rd.n2 ?_ | with_reducible refine Rd.n3 ?_ | with_reducible refine Rd.n4 ?_ | with_reducible refine Rd.n5 ?_ | with_reducible refine Rd.n6 ?_ | with_reducible refine Rd.n7 ?_ | with_reducible refine Rd.n8 ?_ | with_reducible refine Rd.n9 ?_ | with_reducible refine Rd.n10 ?_ | with_reducible refine Rd.n11 ?_ | with_reducible refine Rd.n12 ?_ | with_reducible refine Rd.n13 ?_ | with_reducible refine Rd.n14 ?_ | with_reducible refine Rd.n15 ?_ | with_reducible refine Rd.n16 ?_ | with_reducible refine Rd.n17 ?_ | with_reducible refine Rd.n18 ?_ | with_reducible refine Rd.n19 ?_ | with_reducible refine Rd.n20 ?_ | with_reducible refine Rd.n21 ?_ | with_reducible refine Rd.n22 ?_ | with_reducible refine Rd.n23 ?_ | with_reducible refine Rd.n24 ?_ | with_reducible refine Rd.n25 ?_ | with_reducible refine Rd.n26 ?_ | with_reducible refine Rd.n27 ?_)) | with_reducible refine Rd.test ?_ | with_reducible refine Rd.tb_ ?_ | with_reducible refine Rd.op ?_ | with_reducible refine Rd.I0 ?_ | with_reducible refine Rd.bl ?_ | with_reducible refine Rd.bl2 ?_ | with_reducible refine Rd.ifs ?_ | with_reducible refine Rd.and_ ?_ | with_reducible refine Rd.or_ ?_ | with_reducible refine Rd.not_ ?_ | with_reducible refine Rd.drop ?_ | with_reducible refine Rd.ret ?_ | with_reducible refine Rd.next ?_ | with_reducible refine Rd.callS ?_ | with_reducible refine Rd.mkS ?_ | with_reducible refine Rd.mkKS ?_ | with_reducible refine Rd.mkK ?_ | with_reducible refine Rd.callN ?_ | with_reducible refine Rd.catQI ?_ | with_reducible refine Rd.revN ?_ | with_reducible refine Rd.lzip ?_ | with_reducible refine Rd.fld ?_ | with_reducible refine Rd.sfld ?_ | with_reducible refine Rd.meth ?_ | with_reducible refine Rd.make ?_ | with_reducible refine Rd.izip ?_ | with_reducible refine Rd.dnew ?_ | with_reducible refine Rd.din ?_ | with_reducible refine Rd.dnot ?_ | with_reducible refine Rd.dget ?_ | with_reducible refine Rd.dget2 ?_ | with_reducible refine Rd.dput ?_ | with_reducible refine Rd.cbDictOf ?_ | with_reducible refine Rd.iitems ?_ | with_reducible refine Rd.ikeys ?_ | with_reducible refine Rd.dc ?_ | with_reducible refine Rd.nwD ?_ | with_reducible refine Rd.tupN ?_ | with_reducible refine Rd.lstN ?_ | with_reducible refine Rd.cbListOf ?_ | with_reducible refine Rd.cbListOfR ?_ | with_reducible refine Rd.catI ?_ | with_reducible refine Rd.slN ?_ | with_reducible refine Rd.cbSrtI ?_ | with_reducible refine Rd.brk ?_ | with_reducible refine Rd.cont ?_ | with_reducible refine Rd.retN ?_ | with_reducible refine Rd.ife ?_ | with_reducible refine Rd.andV ?_ | with_reducible refine Rd.orV ?_ | with_reducible refine Rd.notV ?_ | with_reducible refine Rd.un ?_ | with_reducible refine Rd.U ?_ | with_reducible refine Rd.ip ?_ | with_reducible refine Rd.call ?_ | with_reducible refine Rd.cb ?_ | with_reducible refine Rd.bm ?_ | with_reducible refine Rd.bm0 ?_ | with_reducible refine Rd.nopart ?_ | with_reducible refine Rd.part ?_ | with_reducible refine Rd.int1 ?_ | with_reducible refine Rd.ints1 ?_ | with_reducible refine Rd.ints2 ?_ | with_reducible refine Rd.gcons ?_ | with_reducible refine Rd.gnil ?_ | with_reducible refine Rd.sub ?_ | with_reducible refine Rd.isN ?_ | with_reducible refine Rd.chain ?_ | with_reducible refine Rd.rf ?_ | with_reducible refine Rd.tyS ?_ | with_reducible refine Rd.intI ?_ | with_reducible refine Rd.lc ?_ | with_reducible refine Rd.for_ ?_ | with_reducible refine Rd.ilist ?_ | with_reducible refine Rd.itup ?_ | with_reducible refine Rd.irng1 ?_ | with_reducible refine Rd.irng2 ?_ | with_reducible refine Rd.ienum ?_ | with_reducible refine Rd.istr ?_ | with_reducible refine Rd.refA ?_ | with_reducible refine Rd.strA ?_ | with_reducible refine Rd.yes ?_ | with_reducible refine Rd.ifT ?_ | with_reducible refine Rd.ifF ?_ | with_reducible refine Rd.ifnT ?_ | with_reducible refine Rd.ifnF ?_ | with_reducible refine Rd.sl ?_ | ((with_reducible apply Rd.glst); (first | assumption | exact upd_same); exact rfl) | ((with_reducible apply Rd.gtP); assumption; assumption) | ((with_reducible apply Rd.revq); first | assumption | exact SqL.of (by assumption)) | ((with_reducible apply Rd.fldI); (first | assumption | exact upd_same); assumption; assumption; (first | assumption | with_unfolding_all rfl)) | ((with_reducible apply Rd.methI); (first | assumption | exact upd_same); (first | assumption | with_unfolding_all rfl)) | ((with_reducible apply Rd.sfldI); (first | assumption | exact upd_same); assumption; assumption; exact Nat.le_of_ble_eq_true rfl) | ((with_reducible apply Rd.maxL); assumption) | ((with_reducible apply Rd.anyL); assumption) | ((with_reducible apply Rd.sumL); assumption) | ((with_reducible refine Rd.izI (by assumption) (by assumption) ?_)) | with_reducible refine Rd.mch ?_ | with_reducible refine Rd.mchI ?_ | with_reducible refine Rd.mchRest ?_ | with_reducible refine Rd.mtq ?_ | with_reducible refine Rd.mtRest ?_ | with_reducible refine Rd.mtEnd ?_ | with_reducible refine Rd.tbC ?_ | with_reducible refine Rd.tbT ?_ | with_reducible refine Rd.tbA ?_ | with_reducible refine Rd.tbN ?_ | with_reducible refine Rd.mto ?_ | with_reducible refine Rd.mtoI ?_ | with_reducible refine Rd.moRest ?_ | with_reducible refine Rd.moEnd ?_ | ((with_reducible apply Rd.mtqI); (first | assumption | exact SqT.of upd_same | exact SqT.of (by assumption)); exact Nat.le_of_ble_eq_true rfl) | ((with_reducible refine Rd.mtLen ?_ ?_); exact rfl) | ((with_reducible refine Rd.mtYes ?_ ?_); exact rfl) | ((with_reducible refine Rd.mtNo ?_ ?_); (first | assumption | decide +kernel)) | ((with_reducible refine Rd.mtOY ?_ ?_); exact rfl) | ((with_reducible refine Rd.mtON ?_ ?_); exact rfl) | ((with_reducible refine Rd.eq ?_ ?_); exact rfl) | ((with_reducible refine Rd.ne ?_ ?_); exact rfl) | ((with_reducible refine Rd.szA ?_ ?_); exact Nat.le_of_ble_eq_true rfl) | ((with_reducible refine Rd.I ?_ ?_); first | assumption | decide | exact Or.inr (by decide +kernel) | exact Or.inl (by decide +kernel) | exact ⟨by decide, by decide⟩ | exact ⟨by decide, by decide, by decide⟩ | omega | exact ⟨by omega, by omega⟩) | ((with_reducible apply Rd.tyL); first | assumption | exact upd_same) | ((with_reducible apply Rd.tyLq); assumption) | ((with_reducible apply Rd.ixL); (first | assumption | exact upd_same); exact rfl) | ((with_reducible apply Rd.ixT); (first | assumption | exact upd_same); exact rfl) | ((with_reducible apply Rd.ixLq); assumption; exact rfl) | ((with_reducible apply Rd.ixTq); assumption; exact rfl) | ((with_reducible apply Rd.gtup); (first | assumption | exact upd_same); exact rfl) | ((with_reducible apply Rd.gtupq); assumption; exact rfl) | ((with_reducible apply Rd.sqAq); assumption) | ((with_reducible apply Rd.stAq); assumption) | ((with_reducible apply Rd.enAq); assumption) | ((with_reducible apply Rd.lenLq); assumption) | ((with_reducible apply Rd.lenTq); assumption) | ((with_reducible apply Rd.sqA); first | assumption | exact upd_same) | ((with_reducible apply Rd.stA); first | assumption | exact upd_same) | ((with_reducible apply Rd.enA); first | assumption | exact upd_same) | ((with_reducible apply Rd.lenL); first | assumption | exact upd_same) | ((with_reducible apply Rd.lenT); first | assumption | exact upd_same) | ((with_reducible refine Rd.nwT ?_ ?_); exact Nat.le_of_ble_eq_true rfl) | ((with_reducible refine Rd.nwL ?_ ?_); exact Nat.le_of_ble_eq_true rfl) | ((with_reducible apply Rd.isd); assumption) | ((with_reducible apply Rd.dictOf); assumption) | ((with_reducible apply Rd.itA); first | assumption | exact upd_same) | ((with_reducible apply Rd.ikA); first | assumption | exact upd_same) | ((with_reducible apply Rd.listOf); assumption) | ((with_reducible apply Rd.listOfq); assumption) | ((with_reducible apply Rd.slo); assumption) | ((with_reducible apply Rd.slq); assumption) | ((with_reducible apply Rd.srtI); assumption) | ((with_reducible apply Rd.srtIo); assumption) | ((with_reducible refine Rd.gdI ?_); (first | with_reducible refine Rd.isi_ii ?_ | with_reducible refine Rd.isi_ib ?_ | with_reducible refine Rd.isi_is ?_ | with_reducible refine Rd.isi_il ?_ | with_reducible refine Rd.isi_it ?_ | with_reducible refine Rd.isi_id ?_ | with_reducible refine Rd.isi_bi ?_ | with_reducible refine Rd.isi_bb ?_ | with_reducible refine Rd.isi_bs ?_ | with_reducible refine Rd.isi_bl ?_ | with_reducible refine Rd.isi_bt ?_ | with_reducible refine Rd.isi_bd ?_ | with_reducible refine Rd.isi_si ?_ | with_reducible refine Rd.isi_sb ?_ | with_reducible refine Rd.isi_ss ?_ | with_reducible refine Rd.isi_sl ?_ | with_reducible refine Rd.isi_st ?_ | with_reducible refine Rd.isi_sd ?_ | with_reducible refine Rd.isi_ni ?_ | with_reducible refine Rd.isi_nb ?_ | with_reducible refine Rd.isi_ns ?_ | with_reducible refine Rd.isi_nl ?_ | with_reducible refine Rd.isi_nt ?_ | with_reducible refine Rd.isi_nd ?_ | ((with_reducible refine Rd.isi_dd (by assumption) ?_)) | ((with_reducible refine Rd.isi_li (by assumption) ?_)) | ((with_reducible refine Rd.isi_lb (by assumption) ?_)) | ((with_reducible refine Rd.isi_ls (by assumption) ?_)) | ((with_reducible refine Rd.isi_ll (by assumption) ?_)) | ((with_reducible refine Rd.isi_lt (by assumption) ?_)) | ((with_reducible refine Rd.isi_ld (by assumption) ?_)) | ((with_reducible refine Rd.isi_ti (by assumption) ?_)) | ((with_reducible refine Rd.isi_tb (by assumption) ?_)) | ((with_reducible refine Rd.isi_ts (by assumption) ?_)) | ((with_reducible refine Rd.isi_tl (by assumption) ?_)) | ((with_reducible refine Rd.isi_tt (by assumption) ?_)) | ((with_reducible refine Rd.isi_td (by assumption) ?_)))) | ((with_reducible refine Rd.gdG ?_); (first | with_reducible refine Rd.g0 ?_ | with_reducible refine Rd.g1 ?_ | with_reducible refine Rd.g2 ?_ | with_reducible refine Rd.g3 ?_ | with_reducible refine Rd.g4 ?_ | with_reducible refine Rd.g5 ?_ | with_reducible refine Rd.g6 ?_ | with_reducible refine Rd.g7 ?_ | with_reducible refine Rd.g8 ?_ | with_reducible refine Rd.g9 ?_ | with_reducible refine Rd.g10 ?_ | with_reducible refine Rd.g11 ?_ | with_reducible refine Rd.g12 ?_ | with_reducible refine Rd.g13 ?_ | with_reducible refine Rd.g14 ?_ | with_reducible refine Rd.g15 ?_ | with_reducible refine Rd.g16 ?_ | with_reducible refine Rd.g17 ?_ | with_reducible refine Rd.g18 ?_ | with_reducible refine Rd.g19 ?_ | with_reducible refine Rd.g20 ?_ | with_reducible refine Rd.g21 ?_ | with_reducible refine Rd.g22 ?_ | with_reducible refine Rd.g23 ?_ | with_reducible refine Rd.g24 ?_ | with_reducible refine Rd.g25 ?_ | with_reducible refine Rd.g26 ?_ | with_reducible refine Rd.g27 ?_)))))







section
variable {P : Program} {w : World} {K : PySem.W.Frag} {mg : Str → Option Value} {base : Heap}
theorem atV_mem {xs : List V} {z : Int} (h0 : 0 ≤ z) (h1 : z < (xs.length : Int)) : ∃ e ∈ xs, atI xs z = some e := by
  obtain ⟨n, rfl⟩ : ∃ n : Nat, z = n := ⟨z.toNat, by omega⟩
  have hn : n < xs.length := by omega
  exact ⟨xs[n], List.getElem_mem hn, Rd.at_val rfl (List.getElem?_eq_getElem hn)⟩
def IsX (K : PySem.W.Frag) (H : Hp) (a n : Int) (v : V) : Prop := ∃ (t : Addr) (nm op : Str) (q : Int), v = .ref t ∧ (0 ≤ q ∧ q ≤ 31) ∧ op ≠ "mod" ∧ InsX K H t ⟨nm, op, a, n, q⟩
theorem IsX.same {K : PySem.W.Frag} {H H' : Hp} {a n : Int} {v : V} (h : IsX K H a n v) (s : Same H H') : IsX K H' a n v := by
  obtain ⟨t, nm, op, q, e, qb, o, h⟩ := h
  exact ⟨t, nm, op, q, e, qb, o, h.same s⟩
def sp__law_instruction (K : PySem.W.Frag) : Sp := fun vs H Q _ => ∃ (d p : Int), vs = [.int d, .int p] ∧ 0 ≤ d ∧ 0 ≤ p ∧ p ≤ 30 ∧ ∀ (u : Addr) (i : InsR) (H' : Hp), InsX K H' u i → i.Ok → i.op ≠ "mod" → 0 ≤ i.q → i.q ≤ 31 → Same H H' → Q (.ref u) H'
theorem ok__law_instruction (T : Top P K mg) : FnOk P w K mg base CX0 1 T.a__law_instruction T.d__law_instruction ["_law_draw", "_law_p"]  (sp__law_instruction K) := by
  refine T.F__law_instruction.ok sc__law_instruction (fun vs H Q E h => ?_) (fun cdv A outer s H vs Q E hr h => ?_)
  · obtain ⟨_, _, rfl, _⟩ := h
    rfl
  · obtain ⟨d, p, rfl, d0, p0, p1, q⟩ := h
    refine ⟨_, (pss_cons (ps_set (i := 2) sc__law_instruction.nd rfl (by first | exact Or.inl rfl | exact Or.inr rfl) (pe_op op_fdiv (pe_callTy call_int1 (by rfl) T.m_int (by decide +kernel) (pa_cons (pv 0) pa_nil)) pe_int))
  (pss_cons (ps_set (i := 3) sc__law_instruction.nd rfl (by first | exact Or.inl rfl | exact Or.inr rfl) (pe_op op_mod (pe_callTy call_int1 (by rfl) T.m_int (by decide +kernel) (pa_cons (pv 0) pa_nil)) pe_int))
  (pss_cons (ps_set (i := 4) sc__law_instruction.nd rfl (by first | exact Or.inl rfl | exact Or.inr rfl) (pe_ix ix_list (pe_lst (pa_cons (pe_op op_mod (pv 2) pe_int) (pa_cons (pe_op op_mod (pv 2) pe_int) pa_nil))) (pe_op op_mod (pe_op op_fdiv (pv 2) pe_int) pe_int) (fun _ _ => rfl)))
  (pss_cons (ps_set (i := 5) sc__law_instruction.nd rfl (by first | exact Or.inl rfl | exact Or.inr rfl) (pe_op op_add pe_int (pe_op op_mod (pe_op op_fdiv (pv 2) pe_int) (pe_callB (call_min2 rfl) (by rfl) T.m_min (by decide +kernel) (pa_cons pe_int (pa_cons (pe_op op_sub pe_int (pv 4)) pa_nil))))))
  (pss_cons (ps_set (i := 6) sc__law_instruction.nd rfl (by first | exact Or.inl rfl | exact Or.inr rfl) (pe_op op_mod (pe_op op_fdiv (pv 2) pe_int) pe_int))
  (pss_cons (ps_set (i := 7) sc__law_instruction.nd rfl (by first | exact Or.inl rfl | exact Or.inr rfl) (pe_ix ix_list (pe_lst (pa_cons (pe_op op_add (pv 1) pe_int) (pa_cons (pv 1) (pa_cons (pe_op op_mod (pe_op op_fdiv (pv 2) pe_int) pe_int) pa_nil)))) (pe_op op_mod (pe_op op_fdiv (pv 2) pe_int) pe_int) (fun _ _ => rfl)))
  (pss_cons (ps_if (pt_cmpR op_lt (pv 3) pe_int (nomark _))
  (pss_one (ps_ret (pe_ix ix_list (pe_lst (pa_cons (pe_tup (pa_cons pe_str (pa_cons (pv 6) (pa_cons (pe_op op_mod (pv 2) pe_int) pa_nil)))) (pa_cons (pe_tup (pa_cons pe_str (pa_cons (pv 6) (pa_cons (pe_op op_mod (pv 2) pe_int) pa_nil)))) (pa_cons (pe_tup (pa_cons pe_str (pa_cons (pe_ix ix_list (pe_lst (pa_cons pe_str (pa_cons pe_str (pa_cons pe_str pa_nil)))) (pe_op op_mod (pv 2) pe_int) (fun _ _ => rfl)) (pa_cons (pv 6) (pa_cons pe_int (pa_cons pe_int pa_nil)))))) pa_nil)))) (pv 3) (fun _ _ => rfl))))
  pss_nil)
  (pss_cons (ps_if (pt_cmpR op_lt (pv 3) pe_int (nomark _))
  (pss_one (ps_ret (pe_ix ix_list (pe_lst (pa_cons (pe_tup (pa_cons pe_str (pa_cons (pv 6) (pa_cons (pv 4) pa_nil)))) (pa_cons (pe_tup (pa_cons pe_str (pa_cons (pv 6) (pa_cons (pv 4) pa_nil)))) (pa_cons (pe_tup (pa_cons pe_str (pa_cons (pv 6) (pa_cons pe_int (pa_cons (pv 4) (pa_cons (pv 5) pa_nil)))))) (pa_cons (pe_tup (pa_cons pe_str (pa_cons (pv 6) (pa_cons pe_int (pa_cons (pv 4) (pa_cons (pv 5) pa_nil)))))) pa_nil))))) (pe_op op_sub (pv 3) pe_int) (fun _ _ => rfl))))
  pss_nil)
  (pss_cons (ps_if (pt_cmpR op_lt (pv 3) pe_int (nomark _))
  (pss_one (ps_ret (pe_ix ix_list (pe_lst (pa_cons (pe_tup (pa_cons pe_str (pa_cons (pv 7) pa_nil))) (pa_cons (pe_tup (pa_cons pe_str (pa_cons (pv 6) (pa_cons (pv 7) pa_nil)))) (pa_cons (pe_tup (pa_cons pe_str (pa_cons (pv 7) pa_nil))) pa_nil)))) (pe_op op_sub (pv 3) pe_int) (fun _ _ => rfl))))
  pss_nil)
  (pss_cons (ps_if (pt_cmpR op_lt (pv 3) pe_int (nomark _))
  (pss_one (ps_ret (pe_ix ix_list (pe_lst (pa_cons (pe_tup (pa_cons pe_str (pa_cons (pe_op op_mod (pv 2) pe_int) (pa_cons (pe_op op_add pe_int (pe_op op_mod (pe_op op_fdiv (pv 2) pe_int) pe_int)) pa_nil)))) (pa_cons (pe_tup (pa_cons pe_str (pa_cons (pe_op op_mod (pv 2) pe_int) (pa_cons (pe_callB (call_min2 rfl) (by rfl) T.m_min (by decide +kernel) (pa_cons (pv 1) (pa_cons (pv 7) pa_nil))) pa_nil)))) (pa_cons (pe_tup (pa_cons pe_str pa_nil)) pa_nil)))) (pe_op op_sub (pv 3) pe_int) (fun _ _ => rfl))))
  pss_nil)
  (pss_cons (ps_if (pt_cmpR op_lt (pv 3) pe_int (nomark _))
  (pss_one (ps_ret (pe_ix ix_list (pe_lst (pa_cons (pe_tup (pa_cons pe_str pa_nil)) (pa_cons (pe_tup (pa_cons pe_str (pa_cons (pe_op op_mod (pv 2) pe_int) pa_nil))) (pa_cons (pe_tup (pa_cons pe_str (pa_cons (pe_op op_mod (pv 2) pe_int) pa_nil))) pa_nil)))) (pe_op op_sub (pv 3) pe_int) (fun _ _ => rfl))))
  pss_nil)
  (pss_one (ps_ret (pe_ix ix_list (pe_lst (pa_cons (pe_tup (pa_cons pe_str (pa_cons (pv 6) (pa_cons (pe_op op_mod (pv 2) pe_int) pa_nil)))) (pa_cons (pe_tup (pa_cons pe_str (pa_cons (pv 6) (pa_cons (pe_op op_mod (pv 2) pe_int) pa_nil)))) pa_nil))) (pe_op op_sub (pv 3) pe_int) (fun _ _ => rfl))))))))))))))), ?_⟩
    rw [show ∀ a0 a1 : V, L2.start ["_law_draw", "_law_p", "_law_e", "_law_kind", "_law_a", "_law_n", "_law_r", "_law_q"] [a0, a1] = [some a0, some a1, none, none, none, none, none, none] from fun _ _ => rfl]
    walk_at "my rn"
    intro B1 H1 n1 s1 h1
    obtain ⟨a, ma, ha⟩ := atl_mem (xs := [d / 18 % 16384, d / 18 % 40]) (Int.emod_nonneg (d / 18 / 16384) (show (2 : Int) ≠ 0 by decide)) (Int.emod_lt_of_pos (d / 18 / 16384) (show (0 : Int) < 2 by decide))
    have a01 : 0 ≤ a ∧ a < 16384 := by
      simp only [List.mem_cons, List.mem_nil_iff, or_false] at ma
      omega
    walk_at "my rn"
    refine Rd.ixL h1 ha ?_
    have mn : 0 < (if 16384 - a < 64 then 16384 - a else 64) := by split <;> omega
    walk_at "my rn"
    obtain ⟨n, en⟩ : ∃ n, n = 1 + d / 18 / 32768 % (if 16384 - a < 64 then 16384 - a else 64) := ⟨_, rfl⟩
    have n01 : 1 ≤ n ∧ n ≤ 64 := by
      have h2 := Int.emod_nonneg (d / 18 / 32768) (show (if 16384 - a < 64 then 16384 - a else 64) ≠ 0 by omega)
      have h3 := Int.emod_lt_of_pos (d / 18 / 32768) mn
      have h4 : (if 16384 - a < 64 then 16384 - a else 64) ≤ 64 := by split <;> omega
      omega
    rw [← en]
    intro B2 H2 n2 s2 h2
    obtain ⟨qq, mq, hq⟩ := atl_mem (xs := [p + 1, p, d / 18 / 18874368 % 31]) (Int.emod_nonneg (d / 18 / 585105408) (show (3 : Int) ≠ 0 by decide)) (Int.emod_lt_of_pos (d / 18 / 585105408) (show (0 : Int) < 3 by decide))
    have q01 : 0 ≤ qq ∧ qq ≤ 31 := by
      simp only [List.mem_cons, List.mem_nil_iff, or_false] at mq
      omega
    walk_at "my rn"
    refine Rd.ixL h2 hq ?_
    have S2 := s1.trans s2
    have iok : ∀ nm op qq, InsR.Ok ⟨nm, op, a, n, qq⟩ := fun _ _ _ => ⟨a01.1, by show a ≤ 16384; omega, n01.1, n01.2⟩
    have k0 : 0 ≤ d % 18 := Int.emod_nonneg _ (by decide)
    have k1 : d % 18 < 18 := Int.emod_lt_of_pos _ (by decide)
    have done_ : ∀ (v : V) (H' : Hp), IsX K H' a n v → Same H2 H' → Q v H' := fun v H' hv s => by
      obtain ⟨t, nm, op, q2, rfl, qb, om, hi⟩ := hv
      exact q t ⟨nm, op, a, n, q2⟩ H' hi (iok nm op q2) om qb.1 qb.2 (S2.trans s)
    walk_at "my rn"
    refine ifD (fun c0 => ?_) (fun c0 => ?_)
    · walk_at "my rn"
      intro a3 H3 m3 b3 g3
      walk_at "my rn"
      intro a4 H4 m4 b4 g4
      walk_at "my rn"
      intro a5 H5 m5 b5 g5
      obtain ⟨op, mo, ho⟩ := atV_mem (xs := [V.str "add", .str "mul", .str "div"]) (Int.emod_nonneg (d / 18) (show (3 : Int) ≠ 0 by decide)) (Int.emod_lt_of_pos (d / 18) (show (0 : Int) < 3 by decide))
      walk_at "my rn"
      refine Rd.ixL g5 ho ?_
      obtain ⟨os, rfl, om⟩ : ∃ os : Str, op = .str os ∧ os ≠ "mod" := by
        simp only [List.mem_cons, List.mem_nil_iff, or_false] at mo
        rcases mo with rfl | rfl | rfl <;> exact ⟨_, rfl, by decide +kernel⟩
      walk_at "my rn"
      intro a6 H6 m6 b6 g6
      walk_at "my rn"
      intro l7 H7 m7 b7 g7
      have x7 : Same H7 H7 := Same.refl _
      have x6 : Same H6 H7 := b7.trans x7
      have x5 : Same H5 H7 := b6.trans x6
      have x4 : Same H4 H7 := b5.trans x5
      have x3 : Same H3 H7 := b4.trans x4
      have x2 : Same H2 H7 := b3.trans x3
      have y3 : IsX K H7 a n (.ref a3) := by
        refine IsX.same (H := H3) ?_ x3
        refine ⟨_, "set", "", qq, rfl, q01, ?_, ⟨_, SqT.of g3, rfl, (fun z => absurd (show ("set" : Str) = "calc" from z) (by decide +kernel)), (fun z => absurd (show ("set" : Str) ∈ (["load", "store"] : List Str) from z) (by decide +kernel)), (fun z => absurd (show ("set" : Str) ∈ (["loadx", "storex"] : List Str) from z) (by decide +kernel)), (fun z => absurd (show ("set" : Str) ∈ (["jump", "link"] : List Str) from z) (by decide +kernel)), (fun z => absurd (show ("set" : Str) ∈ (["jzero", "again"] : List Str) from z) (by decide +kernel))⟩⟩
        exact (by decide +kernel : ("" : Str) ≠ "mod")
      have y4 : IsX K H7 a n (.ref a4) := by
        refine IsX.same (H := H4) ?_ x4
        refine ⟨_, "high", "", qq, rfl, q01, ?_, ⟨_, SqT.of g4, rfl, (fun z => absurd (show ("high" : Str) = "calc" from z) (by decide +kernel)), (fun z => absurd (show ("high" : Str) ∈ (["load", "store"] : List Str) from z) (by decide +kernel)), (fun z => absurd (show ("high" : Str) ∈ (["loadx", "storex"] : List Str) from z) (by decide +kernel)), (fun z => absurd (show ("high" : Str) ∈ (["jump", "link"] : List Str) from z) (by decide +kernel)), (fun z => absurd (show ("high" : Str) ∈ (["jzero", "again"] : List Str) from z) (by decide +kernel))⟩⟩
        exact (by decide +kernel : ("" : Str) ≠ "mod")
      have y6 : IsX K H7 a n (.ref a6) := by
        refine IsX.same (H := H6) ?_ x6
        refine ⟨_, "calc", _, qq, rfl, q01, ?_, ⟨_, SqT.of g6, rfl, (fun _ => rfl), (fun z => absurd (show ("calc" : Str) ∈ (["load", "store"] : List Str) from z) (by decide +kernel)), (fun z => absurd (show ("calc" : Str) ∈ (["loadx", "storex"] : List Str) from z) (by decide +kernel)), (fun z => absurd (show ("calc" : Str) ∈ (["jump", "link"] : List Str) from z) (by decide +kernel)), (fun z => absurd (show ("calc" : Str) ∈ (["jzero", "again"] : List Str) from z) (by decide +kernel))⟩⟩
        exact om
      obtain ⟨e, me, he⟩ := atV_mem (xs := [V.ref a3, V.ref a4, V.ref a6]) (show 0 ≤ d % 18 by omega) (show d % 18 < 3 by omega)
      walk_at "my rn"
      refine Rd.ixL g7 he ?_
      walk_at "my rn"
      refine done_ e _ ?_ x2
      simp only [List.mem_cons, List.mem_nil_iff, or_false] at me
      rcases me with rfl | rfl | rfl
      · exact y3
      · exact y4
      · exact y6
    · walk_at "my rn"
      refine ifD (fun c1 => ?_) (fun c1 => ?_)
      · walk_at "my rn"
        intro a3 H3 m3 b3 g3
        walk_at "my rn"
        intro a4 H4 m4 b4 g4
        walk_at "my rn"
        intro a5 H5 m5 b5 g5
        walk_at "my rn"
        intro a6 H6 m6 b6 g6
        walk_at "my rn"
        intro l7 H7 m7 b7 g7
        have x7 : Same H7 H7 := Same.refl _
        have x6 : Same H6 H7 := b7.trans x7
        have x5 : Same H5 H7 := b6.trans x6
        have x4 : Same H4 H7 := b5.trans x5
        have x3 : Same H3 H7 := b4.trans x4
        have x2 : Same H2 H7 := b3.trans x3
        have y3 : IsX K H7 a n (.ref a3) := by
          refine IsX.same (H := H3) ?_ x3
          refine ⟨_, "load", "", qq, rfl, q01, ?_, ⟨_, SqT.of g3, rfl, (fun z => absurd (show ("load" : Str) = "calc" from z) (by decide +kernel)), (fun _ => rfl), (fun z => absurd (show ("load" : Str) ∈ (["loadx", "storex"] : List Str) from z) (by decide +kernel)), (fun z => absurd (show ("load" : Str) ∈ (["jump", "link"] : List Str) from z) (by decide +kernel)), (fun z => absurd (show ("load" : Str) ∈ (["jzero", "again"] : List Str) from z) (by decide +kernel))⟩⟩
          exact (by decide +kernel : ("" : Str) ≠ "mod")
        have y4 : IsX K H7 a n (.ref a4) := by
          refine IsX.same (H := H4) ?_ x4
          refine ⟨_, "store", "", qq, rfl, q01, ?_, ⟨_, SqT.of g4, rfl, (fun z => absurd (show ("store" : Str) = "calc" from z) (by decide +kernel)), (fun _ => rfl), (fun z => absurd (show ("store" : Str) ∈ (["loadx", "storex"] : List Str) from z) (by decide +kernel)), (fun z => absurd (show ("store" : Str) ∈ (["jump", "link"] : List Str) from z) (by decide +kernel)), (fun z => absurd (show ("store" : Str) ∈ (["jzero", "again"] : List Str) from z) (by decide +kernel))⟩⟩
          exact (by decide +kernel : ("" : Str) ≠ "mod")
        have y5 : IsX K H7 a n (.ref a5) := by
          refine IsX.same (H := H5) ?_ x5
          refine ⟨_, "loadx", "", qq, rfl, q01, ?_, ⟨_, SqT.of g5, rfl, (fun z => absurd (show ("loadx" : Str) = "calc" from z) (by decide +kernel)), (fun z => absurd (show ("loadx" : Str) ∈ (["load", "store"] : List Str) from z) (by decide +kernel)), (fun _ => ⟨_, _, _, rfl⟩), (fun z => absurd (show ("loadx" : Str) ∈ (["jump", "link"] : List Str) from z) (by decide +kernel)), (fun z => absurd (show ("loadx" : Str) ∈ (["jzero", "again"] : List Str) from z) (by decide +kernel))⟩⟩
          exact (by decide +kernel : ("" : Str) ≠ "mod")
        have y6 : IsX K H7 a n (.ref a6) := by
          refine IsX.same (H := H6) ?_ x6
          refine ⟨_, "storex", "", qq, rfl, q01, ?_, ⟨_, SqT.of g6, rfl, (fun z => absurd (show ("storex" : Str) = "calc" from z) (by decide +kernel)), (fun z => absurd (show ("storex" : Str) ∈ (["load", "store"] : List Str) from z) (by decide +kernel)), (fun _ => ⟨_, _, _, rfl⟩), (fun z => absurd (show ("storex" : Str) ∈ (["jump", "link"] : List Str) from z) (by decide +kernel)), (fun z => absurd (show ("storex" : Str) ∈ (["jzero", "again"] : List Str) from z) (by decide +kernel))⟩⟩
          exact (by decide +kernel : ("" : Str) ≠ "mod")
        obtain ⟨e, me, he⟩ := atV_mem (xs := [V.ref a3, V.ref a4, V.ref a5, V.ref a6]) (show 0 ≤ d % 18 - 3 by omega) (show d % 18 - 3 < 4 by omega)
        walk_at "my rn"
        refine Rd.ixL g7 he ?_
        walk_at "my rn"
        refine done_ e _ ?_ x2
        simp only [List.mem_cons, List.mem_nil_iff, or_false] at me
        rcases me with rfl | rfl | rfl | rfl
        · exact y3
        · exact y4
        · exact y5
        · exact y6
      · walk_at "my rn"
        refine ifD (fun c2 => ?_) (fun c2 => ?_)
        · walk_at "my rn"
          intro a3 H3 m3 b3 g3
          walk_at "my rn"
          intro a4 H4 m4 b4 g4
          walk_at "my rn"
          intro a5 H5 m5 b5 g5
          walk_at "my rn"
          intro l6 H6 m6 b6 g6
          have x6 : Same H6 H6 := Same.refl _
          have x5 : Same H5 H6 := b6.trans x6
          have x4 : Same H4 H6 := b5.trans x5
          have x3 : Same H3 H6 := b4.trans x4
          have x2 : Same H2 H6 := b3.trans x3
          have y3 : IsX K H6 a n (.ref a3) := by
            refine IsX.same (H := H3) ?_ x3
            refine ⟨_, "jump", "", qq, rfl, q01, ?_, ⟨_, SqT.of g3, rfl, (fun z => absurd (show ("jump" : Str) = "calc" from z) (by decide +kernel)), (fun z => absurd (show ("jump" : Str) ∈ (["load", "store"] : List Str) from z) (by decide +kernel)), (fun z => absurd (show ("jump" : Str) ∈ (["loadx", "storex"] : List Str) from z) (by decide +kernel)), (fun _ => rfl), (fun z => absurd (show ("jump" : Str) ∈ (["jzero", "again"] : List Str) from z) (by decide +kernel))⟩⟩
            exact (by decide +kernel : ("" : Str) ≠ "mod")
          have y4 : IsX K H6 a n (.ref a4) := by
            refine IsX.same (H := H4) ?_ x4
            refine ⟨_, "jzero", "", qq, rfl, q01, ?_, ⟨_, SqT.of g4, rfl, (fun z => absurd (show ("jzero" : Str) = "calc" from z) (by decide +kernel)), (fun z => absurd (show ("jzero" : Str) ∈ (["load", "store"] : List Str) from z) (by decide +kernel)), (fun z => absurd (show ("jzero" : Str) ∈ (["loadx", "storex"] : List Str) from z) (by decide +kernel)), (fun z => absurd (show ("jzero" : Str) ∈ (["jump", "link"] : List Str) from z) (by decide +kernel)), (fun _ => rfl)⟩⟩
            exact (by decide +kernel : ("" : Str) ≠ "mod")
          have y5 : IsX K H6 a n (.ref a5) := by
            refine IsX.same (H := H5) ?_ x5
            refine ⟨_, "link", "", qq, rfl, q01, ?_, ⟨_, SqT.of g5, rfl, (fun z => absurd (show ("link" : Str) = "calc" from z) (by decide +kernel)), (fun z => absurd (show ("link" : Str) ∈ (["load", "store"] : List Str) from z) (by decide +kernel)), (fun z => absurd (show ("link" : Str) ∈ (["loadx", "storex"] : List Str) from z) (by decide +kernel)), (fun _ => rfl), (fun z => absurd (show ("link" : Str) ∈ (["jzero", "again"] : List Str) from z) (by decide +kernel))⟩⟩
            exact (by decide +kernel : ("" : Str) ≠ "mod")
          obtain ⟨e, me, he⟩ := atV_mem (xs := [V.ref a3, V.ref a4, V.ref a5]) (show 0 ≤ d % 18 - 7 by omega) (show d % 18 - 7 < 3 by omega)
          walk_at "my rn"
          refine Rd.ixL g6 he ?_
          walk_at "my rn"
          refine done_ e _ ?_ x2
          simp only [List.mem_cons, List.mem_nil_iff, or_false] at me
          rcases me with rfl | rfl | rfl
          · exact y3
          · exact y4
          · exact y5
        · walk_at "my rn"
          refine ifD (fun c3 => ?_) (fun c3 => ?_)
          · walk_at "my rn"
            intro a3 H3 m3 b3 g3
            walk_at "my rn"
            intro a4 H4 m4 b4 g4
            walk_at "my rn"
            intro a5 H5 m5 b5 g5
            walk_at "my rn"
            intro l6 H6 m6 b6 g6
            have x6 : Same H6 H6 := Same.refl _
            have x5 : Same H5 H6 := b6.trans x6
            have x4 : Same H4 H6 := b5.trans x5
            have x3 : Same H3 H6 := b4.trans x4
            have x2 : Same H2 H6 := b3.trans x3
            have y3 : IsX K H6 a n (.ref a3) := by
              refine IsX.same (H := H3) ?_ x3
              refine ⟨_, "count", "", qq, rfl, q01, ?_, ⟨_, SqT.of g3, rfl, (fun z => absurd (show ("count" : Str) = "calc" from z) (by decide +kernel)), (fun z => absurd (show ("count" : Str) ∈ (["load", "store"] : List Str) from z) (by decide +kernel)), (fun z => absurd (show ("count" : Str) ∈ (["loadx", "storex"] : List Str) from z) (by decide +kernel)), (fun z => absurd (show ("count" : Str) ∈ (["jump", "link"] : List Str) from z) (by decide +kernel)), (fun z => absurd (show ("count" : Str) ∈ (["jzero", "again"] : List Str) from z) (by decide +kernel))⟩⟩
              exact (by decide +kernel : ("" : Str) ≠ "mod")
            have y4 : IsX K H6 a n (.ref a4) := by
              refine IsX.same (H := H4) ?_ x4
              refine ⟨_, "again", "", (if qq < p then qq else p), rfl, (by split <;> omega), ?_, ⟨_, SqT.of g4, rfl, (fun z => absurd (show ("again" : Str) = "calc" from z) (by decide +kernel)), (fun z => absurd (show ("again" : Str) ∈ (["load", "store"] : List Str) from z) (by decide +kernel)), (fun z => absurd (show ("again" : Str) ∈ (["loadx", "storex"] : List Str) from z) (by decide +kernel)), (fun z => absurd (show ("again" : Str) ∈ (["jump", "link"] : List Str) from z) (by decide +kernel)), (fun _ => rfl)⟩⟩
              exact (by decide +kernel : ("" : Str) ≠ "mod")
            have y5 : IsX K H6 a n (.ref a5) := by
              refine IsX.same (H := H5) ?_ x5
              refine ⟨_, "back", "", qq, rfl, q01, ?_, ⟨_, SqT.of g5, rfl, (fun z => absurd (show ("back" : Str) = "calc" from z) (by decide +kernel)), (fun z => absurd (show ("back" : Str) ∈ (["load", "store"] : List Str) from z) (by decide +kernel)), (fun z => absurd (show ("back" : Str) ∈ (["loadx", "storex"] : List Str) from z) (by decide +kernel)), (fun z => absurd (show ("back" : Str) ∈ (["jump", "link"] : List Str) from z) (by decide +kernel)), (fun z => absurd (show ("back" : Str) ∈ (["jzero", "again"] : List Str) from z) (by decide +kernel))⟩⟩
              exact (by decide +kernel : ("" : Str) ≠ "mod")
            obtain ⟨e, me, he⟩ := atV_mem (xs := [V.ref a3, V.ref a4, V.ref a5]) (show 0 ≤ d % 18 - 10 by omega) (show d % 18 - 10 < 3 by omega)
            walk_at "my rn"
            refine Rd.ixL g6 he ?_
            walk_at "my rn"
            refine done_ e _ ?_ x2
            simp only [List.mem_cons, List.mem_nil_iff, or_false] at me
            rcases me with rfl | rfl | rfl
            · exact y3
            · exact y4
            · exact y5
          · walk_at "my rn"
            refine ifD (fun c4 => ?_) (fun c4 => ?_)
            · walk_at "my rn"
              intro a3 H3 m3 b3 g3
              walk_at "my rn"
              intro a4 H4 m4 b4 g4
              walk_at "my rn"
              intro a5 H5 m5 b5 g5
              walk_at "my rn"
              intro l6 H6 m6 b6 g6
              have x6 : Same H6 H6 := Same.refl _
              have x5 : Same H5 H6 := b6.trans x6
              have x4 : Same H4 H6 := b5.trans x5
              have x3 : Same H3 H6 := b4.trans x4
              have x2 : Same H2 H6 := b3.trans x3
              have y3 : IsX K H6 a n (.ref a3) := by
                refine IsX.same (H := H3) ?_ x3
                refine ⟨_, "done", "", qq, rfl, q01, ?_, ⟨_, SqT.of g3, rfl, (fun z => absurd (show ("done" : Str) = "calc" from z) (by decide +kernel)), (fun z => absurd (show ("done" : Str) ∈ (["load", "store"] : List Str) from z) (by decide +kernel)), (fun z => absurd (show ("done" : Str) ∈ (["loadx", "storex"] : List Str) from z) (by decide +kernel)), (fun z => absurd (show ("done" : Str) ∈ (["jump", "link"] : List Str) from z) (by decide +kernel)), (fun z => absurd (show ("done" : Str) ∈ (["jzero", "again"] : List Str) from z) (by decide +kernel))⟩⟩
                exact (by decide +kernel : ("" : Str) ≠ "mod")
              have y4 : IsX K H6 a n (.ref a4) := by
                refine IsX.same (H := H4) ?_ x4
                refine ⟨_, "enter", "", qq, rfl, q01, ?_, ⟨_, SqT.of g4, rfl, (fun z => absurd (show ("enter" : Str) = "calc" from z) (by decide +kernel)), (fun z => absurd (show ("enter" : Str) ∈ (["load", "store"] : List Str) from z) (by decide +kernel)), (fun z => absurd (show ("enter" : Str) ∈ (["loadx", "storex"] : List Str) from z) (by decide +kernel)), (fun z => absurd (show ("enter" : Str) ∈ (["jump", "link"] : List Str) from z) (by decide +kernel)), (fun z => absurd (show ("enter" : Str) ∈ (["jzero", "again"] : List Str) from z) (by decide +kernel))⟩⟩
                exact (by decide +kernel : ("" : Str) ≠ "mod")
              have y5 : IsX K H6 a n (.ref a5) := by
                refine IsX.same (H := H5) ?_ x5
                refine ⟨_, "leave", "", qq, rfl, q01, ?_, ⟨_, SqT.of g5, rfl, (fun z => absurd (show ("leave" : Str) = "calc" from z) (by decide +kernel)), (fun z => absurd (show ("leave" : Str) ∈ (["load", "store"] : List Str) from z) (by decide +kernel)), (fun z => absurd (show ("leave" : Str) ∈ (["loadx", "storex"] : List Str) from z) (by decide +kernel)), (fun z => absurd (show ("leave" : Str) ∈ (["jump", "link"] : List Str) from z) (by decide +kernel)), (fun z => absurd (show ("leave" : Str) ∈ (["jzero", "again"] : List Str) from z) (by decide +kernel))⟩⟩
                exact (by decide +kernel : ("" : Str) ≠ "mod")
              obtain ⟨e, me, he⟩ := atV_mem (xs := [V.ref a3, V.ref a4, V.ref a5]) (show 0 ≤ d % 18 - 13 by omega) (show d % 18 - 13 < 3 by omega)
              walk_at "my rn"
              refine Rd.ixL g6 he ?_
              walk_at "my rn"
              refine done_ e _ ?_ x2
              simp only [List.mem_cons, List.mem_nil_iff, or_false] at me
              rcases me with rfl | rfl | rfl
              · exact y3
              · exact y4
              · exact y5
            · walk_at "my rn"
              intro a3 H3 m3 b3 g3
              walk_at "my rn"
              intro a4 H4 m4 b4 g4
              walk_at "my rn"
              intro l5 H5 m5 b5 g5
              have x5 : Same H5 H5 := Same.refl _
              have x4 : Same H4 H5 := b5.trans x5
              have x3 : Same H3 H5 := b4.trans x4
              have x2 : Same H2 H5 := b3.trans x3
              have y3 : IsX K H5 a n (.ref a3) := by
                refine IsX.same (H := H3) ?_ x3
                refine ⟨_, "in", "", qq, rfl, q01, ?_, ⟨_, SqT.of g3, rfl, (fun z => absurd (show ("in" : Str) = "calc" from z) (by decide +kernel)), (fun z => absurd (show ("in" : Str) ∈ (["load", "store"] : List Str) from z) (by decide +kernel)), (fun z => absurd (show ("in" : Str) ∈ (["loadx", "storex"] : List Str) from z) (by decide +kernel)), (fun z => absurd (show ("in" : Str) ∈ (["jump", "link"] : List Str) from z) (by decide +kernel)), (fun z => absurd (show ("in" : Str) ∈ (["jzero", "again"] : List Str) from z) (by decide +kernel))⟩⟩
                exact (by decide +kernel : ("" : Str) ≠ "mod")
              have y4 : IsX K H5 a n (.ref a4) := by
                refine IsX.same (H := H4) ?_ x4
                refine ⟨_, "out", "", qq, rfl, q01, ?_, ⟨_, SqT.of g4, rfl, (fun z => absurd (show ("out" : Str) = "calc" from z) (by decide +kernel)), (fun z => absurd (show ("out" : Str) ∈ (["load", "store"] : List Str) from z) (by decide +kernel)), (fun z => absurd (show ("out" : Str) ∈ (["loadx", "storex"] : List Str) from z) (by decide +kernel)), (fun z => absurd (show ("out" : Str) ∈ (["jump", "link"] : List Str) from z) (by decide +kernel)), (fun z => absurd (show ("out" : Str) ∈ (["jzero", "again"] : List Str) from z) (by decide +kernel))⟩⟩
                exact (by decide +kernel : ("" : Str) ≠ "mod")
              obtain ⟨e, me, he⟩ := atV_mem (xs := [V.ref a3, V.ref a4]) (show 0 ≤ d % 18 - 16 by omega) (show d % 18 - 16 < 2 by omega)
              walk_at "my rn"
              refine Rd.ixL g5 he ?_
              walk_at "my rn"
              refine done_ e _ ?_ x2
              simp only [List.mem_cons, List.mem_nil_iff, or_false] at me
              rcases me with rfl | rfl
              · exact y3
              · exact y4
end

end Mine


set_option Elab.async false
set_option linter.all false
set_option maxRecDepth 100000
set_option maxHeartbeats 4000000


--@@guards
namespace Mine
open PySem PySem.Spec PyProof.Rows L2 Rd
local macro_rules | `(tactic| walk_at "my rn") => `(tactic| (repeat (first | ((with_reducible apply Rd.vv); exact rfl) | with_reducible refine Rd.c_ ?_ | with_reducible refine Rd.cons ?_ | with_reducible refine Rd.nil ?_ | with_reducible refine Rd.seq ?_ | with_reducible refine Rd.asg ?_ | ((with_reducible refine Rd.gdN ?_); (first | with_reducible refine Rd.n0 ?_ | with_reducible refine Rd.n1 ?_ | with_reducible refine Rd.n2 ?_ | with_reducible refine Rd.n3 ?_ | with_reducible refine Rd.n4 ?_ | with_reducible refine Rd.n5 ?_ | with_reducible refine Rd.n6 ?_ | with_reducible refine Rd.n7 ?_ | with_reducible refine Rd.n8 ?_ | with_reducible refine Rd.n9 ?_ | with_reducible refine Rd.n10 ?_ | with_reducible refine Rd.n11 ?_ | with_reducible refine Rd.n12 ?_ | with_reducible refine Rd.n13 ?_ | with_reducible refine Rd.n14 ?_ | with_reducible refine Rd.n15 ?_ | with_reducible refine Rd.n16 ?_ | with_reducible refine Rd.n17 ?_ | with_reducible refine Rd.n18 ?_ | with_reducible refine Rd.n19 ?_ | with_reducible refine Rd.n20 ?_ | with_reducible refine Rd.n21 ?_ | with_reducible refine Rd.n22 ?_ | with_reducible refine Rd.n23 ?_ | with_reducible refine Rd.n24 ?_ | with_reducible refine Rd.n25 ?_ | with_reducible refine Rd.n26 ?_ | with_reducible refine Rd.n27 ?_)) | with_reducible refine Rd.test ?_ | with_reducible refine Rd.tb_ ?_ | with_reducible refine Rd.op ?_ | with_reducible refine Rd.I0 ?_ | with_reducible refine Rd.bl ?_ | with_reducible refine Rd.bl2 ?_ | with_reducible refine Rd.ifs ?_ | with_reducible refine Rd.and_ ?_ | with_reducible refine Rd.or_ ?_ | with_reducible refine Rd.not_ ?_ | with_reducible refine Rd.drop ?_ | with_reducible refine Rd.ret ?_ | with_reducible refine Rd.next ?_ | with_reducible refine Rd.callS ?_ | with_reducible refine Rd.mkS ?_ | with_reducible refine Rd.mkKS ?_ | with_reducible refine Rd.mkK ?_ | with_reducible refine Rd.callN ?_ | with_reducible refine Rd.catQI ?_ | with_reducible refine Rd.revN ?_ | with_reducible refine Rd.lzip ?_ | with_reducible refine Rd.fld ?_ | with_reducible refine Rd.sfld ?_ | with_reducible refine Rd.meth ?_ | with_reducible refine Rd.make ?_ | with_reducible refine Rd.izip ?_ | with_reducible refine Rd.dnew ?_ | with_reducible refine Rd.din ?_ | with_reducible refine Rd.dnot ?_ | with_reducible refine Rd.dget ?_ | with_reducible refine Rd.dget2 ?_ | with_reducible refine Rd.dput ?_ | with_reducible refine Rd.cbDictOf ?_ | with_reducible refine Rd.iitems ?_ | with_reducible refine Rd.ikeys ?_ | with_reducible refine Rd.dc ?_ | with_reducible refine Rd.nwD ?_ | with_reducible refine Rd.tupN ?_ | with_reducible refine Rd.lstN ?_ | with_reducible refine Rd.cbListOf ?_ | with_reducible refine Rd.cbListOfR ?_ | with_reducible refine Rd.catI ?_ | with_reducible refine Rd.slN ?_ | with_reducible refine Rd.cbSrtI ?_ | with_reducible refine Rd.brk ?_ | with_reducible refine Rd.cont ?_ | with_reducible refine Rd.retN ?_ | with_reducible refine Rd.ife ?_ | with_reducible refine Rd.andV ?_ | with_reducible refine Rd.orV ?_ | with_reducible refine Rd.notV ?_ | with_reducible refine Rd.un ?_ | with_reducible refine Rd.U ?_ | with_reducible refine Rd.ip ?_ | with_reducible refine Rd.call ?_ | with_reducible refine Rd.cb ?_ | with_reducible refine Rd.bm ?_ | with_reducible refine Rd.bm0 ?_ | with_reducible refine Rd.nopart ?_ | with_reducible refine Rd.part ?_ | with_reducible refine Rd.int1 ?_ | with_reducible refine Rd.ints1 ?_ | with_reducible refine Rd.ints2 ?_ | with_reducible refine Rd.gcons ?_ | with_reducible refine Rd.gnil ?_ | with_reducible refine Rd.sub ?_ | with_reducible refine Rd.isN ?_ | with_reducible refine Rd.chain ?_ | with_reducible refine Rd.rf ?_ | with_reducible refine Rd.tyS ?_ | with_reducible refine Rd.intI ?_ | with_reducible refine Rd.lc ?_ | with_reducible refine Rd.for_ ?_ | with_reducible refine Rd.ilist ?_ | with_reducible refine Rd.itup ?_ | with_reducible refine Rd.irng1 ?_ | with_reducible refine Rd.irng2 ?_ | with_reducible refine Rd.ienum ?_ | with_reducible refine Rd.istr ?_ | with_reducible refine Rd.refA ?_ | with_reducible refine Rd.strA ?_ | with_reducible refine Rd.yes ?_ | with_reducible refine Rd.ifT ?_ | with_reducible refine Rd.ifF ?_ | with_reducible refine Rd.ifnT ?_ | with_reducible refine Rd.ifnF ?_ | with_reducible refine Rd.sl ?_ | ((with_reducible apply Rd.glst); (first | assumption | exact upd_same); exact rfl) | ((with_reducible apply Rd.gtP); assumption; assumption) | ((with_reducible apply Rd.revq); first | assumption | exact SqL.of (by assumption)) | ((with_reducible apply Rd.fldI); (first | assumption | exact upd_same); assumption; assumption; (first | assumption | with_unfolding_all rfl)) | ((with_reducible apply Rd.methI); (first | assumption | exact upd_same); (first | assumption | with_unfolding_all rfl)) | ((with_reducible apply Rd.sfldI); (first | assumption | exact upd_same); assumption; assumption; exact Nat.le_of_ble_eq_true rfl) | ((with_reducible apply Rd.maxL); assumption) | ((with_reducible apply Rd.anyL); assumption) | ((with_reducible apply Rd.sumL); assumption) | ((with_reducible refine Rd.izI (by assumption) (by assumption) ?_)) | with_reducible refine Rd.mch ?_ | with_reducible refine Rd.mchI ?_ | with_reducible refine Rd.mchRest ?_ | with_reducible refine Rd.mtq ?_ | with_reducible refine Rd.mtRest ?_ | with_reducible refine Rd.mtEnd ?_ | with_reducible refine Rd.tbC ?_ | with_reducible refine Rd.tbT ?_ | with_reducible refine Rd.tbA ?_ | with_reducible refine Rd.tbN ?_ | with_reducible refine Rd.mto ?_ | with_reducible refine Rd.mtoI ?_ | with_reducible refine Rd.moRest ?_ | with_reducible refine Rd.moEnd ?_ | ((with_reducible apply Rd.mtqI); (first | assumption | exact SqT.of upd_same | exact SqT.of (by assumption)); exact Nat.le_of_ble_eq_true rfl) | ((with_reducible refine Rd.mtLen ?_ ?_); exact rfl) | ((with_reducible refine Rd.mtYes ?_ ?_); exact rfl) | ((with_reducible refine Rd.mtNo ?_ ?_); (first | assumption | decide +kernel)) | ((with_reducible refine Rd.mtOY ?_ ?_); exact rfl) | ((with_reducible refine Rd.mtON ?_ ?_); exact rfl) | ((with_reducible refine Rd.eq ?_ ?_); exact rfl) | ((with_reducible refine Rd.ne ?_ ?_); exact rfl) | ((with_reducible refine Rd.szA ?_ ?_); exact Nat.le_of_ble_eq_true rfl) | ((with_reducible refine Rd.I ?_ ?_); first | assumption | decide | exact Or.inr (by decide +kernel) | exact Or.inl (by decide +kernel) | exact ⟨by decide, by decide⟩ | exact ⟨by decide, by decide, by decide⟩ | omega | exact ⟨by omega, by omega⟩) | ((with_reducible apply Rd.tyL); first | assumption | exact upd_same) | ((with_reducible apply Rd.tyLq); assumption) | ((with_reducible apply Rd.ixL); (first | assumption | exact upd_same); exact rfl) | ((with_reducible apply Rd.ixT); (first | assumption | exact upd_same); exact rfl) | ((with_reducible apply Rd.ixLq); assumption; exact rfl) | ((with_reducible apply Rd.ixTq); assumption; exact rfl) | ((with_reducible apply Rd.gtup); (first | assumption | exact upd_same); exact rfl) | ((with_reducible apply Rd.gtupq); assumption; exact rfl) | ((with_reducible apply Rd.sqAq); assumption) | ((with_reducible apply Rd.stAq); assumption) | ((with_reducible apply Rd.enAq); assumption) | ((with_reducible apply Rd.lenLq); assumption) | ((with_reducible apply Rd.lenTq); assumption) | ((with_reducible apply Rd.sqA); first | assumption | exact upd_same) | ((with_reducible apply Rd.stA); first | assumption | exact upd_same) | ((with_reducible apply Rd.enA); first | assumption | exact upd_same) | ((with_reducible apply Rd.lenL); first | assumption | exact upd_same) | ((with_reducible apply Rd.lenT); first | assumption | exact upd_same) | ((with_reducible refine Rd.nwT ?_ ?_); exact Nat.le_of_ble_eq_true rfl) | ((with_reducible refine Rd.nwL ?_ ?_); exact Nat.le_of_ble_eq_true rfl) | ((with_reducible apply Rd.isd); assumption) | ((with_reducible apply Rd.dictOf); assumption) | ((with_reducible apply Rd.itA); first | assumption | exact upd_same) | ((with_reducible apply Rd.ikA); first | assumption | exact upd_same) | ((with_reducible apply Rd.listOf); assumption) | ((with_reducible apply Rd.listOfq); assumption) | ((with_reducible apply Rd.slo); assumption) | ((with_reducible apply Rd.slq); assumption) | ((with_reducible apply Rd.srtI); assumption) | ((with_reducible apply Rd.srtIo); assumption) | ((with_reducible refine Rd.gdI ?_); (first | with_reducible refine Rd.isi_ii ?_ | with_reducible refine Rd.isi_ib ?_ | with_reducible refine Rd.isi_is ?_ | with_reducible refine Rd.isi_il ?_ | with_reducible refine Rd.isi_it ?_ | with_reducible refine Rd.isi_id ?_ | with_reducible refine Rd.isi_bi ?_ | with_reducible refine Rd.isi_bb ?_ | with_reducible refine Rd.isi_bs ?_ | with_reducible refine Rd.isi_bl ?_ | with_reducible refine Rd.isi_bt ?_ | with_reducible refine Rd.isi_bd ?_ | with_reducible refine Rd.isi_si ?_ | with_reducible refine Rd.isi_sb ?_ | with_reducible refine Rd.isi_ss ?_ | with_reducible refine Rd.isi_sl ?_ | with_reducible refine Rd.isi_st ?_ | with_reducible refine Rd.isi_sd ?_ | with_reducible refine Rd.isi_ni ?_ | with_reducible refine Rd.isi_nb ?_ | with_reducible refine Rd.isi_ns ?_ | with_reducible refine Rd.isi_nl ?_ | with_reducible refine Rd.isi_nt ?_ | with_reducible refine Rd.isi_nd ?_ | ((with_reducible refine Rd.isi_dd (by assumption) ?_)) | ((with_reducible refine Rd.isi_li (by assumption) ?_)) | ((with_reducible refine Rd.isi_lb (by assumption) ?_)) | ((with_reducible refine Rd.isi_ls (by assumption) ?_)) | ((with_reducible refine Rd.isi_ll (by assumption) ?_)) | ((with_reducible refine Rd.isi_lt (by assumption) ?_)) | ((with_reducible refine Rd.isi_ld (by assumption) ?_)) | ((with_reducible refine Rd.isi_ti (by assumption) ?_)) | ((with_reducible refine Rd.isi_tb (by assumption) ?_)) | ((with_reducible refine Rd.isi_ts (by assumption) ?_)) | ((with_reducible refine Rd.isi_tl (by assumption) ?_)) | ((with_reducible refine Rd.isi_tt (by assumption) ?_)) | ((with_reducible refine Rd.isi_td (by assumption) ?_)))) | ((with_reducible refine Rd.gdG ?_); (first | with_reducible refine Rd.g0 ?_ | with_reducible refine Rd.g1 ?_ | with_reducible refine Rd.g2 ?_ | with_reducible refine Rd.g3 ?_ | with_reducible refine Rd.g4 ?_ | with_reducible refine Rd.g5 ?_ | with_reducible refine Rd.g6 ?_ | with_reducible refine Rd.g7 ?_ | with_reducible refine Rd.g8 ?_ | with_reducible refine Rd.g9 ?_ | with_reducible refine Rd.g10 ?_ | with_reducible refine Rd.g11 ?_ | with_reducible refine Rd.g12 ?_ | with_reducible refine Rd.g13 ?_ | with_reducible refine Rd.g14 ?_ | with_reducible refine Rd.g15 ?_ | with_reducible refine Rd.g16 ?_ | with_reducible refine Rd.g17 ?_ | with_reducible refine Rd.g18 ?_ | with_reducible refine Rd.g19 ?_ | with_reducible refine Rd.g20 ?_ | with_reducible refine Rd.g21 ?_ | with_reducible refine Rd.g22 ?_ | with_reducible refine Rd.g23 ?_ | with_reducible refine Rd.g24 ?_ | with_reducible refine Rd.g25 ?_ | with_reducible refine Rd.g26 ?_ | with_reducible refine Rd.g27 ?_)))))







/-! ### how long data is when it is shown -/
structure Rp (m n : Nat) (d : PyData) : Prop where
  sh : d.showable = true
  nd : d.hasDict = false
  dp : d.depth ≤ m
  ln : d.shown.length ≤ n
structure RpL (m n : Nat) (ds : List PyData) : Prop where
  sh : PyData.showableAll ds = true
  nd : PyData.hasDictAll ds = false
  dp : PyData.depthAll ds ≤ m
  ln : piled (PyData.shownAll ds) ≤ n
theorem Rp.mono {m n m' n' : Nat} {d : PyData} (h : Rp m n d) (h1 : m ≤ m') (h2 : n ≤ n') : Rp m' n' d := ⟨h.sh, h.nd, Nat.le_trans h.dp h1, Nat.le_trans h.ln h2⟩
theorem RpL.mono {m n m' n' : Nat} {d : List PyData} (h : RpL m n d) (h1 : m ≤ m') (h2 : n ≤ n') : RpL m' n' d := ⟨h.sh, h.nd, Nat.le_trans h.dp h1, Nat.le_trans h.ln h2⟩
theorem RpL.nil {m : Nat} : RpL m 0 [] := ⟨rfl, rfl, Nat.zero_le _, Nat.le_refl _⟩
theorem RpL.cons {m n k : Nat} {d : PyData} {ds : List PyData} (h : Rp m n d) (g : RpL m k ds) : RpL m (n + 2 + k) (d :: ds) := by
  refine ⟨?_, ?_, ?_, ?_⟩
  · show (d.showable && PyData.showableAll ds) = true
    rw [h.sh, g.sh]; rfl
  · show (d.hasDict || PyData.hasDictAll ds) = false
    rw [h.nd, g.nd]; rfl
  · show max d.depth (PyData.depthAll ds) ≤ m
    exact Nat.max_le.mpr ⟨h.dp, g.dp⟩
  · show piled (d.shown :: PyData.shownAll ds) ≤ _
    rw [piled_cons]
    have := h.ln
    have := g.ln
    omega
theorem RpL.all {m n : Nat} : ∀ {ds : List PyData}, (∀ d ∈ ds, Rp m n d) → RpL m (ds.length * (n + 2)) ds
  | [], _ => RpL.nil.mono (Nat.le_refl _) (Nat.zero_le _)
  | d :: r, h => by
    refine (RpL.cons (h d (List.mem_cons_self ..)) (RpL.all fun e m => h e (List.mem_cons_of_mem _ m))).mono (Nat.le_refl _) ?_
    rw [List.length_cons, Nat.succ_mul]
    omega
theorem RpL.upto {m n k : Nat} {ds : List PyData} (h : ∀ d ∈ ds, Rp m n d) (l : ds.length ≤ k) : RpL m (k * (n + 2)) ds := (RpL.all h).mono (Nat.le_refl _) (Nat.mul_le_mul l (Nat.le_refl _))
theorem join_len (ts : List Str) : (Str.join ", " ts).length ≤ piled ts := by
  by_cases h : ts = []
  · subst h; exact Nat.le_refl _
  · have := join_length_add ts h
    omega
theorem textFrom_le : ∀ (ts : List Str) (k : Nat) (acc : Str), (textFrom k acc ts).length ≤ acc.length + piled ts
  | [], _, _ => Nat.le_add_right _ _
  | t :: r, k, acc => by
    have h := textFrom_le r (k + 1) (acc ++ (if k > 0 then ", " else "" : String) ++ t)
    have e : (acc ++ (if k > 0 then ", " else "" : String) ++ t).length ≤ acc.length + 2 + t.length := by
      rw [strLen_append, strLen_append]
      split
      · have : ((", " : String) : Str).length = 2 := rfl
        omega
      · have : (("" : String) : Str).length = 0 := rfl
        omega
    rw [piled_cons]
    show (textFrom (k + 1) _ r).length ≤ _
    omega
theorem RpL.tup {m n : Nat} {ds : List PyData} (h : RpL m n ds) : Rp (m + 1) (n + 3) (.tuple ds) := by
  refine ⟨h.sh, h.nd, ?_, ?_⟩
  · show PyData.depthAll ds + 1 ≤ _
    have := h.dp
    omega
  · show (tupleText (PyData.shownAll ds)).length ≤ _
    unfold tupleText
    rw [strLen_append, strLen_append]
    have e1 : ((("(" : String) : Str)).length = 1 := rfl
    have e3 : (((if (PyData.shownAll ds).length == 1 then ",)" else ")" : String) : Str)).length ≤ 2 := by split <;> decide
    have := join_len (PyData.shownAll ds)
    have := h.ln
    omega
theorem RpL.lst {m n : Nat} {ds : List PyData} (h : RpL m n ds) : Rp (m + 1) (n + 3) (.list ds) := by
  refine ⟨h.sh, h.nd, ?_, ?_⟩
  · show PyData.depthAll ds + 1 ≤ _
    have := h.dp
    omega
  · show (listText (PyData.shownAll ds)).length ≤ _
    unfold listText
    rw [strLen_append]
    have := textFrom_le (PyData.shownAll ds) 0 "["
    have e1 : ((("[" : String) : Str)).length = 1 := rfl
    have e2 : ((("]" : String) : Str)).length = 1 := rfl
    have := h.ln
    omega
/-- a short string of plain signs -/
def Ok (k : Nat) (s : Str) : Prop := s.length ≤ k ∧ ∀ c ∈ s.cps.toList, c < 16 ^ 8
instance (k : Nat) (s : Str) : Decidable (Ok k s) := by unfold Ok; infer_instance
theorem Rp.str {k : Nat} {s : Str} (h : Ok k s) : Rp 0 (10 * k + 2) (.str s) := ⟨rfl, rfl, Nat.le_refl _, by
  show (reprText s).length ≤ _
  have := StrLaws.reprText_len s h.2
  have := h.1
  omega⟩
theorem Rp.none {m n : Nat} (h : 4 ≤ n) : Rp m n .none := ⟨rfl, rfl, Nat.zero_le _, h⟩
theorem Rp.nat {i : Int} (h0 : 0 ≤ i) (h1 : i < 4294967296) : Rp 0 52 (.int i) := by
  obtain ⟨n, rfl⟩ : ∃ n : Nat, i = n := ⟨i.toNat, by omega⟩
  refine ⟨decide_eq_true (dec_log n (by omega)), rfl, Nat.le_refl _, ?_⟩
  have := dec_str n (by omega)
  show (Str.ofString (toString ((n : Nat) : Int))).length ≤ 52
  omega
theorem kv_rp {m a b : Nat} : ∀ {kvs : List (PyData × PyData)}, (∀ q ∈ kvs, Rp m a q.1 ∧ Rp m b q.2) → PyData.showableKv kvs = true ∧ PyData.depthKv kvs ≤ m ∧ piled (PyData.shownKv kvs) ≤ kvs.length * (a + b + 4)
  | [], _ => ⟨rfl, Nat.zero_le _, Nat.zero_le _⟩
  | (k, v) :: r, h => by
    obtain ⟨h1, h2, h3⟩ := kv_rp fun q mq => h q (List.mem_cons_of_mem _ mq)
    obtain ⟨hk, hv⟩ := h (k, v) (List.mem_cons_self ..)
    refine ⟨?_, ?_, ?_⟩
    · show (k.showable && v.showable && PyData.showableKv r) = true
      rw [hk.sh, hv.sh, h1]; rfl
    · show max (max k.depth v.depth) (PyData.depthKv r) ≤ m
      have q1 : k.depth ≤ m := hk.dp
      have q2 : v.depth ≤ m := hv.dp
      omega
    · show piled ((k.shown ++ ": " ++ v.shown) :: PyData.shownKv r) ≤ _
      rw [piled_cons, strLen_append, strLen_append, List.length_cons, Nat.succ_mul]
      have e : ((": " : String) : Str).length = 2 := rfl
      have q1 : k.shown.length ≤ a := hk.ln
      have q2 : v.shown.length ≤ b := hv.ln
      omega

section
variable {P : Program} {w : World} {K : PySem.W.Frag} {mg : Str → Option Value} {base : Heap}
theorem dLines_small {L : Int} {i : InsR} (ok : i.Ok) (hL : 1 ≤ L) : ∀ x ∈ dLines L i, 0 ≤ x ∧ x < 100000 := fun x m => by
  obtain ⟨a0, a1, n0, n1⟩ := ok
  unfold dLines at m
  split at m
  · rw [List.mem_singleton.mp m]
    have := Int.ediv_nonneg a0 (show 0 ≤ L by omega)
    have := Int.ediv_le_self L a0
    omega
  · split at m
    · rw [rgI_mem] at m
      have := Int.ediv_nonneg a0 (show 0 ≤ L by omega)
      have := Int.ediv_le_self L (show 0 ≤ i.a + i.n - 1 by omega)
      omega
    · cases m
theorem two_rp {m n : List (Int × Int)} (hm : Kn m) (hn : Kn n) (lm : m.length ≤ 8) (ln : n.length ≤ 8) : (PyData.tuple [inD m, inD n]).showable = true ∧ (PyData.tuple [inD m, inD n]).depth ≤ 64 ∧ (PyData.tuple [inD m, inD n]).shown.length ≤ sizeLine := by
  have one : ∀ {k : List (Int × Int)}, Kn k → k.length ≤ 8 → (inD k).showable = true ∧ (inD k).depth ≤ 2 ∧ (inD k).shown.length ≤ 1000 := fun {k} hk lk => by
    obtain ⟨h1, h2, h3⟩ := kv_rp (m := 0) (a := 52) (b := 52) (kvs := k.map fun p => (.int p.1, .int p.2)) fun q mq => by
      obtain ⟨p, mp, rfl⟩ := List.mem_map.mp mq
      obtain ⟨⟨a, b⟩, c, d⟩ := hk.k p mp
      exact ⟨Rp.nat a b, Rp.nat c d⟩
    refine ⟨h1, ?_, ?_⟩
    · show PyData.depthKv _ + 1 ≤ 2
      omega
    · show (dictText _).length ≤ 1000
      unfold dictText
      rw [strLen_append, strLen_append]
      have e1 : ((("{" : String) : Str)).length = 1 := rfl
      have e2 : ((("}" : String) : Str)).length = 1 := rfl
      have h5 := join_len (PyData.shownKv (k.map fun p => (.int p.1, .int p.2)))
      rw [List.length_map] at h3
      have : k.length * (52 + 52 + 4) ≤ 8 * (52 + 52 + 4) := Nat.mul_le_mul lk (Nat.le_refl _)
      omega
  obtain ⟨a1, a2, a3⟩ := one hm lm
  obtain ⟨b1, b2, b3⟩ := one hn ln
  refine ⟨?_, ?_, ?_⟩
  · show ((inD m).showable && ((inD n).showable && true)) = true
    rw [a1, b1]; rfl
  · show max (inD m).depth (max (inD n).depth 0) + 1 ≤ 64
    omega
  · show (tupleText [(inD m).shown, (inD n).shown]).length ≤ _
    have e : sizeLine = 16777216 := rfl
    unfold tupleText
    rw [strLen_append, strLen_append]
    have e1 : ((("(" : String) : Str)).length = 1 := rfl
    have e3 : (((if ([(inD m).shown, (inD n).shown] : List Str).length == 1 then ",)" else ")" : String) : Str)).length ≤ 2 := by split <;> decide
    have h5 := join_len [(inD m).shown, (inD n).shown]
    rw [piled_cons, piled_cons] at h5
    have e4 : piled ([] : List Str) = 0 := rfl
    omega
theorem eqV_dict {H : Hp} {a b : Addr} {m n : List (Int × Int)} (ha : H a = some (DN m)) (hb : H b = some (DN n)) (l : m.length = n.length) (e : ∀ p ∈ m, lkN n p.1 = some p.2) : EqV K H 3 (.ref a) (.ref b) :=
  .inr (.inr (.inr ⟨a, b, _, _, rfl, rfl, ha, hb, by simp only [List.length_map]; exact l, fun p hp => by
    obtain ⟨x, hx, rfl⟩ := List.mem_map.mp hp
    obtain ⟨y, hy, rfl⟩ := List.mem_map.mp hx
    refine ⟨.int y.2, ?_, .inl ⟨rfl, rfl⟩⟩
    rw [valV_di, lk_iv, e y hy]; rfl⟩))
theorem mem_of_lkN {m : List (Int × Int)} {k v : Int} (h : lkN m k = some v) : (k, v) ∈ m := by
  unfold lkN at h
  cases e : m.find? fun p => decide (p.1 = k) with
  | none => rw [e] at h; cases h
  | some q =>
    rw [e] at h
    have h1 := List.mem_of_find?_eq_some e
    have h2 := List.find?_some e
    have h3 : q.1 = k := of_decide_eq_true h2
    have h4 : q.2 = v := Option.some.inj h
    rw [← h3, ← h4]
    exact h1
theorem mem_ptN_self {m : List (Int × Int)} {k v : Int} : (k, v) ∈ ptN m k v := by
  unfold ptN
  split
  · rename_i h
    obtain ⟨p, hp, e⟩ := List.any_eq_true.mp h
    have e : p.1 = k := of_decide_eq_true e
    refine List.mem_map.mpr ⟨p, hp, ?_⟩
    rw [if_pos e, e]
  · exact List.mem_append.mpr (.inr (List.mem_singleton.mpr rfl))
theorem mem_ptN_other {m : List (Int × Int)} {k v j z : Int} (h : (j, z) ∈ m) (e : j ≠ k) : (j, z) ∈ ptN m k v := by
  unfold ptN
  split
  · exact List.mem_map.mpr ⟨_, h, if_neg e⟩
  · exact List.mem_append.mpr (.inl h)
def sp_law (K : PySem.W.Frag) : Sp := fun vs H Q _ => ∃ (a : Addr) (ns : List Int), vs = [.ref a] ∧ SqL K H a (ns.map V.int) ∧ ns.length ≤ 63 ∧ ∀ H', Q (.bl true) H'
theorem ok_law (T : Top P K mg) : FnG P w K mg base 8 T.a_law T.d_law ["_law_script"]  (sp_law K) := by
  refine T.F_law.okG sc_law (fun vs H Q E h => ?_) (fun cdv A outer s H vs Q E gA hr h => ?_)
  · obtain ⟨_, _, rfl, _⟩ := h
    rfl
  · obtain ⟨l, ns, rfl, hS, hlen, q⟩ := h
    refine ⟨_, (pss_cons (ps_set (i := 1) sc_law.nd rfl (by first | exact Or.inl rfl | exact Or.inr rfl) (pe_call (ok__law_wide T) (hr.mono (by decide)) (by rfl) T.g__law_wide T.F__law_wide.kp T.b__law_wide .nil pass0 (pa_cons (pv 0) (pa_cons pe_int pa_nil))))
  (pss_cons (ps_set (i := 2) sc_law.nd rfl (by first | exact Or.inl rfl | exact Or.inr rfl) (pe_op op_mod (pe_call (ok__law_mixed T) (hr.mono (by decide)) (by rfl) T.g__law_mixed T.F__law_mixed.kp T.b__law_mixed .nil pass0 (pa_cons (pv 1) (pa_cons pe_int pa_nil))) pe_int))
  (pss_cons (ps_set (i := 3) sc_law.nd rfl (by first | exact Or.inl rfl | exact Or.inr rfl) (pe_tup (pa_cons (pe_call (ok__law_shape T) (hr.mono (by decide)) (by rfl) T.g__law_shape T.F__law_shape.kp T.b__law_shape .nil pass0 (pa_cons (pe_call (ok__law_wide T) (hr.mono (by decide)) (by rfl) T.g__law_wide T.F__law_wide.kp T.b__law_wide .nil pass0 (pa_cons (pv 0) (pa_cons pe_int pa_nil))) pa_nil)) (pa_cons (pe_call (ok__law_shape T) (hr.mono (by decide)) (by rfl) T.g__law_shape T.F__law_shape.kp T.b__law_shape .nil pass0 (pa_cons (pe_call (ok__law_wide T) (hr.mono (by decide)) (by rfl) T.g__law_wide T.F__law_wide.kp T.b__law_wide .nil pass0 (pa_cons (pv 0) (pa_cons pe_int pa_nil))) pa_nil)) pa_nil))))
  (pss_cons (ps_set (i := 4) sc_law.nd rfl (by first | exact Or.inl rfl | exact Or.inr rfl) (pe_call (ok__law_costs T) (hr.mono (by decide)) (by rfl) T.g__law_costs T.F__law_costs.kp T.b__law_costs .nil pass0 (pa_cons (pe_call (ok__law_wide T) (hr.mono (by decide)) (by rfl) T.g__law_wide T.F__law_wide.kp T.b__law_wide .nil pass0 (pa_cons (pv 0) (pa_cons pe_int pa_nil))) pa_nil)))
  (pss_cons (ps_set (i := 5) sc_law.nd rfl (by first | exact Or.inl rfl | exact Or.inr rfl) (pe_tup (pa_cons (pe_ix ix_tup (pv 3) pe_int (fun _ _ => rfl)) (pa_cons (pe_ix ix_tup (pv 3) pe_int (fun _ _ => rfl)) (pa_cons (pv 4) pa_nil)))))
  (pss_cons (ps_setLc (i := 6) (own := [("_law_k", 7)]) (g := gName 7) (tt := tYes) rfl sc_law.nd rfl rfl (sw_true rfl rfl rfl (by decide +kernel)) (pi_range1 (by rfl) T.m_range (pa_cons pe_int pa_nil)) (blkOk_by (N := ["_law_script", "_law_draw", "_law_p", "_law_shapes", "_law_costs_here", "_law_processor", "_law_code", "_law_k", "_law_lines", "_law_known_here", "_law_kept", "_law_told", "_law_surely", "_law_called", "_law_q", "_law_cost"]) (sc := defScope s_law) (by decide +kernel)) (fun _ _ _ _ _ => pg_name (i := 7) sc_law.nd rfl (Or.inl rfl)) (fun _ _ _ _ _ => pts_nil) (fun _ _ _ _ _ => (pe_tup (pa_cons pe_str (pa_cons pe_int (pa_cons (pv 7) pa_nil))))))
  (pss_cons (ps_asg (pe_call (ok__law_instruction T) (hr.mono (by decide)) (by rfl) T.g__law_instruction T.F__law_instruction.kp T.b__law_instruction .nil pass0 (pa_cons (pv 1) (pa_cons (pv 2) pa_nil))) (pg_sub (pv 6) (pv 2) set_list))
  (pss_cons (ps_set (i := 8) sc_law.nd rfl (by first | exact Or.inl rfl | exact Or.inr rfl) (pe_call (ok__law_data_lines T) (hr.mono (by decide)) (by rfl) T.g__law_data_lines T.F__law_data_lines.kp T.b__law_data_lines .nil pass0 (pa_cons (pe_ix ix_tup (pv 3) pe_int (fun _ _ => rfl)) (pa_cons (pe_ix ix_list (pv 6) (pv 2) (fun _ _ => rfl)) pa_nil))))
  (pss_cons (ps_if (pt_cmpR (op_neD hr.units) (pe_call (ok_data_lines T) (hr.mono (by decide)) (by rfl) T.g_data_lines T.F_data_lines.kp T.b_data_lines .nil pass0 (pa_cons (pe_ix ix_tup (pv 3) pe_int (fun _ _ => rfl)) (pa_cons (pe_ix ix_list (pv 6) (pv 2) (fun _ _ => rfl)) pa_nil))) (pv 8) (nomark _))
  (pss_one (ps_ret pe_bl))
  pss_nil)
  (pss_cons (ps_set (i := 9) sc_law.nd rfl (by first | exact Or.inl rfl | exact Or.inr rfl) (pe_tup (pa_cons (pe_call (ok__law_known T) (hr.mono (by decide)) (by rfl) T.g__law_known T.F__law_known.kp T.b__law_known .nil pass0 (pa_cons (pe_ix ix_tup (pv 3) pe_int (fun _ _ => rfl)) (pa_cons (pe_lst (pa_cons (pe_op op_fdiv (pv 2) (pe_ix ix_tup (pe_ix ix_tup (pv 3) pe_int (fun _ _ => rfl)) pe_int (fun _ _ => rfl))) pa_nil)) (pa_cons (pe_call (ok__law_cell T) (hr.mono (by decide)) (by rfl) T.g__law_cell T.F__law_cell.kp T.b__law_cell .nil pass0 (pa_cons (pv 0) (pa_cons pe_int pa_nil))) pa_nil)))) (pa_cons (pe_call (ok__law_known T) (hr.mono (by decide)) (by rfl) T.g__law_known T.F__law_known.kp T.b__law_known .nil pass0 (pa_cons (pe_ix ix_tup (pv 3) pe_int (fun _ _ => rfl)) (pa_cons (pv 8) (pa_cons (pe_op op_add (pe_callTy call_int1 (by rfl) T.m_int (by decide +kernel) (pa_cons (pe_call (ok__law_cell T) (hr.mono (by decide)) (by rfl) T.g__law_cell T.F__law_cell.kp T.b__law_cell .nil pass0 (pa_cons (pv 0) (pa_cons pe_int pa_nil))) pa_nil)) pe_int) pa_nil)))) pa_nil))))
  (pss_cons (ps_set (i := 10) sc_law.nd rfl (by first | exact Or.inl rfl | exact Or.inr rfl) (pe_callB (cr_reprI2 gA (room70 hr)) (by rfl) T.m_repr (by decide +kernel) (pa_cons (pv 9) pa_nil)))
  (pss_cons (ps_set (i := 11) sc_law.nd rfl (by first | exact Or.inl rfl | exact Or.inr rfl) (pe_call (ok_after T) (hr.mono (by decide)) (by rfl) T.g_after T.F_after.kp T.b_after .nil pass0 (pa_cons (pv 5) (pa_cons (pe_callTy call_list_of (by rfl) T.m_list (by decide +kernel) (pa_cons (pv 6) pa_nil)) (pa_cons (pv 2) (pa_cons (pe_ix ix_tup (pv 9) pe_int (fun _ _ => rfl)) (pa_cons (pe_ix ix_tup (pv 9) pe_int (fun _ _ => rfl)) pa_nil)))))))
  (pss_cons (ps_if (pw_or (pt_not (pt_val (pe_callB call_isi (by rfl) T.m_isinstance (by decide +kernel) (pa_cons (pv 11) (pa_cons (pe_ty (T := "tuple") (by rfl) T.m_tuple (by decide +kernel)) pa_nil))))) (pw_or1 (pt_cmpR (op_neTD hr.units) (pv 11) (pe_call (ok__law_after T) (hr.mono (by decide)) (by rfl) T.g__law_after T.F__law_after.kp T.b__law_after .nil pass0 (pa_cons (pv 3) (pa_cons (pv 6) (pa_cons (pv 2) (pa_cons (pv 9) pa_nil))))) (nomark _)))).pt
  (pss_one (ps_ret pe_bl))
  pss_nil)
  (pss_cons (ps_set (i := 12) sc_law.nd rfl (by first | exact Or.inl rfl | exact Or.inr rfl) (pe_call (ok_hits T) (hr.mono (by decide)) (by rfl) T.g_hits T.F_hits.kp T.b_hits .nil pass0 (pa_cons (pv 5) (pa_cons (pe_callTy call_list_of (by rfl) T.m_list (by decide +kernel) (pa_cons (pv 6) pa_nil)) (pa_cons (pv 2) (pa_cons (pe_ix ix_tup (pv 9) pe_int (fun _ _ => rfl)) (pa_cons (pe_ix ix_tup (pv 9) pe_int (fun _ _ => rfl)) pa_nil)))))))
  (pss_cons (ps_if (pw_or (pt_not (pt_val (pe_callB call_isi (by rfl) T.m_isinstance (by decide +kernel) (pa_cons (pv 12) (pa_cons (pe_ty (T := "tuple") (by rfl) T.m_tuple (by decide +kernel)) pa_nil))))) (pw_or1 (pt_cmpR (op_neD hr.units) (pv 12) (pe_call (ok__law_hits T) (hr.mono (by decide)) (by rfl) T.g__law_hits T.F__law_hits.kp T.b__law_hits .nil pass0 (pa_cons (pv 3) (pa_cons (pv 6) (pa_cons (pv 2) (pa_cons (pv 9) pa_nil))))) (nomark _)))).pt
  (pss_one (ps_ret pe_bl))
  pss_nil)
  (pss_cons (ps_if (pw_or (pt_not (pt_val (pe_callB call_isi (by rfl) T.m_isinstance (by decide +kernel) (pa_cons (pe_ix ix_tup (pv 12) pe_int (fun _ _ => rfl)) (pa_cons (pe_ty (T := "bool") (by rfl) T.m_bool (by decide +kernel)) pa_nil))))) (pw_or (pt_not (pt_val (pe_callB call_isi (by rfl) T.m_isinstance (by decide +kernel) (pa_cons (pe_ix ix_tup (pv 12) pe_int (fun _ _ => rfl)) (pa_cons (pe_ty (T := "bool") (by rfl) T.m_bool (by decide +kernel)) pa_nil))))) (pw_or1 (pt_cmpR op_ne (pe_callB (cr_reprI2 gA (room70 hr)) (by rfl) T.m_repr (by decide +kernel) (pa_cons (pv 9) pa_nil)) (pv 10) (nomark _))))).pt
  (pss_one (ps_ret pe_bl))
  pss_nil)
  (pss_cons (ps_set (i := 13) sc_law.nd rfl (by first | exact Or.inl rfl | exact Or.inr rfl) pe_dnewK)
  (pss_cons (ps_for PassesOwn.never rfl (pi_range1 (by rfl) T.m_range (pa_cons pe_int pa_nil)) (pg_name (i := 14) sc_law.nd rfl (by first | exact Or.inl rfl | exact Or.inr rfl))
  (pss_one (ps_dput (hu_of hr) (pv 13) (pv 14) (pe_op op_mod (pe_call (ok__law_mixed T) (hr.mono (by decide)) (by rfl) T.g__law_mixed T.F__law_mixed.kp T.b__law_mixed .nil pass0 (pa_cons (pv 1) (pa_cons (pe_op op_add pe_int (pv 14)) pa_nil))) pe_int) rfl)))
  (pss_cons (ps_set (i := 15) sc_law.nd rfl (by first | exact Or.inl rfl | exact Or.inr rfl) (pe_call (ok_place_cost T) (hr.mono (by decide)) (by rfl) T.g_place_cost T.F_place_cost.kp T.b_place_cost .nil pass0 (pa_cons (pv 5) (pa_cons (pe_callTy call_list_of (by rfl) T.m_list (by decide +kernel) (pa_cons (pv 6) pa_nil)) (pa_cons (pv 2) (pa_cons (pe_ix ix_tup (pv 9) pe_int (fun _ _ => rfl)) (pa_cons (pe_ix ix_tup (pv 9) pe_int (fun _ _ => rfl)) (pa_cons (pv 13) pa_nil))))))))
  (pss_cons (ps_if (pw_or (pt_val (pe_callB call_isi (by rfl) T.m_isinstance (by decide +kernel) (pa_cons (pv 15) (pa_cons (pe_ty (T := "bool") (by rfl) T.m_bool (by decide +kernel)) pa_nil)))) (pw_or1 (pt_cmpR op_ne (pv 15) (pe_call (ok__law_due_cost T) (hr.mono (by decide)) (by rfl) T.g__law_due_cost T.F__law_due_cost.kp T.b__law_due_cost .nil pass0 (pa_cons (pv 3) (pa_cons (pv 4) (pa_cons (pv 6) (pa_cons (pv 2) (pa_cons (pv 9) (pa_cons (pv 13) pa_nil))))))) (nomark _)))).pt
  (pss_one (ps_ret pe_bl))
  pss_nil)
  (pss_one (ps_ret (pe_and (pe_cmpR op_eq (pe_callB (cr_reprI2 gA (room70 hr)) (by rfl) T.m_repr (by decide +kernel) (pa_cons (pv 9) pa_nil)) (pv 10) (nomark _)) (pe_one (pe_call (ok__law_edges_right T) (hr.mono (by decide)) (by rfl) T.g__law_edges_right T.F__law_edges_right.kp T.b__law_edges_right .nil pass0 (pa_cons (pv 5) (pa_cons (pv 6) (pa_cons (pv 2) pa_nil)))))))))))))))))))))))))))), ?_⟩
    rw [show ∀ a0 : V, L2.start ["_law_script", "_law_draw", "_law_p", "_law_shapes", "_law_costs_here", "_law_processor", "_law_code", "_law_k", "_law_lines", "_law_known_here", "_law_kept", "_law_told", "_law_surely", "_law_called", "_law_q", "_law_cost"] [a0] = [some a0, none, none, none, none, none, none, none, none, none, none, none, none, none, none, none] from fun _ => rfl]
    walk_at "my rn"
    refine ⟨l, ns, 0, rfl, hS, fun dr dr0 => ?_⟩
    walk_at "my rn"
    refine ⟨dr, 5, rfl, fun v1 v10 => ?_⟩
    have p0 : 0 ≤ v1 % 31 := Int.emod_nonneg _ (by decide)
    have p1 : v1 % 31 ≤ 30 := by have := Int.emod_lt_of_pos v1 (show (0 : Int) < 31 by decide); omega
    walk_at "my rn"
    obtain ⟨p, ep⟩ : ∃ p, p = v1 % 31 := ⟨_, rfl⟩
    rw [← ep] at p0 p1 ⊢
    refine ⟨l, ns, 1, rfl, hS, fun c1 c10 => ?_⟩
    walk_at "my rn"
    refine ⟨c1, rfl, c10, fun t0 S W L H1 so s1 hs0 => ?_⟩
    have hS1 := s1.seq hS
    walk_at "my rn"
    refine ⟨l, ns, 2, rfl, hS1, fun c2 c20 => ?_⟩
    walk_at "my rn"
    refine ⟨c2, rfl, c20, fun t1 S1 W1 L1 H2 so1 s2 hs1 => ?_⟩
    have hS2 := s2.seq hS1
    walk_at "my rn"
    intro ts H3 nts s3 hts
    have hS3 := s3.seq hS2
    walk_at "my rn"
    refine ⟨l, ns, 3, rfl, hS3, fun c3 c30 => ?_⟩
    walk_at "my rn"
    refine ⟨c3, rfl, c30, fun o ct H4 cok s4 hct => ?_⟩
    have hts4 := s4 _ _ hts
    walk_at "my rn"
    intro tp H5 ntp s5 htp
    as_aux_lemma =>
    have hs0_5 : ShapeAt K H5 t0 S W L := ((s2.trans s3).trans (s4.trans s5)).seqT hs0
    have hs1_5 : ShapeAt K H5 t1 S1 W1 L1 := (s3.trans (s4.trans s5)).seqT hs1
    have hts5 := s5 _ _ hts4
    have hct5 := hct.same s5
    have hS5 := (s4.trans s5).seq hS3
    walk_at "my rn"
    refine ⟨by decide, by decide, fun D nD => ?_⟩
    refine Rd.lc_rel walk_range (fun _ _ _ => True) nD (by decide) (fun _ _ _ _ h _ => h) (fun _ _ => trivial) (fun j x Hjo Hj Kt hj b hDl y kt => ?_) (fun H6 cs lcs _ s6 hD6 => ?_)
    · obtain ⟨rfl, e3⟩ := Rd.zr y
      subst e3
      simp only [List.map_cons, List.map_nil, L2.wipe, List.set_cons_succ, List.set_cons_zero]
      walk_at "my rn"
      refine ⟨rfl, ?_⟩
      walk_at "my rn"
      intro z Hz nz sz hz
      exact kt _ _ trivial sz
    · have lcs : cs.length = 32 := lcs
      walk_at "my rn"
      refine ⟨dr, p, rfl, dr0, p0, p1, fun u i H7 hi7 iok om q0 q1 s7 => ?_⟩
      as_aux_lemma =>
      have hD7 := s7 _ _ hD6
      obtain ⟨pn, epn⟩ : ∃ pn : Nat, p = pn := ⟨p.toNat, by omega⟩
      have pn32 : pn < cs.length := by omega
      walk_at "my rn"
      refine Rd.setL (j := pn) hD7 (by rw [epn]; exact Evl.ixN_nat pn32) ?_
      obtain ⟨H8, e8⟩ : ∃ H8, H8 = L2.upd H7 D (.lst (cs.set pn (.ref u))) := ⟨_, rfl⟩
      rw [← e8]
      have s58 : Same H5 H8 := by rw [e8]; exact (s6.trans s7).off nD
      have hD8 : H8 D = some (.lst (cs.set pn (.ref u))) := by rw [e8, upd_same]
      have hu8 : atI (cs.set pn (.ref u)) p = some (.ref u) := Rd.at_val epn (by rw [List.getElem?_set_self pn32])
      have hi8 : InsX K H8 u i := by
        obtain ⟨xs, hx, r⟩ := hi7.ex
        refine ⟨xs, ?_, r⟩
        rw [e8]
        rcases hx with hx | hx
        · rcases hx with hx | ⟨o, hx⟩
          · exact .inl (.inl (by rw [upd_ne (fun z => by rw [z, hD7] at hx; cases hx)]; exact hx))
          · exact .inl (.inr ⟨o, by rw [upd_ne (fun z => by rw [z, hD7] at hx; cases hx)]; exact hx⟩)
        · exact .inr hx
      have lc8 : (cs.set pn (V.ref u)).length = 32 := by rw [List.length_set, lcs]
      obtain ⟨cv, ecv⟩ : ∃ cv, cv = cs.set pn (V.ref u) := ⟨_, rfl⟩
      rw [← ecv] at hD8 hu8 lc8
      have hts8 := s58 _ _ hts5
      have htp8 := s58 _ _ htp
      have hs0_8 : ShapeAt K H8 t0 S W L := s58.seqT hs0_5
      have hs1_8 : ShapeAt K H8 t1 S1 W1 L1 := s58.seqT hs1_5
      have hs0' : SqT K H8 t0 [.int S, .int W, .int L] := hs0_8
      have hct8 := hct5.same s58
      have hS8 := s58.seq hS5
      have l01 : 1 ≤ L ∧ L ≤ 16 := by have := so.l; omega
      have l11 : 1 ≤ L1 ∧ L1 ≤ 16 := by have := so1.l; omega
      have sS0 : 0 < S := by have := so.s0; omega
      have sS1 : 0 < S1 := by have := so1.s0; omega
      walk_at "my rn"
      refine Rd.ixL hD8 hu8 ?_
      walk_at "my rn"
      refine ⟨t1, u, S1, W1, L1, i, rfl, hs1_8, l11.1, l11.2, hi8, iok, fun ll H9 nll s9 hll => ?_⟩
      as_aux_lemma =>
      have hts9 := s9 _ _ hts8
      have hD9 := s9 _ _ hD8
      have hs1_9 : ShapeAt K H9 t1 S1 W1 L1 := s9.seqT hs1_8
      have hs0_9 : SqT K H9 t0 [.int S, .int W, .int L] := s9.seqT hs0'
      have hS9 := s9.seq hS8
      have lnd := dLines_len iok l11.1 (L := L1)
      walk_at "my rn"
      refine Rd.ixL hD9 hu8 ?_
      walk_at "my rn"
      refine ⟨t1, u, S1, W1, L1, i, rfl, hs1_9, l11.1, l11.2, hi8.same s9, iok, fun l2 H10 nl2 s10 hl2 => ?_⟩
      walk_at "my rn"
      refine Rd.neD (dp_ints (SqL.of hl2)) (dp_ints (SqL.of (s10 _ _ hll))) (ints_shaped _) (ints_shaped _) ?_
      rw [eqv_ints, decide_eq_true rfl]
      walk_at "my rn"
      as_aux_lemma =>
      have s810 := s9.trans s10
      have hts10 := s10 _ _ hts9
      have hs0_10 : SqT K H10 t0 [.int S, .int W, .int L] := s10.seqT hs0_9
      have hs1_10 : ShapeAt K H10 t1 S1 W1 L1 := s10.seqT hs1_9
      have hll10 := s10 _ _ hll
      have hS10 := s10.seq hS9
      walk_at "my rn"
      intro pl H11 npl s11 hpl
      walk_at "my rn"
      refine ⟨l, ns, 4, rfl, s11.seq hS10, fun c4 => ?_⟩
      walk_at "my rn"
      have pl0 : 0 ≤ p / L := Int.ediv_nonneg p0 (by omega)
      have pl1 : p / L ≤ p := Int.ediv_le_self L p0
      refine ⟨t0, pl, S, W, L, c4, [p / L], rfl, s11.seqT hs0_10, so, hpl, fun x m => by rw [List.mem_singleton.mp m]; omega, fun A m H12 kn lm nA s12 hA => ?_⟩
      as_aux_lemma =>
      have s1012 := s11.trans s12
      have hts12 := s1012 _ _ hts10
      have hll12 := s1012 _ _ hll10
      have hS12 := s1012.seq hS10
      walk_at "my rn"
      refine ⟨l, ns, 4, rfl, hS12, fun c5 => ?_⟩
      walk_at "my rn"
      refine ⟨t1, ll, S1, W1, L1, c5 + 7, dLines L1 i, rfl, s1012.seqT hs1_10, so1, hll12, dLines_small iok l11.1, fun B n H13 kn2 lm2 nB s13 hB => ?_⟩
      walk_at "my rn"
      intro tk H14 ntk s14 htk
      have hA14 := s14 _ _ (s13 _ _ hA)
      have hB14 := s14 _ _ hB
      obtain ⟨sh, dp, le⟩ := two_rp kn kn2 lm lm2
      walk_at "my rn"
      refine ⟨tk, A, B, m, n, rfl, SqT.of htk, hA14, hB14, sh, dp, le, ?_⟩
      have s1014 := s1012.trans (s13.trans s14)
      have s814 := s810.trans s1014
      have hD14 := s814 _ _ hD8
      have htp14 := s814 _ _ htp8
      have hs0_14 : ShapeAt K H14 t0 S W L := s814.seqT hs0_8
      have hs1_14 : ShapeAt K H14 t1 S1 W1 L1 := s814.seqT hs1_8
      have hi14 := hi8.same s814
      have iok' := iok
      have nd1 := kn.nd
      have nd2 := kn2.nd
      have hct14 := hct8.same s814
      have hts14 : H14 ts = _ := s1014 _ _ hts10
      clear s1 hs0 hS1 s2 hs1 hS2 s3 hts hS3 s4 hct hts4 s5 htp hs0_5 hs1_5 hts5 hct5 hS5 hS nD s6 hD6 lcs hi7 s7 hD7 s58 hD8 hi8 hts8 htp8 hs0_8 hs1_8 hs0' hct8 hS8 s9 hll hts9 hD9 hs1_9 hs0_9 hS9 lnd s10 hl2 s810 hts10 hs0_10 hs1_10 hll10 hS10 s11 hpl pl0 pl1 s12 hA s1012 hts12 hll12 hS12 s13 hB s14 s1014 s814
      as_aux_lemma =>
      walk_at "my rn"
      intro cc H15 ncc s15 hcc
      have htk15 := s15 _ _ htk
      walk_at "my rn"
      refine ⟨tp, cc, t0, t1, o, u, A, B, S, W, L, S1, W1, L1, p, i, m, n, cv, rfl, SqT.of (s15 _ _ htp14), s15.seqT hs0_14, s15.seqT hs1_14, sS0, sS1, l01.1, l01.2, l11.1, l11.2, SqL.of hcc, hu8, hi14.same s15, iok, s15 _ _ hA14, nd1, by omega, s15 _ _ hB14, nd2, by omega, fun r ra rb H16 s16 hr16 hra hrb => ?_⟩
      as_aux_lemma =>
      have s1416 := s15.trans s16
      have htk16 := s1416 _ _ htk
      have hD16 := s1416 _ _ hD14
      walk_at "my rn"
      refine ⟨ts, D, t0, t1, u, tk, A, B, S, W, L, S1, W1, L1, p, i, m, n, cv, rfl, SqT.of (s1416 _ _ hts14), SqT.of htk16, s1416.seqT hs0_14, s1416.seqT hs1_14, sS0, sS1, l01.1, l01.2, l11.1, l11.2, SqL.of hD16, hu8, hi14.same s1416, iok, s1416 _ _ hA14, nd1, by omega, s1416 _ _ hB14, nd2, by omega, fun r2 rc rd H17 s17 hr17 hrc hrd => ?_⟩
      have s1417 := s1416.trans s17
      refine ⟨r, r2, _, _, rfl, rfl, SqT.of (s17 _ _ hr16), SqT.of hr17, ?_, ?_⟩
      · refine .cons ?_ (.cons ?_ .nil)
        · by_cases el : i.nm = "link"
          · rw [if_pos el] at hra hrc
            exact eqV_dict (s17 _ _ hra) hrc rfl fun p h => by cases h
          · rw [if_neg el] at hra hrc
            have := use_due (S := S) (W := W) (n := p / L) nd1
            exact eqV_dict (s17 _ _ hra) hrc this.1 this.2
        · by_cases el : i.nm = "link"
          · rw [if_pos el] at hrb hrd
            exact eqV_dict (s17 _ _ hrb) hrd rfl fun p h => by cases h
          · rw [if_neg el] at hrb hrd
            have := data_due (S := S1) (W := W1) (L := L1) (i := i) nd2 (fun q h => (kn2.k q h).1.1)
            exact eqV_dict (s17 _ _ hrb) hrd this.1 this.2
      have htk17 := s1417 _ _ htk
      have hD17 := s1417 _ _ hD14
      walk_at "my rn"
      intro c18 H18 nc18 s18 hc18
      have htk18 := s18 _ _ htk17
      as_aux_lemma =>
      have s1418 := s1417.trans s18
      walk_at "my rn"
      refine ⟨tp, c18, t0, t1, o, u, A, B, S, W, L, S1, W1, L1, p, i, m, n, cv, rfl, SqT.of (s1418 _ _ htp14), s1418.seqT hs0_14, s1418.seqT hs1_14, l01.1, l01.2, l11.1, l11.2, SqL.of hc18, hu8, hi14.same s1418, iok, s1418 _ _ hA14, s1418 _ _ hB14, fun r3 H19 s19 hr19 => ?_⟩
      have s1419 := s1418.trans s19
      have htk19 := s1419 _ _ htk
      walk_at "my rn"
      refine ⟨ts, D, t0, t1, u, tk, A, B, S, W, L, S1, W1, L1, p, i, m, n, cv, rfl, SqT.of (s1419 _ _ hts14), SqT.of htk19, s1419.seqT hs0_14, s1419.seqT hs1_14, l01.1, l01.2, l11.1, l11.2, SqL.of (s1419 _ _ hD14), hu8, hi14.same s1419, iok, s1419 _ _ hA14, s1419 _ _ hB14, fun r4 H20 s20 hr20 => ?_⟩
      have hr3_20 := s20 _ _ hr19
      as_aux_lemma =>
      have s1420 := s1419.trans s20
      have bb : ∀ x y : Bool, PyData.eqv (.tuple [.bool x, .bool y]) (.tuple [.bool x, .bool y]) = true := by decide +kernel
      refine Rd.neD (d := .tuple [.bool (lkN m (p / L)).isSome, .bool (lHit L1 i n)]) (e := .tuple [.bool (lkN m (p / L)).isSome, .bool (lHit L1 i n)]) (.tup (SqT.of hr3_20) (.cons (.bl _) (.cons (.bl _) .nil))) (.tup (SqT.of hr20) (.cons (.bl _) (.cons (.bl _) .nil))) rfl rfl ?_
      rw [bb]
      walk_at "my rn"
      have htk20 := s1420 _ _ htk
      refine ⟨tk, A, B, m, n, rfl, SqT.of htk20, s1420 _ _ hA14, s1420 _ _ hB14, sh, dp, le, ?_⟩
      walk_at "my rn"
      rw [decide_eq_true rfl]
      refine Rd.ifnT ?_
      walk_at "my rn"
      intro cd H21 ncd s21 hcd
      as_aux_lemma =>
      have s1421 := s1420.trans s21
      walk_at "my rn"
      refine ⟨by decide, by decide, for_it walk_range (fun k σ H' => ∃ (cl : List (Int × Int)) (y : Option V), σ = [some (.ref l), some (.int dr), some (.int p), some (.ref ts), some (.ref o), some (.ref tp), some (.ref D), none, some (.ref ll), some (.ref tk), some (.str (PyData.tuple [inD m, inD n]).shown), some (.ref r), some (.ref r3), some (.ref cd), y, none] ∧
        H' cd = some (DN cl) ∧ cl.length ≤ k ∧ (cl.map (·.1)).Nodup ∧ (∀ j : Nat, j < k → ∃ v, lkN cl (j : Int) = some v) ∧ Same H20 H') ⟨[], none, rfl, hcd, Nat.zero_le _, List.nodup_nil, fun j h => absurd h (Nat.not_lt_zero _), s21⟩ (fun _ _ _ _ _ => trivial) ?_ ?_⟩
      · rintro k x σ Ho H' hk ⟨cl, y, rfl, hcl, lcl, ndc, all_, s'⟩ yy
        obtain ⟨rfl, e3⟩ := Rd.zr yy
        subst e3
        have k32 : k < 32 := hk
        walk_at "my rn"
        refine ⟨dr, _, rfl, fun v5 v50 => ?_⟩
        walk_at "my rn"
        refine dputN hcl (by omega) ?_
        refine ⟨_, _, rfl, upd_same, Nat.le_trans ptN_len (by omega), ptN_keys ndc, fun j hj => ?_, s'.off ncd⟩
        have mem_ : ∃ v, ((j : Int), v) ∈ ptN cl (k : Int) (v5 % 900) := by
          by_cases e : j = k
          · subst e
            exact ⟨v5 % 900, mem_ptN_self⟩
          · obtain ⟨v, hv⟩ := all_ j (by omega)
            exact ⟨v, mem_ptN_other (mem_of_lkN hv) (by simp; omega)⟩
        obtain ⟨v, hv⟩ := mem_
        exact ⟨v, lkN_mem (ptN_keys ndc) hv⟩
      · rintro σ H22 ⟨cl, y, rfl, hcl, lcl, ndc, all_, s22⟩
        as_aux_lemma =>
        have s1422 := s1420.trans s22
        have htk22 := s1422 _ _ htk
        have hD22 := s1422 _ _ hD14
        obtain ⟨cal, hcal⟩ : ∃ cal, i.nm = "link" → lkN cl i.q = some cal := by
          obtain ⟨v, hv⟩ := all_ i.q.toNat (by show i.q.toNat < 32; omega)
          exact ⟨v, fun _ => by rw [← hv]; congr 1; omega⟩
        walk_at "my rn"
        intro c23 H23 nc23 s23 hc23
        have s1423 := s1422.trans s23
        have htk23 := s1423 _ _ htk
        walk_at "my rn"
        refine ⟨tp, c23, t0, t1, o, u, A, B, cd, S, W, L, S1, W1, L1, p, cal, i, m, n, cl, cv, ct, rfl, SqT.of (s1423 _ _ htp14), s1423.seqT hs0_14, s1423.seqT hs1_14, hct14.same s1423, l01.1, l01.2, l11.1, l11.2, SqL.of hc23, hu8, hi14.same s1423, iok, s1423 _ _ hA14, s1423 _ _ hB14, s23 _ _ hcl, hcal, fun H24 s24 => ?_⟩
        as_aux_lemma =>
        have s1424 := s1423.trans s24
        walk_at "my rn"
        refine ⟨ts, o, D, t0, t1, u, tk, A, B, cd, S, W, L, S1, W1, L1, p, cal, i, m, n, cl, cv, ct, rfl, SqT.of (s1424 _ _ hts14), SqT.of (s1424 _ _ htk), s1424.seqT hs0_14, s1424.seqT hs1_14, hct14.same s1424, l01.1, l01.2, l11.1, l11.2, SqL.of (s1424 _ _ hD14), hu8, hi14.same s1424, iok, om, s1424 _ _ hA14, s1424 _ _ hB14, s24 _ _ (s23 _ _ hcl), hcal, fun H25 s25 => ?_⟩
        have s1425 := s1424.trans s25
        walk_at "my rn"
        rw [decide_eq_true rfl]
        refine Rd.ifnT ?_
        walk_at "my rn"
        refine ⟨tk, A, B, m, n, rfl, SqT.of (s1425 _ _ htk), s1425 _ _ hA14, s1425 _ _ hB14, sh, dp, le, ?_⟩
        walk_at "my rn"
        rw [decide_eq_true rfl]
        refine Rd.ifT ?_
        walk_at "my rn"
        exact ⟨tp, D, o, u, p, .ref t0, .ref t1, i, cv, ct, rfl, SqT.of (s1425 _ _ htp14), hct14.same s1425, SqL.of (s1425 _ _ hD14), by omega, hu8, hi14.same s1425, fun H26 => q H26⟩
end

def top_mk {P : Program} {w : World} {K : PySem.W.Frag} {h : Heap} {mg : Str → Option Value} (X : K.In h) (G : h.Ns mainGlobals mg)
    {a_decimal : Addr} {od_decimal an_decimal : Option Addr} {sl_decimal : Array (Option Value)} {oc_decimal kV_decimal dc_decimal pm_decimal cd_decimal ct_decimal : Value}
    {a_use_line : Addr} {od_use_line an_use_line : Option Addr} {sl_use_line : Array (Option Value)} {oc_use_line kV_use_line dc_use_line pm_use_line cd_use_line ct_use_line : Value}
    {a_use_some : Addr} {od_use_some an_use_some : Option Addr} {sl_use_some : Array (Option Value)} {oc_use_some kV_use_some dc_use_some pm_use_some cd_use_some ct_use_some : Value}
    {a__older : Addr} {od__older an__older : Option Addr} {sl__older : Array (Option Value)} {oc__older kV__older dc__older pm__older cd__older ct__older : Value}
    {a_data_lines : Addr} {od_data_lines an_data_lines : Option Addr} {sl_data_lines : Array (Option Value)} {oc_data_lines kV_data_lines dc_data_lines pm_data_lines cd_data_lines ct_data_lines : Value}
    {a_after : Addr} {od_after an_after : Option Addr} {sl_after : Array (Option Value)} {oc_after kV_after dc_after pm_after cd_after ct_after : Value}
    {a__data_after : Addr} {od__data_after an__data_after : Option Addr} {sl__data_after : Array (Option Value)} {oc__data_after kV__data_after dc__data_after pm__data_after cd__data_after ct__data_after : Value}
    {a_hits : Addr} {od_hits an_hits : Option Addr} {sl_hits : Array (Option Value)} {oc_hits kV_hits dc_hits pm_hits cd_hits ct_hits : Value}
    {a_Costs_init : Addr} {od_Costs_init an_Costs_init : Option Addr} {sl_Costs_init : Array (Option Value)} {oc_Costs_init dc_Costs_init pm_Costs_init cd_Costs_init ct_Costs_init : Value}
    {kD_Costs_init : Addr}
    {kt_Costs_init_fetch_hit : Tok}
    {kt_Costs_init_fetch_miss : Tok}
    {kt_Costs_init_plain : Tok}
    {kt_Costs_init_mul : Tok}
    {kt_Costs_init_div : Tok}
    {kt_Costs_init_load_hit : Tok}
    {kt_Costs_init_load_miss : Tok}
    {kt_Costs_init_store : Tok}
    {kt_Costs_init_taken : Tok}
    {kt_Costs_init_count : Tok}
    {kt_Costs_init_port : Tok}
    {kt_Costs_init_release : Tok}
    {kt_Costs_init_switch : Tok}
    {kt_Costs_init_enter : Tok}
    {kt_Costs_init_leave : Tok}
    {kt_Costs_init_finish : Tok}
    {a__check_costs : Addr} {od__check_costs an__check_costs : Option Addr} {sl__check_costs : Array (Option Value)} {oc__check_costs kV__check_costs dc__check_costs pm__check_costs cd__check_costs ct__check_costs : Value}
    {a__check_miss : Addr} {od__check_miss an__check_miss : Option Addr} {sl__check_miss : Array (Option Value)} {oc__check_miss kV__check_miss dc__check_miss pm__check_miss cd__check_miss ct__check_miss : Value}
    {a_instruction_cost : Addr} {od_instruction_cost an_instruction_cost : Option Addr} {sl_instruction_cost : Array (Option Value)} {oc_instruction_cost dc_instruction_cost pm_instruction_cost cd_instruction_cost ct_instruction_cost : Value}
    {kD_instruction_cost : Addr}
    {a__execution_cost : Addr} {od__execution_cost an__execution_cost : Option Addr} {sl__execution_cost : Array (Option Value)} {oc__execution_cost kV__execution_cost dc__execution_cost pm__execution_cost cd__execution_cost ct__execution_cost : Value}
    {a__calculation_cost : Addr} {od__calculation_cost an__calculation_cost : Option Addr} {sl__calculation_cost : Array (Option Value)} {oc__calculation_cost kV__calculation_cost dc__calculation_cost pm__calculation_cost cd__calculation_cost ct__calculation_cost : Value}
    {a_place_cost : Addr} {od_place_cost an_place_cost : Option Addr} {sl_place_cost : Array (Option Value)} {oc_place_cost kV_place_cost dc_place_cost pm_place_cost cd_place_cost ct_place_cost : Value}
    {a_edge_cost : Addr} {od_edge_cost an_edge_cost : Option Addr} {sl_edge_cost : Array (Option Value)} {oc_edge_cost kV_edge_cost dc_edge_cost pm_edge_cost cd_edge_cost ct_edge_cost : Value}
    {a__law_cell : Addr} {od__law_cell an__law_cell : Option Addr} {sl__law_cell : Array (Option Value)} {oc__law_cell kV__law_cell dc__law_cell pm__law_cell cd__law_cell ct__law_cell : Value}
    {a__law_mixed : Addr} {od__law_mixed an__law_mixed : Option Addr} {sl__law_mixed : Array (Option Value)} {oc__law_mixed kV__law_mixed dc__law_mixed pm__law_mixed cd__law_mixed ct__law_mixed : Value}
    {a__law_rich : Addr} {od__law_rich an__law_rich : Option Addr} {sl__law_rich : Array (Option Value)} {oc__law_rich kV__law_rich dc__law_rich pm__law_rich cd__law_rich ct__law_rich : Value}
    {a__law_wide : Addr} {od__law_wide an__law_wide : Option Addr} {sl__law_wide : Array (Option Value)} {oc__law_wide kV__law_wide dc__law_wide pm__law_wide cd__law_wide ct__law_wide : Value}
    {a__law_shape : Addr} {od__law_shape an__law_shape : Option Addr} {sl__law_shape : Array (Option Value)} {oc__law_shape kV__law_shape dc__law_shape pm__law_shape cd__law_shape ct__law_shape : Value}
    {a__law_costs : Addr} {od__law_costs an__law_costs : Option Addr} {sl__law_costs : Array (Option Value)} {oc__law_costs kV__law_costs dc__law_costs pm__law_costs cd__law_costs ct__law_costs : Value}
    {a__law_base : Addr} {od__law_base an__law_base : Option Addr} {sl__law_base : Array (Option Value)} {oc__law_base kV__law_base dc__law_base pm__law_base cd__law_base ct__law_base : Value}
    {a__law_data_lines : Addr} {od__law_data_lines an__law_data_lines : Option Addr} {sl__law_data_lines : Array (Option Value)} {oc__law_data_lines kV__law_data_lines dc__law_data_lines pm__law_data_lines cd__law_data_lines ct__law_data_lines : Value}
    {a__law_aged : Addr} {od__law_aged an__law_aged : Option Addr} {sl__law_aged : Array (Option Value)} {oc__law_aged kV__law_aged dc__law_aged pm__law_aged cd__law_aged ct__law_aged : Value}
    {a__law_used : Addr} {od__law_used an__law_used : Option Addr} {sl__law_used : Array (Option Value)} {oc__law_used kV__law_used dc__law_used pm__law_used cd__law_used ct__law_used : Value}
    {a__law_after : Addr} {od__law_after an__law_after : Option Addr} {sl__law_after : Array (Option Value)} {oc__law_after kV__law_after dc__law_after pm__law_after cd__law_after ct__law_after : Value}
    {a__law_hits : Addr} {od__law_hits an__law_hits : Option Addr} {sl__law_hits : Array (Option Value)} {oc__law_hits kV__law_hits dc__law_hits pm__law_hits cd__law_hits ct__law_hits : Value}
    {a__law_instruction : Addr} {od__law_instruction an__law_instruction : Option Addr} {sl__law_instruction : Array (Option Value)} {oc__law_instruction kV__law_instruction dc__law_instruction pm__law_instruction cd__law_instruction ct__law_instruction : Value}
    {a__law_known : Addr} {od__law_known an__law_known : Option Addr} {sl__law_known : Array (Option Value)} {oc__law_known kV__law_known dc__law_known pm__law_known cd__law_known ct__law_known : Value}
    {a__law_due_cost : Addr} {od__law_due_cost an__law_due_cost : Option Addr} {sl__law_due_cost : Array (Option Value)} {oc__law_due_cost kV__law_due_cost dc__law_due_cost pm__law_due_cost cd__law_due_cost ct__law_due_cost : Value}
    {a__law_edges_right : Addr} {od__law_edges_right an__law_edges_right : Option Addr} {sl__law_edges_right : Array (Option Value)} {oc__law_edges_right kV__law_edges_right dc__law_edges_right pm__law_edges_right cd__law_edges_right ct__law_edges_right : Value}
    {a_law : Addr} {od_law an_law : Option Addr} {sl_law : Array (Option Value)} {oc_law kV_law dc_law pm_law cd_law ct_law : Value}
    {C_Costs : Addr}
    {C_PlanError : Addr}
    {f_PlanError cda_PlanError cc_PlanError N_PlanError : Addr} {nm_PlanError q_PlanError file_PlanError : Str} {bs_PlanError bm_PlanError sub_PlanError : List Value} {sn_PlanError : List Str} {ab_PlanError : Bool} {col_PlanError : Option Bool} {dd_PlanError od_PlanError an_PlanError cdd_PlanError cld_PlanError : Option Addr} {m0_PlanError m1_PlanError m2_PlanError m3_PlanError m5_PlanError : Option Value} {oc_PlanError dc_PlanError pm_PlanError ct_PlanError ccl_PlanError cl_PlanError : Value} {osl_PlanError ccs_PlanError csl_PlanError : Array (Option Value)} {vs_PlanError : Array Value} {tq_PlanError tf_PlanError : Tok}
    {t_PIECE : Tok}
    {t_PIECE_DIGITS : Tok}
    {p_STORES : Addr} {n_STORES : Nat} {us_STORES : Array Value} {sl_STORES : Array (Option Value)}
    {p_LOADS : Addr} {n_LOADS : Nat} {us_LOADS : Array Value} {sl_LOADS : Array (Option Value)}
    {t_GREATEST_COST : Tok}
    {p_TAKEN_AT_TIMES : Addr} {n_TAKEN_AT_TIMES : Nat} {us_TAKEN_AT_TIMES : Array Value} {sl_TAKEN_AT_TIMES : Array (Option Value)}
    {p_ALWAYS_TAKEN : Addr} {n_ALWAYS_TAKEN : Nat} {us_ALWAYS_TAKEN : Array Value} {sl_ALWAYS_TAKEN : Array (Option Value)}
    (n_decimal : PySem.W.nsIn K mainGlobals "decimal" = some (some (.ref a_decimal)))
    (n_use_line : PySem.W.nsIn K mainGlobals "use_line" = some (some (.ref a_use_line)))
    (n_use_some : PySem.W.nsIn K mainGlobals "use_some" = some (some (.ref a_use_some)))
    (n__older : PySem.W.nsIn K mainGlobals "_older" = some (some (.ref a__older)))
    (n_data_lines : PySem.W.nsIn K mainGlobals "data_lines" = some (some (.ref a_data_lines)))
    (n_after : PySem.W.nsIn K mainGlobals "after" = some (some (.ref a_after)))
    (n__data_after : PySem.W.nsIn K mainGlobals "_data_after" = some (some (.ref a__data_after)))
    (n_hits : PySem.W.nsIn K mainGlobals "hits" = some (some (.ref a_hits)))
    (n__check_costs : PySem.W.nsIn K mainGlobals "_check_costs" = some (some (.ref a__check_costs)))
    (n__check_miss : PySem.W.nsIn K mainGlobals "_check_miss" = some (some (.ref a__check_miss)))
    (n_instruction_cost : PySem.W.nsIn K mainGlobals "instruction_cost" = some (some (.ref a_instruction_cost)))
    (n__execution_cost : PySem.W.nsIn K mainGlobals "_execution_cost" = some (some (.ref a__execution_cost)))
    (n__calculation_cost : PySem.W.nsIn K mainGlobals "_calculation_cost" = some (some (.ref a__calculation_cost)))
    (n_place_cost : PySem.W.nsIn K mainGlobals "place_cost" = some (some (.ref a_place_cost)))
    (n_edge_cost : PySem.W.nsIn K mainGlobals "edge_cost" = some (some (.ref a_edge_cost)))
    (n__law_cell : PySem.W.nsIn K mainGlobals "_law_cell" = some (some (.ref a__law_cell)))
    (n__law_mixed : PySem.W.nsIn K mainGlobals "_law_mixed" = some (some (.ref a__law_mixed)))
    (n__law_rich : PySem.W.nsIn K mainGlobals "_law_rich" = some (some (.ref a__law_rich)))
    (n__law_wide : PySem.W.nsIn K mainGlobals "_law_wide" = some (some (.ref a__law_wide)))
    (n__law_shape : PySem.W.nsIn K mainGlobals "_law_shape" = some (some (.ref a__law_shape)))
    (n__law_costs : PySem.W.nsIn K mainGlobals "_law_costs" = some (some (.ref a__law_costs)))
    (n__law_base : PySem.W.nsIn K mainGlobals "_law_base" = some (some (.ref a__law_base)))
    (n__law_data_lines : PySem.W.nsIn K mainGlobals "_law_data_lines" = some (some (.ref a__law_data_lines)))
    (n__law_aged : PySem.W.nsIn K mainGlobals "_law_aged" = some (some (.ref a__law_aged)))
    (n__law_used : PySem.W.nsIn K mainGlobals "_law_used" = some (some (.ref a__law_used)))
    (n__law_after : PySem.W.nsIn K mainGlobals "_law_after" = some (some (.ref a__law_after)))
    (n__law_hits : PySem.W.nsIn K mainGlobals "_law_hits" = some (some (.ref a__law_hits)))
    (n__law_instruction : PySem.W.nsIn K mainGlobals "_law_instruction" = some (some (.ref a__law_instruction)))
    (n__law_known : PySem.W.nsIn K mainGlobals "_law_known" = some (some (.ref a__law_known)))
    (n__law_due_cost : PySem.W.nsIn K mainGlobals "_law_due_cost" = some (some (.ref a__law_due_cost)))
    (n__law_edges_right : PySem.W.nsIn K mainGlobals "_law_edges_right" = some (some (.ref a__law_edges_right)))
    (n_law : PySem.W.nsIn K mainGlobals "law" = some (some (.ref a_law)))
    (nc_Costs : PySem.W.nsIn K mainGlobals "Costs" = some (some (.ref C_Costs)))
    (nc_PlanError : PySem.W.nsIn K mainGlobals "PlanError" = some (some (.ref C_PlanError)))
    (l_decimal : K.lookup a_decimal = some ⟨oc_decimal, od_decimal, .func (PySem.W.fnOf "decimal" "decimal" (defArgs s_decimal) (defBody s_decimal) (defScope s_decimal) .none kV_decimal dc_decimal pm_decimal an_decimal cd_decimal ct_decimal), sl_decimal⟩)
    (c_decimal : PySem.W.codeIn K cd_decimal "decimal" = true)
    (k_decimal : PySem.W.keepIn K (.ref a_decimal) = true)
    (l_use_line : K.lookup a_use_line = some ⟨oc_use_line, od_use_line, .func (PySem.W.fnOf "use_line" "use_line" (defArgs s_use_line) (defBody s_use_line) (defScope s_use_line) .none kV_use_line dc_use_line pm_use_line an_use_line cd_use_line ct_use_line), sl_use_line⟩)
    (c_use_line : PySem.W.codeIn K cd_use_line "use_line" = true)
    (k_use_line : PySem.W.keepIn K (.ref a_use_line) = true)
    (l_use_some : K.lookup a_use_some = some ⟨oc_use_some, od_use_some, .func (PySem.W.fnOf "use_some" "use_some" (defArgs s_use_some) (defBody s_use_some) (defScope s_use_some) .none kV_use_some dc_use_some pm_use_some an_use_some cd_use_some ct_use_some), sl_use_some⟩)
    (c_use_some : PySem.W.codeIn K cd_use_some "use_some" = true)
    (k_use_some : PySem.W.keepIn K (.ref a_use_some) = true)
    (l__older : K.lookup a__older = some ⟨oc__older, od__older, .func (PySem.W.fnOf "_older" "_older" (defArgs s__older) (defBody s__older) (defScope s__older) .none kV__older dc__older pm__older an__older cd__older ct__older), sl__older⟩)
    (c__older : PySem.W.codeIn K cd__older "_older" = true)
    (k__older : PySem.W.keepIn K (.ref a__older) = true)
    (l_data_lines : K.lookup a_data_lines = some ⟨oc_data_lines, od_data_lines, .func (PySem.W.fnOf "data_lines" "data_lines" (defArgs s_data_lines) (defBody s_data_lines) (defScope s_data_lines) .none kV_data_lines dc_data_lines pm_data_lines an_data_lines cd_data_lines ct_data_lines), sl_data_lines⟩)
    (c_data_lines : PySem.W.codeIn K cd_data_lines "data_lines" = true)
    (k_data_lines : PySem.W.keepIn K (.ref a_data_lines) = true)
    (l_after : K.lookup a_after = some ⟨oc_after, od_after, .func (PySem.W.fnOf "after" "after" (defArgs s_after) (defBody s_after) (defScope s_after) .none kV_after dc_after pm_after an_after cd_after ct_after), sl_after⟩)
    (c_after : PySem.W.codeIn K cd_after "after" = true)
    (k_after : PySem.W.keepIn K (.ref a_after) = true)
    (l__data_after : K.lookup a__data_after = some ⟨oc__data_after, od__data_after, .func (PySem.W.fnOf "_data_after" "_data_after" (defArgs s__data_after) (defBody s__data_after) (defScope s__data_after) .none kV__data_after dc__data_after pm__data_after an__data_after cd__data_after ct__data_after), sl__data_after⟩)
    (c__data_after : PySem.W.codeIn K cd__data_after "_data_after" = true)
    (k__data_after : PySem.W.keepIn K (.ref a__data_after) = true)
    (l_hits : K.lookup a_hits = some ⟨oc_hits, od_hits, .func (PySem.W.fnOf "hits" "hits" (defArgs s_hits) (defBody s_hits) (defScope s_hits) .none kV_hits dc_hits pm_hits an_hits cd_hits ct_hits), sl_hits⟩)
    (c_hits : PySem.W.codeIn K cd_hits "hits" = true)
    (k_hits : PySem.W.keepIn K (.ref a_hits) = true)
    (fi_Costs_init : PySem.W.findIn K (.ref C_Costs) "__init__" = some (some (.ref a_Costs_init)))
    (fn_Costs_init : PySem.W.isFn K (.ref a_Costs_init) = true)
    (l_Costs_init : K.lookup a_Costs_init = some ⟨oc_Costs_init, od_Costs_init, .func (PySem.W.fnOf "__init__" "Costs.__init__" (defArgs s_Costs_init) (defBody s_Costs_init) (defScope s_Costs_init) .none (.ref kD_Costs_init) dc_Costs_init pm_Costs_init an_Costs_init cd_Costs_init ct_Costs_init), sl_Costs_init⟩)
    (kw_Costs_init_fetch_hit : PySem.W.nsIn K kD_Costs_init "fetch_hit" = some (some (.int (1) kt_Costs_init_fetch_hit)))
    (kw_Costs_init_fetch_miss : PySem.W.nsIn K kD_Costs_init "fetch_miss" = some (some (.int (11) kt_Costs_init_fetch_miss)))
    (kw_Costs_init_plain : PySem.W.nsIn K kD_Costs_init "plain" = some (some (.int (1) kt_Costs_init_plain)))
    (kw_Costs_init_mul : PySem.W.nsIn K kD_Costs_init "mul" = some (some (.int (3) kt_Costs_init_mul)))
    (kw_Costs_init_div : PySem.W.nsIn K kD_Costs_init "div" = some (some (.int (8) kt_Costs_init_div)))
    (kw_Costs_init_load_hit : PySem.W.nsIn K kD_Costs_init "load_hit" = some (some (.int (1) kt_Costs_init_load_hit)))
    (kw_Costs_init_load_miss : PySem.W.nsIn K kD_Costs_init "load_miss" = some (some (.int (11) kt_Costs_init_load_miss)))
    (kw_Costs_init_store : PySem.W.nsIn K kD_Costs_init "store" = some (some (.int (4) kt_Costs_init_store)))
    (kw_Costs_init_taken : PySem.W.nsIn K kD_Costs_init "taken" = some (some (.int (1) kt_Costs_init_taken)))
    (kw_Costs_init_count : PySem.W.nsIn K kD_Costs_init "count" = some (some (.int (2) kt_Costs_init_count)))
    (kw_Costs_init_port : PySem.W.nsIn K kD_Costs_init "port" = some (some (.int (4) kt_Costs_init_port)))
    (kw_Costs_init_release : PySem.W.nsIn K kD_Costs_init "release" = some (some (.int (6) kt_Costs_init_release)))
    (kw_Costs_init_switch : PySem.W.nsIn K kD_Costs_init "switch" = some (some (.int (12) kt_Costs_init_switch)))
    (kw_Costs_init_enter : PySem.W.nsIn K kD_Costs_init "enter" = some (some (.int (5) kt_Costs_init_enter)))
    (kw_Costs_init_leave : PySem.W.nsIn K kD_Costs_init "leave" = some (some (.int (5) kt_Costs_init_leave)))
    (kw_Costs_init_finish : PySem.W.nsIn K kD_Costs_init "finish" = some (some (.int (8) kt_Costs_init_finish)))
    (c_Costs_init : PySem.W.codeIn K cd_Costs_init "Costs.__init__" = true)
    (k_Costs_init : PySem.W.keepIn K (.ref a_Costs_init) = true)
    (l__check_costs : K.lookup a__check_costs = some ⟨oc__check_costs, od__check_costs, .func (PySem.W.fnOf "_check_costs" "_check_costs" (defArgs s__check_costs) (defBody s__check_costs) (defScope s__check_costs) .none kV__check_costs dc__check_costs pm__check_costs an__check_costs cd__check_costs ct__check_costs), sl__check_costs⟩)
    (c__check_costs : PySem.W.codeIn K cd__check_costs "_check_costs" = true)
    (k__check_costs : PySem.W.keepIn K (.ref a__check_costs) = true)
    (l__check_miss : K.lookup a__check_miss = some ⟨oc__check_miss, od__check_miss, .func (PySem.W.fnOf "_check_miss" "_check_miss" (defArgs s__check_miss) (defBody s__check_miss) (defScope s__check_miss) .none kV__check_miss dc__check_miss pm__check_miss an__check_miss cd__check_miss ct__check_miss), sl__check_miss⟩)
    (c__check_miss : PySem.W.codeIn K cd__check_miss "_check_miss" = true)
    (k__check_miss : PySem.W.keepIn K (.ref a__check_miss) = true)
    (l_instruction_cost : K.lookup a_instruction_cost = some ⟨oc_instruction_cost, od_instruction_cost, .func (PySem.W.fnOf "instruction_cost" "instruction_cost" (defArgs s_instruction_cost) (defBody s_instruction_cost) (defScope s_instruction_cost) .none (.ref kD_instruction_cost) dc_instruction_cost pm_instruction_cost an_instruction_cost cd_instruction_cost ct_instruction_cost), sl_instruction_cost⟩)
    (kw_instruction_cost_load_hit : PySem.W.nsIn K kD_instruction_cost "load_hit" = some (some (.bool true)))
    (kw_instruction_cost_taken : PySem.W.nsIn K kD_instruction_cost "taken" = some (some (.bool false)))
    (c_instruction_cost : PySem.W.codeIn K cd_instruction_cost "instruction_cost" = true)
    (k_instruction_cost : PySem.W.keepIn K (.ref a_instruction_cost) = true)
    (l__execution_cost : K.lookup a__execution_cost = some ⟨oc__execution_cost, od__execution_cost, .func (PySem.W.fnOf "_execution_cost" "_execution_cost" (defArgs s__execution_cost) (defBody s__execution_cost) (defScope s__execution_cost) .none kV__execution_cost dc__execution_cost pm__execution_cost an__execution_cost cd__execution_cost ct__execution_cost), sl__execution_cost⟩)
    (c__execution_cost : PySem.W.codeIn K cd__execution_cost "_execution_cost" = true)
    (k__execution_cost : PySem.W.keepIn K (.ref a__execution_cost) = true)
    (l__calculation_cost : K.lookup a__calculation_cost = some ⟨oc__calculation_cost, od__calculation_cost, .func (PySem.W.fnOf "_calculation_cost" "_calculation_cost" (defArgs s__calculation_cost) (defBody s__calculation_cost) (defScope s__calculation_cost) .none kV__calculation_cost dc__calculation_cost pm__calculation_cost an__calculation_cost cd__calculation_cost ct__calculation_cost), sl__calculation_cost⟩)
    (c__calculation_cost : PySem.W.codeIn K cd__calculation_cost "_calculation_cost" = true)
    (k__calculation_cost : PySem.W.keepIn K (.ref a__calculation_cost) = true)
    (l_place_cost : K.lookup a_place_cost = some ⟨oc_place_cost, od_place_cost, .func (PySem.W.fnOf "place_cost" "place_cost" (defArgs s_place_cost) (defBody s_place_cost) (defScope s_place_cost) .none kV_place_cost dc_place_cost pm_place_cost an_place_cost cd_place_cost ct_place_cost), sl_place_cost⟩)
    (c_place_cost : PySem.W.codeIn K cd_place_cost "place_cost" = true)
    (k_place_cost : PySem.W.keepIn K (.ref a_place_cost) = true)
    (l_edge_cost : K.lookup a_edge_cost = some ⟨oc_edge_cost, od_edge_cost, .func (PySem.W.fnOf "edge_cost" "edge_cost" (defArgs s_edge_cost) (defBody s_edge_cost) (defScope s_edge_cost) .none kV_edge_cost dc_edge_cost pm_edge_cost an_edge_cost cd_edge_cost ct_edge_cost), sl_edge_cost⟩)
    (c_edge_cost : PySem.W.codeIn K cd_edge_cost "edge_cost" = true)
    (k_edge_cost : PySem.W.keepIn K (.ref a_edge_cost) = true)
    (l__law_cell : K.lookup a__law_cell = some ⟨oc__law_cell, od__law_cell, .func (PySem.W.fnOf "_law_cell" "_law_cell" (defArgs s__law_cell) (defBody s__law_cell) (defScope s__law_cell) .none kV__law_cell dc__law_cell pm__law_cell an__law_cell cd__law_cell ct__law_cell), sl__law_cell⟩)
    (c__law_cell : PySem.W.codeIn K cd__law_cell "_law_cell" = true)
    (k__law_cell : PySem.W.keepIn K (.ref a__law_cell) = true)
    (l__law_mixed : K.lookup a__law_mixed = some ⟨oc__law_mixed, od__law_mixed, .func (PySem.W.fnOf "_law_mixed" "_law_mixed" (defArgs s__law_mixed) (defBody s__law_mixed) (defScope s__law_mixed) .none kV__law_mixed dc__law_mixed pm__law_mixed an__law_mixed cd__law_mixed ct__law_mixed), sl__law_mixed⟩)
    (c__law_mixed : PySem.W.codeIn K cd__law_mixed "_law_mixed" = true)
    (k__law_mixed : PySem.W.keepIn K (.ref a__law_mixed) = true)
    (l__law_rich : K.lookup a__law_rich = some ⟨oc__law_rich, od__law_rich, .func (PySem.W.fnOf "_law_rich" "_law_rich" (defArgs s__law_rich) (defBody s__law_rich) (defScope s__law_rich) .none kV__law_rich dc__law_rich pm__law_rich an__law_rich cd__law_rich ct__law_rich), sl__law_rich⟩)
    (c__law_rich : PySem.W.codeIn K cd__law_rich "_law_rich" = true)
    (k__law_rich : PySem.W.keepIn K (.ref a__law_rich) = true)
    (l__law_wide : K.lookup a__law_wide = some ⟨oc__law_wide, od__law_wide, .func (PySem.W.fnOf "_law_wide" "_law_wide" (defArgs s__law_wide) (defBody s__law_wide) (defScope s__law_wide) .none kV__law_wide dc__law_wide pm__law_wide an__law_wide cd__law_wide ct__law_wide), sl__law_wide⟩)
    (c__law_wide : PySem.W.codeIn K cd__law_wide "_law_wide" = true)
    (k__law_wide : PySem.W.keepIn K (.ref a__law_wide) = true)
    (l__law_shape : K.lookup a__law_shape = some ⟨oc__law_shape, od__law_shape, .func (PySem.W.fnOf "_law_shape" "_law_shape" (defArgs s__law_shape) (defBody s__law_shape) (defScope s__law_shape) .none kV__law_shape dc__law_shape pm__law_shape an__law_shape cd__law_shape ct__law_shape), sl__law_shape⟩)
    (c__law_shape : PySem.W.codeIn K cd__law_shape "_law_shape" = true)
    (k__law_shape : PySem.W.keepIn K (.ref a__law_shape) = true)
    (l__law_costs : K.lookup a__law_costs = some ⟨oc__law_costs, od__law_costs, .func (PySem.W.fnOf "_law_costs" "_law_costs" (defArgs s__law_costs) (defBody s__law_costs) (defScope s__law_costs) .none kV__law_costs dc__law_costs pm__law_costs an__law_costs cd__law_costs ct__law_costs), sl__law_costs⟩)
    (c__law_costs : PySem.W.codeIn K cd__law_costs "_law_costs" = true)
    (k__law_costs : PySem.W.keepIn K (.ref a__law_costs) = true)
    (l__law_base : K.lookup a__law_base = some ⟨oc__law_base, od__law_base, .func (PySem.W.fnOf "_law_base" "_law_base" (defArgs s__law_base) (defBody s__law_base) (defScope s__law_base) .none kV__law_base dc__law_base pm__law_base an__law_base cd__law_base ct__law_base), sl__law_base⟩)
    (c__law_base : PySem.W.codeIn K cd__law_base "_law_base" = true)
    (k__law_base : PySem.W.keepIn K (.ref a__law_base) = true)
    (l__law_data_lines : K.lookup a__law_data_lines = some ⟨oc__law_data_lines, od__law_data_lines, .func (PySem.W.fnOf "_law_data_lines" "_law_data_lines" (defArgs s__law_data_lines) (defBody s__law_data_lines) (defScope s__law_data_lines) .none kV__law_data_lines dc__law_data_lines pm__law_data_lines an__law_data_lines cd__law_data_lines ct__law_data_lines), sl__law_data_lines⟩)
    (c__law_data_lines : PySem.W.codeIn K cd__law_data_lines "_law_data_lines" = true)
    (k__law_data_lines : PySem.W.keepIn K (.ref a__law_data_lines) = true)
    (l__law_aged : K.lookup a__law_aged = some ⟨oc__law_aged, od__law_aged, .func (PySem.W.fnOf "_law_aged" "_law_aged" (defArgs s__law_aged) (defBody s__law_aged) (defScope s__law_aged) .none kV__law_aged dc__law_aged pm__law_aged an__law_aged cd__law_aged ct__law_aged), sl__law_aged⟩)
    (c__law_aged : PySem.W.codeIn K cd__law_aged "_law_aged" = true)
    (k__law_aged : PySem.W.keepIn K (.ref a__law_aged) = true)
    (l__law_used : K.lookup a__law_used = some ⟨oc__law_used, od__law_used, .func (PySem.W.fnOf "_law_used" "_law_used" (defArgs s__law_used) (defBody s__law_used) (defScope s__law_used) .none kV__law_used dc__law_used pm__law_used an__law_used cd__law_used ct__law_used), sl__law_used⟩)
    (c__law_used : PySem.W.codeIn K cd__law_used "_law_used" = true)
    (k__law_used : PySem.W.keepIn K (.ref a__law_used) = true)
    (l__law_after : K.lookup a__law_after = some ⟨oc__law_after, od__law_after, .func (PySem.W.fnOf "_law_after" "_law_after" (defArgs s__law_after) (defBody s__law_after) (defScope s__law_after) .none kV__law_after dc__law_after pm__law_after an__law_after cd__law_after ct__law_after), sl__law_after⟩)
    (c__law_after : PySem.W.codeIn K cd__law_after "_law_after" = true)
    (k__law_after : PySem.W.keepIn K (.ref a__law_after) = true)
    (l__law_hits : K.lookup a__law_hits = some ⟨oc__law_hits, od__law_hits, .func (PySem.W.fnOf "_law_hits" "_law_hits" (defArgs s__law_hits) (defBody s__law_hits) (defScope s__law_hits) .none kV__law_hits dc__law_hits pm__law_hits an__law_hits cd__law_hits ct__law_hits), sl__law_hits⟩)
    (c__law_hits : PySem.W.codeIn K cd__law_hits "_law_hits" = true)
    (k__law_hits : PySem.W.keepIn K (.ref a__law_hits) = true)
    (l__law_instruction : K.lookup a__law_instruction = some ⟨oc__law_instruction, od__law_instruction, .func (PySem.W.fnOf "_law_instruction" "_law_instruction" (defArgs s__law_instruction) (defBody s__law_instruction) (defScope s__law_instruction) .none kV__law_instruction dc__law_instruction pm__law_instruction an__law_instruction cd__law_instruction ct__law_instruction), sl__law_instruction⟩)
    (c__law_instruction : PySem.W.codeIn K cd__law_instruction "_law_instruction" = true)
    (k__law_instruction : PySem.W.keepIn K (.ref a__law_instruction) = true)
    (l__law_known : K.lookup a__law_known = some ⟨oc__law_known, od__law_known, .func (PySem.W.fnOf "_law_known" "_law_known" (defArgs s__law_known) (defBody s__law_known) (defScope s__law_known) .none kV__law_known dc__law_known pm__law_known an__law_known cd__law_known ct__law_known), sl__law_known⟩)
    (c__law_known : PySem.W.codeIn K cd__law_known "_law_known" = true)
    (k__law_known : PySem.W.keepIn K (.ref a__law_known) = true)
    (l__law_due_cost : K.lookup a__law_due_cost = some ⟨oc__law_due_cost, od__law_due_cost, .func (PySem.W.fnOf "_law_due_cost" "_law_due_cost" (defArgs s__law_due_cost) (defBody s__law_due_cost) (defScope s__law_due_cost) .none kV__law_due_cost dc__law_due_cost pm__law_due_cost an__law_due_cost cd__law_due_cost ct__law_due_cost), sl__law_due_cost⟩)
    (c__law_due_cost : PySem.W.codeIn K cd__law_due_cost "_law_due_cost" = true)
    (k__law_due_cost : PySem.W.keepIn K (.ref a__law_due_cost) = true)
    (l__law_edges_right : K.lookup a__law_edges_right = some ⟨oc__law_edges_right, od__law_edges_right, .func (PySem.W.fnOf "_law_edges_right" "_law_edges_right" (defArgs s__law_edges_right) (defBody s__law_edges_right) (defScope s__law_edges_right) .none kV__law_edges_right dc__law_edges_right pm__law_edges_right an__law_edges_right cd__law_edges_right ct__law_edges_right), sl__law_edges_right⟩)
    (c__law_edges_right : PySem.W.codeIn K cd__law_edges_right "_law_edges_right" = true)
    (k__law_edges_right : PySem.W.keepIn K (.ref a__law_edges_right) = true)
    (l_law : K.lookup a_law = some ⟨oc_law, od_law, .func (PySem.W.fnOf "law" "law" (defArgs s_law) (defBody s_law) (defScope s_law) .none kV_law dc_law pm_law an_law cd_law ct_law), sl_law⟩)
    (c_law : PySem.W.codeIn K cd_law "law" = true)
    (k_law : PySem.W.keepIn K (.ref a_law) = true)
    (kpg_Costs : PySem.W.plainGet K C_Costs Str.empty = true)
    (khd_Costs : PySem.W.hasDictIn K C_Costs = true)
    (kpo_Costs : PySem.W.plainOver K C_Costs = true)
    (ksa_Costs : PySem.W.findIn K (.ref C_Costs) "__setattr__" = some (some (.builtin "object.__setattr__")))
    (kmk_Costs : PySem.W.makesIn K C_Costs = true)
    (kkc_Costs : PySem.W.keepIn K (.ref C_Costs) = true)
    (kn_Costs_count : PySem.W.findIn K (.ref C_Costs) "count" = some none)
    (kn_Costs_div : PySem.W.findIn K (.ref C_Costs) "div" = some none)
    (kn_Costs_enter : PySem.W.findIn K (.ref C_Costs) "enter" = some none)
    (kn_Costs_fetch_hit : PySem.W.findIn K (.ref C_Costs) "fetch_hit" = some none)
    (kn_Costs_fetch_miss : PySem.W.findIn K (.ref C_Costs) "fetch_miss" = some none)
    (kn_Costs_finish : PySem.W.findIn K (.ref C_Costs) "finish" = some none)
    (kn_Costs_leave : PySem.W.findIn K (.ref C_Costs) "leave" = some none)
    (kn_Costs_load_hit : PySem.W.findIn K (.ref C_Costs) "load_hit" = some none)
    (kn_Costs_load_miss : PySem.W.findIn K (.ref C_Costs) "load_miss" = some none)
    (kn_Costs_mul : PySem.W.findIn K (.ref C_Costs) "mul" = some none)
    (kn_Costs_plain : PySem.W.findIn K (.ref C_Costs) "plain" = some none)
    (kn_Costs_port : PySem.W.findIn K (.ref C_Costs) "port" = some none)
    (kn_Costs_release : PySem.W.findIn K (.ref C_Costs) "release" = some none)
    (kn_Costs_store : PySem.W.findIn K (.ref C_Costs) "store" = some none)
    (kn_Costs_switch : PySem.W.findIn K (.ref C_Costs) "switch" = some none)
    (kn_Costs_taken : PySem.W.findIn K (.ref C_Costs) "taken" = some none)
    (zs_super : PySem.W.nsIn K mainGlobals "super" = some none)
    (zt_third : PySem.W.nsIn K PySem.cStatics "thirdparty.any" = some none)
    (zq_top : (List.lookup (PySem.Str.ofString "super") P.main.scope.names).isSome = false)
    (xl_PlanError : K.lookup C_PlanError = some (excClassObj nm_PlanError q_PlanError C_PlanError N_PlanError bs_PlanError bm_PlanError true sn_PlanError sub_PlanError ab_PlanError col_PlanError dd_PlanError m0_PlanError m1_PlanError m2_PlanError m3_PlanError m5_PlanError "ValueError.__new__"))
    (xb_PlanError : PySem.HandSPX.refsVE bm_PlanError = true)
    (xi_PlanError : PySem.W.excInitIn K C_PlanError PySem.HandSPX.veTail "ValueError.__new__" = true)
    (xs_PlanError : PySem.W.ks_superIn K C_PlanError C_PlanError "__init__" = some (some (.builtin "ValueError.__init__")))
    (xv_PlanError : PySem.W.subIn K (.ref C_PlanError) (.type "ValueError") = some true)
    (xm_PlanError : PySem.W.mroIn K C_PlanError (.ref C_PlanError) = some true)
    (xo_PlanError : PySem.W.mroIn K C_PlanError (.type "object") = some true)
    (xa_PlanError : PySem.W.findIn K (.ref C_PlanError) "__setattr__" = some (some (.builtin "object.__setattr__")))
    (xg_PlanError : PySem.W.findIn K (.ref C_PlanError) "__getattribute__" = some (some (.builtin "BaseException.__getattribute__")))
    (xh_PlanError : PySem.W.findIn K (.ref C_PlanError) "__getattr__" = some none)
    (xn_PlanError : PySem.W.findIn K (.ref C_PlanError) "at" = some none)
    (xc_PlanError : PySem.W.findIn K (.ref C_PlanError) "__class__" = some (some (.builtin "object.__class__")))
    (xf_PlanError : PySem.W.findIn K (.ref C_PlanError) "__init__" = some (some (.ref f_PlanError)))
    (xt_PlanError : PySem.W.typeIn K (.ref f_PlanError) = some (.type "function"))
    (xk_PlanError : PySem.W.keepIn K (.ref C_PlanError) = true)
    (xe_PlanError : PySem.W.subIn K (.ref C_PlanError) (.type "BaseException") = some true)
    (xy_PlanError : PySem.W.typeIn K (.ref C_PlanError) = some (.type "type"))
    (xd_PlanError : PySem.W.hasDictIn K C_PlanError = true)
    (xu_PlanError : PySem.W.isClsIn K C_PlanError = true)
    (xw_PlanError : PySem.W.subIn K (.ref C_PlanError) (.ref C_PlanError) = some true)
    (xp_PlanError : PySem.W.specialIn K (.builtin "object.__class__") "__get__" = some (some (.builtin "getset_descriptor.__get__")))
    (xq_PlanError : PySem.W.takesIn K (.builtin "object.__class__") = some true)
    (l_PlanError : K.lookup f_PlanError = some ⟨oc_PlanError, od_PlanError, .func (PySem.W.ksFn "__init__" "PlanError.__init__" (PySem.Errs.eA "at" ⟨19, 17, 19, 21⟩ ⟨19, 23, 19, 25⟩) (PySem.Errs.eB "at" parts_PlanError ⟨20, 25, 20, 47⟩ ⟨20, 8, 20, 13⟩ ⟨20, 8, 20, 15⟩ ⟨20, 8, 20, 24⟩ ⟨20, 8, 20, 48⟩ ⟨20, 8, 20, 48⟩ ⟨21, 8, 21, 12⟩ ⟨21, 8, 21, 15⟩ ⟨21, 18, 21, 20⟩ ⟨21, 8, 21, 20⟩) (PySem.Errs.eS "at" [("decimal", .globalImplicit)]) .none .none dc_PlanError pm_PlanError an_PlanError (.ref cda_PlanError) ct_PlanError cc_PlanError), osl_PlanError⟩)
    (d_PlanError : K.lookup cda_PlanError = some ⟨ccl_PlanError, cdd_PlanError, .fields vs_PlanError, ccs_PlanError⟩)
    (e_PlanError : vs_PlanError[1]? = some (.str "PlanError.__init__" tq_PlanError))
    (g_PlanError : vs_PlanError[2]? = some (.str file_PlanError tf_PlanError))
    (h_PlanError : (P.main.file == file_PlanError) = true)
    (i_PlanError : K.lookup cc_PlanError = some ⟨cl_PlanError, cld_PlanError, .cell (some (.ref C_PlanError)), csl_PlanError⟩)
    (z_str : PySem.W.nsIn K mainGlobals "str" = some none)
    (z_divmod : PySem.W.nsIn K mainGlobals "divmod" = some none)
    (z_abs : PySem.W.nsIn K mainGlobals "abs" = some none)
    (z_set : PySem.W.nsIn K mainGlobals "set" = some none)
    (z_len : PySem.W.nsIn K mainGlobals "len" = some none)
    (z_list : PySem.W.nsIn K mainGlobals "list" = some none)
    (z_range : PySem.W.nsIn K mainGlobals "range" = some none)
    (z_dict : PySem.W.nsIn K mainGlobals "dict" = some none)
    (z_all : PySem.W.nsIn K mainGlobals "all" = some none)
    (z_int : PySem.W.nsIn K mainGlobals "int" = some none)
    (z_min : PySem.W.nsIn K mainGlobals "min" = some none)
    (z_repr : PySem.W.nsIn K mainGlobals "repr" = some none)
    (z_bool : PySem.W.nsIn K mainGlobals "bool" = some none)
    (z_isinstance : PySem.W.nsIn K mainGlobals "isinstance" = some none)
    (z_tuple : PySem.W.nsIn K mainGlobals "tuple" = some none)
    (v_PIECE : PySem.W.nsIn K mainGlobals "PIECE" = some (some (.int 1000000000000000000 t_PIECE)))
    (v_PIECE_DIGITS : PySem.W.nsIn K mainGlobals "PIECE_DIGITS" = some (some (.int 18 t_PIECE_DIGITS)))
    (v_STORES : PySem.W.nsIn K mainGlobals "STORES" = some (some (.ref p_STORES)))
    (w_STORES : K.lookup p_STORES = some ⟨.type "tuple", none, .seq us_STORES n_STORES, sl_STORES⟩)
    (y_STORES : Vals [.str "store", .str "storex"] us_STORES.toList)
    (v_LOADS : PySem.W.nsIn K mainGlobals "LOADS" = some (some (.ref p_LOADS)))
    (w_LOADS : K.lookup p_LOADS = some ⟨.type "tuple", none, .seq us_LOADS n_LOADS, sl_LOADS⟩)
    (y_LOADS : Vals [.str "load", .str "loadx"] us_LOADS.toList)
    (v_GREATEST_COST : PySem.W.nsIn K mainGlobals "GREATEST_COST" = some (some (.int 64 t_GREATEST_COST)))
    (v_TAKEN_AT_TIMES : PySem.W.nsIn K mainGlobals "TAKEN_AT_TIMES" = some (some (.ref p_TAKEN_AT_TIMES)))
    (w_TAKEN_AT_TIMES : K.lookup p_TAKEN_AT_TIMES = some ⟨.type "tuple", none, .seq us_TAKEN_AT_TIMES n_TAKEN_AT_TIMES, sl_TAKEN_AT_TIMES⟩)
    (y_TAKEN_AT_TIMES : Vals [.str "jzero", .str "again"] us_TAKEN_AT_TIMES.toList)
    (v_ALWAYS_TAKEN : PySem.W.nsIn K mainGlobals "ALWAYS_TAKEN" = some (some (.ref p_ALWAYS_TAKEN)))
    (w_ALWAYS_TAKEN : K.lookup p_ALWAYS_TAKEN = some ⟨.type "tuple", none, .seq us_ALWAYS_TAKEN n_ALWAYS_TAKEN, sl_ALWAYS_TAKEN⟩)
    (y_ALWAYS_TAKEN : Vals [.str "jump", .str "link", .str "back"] us_ALWAYS_TAKEN.toList) :
    Top P K mg :=
  { a_decimal := a_decimal,
    d_decimal := _,
    F_decimal := fun_mk (st := s_decimal) l_decimal c_decimal k_decimal,
    g_decimal := PySem.W.mg_of X G n_decimal,
    b_decimal := (fun_mk (st := s_decimal) l_decimal c_decimal k_decimal).binds (ps := ["n"]) fun _ _ _ _ _ _ us hl => match us, hl with | [_], _ => rfl,
    a_use_line := a_use_line,
    d_use_line := _,
    F_use_line := fun_mk (st := s_use_line) l_use_line c_use_line k_use_line,
    g_use_line := PySem.W.mg_of X G n_use_line,
    b_use_line := (fun_mk (st := s_use_line) l_use_line c_use_line k_use_line).binds (ps := ["shape", "known", "number"]) fun _ _ _ _ _ _ us hl => match us, hl with | [_, _, _], _ => rfl,
    a_use_some := a_use_some,
    d_use_some := _,
    F_use_some := fun_mk (st := s_use_some) l_use_some c_use_some k_use_some,
    g_use_some := PySem.W.mg_of X G n_use_some,
    b_use_some := (fun_mk (st := s_use_some) l_use_some c_use_some k_use_some).binds (ps := ["shape", "known", "numbers"]) fun _ _ _ _ _ _ us hl => match us, hl with | [_, _, _], _ => rfl,
    a__older := a__older,
    d__older := _,
    F__older := fun_mk (st := s__older) l__older c__older k__older,
    g__older := PySem.W.mg_of X G n__older,
    b__older := (fun_mk (st := s__older) l__older c__older k__older).binds (ps := ["shape", "known", "numbers", "limit"]) fun _ _ _ _ _ _ us hl => match us, hl with | [_, _, _, _], _ => rfl,
    a_data_lines := a_data_lines,
    d_data_lines := _,
    F_data_lines := fun_mk (st := s_data_lines) l_data_lines c_data_lines k_data_lines,
    g_data_lines := PySem.W.mg_of X G n_data_lines,
    b_data_lines := (fun_mk (st := s_data_lines) l_data_lines c_data_lines k_data_lines).binds (ps := ["shape", "instruction"]) fun _ _ _ _ _ _ us hl => match us, hl with | [_, _], _ => rfl,
    a_after := a_after,
    d_after := _,
    F_after := fun_mk (st := s_after) l_after c_after k_after,
    g_after := PySem.W.mg_of X G n_after,
    b_after := (fun_mk (st := s_after) l_after c_after k_after).binds (ps := ["processor", "code", "p", "known_code", "known_data"]) fun _ _ _ _ _ _ us hl => match us, hl with | [_, _, _, _, _], _ => rfl,
    a__data_after := a__data_after,
    d__data_after := _,
    F__data_after := fun_mk (st := s__data_after) l__data_after c__data_after k__data_after,
    g__data_after := PySem.W.mg_of X G n__data_after,
    b__data_after := (fun_mk (st := s__data_after) l__data_after c__data_after k__data_after).binds (ps := ["shape", "instruction", "known"]) fun _ _ _ _ _ _ us hl => match us, hl with | [_, _, _], _ => rfl,
    a_hits := a_hits,
    d_hits := _,
    F_hits := fun_mk (st := s_hits) l_hits c_hits k_hits,
    g_hits := PySem.W.mg_of X G n_hits,
    b_hits := (fun_mk (st := s_hits) l_hits c_hits k_hits).binds (ps := ["processor", "code", "p", "known_code", "known_data"]) fun _ _ _ _ _ _ us hl => match us, hl with | [_, _, _, _, _], _ => rfl,
    a_Costs_init := a_Costs_init,
    d_Costs_init := _,
    F_Costs_init := ⟨⟨_, _, _, _, _, _, _, _, _, _, rfl, l_Costs_init, c_Costs_init, .inl ⟨rfl, rfl⟩, .inr ⟨_, rfl, List.forall_mem_cons.mpr ⟨⟨_, kw_Costs_init_fetch_hit, ⟨_, rfl⟩⟩, List.forall_mem_cons.mpr ⟨⟨_, kw_Costs_init_fetch_miss, ⟨_, rfl⟩⟩, List.forall_mem_cons.mpr ⟨⟨_, kw_Costs_init_plain, ⟨_, rfl⟩⟩, List.forall_mem_cons.mpr ⟨⟨_, kw_Costs_init_mul, ⟨_, rfl⟩⟩, List.forall_mem_cons.mpr ⟨⟨_, kw_Costs_init_div, ⟨_, rfl⟩⟩, List.forall_mem_cons.mpr ⟨⟨_, kw_Costs_init_load_hit, ⟨_, rfl⟩⟩, List.forall_mem_cons.mpr ⟨⟨_, kw_Costs_init_load_miss, ⟨_, rfl⟩⟩, List.forall_mem_cons.mpr ⟨⟨_, kw_Costs_init_store, ⟨_, rfl⟩⟩, List.forall_mem_cons.mpr ⟨⟨_, kw_Costs_init_taken, ⟨_, rfl⟩⟩, List.forall_mem_cons.mpr ⟨⟨_, kw_Costs_init_count, ⟨_, rfl⟩⟩, List.forall_mem_cons.mpr ⟨⟨_, kw_Costs_init_port, ⟨_, rfl⟩⟩, List.forall_mem_cons.mpr ⟨⟨_, kw_Costs_init_release, ⟨_, rfl⟩⟩, List.forall_mem_cons.mpr ⟨⟨_, kw_Costs_init_switch, ⟨_, rfl⟩⟩, List.forall_mem_cons.mpr ⟨⟨_, kw_Costs_init_enter, ⟨_, rfl⟩⟩, List.forall_mem_cons.mpr ⟨⟨_, kw_Costs_init_leave, ⟨_, rfl⟩⟩, List.forall_mem_cons.mpr ⟨⟨_, kw_Costs_init_finish, ⟨_, rfl⟩⟩, fun _ h => nomatch h⟩⟩⟩⟩⟩⟩⟩⟩⟩⟩⟩⟩⟩⟩⟩⟩⟩⟩, k_Costs_init⟩,
    M_Costs := ⟨kmk_Costs, fi_Costs_init, fn_Costs_init, kkc_Costs⟩,
    a__check_costs := a__check_costs,
    d__check_costs := _,
    F__check_costs := fun_mk (st := s__check_costs) l__check_costs c__check_costs k__check_costs,
    g__check_costs := PySem.W.mg_of X G n__check_costs,
    b__check_costs := (fun_mk (st := s__check_costs) l__check_costs c__check_costs k__check_costs).binds (ps := ["costs", "least"]) fun _ _ _ _ _ _ us hl => match us, hl with | [_, _], _ => rfl,
    a__check_miss := a__check_miss,
    d__check_miss := _,
    F__check_miss := fun_mk (st := s__check_miss) l__check_miss c__check_miss k__check_miss,
    g__check_miss := PySem.W.mg_of X G n__check_miss,
    b__check_miss := (fun_mk (st := s__check_miss) l__check_miss c__check_miss k__check_miss).binds (ps := ["hit", "miss"]) fun _ _ _ _ _ _ us hl => match us, hl with | [_, _], _ => rfl,
    a_instruction_cost := a_instruction_cost,
    d_instruction_cost := _,
    F_instruction_cost := ⟨⟨_, _, _, _, _, _, _, _, _, _, rfl, l_instruction_cost, c_instruction_cost, .inl ⟨rfl, rfl⟩, .inr ⟨_, rfl, List.forall_mem_cons.mpr ⟨⟨_, kw_instruction_cost_load_hit, rfl⟩, List.forall_mem_cons.mpr ⟨⟨_, kw_instruction_cost_taken, rfl⟩, fun _ h => nomatch h⟩⟩⟩⟩, k_instruction_cost⟩,
    g_instruction_cost := PySem.W.mg_of X G n_instruction_cost,
    a__execution_cost := a__execution_cost,
    d__execution_cost := _,
    F__execution_cost := fun_mk (st := s__execution_cost) l__execution_cost c__execution_cost k__execution_cost,
    g__execution_cost := PySem.W.mg_of X G n__execution_cost,
    b__execution_cost := (fun_mk (st := s__execution_cost) l__execution_cost c__execution_cost k__execution_cost).binds (ps := ["costs", "instruction", "load_hit"]) fun _ _ _ _ _ _ us hl => match us, hl with | [_, _, _], _ => rfl,
    a__calculation_cost := a__calculation_cost,
    d__calculation_cost := _,
    F__calculation_cost := fun_mk (st := s__calculation_cost) l__calculation_cost c__calculation_cost k__calculation_cost,
    g__calculation_cost := PySem.W.mg_of X G n__calculation_cost,
    b__calculation_cost := (fun_mk (st := s__calculation_cost) l__calculation_cost c__calculation_cost k__calculation_cost).binds (ps := ["costs", "operation"]) fun _ _ _ _ _ _ us hl => match us, hl with | [_, _], _ => rfl,
    a_place_cost := a_place_cost,
    d_place_cost := _,
    F_place_cost := fun_mk (st := s_place_cost) l_place_cost c_place_cost k_place_cost,
    g_place_cost := PySem.W.mg_of X G n_place_cost,
    b_place_cost := (fun_mk (st := s_place_cost) l_place_cost c_place_cost k_place_cost).binds (ps := ["processor", "code", "p", "known_code", "known_data", "called"]) fun _ _ _ _ _ _ us hl => match us, hl with | [_, _, _, _, _, _], _ => rfl,
    a_edge_cost := a_edge_cost,
    d_edge_cost := _,
    F_edge_cost := fun_mk (st := s_edge_cost) l_edge_cost c_edge_cost k_edge_cost,
    g_edge_cost := PySem.W.mg_of X G n_edge_cost,
    b_edge_cost := (fun_mk (st := s_edge_cost) l_edge_cost c_edge_cost k_edge_cost).binds (ps := ["processor", "code", "p", "q"]) fun _ _ _ _ _ _ us hl => match us, hl with | [_, _, _, _], _ => rfl,
    a__law_cell := a__law_cell,
    d__law_cell := _,
    F__law_cell := fun_mk (st := s__law_cell) l__law_cell c__law_cell k__law_cell,
    g__law_cell := PySem.W.mg_of X G n__law_cell,
    b__law_cell := (fun_mk (st := s__law_cell) l__law_cell c__law_cell k__law_cell).binds (ps := ["_law_script", "_law_k"]) fun _ _ _ _ _ _ us hl => match us, hl with | [_, _], _ => rfl,
    a__law_mixed := a__law_mixed,
    d__law_mixed := _,
    F__law_mixed := fun_mk (st := s__law_mixed) l__law_mixed c__law_mixed k__law_mixed,
    g__law_mixed := PySem.W.mg_of X G n__law_mixed,
    b__law_mixed := (fun_mk (st := s__law_mixed) l__law_mixed c__law_mixed k__law_mixed).binds (ps := ["_law_seed", "_law_k"]) fun _ _ _ _ _ _ us hl => match us, hl with | [_, _], _ => rfl,
    a__law_rich := a__law_rich,
    d__law_rich := _,
    F__law_rich := fun_mk (st := s__law_rich) l__law_rich c__law_rich k__law_rich,
    g__law_rich := PySem.W.mg_of X G n__law_rich,
    b__law_rich := (fun_mk (st := s__law_rich) l__law_rich c__law_rich k__law_rich).binds (ps := ["_law_cell_here", "_law_k"]) fun _ _ _ _ _ _ us hl => match us, hl with | [_, _], _ => rfl,
    a__law_wide := a__law_wide,
    d__law_wide := _,
    F__law_wide := fun_mk (st := s__law_wide) l__law_wide c__law_wide k__law_wide,
    g__law_wide := PySem.W.mg_of X G n__law_wide,
    b__law_wide := (fun_mk (st := s__law_wide) l__law_wide c__law_wide k__law_wide).binds (ps := ["_law_script", "_law_k"]) fun _ _ _ _ _ _ us hl => match us, hl with | [_, _], _ => rfl,
    a__law_shape := a__law_shape,
    d__law_shape := _,
    F__law_shape := fun_mk (st := s__law_shape) l__law_shape c__law_shape k__law_shape,
    g__law_shape := PySem.W.mg_of X G n__law_shape,
    b__law_shape := (fun_mk (st := s__law_shape) l__law_shape c__law_shape k__law_shape).binds (ps := ["_law_cell_here"]) fun _ _ _ _ _ _ us hl => match us, hl with | [_], _ => rfl,
    a__law_costs := a__law_costs,
    d__law_costs := _,
    F__law_costs := fun_mk (st := s__law_costs) l__law_costs c__law_costs k__law_costs,
    g__law_costs := PySem.W.mg_of X G n__law_costs,
    b__law_costs := (fun_mk (st := s__law_costs) l__law_costs c__law_costs k__law_costs).binds (ps := ["_law_cell_here"]) fun _ _ _ _ _ _ us hl => match us, hl with | [_], _ => rfl,
    a__law_base := a__law_base,
    d__law_base := _,
    F__law_base := fun_mk (st := s__law_base) l__law_base c__law_base k__law_base,
    g__law_base := PySem.W.mg_of X G n__law_base,
    b__law_base := (fun_mk (st := s__law_base) l__law_base c__law_base k__law_base).binds (ps := ["_law_costs_here", "_law_instruction_here", "_law_hit"]) fun _ _ _ _ _ _ us hl => match us, hl with | [_, _, _], _ => rfl,
    a__law_data_lines := a__law_data_lines,
    d__law_data_lines := _,
    F__law_data_lines := fun_mk (st := s__law_data_lines) l__law_data_lines c__law_data_lines k__law_data_lines,
    g__law_data_lines := PySem.W.mg_of X G n__law_data_lines,
    b__law_data_lines := (fun_mk (st := s__law_data_lines) l__law_data_lines c__law_data_lines k__law_data_lines).binds (ps := ["_law_shape_here", "_law_instruction_here"]) fun _ _ _ _ _ _ us hl => match us, hl with | [_, _], _ => rfl,
    a__law_aged := a__law_aged,
    d__law_aged := _,
    F__law_aged := fun_mk (st := s__law_aged) l__law_aged c__law_aged k__law_aged,
    g__law_aged := PySem.W.mg_of X G n__law_aged,
    b__law_aged := (fun_mk (st := s__law_aged) l__law_aged c__law_aged k__law_aged).binds (ps := ["_law_known_here", "_law_shape_here", "_law_touched", "_law_limit", "_law_without"]) fun _ _ _ _ _ _ us hl => match us, hl with | [_, _, _, _, _], _ => rfl,
    a__law_used := a__law_used,
    d__law_used := _,
    F__law_used := fun_mk (st := s__law_used) l__law_used c__law_used k__law_used,
    g__law_used := PySem.W.mg_of X G n__law_used,
    b__law_used := (fun_mk (st := s__law_used) l__law_used c__law_used k__law_used).binds (ps := ["_law_known_here", "_law_shape_here", "_law_line"]) fun _ _ _ _ _ _ us hl => match us, hl with | [_, _, _], _ => rfl,
    a__law_after := a__law_after,
    d__law_after := _,
    F__law_after := fun_mk (st := s__law_after) l__law_after c__law_after k__law_after,
    g__law_after := PySem.W.mg_of X G n__law_after,
    b__law_after := (fun_mk (st := s__law_after) l__law_after c__law_after k__law_after).binds (ps := ["_law_shapes", "_law_code", "_law_p", "_law_known_here"]) fun _ _ _ _ _ _ us hl => match us, hl with | [_, _, _, _], _ => rfl,
    a__law_hits := a__law_hits,
    d__law_hits := _,
    F__law_hits := fun_mk (st := s__law_hits) l__law_hits c__law_hits k__law_hits,
    g__law_hits := PySem.W.mg_of X G n__law_hits,
    b__law_hits := (fun_mk (st := s__law_hits) l__law_hits c__law_hits k__law_hits).binds (ps := ["_law_shapes", "_law_code", "_law_p", "_law_known_here"]) fun _ _ _ _ _ _ us hl => match us, hl with | [_, _, _, _], _ => rfl,
    a__law_instruction := a__law_instruction,
    d__law_instruction := _,
    F__law_instruction := fun_mk (st := s__law_instruction) l__law_instruction c__law_instruction k__law_instruction,
    g__law_instruction := PySem.W.mg_of X G n__law_instruction,
    b__law_instruction := (fun_mk (st := s__law_instruction) l__law_instruction c__law_instruction k__law_instruction).binds (ps := ["_law_draw", "_law_p"]) fun _ _ _ _ _ _ us hl => match us, hl with | [_, _], _ => rfl,
    a__law_known := a__law_known,
    d__law_known := _,
    F__law_known := fun_mk (st := s__law_known) l__law_known c__law_known k__law_known,
    g__law_known := PySem.W.mg_of X G n__law_known,
    b__law_known := (fun_mk (st := s__law_known) l__law_known c__law_known k__law_known).binds (ps := ["_law_shape_here", "_law_lines", "_law_seed"]) fun _ _ _ _ _ _ us hl => match us, hl with | [_, _, _], _ => rfl,
    a__law_due_cost := a__law_due_cost,
    d__law_due_cost := _,
    F__law_due_cost := fun_mk (st := s__law_due_cost) l__law_due_cost c__law_due_cost k__law_due_cost,
    g__law_due_cost := PySem.W.mg_of X G n__law_due_cost,
    b__law_due_cost := (fun_mk (st := s__law_due_cost) l__law_due_cost c__law_due_cost k__law_due_cost).binds (ps := ["_law_shapes", "_law_costs_here", "_law_code", "_law_p", "_law_known_here", "_law_called"]) fun _ _ _ _ _ _ us hl => match us, hl with | [_, _, _, _, _, _], _ => rfl,
    a__law_edges_right := a__law_edges_right,
    d__law_edges_right := _,
    F__law_edges_right := fun_mk (st := s__law_edges_right) l__law_edges_right c__law_edges_right k__law_edges_right,
    g__law_edges_right := PySem.W.mg_of X G n__law_edges_right,
    b__law_edges_right := (fun_mk (st := s__law_edges_right) l__law_edges_right c__law_edges_right k__law_edges_right).binds (ps := ["_law_processor", "_law_code", "_law_p"]) fun _ _ _ _ _ _ us hl => match us, hl with | [_, _, _], _ => rfl,
    a_law := a_law,
    d_law := _,
    F_law := fun_mk (st := s_law) l_law c_law k_law,
    g_law := PySem.W.mg_of X G n_law,
    b_law := (fun_mk (st := s_law) l_law c_law k_law).binds (ps := ["_law_script"]) fun _ _ _ _ _ _ us hl => match us, hl with | [_], _ => rfl,
    C_Costs := C_Costs,
    gc_Costs := PySem.W.mg_of X G nc_Costs,
    cl_Costs := ⟨kpg_Costs, khd_Costs, kpo_Costs, ksa_Costs⟩,
    n_Costs_count := kn_Costs_count,
    n_Costs_div := kn_Costs_div,
    n_Costs_enter := kn_Costs_enter,
    n_Costs_fetch_hit := kn_Costs_fetch_hit,
    n_Costs_fetch_miss := kn_Costs_fetch_miss,
    n_Costs_finish := kn_Costs_finish,
    n_Costs_leave := kn_Costs_leave,
    n_Costs_load_hit := kn_Costs_load_hit,
    n_Costs_load_miss := kn_Costs_load_miss,
    n_Costs_mul := kn_Costs_mul,
    n_Costs_plain := kn_Costs_plain,
    n_Costs_port := kn_Costs_port,
    n_Costs_release := kn_Costs_release,
    n_Costs_store := kn_Costs_store,
    n_Costs_switch := kn_Costs_switch,
    n_Costs_taken := kn_Costs_taken,
    C_PlanError := C_PlanError,
    gc_PlanError := PySem.W.mg_of X G nc_PlanError,
    f_PlanError := f_PlanError,
    x_PlanError := { gC := PySem.W.mg_of X G nc_PlanError, noSuper := PySem.W.mg_none_of X G zs_super, noTop := zq_top, cls := ⟨_, _, _, _, _, _, _, _, _, _, _, _, _, _, _, xl_PlanError, xb_PlanError⟩, ini := xi_PlanError, sup := xs_PlanError, subV := xv_PlanError, mroS := xm_PlanError, third := zt_third, sa := xa_PlanError, ga := xg_PlanError, gg := xh_PlanError, noN := xn_PlanError, iC := xf_PlanError, tC := xt_PlanError, kC := xk_PlanError, exC := xe_PlanError, tyC := xy_PlanError, hdC := xd_PlanError, te := exm_own xe_PlanError xu_PlanError xy_PlanError xw_PlanError, fn := ⟨_, _, _, _, _, _, _, _, _, _, _, _, _, _, _, _, _, _, _, _, _, _, _, _, _, _, _, _, _, _, _, fun _ => ⟨_, rfl⟩, l_PlanError, d_PlanError, e_PlanError, g_PlanError, h_PlanError, i_PlanError⟩ },
    xd_PlanError := ⟨xu_PlanError, xg_PlanError, xh_PlanError, xe_PlanError, xc_PlanError, xp_PlanError, xq_PlanError, xo_PlanError⟩,
    xf_PlanError := ⟨xg_PlanError, xh_PlanError, xe_PlanError, xd_PlanError⟩,
    m_str := PySem.W.mg_none_of X G z_str,
    m_divmod := PySem.W.mg_none_of X G z_divmod,
    m_abs := PySem.W.mg_none_of X G z_abs,
    m_set := PySem.W.mg_none_of X G z_set,
    m_len := PySem.W.mg_none_of X G z_len,
    m_list := PySem.W.mg_none_of X G z_list,
    m_range := PySem.W.mg_none_of X G z_range,
    m_dict := PySem.W.mg_none_of X G z_dict,
    m_all := PySem.W.mg_none_of X G z_all,
    m_int := PySem.W.mg_none_of X G z_int,
    m_min := PySem.W.mg_none_of X G z_min,
    m_repr := PySem.W.mg_none_of X G z_repr,
    m_bool := PySem.W.mg_none_of X G z_bool,
    m_isinstance := PySem.W.mg_none_of X G z_isinstance,
    m_tuple := PySem.W.mg_none_of X G z_tuple,
    t_PIECE := t_PIECE,
    c_PIECE := PySem.W.mg_of X G v_PIECE,
    t_PIECE_DIGITS := t_PIECE_DIGITS,
    c_PIECE_DIGITS := PySem.W.mg_of X G v_PIECE_DIGITS,
    p_STORES := p_STORES,
    c_STORES := PySem.W.mg_of X G v_STORES,
    l_STORES := ⟨_, w_STORES, rfl, rfl⟩,
    q_STORES := fun H => sqT_lit w_STORES y_STORES,
    p_LOADS := p_LOADS,
    c_LOADS := PySem.W.mg_of X G v_LOADS,
    l_LOADS := ⟨_, w_LOADS, rfl, rfl⟩,
    q_LOADS := fun H => sqT_lit w_LOADS y_LOADS,
    t_GREATEST_COST := t_GREATEST_COST,
    c_GREATEST_COST := PySem.W.mg_of X G v_GREATEST_COST,
    p_TAKEN_AT_TIMES := p_TAKEN_AT_TIMES,
    c_TAKEN_AT_TIMES := PySem.W.mg_of X G v_TAKEN_AT_TIMES,
    l_TAKEN_AT_TIMES := ⟨_, w_TAKEN_AT_TIMES, rfl, rfl⟩,
    q_TAKEN_AT_TIMES := fun H => sqT_lit w_TAKEN_AT_TIMES y_TAKEN_AT_TIMES,
    p_ALWAYS_TAKEN := p_ALWAYS_TAKEN,
    c_ALWAYS_TAKEN := PySem.W.mg_of X G v_ALWAYS_TAKEN,
    l_ALWAYS_TAKEN := ⟨_, w_ALWAYS_TAKEN, rfl, rfl⟩,
    q_ALWAYS_TAKEN := fun H => sqT_lit w_ALWAYS_TAKEN y_ALWAYS_TAKEN }
theorem all_mk {l : PySem.W.OpenLaw} {w : World} {K : PySem.W.Frag} {mg : Str → Option Value} {fa : Addr} (T : Top l.prog K mg) (hfa : mg "law" = some (.ref fa)) :
    ∃ fd : FuncData, (∀ (s : Shared) (v : Value), BindsTo s fd ⟨[v], []⟩ [("_law_script", v)]) ∧ ∀ base : Heap, FnG l.prog w K mg base 8 fa fd ["_law_script"] (sp_law K) := by
  have e := hfa.symm.trans T.g_law
  cases e
  refine ⟨T.d_law, fun s v => ?_, fun base => ok_law T⟩
  obtain ⟨oc, od, kV, doc, pm, an, cdv, ct, osl, e, lk, hcd⟩ := T.F_law.ex
  rw [e]
  exact .of_eq rfl
end Mine
open PySem PySem.W PyProof.Rows
set_option maxHeartbeats 0 in
theorem PySem.Challenge.cw_deadbeat_k77_one_instruction_in_the_anal_holds : PySem.Challenge.rw_deadbeat_k77_one_instruction_in_the_anal.Holds := by
  w_on; o_law; k_head; (case hw => w_witness2)
  k_fill
  refine L2.walk_g (l := PySem.Challenge.rw_deadbeat_k77_one_instruction_in_the_anal) (n := 63) (k := 8) (x := "_law_script") (sp := fun w => Mine.sp_law _) rfl (by decide) rfl ⟨rfl, by decide, by decide⟩ (fun w h Y => PySem.W.kIn_of Y) ?F (fun _ _ a ns hl hS => ⟨a, ns, rfl, hS, hl, fun _ => rfl⟩)
  case F =>
    intro w mg fa h KX G hmg
    refine' Mine.all_mk (Mine.top_mk (P := PySem.Challenge.rw_deadbeat_k77_one_instruction_in_the_anal.prog) (w := w) KX G ?n_decimal ?n_use_line ?n_use_some ?n__older ?n_data_lines ?n_after ?n__data_after ?n_hits ?n__check_costs ?n__check_miss ?n_instruction_cost ?n__execution_cost ?n__calculation_cost ?n_place_cost ?n_edge_cost ?n__law_cell ?n__law_mixed ?n__law_rich ?n__law_wide ?n__law_shape ?n__law_costs ?n__law_base ?n__law_data_lines ?n__law_aged ?n__law_used ?n__law_after ?n__law_hits ?n__law_instruction ?n__law_known ?n__law_due_cost ?n__law_edges_right ?n_law ?nc_Costs ?nc_PlanError ?l_decimal ?c_decimal ?k_decimal ?l_use_line ?c_use_line ?k_use_line ?l_use_some ?c_use_some ?k_use_some ?l__older ?c__older ?k__older ?l_data_lines ?c_data_lines ?k_data_lines ?l_after ?c_after ?k_after ?l__data_after ?c__data_after ?k__data_after ?l_hits ?c_hits ?k_hits ?fi_Costs_init ?fn_Costs_init ?l_Costs_init ?kw_Costs_init_fetch_hit ?kw_Costs_init_fetch_miss ?kw_Costs_init_plain ?kw_Costs_init_mul ?kw_Costs_init_div ?kw_Costs_init_load_hit ?kw_Costs_init_load_miss ?kw_Costs_init_store ?kw_Costs_init_taken ?kw_Costs_init_count ?kw_Costs_init_port ?kw_Costs_init_release ?kw_Costs_init_switch ?kw_Costs_init_enter ?kw_Costs_init_leave ?kw_Costs_init_finish ?c_Costs_init ?k_Costs_init ?l__check_costs ?c__check_costs ?k__check_costs ?l__check_miss ?c__check_miss ?k__check_miss ?l_instruction_cost ?kw_instruction_cost_load_hit ?kw_instruction_cost_taken ?c_instruction_cost ?k_instruction_cost ?l__execution_cost ?c__execution_cost ?k__execution_cost ?l__calculation_cost ?c__calculation_cost ?k__calculation_cost ?l_place_cost ?c_place_cost ?k_place_cost ?l_edge_cost ?c_edge_cost ?k_edge_cost ?l__law_cell ?c__law_cell ?k__law_cell ?l__law_mixed ?c__law_mixed ?k__law_mixed ?l__law_rich ?c__law_rich ?k__law_rich ?l__law_wide ?c__law_wide ?k__law_wide ?l__law_shape ?c__law_shape ?k__law_shape ?l__law_costs ?c__law_costs ?k__law_costs ?l__law_base ?c__law_base ?k__law_base ?l__law_data_lines ?c__law_data_lines ?k__law_data_lines ?l__law_aged ?c__law_aged ?k__law_aged ?l__law_used ?c__law_used ?k__law_used ?l__law_after ?c__law_after ?k__law_after ?l__law_hits ?c__law_hits ?k__law_hits ?l__law_instruction ?c__law_instruction ?k__law_instruction ?l__law_known ?c__law_known ?k__law_known ?l__law_due_cost ?c__law_due_cost ?k__law_due_cost ?l__law_edges_right ?c__law_edges_right ?k__law_edges_right ?l_law ?c_law ?k_law ?kpg_Costs ?khd_Costs ?kpo_Costs ?ksa_Costs ?kmk_Costs ?kkc_Costs ?kn_Costs_count ?kn_Costs_div ?kn_Costs_enter ?kn_Costs_fetch_hit ?kn_Costs_fetch_miss ?kn_Costs_finish ?kn_Costs_leave ?kn_Costs_load_hit ?kn_Costs_load_miss ?kn_Costs_mul ?kn_Costs_plain ?kn_Costs_port ?kn_Costs_release ?kn_Costs_store ?kn_Costs_switch ?kn_Costs_taken ?zs_super ?zt_third ?zq_top ?xl_PlanError ?xb_PlanError ?xi_PlanError ?xs_PlanError ?xv_PlanError ?xm_PlanError ?xo_PlanError ?xa_PlanError ?xg_PlanError ?xh_PlanError ?xn_PlanError ?xc_PlanError ?xf_PlanError ?xt_PlanError ?xk_PlanError ?xe_PlanError ?xy_PlanError ?xd_PlanError ?xu_PlanError ?xw_PlanError ?xp_PlanError ?xq_PlanError ?l_PlanError ?d_PlanError ?e_PlanError ?g_PlanError ?h_PlanError ?i_PlanError ?z_str ?z_divmod ?z_abs ?z_set ?z_len ?z_list ?z_range ?z_dict ?z_all ?z_int ?z_min ?z_repr ?z_bool ?z_isinstance ?z_tuple ?v_PIECE ?v_PIECE_DIGITS ?v_STORES ?w_STORES ?y_STORES ?v_LOADS ?w_LOADS ?y_LOADS ?v_GREATEST_COST ?v_TAKEN_AT_TIMES ?w_TAKEN_AT_TIMES ?y_TAKEN_AT_TIMES ?v_ALWAYS_TAKEN ?w_ALWAYS_TAKEN ?y_ALWAYS_TAKEN) hmg
    (case n_decimal => k_is); (case n_use_line => k_is); (case n_use_some => k_is); (case n__older => k_is); (case n_data_lines => k_is); (case n_after => k_is); (case n__data_after => k_is); (case n_hits => k_is); (case n__check_costs => k_is); (case n__check_miss => k_is); (case n_instruction_cost => k_is); (case n__execution_cost => k_is); (case n__calculation_cost => k_is); (case n_place_cost => k_is); (case n_edge_cost => k_is); (case n__law_cell => k_is); (case n__law_mixed => k_is); (case n__law_rich => k_is); (case n__law_wide => k_is); (case n__law_shape => k_is); (case n__law_costs => k_is); (case n__law_base => k_is); (case n__law_data_lines => k_is); (case n__law_aged => k_is); (case n__law_used => k_is); (case n__law_after => k_is); (case n__law_hits => k_is); (case n__law_instruction => k_is); (case n__law_known => k_is); (case n__law_due_cost => k_is); (case n__law_edges_right => k_is); (case n_law => k_is); (case nc_Costs => k_is); (case nc_PlanError => k_is); (case l_decimal => k_is); (case c_decimal => k_is); (case k_decimal => k_is); (case l_use_line => k_is); (case c_use_line => k_is); (case k_use_line => k_is); (case l_use_some => k_is); (case c_use_some => k_is); (case k_use_some => k_is); (case l__older => k_is); (case c__older => k_is); (case k__older => k_is); (case l_data_lines => k_is); (case c_data_lines => k_is); (case k_data_lines => k_is); (case l_after => k_is); (case c_after => k_is); (case k_after => k_is); (case l__data_after => k_is); (case c__data_after => k_is); (case k__data_after => k_is); (case l_hits => k_is); (case c_hits => k_is); (case k_hits => k_is); (case fi_Costs_init => k_is); (case fn_Costs_init => k_is); (case l_Costs_init => k_is); (case kw_Costs_init_fetch_hit => k_is); (case kw_Costs_init_fetch_miss => k_is); (case kw_Costs_init_plain => k_is); (case kw_Costs_init_mul => k_is); (case kw_Costs_init_div => k_is); (case kw_Costs_init_load_hit => k_is); (case kw_Costs_init_load_miss => k_is); (case kw_Costs_init_store => k_is); (case kw_Costs_init_taken => k_is); (case kw_Costs_init_count => k_is); (case kw_Costs_init_port => k_is); (case kw_Costs_init_release => k_is); (case kw_Costs_init_switch => k_is); (case kw_Costs_init_enter => k_is); (case kw_Costs_init_leave => k_is); (case kw_Costs_init_finish => k_is); (case c_Costs_init => k_is); (case k_Costs_init => k_is); (case l__check_costs => k_is); (case c__check_costs => k_is); (case k__check_costs => k_is); (case l__check_miss => k_is); (case c__check_miss => k_is); (case k__check_miss => k_is); (case l_instruction_cost => k_is); (case kw_instruction_cost_load_hit => k_is); (case kw_instruction_cost_taken => k_is); (case c_instruction_cost => k_is); (case k_instruction_cost => k_is); (case l__execution_cost => k_is); (case c__execution_cost => k_is); (case k__execution_cost => k_is); (case l__calculation_cost => k_is); (case c__calculation_cost => k_is); (case k__calculation_cost => k_is); (case l_place_cost => k_is); (case c_place_cost => k_is); (case k_place_cost => k_is); (case l_edge_cost => k_is); (case c_edge_cost => k_is); (case k_edge_cost => k_is); (case l__law_cell => k_is); (case c__law_cell => k_is); (case k__law_cell => k_is); (case l__law_mixed => k_is); (case c__law_mixed => k_is); (case k__law_mixed => k_is); (case l__law_rich => k_is); (case c__law_rich => k_is); (case k__law_rich => k_is); (case l__law_wide => k_is); (case c__law_wide => k_is); (case k__law_wide => k_is); (case l__law_shape => k_is); (case c__law_shape => k_is); (case k__law_shape => k_is); (case l__law_costs => k_is); (case c__law_costs => k_is); (case k__law_costs => k_is); (case l__law_base => k_is); (case c__law_base => k_is); (case k__law_base => k_is); (case l__law_data_lines => k_is); (case c__law_data_lines => k_is); (case k__law_data_lines => k_is); (case l__law_aged => k_is); (case c__law_aged => k_is); (case k__law_aged => k_is); (case l__law_used => k_is); (case c__law_used => k_is); (case k__law_used => k_is); (case l__law_after => k_is); (case c__law_after => k_is); (case k__law_after => k_is); (case l__law_hits => k_is); (case c__law_hits => k_is); (case k__law_hits => k_is); (case l__law_instruction => k_is); (case c__law_instruction => k_is); (case k__law_instruction => k_is); (case l__law_known => k_is); (case c__law_known => k_is); (case k__law_known => k_is); (case l__law_due_cost => k_is); (case c__law_due_cost => k_is); (case k__law_due_cost => k_is); (case l__law_edges_right => k_is); (case c__law_edges_right => k_is); (case k__law_edges_right => k_is); (case l_law => k_is); (case c_law => k_is); (case k_law => k_is); (case kpg_Costs => k_is); (case khd_Costs => k_is); (case kpo_Costs => k_is); (case ksa_Costs => k_is); (case kmk_Costs => k_is); (case kkc_Costs => k_is); (case kn_Costs_count => k_is); (case kn_Costs_div => k_is); (case kn_Costs_enter => k_is); (case kn_Costs_fetch_hit => k_is); (case kn_Costs_fetch_miss => k_is); (case kn_Costs_finish => k_is); (case kn_Costs_leave => k_is); (case kn_Costs_load_hit => k_is); (case kn_Costs_load_miss => k_is); (case kn_Costs_mul => k_is); (case kn_Costs_plain => k_is); (case kn_Costs_port => k_is); (case kn_Costs_release => k_is); (case kn_Costs_store => k_is); (case kn_Costs_switch => k_is); (case kn_Costs_taken => k_is); (case zs_super => k_is); (case zt_third => k_is); (case zq_top => first | rfl | k_is | kx_is | ks_is | decide +kernel | kernel_rfl | with_unfolding_all rfl); (case xl_PlanError => k_is); (case xb_PlanError => first | rfl | k_is | kx_is | ks_is | decide +kernel | kernel_rfl | with_unfolding_all rfl); (case xi_PlanError => first | rfl | k_is | kx_is | ks_is | decide +kernel | kernel_rfl | with_unfolding_all rfl); (case xs_PlanError => first | rfl | k_is | kx_is | ks_is | decide +kernel | kernel_rfl | with_unfolding_all rfl); (case xv_PlanError => k_is); (case xm_PlanError => k_is); (case xo_PlanError => k_is); (case xa_PlanError => k_is); (case xg_PlanError => k_is); (case xh_PlanError => k_is); (case xn_PlanError => k_is); (case xc_PlanError => k_is); (case xf_PlanError => k_is); (case xt_PlanError => k_is); (case xk_PlanError => k_is); (case xe_PlanError => k_is); (case xy_PlanError => k_is); (case xd_PlanError => k_is); (case xu_PlanError => k_is); (case xw_PlanError => k_is); (case xp_PlanError => k_is); (case xq_PlanError => k_is); (case l_PlanError => k_is); (case d_PlanError => k_is); (case e_PlanError => first | rfl | k_is | kx_is | ks_is | decide +kernel | kernel_rfl | with_unfolding_all rfl); (case g_PlanError => first | rfl | k_is | kx_is | ks_is | decide +kernel | kernel_rfl | with_unfolding_all rfl); (case h_PlanError => first | rfl | k_is | kx_is | ks_is | decide +kernel | kernel_rfl | with_unfolding_all rfl); (case i_PlanError => k_is); (case z_str => k_is); (case z_divmod => k_is); (case z_abs => k_is); (case z_set => k_is); (case z_len => k_is); (case z_list => k_is); (case z_range => k_is); (case z_dict => k_is); (case z_all => k_is); (case z_int => k_is); (case z_min => k_is); (case z_repr => k_is); (case z_bool => k_is); (case z_isinstance => k_is); (case z_tuple => k_is); (case v_PIECE => k_is); (case v_PIECE_DIGITS => k_is); (case v_STORES => k_is); (case w_STORES => k_is); (case y_STORES => first | k_is | (repeat (first | exact .nil | refine .cons ⟨_, rfl⟩ ?_))); (case v_LOADS => k_is); (case w_LOADS => k_is); (case y_LOADS => first | k_is | (repeat (first | exact .nil | refine .cons ⟨_, rfl⟩ ?_))); (case v_GREATEST_COST => k_is); (case v_TAKEN_AT_TIMES => k_is); (case w_TAKEN_AT_TIMES => k_is); (case y_TAKEN_AT_TIMES => first | k_is | (repeat (first | exact .nil | refine .cons ⟨_, rfl⟩ ?_))); (case v_ALWAYS_TAKEN => k_is); (case w_ALWAYS_TAKEN => k_is); (case y_ALWAYS_TAKEN => first | k_is | (repeat (first | exact .nil | refine .cons ⟨_, rfl⟩ ?_)))
