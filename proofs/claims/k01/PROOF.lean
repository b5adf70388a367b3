import PyProof.Rows.All
import Wide.All
import OpenK.AllK
import Wide.FinOn
import PyProof.RulesMatch
import HandS.Base
import HandS.Call
import HandS.Words
import HandS.IsInst
import PySem.Challenge.RW_deadbeat_k01_arithmetic_of_words
import HandS.ForMost
import HandS.Wide
set_option Elab.async false
set_option linter.all false
set_option maxRecDepth 100000
namespace L2
open PySem PySem.Spec PyProof.Rows
/-- the cases of a match over texts: a written text or whatever is left, and what is done -/
def tCases (z : Str) : List (Option Str × TS) → TS
  | [] => fun D σ H => D.nx σ H
  | (none, t) :: _ => t
  | (some c, t) :: r => fun D σ H => if z = c then t D σ H else tCases z r D σ H
def tMatch (te : TE) (l : List (Option Str × TS)) : TS := fun D σ H => te σ H fun x H1 => ∃ z : Str, x = .str z ∧ tCases z l D σ H1
inductive PCs (X : Cx) : List MatchCase → List (Option Str × TS) → Prop
  | nil : PCs X [] []
  | rest {body : List Stmt} {t : TS} {p : Pos} {r : List MatchCase} : PSs X body t → PCs X (⟨.MatchAs none none p, none, body⟩ :: r) [(none, t)]
  | text {body : List Stmt} {t : TS} {c : Str} {j : Nat} {p p2 : Pos} {r : List MatchCase} {l : List (Option Str × TS)} : PSs X body t → PCs X r l →
      PCs X (⟨.MatchValue (.Constant (.str c) j p) p2, none, body⟩ :: r) ((some c, t) :: l)
theorem run_cases {X : Cx} {z : Str} {u : Value} (ru : RelV (.str z) u) : ∀ {cs : List MatchCase} {l : List (Option Str × TS)}, PCs X cs l → ∀ (first : Bool) (pins : List (Addr × Obj)) (s : Shared) (σ : St) (H : Hp) (D : Ends), Inv X pins σ H s → tCases z l D σ H →
    wpAny (model X.prog X.w) X.A (matchCases cs X.env u first) (SP X pins D) X.xe s
  | _, _, .nil, first, pins, s, σ, H, D, I, h => wpAny_matchCases_nil ⟨σ, H, I, h⟩
  | _, _, .rest hb, first, pins, s, σ, H, D, I, h => by
    refine wpAny_matchCases_cons (wpAny_matchPattern_Capture ?_)
    exact wpAny_assignInOrder_none (hb.run pins s σ H D I h)
  | _, _, .text (c := c) (l := l) hb hr, first, pins, s, σ, H, D, I, h => by
    refine wpAny_matchCases_cons (wpAny_matchPattern_Value ?_)
    refine thn ((pe_str (X := X) (x := c)).run pins s σ H (fun v H' => v = .str c ∧ H' = H) I ⟨rfl, rfl⟩) fun v s1 hh => ?_
    obtain ⟨x, H1, I1, rx, ex, eH⟩ := hh
    subst ex
    subst eH
    refine thn (op_eq pins s1 σ H1 (.str z) (.str c) u v (fun y H' => y = .bl (decide (V.str z = V.str c)) ∧ H' = H1) I1 ru rx ⟨rfl, rfl, rfl⟩) fun y s2 hh => ?_
    obtain ⟨x, H2, I2, rx2, ex, eH⟩ := hh
    subst ex
    subst eH
    cases rx2
    refine wpAny_truthy_bool ?_
    have h' : (if z = c then _ else _) := h
    by_cases e : z = c
    · rw [if_pos e] at h'
      rw [decide_eq_true (by rw [e])]
      exact wpAny_assignInOrder_none (hb.run pins s2 σ H2 D I2 h')
    · rw [if_neg e] at h'
      rw [decide_eq_false (fun q => e (by injection q))]
      exact run_cases ru hr false pins s2 σ H2 D I2 h'
theorem ps_match {X : Cx} {e : Expr} {te : TE} {cs : List MatchCase} {l : List (Option Str × TS)} {pos : Pos} (he : PE X e te) (hc : PCs X cs l) : PS X (.Match e cs pos) (tMatch te l) := by
  refine ⟨fun pins s σ H D I h => wpAny_Match ?_⟩
  refine thn (he.run pins s σ H _ I h) fun u s1 hh => ?_
  obtain ⟨x, H1, I1, rx, z, ez, hz⟩ := hh
  subst ez
  exact run_cases rx hc true pins s1 σ H1 D I1 hz
/-- a module's constant: an int, a text, an object -/
theorem pe_gi {X : Cx} {x : Str} {n : Int} {t : Tok} {pos : Pos} (hg : Gl X x) (hm : X.mg x = some (.int n t)) (hd : (x == ("__debug__" : Str)) = false := by decide) : PE X (.Name x pos) (tC (.int n)) := pe_glob hg hm ⟨_, rfl⟩ hd
theorem pe_gs {X : Cx} {x : Str} {z : Str} {t : Tok} {pos : Pos} (hg : Gl X x) (hm : X.mg x = some (.str z t)) (hd : (x == ("__debug__" : Str)) = false := by decide) : PE X (.Name x pos) (tC (.str z)) := pe_glob hg hm ⟨_, rfl⟩ hd
theorem pe_gr {X : Cx} {x : Str} {a : Addr} {pos : Pos} (hg : Gl X x) (hm : X.mg x = some (.ref a)) (hd : (x == ("__debug__" : Str)) = false := by decide) : PE X (.Name x pos) (tC (.ref a)) := pe_glob (v := .ref a) hg hm rfl hd
/-- a built-in type as a value -/
theorem pe_ty {X : Cx} {x : Str} {T : String} {pos : Pos} (hg : Gl X x) (hm : X.mg x = none) (hv : bootBuiltins x = some (.type T)) (hn : x ≠ "__name__" := by decide) (hd : (x == ("__debug__" : Str)) = false := by decide) : PE X (.Name x pos) (tC (.ty T)) :=
  ⟨fun _ s _ H _ I h => ld_blt I hg hm hv ⟨.ty T, H, I, rfl, h⟩ hn hd⟩
/-- isinstance of a plain value and a built-in type -/
theorem isi_int {K : PySem.W.Frag} {H : Hp} {Q : VK} {i : Int} (q : Q (.bl true) H) : rIsi K [.int i, .ty "int"] H Q := ⟨_, _, _, _, true, rfl, .ty _, .base (.int _), kit_ty (by decide +kernel), q⟩
theorem isi_int_bool {K : PySem.W.Frag} {H : Hp} {Q : VK} {i : Int} (q : Q (.bl false) H) : rIsi K [.int i, .ty "bool"] H Q := ⟨_, _, _, _, false, rfl, .ty _, .base (.int _), kit_ty (by decide +kernel), q⟩
theorem Same.none {H H' : Hp} (e : Same H H') {p : Addr} (h : H' p = Option.none) : H p = Option.none := Same.free e h
theorem same_new {H : Hp} {p : Addr} {o : HO} (h : H p = Option.none) : Same H (upd H p o) := fun b x e => by
  rw [upd_ne (ne_of_none e h)]
  exact e
end L2

set_option Elab.async false
set_option linter.all false
set_option maxRecDepth 100000
set_option maxHeartbeats 4000000
namespace Mine
open PySem PySem.Spec PyProof.Rows L2
/-! ### the text -/
def topS (i : Nat) : Stmt := PySem.Challenge.pw_deadbeat_k01_arithmetic_of_words.main.body.getD i (.Pass ⟨0, 0, 0, 0⟩)
abbrev s_wrap : Stmt := topS 4
theorem sc_wrap : FnScope ["n"] ["n"] (defScope s_wrap) := ⟨rfl, rfl, rfl, by decide +kernel, rfl, by decide +kernel, by decide +kernel⟩
abbrev s_signed : Stmt := topS 5
theorem sc_signed : FnScope ["w"] ["w"] (defScope s_signed) := ⟨rfl, rfl, rfl, by decide +kernel, rfl, by decide +kernel, by decide +kernel⟩
abbrev s__holds : Stmt := topS 7
theorem sc__holds : FnScope ["operator", "a", "b"] ["operator", "a", "b"] (defScope s__holds) := ⟨rfl, rfl, rfl, by decide +kernel, rfl, by decide +kernel, by decide +kernel⟩
abbrev s_combine : Stmt := topS 6
theorem sc_combine : FnScope ["operator", "a", "b"] ["operator", "a", "b"] (defScope s_combine) := ⟨rfl, rfl, rfl, by decide +kernel, rfl, by decide +kernel, by decide +kernel⟩
abbrev s_alter : Stmt := topS 8
theorem sc_alter : FnScope ["operator", "a"] ["operator", "a"] (defScope s_alter) := ⟨rfl, rfl, rfl, by decide +kernel, rfl, by decide +kernel, by decide +kernel⟩
abbrev s__law_is_integer : Stmt := topS 10
theorem sc__law_is_integer : FnScope ["actual"] ["actual"] (defScope s__law_is_integer) := ⟨rfl, rfl, rfl, by decide +kernel, rfl, by decide +kernel, by decide +kernel⟩
abbrev s__law_cell : Stmt := topS 11
theorem sc__law_cell : FnScope ["script", "k"] ["script", "k"] (defScope s__law_cell) := ⟨rfl, rfl, rfl, by decide +kernel, rfl, by decide +kernel, by decide +kernel⟩
abbrev s__law_word : Stmt := topS 12
theorem sc__law_word : FnScope ["cell", "edges"] ["cell"] (defScope s__law_word) := ⟨rfl, rfl, rfl, by decide +kernel, rfl, by decide +kernel, by decide +kernel⟩
abbrev s__law_due : Stmt := topS 13
theorem sc__law_due : FnScope ["operator", "a", "b"] ["operator", "a", "b"] (defScope s__law_due) := ⟨rfl, rfl, rfl, by decide +kernel, rfl, by decide +kernel, by decide +kernel⟩
abbrev s_law : Stmt := topS 14
theorem sc_law : FnScope ["script", "a", "b", "operator", "pair", "actual", "free", "n", "w", "due"] ["script"] (defScope s_law) := ⟨rfl, rfl, rfl, by decide +kernel, rfl, by decide +kernel, by decide +kernel⟩
structure Top (K : PySem.W.Frag) (mg : Str → Option Value) where
  a_wrap : Addr
  d_wrap : FuncData
  F_wrap : Fun K "wrap" "wrap" s_wrap a_wrap d_wrap
  g_wrap : mg "wrap" = some (.ref a_wrap)
  b_wrap : Binds K d_wrap ["n"] []
  a_signed : Addr
  d_signed : FuncData
  F_signed : Fun K "signed" "signed" s_signed a_signed d_signed
  g_signed : mg "signed" = some (.ref a_signed)
  b_signed : Binds K d_signed ["w"] []
  a__holds : Addr
  d__holds : FuncData
  F__holds : Fun K "_holds" "_holds" s__holds a__holds d__holds
  g__holds : mg "_holds" = some (.ref a__holds)
  b__holds : Binds K d__holds ["operator", "a", "b"] []
  a_combine : Addr
  d_combine : FuncData
  F_combine : Fun K "combine" "combine" s_combine a_combine d_combine
  g_combine : mg "combine" = some (.ref a_combine)
  b_combine : Binds K d_combine ["operator", "a", "b"] []
  a_alter : Addr
  d_alter : FuncData
  F_alter : Fun K "alter" "alter" s_alter a_alter d_alter
  g_alter : mg "alter" = some (.ref a_alter)
  b_alter : Binds K d_alter ["operator", "a"] []
  a__law_is_integer : Addr
  d__law_is_integer : FuncData
  F__law_is_integer : Fun K "_law_is_integer" "_law_is_integer" s__law_is_integer a__law_is_integer d__law_is_integer
  g__law_is_integer : mg "_law_is_integer" = some (.ref a__law_is_integer)
  b__law_is_integer : Binds K d__law_is_integer ["actual"] []
  a__law_cell : Addr
  d__law_cell : FuncData
  F__law_cell : Fun K "_law_cell" "_law_cell" s__law_cell a__law_cell d__law_cell
  g__law_cell : mg "_law_cell" = some (.ref a__law_cell)
  b__law_cell : Binds K d__law_cell ["script", "k"] []
  a__law_word : Addr
  d__law_word : FuncData
  F__law_word : Fun K "_law_word" "_law_word" s__law_word a__law_word d__law_word
  g__law_word : mg "_law_word" = some (.ref a__law_word)
  b__law_word : Binds K d__law_word ["cell"] []
  a__law_due : Addr
  d__law_due : FuncData
  F__law_due : Fun K "_law_due" "_law_due" s__law_due a__law_due d__law_due
  g__law_due : mg "_law_due" = some (.ref a__law_due)
  b__law_due : Binds K d__law_due ["operator", "a", "b"] []
  a_law : Addr
  d_law : FuncData
  F_law : Fun K "law" "law" s_law a_law d_law
  g_law : mg "law" = some (.ref a_law)
  b_law : Binds K d_law ["script"] []
  m_bool : mg "bool" = none
  m_isinstance : mg "isinstance" = none
  m_int : mg "int" = none
  m_len : mg "len" = none
  t_WORDS : Tok
  c_WORDS : mg "WORDS" = some (.int 4294967296 t_WORDS)
  t_SIGN_BIT : Tok
  c_SIGN_BIT : mg "SIGN_BIT" = some (.int 2147483648 t_SIGN_BIT)
  t_GREATEST_WORD : Tok
  c_GREATEST_WORD : mg "GREATEST_WORD" = some (.int 4294967295 t_GREATEST_WORD)
/-! ### the mathematics -/
def sg (w : Int) : Int := if w < 2147483648 then w else w - 4294967296
def hld (op : Str) (a b : Int) : Bool :=
  if op = "<" then decide (a < b) else if op = "<=" then decide (a ≤ b) else if op = "~<" then decide (sg a < sg b) else if op = "~<=" then decide (sg a ≤ sg b)
  else if op = "==" then decide (a = b) else if op = "!=" then decide (a ≠ b) else if op = "and" then decide (a ≠ 0 ∧ b ≠ 0) else decide (a ≠ 0 ∨ b ≠ 0)
def comb (op : Str) (a b : Int) : Int :=
  if op = "+" then (a + b) % 4294967296 else if op = "-" then (a - b) % 4294967296 else if op = "*" then (a * b) % 4294967296
  else if op = "/" then (if b = 0 then 0 else a / b) else if op = "mod" then (if b = 0 then a else a % b)
  else if op = "&" then Builtin.bitAnd a b else if op = "|" then Builtin.bitOr a b else if op = "^" then Builtin.bitXor a b
  else if op = "<<" then (a * 2 ^ (b % 32).toNat) % 4294967296 else if op = ">>" then a / 2 ^ (b % 32).toNat
  else if hld op a b = true then 1 else 0
def ops : List Str := ["+", "-", "*", "/", "mod", "&", "|", "^", "<<", ">>"]
def cmps : List Str := ["<", "<=", "~<", "~<=", "==", "!=", "and", "or"]
def Word (a : Int) : Prop := 0 ≤ a ∧ a < 4294967296
theorem word_small {b : Int} (w : Word b) : b.natAbs < 2 ^ 32 := by
  have := w.1
  have := w.2
  omega
section
variable {P : Program} {w : World} {K : PySem.W.Frag} {mg : Str → Option Value} {base : Heap}

def sp_wrap : Sp := fun vs H Q _ => ∃ n : Int, vs = [.int n] ∧ Q (.int (n % 4294967296)) H
theorem ok_wrap (T : Top K mg) : FnOk P w K mg base CX0 1 T.a_wrap T.d_wrap ["n"]  sp_wrap := by
  refine T.F_wrap.ok sc_wrap (fun vs H Q E h => ?_) (fun cdv A outer s H vs Q E hr h => ?_)
  · obtain ⟨n, rfl, _⟩ := h
    rfl
  · obtain ⟨n, rfl, q⟩ := h
    refine ⟨_, (pss_one (ps_ret (pe_op op_mod (pv 0) (pe_gi (by rfl) T.c_WORDS)))), ?_⟩
    exact ⟨_, rfl, _, _, rfl, rfl, (by show (0 : Int) < 4294967296; decide), q⟩
def sp_signed : Sp := fun vs H Q _ => ∃ n : Int, vs = [.int n] ∧ Q (.int (sg n)) H
theorem ok_signed (T : Top K mg) : FnOk P w K mg base CX0 1 T.a_signed T.d_signed ["w"]  sp_signed := by
  refine T.F_signed.ok sc_signed (fun vs H Q E h => ?_) (fun cdv A outer s H vs Q E hr h => ?_)
  · obtain ⟨n, rfl, _⟩ := h
    rfl
  · obtain ⟨n, rfl, q⟩ := h
    refine ⟨_, (pss_cons (ps_if (pt_cmpR op_lt (pv 0) (pe_gi (by rfl) T.c_SIGN_BIT) (nomark _))
  (pss_one (ps_ret (pv 0)))
  pss_nil)
  (pss_one (ps_ret (pe_op op_sub (pv 0) (pe_gi (by rfl) T.c_WORDS))))), ?_⟩
    refine ⟨_, rfl, _, _, rfl, rfl, _, rfl, ite2 (fun c => ?_) (fun c => ?_)⟩
    · have e : sg n = n := if_pos (of_decide_eq_true c)
      rw [e] at q
      exact ⟨_, rfl, q⟩
    · have e : sg n = n - 4294967296 := if_neg (fun z => c (decide_eq_true z))
      rw [e] at q
      exact ⟨_, rfl, _, _, rfl, rfl, q⟩

def sp__holds : Sp := fun vs H Q _ => ∃ (z : Str) (a b : Int), vs = [.str z, .int a, .int b] ∧ z ∈ cmps ∧ Q (.bl (hld z a b)) H
theorem int_eq {a b : Int} : decide (V.int a = V.int b) = decide (a = b) := by
  by_cases h : a = b
  · rw [h, decide_eq_true rfl, decide_eq_true rfl]
  · rw [decide_eq_false h, decide_eq_false (fun q => h (V.int.inj q))]
theorem ok__holds (T : Top K mg) : FnOk P w K mg base CX0 2 T.a__holds T.d__holds ["operator", "a", "b"]  sp__holds := by
  refine T.F__holds.ok sc__holds (fun vs H Q E h => ?_) (fun cdv A outer s H vs Q E hr h => ?_)
  · obtain ⟨_, _, _, rfl, _⟩ := h
    rfl
  · obtain ⟨z, a, b, rfl, hz, q⟩ := h
    refine ⟨_, (pss_one (ps_match (pv 0)
  (PCs.text (pss_one (ps_ret (pe_cmpR op_lt (pv 1) (pv 2) (nomark _))))
  (PCs.text (pss_one (ps_ret (pe_cmpR op_le (pv 1) (pv 2) (nomark _))))
  (PCs.text (pss_one (ps_ret (pe_cmpR op_lt (pe_call (ok_signed T) (hr.mono (by decide)) (by rfl) T.g_signed T.F_signed.kp T.b_signed .nil pass0 (pa_cons (pv 1) pa_nil)) (pe_call (ok_signed T) (hr.mono (by decide)) (by rfl) T.g_signed T.F_signed.kp T.b_signed .nil pass0 (pa_cons (pv 2) pa_nil)) (nomark _))))
  (PCs.text (pss_one (ps_ret (pe_cmpR op_le (pe_call (ok_signed T) (hr.mono (by decide)) (by rfl) T.g_signed T.F_signed.kp T.b_signed .nil pass0 (pa_cons (pv 1) pa_nil)) (pe_call (ok_signed T) (hr.mono (by decide)) (by rfl) T.g_signed T.F_signed.kp T.b_signed .nil pass0 (pa_cons (pv 2) pa_nil)) (nomark _))))
  (PCs.text (pss_one (ps_ret (pe_cmpR op_eq (pv 1) (pv 2) (nomark _))))
  (PCs.text (pss_one (ps_ret (pe_cmpR op_ne (pv 1) (pv 2) (nomark _))))
  (PCs.text (pss_one (ps_ret (pe_and (pe_cmpR op_ne (pv 1) pe_int (nomark _)) (pe_one (pe_cmpR op_ne (pv 2) pe_int (nomark _))))))
  (PCs.text (pss_one (ps_ret (pe_or (pe_cmpR op_ne (pv 1) pe_int (nomark _)) (pe_one (pe_cmpR op_ne (pv 2) pe_int (nomark _))))))
  PCs.nil)))))))))), ?_⟩
    refine ⟨_, rfl, z, rfl, ?_⟩
    refine ite2 (fun c1 => ?_) (fun c1 => ?_)
    · subst c1
      exact ⟨_, rfl, _, rfl, _, _, rfl, rfl, q⟩
    refine ite2 (fun c2 => ?_) (fun c2 => ?_)
    · subst c2
      exact ⟨_, rfl, _, rfl, _, _, rfl, rfl, q⟩
    refine ite2 (fun c3 => ?_) (fun c3 => ?_)
    · subst c3
      exact ⟨_, rfl, _, rfl, _, rfl, _, rfl, _, _, rfl, rfl, q⟩
    refine ite2 (fun c4 => ?_) (fun c4 => ?_)
    · subst c4
      exact ⟨_, rfl, _, rfl, _, rfl, _, rfl, _, _, rfl, rfl, q⟩
    refine ite2 (fun c5 => ?_) (fun c5 => ?_)
    · subst c5
      refine ⟨_, rfl, _, rfl, rfl, ?_⟩
      rw [int_eq]
      exact q
    refine ite2 (fun c6 => ?_) (fun c6 => ?_)
    · subst c6
      refine ⟨_, rfl, _, rfl, rfl, ?_⟩
      rw [int_eq]
      have e : hld "!=" a b = !decide (a = b) := by
        show decide (a ≠ b) = _
        by_cases h : a = b <;> simp [h]
      rw [e] at q
      exact q
    refine ite2 (fun c7 => ?_) (fun c7 => ?_)
    · subst c7
      refine ⟨_, rfl, rfl, _, rfl, ?_⟩
      have e : hld "and" a b = (!decide (a = 0) && !decide (b = 0)) := by
        show decide (a ≠ 0 ∧ b ≠ 0) = _
        by_cases h : a = 0 <;> by_cases h2 : b = 0 <;> simp [h, h2]
      rw [e] at q
      rw [int_eq]
      by_cases h : a = 0
      · rw [decide_eq_true h] at q ⊢
        exact iteF q
      · rw [decide_eq_false h] at q ⊢
        refine iteT ⟨_, rfl, rfl, ?_⟩
        rw [int_eq]
        exact q
    refine ite2 (fun c8 => ?_) (fun c8 => ?_)
    · subst c8
      refine ⟨_, rfl, rfl, _, rfl, ?_⟩
      have e : hld "or" a b = (!decide (a = 0) || !decide (b = 0)) := by
        show decide (a ≠ 0 ∨ b ≠ 0) = _
        by_cases h : a = 0 <;> by_cases h2 : b = 0 <;> simp [h, h2]
      rw [e] at q
      rw [int_eq]
      by_cases h : a = 0
      · rw [decide_eq_true h] at q ⊢
        refine iteF ⟨_, rfl, rfl, ?_⟩
        rw [int_eq]
        exact q
      · rw [decide_eq_false h] at q ⊢
        exact iteT q
    · simp [cmps, c1, c2, c3, c4, c5, c6, c7, c8] at hz
def sp_combine : Sp := fun vs H Q _ => ∃ (z : Str) (a b : Int), vs = [.str z, .int a, .int b] ∧ Word a ∧ Word b ∧ (z ∈ ops ∨ z ∈ cmps) ∧ Q (.int (comb z a b)) H
theorem ok_combine (T : Top K mg) : FnOk P w K mg base CX0 3 T.a_combine T.d_combine ["operator", "a", "b"]  sp_combine := by
  refine T.F_combine.ok sc_combine (fun vs H Q E h => ?_) (fun cdv A outer s H vs Q E hr h => ?_)
  · obtain ⟨_, _, _, rfl, _⟩ := h
    rfl
  · obtain ⟨z, a, b, rfl, wa, wb, hz, q⟩ := h
    refine ⟨_, (pss_one (ps_match (pv 0)
  (PCs.text (pss_one (ps_ret (pe_call (ok_wrap T) (hr.mono (by decide)) (by rfl) T.g_wrap T.F_wrap.kp T.b_wrap .nil pass0 (pa_cons (pe_op op_add (pv 1) (pv 2)) pa_nil))))
  (PCs.text (pss_one (ps_ret (pe_call (ok_wrap T) (hr.mono (by decide)) (by rfl) T.g_wrap T.F_wrap.kp T.b_wrap .nil pass0 (pa_cons (pe_op op_sub (pv 1) (pv 2)) pa_nil))))
  (PCs.text (pss_one (ps_ret (pe_call (ok_wrap T) (hr.mono (by decide)) (by rfl) T.g_wrap T.F_wrap.kp T.b_wrap .nil pass0 (pa_cons (pe_op op_mul (pv 1) (pv 2)) pa_nil))))
  (PCs.text (pss_one (ps_ret (pe_ifExp (pt_cmpR op_eq (pv 2) pe_int (nomark _)) pe_int (pe_op op_fdivW (pv 1) (pv 2)))))
  (PCs.text (pss_one (ps_ret (pe_ifExp (pt_cmpR op_eq (pv 2) pe_int (nomark _)) (pv 1) (pe_op op_mod (pv 1) (pv 2)))))
  (PCs.text (pss_one (ps_ret (pe_op op_and (pv 1) (pv 2))))
  (PCs.text (pss_one (ps_ret (pe_op op_or (pv 1) (pv 2))))
  (PCs.text (pss_one (ps_ret (pe_op op_xor (pv 1) (pv 2))))
  (PCs.text (pss_one (ps_ret (pe_call (ok_wrap T) (hr.mono (by decide)) (by rfl) T.g_wrap T.F_wrap.kp T.b_wrap .nil pass0 (pa_cons (pe_op op_shl (pv 1) (pe_op op_mod (pv 2) pe_int)) pa_nil))))
  (PCs.text (pss_one (ps_ret (pe_op op_shr (pv 1) (pe_op op_mod (pv 2) pe_int))))
  (PCs.rest (pss_one (ps_ret (pe_ifExp (pt_val (pe_call (ok__holds T) (hr.mono (by decide)) (by rfl) T.g__holds T.F__holds.kp T.b__holds .nil pass0 (pa_cons (pv 0) (pa_cons (pv 1) (pa_cons (pv 2) pa_nil))))) pe_int pe_int)))))))))))))))), ?_⟩
    refine ⟨_, rfl, z, rfl, ?_⟩
    have a0 := wa.1
    have a1 := wa.2
    have b0 := wb.1
    have b1 := wb.2
    refine ite2 (fun c1 => ?_) (fun c1 => ?_)
    · subst c1
      exact ⟨_, rfl, _, rfl, _, _, rfl, rfl, _, rfl, q⟩
    refine ite2 (fun c2 => ?_) (fun c2 => ?_)
    · subst c2
      exact ⟨_, rfl, _, rfl, _, _, rfl, rfl, _, rfl, q⟩
    refine ite2 (fun c3 => ?_) (fun c3 => ?_)
    · subst c3
      exact ⟨_, rfl, _, rfl, _, _, rfl, rfl, .inl ⟨by omega, by omega⟩, _, rfl, q⟩
    refine ite2 (fun c4 => ?_) (fun c4 => ?_)
    · subst c4
      refine ⟨_, rfl, rfl, _, rfl, ite2 (fun c => ?_) (fun c => ?_)⟩
      · have e : b = 0 := V.int.inj (of_decide_eq_true c)
        subst e
        exact q
      · have e : b ≠ 0 := fun z => c (decide_eq_true (by rw [z]))
        have e2 : comb "/" a b = a / b := by
          show (if b = 0 then 0 else a / b) = _
          rw [if_neg e]
        rw [e2] at q
        exact ⟨_, rfl, _, rfl, _, _, rfl, rfl, wide_div (by omega) (word_small wb) (by decide) (by decide), q⟩
    refine ite2 (fun c5 => ?_) (fun c5 => ?_)
    · subst c5
      refine ⟨_, rfl, rfl, _, rfl, ite2 (fun c => ?_) (fun c => ?_)⟩
      · have e : b = 0 := V.int.inj (of_decide_eq_true c)
        subst e
        exact ⟨_, rfl, q⟩
      · have e : b ≠ 0 := fun z => c (decide_eq_true (by rw [z]))
        have e2 : comb "mod" a b = a % b := by
          show (if b = 0 then a else a % b) = _
          rw [if_neg e]
        rw [e2] at q
        exact ⟨_, rfl, _, rfl, _, _, rfl, rfl, (by show 0 < b; omega), q⟩
    refine ite2 (fun c6 => ?_) (fun c6 => ?_)
    · subst c6
      exact ⟨_, rfl, _, rfl, _, _, rfl, rfl, q⟩
    refine ite2 (fun c7 => ?_) (fun c7 => ?_)
    · subst c7
      exact ⟨_, rfl, _, rfl, _, _, rfl, rfl, q⟩
    refine ite2 (fun c8 => ?_) (fun c8 => ?_)
    · subst c8
      exact ⟨_, rfl, _, rfl, _, _, rfl, rfl, q⟩
    have m0 := Int.emod_nonneg b (show (32 : Int) ≠ 0 by decide)
    have m1 := Int.emod_lt_of_pos b (show (0 : Int) < 32 by decide)
    refine ite2 (fun c9 => ?_) (fun c9 => ?_)
    · subst c9
      exact ⟨_, rfl, _, rfl, _, _, rfl, rfl, (by show (0 : Int) < 32; decide), _, _, rfl, rfl, ⟨m0, by omega, by omega⟩, _, rfl, q⟩
    refine ite2 (fun c10 => ?_) (fun c10 => ?_)
    · subst c10
      exact ⟨_, rfl, _, rfl, _, _, rfl, rfl, (by show (0 : Int) < 32; decide), _, _, rfl, rfl, m0, q⟩
    · have hc : z ∈ cmps := by
        rcases hz with h | h
        · simp [ops, c1, c2, c3, c4, c5, c6, c7, c8, c9, c10] at h
        · exact h
      have e : comb z a b = if hld z a b = true then 1 else 0 := by
        simp only [comb, eq_false c1, eq_false c2, eq_false c3, eq_false c4, eq_false c5, eq_false c6, eq_false c7, eq_false c8, eq_false c9, eq_false c10, if_false]
      rw [e] at q
      refine ⟨_, rfl, _, rfl, _, rfl, z, a, b, rfl, hc, hld z a b, rfl, ite2 (fun c => ?_) (fun c => ?_)⟩
      · rw [if_pos c] at q
        exact q
      · rw [if_neg c] at q
        exact q

def alt (op : Str) (a : Int) : Int := if op = "neg" then (-a) % 4294967296 else if op = "inv" then Builtin.bitXor a 4294967295 else if a = 0 then 1 else 0
def sp_alter : Sp := fun vs H Q _ => ∃ (z : Str) (a : Int), vs = [.str z, .int a] ∧ z ∈ (["neg", "inv", "not"] : List Str) ∧ Q (.int (alt z a)) H
theorem ok_alter (T : Top K mg) : FnOk P w K mg base CX0 2 T.a_alter T.d_alter ["operator", "a"]  sp_alter := by
  refine T.F_alter.ok sc_alter (fun vs H Q E h => ?_) (fun cdv A outer s H vs Q E hr h => ?_)
  · obtain ⟨_, _, rfl, _⟩ := h
    rfl
  · obtain ⟨z, a, rfl, hz, q⟩ := h
    refine ⟨_, (pss_one (ps_match (pv 0)
  (PCs.text (pss_one (ps_ret (pe_call (ok_wrap T) (hr.mono (by decide)) (by rfl) T.g_wrap T.F_wrap.kp T.b_wrap .nil pass0 (pa_cons (pe_un un_neg (pv 1)) pa_nil))))
  (PCs.text (pss_one (ps_ret (pe_op op_xor (pv 1) (pe_gi (by rfl) T.c_GREATEST_WORD))))
  (PCs.text (pss_one (ps_ret (pe_ifExp (pt_cmpR op_eq (pv 1) pe_int (nomark _)) pe_int pe_int)))
  PCs.nil))))), ?_⟩
    refine ⟨_, rfl, z, rfl, ?_⟩
    refine ite2 (fun c1 => ?_) (fun c1 => ?_)
    · subst c1
      exact ⟨_, rfl, _, rfl, _, rfl, q⟩
    refine ite2 (fun c2 => ?_) (fun c2 => ?_)
    · subst c2
      exact ⟨_, rfl, _, _, rfl, rfl, q⟩
    refine ite2 (fun c3 => ?_) (fun c3 => ?_)
    · subst c3
      refine ⟨_, rfl, rfl, _, rfl, ?_⟩
      rw [int_eq]
      have e : alt "not" a = if a = 0 then 1 else 0 := rfl
      rw [e] at q
      refine ite2 (fun c => ?_) (fun c => ?_)
      · rw [if_pos (of_decide_eq_true c)] at q
        exact q
      · rw [if_neg (fun z => c (decide_eq_true z))] at q
        exact q
    · simp [c1, c2, c3] at hz
def sp__law_is_integer : Sp := fun vs H Q _ => ∃ n : Int, vs = [.int n] ∧ Q (.bl true) H
theorem ok__law_is_integer (T : Top K mg) : FnOk P w K mg base CX0 1 T.a__law_is_integer T.d__law_is_integer ["actual"]  sp__law_is_integer := by
  refine T.F__law_is_integer.ok sc__law_is_integer (fun vs H Q E h => ?_) (fun cdv A outer s H vs Q E hr h => ?_)
  · obtain ⟨_, rfl, _⟩ := h
    rfl
  · obtain ⟨n, rfl, q⟩ := h
    refine ⟨_, (pss_one (ps_ret (pe_and (pe_callB call_isi (by rfl) T.m_isinstance (by decide +kernel) (pa_cons (pv 0) (pa_cons (pe_ty (T := "int") (by rfl) T.m_int (by decide +kernel)) pa_nil))) (pe_one (pe_not (pe_callB call_isi (by rfl) T.m_isinstance (by decide +kernel) (pa_cons (pv 0) (pa_cons (pe_ty (T := "bool") (by rfl) T.m_bool (by decide +kernel)) pa_nil)))))))), ?_⟩
    exact ⟨_, rfl, _, _, _, _, true, rfl, .ty _, .base (.int _), kit_ty (by decide +kernel), _, rfl, iteT ⟨_, rfl, _, _, _, _, false, rfl, .ty _, .base (.int _), kit_ty (by decide +kernel), _, rfl, q⟩⟩
def sp__law_cell (K : PySem.W.Frag) : Sp := fun vs H Q _ => ∃ (a : Addr) (ns : List Int) (k : Nat), vs = [.ref a, .int (k : Int)] ∧ SqL K H a (ns.map V.int) ∧ ∀ n : Int, Q (.int n) H
theorem ok__law_cell (T : Top K mg) : FnOk P w K mg base CX0 1 T.a__law_cell T.d__law_cell ["script", "k"]  (sp__law_cell K) := by
  refine T.F__law_cell.ok sc__law_cell (fun vs H Q E h => ?_) (fun cdv A outer s H vs Q E hr h => ?_)
  · obtain ⟨_, _, _, rfl, _⟩ := h
    rfl
  · obtain ⟨a, ns, k, rfl, hS, q⟩ := h
    refine ⟨_, (pss_cons (ps_if (pt_cmpR op_lt (pv 1) (pe_callB call_len_seq (by rfl) T.m_len PySem.boot_len (pa_cons (pv 0) pa_nil)) (nomark _))
  (pss_one (ps_ret (pe_callTy call_int1 (by rfl) T.m_int (by decide +kernel) (pa_cons (pe_ix ix_list (pv 0) (pv 1) (fun _ _ => rfl)) pa_nil))))
  pss_nil)
  (pss_one (ps_ret pe_int))), ?_⟩
    refine ⟨_, rfl, _, rfl, a, _, rfl, .inl hS, _, _, rfl, rfl, _, rfl, ite2 (fun c => ?_) (fun c => ?_)⟩
    · have hk : k < ns.length := by
        have := of_decide_eq_true c
        rw [List.length_map] at this
        omega
      exact ⟨_, rfl, _, rfl, a, _, _, .int ns[k], rfl, rfl, hS, atI_nat (by rw [List.getElem?_map, List.getElem?_eq_getElem hk]; rfl), .inl ⟨_, rfl, q _⟩⟩
    · exact q 0
def sp__law_word : Sp := fun vs H Q _ => ∃ n : Int, vs = [.int n] ∧ ∀ (w : Int) (H' : Hp), Word w → Same H H' → Q (.int w) H'
theorem eight {j : Int} (h0 : 0 ≤ j) (h1 : j < 8) : ∃ k : Nat, j = (k : Int) ∧ k < 8 := ⟨j.toNat, by omega, by omega⟩
theorem ok__law_word (T : Top K mg) : FnOk P w K mg base CX0 1 T.a__law_word T.d__law_word ["cell"]  sp__law_word := by
  refine T.F__law_word.ok sc__law_word (fun vs H Q E h => ?_) (fun cdv A outer s H vs Q E hr h => ?_)
  · obtain ⟨_, rfl, _⟩ := h
    rfl
  · obtain ⟨n, rfl, q⟩ := h
    refine ⟨_, (pss_cons (ps_set (i := 1) sc__law_word.nd rfl (Or.inl rfl) (pe_lst (pa_cons pe_int (pa_cons pe_int (pa_cons pe_int (pa_cons pe_int (pa_cons pe_int (pa_cons pe_int (pa_cons pe_int (pa_cons pe_int pa_nil))))))))))
  (pss_cons (ps_if (pt_cmpR op_eq (pe_op op_mod (pe_callTy call_int1 (by rfl) T.m_int (by decide +kernel) (pa_cons (pv 0) pa_nil)) pe_int) pe_int (nomark _))
  (pss_one (ps_ret (pe_ix ix_list (pv 1) (pe_op op_mod (pe_op op_fdiv (pe_callTy call_int1 (by rfl) T.m_int (by decide +kernel) (pa_cons (pv 0) pa_nil)) pe_int) pe_int) (fun _ _ => rfl))))
  pss_nil)
  (pss_one (ps_ret (pe_op op_mod (pe_op op_fdiv (pe_callTy call_int1 (by rfl) T.m_int (by decide +kernel) (pa_cons (pv 0) pa_nil)) pe_int) pe_int))))), ?_⟩
    refine ⟨by show 8 ≤ sizeLine; decide, fun p np => ?_⟩
    refine ⟨_, rfl, .inl ⟨_, rfl, _, _, rfl, rfl, (by show (0 : Int) < 2; decide), rfl, _, rfl, ite2 (fun c => ?_) (fun c => ?_)⟩⟩
    · have m0 := Int.emod_nonneg (n / 2) (show (8 : Int) ≠ 0 by decide)
      have m1 := Int.emod_lt_of_pos (n / 2) (show (0 : Int) < 8 by decide)
      obtain ⟨k, ek, hk⟩ := eight m0 m1
      have hv : ∃ v : Int, ([.int 0, .int 1, .int 2, .int 2147483647, .int 2147483648, .int 2147483649, .int 4294967294, .int 4294967295] : List V)[k]? = some (.int v) ∧ Word v := by
        match k, hk with
        | 0, _ => exact ⟨_, rfl, by decide, by decide⟩
        | 1, _ => exact ⟨_, rfl, by decide, by decide⟩
        | 2, _ => exact ⟨_, rfl, by decide, by decide⟩
        | 3, _ => exact ⟨_, rfl, by decide, by decide⟩
        | 4, _ => exact ⟨_, rfl, by decide, by decide⟩
        | 5, _ => exact ⟨_, rfl, by decide, by decide⟩
        | 6, _ => exact ⟨_, rfl, by decide, by decide⟩
        | 7, _ => exact ⟨_, rfl, by decide, by decide⟩
      obtain ⟨v, ev, wv⟩ := hv
      refine ⟨_, rfl, _, rfl, .inl ⟨_, rfl, _, _, rfl, rfl, ⟨by decide, by decide⟩, _, _, rfl, rfl, (by show (0 : Int) < 8; decide), ?_⟩⟩
      exact ⟨p, _, _, _, rfl, rfl, SqL.of upd_same, at_of ek ev, q v _ wv (same_new np)⟩
    · have m0 := Int.emod_nonneg (n / 2) (show (4294967296 : Int) ≠ 0 by decide)
      have m1 := Int.emod_lt_of_pos (n / 2) (show (0 : Int) < 4294967296 by decide)
      exact ⟨_, rfl, .inl ⟨_, rfl, _, _, rfl, rfl, ⟨by decide, by decide⟩, _, _, rfl, rfl, (by show (0 : Int) < 4294967296; decide), q _ _ ⟨m0, m1⟩ (same_new np)⟩⟩

def five : List Str := ["+", "-", "*", "/", "mod"]
def sp__law_due : Sp := fun vs H Q _ => ∃ (z : Str) (a b : Int), vs = [.str z, .int a, .int b] ∧ Word a ∧ Word b ∧ z ∈ five ∧ Q (.int (comb z a b)) H
theorem str_eq {a b : Str} : decide (V.str a = V.str b) = decide (a = b) := by
  by_cases h : a = b
  · rw [h, decide_eq_true rfl, decide_eq_true rfl]
  · rw [decide_eq_false h, decide_eq_false (fun q => h (V.str.inj q))]
theorem ok__law_due (T : Top K mg) : FnOk P w K mg base CX0 1 T.a__law_due T.d__law_due ["operator", "a", "b"]  sp__law_due := by
  refine T.F__law_due.ok sc__law_due (fun vs H Q E h => ?_) (fun cdv A outer s H vs Q E hr h => ?_)
  · obtain ⟨_, _, _, rfl, _⟩ := h
    rfl
  · obtain ⟨z, a, b, rfl, wa, wb, hz, q⟩ := h
    refine ⟨_, (pss_cons (ps_if (pt_cmpR op_eq (pv 0) pe_str (nomark _))
  (pss_one (ps_ret (pe_op op_mod (pe_callTy call_int1 (by rfl) T.m_int (by decide +kernel) (pa_cons (pe_op op_add (pv 1) (pv 2)) pa_nil)) pe_int)))
  pss_nil)
  (pss_cons (ps_if (pt_cmpR op_eq (pv 0) pe_str (nomark _))
  (pss_one (ps_ret (pe_op op_mod (pe_callTy call_int1 (by rfl) T.m_int (by decide +kernel) (pa_cons (pe_op op_sub (pv 1) (pv 2)) pa_nil)) pe_int)))
  pss_nil)
  (pss_cons (ps_if (pt_cmpR op_eq (pv 0) pe_str (nomark _))
  (pss_one (ps_ret (pe_op op_mod (pe_callTy call_int1 (by rfl) T.m_int (by decide +kernel) (pa_cons (pe_op op_mul (pv 1) (pv 2)) pa_nil)) pe_int)))
  pss_nil)
  (pss_cons (ps_if (pt_cmpR op_eq (pv 0) pe_str (nomark _))
  (pss_cons (ps_if (pt_cmpR op_eq (pv 2) pe_int (nomark _))
  (pss_one (ps_ret pe_int))
  pss_nil)
  (pss_one (ps_ret (pe_op op_fdivW (pv 1) (pv 2)))))
  pss_nil)
  (pss_cons (ps_if (pt_cmpR op_eq (pv 2) pe_int (nomark _))
  (pss_one (ps_ret (pv 1)))
  pss_nil)
  (pss_one (ps_ret (pe_op op_mod (pe_callTy call_int1 (by rfl) T.m_int (by decide +kernel) (pa_cons (pv 1) pa_nil)) (pv 2))))))))), ?_⟩
    have a0 := wa.1
    have a1 := wa.2
    have b0 := wb.1
    have b1 := wb.2
    refine ⟨_, rfl, rfl, _, rfl, ite2 (fun c1 => ?_) (fun c1 => ?_)⟩
    · have e := V.str.inj (of_decide_eq_true c1)
      subst e
      exact ⟨_, rfl, _, rfl, _, _, rfl, rfl, .inl ⟨_, rfl, _, _, rfl, rfl, (by show (0 : Int) < 4294967296; decide), q⟩⟩
    refine ⟨_, rfl, rfl, _, rfl, ite2 (fun c2 => ?_) (fun c2 => ?_)⟩
    · have e := V.str.inj (of_decide_eq_true c2)
      subst e
      exact ⟨_, rfl, _, rfl, _, _, rfl, rfl, .inl ⟨_, rfl, _, _, rfl, rfl, (by show (0 : Int) < 4294967296; decide), q⟩⟩
    refine ⟨_, rfl, rfl, _, rfl, ite2 (fun c3 => ?_) (fun c3 => ?_)⟩
    · have e := V.str.inj (of_decide_eq_true c3)
      subst e
      exact ⟨_, rfl, _, rfl, _, _, rfl, rfl, .inl ⟨by omega, by omega⟩, .inl ⟨_, rfl, _, _, rfl, rfl, (by show (0 : Int) < 4294967296; decide), q⟩⟩
    refine ⟨_, rfl, rfl, _, rfl, ite2 (fun c4 => ?_) (fun c4 => ?_)⟩
    · have e := V.str.inj (of_decide_eq_true c4)
      subst e
      refine ⟨_, rfl, rfl, _, rfl, ite2 (fun c => ?_) (fun c => ?_)⟩
      · have e : b = 0 := V.int.inj (of_decide_eq_true c)
        subst e
        exact q
      · have e : b ≠ 0 := fun z => c (decide_eq_true (by rw [z]))
        have e2 : comb "/" a b = a / b := by
          show (if b = 0 then 0 else a / b) = _
          rw [if_neg e]
        rw [e2] at q
        exact ⟨_, rfl, _, rfl, _, _, rfl, rfl, wide_div (by omega) (word_small wb) (by decide) (by decide), q⟩
    · have e : z = "mod" := by
        simp only [str_eq, decide_eq_true_eq] at c1 c2 c3 c4
        simp [five, c1, c2, c3, c4] at hz
        exact hz
      subst e
      refine ⟨_, rfl, rfl, _, rfl, ite2 (fun c => ?_) (fun c => ?_)⟩
      · have e : b = 0 := V.int.inj (of_decide_eq_true c)
        subst e
        exact ⟨_, rfl, q⟩
      · have e : b ≠ 0 := fun z => c (decide_eq_true (by rw [z]))
        have e2 : comb "mod" a b = a % b := by
          show (if b = 0 then a else a % b) = _
          rw [if_neg e]
        rw [e2] at q
        exact ⟨_, rfl, .inl ⟨_, rfl, _, rfl, _, _, rfl, rfl, (by show 0 < b; omega), q⟩⟩
def sp_law (K : PySem.W.Frag) : Sp := fun vs H Q _ => ∃ (a : Addr) (ns : List Int), vs = [.ref a] ∧ SqL K H a (ns.map V.int) ∧ ns.length ≤ 63 ∧ ∀ H', Q (.bl true) H'
theorem ne_self {x : V} : (!decide (x = x)) = false := by rw [decide_eq_true rfl]; rfl
theorem get5 {α : Type} {l : List α} {i : Nat} {x : α} (h : l[i]? = some x) : x ∈ l := List.mem_of_getElem? h
theorem ok_law (T : Top K mg) : FnOk P w K mg base CX0 4 T.a_law T.d_law ["script"]  (sp_law K) := by
  refine T.F_law.ok sc_law (fun vs H Q E h => ?_) (fun cdv A outer s H vs Q E hr h => ?_)
  · obtain ⟨_, _, rfl, _⟩ := h
    rfl
  · obtain ⟨l, ns, rfl, hS, hlen, q⟩ := h
    refine ⟨_, (pss_cons (ps_set (i := 1) sc_law.nd rfl (Or.inl rfl) (pe_call (ok__law_word T) (hr.mono (by decide)) (by rfl) T.g__law_word T.F__law_word.kp T.b__law_word .nil pass0 (pa_cons (pe_call (ok__law_cell T) (hr.mono (by decide)) (by rfl) T.g__law_cell T.F__law_cell.kp T.b__law_cell .nil pass0 (pa_cons (pv 0) (pa_cons pe_int pa_nil))) pa_nil)))
  (pss_cons (ps_set (i := 2) sc_law.nd rfl (Or.inl rfl) (pe_call (ok__law_word T) (hr.mono (by decide)) (by rfl) T.g__law_word T.F__law_word.kp T.b__law_word .nil pass0 (pa_cons (pe_call (ok__law_cell T) (hr.mono (by decide)) (by rfl) T.g__law_cell T.F__law_cell.kp T.b__law_cell .nil pass0 (pa_cons (pv 0) (pa_cons pe_int pa_nil))) pa_nil)))
  (pss_cons (ps_for PassesOwn.never rfl (pi_list (pe_lst (pa_cons pe_str (pa_cons pe_str (pa_cons pe_str (pa_cons pe_str (pa_cons pe_str pa_nil))))))) (pg_name (i := 3) sc_law.nd rfl (Or.inl rfl))
  (pss_one (ps_for PassesOwn.never rfl (pi_list (pe_lst (pa_cons (pe_tup (pa_cons (pv 1) (pa_cons (pv 2) pa_nil))) (pa_cons (pe_tup (pa_cons (pv 2) (pa_cons (pv 1) pa_nil))) (pa_cons (pe_tup (pa_cons (pv 1) (pa_cons (pv 1) pa_nil))) pa_nil))))) (pg_name (i := 4) sc_law.nd rfl (Or.inl rfl))
  (pss_cons (ps_set (i := 5) sc_law.nd rfl (Or.inl rfl) (pe_call (ok_combine T) (hr.mono (by decide)) (by rfl) T.g_combine T.F_combine.kp T.b_combine .nil pass0 (pa_cons (pv 3) (pa_cons (pe_ix ix_tup (pv 4) pe_int (fun _ _ => rfl)) (pa_cons (pe_ix ix_tup (pv 4) pe_int (fun _ _ => rfl)) pa_nil)))))
  (pss_one (ps_if (pw_or (pt_not (pt_val (pe_call (ok__law_is_integer T) (hr.mono (by decide)) (by rfl) T.g__law_is_integer T.F__law_is_integer.kp T.b__law_is_integer .nil pass0 (pa_cons (pv 5) pa_nil)))) (pw_or1 (pt_cmpR op_ne (pv 5) (pe_call (ok__law_due T) (hr.mono (by decide)) (by rfl) T.g__law_due T.F__law_due.kp T.b__law_due .nil pass0 (pa_cons (pv 3) (pa_cons (pe_ix ix_tup (pv 4) pe_int (fun _ _ => rfl)) (pa_cons (pe_ix ix_tup (pv 4) pe_int (fun _ _ => rfl)) pa_nil)))) (nomark _)))).pt
  (pss_one (ps_ret pe_bl))
  pss_nil))))))
  (pss_cons (ps_set (i := 6) sc_law.nd rfl (Or.inl rfl) (pe_call (ok__law_cell T) (hr.mono (by decide)) (by rfl) T.g__law_cell T.F__law_cell.kp T.b__law_cell .nil pass0 (pa_cons (pv 0) (pa_cons pe_int pa_nil))))
  (pss_cons (ps_for PassesOwn.never rfl (pi_list (pe_lst (pa_cons (pv 6) (pa_cons (pe_un un_neg (pv 6)) (pa_cons (pv 1) (pa_cons (pe_op op_sub (pv 2) (pv 1)) (pa_cons (pe_op op_mul (pv 1) (pv 2)) pa_nil))))))) (pg_name (i := 7) sc_law.nd rfl (Or.inl rfl))
  (pss_cons (ps_set (i := 5) sc_law.nd rfl (Or.inl rfl) (pe_call (ok_wrap T) (hr.mono (by decide)) (by rfl) T.g_wrap T.F_wrap.kp T.b_wrap .nil pass0 (pa_cons (pv 7) pa_nil)))
  (pss_one (ps_if (pw_or (pt_not (pt_val (pe_call (ok__law_is_integer T) (hr.mono (by decide)) (by rfl) T.g__law_is_integer T.F__law_is_integer.kp T.b__law_is_integer .nil pass0 (pa_cons (pv 5) pa_nil)))) (pw_or1 (pt_cmpR op_ne (pv 5) (pe_op op_mod (pe_callTy call_int1 (by rfl) T.m_int (by decide +kernel) (pa_cons (pv 7) pa_nil)) pe_int) (nomark _)))).pt
  (pss_one (ps_ret pe_bl))
  pss_nil))))
  (pss_cons (ps_for PassesOwn.never rfl (pi_list (pe_lst (pa_cons (pv 1) (pa_cons (pv 2) pa_nil)))) (pg_name (i := 8) sc_law.nd rfl (Or.inl rfl))
  (pss_cons (ps_set (i := 5) sc_law.nd rfl (Or.inl rfl) (pe_call (ok_signed T) (hr.mono (by decide)) (by rfl) T.g_signed T.F_signed.kp T.b_signed .nil pass0 (pa_cons (pv 8) pa_nil)))
  (pss_cons (ps_set (i := 9) sc_law.nd rfl (Or.inl rfl) (pv 8))
  (pss_cons (ps_if (pt_cmpR op_ge (pv 8) pe_int (nomark _))
  (pss_one (ps_set (i := 9) sc_law.nd rfl (Or.inl rfl) (pe_op op_sub (pv 8) pe_int)))
  pss_nil)
  (pss_cons (ps_if (pw_or (pt_not (pt_val (pe_call (ok__law_is_integer T) (hr.mono (by decide)) (by rfl) T.g__law_is_integer T.F__law_is_integer.kp T.b__law_is_integer .nil pass0 (pa_cons (pv 5) pa_nil)))) (pw_or1 (pt_cmpR op_ne (pv 5) (pv 9) (nomark _)))).pt
  (pss_one (ps_ret pe_bl))
  pss_nil)
  (pss_cons (ps_set (i := 5) sc_law.nd rfl (Or.inl rfl) (pe_call (ok_alter T) (hr.mono (by decide)) (by rfl) T.g_alter T.F_alter.kp T.b_alter .nil pass0 (pa_cons pe_str (pa_cons (pv 8) pa_nil))))
  (pss_one (ps_if (pw_or (pt_not (pt_val (pe_call (ok__law_is_integer T) (hr.mono (by decide)) (by rfl) T.g__law_is_integer T.F__law_is_integer.kp T.b__law_is_integer .nil pass0 (pa_cons (pv 5) pa_nil)))) (pw_or1 (pt_cmpR op_ne (pv 5) (pe_op op_mod (pe_callTy call_int1 (by rfl) T.m_int (by decide +kernel) (pa_cons (pe_op op_sub pe_int (pv 8)) pa_nil)) pe_int) (nomark _)))).pt
  (pss_one (ps_ret pe_bl))
  pss_nil))))))))
  (pss_one (ps_ret pe_bl)))))))), ?_⟩
    refine ⟨_, rfl, l, ns, 0, rfl, hS, fun n0 => ⟨n0, rfl, fun a H1 wa s1 => ?_⟩⟩
    refine ⟨_, rfl, l, ns, 1, rfl, s1.seq hS, fun n1 => ⟨n1, rfl, fun b H2 wb s2 => ?_⟩⟩
    have s02 : Same H H2 := s1.trans s2
    -- for operator in the five
    refine ⟨by show 5 ≤ sizeLine; decide, fun p np => ⟨p, rfl, ⟨_, SqL.of upd_same⟩, ?_⟩⟩
    refine for_list (xs := five.map V.str) (fun i σ H' => ∃ y3 y4 y5, σ = [some (.ref l), some (.int a), some (.int b), y3, y4, y5, none, none, none, none] ∧ Same (upd H2 p (.lst (five.map V.str))) H') ⟨none, none, none, rfl, Same.refl _⟩
      (fun i σ H' _ ⟨_, _, _, _, sm⟩ => SqL.of (sm _ _ upd_same)) ?_ ?_
    · rintro i x σ H' hi ⟨y3, y4, y5, rfl, sm⟩
      obtain ⟨z, hz, rfl⟩ : ∃ z, z ∈ five ∧ x = .str z := by
        obtain ⟨z, hz, e⟩ := List.mem_map.mp (List.mem_of_getElem? hi)
        exact ⟨z, hz, e.symm⟩
      -- for pair in ..
      refine ⟨_, rfl, _, rfl, by show 2 ≤ sizeLine; decide, fun t1 m1 => ?_⟩
      refine ⟨_, rfl, _, rfl, by show 2 ≤ sizeLine; decide, fun t2 m2 => ?_⟩
      refine ⟨_, rfl, _, rfl, by show 2 ≤ sizeLine; decide, fun t3 m3 => ?_⟩
      refine ⟨by show 3 ≤ sizeLine; decide, fun p2 np2 => ⟨p2, rfl, ⟨_, SqL.of upd_same⟩, ?_⟩⟩
      let G1 := upd H' t1 (.tup [.int a, .int b])
      let G2 := upd G1 t2 (.tup [.int b, .int a])
      let G3 := upd G2 t3 (.tup [.int a, .int a])
      let G4 := upd G3 p2 (.lst [.ref t1, .ref t2, .ref t3])
      have k1 : Same H' G1 := same_new m1
      have k2 : Same G1 G2 := same_new m2
      have k3 : Same G2 G3 := same_new m3
      have k4 : Same G3 G4 := same_new np2
      have g1 : G4 t1 = some (.tup [.int a, .int b]) := k4 _ _ (k3 _ _ (k2 _ _ upd_same))
      have g2 : G4 t2 = some (.tup [.int b, .int a]) := k4 _ _ (k3 _ _ upd_same)
      have g3 : G4 t3 = some (.tup [.int a, .int a]) := k4 _ _ upd_same
      refine for_list (xs := [.ref t1, .ref t2, .ref t3]) (fun i σ H'' => ∃ y4 y5, σ = [some (.ref l), some (.int a), some (.int b), some (.str z), y4, y5, none, none, none, none] ∧ Same G4 H'') ⟨y4, y5, rfl, Same.refl _⟩
        (fun i σ H'' _ ⟨_, _, _, sm⟩ => SqL.of (sm _ _ upd_same)) ?_ ?_
      · rintro j x σ H'' hj ⟨z4, z5, rfl, sm2⟩
        obtain ⟨t, u, v, rfl, wu, wv, ht⟩ : ∃ (t : Addr) (u v : Int), x = .ref t ∧ Word u ∧ Word v ∧ H'' t = some (.tup [.int u, .int v]) := by
          have hm := List.mem_of_getElem? hj
          simp only [List.mem_cons, List.mem_nil_iff, or_false] at hm
          rcases hm with rfl | rfl | rfl
          · exact ⟨t1, a, b, rfl, wa, wb, sm2 _ _ g1⟩
          · exact ⟨t2, b, a, rfl, wb, wa, sm2 _ _ g2⟩
          · exact ⟨t3, a, a, rfl, wa, wa, sm2 _ _ g3⟩
        have hT : SqT K H'' t [.int u, .int v] := SqT.of ht
        have hzo : z ∈ ops ∨ z ∈ cmps := by
          left
          simp only [five, List.mem_cons, List.mem_nil_iff, or_false] at hz
          rcases hz with rfl | rfl | rfl | rfl | rfl <;> simp [ops]
        refine ⟨_, rfl, _, rfl, t, _, 0, .int u, rfl, rfl, hT, atI_nat (j := 0) rfl, _, rfl, t, _, 1, .int v, rfl, rfl, hT, atI_nat (j := 1) rfl, z, u, v, rfl, wu, wv, hzo, ?_⟩
        refine ⟨_, rfl, comb z u v, rfl, true, rfl, iteF ?_⟩
        refine ⟨_, rfl, _, rfl, _, rfl, t, _, 0, .int u, rfl, rfl, hT, atI_nat (j := 0) rfl, _, rfl, t, _, 1, .int v, rfl, rfl, hT, atI_nat (j := 1) rfl, z, u, v, rfl, wu, wv, hz, ?_⟩
        refine ⟨rfl, _, rfl, ?_⟩
        rw [ne_self]
        exact iteF ⟨_, _, rfl, sm2⟩
      · rintro σ H'' ⟨z4, z5, rfl, sm2⟩
        exact ⟨_, _, _, rfl, sm.trans (k1.trans (k2.trans (k3.trans (k4.trans sm2))))⟩
    · rintro σ H3 ⟨y3, y4, y5, rfl, sm⟩
      have s3 : Same H H3 := s02.trans ((same_new np).trans sm)
      refine ⟨_, rfl, l, ns, 2, rfl, s3.seq hS, fun n2 => ?_⟩
      refine ⟨_, rfl, _, rfl, _, rfl, _, rfl, _, rfl, _, rfl, _, _, rfl, rfl, _, rfl, _, rfl, _, _, rfl, rfl, .inl ⟨by have := wa.1; omega, by have := wa.2; omega⟩, by show 5 ≤ sizeLine; decide, fun p3 np3 => ⟨p3, rfl, ⟨_, SqL.of upd_same⟩, ?_⟩⟩
      refine for_list (xs := [n2, -n2, a, b - a, a * b].map V.int) (fun i σ H' => ∃ y5 y7, σ = [some (.ref l), some (.int a), some (.int b), y3, y4, y5, some (.int n2), y7, none, none] ∧ Same (upd H3 p3 (.lst ([n2, -n2, a, b - a, a * b].map V.int))) H') ⟨y5, none, rfl, Same.refl _⟩
        (fun i σ H' _ ⟨_, _, _, sm⟩ => SqL.of (sm _ _ upd_same)) ?_ ?_
      · rintro j x σ H' hj ⟨z5, z7, rfl, sm2⟩
        obtain ⟨n, rfl⟩ : ∃ n : Int, x = .int n := by
          obtain ⟨n, _, e⟩ := List.mem_map.mp (List.mem_of_getElem? hj)
          exact ⟨n, e.symm⟩
        refine ⟨_, rfl, n, rfl, ?_⟩
        refine ⟨_, rfl, n % 4294967296, rfl, true, rfl, iteF ?_⟩
        refine ⟨_, rfl, _, rfl, .inl ⟨_, rfl, _, _, rfl, rfl, (by show (0 : Int) < 4294967296; decide), rfl, _, rfl, ?_⟩⟩
        rw [ne_self]
        exact iteF ⟨_, _, rfl, sm2⟩
      · rintro σ H4 ⟨z5, z7, rfl, sm2⟩
        -- for w in [a, b]
        refine ⟨_, rfl, _, rfl, by show 2 ≤ sizeLine; decide, fun p4 np4 => ⟨p4, rfl, ⟨_, SqL.of upd_same⟩, ?_⟩⟩
        refine for_list (xs := [a, b].map V.int) (fun i σ H' => ∃ y5 y8 y9, σ = [some (.ref l), some (.int a), some (.int b), y3, y4, y5, some (.int n2), z7, y8, y9] ∧ Same (upd H4 p4 (.lst ([a, b].map V.int))) H') ⟨z5, none, none, rfl, Same.refl _⟩
          (fun i σ H' _ ⟨_, _, _, _, sm⟩ => SqL.of (sm _ _ upd_same)) ?_ ?_
        · rintro j x σ H' hj ⟨x5, x8, x9, rfl, sm3⟩
          obtain ⟨n, rfl⟩ : ∃ n : Int, x = .int n := by
            obtain ⟨n, _, e⟩ := List.mem_map.mp (List.mem_of_getElem? hj)
            exact ⟨n, e.symm⟩
          refine ⟨_, rfl, n, rfl, ?_⟩
          refine ⟨_, rfl, ?_⟩
          refine ⟨_, rfl, _, _, rfl, rfl, _, rfl, ite2 (fun c => ?_) (fun c => ?_)⟩
          · have e : sg n = n - 4294967296 := if_neg (by have := of_decide_eq_true c; omega)
            refine ⟨_, rfl, _, _, rfl, rfl, ?_⟩
            refine ⟨_, rfl, sg n, rfl, true, rfl, iteF ?_⟩
            refine ⟨_, rfl, _, rfl, rfl, _, rfl, ?_⟩
            rw [e, ne_self]
            refine iteF ?_
            refine ⟨_, rfl, "neg", n, rfl, by simp, ?_⟩
            refine ⟨_, rfl, alt "neg" n, rfl, true, rfl, iteF ?_⟩
            refine ⟨_, rfl, _, rfl, _, _, rfl, rfl, .inl ⟨_, rfl, _, _, rfl, rfl, (by show (0 : Int) < 4294967296; decide), rfl, _, rfl, ?_⟩⟩
            have e2 : alt "neg" n = (0 - n) % 4294967296 := by
              show (-n) % 4294967296 = _
              rw [Int.zero_sub]
            rw [e2, ne_self]
            exact iteF ⟨_, _, _, rfl, sm3⟩
          · have e : sg n = n := if_pos (by have h2 : ¬ (2147483648 ≤ n) := fun h => c (decide_eq_true h); omega)
            refine ⟨_, rfl, sg n, rfl, true, rfl, iteF ?_⟩
            refine ⟨_, rfl, _, rfl, rfl, _, rfl, ?_⟩
            rw [e, ne_self]
            refine iteF ?_
            refine ⟨_, rfl, "neg", n, rfl, by simp, ?_⟩
            refine ⟨_, rfl, alt "neg" n, rfl, true, rfl, iteF ?_⟩
            refine ⟨_, rfl, _, rfl, _, _, rfl, rfl, .inl ⟨_, rfl, _, _, rfl, rfl, (by show (0 : Int) < 4294967296; decide), rfl, _, rfl, ?_⟩⟩
            have e2 : alt "neg" n = (0 - n) % 4294967296 := by
              show (-n) % 4294967296 = _
              rw [Int.zero_sub]
            rw [e2, ne_self]
            exact iteF ⟨_, _, _, rfl, sm3⟩
        · rintro σ H5 ⟨x5, x8, x9, rfl, sm3⟩
          exact q _
end
def top_mk {K : PySem.W.Frag} {h : Heap} {mg : Str → Option Value} (X : K.In h) (G : h.Ns mainGlobals mg)
    {a_wrap : Addr} {od_wrap an_wrap : Option Addr} {sl_wrap : Array (Option Value)} {oc_wrap kV_wrap dc_wrap pm_wrap cd_wrap ct_wrap : Value}
    {a_signed : Addr} {od_signed an_signed : Option Addr} {sl_signed : Array (Option Value)} {oc_signed kV_signed dc_signed pm_signed cd_signed ct_signed : Value}
    {a__holds : Addr} {od__holds an__holds : Option Addr} {sl__holds : Array (Option Value)} {oc__holds kV__holds dc__holds pm__holds cd__holds ct__holds : Value}
    {a_combine : Addr} {od_combine an_combine : Option Addr} {sl_combine : Array (Option Value)} {oc_combine kV_combine dc_combine pm_combine cd_combine ct_combine : Value}
    {a_alter : Addr} {od_alter an_alter : Option Addr} {sl_alter : Array (Option Value)} {oc_alter kV_alter dc_alter pm_alter cd_alter ct_alter : Value}
    {a__law_is_integer : Addr} {od__law_is_integer an__law_is_integer : Option Addr} {sl__law_is_integer : Array (Option Value)} {oc__law_is_integer kV__law_is_integer dc__law_is_integer pm__law_is_integer cd__law_is_integer ct__law_is_integer : Value}
    {a__law_cell : Addr} {od__law_cell an__law_cell : Option Addr} {sl__law_cell : Array (Option Value)} {oc__law_cell kV__law_cell dc__law_cell pm__law_cell cd__law_cell ct__law_cell : Value}
    {a__law_word : Addr} {od__law_word an__law_word : Option Addr} {sl__law_word : Array (Option Value)} {oc__law_word kV__law_word dc__law_word pm__law_word cd__law_word ct__law_word : Value}
    {a__law_due : Addr} {od__law_due an__law_due : Option Addr} {sl__law_due : Array (Option Value)} {oc__law_due kV__law_due dc__law_due pm__law_due cd__law_due ct__law_due : Value}
    {a_law : Addr} {od_law an_law : Option Addr} {sl_law : Array (Option Value)} {oc_law kV_law dc_law pm_law cd_law ct_law : Value}
    {t_WORDS : Tok}
    {t_SIGN_BIT : Tok}
    {t_GREATEST_WORD : Tok}
    (n_wrap : PySem.W.nsIn K mainGlobals "wrap" = some (some (.ref a_wrap)))
    (l_wrap : K.lookup a_wrap = some ⟨oc_wrap, od_wrap, .func (PySem.W.fnOf "wrap" "wrap" (defArgs s_wrap) (defBody s_wrap) (defScope s_wrap) .none kV_wrap dc_wrap pm_wrap an_wrap cd_wrap ct_wrap), sl_wrap⟩)
    (c_wrap : PySem.W.codeIn K cd_wrap "wrap" = true)
    (k_wrap : PySem.W.keepIn K (.ref a_wrap) = true)
    (n_signed : PySem.W.nsIn K mainGlobals "signed" = some (some (.ref a_signed)))
    (l_signed : K.lookup a_signed = some ⟨oc_signed, od_signed, .func (PySem.W.fnOf "signed" "signed" (defArgs s_signed) (defBody s_signed) (defScope s_signed) .none kV_signed dc_signed pm_signed an_signed cd_signed ct_signed), sl_signed⟩)
    (c_signed : PySem.W.codeIn K cd_signed "signed" = true)
    (k_signed : PySem.W.keepIn K (.ref a_signed) = true)
    (n__holds : PySem.W.nsIn K mainGlobals "_holds" = some (some (.ref a__holds)))
    (l__holds : K.lookup a__holds = some ⟨oc__holds, od__holds, .func (PySem.W.fnOf "_holds" "_holds" (defArgs s__holds) (defBody s__holds) (defScope s__holds) .none kV__holds dc__holds pm__holds an__holds cd__holds ct__holds), sl__holds⟩)
    (c__holds : PySem.W.codeIn K cd__holds "_holds" = true)
    (k__holds : PySem.W.keepIn K (.ref a__holds) = true)
    (n_combine : PySem.W.nsIn K mainGlobals "combine" = some (some (.ref a_combine)))
    (l_combine : K.lookup a_combine = some ⟨oc_combine, od_combine, .func (PySem.W.fnOf "combine" "combine" (defArgs s_combine) (defBody s_combine) (defScope s_combine) .none kV_combine dc_combine pm_combine an_combine cd_combine ct_combine), sl_combine⟩)
    (c_combine : PySem.W.codeIn K cd_combine "combine" = true)
    (k_combine : PySem.W.keepIn K (.ref a_combine) = true)
    (n_alter : PySem.W.nsIn K mainGlobals "alter" = some (some (.ref a_alter)))
    (l_alter : K.lookup a_alter = some ⟨oc_alter, od_alter, .func (PySem.W.fnOf "alter" "alter" (defArgs s_alter) (defBody s_alter) (defScope s_alter) .none kV_alter dc_alter pm_alter an_alter cd_alter ct_alter), sl_alter⟩)
    (c_alter : PySem.W.codeIn K cd_alter "alter" = true)
    (k_alter : PySem.W.keepIn K (.ref a_alter) = true)
    (n__law_is_integer : PySem.W.nsIn K mainGlobals "_law_is_integer" = some (some (.ref a__law_is_integer)))
    (l__law_is_integer : K.lookup a__law_is_integer = some ⟨oc__law_is_integer, od__law_is_integer, .func (PySem.W.fnOf "_law_is_integer" "_law_is_integer" (defArgs s__law_is_integer) (defBody s__law_is_integer) (defScope s__law_is_integer) .none kV__law_is_integer dc__law_is_integer pm__law_is_integer an__law_is_integer cd__law_is_integer ct__law_is_integer), sl__law_is_integer⟩)
    (c__law_is_integer : PySem.W.codeIn K cd__law_is_integer "_law_is_integer" = true)
    (k__law_is_integer : PySem.W.keepIn K (.ref a__law_is_integer) = true)
    (n__law_cell : PySem.W.nsIn K mainGlobals "_law_cell" = some (some (.ref a__law_cell)))
    (l__law_cell : K.lookup a__law_cell = some ⟨oc__law_cell, od__law_cell, .func (PySem.W.fnOf "_law_cell" "_law_cell" (defArgs s__law_cell) (defBody s__law_cell) (defScope s__law_cell) .none kV__law_cell dc__law_cell pm__law_cell an__law_cell cd__law_cell ct__law_cell), sl__law_cell⟩)
    (c__law_cell : PySem.W.codeIn K cd__law_cell "_law_cell" = true)
    (k__law_cell : PySem.W.keepIn K (.ref a__law_cell) = true)
    (n__law_word : PySem.W.nsIn K mainGlobals "_law_word" = some (some (.ref a__law_word)))
    (l__law_word : K.lookup a__law_word = some ⟨oc__law_word, od__law_word, .func (PySem.W.fnOf "_law_word" "_law_word" (defArgs s__law_word) (defBody s__law_word) (defScope s__law_word) .none kV__law_word dc__law_word pm__law_word an__law_word cd__law_word ct__law_word), sl__law_word⟩)
    (c__law_word : PySem.W.codeIn K cd__law_word "_law_word" = true)
    (k__law_word : PySem.W.keepIn K (.ref a__law_word) = true)
    (n__law_due : PySem.W.nsIn K mainGlobals "_law_due" = some (some (.ref a__law_due)))
    (l__law_due : K.lookup a__law_due = some ⟨oc__law_due, od__law_due, .func (PySem.W.fnOf "_law_due" "_law_due" (defArgs s__law_due) (defBody s__law_due) (defScope s__law_due) .none kV__law_due dc__law_due pm__law_due an__law_due cd__law_due ct__law_due), sl__law_due⟩)
    (c__law_due : PySem.W.codeIn K cd__law_due "_law_due" = true)
    (k__law_due : PySem.W.keepIn K (.ref a__law_due) = true)
    (n_law : PySem.W.nsIn K mainGlobals "law" = some (some (.ref a_law)))
    (l_law : K.lookup a_law = some ⟨oc_law, od_law, .func (PySem.W.fnOf "law" "law" (defArgs s_law) (defBody s_law) (defScope s_law) .none kV_law dc_law pm_law an_law cd_law ct_law), sl_law⟩)
    (c_law : PySem.W.codeIn K cd_law "law" = true)
    (k_law : PySem.W.keepIn K (.ref a_law) = true)
    (z_bool : PySem.W.nsIn K mainGlobals "bool" = some none)
    (z_isinstance : PySem.W.nsIn K mainGlobals "isinstance" = some none)
    (z_int : PySem.W.nsIn K mainGlobals "int" = some none)
    (z_len : PySem.W.nsIn K mainGlobals "len" = some none)
    (v_WORDS : PySem.W.nsIn K mainGlobals "WORDS" = some (some (.int 4294967296 t_WORDS)))
    (v_SIGN_BIT : PySem.W.nsIn K mainGlobals "SIGN_BIT" = some (some (.int 2147483648 t_SIGN_BIT)))
    (v_GREATEST_WORD : PySem.W.nsIn K mainGlobals "GREATEST_WORD" = some (some (.int 4294967295 t_GREATEST_WORD))) :
    Top K mg :=
  { a_wrap := a_wrap,
    d_wrap := _,
    F_wrap := fun_mk (st := s_wrap) l_wrap c_wrap k_wrap,
    g_wrap := PySem.W.mg_of X G n_wrap,
    b_wrap := (fun_mk (st := s_wrap) l_wrap c_wrap k_wrap).binds (ps := ["n"]) fun _ _ _ _ _ _ us hl => match us, hl with | [_], _ => rfl,
    a_signed := a_signed,
    d_signed := _,
    F_signed := fun_mk (st := s_signed) l_signed c_signed k_signed,
    g_signed := PySem.W.mg_of X G n_signed,
    b_signed := (fun_mk (st := s_signed) l_signed c_signed k_signed).binds (ps := ["w"]) fun _ _ _ _ _ _ us hl => match us, hl with | [_], _ => rfl,
    a__holds := a__holds,
    d__holds := _,
    F__holds := fun_mk (st := s__holds) l__holds c__holds k__holds,
    g__holds := PySem.W.mg_of X G n__holds,
    b__holds := (fun_mk (st := s__holds) l__holds c__holds k__holds).binds (ps := ["operator", "a", "b"]) fun _ _ _ _ _ _ us hl => match us, hl with | [_, _, _], _ => rfl,
    a_combine := a_combine,
    d_combine := _,
    F_combine := fun_mk (st := s_combine) l_combine c_combine k_combine,
    g_combine := PySem.W.mg_of X G n_combine,
    b_combine := (fun_mk (st := s_combine) l_combine c_combine k_combine).binds (ps := ["operator", "a", "b"]) fun _ _ _ _ _ _ us hl => match us, hl with | [_, _, _], _ => rfl,
    a_alter := a_alter,
    d_alter := _,
    F_alter := fun_mk (st := s_alter) l_alter c_alter k_alter,
    g_alter := PySem.W.mg_of X G n_alter,
    b_alter := (fun_mk (st := s_alter) l_alter c_alter k_alter).binds (ps := ["operator", "a"]) fun _ _ _ _ _ _ us hl => match us, hl with | [_, _], _ => rfl,
    a__law_is_integer := a__law_is_integer,
    d__law_is_integer := _,
    F__law_is_integer := fun_mk (st := s__law_is_integer) l__law_is_integer c__law_is_integer k__law_is_integer,
    g__law_is_integer := PySem.W.mg_of X G n__law_is_integer,
    b__law_is_integer := (fun_mk (st := s__law_is_integer) l__law_is_integer c__law_is_integer k__law_is_integer).binds (ps := ["actual"]) fun _ _ _ _ _ _ us hl => match us, hl with | [_], _ => rfl,
    a__law_cell := a__law_cell,
    d__law_cell := _,
    F__law_cell := fun_mk (st := s__law_cell) l__law_cell c__law_cell k__law_cell,
    g__law_cell := PySem.W.mg_of X G n__law_cell,
    b__law_cell := (fun_mk (st := s__law_cell) l__law_cell c__law_cell k__law_cell).binds (ps := ["script", "k"]) fun _ _ _ _ _ _ us hl => match us, hl with | [_, _], _ => rfl,
    a__law_word := a__law_word,
    d__law_word := _,
    F__law_word := fun_mk (st := s__law_word) l__law_word c__law_word k__law_word,
    g__law_word := PySem.W.mg_of X G n__law_word,
    b__law_word := (fun_mk (st := s__law_word) l__law_word c__law_word k__law_word).binds (ps := ["cell"]) fun _ _ _ _ _ _ us hl => match us, hl with | [_], _ => rfl,
    a__law_due := a__law_due,
    d__law_due := _,
    F__law_due := fun_mk (st := s__law_due) l__law_due c__law_due k__law_due,
    g__law_due := PySem.W.mg_of X G n__law_due,
    b__law_due := (fun_mk (st := s__law_due) l__law_due c__law_due k__law_due).binds (ps := ["operator", "a", "b"]) fun _ _ _ _ _ _ us hl => match us, hl with | [_, _, _], _ => rfl,
    a_law := a_law,
    d_law := _,
    F_law := fun_mk (st := s_law) l_law c_law k_law,
    g_law := PySem.W.mg_of X G n_law,
    b_law := (fun_mk (st := s_law) l_law c_law k_law).binds (ps := ["script"]) fun _ _ _ _ _ _ us hl => match us, hl with | [_], _ => rfl,
    m_bool := PySem.W.mg_none_of X G z_bool,
    m_isinstance := PySem.W.mg_none_of X G z_isinstance,
    m_int := PySem.W.mg_none_of X G z_int,
    m_len := PySem.W.mg_none_of X G z_len,
    t_WORDS := t_WORDS,
    c_WORDS := PySem.W.mg_of X G v_WORDS,
    t_SIGN_BIT := t_SIGN_BIT,
    c_SIGN_BIT := PySem.W.mg_of X G v_SIGN_BIT,
    t_GREATEST_WORD := t_GREATEST_WORD,
    c_GREATEST_WORD := PySem.W.mg_of X G v_GREATEST_WORD }
theorem all_mk {l : PySem.W.OpenLaw} {w : World} {K : PySem.W.Frag} {mg : Str → Option Value} {fa : Addr} (T : Top K mg) (hfa : mg "law" = some (.ref fa)) :
    ∃ fd : FuncData, (∀ (s : Shared) (v : Value), BindsTo s fd ⟨[v], []⟩ [("script", v)]) ∧ ∀ base : Heap, K.In base → base.Ns mainGlobals mg → FnOk l.prog w K mg base CX0 4 fa fd ["script"] (sp_law K) := by
  have e := hfa.symm.trans T.g_law
  cases e
  refine ⟨T.d_law, fun s v => ?_, fun base _ _ => ok_law T⟩
  obtain ⟨oc, od, kV, doc, pm, an, cdv, ct, osl, e, lk, hcd⟩ := T.F_law.ex
  rw [e]
  exact .of_eq rfl
end Mine
open PySem PySem.W PyProof.Rows
set_option maxHeartbeats 0 in
theorem PySem.Challenge.cw_deadbeat_k01_arithmetic_of_words_holds : PySem.Challenge.rw_deadbeat_k01_arithmetic_of_words.Holds := by
  w_on; o_law; k_head; (case hw => w_witness2)
  k_fill
  refine L2.walk_of (l := PySem.Challenge.rw_deadbeat_k01_arithmetic_of_words) (n := 63) (k := 4) (x := "script") (CX := fun _ => L2.CX0) (sp := fun w => Mine.sp_law _) rfl (by decide) rfl ⟨rfl, by decide, by decide⟩ (fun w h Y => PySem.W.kIn_of Y) ?F (fun _ _ a ns hl _ hS => ⟨a, ns, rfl, hS, hl, fun _ => rfl⟩) (fun _ _ _ _ _ h => h)
  case F =>
    intro w mg fa h KX G hmg
    refine' Mine.all_mk (Mine.top_mk KX G ?n_wrap ?l_wrap ?c_wrap ?k_wrap ?n_signed ?l_signed ?c_signed ?k_signed ?n__holds ?l__holds ?c__holds ?k__holds ?n_combine ?l_combine ?c_combine ?k_combine ?n_alter ?l_alter ?c_alter ?k_alter ?n__law_is_integer ?l__law_is_integer ?c__law_is_integer ?k__law_is_integer ?n__law_cell ?l__law_cell ?c__law_cell ?k__law_cell ?n__law_word ?l__law_word ?c__law_word ?k__law_word ?n__law_due ?l__law_due ?c__law_due ?k__law_due ?n_law ?l_law ?c_law ?k_law ?z_bool ?z_isinstance ?z_int ?z_len ?v_WORDS ?v_SIGN_BIT ?v_GREATEST_WORD) hmg
    (case n_wrap => k_is); (case l_wrap => k_is); (case c_wrap => k_is); (case k_wrap => k_is); (case n_signed => k_is); (case l_signed => k_is); (case c_signed => k_is); (case k_signed => k_is); (case n__holds => k_is); (case l__holds => k_is); (case c__holds => k_is); (case k__holds => k_is); (case n_combine => k_is); (case l_combine => k_is); (case c_combine => k_is); (case k_combine => k_is); (case n_alter => k_is); (case l_alter => k_is); (case c_alter => k_is); (case k_alter => k_is); (case n__law_is_integer => k_is); (case l__law_is_integer => k_is); (case c__law_is_integer => k_is); (case k__law_is_integer => k_is); (case n__law_cell => k_is); (case l__law_cell => k_is); (case c__law_cell => k_is); (case k__law_cell => k_is); (case n__law_word => k_is); (case l__law_word => k_is); (case c__law_word => k_is); (case k__law_word => k_is); (case n__law_due => k_is); (case l__law_due => k_is); (case c__law_due => k_is); (case k__law_due => k_is); (case n_law => k_is); (case l_law => k_is); (case c_law => k_is); (case k_law => k_is); (case z_bool => k_is); (case z_isinstance => k_is); (case z_int => k_is); (case z_len => k_is); (case v_WORDS => k_is); (case v_SIGN_BIT => k_is); (case v_GREATEST_WORD => k_is)
