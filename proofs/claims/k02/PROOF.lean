import PyProof.Rows.All
import Wide.All
import OpenK.AllK
import Wide.FinOn
import PyProof.RulesMatch
import HandS.Base
import HandS.Call
import HandS.Words
import HandS.IsInst
import KE.BitLaws
import PySem.Challenge.RW_deadbeat_k02_bits_and_comparisons_of_wor
import HandS.ForMost
import HandS.Wide
set_option Elab.async false
set_option linter.all false
set_option maxRecDepth 100000
namespace L2
open PySem PySem.Spec PyProof.Rows
/-- the cases of a match over texts: a written text or whatever is left, and what is done -/
def tCases (z : Str) : List (Option Str × TS) → TS
  | [] => fun D σ H => D.nx σ H
  | (none, t) :: _ => t
  | (some c, t) :: r => fun D σ H => if z = c then t D σ H else tCases z r D σ H
def tMatch (te : TE) (l : List (Option Str × TS)) : TS := fun D σ H => te σ H fun x H1 => ∃ z : Str, x = .str z ∧ tCases z l D σ H1
inductive PCs (X : Cx) : List MatchCase → List (Option Str × TS) → Prop
  | nil : PCs X [] []
  | rest {body : List Stmt} {t : TS} {p : Pos} {r : List MatchCase} : PSs X body t → PCs X (⟨.MatchAs none none p, none, body⟩ :: r) [(none, t)]
  | text {body : List Stmt} {t : TS} {c : Str} {j : Nat} {p p2 : Pos} {r : List MatchCase} {l : List (Option Str × TS)} : PSs X body t → PCs X r l →
      PCs X (⟨.MatchValue (.Constant (.str c) j p) p2, none, body⟩ :: r) ((some c, t) :: l)
theorem run_cases {X : Cx} {z : Str} {u : Value} (ru : RelV (.str z) u) : ∀ {cs : List MatchCase} {l : List (Option Str × TS)}, PCs X cs l → ∀ (first : Bool) (pins : List (Addr × Obj)) (s : Shared) (σ : St) (H : Hp) (D : Ends), Inv X pins σ H s → tCases z l D σ H →
    wpAny (model X.prog X.w) X.A (matchCases cs X.env u first) (SP X pins D) X.xe s
  | _, _, .nil, first, pins, s, σ, H, D, I, h => wpAny_matchCases_nil ⟨σ, H, I, h⟩
  | _, _, .rest hb, first, pins, s, σ, H, D, I, h => by
    refine wpAny_matchCases_cons (wpAny_matchPattern_Capture ?_)
    exact wpAny_assignInOrder_none (hb.run pins s σ H D I h)
  | _, _, .text (c := c) (l := l) hb hr, first, pins, s, σ, H, D, I, h => by
    refine wpAny_matchCases_cons (wpAny_matchPattern_Value ?_)
    refine thn ((pe_str (X := X) (x := c)).run pins s σ H (fun v H' => v = .str c ∧ H' = H) I ⟨rfl, rfl⟩) fun v s1 hh => ?_
    obtain ⟨x, H1, I1, rx, ex, eH⟩ := hh
    subst ex
    subst eH
    refine thn (op_eq pins s1 σ H1 (.str z) (.str c) u v (fun y H' => y = .bl (decide (V.str z = V.str c)) ∧ H' = H1) I1 ru rx ⟨rfl, rfl, rfl⟩) fun y s2 hh => ?_
    obtain ⟨x, H2, I2, rx2, ex, eH⟩ := hh
    subst ex
    subst eH
    cases rx2
    refine wpAny_truthy_bool ?_
    have h' : (if z = c then _ else _) := h
    by_cases e : z = c
    · rw [if_pos e] at h'
      rw [decide_eq_true (by rw [e])]
      exact wpAny_assignInOrder_none (hb.run pins s2 σ H2 D I2 h')
    · rw [if_neg e] at h'
      rw [decide_eq_false (fun q => e (by injection q))]
      exact run_cases ru hr false pins s2 σ H2 D I2 h'
theorem ps_match {X : Cx} {e : Expr} {te : TE} {cs : List MatchCase} {l : List (Option Str × TS)} {pos : Pos} (he : PE X e te) (hc : PCs X cs l) : PS X (.Match e cs pos) (tMatch te l) := by
  refine ⟨fun pins s σ H D I h => wpAny_Match ?_⟩
  refine thn (he.run pins s σ H _ I h) fun u s1 hh => ?_
  obtain ⟨x, H1, I1, rx, z, ez, hz⟩ := hh
  subst ez
  exact run_cases rx hc true pins s1 σ H1 D I1 hz
/-- a module's constant: an int, a text, an object -/
theorem pe_gi {X : Cx} {x : Str} {n : Int} {t : Tok} {pos : Pos} (hg : Gl X x) (hm : X.mg x = some (.int n t)) (hd : (x == ("__debug__" : Str)) = false := by decide) : PE X (.Name x pos) (tC (.int n)) := pe_glob hg hm ⟨_, rfl⟩ hd
theorem pe_gs {X : Cx} {x : Str} {z : Str} {t : Tok} {pos : Pos} (hg : Gl X x) (hm : X.mg x = some (.str z t)) (hd : (x == ("__debug__" : Str)) = false := by decide) : PE X (.Name x pos) (tC (.str z)) := pe_glob hg hm ⟨_, rfl⟩ hd
theorem pe_gr {X : Cx} {x : Str} {a : Addr} {pos : Pos} (hg : Gl X x) (hm : X.mg x = some (.ref a)) (hd : (x == ("__debug__" : Str)) = false := by decide) : PE X (.Name x pos) (tC (.ref a)) := pe_glob (v := .ref a) hg hm rfl hd
/-- a built-in type as a value -/
theorem pe_ty {X : Cx} {x : Str} {T : String} {pos : Pos} (hg : Gl X x) (hm : X.mg x = none) (hv : bootBuiltins x = some (.type T)) (hn : x ≠ "__name__" := by decide) (hd : (x == ("__debug__" : Str)) = false := by decide) : PE X (.Name x pos) (tC (.ty T)) :=
  ⟨fun _ s _ H _ I h => ld_blt I hg hm hv ⟨.ty T, H, I, rfl, h⟩ hn hd⟩
/-- isinstance of a plain value and a built-in type -/
theorem isi_int {K : PySem.W.Frag} {H : Hp} {Q : VK} {i : Int} (q : Q (.bl true) H) : rIsi K [.int i, .ty "int"] H Q := ⟨_, _, _, _, true, rfl, .ty _, .base (.int _), kit_ty (by decide +kernel), q⟩
theorem isi_int_bool {K : PySem.W.Frag} {H : Hp} {Q : VK} {i : Int} (q : Q (.bl false) H) : rIsi K [.int i, .ty "bool"] H Q := ⟨_, _, _, _, false, rfl, .ty _, .base (.int _), kit_ty (by decide +kernel), q⟩
theorem Same.none {H H' : Hp} (e : Same H H') {p : Addr} (h : H' p = Option.none) : H p = Option.none := Same.free e h
theorem same_new {H : Hp} {p : Addr} {o : HO} (h : H p = Option.none) : Same H (upd H p o) := fun b x e => by
  rw [upd_ne (ne_of_none e h)]
  exact e
end L2

set_option Elab.async false
set_option linter.all false
set_option maxRecDepth 100000
set_option maxHeartbeats 4000000
namespace Mine
open PySem PySem.Spec PyProof.Rows L2
/-! ### the text -/
def topS (i : Nat) : Stmt := PySem.Challenge.pw_deadbeat_k02_bits_and_comparisons_of_wor.main.body.getD i (.Pass ⟨0, 0, 0, 0⟩)
abbrev s_wrap : Stmt := topS 4
theorem sc_wrap : FnScope ["n"] ["n"] (defScope s_wrap) := ⟨rfl, rfl, rfl, by decide +kernel, rfl, by decide +kernel, by decide +kernel⟩
abbrev s_signed : Stmt := topS 5
theorem sc_signed : FnScope ["w"] ["w"] (defScope s_signed) := ⟨rfl, rfl, rfl, by decide +kernel, rfl, by decide +kernel, by decide +kernel⟩
abbrev s__holds : Stmt := topS 7
theorem sc__holds : FnScope ["operator", "a", "b"] ["operator", "a", "b"] (defScope s__holds) := ⟨rfl, rfl, rfl, by decide +kernel, rfl, by decide +kernel, by decide +kernel⟩
abbrev s_combine : Stmt := topS 6
theorem sc_combine : FnScope ["operator", "a", "b"] ["operator", "a", "b"] (defScope s_combine) := ⟨rfl, rfl, rfl, by decide +kernel, rfl, by decide +kernel, by decide +kernel⟩
abbrev s_alter : Stmt := topS 8
theorem sc_alter : FnScope ["operator", "a"] ["operator", "a"] (defScope s_alter) := ⟨rfl, rfl, rfl, by decide +kernel, rfl, by decide +kernel, by decide +kernel⟩
abbrev s__law_is_integer : Stmt := topS 10
theorem sc__law_is_integer : FnScope ["actual"] ["actual"] (defScope s__law_is_integer) := ⟨rfl, rfl, rfl, by decide +kernel, rfl, by decide +kernel, by decide +kernel⟩
abbrev s__law_cell : Stmt := topS 11
theorem sc__law_cell : FnScope ["script", "k"] ["script", "k"] (defScope s__law_cell) := ⟨rfl, rfl, rfl, by decide +kernel, rfl, by decide +kernel, by decide +kernel⟩
abbrev s__law_word : Stmt := topS 12
theorem sc__law_word : FnScope ["cell", "edges"] ["cell"] (defScope s__law_word) := ⟨rfl, rfl, rfl, by decide +kernel, rfl, by decide +kernel, by decide +kernel⟩
abbrev s__law_bits : Stmt := topS 13
theorem sc__law_bits : FnScope ["operator", "a", "b", "total", "k", "left", "right", "bit"] ["operator", "a", "b"] (defScope s__law_bits) := ⟨rfl, rfl, rfl, by decide +kernel, rfl, by decide +kernel, by decide +kernel⟩
abbrev s__law_shift : Stmt := topS 14
theorem sc__law_shift : FnScope ["operator", "a", "b", "k"] ["operator", "a", "b"] (defScope s__law_shift) := ⟨rfl, rfl, rfl, by decide +kernel, rfl, by decide +kernel, by decide +kernel⟩
abbrev s__law_sign : Stmt := topS 15
theorem sc__law_sign : FnScope ["w"] ["w"] (defScope s__law_sign) := ⟨rfl, rfl, rfl, by decide +kernel, rfl, by decide +kernel, by decide +kernel⟩
abbrev s__law_truth : Stmt := topS 16
theorem sc__law_truth : FnScope ["operator", "a", "b"] ["operator", "a", "b"] (defScope s__law_truth) := ⟨rfl, rfl, rfl, by decide +kernel, rfl, by decide +kernel, by decide +kernel⟩
abbrev s__law_same : Stmt := topS 17
theorem sc__law_same : FnScope ["actual", "due"] ["actual", "due"] (defScope s__law_same) := ⟨rfl, rfl, rfl, by decide +kernel, rfl, by decide +kernel, by decide +kernel⟩
abbrev s_law : Stmt := topS 18
theorem sc_law : FnScope ["script", "a", "b", "pair", "operator", "due", "w"] ["script"] (defScope s_law) := ⟨rfl, rfl, rfl, by decide +kernel, rfl, by decide +kernel, by decide +kernel⟩
structure Top (K : PySem.W.Frag) (mg : Str → Option Value) where
  a_wrap : Addr
  d_wrap : FuncData
  F_wrap : Fun K "wrap" "wrap" s_wrap a_wrap d_wrap
  g_wrap : mg "wrap" = some (.ref a_wrap)
  b_wrap : Binds K d_wrap ["n"] []
  a_signed : Addr
  d_signed : FuncData
  F_signed : Fun K "signed" "signed" s_signed a_signed d_signed
  g_signed : mg "signed" = some (.ref a_signed)
  b_signed : Binds K d_signed ["w"] []
  a__holds : Addr
  d__holds : FuncData
  F__holds : Fun K "_holds" "_holds" s__holds a__holds d__holds
  g__holds : mg "_holds" = some (.ref a__holds)
  b__holds : Binds K d__holds ["operator", "a", "b"] []
  a_combine : Addr
  d_combine : FuncData
  F_combine : Fun K "combine" "combine" s_combine a_combine d_combine
  g_combine : mg "combine" = some (.ref a_combine)
  b_combine : Binds K d_combine ["operator", "a", "b"] []
  a_alter : Addr
  d_alter : FuncData
  F_alter : Fun K "alter" "alter" s_alter a_alter d_alter
  g_alter : mg "alter" = some (.ref a_alter)
  b_alter : Binds K d_alter ["operator", "a"] []
  a__law_is_integer : Addr
  d__law_is_integer : FuncData
  F__law_is_integer : Fun K "_law_is_integer" "_law_is_integer" s__law_is_integer a__law_is_integer d__law_is_integer
  g__law_is_integer : mg "_law_is_integer" = some (.ref a__law_is_integer)
  b__law_is_integer : Binds K d__law_is_integer ["actual"] []
  a__law_cell : Addr
  d__law_cell : FuncData
  F__law_cell : Fun K "_law_cell" "_law_cell" s__law_cell a__law_cell d__law_cell
  g__law_cell : mg "_law_cell" = some (.ref a__law_cell)
  b__law_cell : Binds K d__law_cell ["script", "k"] []
  a__law_word : Addr
  d__law_word : FuncData
  F__law_word : Fun K "_law_word" "_law_word" s__law_word a__law_word d__law_word
  g__law_word : mg "_law_word" = some (.ref a__law_word)
  b__law_word : Binds K d__law_word ["cell"] []
  a__law_bits : Addr
  d__law_bits : FuncData
  F__law_bits : Fun K "_law_bits" "_law_bits" s__law_bits a__law_bits d__law_bits
  g__law_bits : mg "_law_bits" = some (.ref a__law_bits)
  b__law_bits : Binds K d__law_bits ["operator", "a", "b"] []
  a__law_shift : Addr
  d__law_shift : FuncData
  F__law_shift : Fun K "_law_shift" "_law_shift" s__law_shift a__law_shift d__law_shift
  g__law_shift : mg "_law_shift" = some (.ref a__law_shift)
  b__law_shift : Binds K d__law_shift ["operator", "a", "b"] []
  a__law_sign : Addr
  d__law_sign : FuncData
  F__law_sign : Fun K "_law_sign" "_law_sign" s__law_sign a__law_sign d__law_sign
  g__law_sign : mg "_law_sign" = some (.ref a__law_sign)
  b__law_sign : Binds K d__law_sign ["w"] []
  a__law_truth : Addr
  d__law_truth : FuncData
  F__law_truth : Fun K "_law_truth" "_law_truth" s__law_truth a__law_truth d__law_truth
  g__law_truth : mg "_law_truth" = some (.ref a__law_truth)
  b__law_truth : Binds K d__law_truth ["operator", "a", "b"] []
  a__law_same : Addr
  d__law_same : FuncData
  F__law_same : Fun K "_law_same" "_law_same" s__law_same a__law_same d__law_same
  g__law_same : mg "_law_same" = some (.ref a__law_same)
  b__law_same : Binds K d__law_same ["actual", "due"] []
  a_law : Addr
  d_law : FuncData
  F_law : Fun K "law" "law" s_law a_law d_law
  g_law : mg "law" = some (.ref a_law)
  b_law : Binds K d_law ["script"] []
  m_bool : mg "bool" = none
  m_isinstance : mg "isinstance" = none
  m_int : mg "int" = none
  m_len : mg "len" = none
  m_range : mg "range" = none
  t_WORDS : Tok
  c_WORDS : mg "WORDS" = some (.int 4294967296 t_WORDS)
  t_SIGN_BIT : Tok
  c_SIGN_BIT : mg "SIGN_BIT" = some (.int 2147483648 t_SIGN_BIT)
  t_GREATEST_WORD : Tok
  c_GREATEST_WORD : mg "GREATEST_WORD" = some (.int 4294967295 t_GREATEST_WORD)
/-! ### the mathematics -/
def sg (w : Int) : Int := if w < 2147483648 then w else w - 4294967296
def hld (op : Str) (a b : Int) : Bool :=
  if op = "<" then decide (a < b) else if op = "<=" then decide (a ≤ b) else if op = "~<" then decide (sg a < sg b) else if op = "~<=" then decide (sg a ≤ sg b)
  else if op = "==" then decide (a = b) else if op = "!=" then decide (a ≠ b) else if op = "and" then decide (a ≠ 0 ∧ b ≠ 0) else decide (a ≠ 0 ∨ b ≠ 0)
def comb (op : Str) (a b : Int) : Int :=
  if op = "+" then (a + b) % 4294967296 else if op = "-" then (a - b) % 4294967296 else if op = "*" then (a * b) % 4294967296
  else if op = "/" then (if b = 0 then 0 else a / b) else if op = "mod" then (if b = 0 then a else a % b)
  else if op = "&" then Builtin.bitAnd a b else if op = "|" then Builtin.bitOr a b else if op = "^" then Builtin.bitXor a b
  else if op = "<<" then (a * 2 ^ (b % 32).toNat) % 4294967296 else if op = ">>" then a / 2 ^ (b % 32).toNat
  else if hld op a b = true then 1 else 0
def ops : List Str := ["+", "-", "*", "/", "mod", "&", "|", "^", "<<", ">>"]
def cmps : List Str := ["<", "<=", "~<", "~<=", "==", "!=", "and", "or"]
def Word (a : Int) : Prop := 0 ≤ a ∧ a < 4294967296
theorem word_small {b : Int} (w : Word b) : b.natAbs < 2 ^ 32 := by
  have := w.1
  have := w.2
  omega
section
variable {P : Program} {w : World} {K : PySem.W.Frag} {mg : Str → Option Value} {base : Heap}
def sp_wrap : Sp := fun vs H Q _ => ∃ n : Int, vs = [.int n] ∧ Q (.int (n % 4294967296)) H
theorem ok_wrap (T : Top K mg) : FnOk P w K mg base CX0 1 T.a_wrap T.d_wrap ["n"]  sp_wrap := by
  refine T.F_wrap.ok sc_wrap (fun vs H Q E h => ?_) (fun cdv A outer s H vs Q E hr h => ?_)
  · obtain ⟨n, rfl, _⟩ := h
    rfl
  · obtain ⟨n, rfl, q⟩ := h
    refine ⟨_, (pss_one (ps_ret (pe_op op_mod (pv 0) (pe_gi (by rfl) T.c_WORDS)))), ?_⟩
    exact ⟨_, rfl, _, _, rfl, rfl, (by show (0 : Int) < 4294967296; decide), q⟩
def sp_signed : Sp := fun vs H Q _ => ∃ n : Int, vs = [.int n] ∧ Q (.int (sg n)) H
theorem ok_signed (T : Top K mg) : FnOk P w K mg base CX0 1 T.a_signed T.d_signed ["w"]  sp_signed := by
  refine T.F_signed.ok sc_signed (fun vs H Q E h => ?_) (fun cdv A outer s H vs Q E hr h => ?_)
  · obtain ⟨n, rfl, _⟩ := h
    rfl
  · obtain ⟨n, rfl, q⟩ := h
    refine ⟨_, (pss_cons (ps_if (pt_cmpR op_lt (pv 0) (pe_gi (by rfl) T.c_SIGN_BIT) (nomark _))
  (pss_one (ps_ret (pv 0)))
  pss_nil)
  (pss_one (ps_ret (pe_op op_sub (pv 0) (pe_gi (by rfl) T.c_WORDS))))), ?_⟩
    refine ⟨_, rfl, _, _, rfl, rfl, _, rfl, ite2 (fun c => ?_) (fun c => ?_)⟩
    · have e : sg n = n := if_pos (of_decide_eq_true c)
      rw [e] at q
      exact ⟨_, rfl, q⟩
    · have e : sg n = n - 4294967296 := if_neg (fun z => c (decide_eq_true z))
      rw [e] at q
      exact ⟨_, rfl, _, _, rfl, rfl, q⟩

def sp__holds : Sp := fun vs H Q _ => ∃ (z : Str) (a b : Int), vs = [.str z, .int a, .int b] ∧ z ∈ cmps ∧ Q (.bl (hld z a b)) H
theorem int_eq {a b : Int} : decide (V.int a = V.int b) = decide (a = b) := by
  by_cases h : a = b
  · rw [h, decide_eq_true rfl, decide_eq_true rfl]
  · rw [decide_eq_false h, decide_eq_false (fun q => h (V.int.inj q))]
theorem ok__holds (T : Top K mg) : FnOk P w K mg base CX0 2 T.a__holds T.d__holds ["operator", "a", "b"]  sp__holds := by
  refine T.F__holds.ok sc__holds (fun vs H Q E h => ?_) (fun cdv A outer s H vs Q E hr h => ?_)
  · obtain ⟨_, _, _, rfl, _⟩ := h
    rfl
  · obtain ⟨z, a, b, rfl, hz, q⟩ := h
    refine ⟨_, (pss_one (ps_match (pv 0)
  (PCs.text (pss_one (ps_ret (pe_cmpR op_lt (pv 1) (pv 2) (nomark _))))
  (PCs.text (pss_one (ps_ret (pe_cmpR op_le (pv 1) (pv 2) (nomark _))))
  (PCs.text (pss_one (ps_ret (pe_cmpR op_lt (pe_call (ok_signed T) (hr.mono (by decide)) (by rfl) T.g_signed T.F_signed.kp T.b_signed .nil pass0 (pa_cons (pv 1) pa_nil)) (pe_call (ok_signed T) (hr.mono (by decide)) (by rfl) T.g_signed T.F_signed.kp T.b_signed .nil pass0 (pa_cons (pv 2) pa_nil)) (nomark _))))
  (PCs.text (pss_one (ps_ret (pe_cmpR op_le (pe_call (ok_signed T) (hr.mono (by decide)) (by rfl) T.g_signed T.F_signed.kp T.b_signed .nil pass0 (pa_cons (pv 1) pa_nil)) (pe_call (ok_signed T) (hr.mono (by decide)) (by rfl) T.g_signed T.F_signed.kp T.b_signed .nil pass0 (pa_cons (pv 2) pa_nil)) (nomark _))))
  (PCs.text (pss_one (ps_ret (pe_cmpR op_eq (pv 1) (pv 2) (nomark _))))
  (PCs.text (pss_one (ps_ret (pe_cmpR op_ne (pv 1) (pv 2) (nomark _))))
  (PCs.text (pss_one (ps_ret (pe_and (pe_cmpR op_ne (pv 1) pe_int (nomark _)) (pe_one (pe_cmpR op_ne (pv 2) pe_int (nomark _))))))
  (PCs.text (pss_one (ps_ret (pe_or (pe_cmpR op_ne (pv 1) pe_int (nomark _)) (pe_one (pe_cmpR op_ne (pv 2) pe_int (nomark _))))))
  PCs.nil)))))))))), ?_⟩
    refine ⟨_, rfl, z, rfl, ?_⟩
    refine ite2 (fun c1 => ?_) (fun c1 => ?_)
    · subst c1
      exact ⟨_, rfl, _, rfl, _, _, rfl, rfl, q⟩
    refine ite2 (fun c2 => ?_) (fun c2 => ?_)
    · subst c2
      exact ⟨_, rfl, _, rfl, _, _, rfl, rfl, q⟩
    refine ite2 (fun c3 => ?_) (fun c3 => ?_)
    · subst c3
      exact ⟨_, rfl, _, rfl, _, rfl, _, rfl, _, _, rfl, rfl, q⟩
    refine ite2 (fun c4 => ?_) (fun c4 => ?_)
    · subst c4
      exact ⟨_, rfl, _, rfl, _, rfl, _, rfl, _, _, rfl, rfl, q⟩
    refine ite2 (fun c5 => ?_) (fun c5 => ?_)
    · subst c5
      refine ⟨_, rfl, _, rfl, rfl, ?_⟩
      rw [int_eq]
      exact q
    refine ite2 (fun c6 => ?_) (fun c6 => ?_)
    · subst c6
      refine ⟨_, rfl, _, rfl, rfl, ?_⟩
      rw [int_eq]
      have e : hld "!=" a b = !decide (a = b) := by
        show decide (a ≠ b) = _
        by_cases h : a = b <;> simp [h]
      rw [e] at q
      exact q
    refine ite2 (fun c7 => ?_) (fun c7 => ?_)
    · subst c7
      refine ⟨_, rfl, rfl, _, rfl, ?_⟩
      have e : hld "and" a b = (!decide (a = 0) && !decide (b = 0)) := by
        show decide (a ≠ 0 ∧ b ≠ 0) = _
        by_cases h : a = 0 <;> by_cases h2 : b = 0 <;> simp [h, h2]
      rw [e] at q
      rw [int_eq]
      by_cases h : a = 0
      · rw [decide_eq_true h] at q ⊢
        exact iteF q
      · rw [decide_eq_false h] at q ⊢
        refine iteT ⟨_, rfl, rfl, ?_⟩
        rw [int_eq]
        exact q
    refine ite2 (fun c8 => ?_) (fun c8 => ?_)
    · subst c8
      refine ⟨_, rfl, rfl, _, rfl, ?_⟩
      have e : hld "or" a b = (!decide (a = 0) || !decide (b = 0)) := by
        show decide (a ≠ 0 ∨ b ≠ 0) = _
        by_cases h : a = 0 <;> by_cases h2 : b = 0 <;> simp [h, h2]
      rw [e] at q
      rw [int_eq]
      by_cases h : a = 0
      · rw [decide_eq_true h] at q ⊢
        refine iteF ⟨_, rfl, rfl, ?_⟩
        rw [int_eq]
        exact q
      · rw [decide_eq_false h] at q ⊢
        exact iteT q
    · simp [cmps, c1, c2, c3, c4, c5, c6, c7, c8] at hz
def sp_combine : Sp := fun vs H Q _ => ∃ (z : Str) (a b : Int), vs = [.str z, .int a, .int b] ∧ Word a ∧ Word b ∧ (z ∈ ops ∨ z ∈ cmps) ∧ Q (.int (comb z a b)) H
theorem ok_combine (T : Top K mg) : FnOk P w K mg base CX0 3 T.a_combine T.d_combine ["operator", "a", "b"]  sp_combine := by
  refine T.F_combine.ok sc_combine (fun vs H Q E h => ?_) (fun cdv A outer s H vs Q E hr h => ?_)
  · obtain ⟨_, _, _, rfl, _⟩ := h
    rfl
  · obtain ⟨z, a, b, rfl, wa, wb, hz, q⟩ := h
    refine ⟨_, (pss_one (ps_match (pv 0)
  (PCs.text (pss_one (ps_ret (pe_call (ok_wrap T) (hr.mono (by decide)) (by rfl) T.g_wrap T.F_wrap.kp T.b_wrap .nil pass0 (pa_cons (pe_op op_add (pv 1) (pv 2)) pa_nil))))
  (PCs.text (pss_one (ps_ret (pe_call (ok_wrap T) (hr.mono (by decide)) (by rfl) T.g_wrap T.F_wrap.kp T.b_wrap .nil pass0 (pa_cons (pe_op op_sub (pv 1) (pv 2)) pa_nil))))
  (PCs.text (pss_one (ps_ret (pe_call (ok_wrap T) (hr.mono (by decide)) (by rfl) T.g_wrap T.F_wrap.kp T.b_wrap .nil pass0 (pa_cons (pe_op op_mul (pv 1) (pv 2)) pa_nil))))
  (PCs.text (pss_one (ps_ret (pe_ifExp (pt_cmpR op_eq (pv 2) pe_int (nomark _)) pe_int (pe_op op_fdivW (pv 1) (pv 2)))))
  (PCs.text (pss_one (ps_ret (pe_ifExp (pt_cmpR op_eq (pv 2) pe_int (nomark _)) (pv 1) (pe_op op_mod (pv 1) (pv 2)))))
  (PCs.text (pss_one (ps_ret (pe_op op_and (pv 1) (pv 2))))
  (PCs.text (pss_one (ps_ret (pe_op op_or (pv 1) (pv 2))))
  (PCs.text (pss_one (ps_ret (pe_op op_xor (pv 1) (pv 2))))
  (PCs.text (pss_one (ps_ret (pe_call (ok_wrap T) (hr.mono (by decide)) (by rfl) T.g_wrap T.F_wrap.kp T.b_wrap .nil pass0 (pa_cons (pe_op op_shl (pv 1) (pe_op op_mod (pv 2) pe_int)) pa_nil))))
  (PCs.text (pss_one (ps_ret (pe_op op_shr (pv 1) (pe_op op_mod (pv 2) pe_int))))
  (PCs.rest (pss_one (ps_ret (pe_ifExp (pt_val (pe_call (ok__holds T) (hr.mono (by decide)) (by rfl) T.g__holds T.F__holds.kp T.b__holds .nil pass0 (pa_cons (pv 0) (pa_cons (pv 1) (pa_cons (pv 2) pa_nil))))) pe_int pe_int)))))))))))))))), ?_⟩
    refine ⟨_, rfl, z, rfl, ?_⟩
    have a0 := wa.1
    have a1 := wa.2
    have b0 := wb.1
    have b1 := wb.2
    refine ite2 (fun c1 => ?_) (fun c1 => ?_)
    · subst c1
      exact ⟨_, rfl, _, rfl, _, _, rfl, rfl, _, rfl, q⟩
    refine ite2 (fun c2 => ?_) (fun c2 => ?_)
    · subst c2
      exact ⟨_, rfl, _, rfl, _, _, rfl, rfl, _, rfl, q⟩
    refine ite2 (fun c3 => ?_) (fun c3 => ?_)
    · subst c3
      exact ⟨_, rfl, _, rfl, _, _, rfl, rfl, .inl ⟨by omega, by omega⟩, _, rfl, q⟩
    refine ite2 (fun c4 => ?_) (fun c4 => ?_)
    · subst c4
      refine ⟨_, rfl, rfl, _, rfl, ite2 (fun c => ?_) (fun c => ?_)⟩
      · have e : b = 0 := V.int.inj (of_decide_eq_true c)
        subst e
        exact q
      · have e : b ≠ 0 := fun z => c (decide_eq_true (by rw [z]))
        have e2 : comb "/" a b = a / b := by
          show (if b = 0 then 0 else a / b) = _
          rw [if_neg e]
        rw [e2] at q
        exact ⟨_, rfl, _, rfl, _, _, rfl, rfl, wide_div (by omega) (word_small wb) (by decide) (by decide), q⟩
    refine ite2 (fun c5 => ?_) (fun c5 => ?_)
    · subst c5
      refine ⟨_, rfl, rfl, _, rfl, ite2 (fun c => ?_) (fun c => ?_)⟩
      · have e : b = 0 := V.int.inj (of_decide_eq_true c)
        subst e
        exact ⟨_, rfl, q⟩
      · have e : b ≠ 0 := fun z => c (decide_eq_true (by rw [z]))
        have e2 : comb "mod" a b = a % b := by
          show (if b = 0 then a else a % b) = _
          rw [if_neg e]
        rw [e2] at q
        exact ⟨_, rfl, _, rfl, _, _, rfl, rfl, (by show 0 < b; omega), q⟩
    refine ite2 (fun c6 => ?_) (fun c6 => ?_)
    · subst c6
      exact ⟨_, rfl, _, rfl, _, _, rfl, rfl, q⟩
    refine ite2 (fun c7 => ?_) (fun c7 => ?_)
    · subst c7
      exact ⟨_, rfl, _, rfl, _, _, rfl, rfl, q⟩
    refine ite2 (fun c8 => ?_) (fun c8 => ?_)
    · subst c8
      exact ⟨_, rfl, _, rfl, _, _, rfl, rfl, q⟩
    have m0 := Int.emod_nonneg b (show (32 : Int) ≠ 0 by decide)
    have m1 := Int.emod_lt_of_pos b (show (0 : Int) < 32 by decide)
    refine ite2 (fun c9 => ?_) (fun c9 => ?_)
    · subst c9
      exact ⟨_, rfl, _, rfl, _, _, rfl, rfl, (by show (0 : Int) < 32; decide), _, _, rfl, rfl, ⟨m0, by omega, by omega⟩, _, rfl, q⟩
    refine ite2 (fun c10 => ?_) (fun c10 => ?_)
    · subst c10
      exact ⟨_, rfl, _, rfl, _, _, rfl, rfl, (by show (0 : Int) < 32; decide), _, _, rfl, rfl, m0, q⟩
    · have hc : z ∈ cmps := by
        rcases hz with h | h
        · simp [ops, c1, c2, c3, c4, c5, c6, c7, c8, c9, c10] at h
        · exact h
      have e : comb z a b = if hld z a b = true then 1 else 0 := by
        simp only [comb, eq_false c1, eq_false c2, eq_false c3, eq_false c4, eq_false c5, eq_false c6, eq_false c7, eq_false c8, eq_false c9, eq_false c10, if_false]
      rw [e] at q
      refine ⟨_, rfl, _, rfl, _, rfl, z, a, b, rfl, hc, hld z a b, rfl, ite2 (fun c => ?_) (fun c => ?_)⟩
      · rw [if_pos c] at q
        exact q
      · rw [if_neg c] at q
        exact q

def alt (op : Str) (a : Int) : Int := if op = "neg" then (-a) % 4294967296 else if op = "inv" then Builtin.bitXor a 4294967295 else if a = 0 then 1 else 0
def sp_alter : Sp := fun vs H Q _ => ∃ (z : Str) (a : Int), vs = [.str z, .int a] ∧ z ∈ (["neg", "inv", "not"] : List Str) ∧ Q (.int (alt z a)) H
theorem ok_alter (T : Top K mg) : FnOk P w K mg base CX0 2 T.a_alter T.d_alter ["operator", "a"]  sp_alter := by
  refine T.F_alter.ok sc_alter (fun vs H Q E h => ?_) (fun cdv A outer s H vs Q E hr h => ?_)
  · obtain ⟨_, _, rfl, _⟩ := h
    rfl
  · obtain ⟨z, a, rfl, hz, q⟩ := h
    refine ⟨_, (pss_one (ps_match (pv 0)
  (PCs.text (pss_one (ps_ret (pe_call (ok_wrap T) (hr.mono (by decide)) (by rfl) T.g_wrap T.F_wrap.kp T.b_wrap .nil pass0 (pa_cons (pe_un un_neg (pv 1)) pa_nil))))
  (PCs.text (pss_one (ps_ret (pe_op op_xor (pv 1) (pe_gi (by rfl) T.c_GREATEST_WORD))))
  (PCs.text (pss_one (ps_ret (pe_ifExp (pt_cmpR op_eq (pv 1) pe_int (nomark _)) pe_int pe_int)))
  PCs.nil))))), ?_⟩
    refine ⟨_, rfl, z, rfl, ?_⟩
    refine ite2 (fun c1 => ?_) (fun c1 => ?_)
    · subst c1
      exact ⟨_, rfl, _, rfl, _, rfl, q⟩
    refine ite2 (fun c2 => ?_) (fun c2 => ?_)
    · subst c2
      exact ⟨_, rfl, _, _, rfl, rfl, q⟩
    refine ite2 (fun c3 => ?_) (fun c3 => ?_)
    · subst c3
      refine ⟨_, rfl, rfl, _, rfl, ?_⟩
      rw [int_eq]
      have e : alt "not" a = if a = 0 then 1 else 0 := rfl
      rw [e] at q
      refine ite2 (fun c => ?_) (fun c => ?_)
      · rw [if_pos (of_decide_eq_true c)] at q
        exact q
      · rw [if_neg (fun z => c (decide_eq_true z))] at q
        exact q
    · simp [c1, c2, c3] at hz
def sp__law_is_integer : Sp := fun vs H Q _ => ∃ n : Int, vs = [.int n] ∧ Q (.bl true) H
theorem ok__law_is_integer (T : Top K mg) : FnOk P w K mg base CX0 1 T.a__law_is_integer T.d__law_is_integer ["actual"]  sp__law_is_integer := by
  refine T.F__law_is_integer.ok sc__law_is_integer (fun vs H Q E h => ?_) (fun cdv A outer s H vs Q E hr h => ?_)
  · obtain ⟨_, rfl, _⟩ := h
    rfl
  · obtain ⟨n, rfl, q⟩ := h
    refine ⟨_, (pss_one (ps_ret (pe_and (pe_callB call_isi (by rfl) T.m_isinstance (by decide +kernel) (pa_cons (pv 0) (pa_cons (pe_ty (T := "int") (by rfl) T.m_int (by decide +kernel)) pa_nil))) (pe_one (pe_not (pe_callB call_isi (by rfl) T.m_isinstance (by decide +kernel) (pa_cons (pv 0) (pa_cons (pe_ty (T := "bool") (by rfl) T.m_bool (by decide +kernel)) pa_nil)))))))), ?_⟩
    exact ⟨_, rfl, _, _, _, _, true, rfl, .ty _, .base (.int _), kit_ty (by decide +kernel), _, rfl, iteT ⟨_, rfl, _, _, _, _, false, rfl, .ty _, .base (.int _), kit_ty (by decide +kernel), _, rfl, q⟩⟩
def sp__law_cell (K : PySem.W.Frag) : Sp := fun vs H Q _ => ∃ (a : Addr) (ns : List Int) (k : Nat), vs = [.ref a, .int (k : Int)] ∧ SqL K H a (ns.map V.int) ∧ ∀ n : Int, Q (.int n) H
theorem ok__law_cell (T : Top K mg) : FnOk P w K mg base CX0 1 T.a__law_cell T.d__law_cell ["script", "k"]  (sp__law_cell K) := by
  refine T.F__law_cell.ok sc__law_cell (fun vs H Q E h => ?_) (fun cdv A outer s H vs Q E hr h => ?_)
  · obtain ⟨_, _, _, rfl, _⟩ := h
    rfl
  · obtain ⟨a, ns, k, rfl, hS, q⟩ := h
    refine ⟨_, (pss_cons (ps_if (pt_cmpR op_lt (pv 1) (pe_callB call_len_seq (by rfl) T.m_len PySem.boot_len (pa_cons (pv 0) pa_nil)) (nomark _))
  (pss_one (ps_ret (pe_callTy call_int1 (by rfl) T.m_int (by decide +kernel) (pa_cons (pe_ix ix_list (pv 0) (pv 1) (fun _ _ => rfl)) pa_nil))))
  pss_nil)
  (pss_one (ps_ret pe_int))), ?_⟩
    refine ⟨_, rfl, _, rfl, a, _, rfl, .inl hS, _, _, rfl, rfl, _, rfl, ite2 (fun c => ?_) (fun c => ?_)⟩
    · have hk : k < ns.length := by
        have := of_decide_eq_true c
        rw [List.length_map] at this
        omega
      exact ⟨_, rfl, _, rfl, a, _, _, .int ns[k], rfl, rfl, hS, atI_nat (by rw [List.getElem?_map, List.getElem?_eq_getElem hk]; rfl), .inl ⟨_, rfl, q _⟩⟩
    · exact q 0
end

theorem bitI (m k : Nat) : ((m : Int) / 2 ^ ((0 : Int) + (k : Int)).toNat) % 2 = ((m.testBit k).toNat : Nat) := by
  have e : ((0 : Int) + (k : Int)).toNat = k := by omega
  rw [e, Nat.toNat_testBit]
  norm_cast
theorem grow (m k : Nat) : m % 2 ^ (k + 1) = m % 2 ^ k + (m.testBit k).toNat * 2 ^ k := by
  rw [Nat.mod_pow_succ, Nat.toNat_testBit, Nat.mul_comm]
/-- what the law's loop has after n turns -/
def tot (op : Str) (m n k : Nat) : Int :=
  if op = "|" then ((m % 2 ^ k : Nat) : Int) + ((n % 2 ^ k : Nat) : Int) - (((m &&& n) % 2 ^ k : Nat) : Int)
  else if op = "^" then ((m % 2 ^ k : Nat) : Int) + ((n % 2 ^ k : Nat) : Int) - 2 * (((m &&& n) % 2 ^ k : Nat) : Int)
  else (((m &&& n) % 2 ^ k : Nat) : Int)
theorem and_bit (m n k : Nat) : ((m &&& n).testBit k).toNat = (m.testBit k).toNat * (n.testBit k).toNat := by
  rw [Nat.testBit_and]
  cases m.testBit k <;> cases n.testBit k <;> rfl
def bitV (op : Str) (x y : Int) : Int := if op = "|" then x + y - x * y else if op = "^" then x + y - 2 * x * y else x * y
theorem tot_step (op : Str) (m n k : Nat) : tot op m n (k + 1) = tot op m n k + bitV op ((m.testBit k).toNat : Nat) ((n.testBit k).toNat : Nat) * 2 ^ ((0 : Int) + (k : Int)).toNat := by
  have e : ((0 : Int) + (k : Int)).toNat = k := by omega
  rw [e]
  have hm := grow m k
  have hn := grow n k
  have ha := grow (m &&& n) k
  rw [and_bit] at ha
  unfold tot bitV
  have hp : ((2 : Int) ^ k) = ((2 ^ k : Nat) : Int) := by norm_cast
  rw [hm, hn, ha, hp]
  generalize (2 ^ k : Nat) = p
  generalize m % p = u
  generalize n % p = v
  generalize (m &&& n) % p = t
  by_cases h1 : op = "|"
  · simp only [eq_true h1, if_true]
    cases m.testBit k <;> cases n.testBit k <;> simp [Bool.toNat] <;> omega
  by_cases h2 : op = "^"
  · simp only [eq_false h1, eq_true h2, if_true, if_false]
    cases m.testBit k <;> cases n.testBit k <;> simp [Bool.toNat] <;> omega
  · simp only [eq_false h1, eq_false h2, if_false]
    cases m.testBit k <;> cases n.testBit k <;> simp [Bool.toNat]
theorem tot_end (op : Str) (h : op ∈ (["&", "|", "^"] : List Str)) {m n : Nat} (hm : (m : Int) < 4294967296) (hn : (n : Int) < 4294967296) : tot op m n 32 = comb op (m : Int) (n : Int) := by
  replace hm : m < 4294967296 := by omega
  replace hn : n < 4294967296 := by omega
  have e1 : m % 2 ^ 32 = m := Nat.mod_eq_of_lt hm
  have e2 : n % 2 ^ 32 = n := Nat.mod_eq_of_lt hn
  have e3 : (m &&& n) % 2 ^ 32 = m &&& n := Nat.mod_eq_of_lt (Nat.lt_of_le_of_lt Nat.and_le_left hm)
  have p := bitAnd_pp (x := (m : Int)) (y := (n : Int)) (by omega) (by omega)
  rw [Int.toNat_natCast, Int.toNat_natCast] at p
  unfold tot
  rw [e1, e2, e3]
  simp only [List.mem_cons, List.mem_nil_iff, or_false] at h
  rcases h with rfl | rfl | rfl
  · show _ = Builtin.bitAnd (m : Int) (n : Int)
    rw [p]
    rfl
  · show _ = Builtin.bitOr (m : Int) (n : Int)
    rw [bitOr_and, p]
    rfl
  · show _ = Builtin.bitXor (m : Int) (n : Int)
    rw [bitXor_and, p]
    rfl

/-- the law's shift after n turns -/
def shf (op : Str) (a : Int) (j : Nat) : Int := if op = "<<" then (a * 2 ^ j) % 4294967296 else a / 2 ^ j
theorem shf_zero {op : Str} {a : Int} (wa : Word a) : shf op a 0 = a := by
  unfold shf
  by_cases h : op = "<<"
  · rw [if_pos h]
    simp
    exact Int.emod_eq_of_lt wa.1 wa.2
  · rw [if_neg h]
    simp
theorem shl_step {op : Str} (h : op = "<<") (a : Int) (j : Nat) : (2 * shf op a j) % 4294967296 = shf op a (j + 1) := by
  unfold shf
  rw [if_pos h, if_pos h, Int.mul_emod, Int.emod_emod_of_dvd _ (Int.dvd_refl _), ← Int.mul_emod, Int.pow_succ]
  congr 1
  rw [← Int.mul_assoc, Int.mul_comm 2, Int.mul_assoc, Int.mul_comm 2]
theorem shr_step {op : Str} (h : ¬ op = "<<") (a : Int) (j : Nat) : shf op a j / 2 = shf op a (j + 1) := by
  unfold shf
  rw [if_neg h, if_neg h, Int.pow_succ, Int.ediv_ediv_of_nonneg (by exact Int.le_of_lt (Int.pow_pos (by decide)))]
theorem shf_end {op : Str} (h : op ∈ (["<<", ">>"] : List Str)) (a b : Int) : shf op a (b % 32).toNat = comb op a b := by
  simp only [List.mem_cons, List.mem_nil_iff, or_false] at h
  rcases h with rfl | rfl <;> rfl
section
variable {P : Program} {w : World} {K : PySem.W.Frag} {mg : Str → Option Value} {base : Heap}
def sp__law_word : Sp := fun vs H Q _ => ∃ n : Int, vs = [.int n] ∧ ∀ (w : Int) (H' : Hp), Word w → Same H H' → Q (.int w) H'
theorem eight {j : Int} (h0 : 0 ≤ j) (h1 : j < 8) : ∃ k : Nat, j = (k : Int) ∧ k < 8 := ⟨j.toNat, by omega, by omega⟩
theorem ok__law_word (T : Top K mg) : FnOk P w K mg base CX0 1 T.a__law_word T.d__law_word ["cell"]  sp__law_word := by
  refine T.F__law_word.ok sc__law_word (fun vs H Q E h => ?_) (fun cdv A outer s H vs Q E hr h => ?_)
  · obtain ⟨_, rfl, _⟩ := h
    rfl
  · obtain ⟨n, rfl, q⟩ := h
    refine ⟨_, (pss_cons (ps_set (i := 1) sc__law_word.nd rfl (Or.inl rfl) (pe_lst (pa_cons pe_int (pa_cons pe_int (pa_cons pe_int (pa_cons pe_int (pa_cons pe_int (pa_cons pe_int (pa_cons pe_int (pa_cons (pe_op op_mod (pe_op op_fdiv (pe_callTy call_int1 (by rfl) T.m_int (by decide +kernel) (pa_cons (pv 0) pa_nil)) pe_int) pe_int) pa_nil))))))))))
  (pss_cons (ps_if (pt_cmpR op_eq (pe_op op_mod (pe_callTy call_int1 (by rfl) T.m_int (by decide +kernel) (pa_cons (pv 0) pa_nil)) pe_int) pe_int (nomark _))
  (pss_one (ps_ret (pe_ix ix_list (pv 1) (pe_op op_mod (pe_op op_fdiv (pe_callTy call_int1 (by rfl) T.m_int (by decide +kernel) (pa_cons (pv 0) pa_nil)) pe_int) pe_int) (fun _ _ => rfl))))
  pss_nil)
  (pss_one (ps_ret (pe_op op_mod (pe_op op_fdiv (pe_callTy call_int1 (by rfl) T.m_int (by decide +kernel) (pa_cons (pv 0) pa_nil)) pe_int) pe_int))))), ?_⟩
    have u0 := Int.emod_nonneg (n / 16) (show (34 : Int) ≠ 0 by decide)
    have u1 := Int.emod_lt_of_pos (n / 16) (show (0 : Int) < 34 by decide)
    refine ⟨_, rfl, .inl ⟨_, rfl, _, _, rfl, rfl, ⟨by decide, by decide⟩, _, _, rfl, rfl, (by show (0 : Int) < 34; decide), ?_⟩⟩
    refine ⟨by show 8 ≤ sizeLine; decide, fun p np => ?_⟩
    refine ⟨_, rfl, .inl ⟨_, rfl, _, _, rfl, rfl, (by show (0 : Int) < 2; decide), rfl, _, rfl, ite2 (fun c => ?_) (fun c => ?_)⟩⟩
    · have m0 := Int.emod_nonneg (n / 2) (show (8 : Int) ≠ 0 by decide)
      have m1 := Int.emod_lt_of_pos (n / 2) (show (0 : Int) < 8 by decide)
      obtain ⟨k, ek, hk⟩ := eight m0 m1
      have hv : ∃ v : Int, ([.int 0, .int 1, .int 2147483647, .int 2147483648, .int 2147483649, .int 4294967294, .int 4294967295, .int (n / 16 % 34)] : List V)[k]? = some (.int v) ∧ Word v := by
        match k, hk with
        | 0, _ => exact ⟨_, rfl, by decide, by decide⟩
        | 1, _ => exact ⟨_, rfl, by decide, by decide⟩
        | 2, _ => exact ⟨_, rfl, by decide, by decide⟩
        | 3, _ => exact ⟨_, rfl, by decide, by decide⟩
        | 4, _ => exact ⟨_, rfl, by decide, by decide⟩
        | 5, _ => exact ⟨_, rfl, by decide, by decide⟩
        | 6, _ => exact ⟨_, rfl, by decide, by decide⟩
        | 7, _ => exact ⟨_, rfl, u0, by omega⟩
      obtain ⟨v, ev, wv⟩ := hv
      refine ⟨_, rfl, _, rfl, .inl ⟨_, rfl, _, _, rfl, rfl, ⟨by decide, by decide⟩, _, _, rfl, rfl, (by show (0 : Int) < 8; decide), ?_⟩⟩
      exact ⟨p, _, _, _, rfl, rfl, SqL.of upd_same, at_of ek ev, q v _ wv (same_new np)⟩
    · have m0 := Int.emod_nonneg (n / 2) (show (4294967296 : Int) ≠ 0 by decide)
      have m1 := Int.emod_lt_of_pos (n / 2) (show (0 : Int) < 4294967296 by decide)
      exact ⟨_, rfl, .inl ⟨_, rfl, _, _, rfl, rfl, ⟨by decide, by decide⟩, _, _, rfl, rfl, (by show (0 : Int) < 4294967296; decide), q _ _ ⟨m0, m1⟩ (same_new np)⟩⟩

def sp__law_bits : Sp := fun vs H Q _ => ∃ (z : Str) (a b : Int), vs = [.str z, .int a, .int b] ∧ Word a ∧ Word b ∧ z ∈ (["&", "|", "^"] : List Str) ∧ Q (.int (comb z a b)) H
theorem nat_of {a : Int} (h : 0 ≤ a) : ∃ m : Nat, a = (m : Int) := ⟨a.toNat, by omega⟩
theorem str_eq {a b : Str} : decide (V.str a = V.str b) = decide (a = b) := by
  by_cases h : a = b
  · rw [h, decide_eq_true rfl, decide_eq_true rfl]
  · rw [decide_eq_false h, decide_eq_false (fun q => h (V.str.inj q))]
theorem bool01 (b : Bool) : 0 ≤ ((b.toNat : Nat) : Int) ∧ ((b.toNat : Nat) : Int) ≤ 1 := by cases b <;> decide
theorem bitV01 (op : Str) (p q : Bool) : 0 ≤ bitV op (p.toNat : Nat) (q.toNat : Nat) ∧ bitV op (p.toNat : Nat) (q.toNat : Nat) ≤ 1 := by
  unfold bitV
  cases p <;> cases q <;> (split <;> first | decide | (split <;> decide))
theorem ok__law_bits (T : Top K mg) : FnOk P w K mg base CX0 1 T.a__law_bits T.d__law_bits ["operator", "a", "b"]  sp__law_bits := by
  refine T.F__law_bits.ok sc__law_bits (fun vs H Q E h => ?_) (fun cdv A outer s H vs Q E hr h => ?_)
  · obtain ⟨_, _, _, rfl, _⟩ := h
    rfl
  · obtain ⟨z, a, b, rfl, wa, wb, hz, q⟩ := h
    obtain ⟨m, rfl⟩ := nat_of wa.1
    obtain ⟨n, rfl⟩ := nat_of wb.1
    refine ⟨_, (pss_cons (ps_set (i := 3) sc__law_bits.nd rfl (Or.inl rfl) pe_int)
  (pss_cons (ps_for PassesOwn.never rfl (pi_range1 (by rfl) T.m_range (pa_cons pe_int pa_nil)) (pg_name (i := 4) sc__law_bits.nd rfl (Or.inl rfl))
  (pss_cons (ps_set (i := 5) sc__law_bits.nd rfl (Or.inl rfl) (pe_op op_mod (pe_callTy call_int1 (by rfl) T.m_int (by decide +kernel) (pa_cons (pe_op op_shr (pv 1) (pv 4)) pa_nil)) pe_int))
  (pss_cons (ps_set (i := 6) sc__law_bits.nd rfl (Or.inl rfl) (pe_op op_mod (pe_callTy call_int1 (by rfl) T.m_int (by decide +kernel) (pa_cons (pe_op op_shr (pv 2) (pv 4)) pa_nil)) pe_int))
  (pss_cons (ps_set (i := 7) sc__law_bits.nd rfl (Or.inl rfl) (pe_op op_mul (pv 5) (pv 6)))
  (pss_cons (ps_if (pt_cmpR op_eq (pv 0) pe_str (nomark _))
  (pss_one (ps_set (i := 7) sc__law_bits.nd rfl (Or.inl rfl) (pe_op op_sub (pe_op op_add (pv 5) (pv 6)) (pe_op op_mul (pv 5) (pv 6)))))
  pss_nil)
  (pss_cons (ps_if (pt_cmpR op_eq (pv 0) pe_str (nomark _))
  (pss_one (ps_set (i := 7) sc__law_bits.nd rfl (Or.inl rfl) (pe_op op_sub (pe_op op_add (pv 5) (pv 6)) (pe_op op_mul (pe_op op_mul pe_int (pv 5)) (pv 6)))))
  pss_nil)
  (pss_one (ps_set (i := 3) sc__law_bits.nd rfl (Or.inl rfl) (pe_op op_add (pv 3) (pe_op op_shl (pv 7) (pv 4)))))))))))
  (pss_one (ps_ret (pv 3))))), ?_⟩
    refine ⟨32, rfl, by decide, by decide, for_range (n := 32) (fun i σ H' => ∃ y4 y5 y6 y7, σ = [some (.str z), some (.int (m : Int)), some (.int (n : Int)), some (.int (tot z m n i)), y4, y5, y6, y7] ∧ H' = H) ⟨none, none, none, none, ?_, rfl⟩ ?_ ?_⟩
    · have e : tot z m n 0 = 0 := by
        unfold tot
        simp [Nat.mod_one]
      rw [e]
      rfl
    · rintro k σ H' hk ⟨y4, y5, y6, y7, rfl, rfl⟩
      have c0 : (0 : Int) ≤ 0 + (k : Int) := by omega
      refine ⟨_, rfl, _, rfl, _, _, rfl, rfl, c0, .inl ⟨_, rfl, _, _, rfl, rfl, (by show (0 : Int) < 2; decide), ?_⟩⟩
      refine ⟨_, rfl, _, rfl, _, _, rfl, rfl, c0, .inl ⟨_, rfl, _, _, rfl, rfl, (by show (0 : Int) < 2; decide), ?_⟩⟩
      simp only [bitI]
      have b0 := bool01 (m.testBit k)
      have b1 := bool01 (n.testBit k)
      have bv := bitV01 z (m.testBit k) (n.testBit k)
      have st := tot_step z m n k
      refine ⟨_, rfl, _, rfl, _, _, rfl, rfl, .inl ⟨by omega, by omega⟩, ?_⟩
      refine ⟨_, rfl, rfl, _, rfl, ite2 (fun c1 => ?_) (fun c1 => ?_)⟩
      · have e := V.str.inj (of_decide_eq_true c1)
        subst e
        refine ⟨_, rfl, _, rfl, _, _, rfl, rfl, _, rfl, _, rfl, _, _, rfl, rfl, .inl ⟨by omega, by omega⟩, _, _, rfl, rfl, ?_⟩
        refine ⟨_, rfl, rfl, _, rfl, iteF ?_⟩
        refine ⟨_, rfl, _, rfl, _, rfl, _, _, rfl, rfl, ⟨c0, by omega, ?_⟩, _, _, rfl, rfl, ?_⟩
        · have bv2 : 0 ≤ ((m.testBit k).toNat : Int) + ((n.testBit k).toNat : Int) - ((m.testBit k).toNat : Int) * ((n.testBit k).toNat : Int) ∧ ((m.testBit k).toNat : Int) + ((n.testBit k).toNat : Int) - ((m.testBit k).toNat : Int) * ((n.testBit k).toNat : Int) ≤ 1 := bv
          omega
        · exact ⟨_, _, _, _, (by rw [st]; rfl), rfl⟩
      · simp only [str_eq, decide_eq_true_eq] at c1
        refine ⟨_, rfl, rfl, _, rfl, ite2 (fun c2 => ?_) (fun c2 => ?_)⟩
        · have e := V.str.inj (of_decide_eq_true c2)
          subst e
          refine ⟨_, rfl, _, rfl, _, _, rfl, rfl, _, rfl, _, _, rfl, rfl, .inl ⟨by decide, by decide⟩, _, rfl, _, _, rfl, rfl, .inl ⟨by omega, by omega⟩, _, _, rfl, rfl, ?_⟩
          refine ⟨_, rfl, _, rfl, _, rfl, _, _, rfl, rfl, ⟨c0, by omega, ?_⟩, _, _, rfl, rfl, ?_⟩
          · have bv2 : 0 ≤ ((m.testBit k).toNat : Int) + ((n.testBit k).toNat : Int) - 2 * ((m.testBit k).toNat : Int) * ((n.testBit k).toNat : Int) ∧ ((m.testBit k).toNat : Int) + ((n.testBit k).toNat : Int) - 2 * ((m.testBit k).toNat : Int) * ((n.testBit k).toNat : Int) ≤ 1 := bv
            omega
          · exact ⟨_, _, _, _, (by rw [st]; rfl), rfl⟩
        · simp only [str_eq, decide_eq_true_eq] at c2
          have ev : bitV z ((m.testBit k).toNat : Nat) ((n.testBit k).toNat : Nat) = ((m.testBit k).toNat : Int) * ((n.testBit k).toNat : Int) := by
            unfold bitV
            rw [if_neg c1, if_neg c2]
          rw [ev] at st bv
          refine ⟨_, rfl, _, rfl, _, rfl, _, _, rfl, rfl, ⟨c0, by omega, by omega⟩, _, _, rfl, rfl, ?_⟩
          exact ⟨_, _, _, _, (by rw [st]; rfl), rfl⟩
    · rintro σ H' ⟨y4, y5, y6, y7, rfl, rfl⟩
      rw [tot_end z hz wa.2 wb.2]
      exact ⟨_, rfl, q⟩

def sp__law_shift : Sp := fun vs H Q _ => ∃ (z : Str) (a b : Int), vs = [.str z, .int a, .int b] ∧ Word a ∧ z ∈ (["<<", ">>"] : List Str) ∧ Q (.int (comb z a b)) H
theorem shf_word {op : Str} {a : Int} (wa : Word a) (j : Nat) : Word (shf op a j) := by
  unfold shf
  split
  · exact ⟨Int.emod_nonneg _ (by decide), Int.emod_lt_of_pos _ (by decide)⟩
  · exact ⟨Int.ediv_nonneg wa.1 (Int.le_of_lt (Int.pow_pos (by decide))), Int.lt_of_le_of_lt (Int.ediv_le_self _ wa.1) wa.2⟩
theorem ok__law_shift (T : Top K mg) : FnOk P w K mg base CX0 1 T.a__law_shift T.d__law_shift ["operator", "a", "b"]  sp__law_shift := by
  refine T.F__law_shift.ok sc__law_shift (fun vs H Q E h => ?_) (fun cdv A outer s H vs Q E hr h => ?_)
  · obtain ⟨_, _, _, rfl, _⟩ := h
    rfl
  · obtain ⟨z, a, b, rfl, wa, hz, q⟩ := h
    have m0 := Int.emod_nonneg b (show (32 : Int) ≠ 0 by decide)
    have m1 := Int.emod_lt_of_pos b (show (0 : Int) < 32 by decide)
    obtain ⟨r, hr0⟩ := nat_of m0
    refine ⟨_, (pss_cons (ps_for PassesOwn.never rfl (pi_range1 (by rfl) T.m_range (pa_cons pe_int pa_nil)) (pg_name (i := 3) sc__law_shift.nd rfl (Or.inl rfl))
  (pss_one (ps_if (pt_cmpR op_lt (pv 3) (pe_op op_mod (pe_callTy call_int1 (by rfl) T.m_int (by decide +kernel) (pa_cons (pv 2) pa_nil)) pe_int) (nomark _))
  (pss_one (ps_if (pt_cmpR op_eq (pv 0) pe_str (nomark _))
  (pss_one (ps_set (i := 1) sc__law_shift.nd rfl (Or.inl rfl) (pe_op op_mod (pe_callTy call_int1 (by rfl) T.m_int (by decide +kernel) (pa_cons (pe_op op_mul pe_int (pv 1)) pa_nil)) pe_int)))
  (pss_one (ps_set (i := 1) sc__law_shift.nd rfl (Or.inl rfl) (pe_op op_fdiv (pv 1) pe_int)))))
  pss_nil)))
  (pss_one (ps_ret (pv 1)))), ?_⟩
    refine ⟨32, rfl, by decide, by decide, for_range (n := 32) (fun i σ H' => ∃ y3, σ = [some (.str z), some (.int (shf z a (min i r))), some (.int b), y3] ∧ H' = H) ⟨none, ?_, rfl⟩ ?_ ?_⟩
    · rw [Nat.zero_min, shf_zero wa]
      rfl
    · rintro k σ H' hk ⟨y3, rfl, rfl⟩
      have w0 := shf_word (op := z) wa (min k r)
      have w1 := w0.1
      have w2 := w0.2
      refine ⟨_, rfl, _, rfl, .inl ⟨_, rfl, _, _, rfl, rfl, (by show (0 : Int) < 32; decide), ?_⟩⟩
      refine ⟨_, _, rfl, rfl, _, rfl, ite2 (fun c => ?_) (fun c => ?_)⟩
      · have hkr : k < r := by
          have := of_decide_eq_true c
          rw [hr0] at this
          omega
        have e1 : min k r = k := by omega
        have e2 : min (k + 1) r = k + 1 := by omega
        rw [e1] at w1 w2
        rw [e1, e2]
        refine ⟨_, rfl, rfl, _, rfl, ite2 (fun c1 => ?_) (fun c1 => ?_)⟩
        · have e := V.str.inj (of_decide_eq_true c1)
          have st := shl_step e a k
          refine ⟨_, rfl, _, _, rfl, rfl, .inl ⟨by decide, by decide⟩, .inl ⟨_, rfl, _, _, rfl, rfl, (by show (0 : Int) < 4294967296; decide), ?_⟩⟩
          exact ⟨_, (by rw [← st]; rfl), rfl⟩
        · simp only [str_eq, decide_eq_true_eq] at c1
          have st := shr_step c1 a k
          refine ⟨_, rfl, _, _, rfl, rfl, ⟨by decide, by decide⟩, ?_⟩
          exact ⟨_, (by rw [← st]; rfl), rfl⟩
      · have hkr : ¬ k < r := fun h => c (decide_eq_true (by rw [hr0]; omega))
        have e1 : min k r = r := by omega
        have e2 : min (k + 1) r = r := by omega
        rw [e1, e2]
        exact ⟨_, rfl, rfl⟩
    · rintro σ H' ⟨y3, rfl, rfl⟩
      refine ⟨_, rfl, ?_⟩
      have e : min 32 r = (b % 32).toNat := by omega
      rw [e, shf_end hz]
      exact q
def sp__law_sign : Sp := fun vs H Q _ => ∃ n : Int, vs = [.int n] ∧ Q (.int (sg n)) H
theorem ok__law_sign (T : Top K mg) : FnOk P w K mg base CX0 1 T.a__law_sign T.d__law_sign ["w"]  sp__law_sign := by
  refine T.F__law_sign.ok sc__law_sign (fun vs H Q E h => ?_) (fun cdv A outer s H vs Q E hr h => ?_)
  · obtain ⟨n, rfl, _⟩ := h
    rfl
  · obtain ⟨n, rfl, q⟩ := h
    refine ⟨_, (pss_cons (ps_if (pt_cmpR op_ge (pv 0) pe_int (nomark _))
  (pss_one (ps_ret (pe_op op_sub (pv 0) pe_int)))
  pss_nil)
  (pss_one (ps_ret (pv 0)))), ?_⟩
    refine ⟨_, rfl, _, _, rfl, rfl, _, rfl, ite2 (fun c => ?_) (fun c => ?_)⟩
    · have e : sg n = n - 4294967296 := if_neg (by have := of_decide_eq_true c; omega)
      rw [e] at q
      exact ⟨_, rfl, _, _, rfl, rfl, q⟩
    · have e : sg n = n := if_pos (by have h2 : ¬ (2147483648 ≤ n) := fun h => c (decide_eq_true h); omega)
      rw [e] at q
      exact ⟨_, rfl, q⟩
def sp__law_truth : Sp := fun vs H Q _ => ∃ (z : Str) (a b : Int), vs = [.str z, .int a, .int b] ∧ Word a ∧ Word b ∧ z ∈ cmps ∧ Q (.bl (hld z a b)) H
theorem ok__law_truth (T : Top K mg) : FnOk P w K mg base CX0 2 T.a__law_truth T.d__law_truth ["operator", "a", "b"]  sp__law_truth := by
  refine T.F__law_truth.ok sc__law_truth (fun vs H Q E h => ?_) (fun cdv A outer s H vs Q E hr h => ?_)
  · obtain ⟨_, _, _, rfl, _⟩ := h
    rfl
  · obtain ⟨z, a, b, rfl, wa, wb, hz, q⟩ := h
    have a0 := wa.1
    have b0 := wb.1
    refine ⟨_, (pss_cons (ps_if (pt_cmpR op_eq (pv 0) pe_str (nomark _))
  (pss_one (ps_ret (pe_cmpR op_lt (pv 1) (pv 2) (nomark _))))
  pss_nil)
  (pss_cons (ps_if (pt_cmpR op_eq (pv 0) pe_str (nomark _))
  (pss_one (ps_ret (pe_cmpR op_le (pv 1) (pv 2) (nomark _))))
  pss_nil)
  (pss_cons (ps_if (pt_cmpR op_eq (pv 0) pe_str (nomark _))
  (pss_one (ps_ret (pe_cmpR op_lt (pe_call (ok__law_sign T) (hr.mono (by decide)) (by rfl) T.g__law_sign T.F__law_sign.kp T.b__law_sign .nil pass0 (pa_cons (pv 1) pa_nil)) (pe_call (ok__law_sign T) (hr.mono (by decide)) (by rfl) T.g__law_sign T.F__law_sign.kp T.b__law_sign .nil pass0 (pa_cons (pv 2) pa_nil)) (nomark _))))
  pss_nil)
  (pss_cons (ps_if (pt_cmpR op_eq (pv 0) pe_str (nomark _))
  (pss_one (ps_ret (pe_cmpR op_le (pe_call (ok__law_sign T) (hr.mono (by decide)) (by rfl) T.g__law_sign T.F__law_sign.kp T.b__law_sign .nil pass0 (pa_cons (pv 1) pa_nil)) (pe_call (ok__law_sign T) (hr.mono (by decide)) (by rfl) T.g__law_sign T.F__law_sign.kp T.b__law_sign .nil pass0 (pa_cons (pv 2) pa_nil)) (nomark _))))
  pss_nil)
  (pss_cons (ps_if (pt_cmpR op_eq (pv 0) pe_str (nomark _))
  (pss_one (ps_ret (pe_cmpR op_eq (pv 1) (pv 2) (nomark _))))
  pss_nil)
  (pss_cons (ps_if (pt_cmpR op_eq (pv 0) pe_str (nomark _))
  (pss_one (ps_ret (pe_cmpR op_ne (pv 1) (pv 2) (nomark _))))
  pss_nil)
  (pss_cons (ps_if (pt_cmpR op_eq (pv 0) pe_str (nomark _))
  (pss_one (ps_ret (pe_and (pe_cmpR op_gt (pv 1) pe_int (nomark _)) (pe_one (pe_cmpR op_gt (pv 2) pe_int (nomark _))))))
  pss_nil)
  (pss_one (ps_ret (pe_or (pe_cmpR op_gt (pv 1) pe_int (nomark _)) (pe_one (pe_cmpR op_gt (pv 2) pe_int (nomark _))))))))))))), ?_⟩
    refine ⟨_, rfl, rfl, _, rfl, ite2 (fun c1 => ?_) (fun c1 => ?_)⟩
    · have e := V.str.inj (of_decide_eq_true c1)
      subst e
      exact ⟨_, rfl, _, rfl, _, _, rfl, rfl, q⟩
    refine ⟨_, rfl, rfl, _, rfl, ite2 (fun c2 => ?_) (fun c2 => ?_)⟩
    · have e := V.str.inj (of_decide_eq_true c2)
      subst e
      exact ⟨_, rfl, _, rfl, _, _, rfl, rfl, q⟩
    refine ⟨_, rfl, rfl, _, rfl, ite2 (fun c3 => ?_) (fun c3 => ?_)⟩
    · have e := V.str.inj (of_decide_eq_true c3)
      subst e
      exact ⟨_, rfl, _, rfl, _, rfl, _, rfl, _, _, rfl, rfl, q⟩
    refine ⟨_, rfl, rfl, _, rfl, ite2 (fun c4 => ?_) (fun c4 => ?_)⟩
    · have e := V.str.inj (of_decide_eq_true c4)
      subst e
      exact ⟨_, rfl, _, rfl, _, rfl, _, rfl, _, _, rfl, rfl, q⟩
    refine ⟨_, rfl, rfl, _, rfl, ite2 (fun c5 => ?_) (fun c5 => ?_)⟩
    · have e := V.str.inj (of_decide_eq_true c5)
      subst e
      refine ⟨_, rfl, _, rfl, rfl, ?_⟩
      rw [int_eq]
      exact q
    refine ⟨_, rfl, rfl, _, rfl, ite2 (fun c6 => ?_) (fun c6 => ?_)⟩
    · have e := V.str.inj (of_decide_eq_true c6)
      subst e
      refine ⟨_, rfl, _, rfl, rfl, ?_⟩
      rw [int_eq]
      have e : hld "!=" a b = !decide (a = b) := by
        show decide (a ≠ b) = _
        by_cases h : a = b <;> simp [h]
      rw [e] at q
      exact q
    have g1 : decide (0 < a) = !decide (a = 0) := by
      by_cases h : a = 0
      · rw [h]
        rfl
      · rw [decide_eq_false h, decide_eq_true (by omega)]
        rfl
    have g2 : decide (0 < b) = !decide (b = 0) := by
      by_cases h : b = 0
      · rw [h]
        rfl
      · rw [decide_eq_false h, decide_eq_true (by omega)]
        rfl
    refine ⟨_, rfl, rfl, _, rfl, ite2 (fun c7 => ?_) (fun c7 => ?_)⟩
    · have e := V.str.inj (of_decide_eq_true c7)
      subst e
      have e : hld "and" a b = (decide (0 < a) && decide (0 < b)) := by
        rw [g1, g2]
        show decide (a ≠ 0 ∧ b ≠ 0) = _
        by_cases h : a = 0 <;> by_cases h2 : b = 0 <;> simp [h, h2]
      rw [e] at q
      refine ⟨_, rfl, _, _, rfl, rfl, _, rfl, ?_⟩
      by_cases h : 0 < a
      · rw [decide_eq_true h] at q ⊢
        exact iteT ⟨_, rfl, _, _, rfl, rfl, q⟩
      · rw [decide_eq_false h] at q ⊢
        exact iteF q
    · have e : z = "or" := by
        simp only [str_eq, decide_eq_true_eq] at c1 c2 c3 c4 c5 c6 c7
        simp [cmps, c1, c2, c3, c4, c5, c6, c7] at hz
        exact hz
      subst e
      have e : hld "or" a b = (decide (0 < a) || decide (0 < b)) := by
        rw [g1, g2]
        show decide (a ≠ 0 ∨ b ≠ 0) = _
        by_cases h : a = 0 <;> by_cases h2 : b = 0 <;> simp [h, h2]
      rw [e] at q
      refine ⟨_, rfl, _, _, rfl, rfl, _, rfl, ?_⟩
      by_cases h : 0 < a
      · rw [decide_eq_true h] at q ⊢
        exact iteT q
      · rw [decide_eq_false h] at q ⊢
        exact iteF ⟨_, rfl, _, _, rfl, rfl, q⟩
def sp__law_same : Sp := fun vs H Q _ => ∃ (n m : Int), vs = [.int n, .int m] ∧ Q (.bl (decide (n = m))) H
theorem ok__law_same (T : Top K mg) : FnOk P w K mg base CX0 2 T.a__law_same T.d__law_same ["actual", "due"]  sp__law_same := by
  refine T.F__law_same.ok sc__law_same (fun vs H Q E h => ?_) (fun cdv A outer s H vs Q E hr h => ?_)
  · obtain ⟨_, _, rfl, _⟩ := h
    rfl
  · obtain ⟨n, m, rfl, q⟩ := h
    refine ⟨_, (pss_one (ps_ret (pe_and (pe_call (ok__law_is_integer T) (hr.mono (by decide)) (by rfl) T.g__law_is_integer T.F__law_is_integer.kp T.b__law_is_integer .nil pass0 (pa_cons (pv 0) pa_nil)) (pe_one (pe_cmpR op_eq (pv 0) (pv 1) (nomark _)))))), ?_⟩
    refine ⟨_, rfl, n, rfl, _, rfl, iteT ⟨_, rfl, _, rfl, rfl, ?_⟩⟩
    rw [int_eq]
    exact q

def sp_law (K : PySem.W.Frag) : Sp := fun vs H Q _ => ∃ (a : Addr) (ns : List Int), vs = [.ref a] ∧ SqL K H a (ns.map V.int) ∧ ns.length ≤ 63 ∧ ∀ H', Q (.bl true) H'
theorem list_str {l : List Str} {i : Nat} {x : V} (h : (l.map V.str)[i]? = some x) : ∃ z, z ∈ l ∧ x = .str z := by
  obtain ⟨z, hz, e⟩ := List.mem_map.mp (List.mem_of_getElem? h)
  exact ⟨z, hz, e.symm⟩
theorem inv_eq {n : Int} (w : Word n) : alt "inv" n = 4294967295 - n := by
  obtain ⟨m, rfl⟩ := nat_of w.1
  show Builtin.bitXor (m : Int) 4294967295 = _
  rw [bitXor_and, bitAnd_pp (by omega) (by decide)]
  have e : (m : Int).toNat &&& (4294967295 : Int).toNat = m % 2 ^ 32 := by
    show m &&& 4294967295 = _
    exact Nat.and_two_pow_sub_one_eq_mod m 32
  rw [e, Nat.mod_eq_of_lt (by have := w.2; omega)]
  omega
theorem ok_law (T : Top K mg) : FnOk P w K mg base CX0 4 T.a_law T.d_law ["script"]  (sp_law K) := by
  refine T.F_law.ok sc_law (fun vs H Q E h => ?_) (fun cdv A outer s H vs Q E hr h => ?_)
  · obtain ⟨_, _, rfl, _⟩ := h
    rfl
  · obtain ⟨l, ns, rfl, hS, hlen, q⟩ := h
    refine ⟨_, (pss_cons (ps_set (i := 1) sc_law.nd rfl (Or.inl rfl) (pe_call (ok__law_word T) (hr.mono (by decide)) (by rfl) T.g__law_word T.F__law_word.kp T.b__law_word .nil pass0 (pa_cons (pe_call (ok__law_cell T) (hr.mono (by decide)) (by rfl) T.g__law_cell T.F__law_cell.kp T.b__law_cell .nil pass0 (pa_cons (pv 0) (pa_cons pe_int pa_nil))) pa_nil)))
  (pss_cons (ps_set (i := 2) sc_law.nd rfl (Or.inl rfl) (pe_call (ok__law_word T) (hr.mono (by decide)) (by rfl) T.g__law_word T.F__law_word.kp T.b__law_word .nil pass0 (pa_cons (pe_call (ok__law_cell T) (hr.mono (by decide)) (by rfl) T.g__law_cell T.F__law_cell.kp T.b__law_cell .nil pass0 (pa_cons (pv 0) (pa_cons pe_int pa_nil))) pa_nil)))
  (pss_cons (ps_for PassesOwn.never rfl (pi_list (pe_lst (pa_cons (pe_tup (pa_cons (pv 1) (pa_cons (pv 2) pa_nil))) (pa_cons (pe_tup (pa_cons (pv 2) (pa_cons (pv 1) pa_nil))) (pa_cons (pe_tup (pa_cons (pv 1) (pa_cons (pv 1) pa_nil))) pa_nil))))) (pg_name (i := 3) sc_law.nd rfl (Or.inl rfl))
  (pss_cons (ps_for PassesOwn.never rfl (pi_list (pe_lst (pa_cons pe_str (pa_cons pe_str (pa_cons pe_str pa_nil))))) (pg_name (i := 4) sc_law.nd rfl (Or.inl rfl))
  (pss_one (ps_if (pt_not (pt_val (pe_call (ok__law_same T) (hr.mono (by decide)) (by rfl) T.g__law_same T.F__law_same.kp T.b__law_same .nil pass0 (pa_cons (pe_call (ok_combine T) (hr.mono (by decide)) (by rfl) T.g_combine T.F_combine.kp T.b_combine .nil pass0 (pa_cons (pv 4) (pa_cons (pe_ix ix_tup (pv 3) pe_int (fun _ _ => rfl)) (pa_cons (pe_ix ix_tup (pv 3) pe_int (fun _ _ => rfl)) pa_nil)))) (pa_cons (pe_call (ok__law_bits T) (hr.mono (by decide)) (by rfl) T.g__law_bits T.F__law_bits.kp T.b__law_bits .nil pass0 (pa_cons (pv 4) (pa_cons (pe_ix ix_tup (pv 3) pe_int (fun _ _ => rfl)) (pa_cons (pe_ix ix_tup (pv 3) pe_int (fun _ _ => rfl)) pa_nil)))) pa_nil)))))
  (pss_one (ps_ret pe_bl))
  pss_nil)))
  (pss_cons (ps_for PassesOwn.never rfl (pi_list (pe_lst (pa_cons pe_str (pa_cons pe_str pa_nil)))) (pg_name (i := 4) sc_law.nd rfl (Or.inl rfl))
  (pss_one (ps_if (pt_not (pt_val (pe_call (ok__law_same T) (hr.mono (by decide)) (by rfl) T.g__law_same T.F__law_same.kp T.b__law_same .nil pass0 (pa_cons (pe_call (ok_combine T) (hr.mono (by decide)) (by rfl) T.g_combine T.F_combine.kp T.b_combine .nil pass0 (pa_cons (pv 4) (pa_cons (pe_ix ix_tup (pv 3) pe_int (fun _ _ => rfl)) (pa_cons (pe_ix ix_tup (pv 3) pe_int (fun _ _ => rfl)) pa_nil)))) (pa_cons (pe_call (ok__law_shift T) (hr.mono (by decide)) (by rfl) T.g__law_shift T.F__law_shift.kp T.b__law_shift .nil pass0 (pa_cons (pv 4) (pa_cons (pe_ix ix_tup (pv 3) pe_int (fun _ _ => rfl)) (pa_cons (pe_ix ix_tup (pv 3) pe_int (fun _ _ => rfl)) pa_nil)))) pa_nil)))))
  (pss_one (ps_ret pe_bl))
  pss_nil)))
  (pss_one (ps_for PassesOwn.never rfl (pi_list (pe_lst (pa_cons pe_str (pa_cons pe_str (pa_cons pe_str (pa_cons pe_str (pa_cons pe_str (pa_cons pe_str (pa_cons pe_str (pa_cons pe_str pa_nil)))))))))) (pg_name (i := 4) sc_law.nd rfl (Or.inl rfl))
  (pss_cons (ps_set (i := 5) sc_law.nd rfl (Or.inl rfl) (pe_callTy call_int1 (by rfl) T.m_int (by decide +kernel) (pa_cons (pe_call (ok__law_truth T) (hr.mono (by decide)) (by rfl) T.g__law_truth T.F__law_truth.kp T.b__law_truth .nil pass0 (pa_cons (pv 4) (pa_cons (pe_ix ix_tup (pv 3) pe_int (fun _ _ => rfl)) (pa_cons (pe_ix ix_tup (pv 3) pe_int (fun _ _ => rfl)) pa_nil)))) pa_nil)))
  (pss_one (ps_if (pt_not (pt_val (pe_call (ok__law_same T) (hr.mono (by decide)) (by rfl) T.g__law_same T.F__law_same.kp T.b__law_same .nil pass0 (pa_cons (pe_call (ok_combine T) (hr.mono (by decide)) (by rfl) T.g_combine T.F_combine.kp T.b_combine .nil pass0 (pa_cons (pv 4) (pa_cons (pe_ix ix_tup (pv 3) pe_int (fun _ _ => rfl)) (pa_cons (pe_ix ix_tup (pv 3) pe_int (fun _ _ => rfl)) pa_nil)))) (pa_cons (pv 5) pa_nil)))))
  (pss_one (ps_ret pe_bl))
  pss_nil))))))))
  (pss_cons (ps_for PassesOwn.never rfl (pi_list (pe_lst (pa_cons (pv 1) (pa_cons (pv 2) pa_nil)))) (pg_name (i := 6) sc_law.nd rfl (Or.inl rfl))
  (pss_one (ps_if (pw_or (pt_not (pt_val (pe_call (ok__law_same T) (hr.mono (by decide)) (by rfl) T.g__law_same T.F__law_same.kp T.b__law_same .nil pass0 (pa_cons (pe_call (ok_alter T) (hr.mono (by decide)) (by rfl) T.g_alter T.F_alter.kp T.b_alter .nil pass0 (pa_cons pe_str (pa_cons (pv 6) pa_nil))) (pa_cons (pe_op op_sub pe_int (pv 6)) pa_nil))))) (pw_or1 (pt_not (pt_val (pe_call (ok__law_same T) (hr.mono (by decide)) (by rfl) T.g__law_same T.F__law_same.kp T.b__law_same .nil pass0 (pa_cons (pe_call (ok_alter T) (hr.mono (by decide)) (by rfl) T.g_alter T.F_alter.kp T.b_alter .nil pass0 (pa_cons pe_str (pa_cons (pv 6) pa_nil))) (pa_cons (pe_callTy call_int1 (by rfl) T.m_int (by decide +kernel) (pa_cons (pe_cmpR op_eq (pv 6) pe_int (nomark _)) pa_nil)) pa_nil))))))).pt
  (pss_one (ps_ret pe_bl))
  pss_nil)))
  (pss_one (ps_ret pe_bl)))))), ?_⟩
    refine ⟨_, rfl, l, ns, 0, rfl, hS, fun n0 => ⟨n0, rfl, fun a H1 wa s1 => ?_⟩⟩
    refine ⟨_, rfl, l, ns, 1, rfl, s1.seq hS, fun n1 => ⟨n1, rfl, fun b H2 wb s2 => ?_⟩⟩
    have s02 : Same H H2 := s1.trans s2
    -- for pair in ..
    refine ⟨_, rfl, _, rfl, by show 2 ≤ sizeLine; decide, fun t1 m1 => ?_⟩
    refine ⟨_, rfl, _, rfl, by show 2 ≤ sizeLine; decide, fun t2 m2 => ?_⟩
    refine ⟨_, rfl, _, rfl, by show 2 ≤ sizeLine; decide, fun t3 m3 => ?_⟩
    refine ⟨by show 3 ≤ sizeLine; decide, fun p2 np2 => ⟨p2, rfl, ⟨_, SqL.of upd_same⟩, ?_⟩⟩
    let G1 := upd H2 t1 (.tup [.int a, .int b])
    let G2 := upd G1 t2 (.tup [.int b, .int a])
    let G3 := upd G2 t3 (.tup [.int a, .int a])
    let G4 := upd G3 p2 (.lst [.ref t1, .ref t2, .ref t3])
    have k1 : Same H2 G1 := same_new m1
    have k2 : Same G1 G2 := same_new m2
    have k3 : Same G2 G3 := same_new m3
    have k4 : Same G3 G4 := same_new np2
    have g1 : G4 t1 = some (.tup [.int a, .int b]) := k4 _ _ (k3 _ _ (k2 _ _ upd_same))
    have g2 : G4 t2 = some (.tup [.int b, .int a]) := k4 _ _ (k3 _ _ upd_same)
    have g3 : G4 t3 = some (.tup [.int a, .int a]) := k4 _ _ upd_same
    refine for_list (xs := [.ref t1, .ref t2, .ref t3]) (fun i σ H'' => ∃ y3 y4 y5, σ = [some (.ref l), some (.int a), some (.int b), y3, y4, y5, none] ∧ Same G4 H'') ⟨none, none, none, rfl, Same.refl _⟩
      (fun i σ H'' _ ⟨_, _, _, _, sm⟩ => SqL.of (sm _ _ upd_same)) ?_ ?_
    · rintro j x σ H3 hj ⟨z3, z4, z5, rfl, sm2⟩
      obtain ⟨t, u, v, rfl, wu, wv, ht⟩ : ∃ (t : Addr) (u v : Int), x = .ref t ∧ Word u ∧ Word v ∧ G4 t = some (.tup [.int u, .int v]) := by
        have hm := List.mem_of_getElem? hj
        simp only [List.mem_cons, List.mem_nil_iff, or_false] at hm
        rcases hm with rfl | rfl | rfl
        · exact ⟨t1, a, b, rfl, wa, wb, g1⟩
        · exact ⟨t2, b, a, rfl, wb, wa, g2⟩
        · exact ⟨t3, a, a, rfl, wa, wa, g3⟩
      -- the bits
      refine ⟨by show 3 ≤ sizeLine; decide, fun p3 np3 => ⟨p3, rfl, ⟨_, SqL.of upd_same⟩, ?_⟩⟩
      refine for_list (xs := (["&", "|", "^"] : List Str).map V.str) (fun i σ H'' => ∃ y4, σ = [some (.ref l), some (.int a), some (.int b), some (.ref t), y4, z5, none] ∧ Same (upd H3 p3 (.lst ((["&", "|", "^"] : List Str).map V.str))) H'') ⟨z4, rfl, Same.refl _⟩
        (fun i σ H'' _ ⟨_, _, sm⟩ => SqL.of (sm _ _ upd_same)) ?_ ?_
      · rintro j x σ H' hj ⟨y4, rfl, sm3⟩
        obtain ⟨z, hz, rfl⟩ := list_str hj
        have hT : SqT K H' t [.int u, .int v] := SqT.of (sm3 _ _ (same_new np3 _ _ (sm2 _ _ ht)))
        have hzo : z ∈ ops ∨ z ∈ cmps := by
          left
          simp only [List.mem_cons, List.mem_nil_iff, or_false] at hz
          rcases hz with rfl | rfl | rfl <;> simp [ops]
        refine ⟨_, rfl, _, rfl, t, _, 0, .int u, rfl, rfl, hT, atI_nat (j := 0) rfl, _, rfl, t, _, 1, .int v, rfl, rfl, hT, atI_nat (j := 1) rfl, z, u, v, rfl, wu, wv, hzo, ?_⟩
        refine ⟨_, rfl, _, rfl, t, _, 0, .int u, rfl, rfl, hT, atI_nat (j := 0) rfl, _, rfl, t, _, 1, .int v, rfl, rfl, hT, atI_nat (j := 1) rfl, z, u, v, rfl, wu, wv, hz, ?_⟩
        refine ⟨_, _, rfl, _, rfl, ?_⟩
        rw [decide_eq_true rfl]
        exact iteF ⟨_, rfl, sm3⟩
      rintro σ H4 ⟨y4, rfl, sm3⟩
      have s4 : Same G4 H4 := sm2.trans ((same_new np3).trans sm3)
      -- the shifts
      refine ⟨by show 2 ≤ sizeLine; decide, fun p4 np4 => ⟨p4, rfl, ⟨_, SqL.of upd_same⟩, ?_⟩⟩
      refine for_list (xs := (["<<", ">>"] : List Str).map V.str) (fun i σ H'' => ∃ y4, σ = [some (.ref l), some (.int a), some (.int b), some (.ref t), y4, z5, none] ∧ Same (upd H4 p4 (.lst ((["<<", ">>"] : List Str).map V.str))) H'') ⟨y4, rfl, Same.refl _⟩
        (fun i σ H'' _ ⟨_, _, sm⟩ => SqL.of (sm _ _ upd_same)) ?_ ?_
      · rintro j x σ H' hj ⟨y4, rfl, sm3⟩
        obtain ⟨z, hz, rfl⟩ := list_str hj
        have hT : SqT K H' t [.int u, .int v] := SqT.of (sm3 _ _ (same_new np4 _ _ (s4 _ _ ht)))
        have hzo : z ∈ ops ∨ z ∈ cmps := by
          left
          simp only [List.mem_cons, List.mem_nil_iff, or_false] at hz
          rcases hz with rfl | rfl <;> simp [ops]
        refine ⟨_, rfl, _, rfl, t, _, 0, .int u, rfl, rfl, hT, atI_nat (j := 0) rfl, _, rfl, t, _, 1, .int v, rfl, rfl, hT, atI_nat (j := 1) rfl, z, u, v, rfl, wu, wv, hzo, ?_⟩
        refine ⟨_, rfl, _, rfl, t, _, 0, .int u, rfl, rfl, hT, atI_nat (j := 0) rfl, _, rfl, t, _, 1, .int v, rfl, rfl, hT, atI_nat (j := 1) rfl, z, u, v, rfl, wu, hz, ?_⟩
        refine ⟨_, _, rfl, _, rfl, ?_⟩
        rw [decide_eq_true rfl]
        exact iteF ⟨_, rfl, sm3⟩
      rintro σ H5 ⟨y4, rfl, sm4⟩
      have s5 : Same G4 H5 := s4.trans ((same_new np4).trans sm4)
      -- the comparisons
      refine ⟨by show 8 ≤ sizeLine; decide, fun p5 np5 => ⟨p5, rfl, ⟨_, SqL.of upd_same⟩, ?_⟩⟩
      refine for_list (xs := cmps.map V.str) (fun i σ H'' => ∃ y4 y5, σ = [some (.ref l), some (.int a), some (.int b), some (.ref t), y4, y5, none] ∧ Same (upd H5 p5 (.lst (cmps.map V.str))) H'') ⟨y4, z5, rfl, Same.refl _⟩
        (fun i σ H'' _ ⟨_, _, _, sm⟩ => SqL.of (sm _ _ upd_same)) ?_ ?_
      · rintro j x σ H' hj ⟨y4, y5, rfl, sm3⟩
        obtain ⟨z, hz, rfl⟩ := list_str hj
        have hT : SqT K H' t [.int u, .int v] := SqT.of (sm3 _ _ (same_new np5 _ _ (s5 _ _ ht)))
        have e : comb z u v = if hld z u v = true then 1 else 0 := by
          simp only [cmps, List.mem_cons, List.mem_nil_iff, or_false] at hz
          rcases hz with rfl | rfl | rfl | rfl | rfl | rfl | rfl | rfl <;> rfl
        refine ⟨_, rfl, _, rfl, t, _, 0, .int u, rfl, rfl, hT, atI_nat (j := 0) rfl, _, rfl, t, _, 1, .int v, rfl, rfl, hT, atI_nat (j := 1) rfl, z, u, v, rfl, wu, wv, hz, ?_⟩
        refine .inr ⟨_, rfl, ?_⟩
        refine ⟨_, rfl, _, rfl, t, _, 0, .int u, rfl, rfl, hT, atI_nat (j := 0) rfl, _, rfl, t, _, 1, .int v, rfl, rfl, hT, atI_nat (j := 1) rfl, z, u, v, rfl, wu, wv, .inr hz, ?_⟩
        refine ⟨_, rfl, _, _, rfl, _, rfl, ?_⟩
        rw [e, decide_eq_true rfl]
        exact iteF ⟨_, _, rfl, sm3⟩
      rintro σ H6 ⟨y4, y5, rfl, sm5⟩
      exact ⟨_, _, _, rfl, s5.trans ((same_new np5).trans sm5)⟩
    · rintro σ H3 ⟨y3, y4, y5, rfl, sm⟩
      refine ⟨_, rfl, _, rfl, by show 2 ≤ sizeLine; decide, fun p4 np4 => ⟨p4, rfl, ⟨_, SqL.of upd_same⟩, ?_⟩⟩
      refine for_list (xs := [a, b].map V.int) (fun i σ H' => ∃ y6, σ = [some (.ref l), some (.int a), some (.int b), y3, y4, y5, y6] ∧ Same (upd H3 p4 (.lst ([a, b].map V.int))) H') ⟨none, rfl, Same.refl _⟩
        (fun i σ H' _ ⟨_, _, sm⟩ => SqL.of (sm _ _ upd_same)) ?_ ?_
      · rintro j x σ H' hj ⟨y6, rfl, sm3⟩
        obtain ⟨n, rfl, wn⟩ : ∃ n : Int, x = .int n ∧ Word n := by
          obtain ⟨n, hn, e⟩ := List.mem_map.mp (List.mem_of_getElem? hj)
          simp only [List.mem_cons, List.mem_nil_iff, or_false] at hn
          rcases hn with rfl | rfl
          · exact ⟨_, e.symm, wa⟩
          · exact ⟨_, e.symm, wb⟩
        refine ⟨_, rfl, "inv", n, rfl, by simp, ?_⟩
        refine ⟨_, rfl, _, _, rfl, rfl, _, _, rfl, _, rfl, ?_⟩
        rw [inv_eq wn, decide_eq_true rfl]
        refine iteF ?_
        refine ⟨_, rfl, "not", n, rfl, by simp, ?_⟩
        refine ⟨_, rfl, rfl, .inr ⟨_, rfl, ?_⟩⟩
        have e : alt "not" n = if decide (V.int n = V.int 0) = true then 1 else 0 := by
          rw [int_eq]
          show (if n = 0 then (1 : Int) else 0) = _
          by_cases h : n = 0
          · rw [if_pos h, if_pos (decide_eq_true h)]
          · rw [if_neg h, if_neg (by simp [h])]
        refine ⟨_, _, rfl, _, rfl, ?_⟩
        rw [e, decide_eq_true rfl]
        exact iteF ⟨_, rfl, sm3⟩
      · rintro σ H5 ⟨y6, rfl, sm3⟩
        exact q _
end
def top_mk {K : PySem.W.Frag} {h : Heap} {mg : Str → Option Value} (X : K.In h) (G : h.Ns mainGlobals mg)
    {a_wrap : Addr} {od_wrap an_wrap : Option Addr} {sl_wrap : Array (Option Value)} {oc_wrap kV_wrap dc_wrap pm_wrap cd_wrap ct_wrap : Value}
    {a_signed : Addr} {od_signed an_signed : Option Addr} {sl_signed : Array (Option Value)} {oc_signed kV_signed dc_signed pm_signed cd_signed ct_signed : Value}
    {a__holds : Addr} {od__holds an__holds : Option Addr} {sl__holds : Array (Option Value)} {oc__holds kV__holds dc__holds pm__holds cd__holds ct__holds : Value}
    {a_combine : Addr} {od_combine an_combine : Option Addr} {sl_combine : Array (Option Value)} {oc_combine kV_combine dc_combine pm_combine cd_combine ct_combine : Value}
    {a_alter : Addr} {od_alter an_alter : Option Addr} {sl_alter : Array (Option Value)} {oc_alter kV_alter dc_alter pm_alter cd_alter ct_alter : Value}
    {a__law_is_integer : Addr} {od__law_is_integer an__law_is_integer : Option Addr} {sl__law_is_integer : Array (Option Value)} {oc__law_is_integer kV__law_is_integer dc__law_is_integer pm__law_is_integer cd__law_is_integer ct__law_is_integer : Value}
    {a__law_cell : Addr} {od__law_cell an__law_cell : Option Addr} {sl__law_cell : Array (Option Value)} {oc__law_cell kV__law_cell dc__law_cell pm__law_cell cd__law_cell ct__law_cell : Value}
    {a__law_word : Addr} {od__law_word an__law_word : Option Addr} {sl__law_word : Array (Option Value)} {oc__law_word kV__law_word dc__law_word pm__law_word cd__law_word ct__law_word : Value}
    {a__law_bits : Addr} {od__law_bits an__law_bits : Option Addr} {sl__law_bits : Array (Option Value)} {oc__law_bits kV__law_bits dc__law_bits pm__law_bits cd__law_bits ct__law_bits : Value}
    {a__law_shift : Addr} {od__law_shift an__law_shift : Option Addr} {sl__law_shift : Array (Option Value)} {oc__law_shift kV__law_shift dc__law_shift pm__law_shift cd__law_shift ct__law_shift : Value}
    {a__law_sign : Addr} {od__law_sign an__law_sign : Option Addr} {sl__law_sign : Array (Option Value)} {oc__law_sign kV__law_sign dc__law_sign pm__law_sign cd__law_sign ct__law_sign : Value}
    {a__law_truth : Addr} {od__law_truth an__law_truth : Option Addr} {sl__law_truth : Array (Option Value)} {oc__law_truth kV__law_truth dc__law_truth pm__law_truth cd__law_truth ct__law_truth : Value}
    {a__law_same : Addr} {od__law_same an__law_same : Option Addr} {sl__law_same : Array (Option Value)} {oc__law_same kV__law_same dc__law_same pm__law_same cd__law_same ct__law_same : Value}
    {a_law : Addr} {od_law an_law : Option Addr} {sl_law : Array (Option Value)} {oc_law kV_law dc_law pm_law cd_law ct_law : Value}
    {t_WORDS : Tok}
    {t_SIGN_BIT : Tok}
    {t_GREATEST_WORD : Tok}
    (n_wrap : PySem.W.nsIn K mainGlobals "wrap" = some (some (.ref a_wrap)))
    (l_wrap : K.lookup a_wrap = some ⟨oc_wrap, od_wrap, .func (PySem.W.fnOf "wrap" "wrap" (defArgs s_wrap) (defBody s_wrap) (defScope s_wrap) .none kV_wrap dc_wrap pm_wrap an_wrap cd_wrap ct_wrap), sl_wrap⟩)
    (c_wrap : PySem.W.codeIn K cd_wrap "wrap" = true)
    (k_wrap : PySem.W.keepIn K (.ref a_wrap) = true)
    (n_signed : PySem.W.nsIn K mainGlobals "signed" = some (some (.ref a_signed)))
    (l_signed : K.lookup a_signed = some ⟨oc_signed, od_signed, .func (PySem.W.fnOf "signed" "signed" (defArgs s_signed) (defBody s_signed) (defScope s_signed) .none kV_signed dc_signed pm_signed an_signed cd_signed ct_signed), sl_signed⟩)
    (c_signed : PySem.W.codeIn K cd_signed "signed" = true)
    (k_signed : PySem.W.keepIn K (.ref a_signed) = true)
    (n__holds : PySem.W.nsIn K mainGlobals "_holds" = some (some (.ref a__holds)))
    (l__holds : K.lookup a__holds = some ⟨oc__holds, od__holds, .func (PySem.W.fnOf "_holds" "_holds" (defArgs s__holds) (defBody s__holds) (defScope s__holds) .none kV__holds dc__holds pm__holds an__holds cd__holds ct__holds), sl__holds⟩)
    (c__holds : PySem.W.codeIn K cd__holds "_holds" = true)
    (k__holds : PySem.W.keepIn K (.ref a__holds) = true)
    (n_combine : PySem.W.nsIn K mainGlobals "combine" = some (some (.ref a_combine)))
    (l_combine : K.lookup a_combine = some ⟨oc_combine, od_combine, .func (PySem.W.fnOf "combine" "combine" (defArgs s_combine) (defBody s_combine) (defScope s_combine) .none kV_combine dc_combine pm_combine an_combine cd_combine ct_combine), sl_combine⟩)
    (c_combine : PySem.W.codeIn K cd_combine "combine" = true)
    (k_combine : PySem.W.keepIn K (.ref a_combine) = true)
    (n_alter : PySem.W.nsIn K mainGlobals "alter" = some (some (.ref a_alter)))
    (l_alter : K.lookup a_alter = some ⟨oc_alter, od_alter, .func (PySem.W.fnOf "alter" "alter" (defArgs s_alter) (defBody s_alter) (defScope s_alter) .none kV_alter dc_alter pm_alter an_alter cd_alter ct_alter), sl_alter⟩)
    (c_alter : PySem.W.codeIn K cd_alter "alter" = true)
    (k_alter : PySem.W.keepIn K (.ref a_alter) = true)
    (n__law_is_integer : PySem.W.nsIn K mainGlobals "_law_is_integer" = some (some (.ref a__law_is_integer)))
    (l__law_is_integer : K.lookup a__law_is_integer = some ⟨oc__law_is_integer, od__law_is_integer, .func (PySem.W.fnOf "_law_is_integer" "_law_is_integer" (defArgs s__law_is_integer) (defBody s__law_is_integer) (defScope s__law_is_integer) .none kV__law_is_integer dc__law_is_integer pm__law_is_integer an__law_is_integer cd__law_is_integer ct__law_is_integer), sl__law_is_integer⟩)
    (c__law_is_integer : PySem.W.codeIn K cd__law_is_integer "_law_is_integer" = true)
    (k__law_is_integer : PySem.W.keepIn K (.ref a__law_is_integer) = true)
    (n__law_cell : PySem.W.nsIn K mainGlobals "_law_cell" = some (some (.ref a__law_cell)))
    (l__law_cell : K.lookup a__law_cell = some ⟨oc__law_cell, od__law_cell, .func (PySem.W.fnOf "_law_cell" "_law_cell" (defArgs s__law_cell) (defBody s__law_cell) (defScope s__law_cell) .none kV__law_cell dc__law_cell pm__law_cell an__law_cell cd__law_cell ct__law_cell), sl__law_cell⟩)
    (c__law_cell : PySem.W.codeIn K cd__law_cell "_law_cell" = true)
    (k__law_cell : PySem.W.keepIn K (.ref a__law_cell) = true)
    (n__law_word : PySem.W.nsIn K mainGlobals "_law_word" = some (some (.ref a__law_word)))
    (l__law_word : K.lookup a__law_word = some ⟨oc__law_word, od__law_word, .func (PySem.W.fnOf "_law_word" "_law_word" (defArgs s__law_word) (defBody s__law_word) (defScope s__law_word) .none kV__law_word dc__law_word pm__law_word an__law_word cd__law_word ct__law_word), sl__law_word⟩)
    (c__law_word : PySem.W.codeIn K cd__law_word "_law_word" = true)
    (k__law_word : PySem.W.keepIn K (.ref a__law_word) = true)
    (n__law_bits : PySem.W.nsIn K mainGlobals "_law_bits" = some (some (.ref a__law_bits)))
    (l__law_bits : K.lookup a__law_bits = some ⟨oc__law_bits, od__law_bits, .func (PySem.W.fnOf "_law_bits" "_law_bits" (defArgs s__law_bits) (defBody s__law_bits) (defScope s__law_bits) .none kV__law_bits dc__law_bits pm__law_bits an__law_bits cd__law_bits ct__law_bits), sl__law_bits⟩)
    (c__law_bits : PySem.W.codeIn K cd__law_bits "_law_bits" = true)
    (k__law_bits : PySem.W.keepIn K (.ref a__law_bits) = true)
    (n__law_shift : PySem.W.nsIn K mainGlobals "_law_shift" = some (some (.ref a__law_shift)))
    (l__law_shift : K.lookup a__law_shift = some ⟨oc__law_shift, od__law_shift, .func (PySem.W.fnOf "_law_shift" "_law_shift" (defArgs s__law_shift) (defBody s__law_shift) (defScope s__law_shift) .none kV__law_shift dc__law_shift pm__law_shift an__law_shift cd__law_shift ct__law_shift), sl__law_shift⟩)
    (c__law_shift : PySem.W.codeIn K cd__law_shift "_law_shift" = true)
    (k__law_shift : PySem.W.keepIn K (.ref a__law_shift) = true)
    (n__law_sign : PySem.W.nsIn K mainGlobals "_law_sign" = some (some (.ref a__law_sign)))
    (l__law_sign : K.lookup a__law_sign = some ⟨oc__law_sign, od__law_sign, .func (PySem.W.fnOf "_law_sign" "_law_sign" (defArgs s__law_sign) (defBody s__law_sign) (defScope s__law_sign) .none kV__law_sign dc__law_sign pm__law_sign an__law_sign cd__law_sign ct__law_sign), sl__law_sign⟩)
    (c__law_sign : PySem.W.codeIn K cd__law_sign "_law_sign" = true)
    (k__law_sign : PySem.W.keepIn K (.ref a__law_sign) = true)
    (n__law_truth : PySem.W.nsIn K mainGlobals "_law_truth" = some (some (.ref a__law_truth)))
    (l__law_truth : K.lookup a__law_truth = some ⟨oc__law_truth, od__law_truth, .func (PySem.W.fnOf "_law_truth" "_law_truth" (defArgs s__law_truth) (defBody s__law_truth) (defScope s__law_truth) .none kV__law_truth dc__law_truth pm__law_truth an__law_truth cd__law_truth ct__law_truth), sl__law_truth⟩)
    (c__law_truth : PySem.W.codeIn K cd__law_truth "_law_truth" = true)
    (k__law_truth : PySem.W.keepIn K (.ref a__law_truth) = true)
    (n__law_same : PySem.W.nsIn K mainGlobals "_law_same" = some (some (.ref a__law_same)))
    (l__law_same : K.lookup a__law_same = some ⟨oc__law_same, od__law_same, .func (PySem.W.fnOf "_law_same" "_law_same" (defArgs s__law_same) (defBody s__law_same) (defScope s__law_same) .none kV__law_same dc__law_same pm__law_same an__law_same cd__law_same ct__law_same), sl__law_same⟩)
    (c__law_same : PySem.W.codeIn K cd__law_same "_law_same" = true)
    (k__law_same : PySem.W.keepIn K (.ref a__law_same) = true)
    (n_law : PySem.W.nsIn K mainGlobals "law" = some (some (.ref a_law)))
    (l_law : K.lookup a_law = some ⟨oc_law, od_law, .func (PySem.W.fnOf "law" "law" (defArgs s_law) (defBody s_law) (defScope s_law) .none kV_law dc_law pm_law an_law cd_law ct_law), sl_law⟩)
    (c_law : PySem.W.codeIn K cd_law "law" = true)
    (k_law : PySem.W.keepIn K (.ref a_law) = true)
    (z_bool : PySem.W.nsIn K mainGlobals "bool" = some none)
    (z_isinstance : PySem.W.nsIn K mainGlobals "isinstance" = some none)
    (z_int : PySem.W.nsIn K mainGlobals "int" = some none)
    (z_len : PySem.W.nsIn K mainGlobals "len" = some none)
    (z_range : PySem.W.nsIn K mainGlobals "range" = some none)
    (v_WORDS : PySem.W.nsIn K mainGlobals "WORDS" = some (some (.int 4294967296 t_WORDS)))
    (v_SIGN_BIT : PySem.W.nsIn K mainGlobals "SIGN_BIT" = some (some (.int 2147483648 t_SIGN_BIT)))
    (v_GREATEST_WORD : PySem.W.nsIn K mainGlobals "GREATEST_WORD" = some (some (.int 4294967295 t_GREATEST_WORD))) :
    Top K mg :=
  { a_wrap := a_wrap,
    d_wrap := _,
    F_wrap := fun_mk (st := s_wrap) l_wrap c_wrap k_wrap,
    g_wrap := PySem.W.mg_of X G n_wrap,
    b_wrap := (fun_mk (st := s_wrap) l_wrap c_wrap k_wrap).binds (ps := ["n"]) fun _ _ _ _ _ _ us hl => match us, hl with | [_], _ => rfl,
    a_signed := a_signed,
    d_signed := _,
    F_signed := fun_mk (st := s_signed) l_signed c_signed k_signed,
    g_signed := PySem.W.mg_of X G n_signed,
    b_signed := (fun_mk (st := s_signed) l_signed c_signed k_signed).binds (ps := ["w"]) fun _ _ _ _ _ _ us hl => match us, hl with | [_], _ => rfl,
    a__holds := a__holds,
    d__holds := _,
    F__holds := fun_mk (st := s__holds) l__holds c__holds k__holds,
    g__holds := PySem.W.mg_of X G n__holds,
    b__holds := (fun_mk (st := s__holds) l__holds c__holds k__holds).binds (ps := ["operator", "a", "b"]) fun _ _ _ _ _ _ us hl => match us, hl with | [_, _, _], _ => rfl,
    a_combine := a_combine,
    d_combine := _,
    F_combine := fun_mk (st := s_combine) l_combine c_combine k_combine,
    g_combine := PySem.W.mg_of X G n_combine,
    b_combine := (fun_mk (st := s_combine) l_combine c_combine k_combine).binds (ps := ["operator", "a", "b"]) fun _ _ _ _ _ _ us hl => match us, hl with | [_, _, _], _ => rfl,
    a_alter := a_alter,
    d_alter := _,
    F_alter := fun_mk (st := s_alter) l_alter c_alter k_alter,
    g_alter := PySem.W.mg_of X G n_alter,
    b_alter := (fun_mk (st := s_alter) l_alter c_alter k_alter).binds (ps := ["operator", "a"]) fun _ _ _ _ _ _ us hl => match us, hl with | [_, _], _ => rfl,
    a__law_is_integer := a__law_is_integer,
    d__law_is_integer := _,
    F__law_is_integer := fun_mk (st := s__law_is_integer) l__law_is_integer c__law_is_integer k__law_is_integer,
    g__law_is_integer := PySem.W.mg_of X G n__law_is_integer,
    b__law_is_integer := (fun_mk (st := s__law_is_integer) l__law_is_integer c__law_is_integer k__law_is_integer).binds (ps := ["actual"]) fun _ _ _ _ _ _ us hl => match us, hl with | [_], _ => rfl,
    a__law_cell := a__law_cell,
    d__law_cell := _,
    F__law_cell := fun_mk (st := s__law_cell) l__law_cell c__law_cell k__law_cell,
    g__law_cell := PySem.W.mg_of X G n__law_cell,
    b__law_cell := (fun_mk (st := s__law_cell) l__law_cell c__law_cell k__law_cell).binds (ps := ["script", "k"]) fun _ _ _ _ _ _ us hl => match us, hl with | [_, _], _ => rfl,
    a__law_word := a__law_word,
    d__law_word := _,
    F__law_word := fun_mk (st := s__law_word) l__law_word c__law_word k__law_word,
    g__law_word := PySem.W.mg_of X G n__law_word,
    b__law_word := (fun_mk (st := s__law_word) l__law_word c__law_word k__law_word).binds (ps := ["cell"]) fun _ _ _ _ _ _ us hl => match us, hl with | [_], _ => rfl,
    a__law_bits := a__law_bits,
    d__law_bits := _,
    F__law_bits := fun_mk (st := s__law_bits) l__law_bits c__law_bits k__law_bits,
    g__law_bits := PySem.W.mg_of X G n__law_bits,
    b__law_bits := (fun_mk (st := s__law_bits) l__law_bits c__law_bits k__law_bits).binds (ps := ["operator", "a", "b"]) fun _ _ _ _ _ _ us hl => match us, hl with | [_, _, _], _ => rfl,
    a__law_shift := a__law_shift,
    d__law_shift := _,
    F__law_shift := fun_mk (st := s__law_shift) l__law_shift c__law_shift k__law_shift,
    g__law_shift := PySem.W.mg_of X G n__law_shift,
    b__law_shift := (fun_mk (st := s__law_shift) l__law_shift c__law_shift k__law_shift).binds (ps := ["operator", "a", "b"]) fun _ _ _ _ _ _ us hl => match us, hl with | [_, _, _], _ => rfl,
    a__law_sign := a__law_sign,
    d__law_sign := _,
    F__law_sign := fun_mk (st := s__law_sign) l__law_sign c__law_sign k__law_sign,
    g__law_sign := PySem.W.mg_of X G n__law_sign,
    b__law_sign := (fun_mk (st := s__law_sign) l__law_sign c__law_sign k__law_sign).binds (ps := ["w"]) fun _ _ _ _ _ _ us hl => match us, hl with | [_], _ => rfl,
    a__law_truth := a__law_truth,
    d__law_truth := _,
    F__law_truth := fun_mk (st := s__law_truth) l__law_truth c__law_truth k__law_truth,
    g__law_truth := PySem.W.mg_of X G n__law_truth,
    b__law_truth := (fun_mk (st := s__law_truth) l__law_truth c__law_truth k__law_truth).binds (ps := ["operator", "a", "b"]) fun _ _ _ _ _ _ us hl => match us, hl with | [_, _, _], _ => rfl,
    a__law_same := a__law_same,
    d__law_same := _,
    F__law_same := fun_mk (st := s__law_same) l__law_same c__law_same k__law_same,
    g__law_same := PySem.W.mg_of X G n__law_same,
    b__law_same := (fun_mk (st := s__law_same) l__law_same c__law_same k__law_same).binds (ps := ["actual", "due"]) fun _ _ _ _ _ _ us hl => match us, hl with | [_, _], _ => rfl,
    a_law := a_law,
    d_law := _,
    F_law := fun_mk (st := s_law) l_law c_law k_law,
    g_law := PySem.W.mg_of X G n_law,
    b_law := (fun_mk (st := s_law) l_law c_law k_law).binds (ps := ["script"]) fun _ _ _ _ _ _ us hl => match us, hl with | [_], _ => rfl,
    m_bool := PySem.W.mg_none_of X G z_bool,
    m_isinstance := PySem.W.mg_none_of X G z_isinstance,
    m_int := PySem.W.mg_none_of X G z_int,
    m_len := PySem.W.mg_none_of X G z_len,
    m_range := PySem.W.mg_none_of X G z_range,
    t_WORDS := t_WORDS,
    c_WORDS := PySem.W.mg_of X G v_WORDS,
    t_SIGN_BIT := t_SIGN_BIT,
    c_SIGN_BIT := PySem.W.mg_of X G v_SIGN_BIT,
    t_GREATEST_WORD := t_GREATEST_WORD,
    c_GREATEST_WORD := PySem.W.mg_of X G v_GREATEST_WORD }
theorem all_mk {l : PySem.W.OpenLaw} {w : World} {K : PySem.W.Frag} {mg : Str → Option Value} {fa : Addr} (T : Top K mg) (hfa : mg "law" = some (.ref fa)) :
    ∃ fd : FuncData, (∀ (s : Shared) (v : Value), BindsTo s fd ⟨[v], []⟩ [("script", v)]) ∧ ∀ base : Heap, K.In base → base.Ns mainGlobals mg → FnOk l.prog w K mg base CX0 4 fa fd ["script"] (sp_law K) := by
  have e := hfa.symm.trans T.g_law
  cases e
  refine ⟨T.d_law, fun s v => ?_, fun base _ _ => ok_law T⟩
  obtain ⟨oc, od, kV, doc, pm, an, cdv, ct, osl, e, lk, hcd⟩ := T.F_law.ex
  rw [e]
  exact .of_eq rfl
end Mine
open PySem PySem.W PyProof.Rows
set_option maxHeartbeats 0 in
theorem PySem.Challenge.cw_deadbeat_k02_bits_and_comparisons_of_wor_holds : PySem.Challenge.rw_deadbeat_k02_bits_and_comparisons_of_wor.Holds := by
  w_on; o_law; k_head; (case hw => w_witness2)
  k_fill
  refine L2.walk_of (l := PySem.Challenge.rw_deadbeat_k02_bits_and_comparisons_of_wor) (n := 63) (k := 4) (x := "script") (CX := fun _ => L2.CX0) (sp := fun w => Mine.sp_law _) rfl (by decide) rfl ⟨rfl, by decide, by decide⟩ (fun w h Y => PySem.W.kIn_of Y) ?F (fun _ _ a ns hl _ hS => ⟨a, ns, rfl, hS, hl, fun _ => rfl⟩) (fun _ _ _ _ _ h => h)
  case F =>
    intro w mg fa h KX G hmg
    refine' Mine.all_mk (Mine.top_mk KX G ?n_wrap ?l_wrap ?c_wrap ?k_wrap ?n_signed ?l_signed ?c_signed ?k_signed ?n__holds ?l__holds ?c__holds ?k__holds ?n_combine ?l_combine ?c_combine ?k_combine ?n_alter ?l_alter ?c_alter ?k_alter ?n__law_is_integer ?l__law_is_integer ?c__law_is_integer ?k__law_is_integer ?n__law_cell ?l__law_cell ?c__law_cell ?k__law_cell ?n__law_word ?l__law_word ?c__law_word ?k__law_word ?n__law_bits ?l__law_bits ?c__law_bits ?k__law_bits ?n__law_shift ?l__law_shift ?c__law_shift ?k__law_shift ?n__law_sign ?l__law_sign ?c__law_sign ?k__law_sign ?n__law_truth ?l__law_truth ?c__law_truth ?k__law_truth ?n__law_same ?l__law_same ?c__law_same ?k__law_same ?n_law ?l_law ?c_law ?k_law ?z_bool ?z_isinstance ?z_int ?z_len ?z_range ?v_WORDS ?v_SIGN_BIT ?v_GREATEST_WORD) hmg
    (case n_wrap => k_is); (case l_wrap => k_is); (case c_wrap => k_is); (case k_wrap => k_is); (case n_signed => k_is); (case l_signed => k_is); (case c_signed => k_is); (case k_signed => k_is); (case n__holds => k_is); (case l__holds => k_is); (case c__holds => k_is); (case k__holds => k_is); (case n_combine => k_is); (case l_combine => k_is); (case c_combine => k_is); (case k_combine => k_is); (case n_alter => k_is); (case l_alter => k_is); (case c_alter => k_is); (case k_alter => k_is); (case n__law_is_integer => k_is); (case l__law_is_integer => k_is); (case c__law_is_integer => k_is); (case k__law_is_integer => k_is); (case n__law_cell => k_is); (case l__law_cell => k_is); (case c__law_cell => k_is); (case k__law_cell => k_is); (case n__law_word => k_is); (case l__law_word => k_is); (case c__law_word => k_is); (case k__law_word => k_is); (case n__law_bits => k_is); (case l__law_bits => k_is); (case c__law_bits => k_is); (case k__law_bits => k_is); (case n__law_shift => k_is); (case l__law_shift => k_is); (case c__law_shift => k_is); (case k__law_shift => k_is); (case n__law_sign => k_is); (case l__law_sign => k_is); (case c__law_sign => k_is); (case k__law_sign => k_is); (case n__law_truth => k_is); (case l__law_truth => k_is); (case c__law_truth => k_is); (case k__law_truth => k_is); (case n__law_same => k_is); (case l__law_same => k_is); (case c__law_same => k_is); (case k__law_same => k_is); (case n_law => k_is); (case l_law => k_is); (case c_law => k_is); (case k_law => k_is); (case z_bool => k_is); (case z_isinstance => k_is); (case z_int => k_is); (case z_len => k_is); (case z_range => k_is); (case v_WORDS => k_is); (case v_SIGN_BIT => k_is); (case v_GREATEST_WORD => k_is)
