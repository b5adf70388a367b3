import PyProof.Rows.All
import Wide.All
import OpenK.AllK
import Wide.FinOn
import PyProof.RulesMatch
import HandS.Base
import HandS.Call
import HandS.Words
import HandS.IsInst
import HandS.ForExc
import HandS.Zip
import HandS.Walk
import HandS.Strs
import PySem.Challenge.RW_deadbeat_k19_caches_by_age
import HandS.ForMost
import HandS.Wide
import HandS.StrMore
import HandS.IntHex
import HandS.ReSub
import HandS.Codes
import HandS.Evl
import HandS.RaiseMore
import HandS.More
import HandS.SetFor
set_option Elab.async false
set_option linter.all false
set_option maxRecDepth 100000
namespace L2
open PySem PySem.Spec PyProof.Rows
/-- the cases of a match over texts: a written text or whatever is left, and what is done -/
def tCases (z : Str) : List (Option Str × TS) → TS
  | [] => fun D σ H => D.nx σ H
  | (none, t) :: _ => t
  | (some c, t) :: r => fun D σ H => if z = c then t D σ H else tCases z r D σ H
def tMatch (te : TE) (l : List (Option Str × TS)) : TS := fun D σ H => te σ H fun x H1 => ∃ z : Str, x = .str z ∧ tCases z l D σ H1
inductive PCs (X : Cx) : List MatchCase → List (Option Str × TS) → Prop
  | nil : PCs X [] []
  | rest {body : List Stmt} {t : TS} {p : Pos} {r : List MatchCase} : PSs X body t → PCs X (⟨.MatchAs none none p, none, body⟩ :: r) [(none, t)]
  | text {body : List Stmt} {t : TS} {c : Str} {j : Nat} {p p2 : Pos} {r : List MatchCase} {l : List (Option Str × TS)} : PSs X body t → PCs X r l →
      PCs X (⟨.MatchValue (.Constant (.str c) j p) p2, none, body⟩ :: r) ((some c, t) :: l)
theorem run_cases {X : Cx} {z : Str} {u : Value} (ru : RelV (.str z) u) : ∀ {cs : List MatchCase} {l : List (Option Str × TS)}, PCs X cs l → ∀ (first : Bool) (pins : List (Addr × Obj)) (s : Shared) (σ : St) (H : Hp) (D : Ends), Inv X pins σ H s → tCases z l D σ H →
    wpAny (model X.prog X.w) X.A (matchCases cs X.env u first) (SP X pins D) X.xe s
  | _, _, .nil, first, pins, s, σ, H, D, I, h => wpAny_matchCases_nil ⟨σ, H, I, h⟩
  | _, _, .rest hb, first, pins, s, σ, H, D, I, h => by
    refine wpAny_matchCases_cons (wpAny_matchPattern_Capture ?_)
    exact wpAny_assignInOrder_none (hb.run pins s σ H D I h)
  | _, _, .text (c := c) (l := l) hb hr, first, pins, s, σ, H, D, I, h => by
    refine wpAny_matchCases_cons (wpAny_matchPattern_Value ?_)
    refine thn ((pe_str (X := X) (x := c)).run pins s σ H (fun v H' => v = .str c ∧ H' = H) I ⟨rfl, rfl⟩) fun v s1 hh => ?_
    obtain ⟨x, H1, I1, rx, ex, eH⟩ := hh
    subst ex
    subst eH
    refine thn (op_eq pins s1 σ H1 (.str z) (.str c) u v (fun y H' => y = .bl (decide (V.str z = V.str c)) ∧ H' = H1) I1 ru rx ⟨rfl, rfl, rfl⟩) fun y s2 hh => ?_
    obtain ⟨x, H2, I2, rx2, ex, eH⟩ := hh
    subst ex
    subst eH
    cases rx2
    refine wpAny_truthy_bool ?_
    have h' : (if z = c then _ else _) := h
    by_cases e : z = c
    · rw [if_pos e] at h'
      rw [decide_eq_true (by rw [e])]
      exact wpAny_assignInOrder_none (hb.run pins s2 σ H2 D I2 h')
    · rw [if_neg e] at h'
      rw [decide_eq_false (fun q => e (by injection q))]
      exact run_cases ru hr false pins s2 σ H2 D I2 h'
theorem ps_match {X : Cx} {e : Expr} {te : TE} {cs : List MatchCase} {l : List (Option Str × TS)} {pos : Pos} (he : PE X e te) (hc : PCs X cs l) : PS X (.Match e cs pos) (tMatch te l) := by
  refine ⟨fun pins s σ H D I h => wpAny_Match ?_⟩
  refine thn (he.run pins s σ H _ I h) fun u s1 hh => ?_
  obtain ⟨x, H1, I1, rx, z, ez, hz⟩ := hh
  subst ez
  exact run_cases rx hc true pins s1 σ H1 D I1 hz
/-- a module's constant: an int, a text, an object -/
theorem pe_gi {X : Cx} {x : Str} {n : Int} {t : Tok} {pos : Pos} (hg : Gl X x) (hm : X.mg x = some (.int n t)) (hd : (x == ("__debug__" : Str)) = false := by decide) : PE X (.Name x pos) (tC (.int n)) := pe_glob hg hm ⟨_, rfl⟩ hd
theorem pe_gs {X : Cx} {x : Str} {z : Str} {t : Tok} {pos : Pos} (hg : Gl X x) (hm : X.mg x = some (.str z t)) (hd : (x == ("__debug__" : Str)) = false := by decide) : PE X (.Name x pos) (tC (.str z)) := pe_glob hg hm ⟨_, rfl⟩ hd
theorem pe_gr {X : Cx} {x : Str} {a : Addr} {pos : Pos} (hg : Gl X x) (hm : X.mg x = some (.ref a)) (hd : (x == ("__debug__" : Str)) = false := by decide) : PE X (.Name x pos) (tC (.ref a)) := pe_glob (v := .ref a) hg hm rfl hd
/-- a built-in type as a value -/
theorem pe_ty {X : Cx} {x : Str} {T : String} {pos : Pos} (hg : Gl X x) (hm : X.mg x = none) (hv : bootBuiltins x = some (.type T)) (hn : x ≠ "__name__" := by decide) (hd : (x == ("__debug__" : Str)) = false := by decide) : PE X (.Name x pos) (tC (.ty T)) :=
  ⟨fun _ s _ H _ I h => ld_blt I hg hm hv ⟨.ty T, H, I, rfl, h⟩ hn hd⟩
/-- isinstance of a plain value and a built-in type -/
theorem isi_int {K : PySem.W.Frag} {H : Hp} {Q : VK} {i : Int} (q : Q (.bl true) H) : rIsi K [.int i, .ty "int"] H Q := ⟨_, _, _, _, true, rfl, .ty _, .base (.int _), kit_ty (by decide +kernel), q⟩
theorem isi_int_bool {K : PySem.W.Frag} {H : Hp} {Q : VK} {i : Int} (q : Q (.bl false) H) : rIsi K [.int i, .ty "bool"] H Q := ⟨_, _, _, _, false, rfl, .ty _, .base (.int _), kit_ty (by decide +kernel), q⟩
theorem Same.none {H H' : Hp} (e : Same H H') {p : Addr} (h : H' p = Option.none) : H p = Option.none := Same.free e h
theorem same_new {H : Hp} {p : Addr} {o : HO} (h : H p = Option.none) : Same H (upd H p o) := fun b x e => by
  rw [upd_ne (ne_of_none e h)]
  exact e
theorem or_test {t u : TT} {σ : St} {H : Hp} {a b : Bool} {Q : Bool → Hp → Prop} (h1 : ∀ Q' : Bool → Hp → Prop, Q' a H → t σ H Q') (h2 : a = false → ∀ Q' : Bool → Hp → Prop, Q' b H → u σ H Q') (q : Q (a || b) H) : tOr t u σ H Q := by
  refine h1 _ ?_
  cases a with
  | true => exact iteT q
  | false => exact iteF (h2 rfl _ q)
theorem and_test {t u : TT} {σ : St} {H : Hp} {a b : Bool} {Q : Bool → Hp → Prop} (h1 : ∀ Q' : Bool → Hp → Prop, Q' a H → t σ H Q') (h2 : a = true → ∀ Q' : Bool → Hp → Prop, Q' b H → u σ H Q') (q : Q (a && b) H) : tAnd t u σ H Q := by
  refine h1 _ ?_
  cases a with
  | true => exact iteT (h2 rfl _ q)
  | false => exact iteF q
theorem if_or {t u : TT} {a b : Bool} {A B : TS} {D : Ends} {σ : St} {H : Hp} (h1 : ∀ Q' : Bool → Hp → Prop, Q' a H → t σ H Q') (h2 : a = false → ∀ Q' : Bool → Hp → Prop, Q' b H → u σ H Q') (q : if (a || b) = true then A D σ H else B D σ H) : tIfS (tOr t u) A B D σ H := or_test h1 h2 q
theorem if_and {t u : TT} {a b : Bool} {A B : TS} {D : Ends} {σ : St} {H : Hp} (h1 : ∀ Q' : Bool → Hp → Prop, Q' a H → t σ H Q') (h2 : a = true → ∀ Q' : Bool → Hp → Prop, Q' b H → u σ H Q') (q : if (a && b) = true then A D σ H else B D σ H) : tIfS (tAnd t u) A B D σ H := and_test h1 h2 q
theorem Same.off {H H1 : Hp} {D : Addr} {x : HO} (k : Same H H1) (n : H D = Option.none) : Same H (upd H1 D x) := fun b y e => by
  rw [upd_ne (ne_of_none e n)]
  exact k b y e
theorem Same.seqT {K : PySem.W.Frag} {H H' : Hp} {a : Addr} {xs : List V} (e : Same H H') (h : SqT K H a xs) : SqT K H' a xs := by
  rcases h with h | h
  · rcases h with h | ⟨o, h⟩
    · exact .inl (.inl (e _ _ h))
    · exact .inl (.inr ⟨o, e _ _ h⟩)
  · exact .inr h
/-- a def that may raise, called where it does not -/
theorem pass_no {X : Cx} : Passes (L2.CX X.prog X.w) X (fun _ _ _ => False) := fun _ _ _ _ _ _ _ c => by
  obtain ⟨_, _, _, _, _, _, _, _, _, _, _, _, z⟩ := c
  exact z.elim
def rListOf (K : PySem.W.Frag) : List V → Hp → VK → Prop := fun xs H Q => ∃ p ys, xs = [V.ref p] ∧ (SqL K H p ys ∨ SqT K H p ys) ∧ ∀ l, H l = Option.none → Q (.ref l) (upd H l (.lst ys))
theorem if_t {b : Bool} {A B : Prop} (h : b = true) (q : A) : if b = true then A else B := by
  rw [if_pos h]
  exact q
theorem if_f {b : Bool} {A B : Prop} (h : b = false) (q : B) : if b = true then A else B := by
  rw [if_neg (by rw [h]; exact Bool.noConfusion)]
  exact q
/-- a tuple of the written part, as it stands there -/
theorem sqT_lit {K : PySem.W.Frag} {p : Addr} {dd : Option Addr} {us : Array Value} {n : Nat} {sl : Array (Option Value)} {xs : List V} {H : Hp} (w : K.lookup p = some ⟨.type "tuple", dd, .seq us n, sl⟩) (y : Vals xs us.toList) (hl : xs.length ≤ sizeLine := by decide) : SqT K H p xs :=
  .inr ⟨_, us, n, w, rfl, rfl, Nat.le_trans (Nat.le_of_eq (by rw [← Array.length_toList]; exact (Paired.length y).symm)) hl, y⟩
end L2

set_option Elab.async false
set_option linter.all false
set_option maxRecDepth 100000
set_option maxHeartbeats 4000000

namespace Mine
open PySem PySem.Spec PyProof.Rows L2
def topS (i : Nat) : Stmt := PySem.Challenge.pw_deadbeat_k19_caches_by_age.main.body.getD i (.Pass ⟨0, 0, 0, 0⟩)
abbrev s__law_start : Stmt := topS 14
theorem sc__law_start : FnScope ["_law_script", "_law_seed", "_law_cell"] ["_law_script"] (defScope s__law_start) := ⟨rfl, rfl, rfl, by decide +kernel, rfl, by decide +kernel, by decide +kernel⟩
abbrev s__law_draw : Stmt := topS 15
theorem sc__law_draw : FnScope ["_law_state", "_law_many", "_law_found"] ["_law_state", "_law_many"] (defScope s__law_draw) := ⟨rfl, rfl, rfl, by decide +kernel, rfl, by decide +kernel, by decide +kernel⟩
abbrev s_Cache_init : Stmt := inClass (topS 12) 0
theorem sc_Cache_init : FnScope ["self", "sets", "ways", "size", "_"] ["self", "sets", "ways", "size"] (defScope s_Cache_init) := ⟨rfl, rfl, rfl, by decide +kernel, rfl, by decide +kernel, by decide +kernel⟩
abbrev s_Cache_holds : Stmt := inClass (topS 12) 3
theorem sc_Cache_holds : FnScope ["self", "address", "line"] ["self", "address"] (defScope s_Cache_holds) := ⟨rfl, rfl, rfl, by decide +kernel, rfl, by decide +kernel, by decide +kernel⟩
abbrev s_Cache_use : Stmt := inClass (topS 12) 6
theorem sc_Cache_use : FnScope ["self", "address", "line", "lines"] ["self", "address"] (defScope s_Cache_use) := ⟨rfl, rfl, rfl, by decide +kernel, rfl, by decide +kernel, by decide +kernel⟩
abbrev s_Cache_read : Stmt := inClass (topS 12) 4
theorem sc_Cache_read : FnScope ["self", "address", "hit"] ["self", "address"] (defScope s_Cache_read) := ⟨rfl, rfl, rfl, by decide +kernel, rfl, by decide +kernel, by decide +kernel⟩
abbrev s_Cache_write : Stmt := inClass (topS 12) 5
theorem sc_Cache_write : FnScope ["self", "address", "hit"] ["self", "address"] (defScope s_Cache_write) := ⟨rfl, rfl, rfl, by decide +kernel, rfl, by decide +kernel, by decide +kernel⟩
abbrev s_Cache_duplicate : Stmt := inClass (topS 12) 7
theorem sc_Cache_duplicate : FnScope ["self", "other", "lines"] ["self"] (defScope s_Cache_duplicate) := ⟨rfl, rfl, rfl, by decide +kernel, rfl, by decide +kernel, by decide +kernel⟩
abbrev s__law_address : Stmt := topS 16
theorem sc__law_address : FnScope ["_law_state", "_law_sets", "_law_size", "_law_turn"] ["_law_state", "_law_sets", "_law_size"] (defScope s__law_address) := ⟨rfl, rfl, rfl, by decide +kernel, rfl, by decide +kernel, by decide +kernel⟩
abbrev s__law_contents : Stmt := topS 17
theorem sc__law_contents : FnScope ["_law_uses", "_law_sets", "_law_ways", "_law_rows", "_law_at", "_law_row_here", "_law_k", "_law_line"] ["_law_uses", "_law_sets", "_law_ways"] (defScope s__law_contents) := ⟨rfl, rfl, rfl, by decide +kernel, rfl, by decide +kernel, by decide +kernel⟩
abbrev s__law_row : Stmt := topS 19
theorem sc__law_row : FnScope ["_law_uses", "_law_line", "_law_sets", "_law_ways", "_law_row_here", "_law_k", "_law_other"] ["_law_uses", "_law_line", "_law_sets", "_law_ways"] (defScope s__law_row) := ⟨rfl, rfl, rfl, by decide +kernel, rfl, by decide +kernel, by decide +kernel⟩
abbrev s__law_same : Stmt := topS 18
theorem sc__law_same : FnScope ["_law_rows", "_law_expected", "_law_at", "_law_k"] ["_law_rows", "_law_expected"] (defScope s__law_same) := ⟨rfl, rfl, rfl, by decide +kernel, rfl, by decide +kernel, by decide +kernel⟩
abbrev s__law_told : Stmt := topS 20
theorem sc__law_told : FnScope ["_law_told_here", "_law_due"] ["_law_told_here", "_law_due"] (defScope s__law_told) := ⟨rfl, rfl, rfl, by decide +kernel, rfl, by decide +kernel, by decide +kernel⟩
abbrev s_law : Stmt := topS 21
theorem sc_law : FnScope ["_law_script", "_law_state", "_law_sets", "_law_ways", "_law_size", "_law_cache", "_law_uses", "_law_copies", "_law_k", "_law_address_here", "_law_line", "_law_due", "_law_told_here", "_law_other", "_law_expected"] ["_law_script"] (defScope s_law) := ⟨rfl, rfl, rfl, by decide +kernel, rfl, by decide +kernel, by decide +kernel⟩
structure Top (K : PySem.W.Frag) (mg : Str → Option Value) where
  C_Cache : Addr
  gc_Cache : mg "Cache" = some (.ref C_Cache)
  cl_Cache : Cls K C_Cache
  n_Cache_rows : NoAttr K C_Cache "rows"
  n_Cache_sets : NoAttr K C_Cache "sets"
  n_Cache_size : NoAttr K C_Cache "size"
  n_Cache_ways : NoAttr K C_Cache "ways"
  a__law_start : Addr
  d__law_start : FuncData
  F__law_start : Fun K "_law_start" "_law_start" s__law_start a__law_start d__law_start
  g__law_start : mg "_law_start" = some (.ref a__law_start)
  b__law_start : Binds K d__law_start ["_law_script"] []
  a__law_draw : Addr
  d__law_draw : FuncData
  F__law_draw : Fun K "_law_draw" "_law_draw" s__law_draw a__law_draw d__law_draw
  g__law_draw : mg "_law_draw" = some (.ref a__law_draw)
  b__law_draw : Binds K d__law_draw ["_law_state", "_law_many"] []
  a_Cache_init : Addr
  d_Cache_init : FuncData
  F_Cache_init : Fun K "__init__" "Cache.__init__" s_Cache_init a_Cache_init d_Cache_init
  M_Cache : Mk K C_Cache a_Cache_init
  b_Cache_init : Binds K d_Cache_init ["self", "sets", "ways", "size"] []
  a_Cache_holds : Addr
  d_Cache_holds : FuncData
  F_Cache_holds : Fun K "holds" "Cache.holds" s_Cache_holds a_Cache_holds d_Cache_holds
  m_Cache_holds : Meth K C_Cache "holds" a_Cache_holds
  b_Cache_holds : Binds K d_Cache_holds ["self", "address"] []
  a_Cache_use : Addr
  d_Cache_use : FuncData
  F_Cache_use : Fun K "use" "Cache.use" s_Cache_use a_Cache_use d_Cache_use
  m_Cache_use : Meth K C_Cache "use" a_Cache_use
  b_Cache_use : Binds K d_Cache_use ["self", "address"] []
  a_Cache_read : Addr
  d_Cache_read : FuncData
  F_Cache_read : Fun K "read" "Cache.read" s_Cache_read a_Cache_read d_Cache_read
  m_Cache_read : Meth K C_Cache "read" a_Cache_read
  b_Cache_read : Binds K d_Cache_read ["self", "address"] []
  a_Cache_write : Addr
  d_Cache_write : FuncData
  F_Cache_write : Fun K "write" "Cache.write" s_Cache_write a_Cache_write d_Cache_write
  m_Cache_write : Meth K C_Cache "write" a_Cache_write
  b_Cache_write : Binds K d_Cache_write ["self", "address"] []
  a_Cache_duplicate : Addr
  d_Cache_duplicate : FuncData
  F_Cache_duplicate : Fun K "duplicate" "Cache.duplicate" s_Cache_duplicate a_Cache_duplicate d_Cache_duplicate
  m_Cache_duplicate : Meth K C_Cache "duplicate" a_Cache_duplicate
  b_Cache_duplicate : Binds K d_Cache_duplicate ["self"] []
  a__law_address : Addr
  d__law_address : FuncData
  F__law_address : Fun K "_law_address" "_law_address" s__law_address a__law_address d__law_address
  g__law_address : mg "_law_address" = some (.ref a__law_address)
  b__law_address : Binds K d__law_address ["_law_state", "_law_sets", "_law_size"] []
  a__law_contents : Addr
  d__law_contents : FuncData
  F__law_contents : Fun K "_law_contents" "_law_contents" s__law_contents a__law_contents d__law_contents
  g__law_contents : mg "_law_contents" = some (.ref a__law_contents)
  b__law_contents : Binds K d__law_contents ["_law_uses", "_law_sets", "_law_ways"] []
  a__law_row : Addr
  d__law_row : FuncData
  F__law_row : Fun K "_law_row" "_law_row" s__law_row a__law_row d__law_row
  g__law_row : mg "_law_row" = some (.ref a__law_row)
  b__law_row : Binds K d__law_row ["_law_uses", "_law_line", "_law_sets", "_law_ways"] []
  a__law_same : Addr
  d__law_same : FuncData
  F__law_same : Fun K "_law_same" "_law_same" s__law_same a__law_same d__law_same
  g__law_same : mg "_law_same" = some (.ref a__law_same)
  b__law_same : Binds K d__law_same ["_law_rows", "_law_expected"] []
  a__law_told : Addr
  d__law_told : FuncData
  F__law_told : Fun K "_law_told" "_law_told" s__law_told a__law_told d__law_told
  g__law_told : mg "_law_told" = some (.ref a__law_told)
  b__law_told : Binds K d__law_told ["_law_told_here", "_law_due"] []
  a_law : Addr
  d_law : FuncData
  F_law : Fun K "law" "law" s_law a_law d_law
  g_law : mg "law" = some (.ref a_law)
  b_law : Binds K d_law ["_law_script"] []
  m_list : mg "list" = none
  m_int : mg "int" = none
  m_len : mg "len" = none
  m_abs : mg "abs" = none
  m_range : mg "range" = none
  m_min : mg "min" = none
  m_bool : mg "bool" = none
  m_isinstance : mg "isinstance" = none
  p_LINE_SIZES : Addr
  c_LINE_SIZES : mg "LINE_SIZES" = some (.ref p_LINE_SIZES)
  l_LINE_SIZES : ∃ o, K.lookup p_LINE_SIZES = some o ∧ o.cls = .type "tuple" ∧ o.dict = none
  q_LINE_SIZES : ∀ H, SqT K H p_LINE_SIZES [.int (1), .int (2), .int (4), .int (8), .int (16)]
  t_MOST_WAYS : Tok
  c_MOST_WAYS : mg "MOST_WAYS" = some (.int 4 t_MOST_WAYS)
  t_MOST_SETS : Tok
  c_MOST_SETS : mg "MOST_SETS" = some (.int 64 t_MOST_SETS)
/-- the state of the law's draws: the list at p, the cells' copy at c -/
def StOk (H : Hp) (p c : Addr) : Prop := ∃ (ms : List Int) (k : Nat) (v sd : Int), p ≠ c ∧ H p = some (.lst [.ref c, .int k, .int v, .int sd]) ∧ H c = some (.lst (ms.map V.int)) ∧ ms.length ≤ 63 ∧ 0 ≤ v ∧ 0 ≤ sd ∧ sd ≤ 2147483647
/-- all but the object at p is as it was -/
def Keep (p : Addr) (H H' : Hp) : Prop := ∀ b o, b ≠ p → H b = some o → H' b = some o
theorem Keep.refl (p : Addr) (H : Hp) : Keep p H H := fun _ _ _ h => h
theorem Keep.trans {p : Addr} {H H1 H2 : Hp} (a : Keep p H H1) (b : Keep p H1 H2) : Keep p H H2 := fun x o h1 h => b x o h1 (a x o h1 h)
theorem Keep.same {p : Addr} {H H1 : Hp} (a : Same H H1) : Keep p H H1 := fun x o _ h => a x o h
theorem Keep.at {p : Addr} {H : Hp} {o : HO} : Keep p H (upd H p o) := fun x u h1 h => by
  rw [upd_ne h1]
  exact h
theorem StOk.same {H H' : Hp} {p c : Addr} (s : StOk H p c) (e : Same H H') : StOk H' p c := by
  obtain ⟨ms, k, v, sd, h1, h2, h3, h⟩ := s
  exact ⟨ms, k, v, sd, h1, e _ _ h2, e _ _ h3, h⟩
theorem StOk.ne {H : Hp} {p c l : Addr} (s : StOk H p c) (h : H l = Option.none) : l ≠ p ∧ l ≠ c := by
  obtain ⟨ms, k, v, sd, h1, h2, h3, _⟩ := s
  exact ⟨fun z => (by rw [z, h2] at h; cases h), fun z => (by rw [z, h3] at h; cases h)⟩
/-- an address that is free behind was free before -/
theorem Keep.free {p c : Addr} {H H' : Hp} (k : Keep p H H') (s : StOk H' p c) {l : Addr} (h : H' l = Option.none) : H l = Option.none := by
  cases e : H l with
  | none => rfl
  | some o =>
    rw [k l o (s.ne h).1 e] at h
    cases h
def absI (n : Int) : Int := if n < 0 then -n else n
theorem abs_nn (n : Int) : 0 ≤ absI n := by
  unfold absI
  split <;> omega
section
variable {P : Program} {w : World} {K : PySem.W.Frag} {mg : Str → Option Value} {base : Heap}
def sp__law_start (K : PySem.W.Frag) : Sp := fun vs H Q _ => ∃ (a : Addr) (ns : List Int), vs = [.ref a] ∧ SqL K H a (ns.map V.int) ∧ ns.length ≤ 63 ∧ ∀ (H' : Hp) (p c : Addr), Same H H' → H p = none → H c = none → StOk H' p c → Q (.ref p) H'
theorem ok__law_start (T : Top K mg) : FnOk P w K mg base CX0 1 T.a__law_start T.d__law_start ["_law_script"]  (sp__law_start K) := by
  refine T.F__law_start.ok sc__law_start (fun vs H Q E h => ?_) (fun cdv A outer s H vs Q E hr h => ?_)
  · obtain ⟨_, _, rfl, _⟩ := h
    rfl
  · obtain ⟨a, ns, rfl, hS, hlen, q⟩ := h
    refine ⟨_, (pss_cons (ps_set (i := 1) sc__law_start.nd rfl (by first | exact Or.inl rfl | exact Or.inr rfl) pe_int)
  (pss_cons (ps_for PassesOwn.never rfl (pi_list (pv 0)) (pg_name (i := 2) sc__law_start.nd rfl (by first | exact Or.inl rfl | exact Or.inr rfl))
  (pss_one (ps_set (i := 1) sc__law_start.nd rfl (by first | exact Or.inl rfl | exact Or.inr rfl) (pe_op op_mod (pe_callTy call_int1 (by rfl) T.m_int (by decide +kernel) (pa_cons (pe_op op_add (pe_op op_mul (pv 1) pe_int) (pv 2)) pa_nil)) pe_int))))
  (pss_one (ps_ret (pe_lst (pa_cons (pe_callTy call_list_of (by rfl) T.m_list (by decide +kernel) (pa_cons (pv 0) pa_nil)) (pa_cons pe_int (pa_cons pe_int (pa_cons (pe_op op_add (pv 1) pe_int) pa_nil))))))))), ?_⟩
    refine ⟨_, rfl, a, rfl, ⟨_, hS⟩, for_list (xs := ns.map V.int) (fun i σ H' => ∃ sd y2, σ = [some (.ref a), some (.int sd), y2] ∧ H' = H ∧ 0 ≤ sd ∧ sd < 1000003) ⟨7, none, rfl, rfl, by decide, by decide⟩ (fun i σ H' _ ⟨_, _, _, e, _⟩ => by rw [e]; exact hS) ?_ ?_⟩
    · rintro i x σ H' hi ⟨sd, y2, rfl, rfl, h0, h1⟩
      obtain ⟨n, _, rfl⟩ := List.mem_map.mp (List.mem_of_getElem? hi)
      refine ⟨_, rfl, _, _, rfl, rfl, .inl ⟨by omega, by omega⟩, _, rfl, _, _, rfl, rfl, .inl ⟨_, rfl, _, _, rfl, rfl, (by show (0 : Int) < 1000003; decide), ?_⟩⟩
      exact ⟨_, _, rfl, rfl, Int.emod_nonneg _ (by decide), Int.emod_lt_of_pos _ (by decide)⟩
    · rintro σ H' ⟨sd, y2, rfl, rfl, h0, h1⟩
      refine ⟨_, rfl, a, _, rfl, .inl hS, fun c hc => ?_⟩
      refine ⟨_, rfl, _, _, rfl, rfl, (by show 4 ≤ sizeLine; decide), fun p hp => ?_⟩
      have npc : p ≠ c := fun z => by rw [z, upd_same] at hp; cases hp
      refine q _ p c ((same_new hc).trans (same_new hp)) ((same_new hc).free hp) hc ⟨ns, 0, 0, sd + 1, npc, upd_same, ?_, hlen, by decide, by omega, by omega⟩
      rw [upd_ne npc.symm, upd_same]
      all_goals rfl
theorem ix4 {n : Nat} {i : Int} {j : Nat} (e : i = (j : Int)) (h : j < n) : ixN n i = some j := by
  subst e
  unfold ixN
  rw [if_pos (by omega), if_pos (by omega)]
  rfl
def sp__law_draw : Sp := fun vs H Q _ => ∃ (p c : Addr) (many : Int), vs = [.ref p, .int many] ∧ StOk H p c ∧ 0 < many ∧ many ≤ 1099511627775 ∧ ∀ (v : Int) (H' : Hp), 0 ≤ v → v < many → StOk H' p c → Keep p H H' → Q (.int v) H'
theorem ok__law_draw (T : Top K mg) : FnOk P w K mg base CX0 1 T.a__law_draw T.d__law_draw ["_law_state", "_law_many"]  sp__law_draw := by
  refine T.F__law_draw.ok sc__law_draw (fun vs H Q E h => ?_) (fun cdv A outer s H vs Q E hr h => ?_)
  · obtain ⟨_, _, _, rfl, _⟩ := h
    rfl
  · obtain ⟨p, c, many, rfl, hst, hm0, hm1, q⟩ := h
    obtain ⟨ms, k, v, sd, npc, hp, hc, hl, v0, s0, s1⟩ := hst
    refine ⟨_, (pss_cons (ps_if (pt_cmpR op_eq (pe_ix ix_list (pv 0) pe_int (fun _ _ => rfl)) pe_int (nomark _))
  (pss_cons (ps_if (pt_cmpR op_lt (pe_ix ix_list (pv 0) pe_int (fun _ _ => rfl)) (pe_callB call_len_seq (by rfl) T.m_len PySem.boot_len (pa_cons (pe_ix ix_list (pv 0) pe_int (fun _ _ => rfl)) pa_nil)) (nomark _))
  (pss_one (ps_asg (pe_callB call_abs (by rfl) T.m_abs (by decide +kernel) (pa_cons (pe_ix ix_list (pe_ix ix_list (pv 0) pe_int (fun _ _ => rfl)) (pe_ix ix_list (pv 0) pe_int (fun _ _ => rfl)) (fun _ _ => rfl)) pa_nil)) (pg_sub (pv 0) pe_int set_list)))
  (pss_cons (ps_asg (pe_op op_mod (pe_callTy call_int1 (by rfl) T.m_int (by decide +kernel) (pa_cons (pe_op op_add (pe_op op_mul (pe_ix ix_list (pv 0) pe_int (fun _ _ => rfl)) pe_int) pe_int) pa_nil)) pe_int) (pg_sub (pv 0) pe_int set_list))
  (pss_one (ps_asg (pe_op op_fdivW (pe_callTy call_int1 (by rfl) T.m_int (by decide +kernel) (pa_cons (pe_ix ix_list (pv 0) pe_int (fun _ _ => rfl)) pa_nil)) pe_int) (pg_sub (pv 0) pe_int set_list)))))
  (pss_one (ps_asg (pe_op op_add (pe_ix ix_list (pv 0) pe_int (fun _ _ => rfl)) pe_int) (pg_sub (pv 0) pe_int set_list))))
  pss_nil)
  (pss_cons (ps_set (i := 2) sc__law_draw.nd rfl (by first | exact Or.inl rfl | exact Or.inr rfl) (pe_op op_mod (pe_callTy call_int1 (by rfl) T.m_int (by decide +kernel) (pa_cons (pe_ix ix_list (pv 0) pe_int (fun _ _ => rfl)) pa_nil)) (pv 1)))
  (pss_cons (ps_asg (pe_op op_fdivW (pe_callTy call_int1 (by rfl) T.m_int (by decide +kernel) (pa_cons (pe_ix ix_list (pv 0) pe_int (fun _ _ => rfl)) pa_nil)) (pv 1)) (pg_sub (pv 0) pe_int set_list))
  (pss_one (ps_ret (pv 2)))))), ?_⟩
    have fin : ∀ (k' : Nat) (v' sd' : Int) (H' : Hp), H' = upd H p (.lst [.ref c, .int k', .int v', .int sd']) → 0 ≤ v' → 0 ≤ sd' → sd' ≤ 2147483647 → Q (.int (v' % many)) (upd H' p (.lst [.ref c, .int k', .int (v' / many), .int sd'])) := fun k' v' sd' H' e hv h0 h1 => by
      subst e
      refine q _ _ (Int.emod_nonneg _ (by omega)) (Int.emod_lt_of_pos _ hm0) ⟨ms, k', v' / many, sd', npc, upd_same, ?_, hl, Int.ediv_nonneg hv (by omega), h0, h1⟩ ?_
      · rw [upd_ne npc.symm, upd_ne npc.symm]
        exact hc
      · exact Keep.at.trans Keep.at
    have hw : many.natAbs < 2 ^ 40 := by omega
    refine ⟨_, rfl, p, _, 2, .int v, rfl, rfl, SqL.of hp, atI_nat (j := 2) rfl, rfl, _, rfl, ite2 (fun cc => ?_) (fun cc => ?_)⟩
    · -- the next cell, or a mixed one
      have key : ∀ (v2 sd2 : Int) (H2 : Hp), H2 = upd H p (.lst [.ref c, .int k, .int v2, .int sd2]) → 0 ≤ v2 → 0 ≤ sd2 → sd2 ≤ 2147483647 → _ := fun v2 sd2 H2 e hv h0 h1 => fin (k + 1) v2 sd2 (upd H2 p (.lst [.ref c, .int ((k + 1 : Nat) : Int), .int v2, .int sd2])) (by rw [e, upd_upd]) hv h0 h1
      refine ⟨_, rfl, p, _, 1, .int k, rfl, rfl, SqL.of hp, atI_nat (j := 1) rfl, _, rfl, p, _, 0, .ref c, rfl, rfl, SqL.of hp, atI_nat (j := 0) rfl, c, _, rfl, .inl (SqL.of hc), _, _, rfl, rfl, _, rfl, ite2 (fun c2 => ?_) (fun c2 => ?_)⟩
      · have hk : k < ms.length := by
          have := of_decide_eq_true c2
          rw [List.length_map] at this
          omega
        obtain ⟨m, hm⟩ : ∃ m, ms[k]? = some m := ⟨_, List.getElem?_eq_getElem hk⟩
        refine ⟨_, rfl, p, _, 0, .ref c, rfl, rfl, SqL.of hp, atI_nat (j := 0) rfl, _, rfl, p, _, 1, .int k, rfl, rfl, SqL.of hp, atI_nat (j := 1) rfl, c, _, k, .int m, rfl, rfl, SqL.of hc, atI_nat (j := k) (by rw [List.getElem?_map, hm]; rfl), _, rfl, ?_⟩
        refine ⟨_, rfl, p, _, 2, 2, rfl, rfl, hp, rfl, ?_⟩
        refine ⟨_, rfl, p, _, 1, .int k, rfl, rfl, SqL.of upd_same, atI_nat (j := 1) rfl, _, _, rfl, rfl, _, rfl, p, _, 1, 1, rfl, rfl, upd_same, rfl, ?_⟩
        refine ⟨_, rfl, p, _, 2, .int (absI m), rfl, rfl, SqL.of upd_same, atI_nat (j := 2) rfl, .inl ⟨_, rfl, _, rfl, _, _, rfl, rfl, hm0, ?_⟩⟩
        refine ⟨_, rfl, p, _, 2, .int (absI m), rfl, rfl, SqL.of upd_same, atI_nat (j := 2) rfl, .inl ⟨_, rfl, _, rfl, _, _, rfl, rfl, wide_div hm0 hw (by decide) (by decide), _, rfl, p, _, 2, 2, rfl, rfl, upd_same, rfl, ?_⟩⟩
        exact ⟨_, rfl, key (absI m) sd _ rfl (abs_nn m) s0 s1⟩
      · have m0 := Int.emod_nonneg (sd * 48271 + 12345) (show (2147483647 : Int) ≠ 0 by decide)
        have m1 := Int.emod_lt_of_pos (sd * 48271 + 12345) (show (0 : Int) < 2147483647 by decide)
        refine ⟨_, rfl, p, _, 3, .int sd, rfl, rfl, SqL.of hp, atI_nat (j := 3) rfl, _, _, rfl, rfl, .inl ⟨by omega, by omega⟩, _, _, rfl, rfl, .inl ⟨_, rfl, _, _, rfl, rfl, (by show (0 : Int) < 2147483647; decide), ?_⟩⟩
        refine ⟨_, rfl, p, _, 3, 3, rfl, rfl, hp, rfl, ?_⟩
        refine ⟨_, rfl, p, _, 3, .int ((sd * 48271 + 12345) % 2147483647), rfl, rfl, SqL.of upd_same, atI_nat (j := 3) rfl, .inl ⟨_, rfl, _, _, rfl, rfl, wide_div (b := 10) (by decide) (by decide) (by decide) (by decide), _, rfl, p, _, 2, 2, rfl, rfl, upd_same, rfl, ?_⟩⟩
        refine ⟨_, rfl, p, _, 1, .int k, rfl, rfl, SqL.of upd_same, atI_nat (j := 1) rfl, _, _, rfl, rfl, _, rfl, p, _, 1, 1, rfl, rfl, upd_same, rfl, ?_⟩
        refine ⟨_, rfl, p, _, 2, .int ((sd * 48271 + 12345) % 2147483647 / 64), rfl, rfl, SqL.of upd_same, atI_nat (j := 2) rfl, .inl ⟨_, rfl, _, rfl, _, _, rfl, rfl, hm0, ?_⟩⟩
        refine ⟨_, rfl, p, _, 2, .int ((sd * 48271 + 12345) % 2147483647 / 64), rfl, rfl, SqL.of upd_same, atI_nat (j := 2) rfl, .inl ⟨_, rfl, _, rfl, _, _, rfl, rfl, wide_div hm0 hw (by decide) (by decide), _, rfl, p, _, 2, 2, rfl, rfl, upd_same, rfl, ?_⟩⟩
        exact ⟨_, rfl, key ((sd * 48271 + 12345) % 2147483647 / 64) ((sd * 48271 + 12345) % 2147483647) _ (by rw [upd_upd]; rfl) (Int.ediv_nonneg m0 (by decide)) m0 (by omega)⟩
    · refine ⟨_, rfl, p, _, 2, .int v, rfl, rfl, SqL.of hp, atI_nat (j := 2) rfl, .inl ⟨_, rfl, _, rfl, _, _, rfl, rfl, hm0, ?_⟩⟩
      refine ⟨_, rfl, p, _, 2, .int v, rfl, rfl, SqL.of hp, atI_nat (j := 2) rfl, .inl ⟨_, rfl, _, rfl, _, _, rfl, rfl, wide_div hm0 hw (by decide) (by decide), _, rfl, p, _, 2, 2, rfl, rfl, hp, rfl, ?_⟩⟩
      have := fin k v sd H (upd_self hp).symm v0 s0 s1
      exact ⟨_, rfl, this⟩
end

/-! ### lines by their last use -/
/-- the lines of one set, the latest first, each once -/
def full (P : Int → Bool) : List Int → List Int
  | [] => []
  | x :: r => if P x = true then x :: (full P r).erase x else full P r
theorem full_nodup (P : Int → Bool) : ∀ l, (full P l).Nodup
  | [] => List.nodup_nil
  | x :: r => by
    unfold full
    split
    · rw [List.nodup_cons]
      have h := full_nodup P r
      exact ⟨fun m => (List.Nodup.mem_erase_iff h).mp m |>.1 rfl, h.erase x⟩
    · exact full_nodup P r
theorem full_P (P : Int → Bool) : ∀ l, ∀ x ∈ full P l, P x = true ∧ x ∈ l
  | [], x, h => nomatch h
  | y :: r, x, h => by
    unfold full at h
    split at h
    · rename_i hy
      rcases List.mem_cons.mp h with rfl | h
      · exact ⟨hy, List.mem_cons_self⟩
      · have := full_P P r x (List.mem_of_mem_erase h)
        exact ⟨this.1, List.mem_cons_of_mem _ this.2⟩
    · have := full_P P r x h
      exact ⟨this.1, List.mem_cons_of_mem _ this.2⟩
theorem full_app (P : Int → Bool) (x : Int) : ∀ pre, full P (pre ++ [x]) = if P x = true ∧ x ∉ full P pre then full P pre ++ [x] else full P pre
  | [] => by
    show (if P x = true then [x] else []) = _
    by_cases h : P x = true
    · rw [if_pos h, if_pos ⟨h, by simp [full]⟩]
      rfl
    · rw [if_neg h, if_neg (fun q => h q.1)]
      rfl
  | y :: r => by
    have ih := full_app P x r
    show (if P y = true then y :: (full P (r ++ [x])).erase y else full P (r ++ [x])) = _
    have e : full P (y :: r) = if P y = true then y :: (full P r).erase y else full P r := rfl
    by_cases hy : P y = true
    · rw [if_pos hy] at e ⊢
      rw [e, ih]
      by_cases hx : P x = true
      · by_cases m : x ∈ full P r
        · rw [if_neg (fun q => q.2 m)]
          by_cases xy : x = y
          · subst xy
            rw [if_neg (fun q => q.2 List.mem_cons_self)]
          · rw [if_neg (fun q => q.2 (List.mem_cons_of_mem _ ((List.mem_erase_of_ne xy).mpr m)))]
        · rw [if_pos ⟨hx, m⟩]
          by_cases xy : x = y
          · subst xy
            rw [if_neg (fun q => q.2 List.mem_cons_self), List.erase_append_right _ m]
            simp [List.erase_of_not_mem m]
          · rw [if_pos ⟨hx, fun q => by
              rcases List.mem_cons.mp q with q | q
              · exact xy q
              · exact m (List.mem_of_mem_erase q)⟩]
            by_cases my : y ∈ full P r
            · rw [List.erase_append_left _ my]
              rfl
            · rw [List.erase_append_right _ my, List.erase_of_not_mem my]
              have : ([x] : List Int).erase y = [x] := List.erase_of_not_mem (by simp; exact fun q => xy q.symm)
              rw [this]
              rfl
      · rw [if_neg (fun q => hx q.1), if_neg (fun q => hx q.1)]
    · rw [if_neg hy] at e ⊢
      rw [e, ih]
theorem full_len (P : Int → Bool) : ∀ l, (full P l).length ≤ l.length
  | [] => Nat.le_refl _
  | x :: r => by
    have ih := full_len P r
    show (if P x = true then x :: (full P r).erase x else full P r).length ≤ _
    split
    · have := List.length_erase_le (a := x) (l := full P r)
      simp only [List.length_cons]
      omega
    · simp only [List.length_cons]
      omega
def inSet (S : Int) (s : Int) : Int → Bool := fun x => decide (x % S = s)
/-- the contents of the set s behind the uses us (the oldest first) -/
def rowOf (us : List Int) (S s : Int) (W : Nat) : List Int := (full (inSet S s) us.reverse).take W
/-- what the loop of the law does with one use -/
theorem take_app (P : Int → Bool) (x : Int) (W : Nat) (pre : List Int) : (full P (pre ++ [x])).take W = if P x = true ∧ x ∉ (full P pre).take W ∧ ((full P pre).take W).length < W then (full P pre).take W ++ [x] else (full P pre).take W := by
  rw [full_app, List.length_take]
  by_cases hx : P x = true
  · by_cases hl : (full P pre).length < W
    · have et : (full P pre).take W = full P pre := List.take_of_length_le (by omega)
      rw [et]
      by_cases m : x ∈ full P pre
      · rw [if_neg (fun q => q.2 m), if_neg (fun q => q.2.1 m), et]
      · rw [if_pos ⟨hx, m⟩, if_pos ⟨hx, m, by omega⟩]
        exact List.take_of_length_le (by rw [List.length_append, List.length_singleton]; omega)
    · rw [if_neg (c := _ ∧ _ ∧ _) (fun q => by have := q.2.2; omega)]
      split
      · exact List.take_append_of_le_length (by omega)
      · rfl
  · rw [if_neg (fun q => hx q.1), if_neg (fun q => hx q.1)]
/-- what the program does with a line that is used -/
def useRow (W : Nat) (x : Int) (r : List Int) : List Int := x :: (if x ∈ r then r.erase x else if r.length = W then r.dropLast else r)
theorem erase_take (x : Int) : ∀ (l : List Int) (W : Nat), l.Nodup → (if x ∈ l.take W then (l.take W).erase x else (l.take W).take (W - 1)) = (l.erase x).take (W - 1)
  | [], W, _ => by simp
  | y :: r, 0, _ => by simp
  | y :: r, W + 1, nd => by
    rw [List.nodup_cons] at nd
    rw [List.take_succ_cons, Nat.add_sub_cancel]
    by_cases xy : x = y
    · subst xy
      rw [if_pos List.mem_cons_self, List.erase_cons_head, List.erase_cons_head]
    · have e1 : (y :: r).erase x = y :: r.erase x := List.erase_cons_tail (by simp; exact fun q => xy q.symm)
      have ih := erase_take x r W nd.2
      rw [e1]
      by_cases m : x ∈ r.take W
      · rw [if_pos m] at ih
        rw [if_pos (List.mem_cons_of_mem _ m), List.erase_cons_tail (by simp; exact fun q => xy q.symm), ih]
        cases W with
        | zero => simp at m
        | succ W => rw [Nat.add_sub_cancel, List.take_succ_cons]
      · rw [if_neg m] at ih
        rw [if_neg (fun q => by
          rcases List.mem_cons.mp q with q | q
          · exact xy q
          · exact m q)]
        cases W with
        | zero => simp
        | succ W =>
          rw [Nat.add_sub_cancel] at ih
          rw [List.take_succ_cons, List.take_succ_cons, ih]
theorem use_full (P : Int → Bool) (W : Nat) (hW : 0 < W) (x : Int) (hx : P x = true) (l : List Int) : (full P (x :: l)).take W = useRow W x ((full P l).take W) := by
  have nd := full_nodup P l
  have e : full P (x :: l) = x :: (full P l).erase x := if_pos hx
  rw [e]
  obtain ⟨V, rfl⟩ : ∃ V, W = V + 1 := ⟨W - 1, by omega⟩
  rw [List.take_succ_cons]
  unfold useRow
  have h := erase_take x (full P l) (V + 1) nd
  rw [Nat.add_sub_cancel] at h
  rw [← h]
  by_cases m : x ∈ (full P l).take (V + 1)
  · rw [if_pos m, if_pos m]
  · rw [if_neg m, if_neg m]
    split
    · rename_i hl
      rw [List.dropLast_eq_take, hl, Nat.add_sub_cancel]
    · rename_i hl
      rw [List.take_of_length_le (i := V)]
      have := List.length_take_le (V + 1) (full P l)
      omega
theorem row_use {us : List Int} {S s : Int} {W : Nat} (hW : 0 < W) {x : Int} (hx : x % S = s) : rowOf (us ++ [x]) S s W = useRow W x (rowOf us S s W) := by
  unfold rowOf
  rw [List.reverse_append, List.reverse_singleton, List.singleton_append]
  exact use_full _ _ hW _ (by simp [inSet, hx]) _
theorem row_other {us : List Int} {S s : Int} {W : Nat} {x : Int} (hx : ¬ x % S = s) : rowOf (us ++ [x]) S s W = rowOf us S s W := by
  unfold rowOf
  rw [List.reverse_append, List.reverse_singleton, List.singleton_append]
  show (if inSet S s x = true then _ else _ : List Int).take W = _
  rw [if_neg (by simp [inSet, hx])]
theorem row_len {us : List Int} {S s : Int} {W : Nat} : (rowOf us S s W).length ≤ W := List.length_take_le _ _
theorem row_nodup {us : List Int} {S s : Int} {W : Nat} : (rowOf us S s W).Nodup := (full_nodup _ _).take
def rowsOf (us : List Int) (S : Nat) (W : Nat) : List (List Int) := (List.range S).map fun (s : Nat) => rowOf us (S : Int) (s : Int) W
theorem rows_get {us : List Int} {S W i : Nat} (h : i < S) : (rowsOf us S W)[i]? = some (rowOf us S i W) := by
  unfold rowsOf
  rw [List.getElem?_map, List.getElem?_range h]
  rfl
theorem rows_len {us : List Int} {S W : Nat} : (rowsOf us S W).length = S := by
  unfold rowsOf
  rw [List.length_map, List.length_range]
theorem rows_use {us : List Int} {S W i : Nat} (hW : 0 < W) {x : Int} (hi : i < S) (hx : x % S = i) : rowsOf (us ++ [x]) S W = (rowsOf us S W).set i (useRow W x (rowOf us S i W)) := by
  apply List.ext_getElem?
  intro j
  by_cases hj : j < S
  · rw [rows_get hj, List.getElem?_set, rows_len]
    by_cases ij : i = j
    · subst ij
      rw [if_pos rfl, if_pos hi, row_use hW hx]
    · rw [if_neg ij, rows_get hj, row_other (by rw [hx]; omega)]
  · rw [List.getElem?_eq_none (by rw [rows_len]; omega), List.getElem?_eq_none (by rw [List.length_set, rows_len]; omega)]
theorem rows_nil {S W : Nat} : rowsOf [] S W = List.replicate S [] := by
  apply List.ext_getElem?
  intro j
  by_cases hj : j < S
  · rw [rows_get hj, List.getElem?_replicate, if_pos hj]
    simp [rowOf, full]
  · rw [List.getElem?_eq_none (by rw [rows_len]; omega), List.getElem?_eq_none (by rw [List.length_replicate]; omega)]

/-! ### the cache -/
def cf (S W z : Int) (R : Addr) : List (Str × V) := [("sets", .int S), ("ways", .int W), ("size", .int z), ("rows", .ref R)]
theorem cf_put {S W z : Int} {R : Addr} : putF "rows" (.ref R) (putF "size" (.int z) (putF "ways" (.int W) (putF "sets" (.int S) []))) = cf S W z R := by with_unfolding_all rfl
theorem cf_rows {S W z : Int} {R R2 : Addr} : putF "rows" (.ref R2) (cf S W z R) = cf S W z R2 := by with_unfolding_all rfl
theorem cf_S {S W z : Int} {R : Addr} : (cf S W z R).lookup ("sets" : Str) = some (.int S) := by with_unfolding_all rfl
theorem cf_W {S W z : Int} {R : Addr} : (cf S W z R).lookup ("ways" : Str) = some (.int W) := by with_unfolding_all rfl
theorem cf_z {S W z : Int} {R : Addr} : (cf S W z R).lookup ("size" : Str) = some (.int z) := by with_unfolding_all rfl
theorem cf_R {S W z : Int} {R : Addr} : (cf S W z R).lookup ("rows" : Str) = some (.ref R) := by with_unfolding_all rfl
structure CacheAt (C : Addr) (H : Hp) (o R : Addr) (ls : List Addr) (S W z : Int) (rows : List (List Int)) : Prop where
  ob : ∃ dx, H o = some (.ins C dx (cf S W z R))
  rr : H R = some (.lst (ls.map V.ref))
  nd : ls.Nodup
  len : ls.length = rows.length
  sets : S = rows.length
  row : ∀ (i : Nat) (l : Addr) (r : List Int), ls[i]? = some l → rows[i]? = some r → H l = some (.lst (r.map V.int))
  nR : R ∉ ls
/-- the sizes are in their ranges -/
structure SizesOk (S W z : Int) : Prop where
  s1 : 1 ≤ S
  s2 : S ≤ 64
  w1 : 1 ≤ W
  w2 : W ≤ 4
  zz : z = 1 ∨ z = 2 ∨ z = 4 ∨ z = 8 ∨ z = 16
theorem SizesOk.z0 {S W z : Int} (h : SizesOk S W z) : 0 < z ∧ z ≤ 16 := by
  have := h.zz
  omega
section
variable {P : Program} {w : World} {K : PySem.W.Frag} {mg : Str → Option Value} {base : Heap}
def sp_Cache_init (C : Addr) : Sp := fun vs H Q _ => ∃ (o dx : Addr) (S W z : Int), vs = [.ref o, .int S, .int W, .int z] ∧ SizesOk S W z ∧ H o = some (.ins C dx []) ∧
  ∀ (H' : Hp) (R : Addr) (ls : List Addr), CacheAt C H' o R ls S W z (List.replicate S.toNat []) → (∀ b x, b ≠ o → H b = some x → H' b = some x) → H R = none → (∀ l ∈ ls, H l = none) → Q .non H'
theorem ok_Cache_init (T : Top K mg) : FnOk P w K mg base CX0 1 T.a_Cache_init T.d_Cache_init ["self", "sets", "ways", "size"]  (sp_Cache_init T.C_Cache) := by
  refine T.F_Cache_init.ok sc_Cache_init (fun vs H Q E h => ?_) (fun cdv A outer s H vs Q E hr h => ?_)
  · obtain ⟨_, _, _, _, _, rfl, _⟩ := h
    rfl
  · obtain ⟨o, dx, S, W, z, rfl, ok, ho, q⟩ := h
    refine ⟨_, (pss_cons (ps_if (pt_not (pt_chain op_le op_le pe_int (pv 1) (pe_gi (by rfl) T.c_MOST_SETS)))
  (pss_one ps_never)
  pss_nil)
  (pss_cons (ps_if (pt_not (pt_chain op_le op_le pe_int (pv 2) (pe_gi (by rfl) T.c_MOST_WAYS)))
  (pss_one ps_never)
  pss_nil)
  (pss_cons (ps_if (pt_cmpR op_notIn_seq (pv 3) (pe_gr (by rfl) T.c_LINE_SIZES) (by with_unfolding_all rfl))
  (pss_one ps_never)
  pss_nil)
  (pss_cons (ps_fld (pv 0) (pv 1) rfl)
  (pss_cons (ps_fld (pv 0) (pv 2) rfl)
  (pss_cons (ps_fld (pv 0) (pv 3) rfl)
  (pss_one (ps_fld (pv 0) (pe_lc (own := [("_", 4)]) (g := gName 4) (tt := tYes) rfl sc_Cache_init.nd (pi_range1 (by rfl) T.m_range (pa_cons (pv 1) pa_nil)) (blkOk_by (N := ["self", "sets", "ways", "size", "_"]) (sc := defScope s_Cache_init) (by decide +kernel)) (fun _ _ _ _ _ => pg_name (i := 4) sc_Cache_init.nd rfl (Or.inl rfl)) (fun _ _ _ _ _ => pts_nil) (fun _ _ _ _ _ => (pe_lst pa_nil))) rfl)))))))), ?_⟩
    have n1 : ∀ {a b c : Int}, a ≤ b → b ≤ c → (!(decide (a ≤ b) && decide (b ≤ c))) = false := fun h1 h2 => by rw [decide_eq_true h1, decide_eq_true h2]; rfl
    refine ⟨_, rfl, _, _, rfl, rfl, _, rfl, ?_⟩
    rw [decide_eq_true ok.s1]
    refine iteT ⟨_, _, rfl, rfl, _, rfl, ?_⟩
    rw [decide_eq_true ok.s2]
    refine iteF ?_
    refine ⟨_, rfl, _, _, rfl, rfl, _, rfl, ?_⟩
    rw [decide_eq_true ok.w1]
    refine iteT ⟨_, _, rfl, rfl, _, rfl, ?_⟩
    rw [decide_eq_true ok.w2]
    refine iteF ?_
    refine ⟨_, rfl, _, _, rfl, .inr (T.q_LINE_SIZES _), rfl, (by decide), _, rfl, if_f ?_ ?_⟩
    · have e : inV (.int z) [.int 1, .int 2, .int 4, .int 8, .int 16] = true := by
        rcases ok.zz with rfl | rfl | rfl | rfl | rfl <;> decide +kernel
      rw [e]
      rfl
    obtain ⟨a1, a2, a3, a4, _⟩ := id ok
    -- the fields
    refine ⟨_, rfl, _, rfl, o, _, dx, [], rfl, ho, T.cl_Cache, T.n_Cache_sets, (by show 0 < 1000; decide), ?_⟩
    refine ⟨_, rfl, _, rfl, o, _, dx, _, rfl, upd_same, T.cl_Cache, T.n_Cache_ways, (by show 1 < 1000; decide), ?_⟩
    refine ⟨_, rfl, _, rfl, o, _, dx, _, rfl, upd_same, T.cl_Cache, T.n_Cache_size, (by show 2 < 1000; decide), ?_⟩
    rw [upd_upd, upd_upd]
    refine ⟨_, rfl, S, rfl, (by omega), (by omega), fun R hR => ?_⟩
    have noR : o ≠ R := fun z => by rw [z] at hR; exact absurd ((upd_same (H := H)).symm.trans (z ▸ hR)) (by intro q; cases q)
    let G := upd H o (.ins T.C_Cache dx (putF "size" (.int z) (putF "ways" (.int W) (putF "sets" (.int S) []))))
    have hG : ∀ l, G l = none → l ≠ o ∧ H l = none := fun l hl => by
      have lo : l ≠ o := fun z => by
        rw [z] at hl
        exact absurd ((upd_same (H := H)).symm.trans hl) (by intro q; cases q)
      refine ⟨lo, ?_⟩
      have : G l = H l := upd_ne lo
      exact this.symm.trans hl
    have kG : ∀ b x, b ≠ o → H b = some x → G b = some x := fun b x hb e => by
      have : G b = H b := upd_ne hb
      rw [this]
      exact e
    refine lc_range (n := S.toNat) (fun i H' => ∃ ls : List Addr, ls.length = i ∧ ls.Nodup ∧ R ∉ ls ∧ (∀ l ∈ ls, G l = none) ∧ (∀ l ∈ ls, H' l = some (.lst [])) ∧ H' R = some (.lst (ls.map V.ref)) ∧ (∀ b x, G b = some x → H' b = some x))
      ⟨[], rfl, List.nodup_nil, by simp, by simp, by simp, upd_same, same_new hR⟩ ?_ ?_
    · rintro i H' hi ⟨ls, e1, e2, e3, e4, e5, e6, e7⟩
      refine ⟨rfl, ?_⟩
      refine ⟨Nat.zero_le _, fun l hl => ?_⟩
      have lR : l ≠ R := (ne_of_none e6 hl).symm
      have lG : G l = none := by
        cases e : G l with
        | none => rfl
        | some x => rw [e7 l x e] at hl; cases hl
      have ll : l ∉ ls := fun m => by rw [e5 l m] at hl; cases hl
      refine ⟨_, by rw [upd_ne lR.symm]; exact e6, ?_, ls ++ [l], ?_, ?_, ?_, ?_, ?_, ?_, ?_⟩
      · rw [List.length_map, e1]
        exact small1000 (by omega)
      · rw [List.length_append, e1]
        rfl
      · rw [List.nodup_append]
        exact ⟨e2, by simp, fun a ha b hb => by
          rw [List.mem_singleton] at hb
          subst hb
          exact fun z => ll (z ▸ ha)⟩
      · intro m
        rcases List.mem_append.mp m with m | m
        · exact e3 m
        · exact lR (List.mem_singleton.mp m).symm
      · intro a m
        rcases List.mem_append.mp m with m | m
        · exact e4 a m
        · rw [List.mem_singleton.mp m]
          exact lG
      · intro a m
        have aR : a ≠ R := fun z => by
          subst z
          rcases List.mem_append.mp m with m | m
          · exact e3 m
          · exact lR (List.mem_singleton.mp m).symm
        rw [upd_ne aR]
        rcases List.mem_append.mp m with m | m
        · rw [upd_ne (fun (z : a = l) => ll (z ▸ m))]
          exact e5 a m
        · rw [List.mem_singleton.mp m]
          exact upd_same
      · rw [upd_same, List.map_append]
        rfl
      · intro b x e
        have bR : b ≠ R := ne_of_none e (show G R = none from hR)
        rw [upd_ne bR, upd_ne (ne_of_none (e7 b x e) hl)]
        exact e7 b x e
    · rintro H' ⟨ls, e1, e2, e3, e4, e5, e6, e7⟩
      have oo : o ∉ ls := fun m => (hG o (e4 o m)).1 rfl
      refine ⟨_, rfl, o, _, dx, _, rfl, e7 o _ upd_same, T.cl_Cache, T.n_Cache_rows, (by show 3 < 1000; decide), ?_⟩
      rw [cf_put]
      refine q _ R ls ⟨⟨dx, upd_same⟩, ?_, e2, ?_, ?_, ?_, e3⟩ ?_ (hG R hR).2 (fun l m => (hG l (e4 l m)).2)
      · rw [upd_ne noR.symm]
        exact e6
      · rw [List.length_replicate]
        exact e1
      · rw [List.length_replicate]
        omega
      · intro j l r hl hr
        have m := List.mem_of_getElem? hl
        rw [List.getElem?_replicate] at hr
        split at hr
        · cases hr
          rw [upd_ne (fun (z : l = o) => oo (z ▸ m))]
          exact e5 l m
        · cases hr
      · intro b x hb e
        rw [upd_ne hb]
        exact e7 b x (kG b x hb e)

theorem inV_int (x : Int) (r : List Int) : inV (.int x) (r.map V.int) = decide (x ∈ r) := by
  unfold inV
  rw [List.any_map]
  by_cases h : x ∈ r
  · rw [decide_eq_true h, List.any_eq_true]
    exact ⟨x, h, beq_self_eq_true x⟩
  · rw [decide_eq_false h, List.any_eq_false]
    intro y hy e
    have e2 : (y == x) = true := e
    exact h (by rw [← eq_of_beq e2]; exact hy)
theorem flat_ints (r : List Int) : (r.map V.int).all flatV = true := by
  rw [List.all_map, List.all_eq_true]
  intro x _
  rfl
def rowAt (rows : List (List Int)) (S x : Int) : List Int := rows.getD (x % S).toNat []
def usedRows (rows : List (List Int)) (S W x : Int) : List (List Int) := rows.set (x % S).toNat (useRow W.toNat x (rowAt rows S x))
def Touch (ls : List Addr) (H H' : Hp) : Prop := ∀ b x, b ∉ ls → H b = some x → H' b = some x
theorem Touch.refl (ls : List Addr) (H : Hp) : Touch ls H H := fun _ _ _ h => h
theorem Touch.trans {ls : List Addr} {H H1 H2 : Hp} (a : Touch ls H H1) (b : Touch ls H1 H2) : Touch ls H H2 := fun x o h1 h => b x o h1 (a x o h1 h)
theorem CacheAt.get {C : Addr} {H : Hp} {o R : Addr} {ls : List Addr} {S W z : Int} {rows : List (List Int)} (c : CacheAt C H o R ls S W z rows) (ok : SizesOk S W z) (x : Int) :
    ∃ (j : Nat) (l : Addr), x % S = (j : Int) ∧ (x % S).toNat = j ∧ j < rows.length ∧ ls[j]? = some l ∧ rows[j]? = some (rowAt rows S x) ∧ H l = some (.lst ((rowAt rows S x).map V.int)) := by
  obtain ⟨s1, _⟩ := ok
  have m0 := Int.emod_nonneg x (show S ≠ 0 by omega)
  have m1 := Int.emod_lt_of_pos x (show 0 < S by omega)
  have hS := c.sets
  have hj : (x % S).toNat < rows.length := by omega
  have e2 : rows[(x % S).toNat]? = some (rowAt rows S x) := by
    unfold rowAt
    rw [List.getD_eq_getElem?_getD, List.getElem?_eq_getElem hj]
    rfl
  have e1 : ls[(x % S).toNat]? = some _ := List.getElem?_eq_getElem (by rw [c.len]; exact hj)
  exact ⟨_, _, by omega, rfl, hj, e1, e2, c.row _ _ _ e1 e2⟩
theorem CacheAt.put {C : Addr} {H : Hp} {o R : Addr} {ls : List Addr} {S W z : Int} {rows : List (List Int)} (c : CacheAt C H o R ls S W z rows) {j : Nat} {l : Addr} {r : List Int} (hl : ls[j]? = some l) (hr : rows[j]? = some r) (r' : List Int) :
    CacheAt C (upd H l (.lst (r'.map V.int))) o R ls S W z (rows.set j r') := by
  obtain ⟨⟨dx, h1⟩, h2, h3, h4, h5, h6, h7⟩ := c
  have ml := List.mem_of_getElem? hl
  have ho : o ≠ l := ne_of h1 (h6 j l r hl hr) (by intro q; cases q)
  have hR : R ≠ l := fun z => h7 (z ▸ ml)
  refine ⟨⟨dx, by rw [upd_ne ho]; exact h1⟩, by rw [upd_ne hR]; exact h2, h3, by rw [List.length_set]; exact h4, by rw [List.length_set]; exact h5, ?_, h7⟩
  intro i m q hm hq
  by_cases ij : j = i
  · subst ij
    rw [hl] at hm
    cases hm
    rw [List.getElem?_set_self (by rw [← h4]; exact (List.getElem?_eq_some_iff.mp hl).1)] at hq
    cases hq
    exact upd_same
  · have ml2 : m ≠ l := fun z => by
      subst z
      have a1 := List.getElem?_eq_some_iff.mp hl
      have a2 := List.getElem?_eq_some_iff.mp hm
      obtain ⟨b1, c1⟩ := a1
      obtain ⟨b2, c2⟩ := a2
      exact ij ((List.getElem_inj h3).mp (c1.trans c2.symm))
    rw [upd_ne ml2]
    rw [List.getElem?_set_ne ij] at hq
    exact h6 i m q hm hq
def sp_Cache_holds (C : Addr) : Sp := fun vs H Q _ => ∃ (o R : Addr) (ls : List Addr) (S W z : Int) (rows : List (List Int)) (a : Int), vs = [.ref o, .int a] ∧ CacheAt C H o R ls S W z rows ∧ SizesOk S W z ∧ Q (.bl (decide (a / z ∈ rowAt rows S (a / z)))) H
theorem ok_Cache_holds (T : Top K mg) : FnOk P w K mg base CX0 1 T.a_Cache_holds T.d_Cache_holds ["self", "address"]  (sp_Cache_holds T.C_Cache) := by
  refine T.F_Cache_holds.ok sc_Cache_holds (fun vs H Q E h => ?_) (fun cdv A outer s H vs Q E hr h => ?_)
  · obtain ⟨_, _, _, _, _, _, _, _, rfl, _⟩ := h
    rfl
  · obtain ⟨o, R, ls, S, W, z, rows, a, rfl, c, ok, q⟩ := h
    refine ⟨_, (pss_cons (ps_set (i := 2) sc_Cache_holds.nd rfl (by first | exact Or.inl rfl | exact Or.inr rfl) (pe_op op_fdiv (pv 1) (pe_fld (pv 0) rfl)))
  (pss_one (ps_ret (pe_cmpR op_in_seq (pv 2) (pe_ix ix_list (pe_fld (pv 0) rfl) (pe_op op_mod (pv 2) (pe_fld (pv 0) rfl)) (fun _ _ => rfl)) (by with_unfolding_all rfl))))), ?_⟩
    obtain ⟨dx, ho⟩ := c.ob
    obtain ⟨z0, z1⟩ := ok.z0
    have s0 : 0 < S := by have := ok.s1; omega
    obtain ⟨j, l, ej, _, hj, hl, hr2, hH⟩ := c.get ok (a / z)
    refine ⟨_, rfl, _, rfl, o, _, dx, _, _, rfl, ho, T.cl_Cache, T.n_Cache_size, cf_z, _, _, rfl, rfl, ⟨z0, by omega⟩, ?_⟩
    refine ⟨_, rfl, _, rfl, o, _, dx, _, _, rfl, ho, T.cl_Cache, T.n_Cache_rows, cf_R, _, rfl, _, rfl, o, _, dx, _, _, rfl, ho, T.cl_Cache, T.n_Cache_sets, cf_S, _, _, rfl, rfl, s0, ?_⟩
    refine ⟨R, _, _, .ref l, rfl, rfl, SqL.of c.rr, at_of ej (by rw [List.getElem?_map, hl]; rfl), ?_⟩
    refine ⟨l, _, rfl, .inl (SqL.of hH), rfl, flat_ints _, ?_⟩
    rw [inV_int]
    exact q
def sp_Cache_use (C : Addr) : Sp := fun vs H Q _ => ∃ (o R : Addr) (ls : List Addr) (S W z : Int) (rows : List (List Int)) (a : Int), vs = [.ref o, .int a] ∧ CacheAt C H o R ls S W z rows ∧ SizesOk S W z ∧ (∀ r ∈ rows, r.length ≤ 4) ∧
  ∀ H', CacheAt C H' o R ls S W z (usedRows rows S W (a / z)) → Touch ls H H' → Q .non H'
theorem upd_touch {H : Hp} {ls : List Addr} {l : Addr} {x : HO} (m : l ∈ ls) : Touch ls H (upd H l x) := fun b y nb e => by
  rw [upd_ne (fun (z : b = l) => nb (z ▸ m))]
  exact e
theorem erase_at {r : List Int} {x : Int} (h : x ∈ r) : ∃ j : Nat, r[j]? = some x ∧ (∀ m : Nat, m < j → r[m]? ≠ some x) ∧ r.eraseIdx j = r.erase x := by
  induction r with
  | nil => cases h
  | cons y r ih =>
    by_cases e : y = x
    · subst e
      exact ⟨0, rfl, fun m hm => absurd hm (Nat.not_lt_zero m), by simp⟩
    · have h2 : x ∈ r := by
        rcases List.mem_cons.mp h with h | h
        · exact absurd h.symm e
        · exact h
      obtain ⟨j, j1, j2, j3⟩ := ih h2
      refine ⟨j + 1, j1, fun m hm => ?_, ?_⟩
      · cases m with
        | zero => exact fun q => e (Option.some.inj q)
        | succ m => exact j2 m (by omega)
      · rw [List.eraseIdx_cons_succ, j3, List.erase_cons_tail (by simp; exact e)]
theorem ok_Cache_use (T : Top K mg) : FnOk P w K mg base CX0 1 T.a_Cache_use T.d_Cache_use ["self", "address"]  (sp_Cache_use T.C_Cache) := by
  refine T.F_Cache_use.ok sc_Cache_use (fun vs H Q E h => ?_) (fun cdv A outer s H vs Q E hr h => ?_)
  · obtain ⟨_, _, _, _, _, _, _, _, rfl, _⟩ := h
    rfl
  · obtain ⟨o, R, ls, S, W, z, rows, a, rfl, c, ok, hlen, q⟩ := h
    refine ⟨_, (pss_cons (ps_set (i := 2) sc_Cache_use.nd rfl (by first | exact Or.inl rfl | exact Or.inr rfl) (pe_op op_fdiv (pv 1) (pe_fld (pv 0) rfl)))
  (pss_cons (ps_set (i := 3) sc_Cache_use.nd rfl (by first | exact Or.inl rfl | exact Or.inr rfl) (pe_ix ix_list (pe_fld (pv 0) rfl) (pe_op op_mod (pv 2) (pe_fld (pv 0) rfl)) (fun _ _ => rfl)))
  (pss_cons (ps_if (pt_cmpR op_in_seq (pv 2) (pv 3) (by with_unfolding_all rfl))
  (pss_one (ps_expr (pe_bm PySem.F.plainAttrs_list PySem.F.slot_list_remove PySem.F.type_list_remove mt_remove (pv 3) (pa_cons (pv 2) pa_nil))))
  (pss_one (ps_if (pt_cmpR op_eq (pe_callB call_len_seq (by rfl) T.m_len PySem.boot_len (pa_cons (pv 3) pa_nil)) (pe_fld (pv 0) rfl) (nomark _))
  (pss_one (ps_expr (pe_bm0 PySem.F.plainAttrs_list PySem.F.slot_list_pop PySem.F.type_list_pop mt_pop (pv 3))))
  pss_nil)))
  (pss_one (ps_expr (pe_bm PySem.F.plainAttrs_list PySem.F.slot_list_insert PySem.F.type_list_insert mt_insert (pv 3) (pa_cons pe_int (pa_cons (pv 2) pa_nil)))))))), ?_⟩
    obtain ⟨dx, ho⟩ := c.ob
    obtain ⟨z0, z1⟩ := ok.z0
    have s0 : 0 < S := by have := ok.s1; omega
    obtain ⟨j, l, ej, ej2, hj, hl, hr2, hH⟩ := c.get ok (a / z)
    have l4 := hlen _ (List.mem_of_getElem? hr2)
    have hW := ok.w1
    have fin : ∀ r' : List Int, r' = useRow W.toNat (a / z) (rowAt rows S (a / z)) → Q .non (upd H l (.lst (r'.map V.int))) := fun r' e => by
      refine q _ ?_ (upd_touch (List.mem_of_getElem? hl))
      unfold usedRows
      rw [ej2, ← e]
      exact c.put hl hr2 r'
    refine ⟨_, rfl, _, rfl, o, _, dx, _, _, rfl, ho, T.cl_Cache, T.n_Cache_size, cf_z, _, _, rfl, rfl, ⟨z0, by omega⟩, ?_⟩
    refine ⟨_, rfl, o, _, dx, _, _, rfl, ho, T.cl_Cache, T.n_Cache_rows, cf_R, _, rfl, _, rfl, o, _, dx, _, _, rfl, ho, T.cl_Cache, T.n_Cache_sets, cf_S, _, _, rfl, rfl, s0, ?_⟩
    refine ⟨R, _, _, .ref l, rfl, rfl, SqL.of c.rr, at_of ej (by rw [List.getElem?_map, hl]; rfl), ?_⟩
    refine ⟨_, rfl, _, rfl, l, _, rfl, .inl (SqL.of hH), rfl, flat_ints _, _, rfl, ?_⟩
    rw [inV_int]
    have fin2 : ∀ (r2 : List Int), r2.length ≤ 4 → (a / z) :: r2 = useRow W.toNat (a / z) (rowAt rows S (a / z)) → ((r2.map V.int).length < sizeLine) ∧ Q .non (upd (upd H l (.lst (r2.map V.int))) l (.lst ((r2.map V.int).take (0 : Int).toNat ++ [.int (a / z)] ++ (r2.map V.int).drop (0 : Int).toNat))) := fun r2 h4 e => by
      refine ⟨by rw [List.length_map]; exact small1000 (by omega), ?_⟩
      rw [upd_upd]
      exact fin _ e
    refine ite2 (fun c1 => ?_) (fun c1 => ?_)
    · have m1 := of_decide_eq_true c1
      obtain ⟨i, i1, i2, i3⟩ := erase_at m1
      refine ⟨_, rfl, .inl ⟨rfl, _, SqL.of hH⟩, _, rfl, l, _, _, i, rfl, rfl, hH, i1, i2, ?_⟩
      rw [i3]
      obtain ⟨f1, f2⟩ := fin2 ((rowAt rows S (a / z)).erase (a / z)) (Nat.le_trans (List.length_erase_le ..) l4) (by unfold useRow; rw [if_pos m1])
      exact ⟨_, rfl, .inl ⟨rfl, _, SqL.of upd_same⟩, _, rfl, l, _, _, _, rfl, rfl, upd_same, f1, by decide, by decide, f2⟩
    · have m1 : ¬ (a / z) ∈ rowAt rows S (a / z) := fun h => c1 (decide_eq_true h)
      refine ⟨_, rfl, l, _, rfl, .inl (SqL.of hH), _, rfl, o, _, dx, _, _, rfl, ho, T.cl_Cache, T.n_Cache_ways, cf_W, rfl, _, rfl, ite2 (fun c2 => ?_) (fun c2 => ?_)⟩
      · have e2 := V.int.inj (of_decide_eq_true c2)
        rw [List.length_map] at e2
        obtain ⟨y, hy⟩ : ∃ y, (rowAt rows S (a / z))[(rowAt rows S (a / z)).length - 1]? = some y := ⟨_, List.getElem?_eq_getElem (by omega)⟩
        refine ⟨_, rfl, .inl ⟨rfl, _, SqL.of hH⟩, l, _, .int y, rfl, rfl, hH, by rw [List.getElem?_map, List.length_map, hy]; rfl, ?_⟩
        rw [← List.map_dropLast]
        obtain ⟨f1, f2⟩ := fin2 ((rowAt rows S (a / z)).dropLast) (by rw [List.length_dropLast]; omega) (by unfold useRow; rw [if_neg m1, if_pos (by omega)])
        exact ⟨_, rfl, .inl ⟨rfl, _, SqL.of upd_same⟩, _, rfl, l, _, _, _, rfl, rfl, upd_same, f1, by decide, by decide, f2⟩
      · have e2 : ¬ ((rowAt rows S (a / z)).length : Int) = W := fun h => c2 (decide_eq_true (by rw [List.length_map, h]))
        obtain ⟨f1, f2⟩ := fin2 (rowAt rows S (a / z)) l4 (by unfold useRow; rw [if_neg m1, if_neg (by omega)])
        rw [upd_self hH] at f2
        exact ⟨_, rfl, .inl ⟨rfl, _, SqL.of hH⟩, _, rfl, l, _, _, _, rfl, rfl, hH, f1, by decide, by decide, f2⟩
def hitOf (rows : List (List Int)) (S x : Int) : Bool := decide (x ∈ rowAt rows S x)
def sp_Cache_read (C : Addr) : Sp := fun vs H Q _ => ∃ (o R : Addr) (ls : List Addr) (S W z : Int) (rows : List (List Int)) (a : Int), vs = [.ref o, .int a] ∧ CacheAt C H o R ls S W z rows ∧ SizesOk S W z ∧ (∀ r ∈ rows, r.length ≤ 4) ∧
  ∀ H', CacheAt C H' o R ls S W z (usedRows rows S W (a / z)) → Touch ls H H' → Q (.bl (hitOf rows S (a / z))) H'
theorem cf_no {S W z : Int} {R : Addr} {m : Str} (h1 : ("sets" : Str) ≠ m := by decide) (h2 : ("ways" : Str) ≠ m := by decide) (h3 : ("size" : Str) ≠ m := by decide) (h4 : ("rows" : Str) ≠ m := by decide) : (cf S W z R).lookup m = none := by
  unfold cf
  have b1 : (m == ("sets" : Str)) = false := beq_eq_false_iff_ne.mpr h1.symm
  have b2 : (m == ("ways" : Str)) = false := beq_eq_false_iff_ne.mpr h2.symm
  have b3 : (m == ("size" : Str)) = false := beq_eq_false_iff_ne.mpr h3.symm
  have b4 : (m == ("rows" : Str)) = false := beq_eq_false_iff_ne.mpr h4.symm
  simp only [List.lookup, b1, b2, b3, b4]
theorem ok_Cache_read (T : Top K mg) : FnOk P w K mg base CX0 2 T.a_Cache_read T.d_Cache_read ["self", "address"]  (sp_Cache_read T.C_Cache) := by
  refine T.F_Cache_read.ok sc_Cache_read (fun vs H Q E h => ?_) (fun cdv A outer s H vs Q E hr h => ?_)
  · obtain ⟨_, _, _, _, _, _, _, _, rfl, _⟩ := h
    rfl
  · obtain ⟨o, R, ls, S, W, z, rows, a, rfl, c, ok, hlen, q⟩ := h
    refine ⟨_, (pss_cons (ps_set (i := 2) sc_Cache_read.nd rfl (by first | exact Or.inl rfl | exact Or.inr rfl) (pe_meth (pv 0) T.cl_Cache T.m_Cache_holds (ok_Cache_holds T) (hr.mono (by decide)) T.b_Cache_holds .nil pass0 (pa_cons (pv 1) pa_nil)))
  (pss_cons (ps_expr (pe_meth (pv 0) T.cl_Cache T.m_Cache_use (ok_Cache_use T) (hr.mono (by decide)) T.b_Cache_use .nil pass0 (pa_cons (pv 1) pa_nil)))
  (pss_one (ps_ret (pv 2))))), ?_⟩
    obtain ⟨dx, ho⟩ := c.ob
    refine ⟨_, rfl, o, dx, _, rfl, ho, cf_no, _, rfl, o, R, ls, S, W, z, rows, a, rfl, c, ok, ?_⟩
    refine ⟨_, rfl, o, dx, _, rfl, ho, cf_no, _, rfl, o, R, ls, S, W, z, rows, a, rfl, c, ok, hlen, fun H' c' t' => ?_⟩
    exact ⟨_, rfl, q H' c' t'⟩
def sp_Cache_write (C : Addr) : Sp := fun vs H Q _ => ∃ (o R : Addr) (ls : List Addr) (S W z : Int) (rows : List (List Int)) (a : Int), vs = [.ref o, .int a] ∧ CacheAt C H o R ls S W z rows ∧ SizesOk S W z ∧ (∀ r ∈ rows, r.length ≤ 4) ∧
  ∀ H', CacheAt C H' o R ls S W z (if hitOf rows S (a / z) = true then usedRows rows S W (a / z) else rows) → Touch ls H H' → Q (.bl (hitOf rows S (a / z))) H'
theorem ok_Cache_write (T : Top K mg) : FnOk P w K mg base CX0 2 T.a_Cache_write T.d_Cache_write ["self", "address"]  (sp_Cache_write T.C_Cache) := by
  refine T.F_Cache_write.ok sc_Cache_write (fun vs H Q E h => ?_) (fun cdv A outer s H vs Q E hr h => ?_)
  · obtain ⟨_, _, _, _, _, _, _, _, rfl, _⟩ := h
    rfl
  · obtain ⟨o, R, ls, S, W, z, rows, a, rfl, c, ok, hlen, q⟩ := h
    refine ⟨_, (pss_cons (ps_set (i := 2) sc_Cache_write.nd rfl (by first | exact Or.inl rfl | exact Or.inr rfl) (pe_meth (pv 0) T.cl_Cache T.m_Cache_holds (ok_Cache_holds T) (hr.mono (by decide)) T.b_Cache_holds .nil pass0 (pa_cons (pv 1) pa_nil)))
  (pss_cons (ps_if (pt_val (pv 2))
  (pss_one (ps_expr (pe_meth (pv 0) T.cl_Cache T.m_Cache_use (ok_Cache_use T) (hr.mono (by decide)) T.b_Cache_use .nil pass0 (pa_cons (pv 1) pa_nil))))
  pss_nil)
  (pss_one (ps_ret (pv 2))))), ?_⟩
    obtain ⟨dx, ho⟩ := c.ob
    refine ⟨_, rfl, o, dx, _, rfl, ho, cf_no, _, rfl, o, R, ls, S, W, z, rows, a, rfl, c, ok, ?_⟩
    refine ⟨_, rfl, hitOf rows S (a / z), rfl, ?_⟩
    cases e : hitOf rows S (a / z) with
    | true =>
      rw [e, if_pos rfl] at q
      refine iteT ⟨_, rfl, o, dx, _, rfl, ho, cf_no, _, rfl, o, R, ls, S, W, z, rows, a, rfl, c, ok, hlen, fun H' c' t' => ?_⟩
      refine ⟨_, rfl, ?_⟩
      have : decide (a / z ∈ rowAt rows S (a / z)) = true := e
      rw [this]
      exact q H' c' t'
    | false =>
      rw [e, if_neg (by decide)] at q
      refine iteF ⟨_, rfl, ?_⟩
      have : decide (a / z ∈ rowAt rows S (a / z)) = false := e
      rw [this]
      exact q H c (Touch.refl _ _)

def sp_Cache_duplicate (C : Addr) : Sp := fun vs H Q _ => ∃ (o R : Addr) (ls : List Addr) (S W z : Int) (rows : List (List Int)), vs = [.ref o] ∧ CacheAt C H o R ls S W z rows ∧ SizesOk S W z ∧ 
  ∀ (H' : Hp) (o2 R2 : Addr) (ls2 : List Addr), CacheAt C H' o2 R2 ls2 S W z rows → Same H H' → (∀ l ∈ ls2, H l = none) → H R2 = none → H o2 = none → Q (.ref o2) H'
theorem ok_Cache_duplicate (T : Top K mg) : FnOk P w K mg base CX0 3 T.a_Cache_duplicate T.d_Cache_duplicate ["self"]  (sp_Cache_duplicate T.C_Cache) := by
  refine T.F_Cache_duplicate.ok sc_Cache_duplicate (fun vs H Q E h => ?_) (fun cdv A outer s H vs Q E hr h => ?_)
  · obtain ⟨_, _, _, _, _, _, _, rfl, _⟩ := h
    rfl
  · obtain ⟨o, R, ls, S, W, z, rows, rfl, c, ok, q⟩ := h
    refine ⟨_, (pss_cons (ps_set (i := 1) sc_Cache_duplicate.nd rfl (by first | exact Or.inl rfl | exact Or.inr rfl) (pe_make T.M_Cache (ok_Cache_init T) (hr.mono (by decide)) (by rfl) T.gc_Cache T.b_Cache_init .nil pass0 (pa_cons (pe_fld (pv 0) rfl) (pa_cons (pe_fld (pv 0) rfl) (pa_cons (pe_fld (pv 0) rfl) pa_nil)))))
  (pss_cons (ps_fld (pv 1) (pe_lc (own := [("lines", 2)]) (g := gName 2) (tt := tYes) rfl sc_Cache_duplicate.nd (pi_list (pe_fld (pv 0) rfl)) (blkOk_by (N := ["self", "other", "lines"]) (sc := defScope s_Cache_duplicate) (by decide +kernel)) (fun _ _ _ _ _ => pg_name (i := 2) sc_Cache_duplicate.nd rfl (Or.inl rfl)) (fun _ _ _ _ _ => pts_nil) (fun _ _ _ _ _ => (pe_callTy (show CallR _ (Value.type "list") (rListOf K) from call_list_of) (by rfl) T.m_list (by decide +kernel) (pa_cons (pv 2) pa_nil)))) rfl)
  (pss_one (ps_ret (pv 1))))), ?_⟩
    obtain ⟨dx, ho⟩ := c.ob
    refine ⟨_, rfl, o, _, dx, _, _, rfl, ho, T.cl_Cache, T.n_Cache_sets, cf_S, _, rfl, o, _, dx, _, _, rfl, ho, T.cl_Cache, T.n_Cache_ways, cf_W, _, rfl, o, _, dx, _, _, rfl, ho, T.cl_Cache, T.n_Cache_size, cf_z, ?_⟩
    intro x d2 nx nd ned
    refine ⟨x, d2, S, W, z, rfl, ok, upd_same, fun H1 R1 ls1 c1 k1 nR1 nl1 => ⟨rfl, ?_⟩⟩
    have s1 : Same H H1 := fun b y e => by
      have bx := ne_of_none e nx
      refine k1 b y bx ?_
      rw [upd_ne bx, upd_ne (ne_of_none e nd)]
      exact e
    refine ⟨_, rfl, o, _, dx, _, _, rfl, s1 _ _ ho, T.cl_Cache, T.n_Cache_rows, cf_R, R, rfl, ⟨_, SqL.of (s1 _ _ c.rr)⟩, fun R2 nR2 => ?_⟩
    obtain ⟨d3, hx⟩ := c1.ob
    refine lc_list (xs := ls.map V.ref) (fun i H' => ∃ ls2 : List Addr, ls2.length = i ∧ ls2.Nodup ∧ R2 ∉ ls2 ∧ (∀ l ∈ ls2, H1 l = none) ∧ (∀ (j : Nat) (l : Addr) (r : List Int), ls2[j]? = some l → rows[j]? = some r → H' l = some (.lst (r.map V.int))) ∧ H' R2 = some (.lst (ls2.map V.ref)) ∧ Same H1 H')
      ⟨[], rfl, List.nodup_nil, by simp, by simp, by simp, upd_same, same_new nR2⟩ (fun i H' _ ⟨_, _, _, _, _, _, _, sm⟩ => SqL.of (sm _ _ (s1 _ _ c.rr))) ?_ ?_
    · rintro i y H' hi ⟨ls2, e1, e2, e3, e4, e5, e6, e7⟩
      obtain ⟨l, hl, rfl⟩ : ∃ l, ls[i]? = some l ∧ V.ref l = y := by
        rw [List.getElem?_map] at hi
        cases e : ls[i]? with
        | none => rw [e] at hi; cases hi
        | some l => rw [e] at hi; exact ⟨l, rfl, Option.some.inj hi⟩
      have hil : i < rows.length := by
        rw [← c.len]
        exact (List.getElem?_eq_some_iff.mp hl).1
      have hr2 : rows[i]? = some rows[i] := List.getElem?_eq_getElem hil
      have hH := e7 _ _ (s1 _ _ (c.row i l _ hl hr2))
      refine ⟨rfl, ?_⟩
      refine ⟨_, rfl, l, _, rfl, .inl (SqL.of hH), fun m hm => ?_⟩
      have mR : m ≠ R2 := (ne_of_none e6 hm).symm
      have mH : H1 m = none := e7.free hm
      have mm : m ∉ ls2 := fun q => by
        obtain ⟨j, hj⟩ := List.getElem?_of_mem q
        have hj2 : j < rows.length := by
          have := (List.getElem?_eq_some_iff.mp hj).1
          omega
        rw [e5 j m _ hj (List.getElem?_eq_getElem hj2)] at hm
        cases hm
      have i64 : i ≤ 64 := by
        have := c.sets
        have := ok.s2
        omega
      refine ⟨_, by rw [upd_ne mR.symm]; exact e6, ?_, ls2 ++ [m], ?_, ?_, ?_, ?_, ?_, ?_, ?_⟩
      · rw [List.length_map, e1]
        exact small1000 (by omega)
      · rw [List.length_append, e1]
        rfl
      · rw [List.nodup_append]
        exact ⟨e2, by simp, fun a ha b hb => by
          rw [List.mem_singleton] at hb
          subst hb
          exact fun z => mm (z ▸ ha)⟩
      · intro q
        rcases List.mem_append.mp q with q | q
        · exact e3 q
        · exact mR (List.mem_singleton.mp q).symm
      · intro a q
        rcases List.mem_append.mp q with q | q
        · exact e4 a q
        · rw [List.mem_singleton.mp q]
          exact mH
      · intro j a r ha hr
        have aR : a ≠ R2 := fun z => by
          subst z
          rcases List.mem_append.mp (List.mem_of_getElem? ha) with q | q
          · exact e3 q
          · exact mR (List.mem_singleton.mp q).symm
        rw [upd_ne aR]
        rw [List.getElem?_append] at ha
        split at ha
        · have q := List.mem_of_getElem? ha
          rw [upd_ne (fun (z : a = m) => mm (z ▸ q))]
          exact e5 j a r ha hr
        · rename_i hj
          have q := List.mem_singleton.mp (List.mem_of_getElem? ha)
          have ej : j - ls2.length = 0 := by
            have := (List.getElem?_eq_some_iff.mp ha).1
            simp at this
            omega
          have ej2 : j = i := by omega
          subst ej2
          rw [hr2] at hr
          cases hr
          rw [q]
          exact upd_same
      · rw [upd_same, List.map_append]
        rfl
      · intro b y e
        rw [upd_ne (ne_of_none e nR2), upd_ne (ne_of_none (e7 b y e) hm)]
        exact e7 b y e
    · rintro H' ⟨ls2, e1, e2, e3, e4, e5, e6, e7⟩
      rw [List.length_map] at e1
      have hx' := e7 _ _ hx
      refine ⟨_, rfl, x, _, d3, _, rfl, hx', T.cl_Cache, T.n_Cache_rows, (by show 4 < 1000; decide), ?_⟩
      rw [cf_rows]
      have xR : x ≠ R2 := ne_of_none hx nR2
      have xl : x ∉ ls2 := fun m => by rw [e4 x m] at hx; cases hx
      have s3 : Same H (upd H' x (.ins T.C_Cache d3 (cf S W z R2))) := fun b y e => by
        rw [upd_ne (ne_of_none e nx)]
        exact e7 b y (s1 b y e)
      refine ⟨_, rfl, q _ x R2 ls2 ⟨⟨d3, upd_same⟩, ?_, e2, ?_, c.sets, ?_, e3⟩ s3 (fun l m => s1.free (e4 l m)) (s1.free nR2) nx⟩
      · rw [upd_ne xR.symm]
        exact e6
      · rw [e1]
        exact c.len
      · intro j l r hl hr
        rw [upd_ne (fun (z : l = x) => xl (z ▸ List.mem_of_getElem? hl))]
        exact e5 j l r hl hr
end

/-! ### the law's own defs -/
theorem at_any {xs : List V} {v : Int} {n : Nat} (h0 : 0 ≤ v) (h1 : v < n) (hn : n = xs.length) : ∃ (k : Nat) (y : V), v = (k : Int) ∧ xs[k]? = some y ∧ y ∈ xs := by
  have hk : v.toNat < xs.length := by omega
  exact ⟨v.toNat, xs[v.toNat], by omega, List.getElem?_eq_getElem hk, List.getElem_mem hk⟩
theorem rev_at {us : List Int} {k : Nat} (h : k < us.length) : us.reverse[k]? = us[us.length - 1 - k]? := List.getElem?_reverse h
section
variable {P : Program} {w : World} {K : PySem.W.Frag} {mg : Str → Option Value} {base : Heap}
def sp__law_address : Sp := fun vs H Q _ => ∃ (p c : Addr) (S z : Int), vs = [.ref p, .int S, .int z] ∧ StOk H p c ∧ 1 ≤ S ∧ S ≤ 64 ∧ 0 < z ∧ z ≤ 16 ∧ ∀ (v : Int) (H' : Hp), StOk H' p c → Keep p H H' → Q (.int v) H'
theorem ok__law_address (T : Top K mg) : FnOk P w K mg base CX0 2 T.a__law_address T.d__law_address ["_law_state", "_law_sets", "_law_size"]  sp__law_address := by
  refine T.F__law_address.ok sc__law_address (fun vs H Q E h => ?_) (fun cdv A outer s H vs Q E hr h => ?_)
  · obtain ⟨_, _, _, _, rfl, _⟩ := h
    rfl
  · obtain ⟨p, c, S, z, rfl, st, s1, s2, z0, z1, q⟩ := h
    refine ⟨_, (pss_cons (ps_set (i := 3) sc__law_address.nd rfl (by first | exact Or.inl rfl | exact Or.inr rfl) (pe_call (ok__law_draw T) (hr.mono (by decide)) (by rfl) T.g__law_draw T.F__law_draw.kp T.b__law_draw .nil pass0 (pa_cons (pv 0) (pa_cons pe_int pa_nil))))
  (pss_cons (ps_if (pt_cmpR op_eq (pv 3) pe_int (nomark _))
  (pss_one (ps_ret (pe_call (ok__law_draw T) (hr.mono (by decide)) (by rfl) T.g__law_draw T.F__law_draw.kp T.b__law_draw .nil pass0 (pa_cons (pv 0) (pa_cons pe_int pa_nil)))))
  pss_nil)
  (pss_cons (ps_if (pt_cmpR op_eq (pv 3) pe_int (nomark _))
  (pss_one (ps_ret (pe_call (ok__law_draw T) (hr.mono (by decide)) (by rfl) T.g__law_draw T.F__law_draw.kp T.b__law_draw .nil pass0 (pa_cons (pv 0) (pa_cons (pe_op op_mul pe_int (pv 2)) pa_nil)))))
  pss_nil)
  (pss_one (ps_ret (pe_callB (call_min2 rfl) (by rfl) T.m_min (by decide +kernel) (pa_cons pe_int (pa_cons (pe_op op_add (pe_op op_mul (pe_op op_mul (pe_call (ok__law_draw T) (hr.mono (by decide)) (by rfl) T.g__law_draw T.F__law_draw.kp T.b__law_draw .nil pass0 (pa_cons (pv 0) (pa_cons pe_int pa_nil))) (pv 1)) (pv 2)) (pe_call (ok__law_draw T) (hr.mono (by decide)) (by rfl) T.g__law_draw T.F__law_draw.kp T.b__law_draw .nil pass0 (pa_cons (pv 0) (pa_cons (pv 2) pa_nil)))) pa_nil)))))))), ?_⟩
    refine ⟨_, rfl, p, c, 4, rfl, st, by decide, by decide, fun v H1 v0 v1 st1 k1 => ?_⟩
    refine ⟨_, rfl, rfl, _, rfl, ite2 (fun c1 => ?_) (fun c1 => ?_)⟩
    · exact ⟨_, rfl, p, c, 16384, rfl, st1, by decide, by decide, fun u H2 _ _ st2 k2 => q u H2 st2 (k1.trans k2)⟩
    refine ⟨_, rfl, rfl, _, rfl, ite2 (fun c2 => ?_) (fun c2 => ?_)⟩
    · exact ⟨_, rfl, _, rfl, _, _, rfl, rfl, .inl ⟨by decide, by decide⟩, p, c, 6 * z, rfl, st1, by omega, by omega, fun u H2 _ _ st2 k2 => q u H2 st2 (k1.trans k2)⟩
    · refine ⟨_, rfl, p, c, 7, rfl, st1, by decide, by decide, fun u H2 u0 u1 st2 k2 => ?_⟩
      have b1 : 0 ≤ u * S := Int.mul_nonneg u0 (by omega)
      have b2 : u * S ≤ 6 * 64 := Int.mul_le_mul (by omega) s2 (by omega) (by decide)
      refine ⟨_, rfl, _, _, rfl, rfl, .inl ⟨by omega, by omega⟩, _, rfl, _, _, rfl, rfl, .inl ⟨by omega, by omega⟩, ?_⟩
      refine ⟨_, rfl, _, rfl, p, c, z, rfl, st2, z0, by omega, fun y H3 _ _ st3 k3 => ?_⟩
      exact ⟨_, _, rfl, rfl, _, _, rfl, q _ H3 st3 (k1.trans (k2.trans k3))⟩
def sp__law_row : Sp := fun vs H Q _ => ∃ (u : Addr) (us : List Int) (x S W : Int), vs = [.ref u, .int x, .int S, .int W] ∧ H u = some (.lst (us.map V.int)) ∧ us.length ≤ 100 ∧ 0 < S ∧ 0 ≤ W ∧
  ∀ (r : Addr), H r = none → Q (.ref r) (upd H r (.lst ((rowOf us S (x % S) W.toNat).map V.int)))
theorem int_eqd {a b : Int} : decide (V.int a = V.int b) = decide (a = b) := by
  by_cases h : a = b
  · rw [h, decide_eq_true rfl, decide_eq_true rfl]
  · rw [decide_eq_false h, decide_eq_false (fun q => h (V.int.inj q))]
/-- the test of the two loops -/
def cnd (S s W x : Int) (acc : List Int) : Bool := decide (V.int (x % S) = V.int s) && ((!inV (.int x) (acc.map V.int)) && decide (((acc.map V.int).length : Int) < W))
theorem cnd_step {us : List Int} {S s W x : Int} {k : Nat} (hW : 0 ≤ W) (hk : us.reverse[k]? = some x) :
    (full (inSet S s) (us.reverse.take (k + 1))).take W.toNat = if cnd S s W x ((full (inSet S s) (us.reverse.take k)).take W.toNat) = true then (full (inSet S s) (us.reverse.take k)).take W.toNat ++ [x] else (full (inSet S s) (us.reverse.take k)).take W.toNat := by
  rw [List.take_add_one, hk]
  show List.take W.toNat (full (inSet S s) (us.reverse.take k ++ [x])) = _
  rw [take_app]
  unfold cnd
  rw [inV_int, List.length_map, int_eqd]
  have e : ((decide (x % S = s) && ((!decide (x ∈ (full (inSet S s) (us.reverse.take k)).take W.toNat)) && decide ((((full (inSet S s) (us.reverse.take k)).take W.toNat).length : Int) < W))) = true) ↔
      (inSet S s x = true ∧ x ∉ (full (inSet S s) (us.reverse.take k)).take W.toNat ∧ ((full (inSet S s) (us.reverse.take k)).take W.toNat).length < W.toNat) := by
    simp only [inSet, Bool.and_eq_true, decide_eq_true_eq, Bool.not_eq_true', decide_eq_false_iff_not]
    constructor
    · rintro ⟨a, b, c⟩
      exact ⟨a, b, by omega⟩
    · rintro ⟨a, b, c⟩
      exact ⟨a, b, by omega⟩
  by_cases h : inSet S s x = true ∧ x ∉ (full (inSet S s) (us.reverse.take k)).take W.toNat ∧ ((full (inSet S s) (us.reverse.take k)).take W.toNat).length < W.toNat
  · rw [if_pos h, if_pos (e.mpr h)]
  · rw [if_neg h, if_neg (fun z => h (e.mp z))]
theorem ok__law_row (T : Top K mg) : FnOk P w K mg base CX0 1 T.a__law_row T.d__law_row ["_law_uses", "_law_line", "_law_sets", "_law_ways"]  sp__law_row := by
  refine T.F__law_row.ok sc__law_row (fun vs H Q E h => ?_) (fun cdv A outer s H vs Q E hr h => ?_)
  · obtain ⟨_, _, _, _, _, rfl, _⟩ := h
    rfl
  · obtain ⟨u, us, x, S, W, rfl, hu, hl, s0, w0, q⟩ := h
    refine ⟨_, (pss_cons (ps_set (i := 4) sc__law_row.nd rfl (by first | exact Or.inl rfl | exact Or.inr rfl) (pe_lst pa_nil))
  (pss_cons (ps_for PassesOwn.never rfl (pi_range1 (by rfl) T.m_range (pa_cons (pe_callB call_len_seq (by rfl) T.m_len PySem.boot_len (pa_cons (pv 0) pa_nil)) pa_nil)) (pg_name (i := 5) sc__law_row.nd rfl (by first | exact Or.inl rfl | exact Or.inr rfl))
  (pss_cons (ps_set (i := 6) sc__law_row.nd rfl (by first | exact Or.inl rfl | exact Or.inr rfl) (pe_ix ix_list (pv 0) (pe_op op_sub (pe_op op_sub (pe_callB call_len_seq (by rfl) T.m_len PySem.boot_len (pa_cons (pv 0) pa_nil)) pe_int) (pv 5)) (fun _ _ => rfl)))
  (pss_one (ps_if (pw_and (pt_cmpR op_eq (pe_op op_mod (pe_callTy call_int1 (by rfl) T.m_int (by decide +kernel) (pa_cons (pv 6) pa_nil)) (pv 2)) (pe_op op_mod (pe_callTy call_int1 (by rfl) T.m_int (by decide +kernel) (pa_cons (pv 1) pa_nil)) (pv 2)) (nomark _)) (pw_and (pt_cmpR op_notIn_seq (pv 6) (pv 4) (by with_unfolding_all rfl)) (pw_and1 (pt_cmpR op_lt (pe_callB call_len_seq (by rfl) T.m_len PySem.boot_len (pa_cons (pv 4) pa_nil)) (pv 3) (nomark _))))).pt
  (pss_one (ps_expr (pe_bm PySem.F.plainAttrs_list PySem.F.slot_list_append PySem.F.type_list_append mt_append (pv 4) (pa_cons (pv 6) pa_nil))))
  pss_nil))))
  (pss_one (ps_ret (pv 4))))), ?_⟩
    refine ⟨Nat.zero_le _, fun r nr => ?_⟩
    have ur : u ≠ r := ne_of_none hu nr
    have hu' : ∀ o, (upd H r o) u = some (.lst (us.map V.int)) := fun o => by rw [upd_ne ur]; exact hu
    refine ⟨_, rfl, u, _, rfl, .inl (SqL.of (hu' _)), _, rfl, (by rw [List.length_map]; omega), (by rw [List.length_map]; omega), for_range (n := (((us.map V.int).length : Nat) : Int).toNat) (fun i σ H' => ∃ y5 y6, σ = [some (.ref u), some (.int x), some (.int S), some (.int W), some (.ref r), y5, y6] ∧ H' = upd H r (.lst (((full (inSet S (x % S)) (us.reverse.take i)).take W.toNat).map V.int))) ⟨none, none, rfl, by simp [full]⟩ ?_ ?_⟩
    · rintro i σ H' hi ⟨y5, y6, rfl, rfl⟩
      have hi2 : i < us.length := by
        rw [List.length_map] at hi
        omega
      obtain ⟨m, hm⟩ : ∃ m, us[us.length - 1 - i]? = some m := ⟨_, List.getElem?_eq_getElem (by omega)⟩
      have hm2 : us.reverse[i]? = some m := (rev_at hi2).trans hm
      refine ⟨_, rfl, _, rfl, u, _, rfl, .inl (SqL.of (hu' _)), _, _, rfl, rfl, _, rfl, _, _, rfl, rfl, u, _, _, .int m, rfl, rfl, SqL.of (hu' _), at_of (j := us.length - 1 - i) (by rw [List.length_map]; omega) (by rw [List.getElem?_map, hm]; rfl), ?_⟩
      have st := cnd_step (S := S) (s := x % S) (us := us) w0 hm2
      dsimp only [gName]
      refine if_and (a := decide (V.int (m % S) = V.int (x % S))) (b := (!inV (.int m) (((full (inSet S (x % S)) (us.reverse.take i)).take W.toNat).map V.int)) && decide (((((full (inSet S (x % S)) (us.reverse.take i)).take W.toNat).map V.int).length : Int) < W))
        (fun Q' q' => ⟨_, rfl, .inl ⟨_, rfl, _, rfl, _, _, rfl, rfl, s0, _, rfl, .inl ⟨_, rfl, _, rfl, _, _, rfl, rfl, s0, rfl, _, rfl, q'⟩⟩⟩)
        (fun _ Q' q' => and_test (fun Q2 q2 => ⟨_, rfl, _, rfl, r, _, rfl, .inl (SqL.of upd_same), rfl, flat_ints _, _, rfl, q2⟩) (fun _ Q2 q2 => ⟨_, rfl, r, _, rfl, .inl (SqL.of upd_same), _, rfl, _, _, rfl, rfl, _, rfl, q2⟩) q') ?_
      show if cnd S (x % S) W m ((full (inSet S (x % S)) (us.reverse.take i)).take W.toNat) = true then _ else _
      refine ite2 (fun c1 => ?_) (fun c1 => ?_)
      · rw [if_pos c1] at st
        refine ⟨_, rfl, .inl ⟨rfl, _, SqL.of upd_same⟩, _, rfl, r, _, _, rfl, rfl, upd_same, ?_, ?_⟩
        · rw [List.length_map]
          have h1 := full_len (inSet S (x % S)) (us.reverse.take i)
          have h2 := List.length_take_le i us.reverse
          have h3 : ((full (inSet S (x % S)) (us.reverse.take i)).take W.toNat).length ≤ (full (inSet S (x % S)) (us.reverse.take i)).length := List.length_take_le' ..
          exact small1000 (by omega)
        · refine ⟨_, _, rfl, ?_⟩
          rw [st, upd_upd, List.map_append]
          rfl
      · rw [if_neg c1] at st
        exact ⟨_, _, rfl, by rw [st]⟩
    · rintro σ H' ⟨y5, y6, rfl, rfl⟩
      refine ⟨_, rfl, ?_⟩
      have e : us.reverse.take (((us.map V.int).length : Nat) : Int).toNat = us.reverse := List.take_of_length_le (by rw [List.length_map, List.length_reverse]; omega)
      rw [e]
      exact q r nr
def sp__law_told : Sp := fun vs H Q _ => ∃ b : Bool, vs = [.bl b, .bl b] ∧ Q (.bl true) H
theorem ok__law_told (T : Top K mg) : FnOk P w K mg base CX0 1 T.a__law_told T.d__law_told ["_law_told_here", "_law_due"]  sp__law_told := by
  refine T.F__law_told.ok sc__law_told (fun vs H Q E h => ?_) (fun cdv A outer s H vs Q E hr h => ?_)
  · obtain ⟨_, rfl, _⟩ := h
    rfl
  · obtain ⟨b, rfl, q⟩ := h
    refine ⟨_, (pss_one (ps_ret (pe_and (pe_callB call_isi (by rfl) T.m_isinstance (by decide +kernel) (pa_cons (pv 0) (pa_cons (pe_ty (T := "bool") (by rfl) T.m_bool (by decide +kernel)) pa_nil))) (pe_one (pe_cmpR op_eq (pv 0) (pv 1) (nomark _)))))), ?_⟩
    refine ⟨_, rfl, _, _, _, _, true, rfl, .ty _, .base (.bl _), kit_ty (by decide +kernel), true, rfl, ?_⟩
    refine ⟨_, rfl, _, rfl, rfl, ?_⟩
    rw [decide_eq_true rfl]
    exact q
end

section
variable {P : Program} {w : World} {K : PySem.W.Frag} {mg : Str → Option Value} {base : Heap}
def sp__law_contents : Sp := fun vs H Q _ => ∃ (u : Addr) (us : List Int) (S W : Int), vs = [.ref u, .int S, .int W] ∧ H u = some (.lst (us.map V.int)) ∧ us.length ≤ 100 ∧ 0 < S ∧ S ≤ 64 ∧ 0 ≤ W ∧
  ∀ (H' : Hp) (b : Addr) (lb : List Addr), Same H H' → H b = none → (∀ l ∈ lb, H l = none) → lb.length = S.toNat → H' b = some (.lst (lb.map V.ref)) → (∀ (j : Nat) (l : Addr), lb[j]? = some l → H' l = some (.lst ((rowOf us S j W.toNat).map V.int))) → Q (.ref b) H'
theorem ok__law_contents (T : Top K mg) : FnOk P w K mg base CX0 1 T.a__law_contents T.d__law_contents ["_law_uses", "_law_sets", "_law_ways"]  sp__law_contents := by
  refine T.F__law_contents.ok sc__law_contents (fun vs H Q E h => ?_) (fun cdv A outer s H vs Q E hr h => ?_)
  · obtain ⟨_, _, _, _, rfl, _⟩ := h
    rfl
  · obtain ⟨u, us, S, W, rfl, hu, hl, s0, s1, w0, q⟩ := h
    refine ⟨_, (pss_cons (ps_set (i := 3) sc__law_contents.nd rfl (by first | exact Or.inl rfl | exact Or.inr rfl) (pe_lst pa_nil))
  (pss_cons (ps_for PassesOwn.never rfl (pi_range1 (by rfl) T.m_range (pa_cons (pv 1) pa_nil)) (pg_name (i := 4) sc__law_contents.nd rfl (by first | exact Or.inl rfl | exact Or.inr rfl))
  (pss_cons (ps_set (i := 5) sc__law_contents.nd rfl (by first | exact Or.inl rfl | exact Or.inr rfl) (pe_lst pa_nil))
  (pss_cons (ps_for PassesOwn.never rfl (pi_range1 (by rfl) T.m_range (pa_cons (pe_callB call_len_seq (by rfl) T.m_len PySem.boot_len (pa_cons (pv 0) pa_nil)) pa_nil)) (pg_name (i := 6) sc__law_contents.nd rfl (by first | exact Or.inl rfl | exact Or.inr rfl))
  (pss_cons (ps_set (i := 7) sc__law_contents.nd rfl (by first | exact Or.inl rfl | exact Or.inr rfl) (pe_ix ix_list (pv 0) (pe_op op_sub (pe_op op_sub (pe_callB call_len_seq (by rfl) T.m_len PySem.boot_len (pa_cons (pv 0) pa_nil)) pe_int) (pv 6)) (fun _ _ => rfl)))
  (pss_one (ps_if (pw_and (pt_cmpR op_eq (pe_op op_mod (pe_callTy call_int1 (by rfl) T.m_int (by decide +kernel) (pa_cons (pv 7) pa_nil)) (pv 1)) (pv 4) (nomark _)) (pw_and (pt_cmpR op_notIn_seq (pv 7) (pv 5) (by with_unfolding_all rfl)) (pw_and1 (pt_cmpR op_lt (pe_callB call_len_seq (by rfl) T.m_len PySem.boot_len (pa_cons (pv 5) pa_nil)) (pv 2) (nomark _))))).pt
  (pss_one (ps_expr (pe_bm PySem.F.plainAttrs_list PySem.F.slot_list_append PySem.F.type_list_append mt_append (pv 5) (pa_cons (pv 7) pa_nil))))
  pss_nil))))
  (pss_one (ps_expr (pe_bm PySem.F.plainAttrs_list PySem.F.slot_list_append PySem.F.type_list_append mt_append (pv 3) (pa_cons (pv 5) pa_nil)))))))
  (pss_one (ps_ret (pv 3))))), ?_⟩
    refine ⟨Nat.zero_le _, fun b nb => ?_⟩
    refine ⟨_, rfl, S, rfl, (by omega), (by omega), for_range (n := S.toNat) (fun i σ H' => ∃ y4 y5 y6 y7, σ = [some (.ref u), some (.int S), some (.int W), some (.ref b), y4, y5, y6, y7] ∧ ∃ lb : List Addr, lb.length = i ∧ b ∉ lb ∧ (∀ l ∈ lb, H l = none) ∧ (∀ (j : Nat) (l : Addr), lb[j]? = some l → H' l = some (.lst ((rowOf us S j W.toNat).map V.int))) ∧ H' b = some (.lst (lb.map V.ref)) ∧ Same H H')
      ⟨none, none, none, none, rfl, [], rfl, by simp, by simp, by simp, upd_same, same_new nb⟩ ?_ ?_⟩
    · rintro i σ H' hi ⟨y4, y5, y6, y7, rfl, lb, e1, e2, e3, e4, e5, e6⟩
      refine ⟨Nat.zero_le _, fun r nr => ?_⟩
      have hu1 := e6 u _ hu
      have ur : u ≠ r := ne_of_none hu1 nr
      have hu' : ∀ o, (upd H' r o) u = some (.lst (us.map V.int)) := fun o => by rw [upd_ne ur]; exact hu1
      refine ⟨_, rfl, u, _, rfl, .inl (SqL.of (hu' _)), _, rfl, (by rw [List.length_map]; omega), (by rw [List.length_map]; omega), for_range (n := (((us.map V.int).length : Nat) : Int).toNat) (fun k σ H'' => ∃ y6 y7, σ = [some (.ref u), some (.int S), some (.int W), some (.ref b), some (.int (0 + (i : Int))), some (.ref r), y6, y7] ∧ H'' = upd H' r (.lst (((full (inSet S (i : Int)) (us.reverse.take k)).take W.toNat).map V.int))) ⟨y6, y7, rfl, by simp [full]⟩ ?_ ?_⟩
      · rintro k σ H'' hk ⟨z6, z7, rfl, rfl⟩
        have hi2 : k < us.length := by
          rw [List.length_map] at hk
          omega
        obtain ⟨m, hm⟩ : ∃ m, us[us.length - 1 - k]? = some m := ⟨_, List.getElem?_eq_getElem (by omega)⟩
        have hm2 : us.reverse[k]? = some m := (rev_at hi2).trans hm
        refine ⟨_, rfl, _, rfl, u, _, rfl, .inl (SqL.of (hu' _)), _, _, rfl, rfl, _, rfl, _, _, rfl, rfl, u, _, _, .int m, rfl, rfl, SqL.of (hu' _), at_of (j := us.length - 1 - k) (by rw [List.length_map]; omega) (by rw [List.getElem?_map, hm]; rfl), ?_⟩
        have st := cnd_step (S := S) (s := (i : Int)) (us := us) w0 hm2
        have ei : (0 : Int) + (i : Int) = i := by omega
        dsimp only [gName]
        refine if_and (a := decide (V.int (m % S) = V.int (0 + (i : Int)))) (b := (!inV (.int m) (((full (inSet S (i : Int)) (us.reverse.take k)).take W.toNat).map V.int)) && decide (((((full (inSet S (i : Int)) (us.reverse.take k)).take W.toNat).map V.int).length : Int) < W))
          (fun Q' q' => ⟨_, rfl, .inl ⟨_, rfl, _, rfl, _, _, rfl, rfl, s0, _, rfl, rfl, _, rfl, q'⟩⟩)
          (fun _ Q' q' => and_test (fun Q2 q2 => ⟨_, rfl, _, rfl, r, _, rfl, .inl (SqL.of upd_same), rfl, flat_ints _, _, rfl, q2⟩) (fun _ Q2 q2 => ⟨_, rfl, r, _, rfl, .inl (SqL.of upd_same), _, rfl, _, _, rfl, rfl, _, rfl, q2⟩) q') ?_
        rw [ei]
        show if cnd S (i : Int) W m ((full (inSet S (i : Int)) (us.reverse.take k)).take W.toNat) = true then _ else _
        refine ite2 (fun c1 => ?_) (fun c1 => ?_)
        · rw [if_pos c1] at st
          refine ⟨_, rfl, .inl ⟨rfl, _, SqL.of upd_same⟩, _, rfl, r, _, _, rfl, rfl, upd_same, ?_, ?_⟩
          · rw [List.length_map]
            have h1 := full_len (inSet S (i : Int)) (us.reverse.take k)
            have h2 := List.length_take_le k us.reverse
            have h3 : ((full (inSet S (i : Int)) (us.reverse.take k)).take W.toNat).length ≤ (full (inSet S (i : Int)) (us.reverse.take k)).length := List.length_take_le' ..
            exact small1000 (by omega)
          · refine ⟨_, _, rfl, ?_⟩
            rw [st, upd_upd, List.map_append]
            rfl
        · rw [if_neg c1] at st
          exact ⟨_, _, rfl, by rw [st]⟩
      · rintro σ H'' ⟨z6, z7, rfl, rfl⟩
        have e : us.reverse.take (((us.map V.int).length : Nat) : Int).toNat = us.reverse := List.take_of_length_le (by rw [List.length_map, List.length_reverse]; omega)
        rw [e]
        have br : b ≠ r := ne_of_none e5 nr
        refine ⟨_, rfl, .inl ⟨rfl, _, SqL.of (by rw [upd_ne br]; exact e5)⟩, _, rfl, b, _, _, rfl, rfl, (by rw [upd_ne br]; exact e5), ?_, ?_⟩
        · rw [List.length_map, e1]
          exact small1000 (by omega)
        · have rl : r ∉ lb := fun m => by
            obtain ⟨j, hj⟩ := List.getElem?_of_mem m
            rw [e4 j r hj] at nr
            cases nr
          refine ⟨_, _, _, _, rfl, lb ++ [r], ?_, ?_, ?_, ?_, ?_, ?_⟩
          · rw [List.length_append, e1]
            rfl
          · intro m
            rcases List.mem_append.mp m with m | m
            · exact e2 m
            · exact br (List.mem_singleton.mp m)
          · intro l m
            rcases List.mem_append.mp m with m | m
            · exact e3 l m
            · rw [List.mem_singleton.mp m]
              exact e6.free nr
          · intro j l hl
            have m := List.mem_of_getElem? hl
            have lb2 : l ≠ b := fun z => by
              subst z
              rcases List.mem_append.mp m with m | m
              · exact e2 m
              · exact br (List.mem_singleton.mp m)
            rw [upd_ne lb2]
            rw [List.getElem?_append] at hl
            split at hl
            · rw [upd_ne (fun (z : l = r) => rl (z ▸ List.mem_of_getElem? hl))]
              exact e4 j l hl
            · have q2 := List.mem_singleton.mp (List.mem_of_getElem? hl)
              have := (List.getElem?_eq_some_iff.mp hl).1
              simp at this
              have ej : j = i := by omega
              subst ej
              rw [q2]
              exact upd_same
          · rw [upd_same, List.map_append]
            rfl
          · intro x o e
            have hx := e6 x o e
            rw [upd_ne (ne_of_none e nb), upd_ne (ne_of_none hx nr)]
            exact hx
    · rintro σ H' ⟨y4, y5, y6, y7, rfl, lb, e1, e2, e3, e4, e5, e6⟩
      exact ⟨_, rfl, q H' b lb e6 nb e3 e1 e5 e4⟩
/-- rows stand at a -/
def RowsAt (H : Hp) (a : Addr) (la : List Addr) (rows : List (List Int)) : Prop := H a = some (.lst (la.map V.ref)) ∧ la.length = rows.length ∧ ∀ (j : Nat) (l : Addr) (r : List Int), la[j]? = some l → rows[j]? = some r → H l = some (.lst (r.map V.int))
def sp__law_same : Sp := fun vs H Q _ => ∃ (a b : Addr) (la lb : List Addr) (rows : List (List Int)), vs = [.ref a, .ref b] ∧ RowsAt H a la rows ∧ RowsAt H b lb rows ∧ rows.length ≤ 64 ∧ (∀ r ∈ rows, r.length ≤ 100) ∧ Q (.bl true) H
theorem ne_int {a b : Int} (h : a = b) : (!decide (V.int a = V.int b)) = false := by
  rw [h, decide_eq_true rfl]
  rfl
theorem ok__law_same (T : Top K mg) : FnOk P w K mg base CX0 1 T.a__law_same T.d__law_same ["_law_rows", "_law_expected"]  sp__law_same := by
  refine T.F__law_same.ok sc__law_same (fun vs H Q E h => ?_) (fun cdv A outer s H vs Q E hr h => ?_)
  · obtain ⟨_, _, _, _, _, rfl, _⟩ := h
    rfl
  · obtain ⟨a, b, la, lb, rows, rfl, ⟨ha, la1, la2⟩, ⟨hb, lb1, lb2⟩, hl, hr4, q⟩ := h
    refine ⟨_, (pss_cons (ps_if (pw_or (pt_not (pt_val (pe_callB call_isi (by rfl) T.m_isinstance (by decide +kernel) (pa_cons (pv 0) (pa_cons (pe_ty (T := "list") (by rfl) T.m_list (by decide +kernel)) pa_nil))))) (pw_or1 (pt_cmpR op_ne (pe_callB call_len_seq (by rfl) T.m_len PySem.boot_len (pa_cons (pv 0) pa_nil)) (pe_callB call_len_seq (by rfl) T.m_len PySem.boot_len (pa_cons (pv 1) pa_nil)) (nomark _)))).pt
  (pss_one (ps_ret pe_bl))
  pss_nil)
  (pss_cons (ps_for PassesOwn.never rfl (pi_range1 (by rfl) T.m_range (pa_cons (pe_callB call_len_seq (by rfl) T.m_len PySem.boot_len (pa_cons (pv 0) pa_nil)) pa_nil)) (pg_name (i := 2) sc__law_same.nd rfl (by first | exact Or.inl rfl | exact Or.inr rfl))
  (pss_cons (ps_if (pw_or (pt_not (pt_val (pe_callB call_isi (by rfl) T.m_isinstance (by decide +kernel) (pa_cons (pe_ix ix_list (pv 0) (pv 2) (fun _ _ => rfl)) (pa_cons (pe_ty (T := "list") (by rfl) T.m_list (by decide +kernel)) pa_nil))))) (pw_or1 (pt_cmpR op_ne (pe_callB call_len_seq (by rfl) T.m_len PySem.boot_len (pa_cons (pe_ix ix_list (pv 0) (pv 2) (fun _ _ => rfl)) pa_nil)) (pe_callB call_len_seq (by rfl) T.m_len PySem.boot_len (pa_cons (pe_ix ix_list (pv 1) (pv 2) (fun _ _ => rfl)) pa_nil)) (nomark _)))).pt
  (pss_one (ps_ret pe_bl))
  pss_nil)
  (pss_one (ps_for PassesOwn.never rfl (pi_range1 (by rfl) T.m_range (pa_cons (pe_callB call_len_seq (by rfl) T.m_len PySem.boot_len (pa_cons (pe_ix ix_list (pv 0) (pv 2) (fun _ _ => rfl)) pa_nil)) pa_nil)) (pg_name (i := 3) sc__law_same.nd rfl (by first | exact Or.inl rfl | exact Or.inr rfl))
  (pss_one (ps_if (pw_or (pt_val (pe_callB call_isi (by rfl) T.m_isinstance (by decide +kernel) (pa_cons (pe_ix ix_list (pe_ix ix_list (pv 0) (pv 2) (fun _ _ => rfl)) (pv 3) (fun _ _ => rfl)) (pa_cons (pe_ty (T := "bool") (by rfl) T.m_bool (by decide +kernel)) pa_nil)))) (pw_or1 (pt_cmpR op_ne (pe_ix ix_list (pe_ix ix_list (pv 0) (pv 2) (fun _ _ => rfl)) (pv 3) (fun _ _ => rfl)) (pe_ix ix_list (pe_ix ix_list (pv 1) (pv 2) (fun _ _ => rfl)) (pv 3) (fun _ _ => rfl)) (nomark _)))).pt
  (pss_one (ps_ret pe_bl))
  pss_nil))))))
  (pss_one (ps_ret pe_bl)))), ?_⟩
    refine if_or (a := false) (b := _) (fun Q' q' => ⟨_, rfl, _, _, _, _, true, rfl, .ty _, .base (.lst ha), kit_ty (by decide +kernel), true, rfl, q'⟩) (fun _ Q' q' => ⟨_, rfl, a, _, rfl, .inl (SqL.of ha), _, rfl, b, _, rfl, .inl (SqL.of hb), rfl, _, rfl, q'⟩) (if_f ?_ ?_)
    · rw [Bool.false_or]
      exact ne_int (by rw [List.length_map, List.length_map, la1, lb1])
    refine ⟨_, rfl, a, _, rfl, .inl (SqL.of ha), _, rfl, (by rw [List.length_map]; omega), (by rw [List.length_map]; omega), for_range (n := (((la.map V.ref).length : Nat) : Int).toNat) (fun i σ H' => ∃ y2 y3, σ = [some (.ref a), some (.ref b), y2, y3] ∧ H' = H) ⟨none, none, rfl, rfl⟩ ?_ ?_⟩
    · rintro i σ H' hi ⟨y2, y3, rfl, rfl⟩
      rw [List.length_map] at hi
      have hi2 : i < rows.length := by omega
      have hrow : rows[i]? = some rows[i] := List.getElem?_eq_getElem hi2
      obtain ⟨l, hl1⟩ : ∃ l, la[i]? = some l := ⟨_, List.getElem?_eq_getElem (by omega)⟩
      obtain ⟨m, hm1⟩ : ∃ m, lb[i]? = some m := ⟨_, List.getElem?_eq_getElem (by omega)⟩
      have hL := la2 i l _ hl1 hrow
      have hM := lb2 i m _ hm1 hrow
      have hlen := hr4 _ (List.mem_of_getElem? hrow)
      have at1 : atI (la.map V.ref) (0 + (i : Int)) = some (.ref l) := at_of (j := i) (by omega) (by rw [List.getElem?_map, hl1]; rfl)
      have at2 : atI (lb.map V.ref) (0 + (i : Int)) = some (.ref m) := at_of (j := i) (by omega) (by rw [List.getElem?_map, hm1]; rfl)
      dsimp only [gName]
      refine if_or (a := false) (b := _) (fun Q' q' => ⟨_, rfl, _, rfl, a, _, _, .ref l, rfl, rfl, SqL.of ha, at1, _, _, _, _, true, rfl, .ty _, .base (.lst hL), kit_ty (by decide +kernel), true, rfl, q'⟩)
        (fun _ Q' q' => ⟨_, rfl, _, rfl, a, _, _, .ref l, rfl, rfl, SqL.of ha, at1, l, _, rfl, .inl (SqL.of hL), _, rfl, _, rfl, b, _, _, .ref m, rfl, rfl, SqL.of hb, at2, m, _, rfl, .inl (SqL.of hM), rfl, _, rfl, q'⟩) (if_f ?_ ?_)
      · rw [Bool.false_or]
        exact ne_int rfl
      refine ⟨_, rfl, _, rfl, a, _, _, .ref l, rfl, rfl, SqL.of ha, at1, l, _, rfl, .inl (SqL.of hL), _, rfl, (by rw [List.length_map]; omega), (by rw [List.length_map]; omega), for_range (n := (((rows[i].map V.int).length : Nat) : Int).toNat) (fun k σ H'' => ∃ y3, σ = [some (.ref a), some (.ref b), some (.int (0 + (i : Int))), y3] ∧ H'' = H') ⟨y3, rfl, rfl⟩ ?_ ?_⟩
      · rintro k σ H'' hk ⟨y3, rfl, rfl⟩
        rw [List.length_map] at hk
        have at3 : atI (rows[i].map V.int) (0 + (k : Int)) = some (.int (rows[i][k]'(by omega))) := at_of (j := k) (by omega) (by rw [List.getElem?_map, List.getElem?_eq_getElem (by omega)]; rfl)
        dsimp only [gName]
        refine if_or (a := false) (b := _) (fun Q' q' => ⟨_, rfl, _, rfl, a, _, _, .ref l, rfl, rfl, SqL.of ha, at1, _, rfl, l, _, _, _, rfl, rfl, SqL.of hL, at3, _, _, _, _, false, rfl, .ty _, .base (.int _), kit_ty (by decide +kernel), false, rfl, q'⟩)
          (fun _ Q' q' => ⟨_, rfl, _, rfl, a, _, _, .ref l, rfl, rfl, SqL.of ha, at1, _, rfl, l, _, _, _, rfl, rfl, SqL.of hL, at3, _, rfl, _, rfl, b, _, _, .ref m, rfl, rfl, SqL.of hb, at2, _, rfl, m, _, _, _, rfl, rfl, SqL.of hM, at3, rfl, _, rfl, q'⟩) (if_f ?_ ?_)
        · rw [Bool.false_or]
          exact ne_int rfl
        · exact ⟨_, rfl, rfl⟩
      · rintro σ H'' ⟨y3, rfl, rfl⟩
        exact ⟨_, _, rfl, rfl⟩
    · rintro σ H' ⟨y2, y3, rfl, rfl⟩
      exact q
end

/-! ### the law -/
/-- the places that the loop writes to -/
def Wr (p u q : Addr) (ls : List Addr) (b : Addr) : Prop := b = p ∨ b = u ∨ b = q ∨ b ∈ ls
/-- the places keep apart -/
structure Disj (p c o R : Addr) (ls : List Addr) (u q : Addr) : Prop where
  cW : ¬ Wr p u q ls c
  oW : ¬ Wr p u q ls o
  RW : ¬ Wr p u q ls R
  pl : p ∉ ls
  ul : u ∉ ls
  ql : q ∉ ls
  pu : p ≠ u
  pq : p ≠ q
  uq : u ≠ q
def KeepW (p u q : Addr) (ls : List Addr) (H H' : Hp) : Prop := ∀ b x, ¬ Wr p u q ls b → H b = some x → H' b = some x
/-- a pair of a copy and the contents of its moment -/
def CopyOk (C p u q : Addr) (ls : List Addr) (S W z : Int) (H : Hp) (t : Addr) : Prop := ∃ (o2 R2 : Addr) (ls2 : List Addr) (b : Addr) (lb : List Addr) (us : List Int), H t = some (.tup [.ref o2, .ref b]) ∧ CacheAt C H o2 R2 ls2 S W z (rowsOf us S.toNat W.toNat) ∧ RowsAt H b lb (rowsOf us S.toNat W.toNat) ∧
  ¬ Wr p u q ls t ∧ ¬ Wr p u q ls o2 ∧ ¬ Wr p u q ls R2 ∧ (∀ l ∈ ls2, ¬ Wr p u q ls l) ∧ ¬ Wr p u q ls b ∧ ∀ l ∈ lb, ¬ Wr p u q ls l
theorem CopyOk.keep {C p u q : Addr} {ls : List Addr} {S W z : Int} {H H' : Hp} {t : Addr} (k : KeepW p u q ls H H') (h : CopyOk C p u q ls S W z H t) : CopyOk C p u q ls S W z H' t := by
  obtain ⟨o2, R2, ls2, b, lb, us, h1, ⟨⟨dx, c1⟩, c2, c3, c4, c5, c6, c7⟩, ⟨r1, r2, r3⟩, n1, n2, n3, n4, n5, n6⟩ := h
  exact ⟨o2, R2, ls2, b, lb, us, k _ _ n1 h1, ⟨⟨dx, k _ _ n2 c1⟩, k _ _ n3 c2, c3, c4, c5, fun i l r hl hr => k _ _ (n4 l (List.mem_of_getElem? hl)) (c6 i l r hl hr), c7⟩,
    ⟨k _ _ n5 r1, r2, fun i l r hl hr => k _ _ (n6 l (List.mem_of_getElem? hl)) (r3 i l r hl hr)⟩, n1, n2, n3, n4, n5, n6⟩
structure LInv (C p c o R : Addr) (ls : List Addr) (u q : Addr) (S W z : Int) (H : Hp) (us us2 : List Int) (ts : List Addr) : Prop where
  st : StOk H p c
  ca : CacheAt C H o R ls S W z (rowsOf us S.toNat W.toNat)
  ul : H u = some (.lst (us2.map V.int))
  ql : H q = some (.lst (ts.map V.ref))
  cp : ∀ t ∈ ts, CopyOk C p u q ls S W z H t
section
variable {C p c o R : Addr} {ls : List Addr} {u q : Addr} {S W z : Int} {H H' : Hp} {us us2 : List Int} {ts : List Addr}
/-- a place that is free is none of the written ones -/
theorem LInv.free (i : LInv C p c o R ls u q S W z H us us2 ts) {l : Addr} (h : H l = none) : ¬ Wr p u q ls l := by
  rintro (rfl | rfl | rfl | m)
  · exact (i.st.ne h).1 rfl
  · rw [i.ul] at h
    cases h
  · rw [i.ql] at h
    cases h
  · obtain ⟨j, hj⟩ := List.getElem?_of_mem m
    have hjl := (List.getElem?_eq_some_iff.mp hj).1
    rw [i.ca.row j l _ hj (List.getElem?_eq_getElem (by rw [← i.ca.len]; exact hjl))] at h
    cases h
theorem LInv.keepP (d : Disj p c o R ls u q) (i : LInv C p c o R ls u q S W z H us us2 ts) (k : Keep p H H') (s : StOk H' p c) : LInv C p c o R ls u q S W z H' us us2 ts := by
  obtain ⟨⟨dx, c1⟩, c2, c3, c4, c5, c6, c7⟩ := i.ca
  refine ⟨s, ⟨⟨dx, k _ _ (fun e => d.oW (.inl e)) c1⟩, k _ _ (fun e => d.RW (.inl e)) c2, c3, c4, c5, fun j l r hl hr => k _ _ (fun e => d.pl (e ▸ List.mem_of_getElem? hl)) (c6 j l r hl hr), c7⟩, k _ _ d.pu.symm i.ul, k _ _ d.pq.symm i.ql, fun t m => (i.cp t m).keep fun b x nb e => k b x (fun e2 => nb (.inl e2)) e⟩
theorem LInv.same (i : LInv C p c o R ls u q S W z H us us2 ts) (k : Same H H') : LInv C p c o R ls u q S W z H' us us2 ts := by
  obtain ⟨⟨dx, c1⟩, c2, c3, c4, c5, c6, c7⟩ := i.ca
  exact ⟨i.st.same k, ⟨⟨dx, k _ _ c1⟩, k _ _ c2, c3, c4, c5, fun j l r hl hr => k _ _ (c6 j l r hl hr), c7⟩, k _ _ i.ul, k _ _ i.ql, fun t m => (i.cp t m).keep fun b x _ e => k b x e⟩
theorem StOk.keepN {H H' : Hp} {p c : Addr} (s : StOk H p c) (h1 : ∀ x, H p = some x → H' p = some x) (h2 : ∀ x, H c = some x → H' c = some x) : StOk H' p c := by
  obtain ⟨ms, k, v, sd, a, b, e, r⟩ := s
  exact ⟨ms, k, v, sd, a, h1 _ b, h2 _ e, r⟩
theorem LInv.touch (d : Disj p c o R ls u q) (i : LInv C p c o R ls u q S W z H us us2 ts) (k : Touch ls H H') {us' : List Int} (hc : CacheAt C H' o R ls S W z (rowsOf us' S.toNat W.toNat)) : LInv C p c o R ls u q S W z H' us' us2 ts :=
  ⟨i.st.keepN (fun x e => k _ _ d.pl e) (fun x e => k _ _ (fun m => d.cW (.inr (.inr (.inr m)))) e), hc, k _ _ d.ul i.ul, k _ _ d.ql i.ql, fun t m => (i.cp t m).keep fun b x nb e => k b x (fun m2 => nb (.inr (.inr (.inr m2)))) e⟩
theorem LInv.uses (d : Disj p c o R ls u q) (i : LInv C p c o R ls u q S W z H us us2 ts) (us3 : List Int) : LInv C p c o R ls u q S W z (upd H u (.lst (us3.map V.int))) us us3 ts := by
  have k : ∀ b x, b ≠ u → H b = some x → upd H u (.lst (us3.map V.int)) b = some x := fun b x nb e => by rw [upd_ne nb]; exact e
  obtain ⟨⟨dx, c1⟩, c2, c3, c4, c5, c6, c7⟩ := i.ca
  exact ⟨i.st.keepN (fun x e => k _ _ d.pu e) (fun x e => k _ _ (fun m => d.cW (.inr (.inl m))) e), ⟨⟨dx, k _ _ (fun m => d.oW (.inr (.inl m))) c1⟩, k _ _ (fun m => d.RW (.inr (.inl m))) c2, c3, c4, c5, fun j l r hl hr => k _ _ (fun e => d.ul (e ▸ List.mem_of_getElem? hl)) (c6 j l r hl hr), c7⟩, upd_same, k _ _ d.uq.symm i.ql, fun t m => (i.cp t m).keep fun b x nb e => k b x (fun m2 => nb (.inr (.inl m2))) e⟩
theorem LInv.copies (d : Disj p c o R ls u q) (i : LInv C p c o R ls u q S W z H us us2 ts) {t : Addr} (ht : CopyOk C p u q ls S W z H t) : LInv C p c o R ls u q S W z (upd H q (.lst ((ts ++ [t]).map V.ref))) us us2 (ts ++ [t]) := by
  have k : ∀ b x, b ≠ q → H b = some x → upd H q (.lst ((ts ++ [t]).map V.ref)) b = some x := fun b x nb e => by rw [upd_ne nb]; exact e
  have kw : KeepW p u q ls H (upd H q (.lst ((ts ++ [t]).map V.ref))) := fun b x nb e => k b x (fun m2 => nb (.inr (.inr (.inl m2)))) e
  obtain ⟨⟨dx, c1⟩, c2, c3, c4, c5, c6, c7⟩ := i.ca
  refine ⟨i.st.keepN (fun x e => k _ _ d.pq e) (fun x e => k _ _ (fun m => d.cW (.inr (.inr (.inl m)))) e), ⟨⟨dx, k _ _ (fun m => d.oW (.inr (.inr (.inl m)))) c1⟩, k _ _ (fun m => d.RW (.inr (.inr (.inl m)))) c2, c3, c4, c5, fun j l r hl hr => k _ _ (fun e => d.ql (e ▸ List.mem_of_getElem? hl)) (c6 j l r hl hr), c7⟩, k _ _ d.uq i.ul, upd_same, fun s m => ?_⟩
  rcases List.mem_append.mp m with m | m
  · exact (i.cp s m).keep kw
  · rw [List.mem_singleton.mp m]
    exact ht.keep kw
end
theorem used_rows {us : List Int} {S W x : Int} (ok1 : 1 ≤ S) (ok2 : 1 ≤ W) : usedRows (rowsOf us S.toNat W.toNat) S W x = rowsOf (us ++ [x]) S.toNat W.toNat := by
  have m0 := Int.emod_nonneg x (show S ≠ 0 by omega)
  have m1 := Int.emod_lt_of_pos x (show 0 < S by omega)
  have hi : (x % S).toNat < S.toNat := by omega
  have eS : ((S.toNat : Nat) : Int) = S := by omega
  rw [rows_use (by omega) hi (by rw [eS]; omega)]
  unfold usedRows rowAt
  rw [List.getD_eq_getElem?_getD, rows_get hi]
  rfl
theorem row_at {us : List Int} {S W x : Int} (ok1 : 1 ≤ S) : rowAt (rowsOf us S.toNat W.toNat) S x = rowOf us S (x % S) W.toNat := by
  have m0 := Int.emod_nonneg x (show S ≠ 0 by omega)
  have m1 := Int.emod_lt_of_pos x (show 0 < S by omega)
  have hi : (x % S).toNat < S.toNat := by omega
  have eS : ((S.toNat : Nat) : Int) = S := by omega
  unfold rowAt
  rw [List.getD_eq_getElem?_getD, rows_get hi, eS, Int.toNat_of_nonneg m0]
  rfl
theorem rows_short {us : List Int} {S W : Nat} {r : List Int} (h : r ∈ rowsOf us S W) : r.length ≤ W := by
  obtain ⟨s, _, rfl⟩ := List.mem_map.mp h
  exact row_len
section
variable {P : Program} {w : World} {K : PySem.W.Frag} {mg : Str → Option Value} {base : Heap}
def sp_law (K : PySem.W.Frag) : Sp := fun vs H Q _ => ∃ (a : Addr) (ns : List Int), vs = [.ref a] ∧ SqL K H a (ns.map V.int) ∧ ns.length ≤ 63 ∧ ∀ H', Q (.bl true) H'
theorem ok_law (T : Top K mg) : FnOk P w K mg base CX0 4 T.a_law T.d_law ["_law_script"]  (sp_law K) := by
  refine T.F_law.ok sc_law (fun vs H Q E h => ?_) (fun cdv A outer s H vs Q E hr h => ?_)
  · obtain ⟨_, _, rfl, _⟩ := h
    rfl
  · obtain ⟨l, ns, rfl, hS, hlen, q⟩ := h
    refine ⟨_, (pss_cons (ps_set (i := 1) sc_law.nd rfl (by first | exact Or.inl rfl | exact Or.inr rfl) (pe_call (ok__law_start T) (hr.mono (by decide)) (by rfl) T.g__law_start T.F__law_start.kp T.b__law_start .nil pass0 (pa_cons (pv 0) pa_nil)))
  (pss_cons (ps_set (i := 2) sc_law.nd rfl (by first | exact Or.inl rfl | exact Or.inr rfl) (pe_ix ix_list (pe_lst (pa_cons pe_int (pa_cons pe_int (pa_cons (pe_op op_add pe_int (pe_call (ok__law_draw T) (hr.mono (by decide)) (by rfl) T.g__law_draw T.F__law_draw.kp T.b__law_draw .nil pass0 (pa_cons (pv 1) (pa_cons pe_int pa_nil)))) (pa_cons (pe_op op_add pe_int (pe_call (ok__law_draw T) (hr.mono (by decide)) (by rfl) T.g__law_draw T.F__law_draw.kp T.b__law_draw .nil pass0 (pa_cons (pv 1) (pa_cons pe_int pa_nil)))) pa_nil))))) (pe_call (ok__law_draw T) (hr.mono (by decide)) (by rfl) T.g__law_draw T.F__law_draw.kp T.b__law_draw .nil pass0 (pa_cons (pv 1) (pa_cons pe_int pa_nil))) (fun _ _ => rfl)))
  (pss_cons (ps_set (i := 3) sc_law.nd rfl (by first | exact Or.inl rfl | exact Or.inr rfl) (pe_op op_add pe_int (pe_call (ok__law_draw T) (hr.mono (by decide)) (by rfl) T.g__law_draw T.F__law_draw.kp T.b__law_draw .nil pass0 (pa_cons (pv 1) (pa_cons pe_int pa_nil)))))
  (pss_cons (ps_set (i := 4) sc_law.nd rfl (by first | exact Or.inl rfl | exact Or.inr rfl) (pe_ix ix_list (pe_lst (pa_cons pe_int (pa_cons pe_int (pa_cons pe_int (pa_cons pe_int (pa_cons pe_int pa_nil)))))) (pe_call (ok__law_draw T) (hr.mono (by decide)) (by rfl) T.g__law_draw T.F__law_draw.kp T.b__law_draw .nil pass0 (pa_cons (pv 1) (pa_cons pe_int pa_nil))) (fun _ _ => rfl)))
  (pss_cons (ps_set (i := 5) sc_law.nd rfl (by first | exact Or.inl rfl | exact Or.inr rfl) (pe_make T.M_Cache (ok_Cache_init T) (hr.mono (by decide)) (by rfl) T.gc_Cache T.b_Cache_init .nil pass0 (pa_cons (pv 2) (pa_cons (pv 3) (pa_cons (pv 4) pa_nil)))))
  (pss_cons (ps_set (i := 6) sc_law.nd rfl (by first | exact Or.inl rfl | exact Or.inr rfl) (pe_lst pa_nil))
  (pss_cons (ps_set (i := 7) sc_law.nd rfl (by first | exact Or.inl rfl | exact Or.inr rfl) (pe_lst pa_nil))
  (pss_cons (ps_for PassesOwn.never rfl (pi_range1 (by rfl) T.m_range (pa_cons (pe_op op_add pe_int (pe_call (ok__law_draw T) (hr.mono (by decide)) (by rfl) T.g__law_draw T.F__law_draw.kp T.b__law_draw .nil pass0 (pa_cons (pv 1) (pa_cons pe_int pa_nil)))) pa_nil)) (pg_name (i := 8) sc_law.nd rfl (by first | exact Or.inl rfl | exact Or.inr rfl))
  (pss_cons (ps_set (i := 9) sc_law.nd rfl (by first | exact Or.inl rfl | exact Or.inr rfl) (pe_call (ok__law_address T) (hr.mono (by decide)) (by rfl) T.g__law_address T.F__law_address.kp T.b__law_address .nil pass0 (pa_cons (pv 1) (pa_cons (pv 2) (pa_cons (pv 4) pa_nil)))))
  (pss_cons (ps_set (i := 10) sc_law.nd rfl (by first | exact Or.inl rfl | exact Or.inr rfl) (pe_op op_fdiv (pv 9) (pv 4)))
  (pss_cons (ps_set (i := 11) sc_law.nd rfl (by first | exact Or.inl rfl | exact Or.inr rfl) (pe_cmpR op_in_seq (pv 10) (pe_call (ok__law_row T) (hr.mono (by decide)) (by rfl) T.g__law_row T.F__law_row.kp T.b__law_row .nil pass0 (pa_cons (pv 6) (pa_cons (pv 10) (pa_cons (pv 2) (pa_cons (pv 3) pa_nil))))) (by with_unfolding_all rfl)))
  (pss_cons (ps_if (pt_not (pt_val (pe_call (ok__law_told T) (hr.mono (by decide)) (by rfl) T.g__law_told T.F__law_told.kp T.b__law_told .nil pass0 (pa_cons (pe_meth (pv 5) T.cl_Cache T.m_Cache_holds (ok_Cache_holds T) (hr.mono (by decide)) T.b_Cache_holds .nil pass0 (pa_cons (pv 9) pa_nil)) (pa_cons (pv 11) pa_nil)))))
  (pss_one (ps_ret pe_bl))
  pss_nil)
  (Evl.pss_cut (ps_if (pt_cmpR op_eq (pe_call (ok__law_draw T) (hr.mono (by decide)) (by rfl) T.g__law_draw T.F__law_draw.kp T.b__law_draw .nil pass0 (pa_cons (pv 1) (pa_cons pe_int pa_nil))) pe_int (nomark _))
  (pss_cons (ps_set (i := 12) sc_law.nd rfl (by first | exact Or.inl rfl | exact Or.inr rfl) (pe_meth (pv 5) T.cl_Cache T.m_Cache_write (ok_Cache_write T) (hr.mono (by decide)) T.b_Cache_write .nil pass0 (pa_cons (pv 9) pa_nil)))
  (pss_one (ps_if (pt_val (pv 11))
  (pss_one (ps_expr (pe_bm PySem.F.plainAttrs_list PySem.F.slot_list_append PySem.F.type_list_append mt_append (pv 6) (pa_cons (pv 10) pa_nil))))
  pss_nil)))
  (pss_cons (ps_set (i := 12) sc_law.nd rfl (by first | exact Or.inl rfl | exact Or.inr rfl) (pe_meth (pv 5) T.cl_Cache T.m_Cache_read (ok_Cache_read T) (hr.mono (by decide)) T.b_Cache_read .nil pass0 (pa_cons (pv 9) pa_nil)))
  (pss_one (ps_expr (pe_bm PySem.F.plainAttrs_list PySem.F.slot_list_append PySem.F.type_list_append mt_append (pv 6) (pa_cons (pv 10) pa_nil))))))
  (pss_cons (ps_if (pt_not (pt_val (pe_call (ok__law_told T) (hr.mono (by decide)) (by rfl) T.g__law_told T.F__law_told.kp T.b__law_told .nil pass0 (pa_cons (pv 12) (pa_cons (pv 11) pa_nil)))))
  (pss_one (ps_ret pe_bl))
  pss_nil)
  (pss_one (ps_if (pt_cmpR op_in_seq (pv 8) (pe_tup (pa_cons pe_int (pa_cons pe_int pa_nil))) (by with_unfolding_all rfl))
  (pss_one (ps_expr (pe_bm PySem.F.plainAttrs_list PySem.F.slot_list_append PySem.F.type_list_append mt_append (pv 7) (pa_cons (pe_tup (pa_cons (pe_meth0 (pv 5) T.cl_Cache T.m_Cache_duplicate (ok_Cache_duplicate T) (hr.mono (by decide)) T.b_Cache_duplicate .nil pass0) (pa_cons (pe_call (ok__law_contents T) (hr.mono (by decide)) (by rfl) T.g__law_contents T.F__law_contents.kp T.b__law_contents .nil pass0 (pa_cons (pv 6) (pa_cons (pv 2) (pa_cons (pv 3) pa_nil)))) pa_nil))) pa_nil))))
  pss_nil)))))))))
  (pss_cons (ps_for PassesOwn.never rfl (pi_list (pv 7)) (pg_tup rfl (pgs_cons (pg_name (i := 13) sc_law.nd rfl (by first | exact Or.inl rfl | exact Or.inr rfl)) (pgs_cons (pg_name (i := 14) sc_law.nd rfl (by first | exact Or.inl rfl | exact Or.inr rfl)) pgs_nil)))
  (pss_one (ps_if (pw_or (pt_not (pt_val (pe_call (ok__law_same T) (hr.mono (by decide)) (by rfl) T.g__law_same T.F__law_same.kp T.b__law_same .nil pass0 (pa_cons (pe_fld (pv 13) rfl) (pa_cons (pv 14) pa_nil))))) (pw_or (pt_cmpR op_ne (pe_fld (pv 13) rfl) (pv 2) (nomark _)) (pw_or (pt_cmpR op_ne (pe_fld (pv 13) rfl) (pv 3) (nomark _)) (pw_or1 (pt_cmpR op_ne (pe_fld (pv 13) rfl) (pv 4) (nomark _)))))).pt
  (pss_one (ps_ret pe_bl))
  pss_nil)))
  (pss_one (ps_ret (pe_call (ok__law_same T) (hr.mono (by decide)) (by rfl) T.g__law_same T.F__law_same.kp T.b__law_same .nil pass0 (pa_cons (pe_fld (pv 5) rfl) (pa_cons (pe_call (ok__law_contents T) (hr.mono (by decide)) (by rfl) T.g__law_contents T.F__law_contents.kp T.b__law_contents .nil pass0 (pa_cons (pv 6) (pa_cons (pv 2) (pa_cons (pv 3) pa_nil)))) pa_nil)))))))))))))), ?_⟩
    refine ⟨_, rfl, l, ns, rfl, hS, hlen, fun H0 p c _ _ _ st0 => ?_⟩
    -- the sizes
    refine ⟨_, rfl, p, c, 5, rfl, st0, by decide, by decide, fun v1 H1 a1 b1 st1 k1 => ?_⟩
    refine ⟨_, _, rfl, rfl, _, rfl, p, c, 64, rfl, st1, by decide, by decide, fun v2 H2 a2 b2 st2 k2 => ?_⟩
    refine ⟨_, _, rfl, rfl, by show 4 ≤ sizeLine; decide, fun t1 nt1 => ?_⟩
    refine ⟨_, rfl, p, c, 4, rfl, st2.same (same_new nt1), by decide, by decide, fun v3 H3 a3 b3 st3 k3 => ?_⟩
    have t1p := (st2.ne nt1).1
    have ht1 := k3 _ _ t1p upd_same
    obtain ⟨j1, y1, ej1, hy1, my1⟩ := at_any (xs := [.int 1, .int 2, .int (1 + v1), .int (1 + v2)]) (n := 4) a3 (by omega) rfl
    obtain ⟨S, rfl, s1, s2⟩ : ∃ S : Int, y1 = .int S ∧ 1 ≤ S ∧ S ≤ 64 := by
      simp only [List.mem_cons, List.mem_nil_iff, or_false] at my1
      rcases my1 with rfl | rfl | rfl | rfl
      · exact ⟨_, rfl, by decide, by decide⟩
      · exact ⟨_, rfl, by decide, by decide⟩
      · exact ⟨_, rfl, by omega, by omega⟩
      · exact ⟨_, rfl, by omega, by omega⟩
    refine ⟨t1, _, _, .int S, rfl, rfl, SqL.of ht1, at_of ej1 hy1, ?_⟩
    refine ⟨_, rfl, p, c, 4, rfl, st3, by decide, by decide, fun v4 H4 a4 b4 st4 k4 => ?_⟩
    refine ⟨_, _, rfl, rfl, ?_⟩
    obtain ⟨W, eW, w1, w2⟩ : ∃ W : Int, 1 + v4 = W ∧ 1 ≤ W ∧ W ≤ 4 := ⟨_, rfl, by omega, by omega⟩
    show gName 3 (V.int (1 + v4)) _ _ _
    rw [eW]
    refine ⟨by show 5 ≤ sizeLine; decide, fun t2 nt2 => ?_⟩
    refine ⟨_, rfl, p, c, 5, rfl, st4.same (same_new nt2), by decide, by decide, fun v5 H5 a5 b5 st5 k5 => ?_⟩
    have ht2 := k5 _ _ (st4.ne nt2).1 upd_same
    obtain ⟨j2, y2, ej2, hy2, my2⟩ := at_any (xs := [.int 1, .int 2, .int 4, .int 8, .int 16]) (n := 5) a5 (by omega) rfl
    obtain ⟨z, rfl, zz⟩ : ∃ z : Int, y2 = .int z ∧ (z = 1 ∨ z = 2 ∨ z = 4 ∨ z = 8 ∨ z = 16) := by
      simp only [List.mem_cons, List.mem_nil_iff, or_false] at my2
      rcases my2 with rfl | rfl | rfl | rfl | rfl
      · exact ⟨_, rfl, by decide⟩
      · exact ⟨_, rfl, by decide⟩
      · exact ⟨_, rfl, by decide⟩
      · exact ⟨_, rfl, by decide⟩
      · exact ⟨_, rfl, by decide⟩
    refine ⟨t2, _, _, .int z, rfl, rfl, SqL.of ht2, at_of ej2 hy2, ?_⟩
    have ok : SizesOk S W z := ⟨s1, s2, w1, w2, zz⟩
    obtain ⟨z0, z1⟩ := ok.z0
    -- the cache
    refine ⟨_, rfl, _, rfl, _, rfl, ?_⟩
    intro o d2 no nd ned
    refine ⟨o, d2, S, W, z, rfl, ok, upd_same, fun H6 R ls ca kc nR nl => ⟨rfl, ?_⟩⟩
    have same6 : ∀ b x, H5 b = some x → H6 b = some x := fun b x e => by
      have bo := ne_of_none e no
      refine kc b x bo ?_
      rw [upd_ne bo, upd_ne (ne_of_none e nd)]
      exact e
    have free6 : ∀ b, b ∈ ls → H5 b = none := fun b m => by
      cases e : H5 b with
      | none => rfl
      | some x =>
        have bo := ne_of_none e no
        have := nl b m
        rw [upd_ne bo, upd_ne (ne_of_none e nd), e] at this
        cases this
    have freeR : H5 R = none := by
      cases e : H5 R with
      | none => rfl
      | some x =>
        have bo := ne_of_none e no
        have := nR
        rw [upd_ne bo, upd_ne (ne_of_none e nd), e] at this
        cases this
    have st6 : StOk H6 p c := st5.same same6
    refine ⟨Nat.zero_le _, fun u nu => ?_⟩
    refine ⟨Nat.zero_le _, fun q2 nq => ?_⟩
    have ca7 : CacheAt T.C_Cache (upd (upd H6 u (.lst [])) q2 (.lst [])) o R ls S W z (rowsOf [] S.toNat W.toNat) := by
      rw [rows_nil]
      have sm : Same H6 (upd (upd H6 u (.lst [])) q2 (.lst [])) := (same_new nu).trans (same_new nq)
      obtain ⟨⟨dx, c1⟩, c2, c3, c4, c5, c6, c7⟩ := ca
      exact ⟨⟨dx, sm _ _ c1⟩, sm _ _ c2, c3, c4, c5, fun j l r hl hr => sm _ _ (c6 j l r hl hr), c7⟩
    have rowH : ∀ b ∈ ls, ∃ x, H6 b = some x := fun b m => by
      obtain ⟨j, hj⟩ := List.getElem?_of_mem m
      have hjl := (List.getElem?_eq_some_iff.mp hj).1
      exact ⟨_, ca.row j b _ hj (List.getElem?_eq_getElem (by rw [← ca.len]; exact hjl))⟩
    have uq : u ≠ q2 := fun e => by
      rw [← e, upd_same] at nq
      cases nq
    have nq6 : H6 q2 = none := by
      rw [upd_ne uq.symm] at nq
      exact nq
    have notNew : ∀ b x, H6 b = some x → b ≠ u ∧ b ≠ q2 := fun b x e => ⟨ne_of_none e nu, ne_of_none e nq6⟩
    obtain ⟨dxo, ho⟩ := ca.ob
    obtain ⟨pms, pk, pv, psd, pc, hp, hc, _⟩ := id st6
    obtain ⟨qms, qk, qv, qsd, _, hp5, hc5, _⟩ := id st5
    have dj : Disj p c o R ls u q2 := by
      refine ⟨?_, ?_, ?_, ?_, ?_, ?_, (notNew _ _ hp).1, (notNew _ _ hp).2, uq⟩
      · rintro (e | e | e | m)
        · exact pc e.symm
        · exact (notNew _ _ hc).1 e
        · exact (notNew _ _ hc).2 e
        · rw [free6 c m] at hc5
          cases hc5
      · rintro (e | e | e | m)
        · exact ne_of_none hp5 no e.symm
        · exact (notNew _ _ ho).1 e
        · exact (notNew _ _ ho).2 e
        · obtain ⟨j, hj⟩ := List.getElem?_of_mem m
          have hjl := (List.getElem?_eq_some_iff.mp hj).1
          rw [ca.row j o _ hj (List.getElem?_eq_getElem (by rw [← ca.len]; exact hjl))] at ho
          cases ho
      · rintro (e | e | e | m)
        · exact ne_of_none hp5 freeR e.symm
        · exact (notNew _ _ ca.rr).1 e
        · exact (notNew _ _ ca.rr).2 e
        · exact ca.nR m
      · intro m
        rw [free6 p m] at hp5
        cases hp5
      · intro m
        obtain ⟨x, hx⟩ := rowH u m
        rw [hx] at nu
        cases nu
      · intro m
        obtain ⟨x, hx⟩ := rowH q2 m
        rw [hx] at nq6
        cases nq6
    have inv0 : LInv T.C_Cache p c o R ls u q2 S W z (upd (upd H6 u (.lst [])) q2 (.lst [])) [] [] [] :=
      ⟨st6.same ((same_new nu).trans (same_new nq)), ca7, by rw [upd_ne uq]; exact upd_same, upd_same, by simp⟩
    -- the loop
    refine ⟨_, rfl, p, c, 41, rfl, inv0.st, by decide, by decide, fun v6 H8 a6 b6 st8 k8 => ?_⟩
    have inv1 := inv0.keepP dj k8 st8
    refine ⟨_, _, rfl, rfl, _, rfl, (by omega), (by omega), for_range (n := (20 + v6).toNat) (fun i σ H' => ∃ y8 y9 y10 y11 y12, σ = [some (.ref l), some (.ref p), some (.int S), some (.int W), some (.int z), some (.ref o), some (.ref u), some (.ref q2), y8, y9, y10, y11, y12, none, none] ∧ ∃ (us : List Int) (ts : List Addr), us.length ≤ i ∧ ts.length ≤ i ∧ LInv T.C_Cache p c o R ls u q2 S W z H' us us ts)
      ⟨none, none, none, none, none, rfl, [], [], Nat.le_refl _, Nat.le_refl _, inv1⟩ ?_ ?_⟩
    · rintro i σ H' hi ⟨y8, y9, y10, y11, y12, rfl, us, ts, ul, tl, inv⟩
      obtain ⟨dxh, hoh⟩ := inv.ca.ob
      refine ⟨_, rfl, _, rfl, _, rfl, p, c, S, z, rfl, inv.st, s1, s2, z0, z1, fun v H9 st9 k9 => ?_⟩
      have inv9 := inv.keepP dj k9 st9
      refine ⟨_, rfl, _, rfl, _, _, rfl, rfl, ⟨z0, by omega⟩, ?_⟩
      refine ⟨_, rfl, _, rfl, _, rfl, _, rfl, _, rfl, u, us, v / z, S, W, rfl, inv9.ul, by omega, by omega, by omega, fun r nr => ?_⟩
      refine ⟨r, _, rfl, .inl (SqL.of upd_same), rfl, flat_ints _, ?_⟩
      have inv10 := inv9.same (same_new (o := .lst ((rowOf us S (v / z % S) W.toNat).map V.int)) nr)
      obtain ⟨hit, ehit⟩ : ∃ b, hitOf (rowsOf us S.toNat W.toNat) S (v / z) = b := ⟨_, rfl⟩
      have ehit2 : inV (.int (v / z)) ((rowOf us S (v / z % S) W.toNat).map V.int) = hit := by
        rw [inV_int, ← row_at s1]
        exact ehit
      show gName 11 (V.bl (inV (.int (v / z)) ((rowOf us S (v / z % S) W.toNat).map V.int))) _ _ _
      rw [ehit2]
      obtain ⟨d10, ho10⟩ := inv10.ca.ob
      refine ⟨_, rfl, o, d10, _, rfl, ho10, cf_no, _, rfl, o, R, ls, S, W, z, _, v, rfl, inv10.ca, ok, _, rfl, hit, ?_, true, rfl, iteF ?_⟩
      · show [V.bl (hitOf (rowsOf us S.toNat W.toNat) S (v / z)), V.bl hit] = _
        rw [ehit]
      have short : ∀ r ∈ rowsOf us S.toNat W.toNat, r.length ≤ 4 := fun r m => Nat.le_trans (rows_short m) (by omega)
      refine ⟨fun σ' H' => σ' = [some (.ref l), some (.ref p), some (.int S), some (.int W), some (.int z), some (.ref o), some (.ref u), some (.ref q2), some (.int (0 + (i : Int))), some (.int v), some (.int (v / z)), some (.bl hit), some (.bl hit), none, none] ∧ ∃ us' : List Int, us'.length ≤ i + 1 ∧ LInv T.C_Cache p c o R ls u q2 S W z H' us' us' ts, ?_, ?_⟩
      · refine ⟨_, rfl, p, c, 3, rfl, inv10.st, by decide, by decide, fun v7 H11 a7 b7 st11 k11 => ⟨rfl, _, rfl, ?_⟩⟩
        have inv11 := inv10.keepP dj k11 st11
        obtain ⟨d11, ho11⟩ := inv11.ca.ob
        refine ite2 (fun c1 => ?_) (fun c1 => ?_)
        · -- a write
          refine ⟨_, rfl, o, d11, _, rfl, ho11, cf_no, _, rfl, o, R, ls, S, W, z, _, v, rfl, inv11.ca, ok, short, fun H12 c12 t12 => ?_⟩
          rw [ehit] at c12 ⊢
          cases hit with
          | true =>
            rw [if_pos rfl, used_rows s1 w1] at c12
            have inv12 := inv11.touch dj t12 c12
            refine ⟨_, rfl, true, rfl, iteT ?_⟩
            refine ⟨_, rfl, .inl ⟨rfl, _, SqL.of inv12.ul⟩, _, rfl, u, _, _, rfl, rfl, inv12.ul, ?_, ?_⟩
            · rw [List.length_map]
              exact small1000 (by omega)
            · refine ⟨rfl, us ++ [v / z], by rw [List.length_append, List.length_singleton]; omega, ?_⟩
              have := inv12.uses dj (us ++ [v / z])
              rw [List.map_append] at this
              exact this
          | false =>
            rw [if_neg (by decide)] at c12
            exact ⟨_, rfl, false, rfl, iteF ⟨rfl, us, by omega, inv11.touch dj t12 c12⟩⟩
        · -- a read
          refine ⟨_, rfl, o, d11, _, rfl, ho11, cf_no, _, rfl, o, R, ls, S, W, z, _, v, rfl, inv11.ca, ok, short, fun H12 c12 t12 => ?_⟩
          rw [used_rows s1 w1] at c12
          rw [ehit]
          have inv12 := inv11.touch dj t12 c12
          refine ⟨_, rfl, .inl ⟨rfl, _, SqL.of inv12.ul⟩, _, rfl, u, _, _, rfl, rfl, inv12.ul, ?_, ?_⟩
          · rw [List.length_map]
            exact small1000 (by omega)
          · refine ⟨rfl, us ++ [v / z], by rw [List.length_append, List.length_singleton]; omega, ?_⟩
            have := inv12.uses dj (us ++ [v / z])
            rw [List.map_append] at this
            exact this
      · rintro σ' H13 ⟨rfl, us', ul', inv13⟩
        refine ⟨_, rfl, _, rfl, hit, rfl, true, rfl, iteF ?_⟩
        refine ⟨_, rfl, by show 2 ≤ sizeLine; decide, fun tp ntp => ⟨tp, _, rfl, .inr (SqT.of upd_same), rfl, rfl, _, rfl, ite2 (fun c2 => ?_) (fun c2 => ?_)⟩⟩
        · have inv14 := inv13.same (same_new (o := .tup [.int 3, .int 17]) ntp)
          obtain ⟨d14, ho14⟩ := inv14.ca.ob
          refine ⟨_, rfl, .inl ⟨rfl, _, SqL.of inv14.ql⟩, ?_⟩
          refine ⟨_, rfl, o, d14, _, rfl, ho14, cf_no, o, R, ls, S, W, z, _, rfl, inv14.ca, ok, fun H15 o2 R2 ls2 c15 sm15 fl2 fR2 fo2 => ?_⟩
          have inv15 := inv14.same sm15
          refine ⟨_, rfl, _, rfl, _, rfl, u, us', S, W, rfl, inv15.ul, by omega, by omega, s2, by omega, fun H16 b lb sm16 fb flb elb hb hlb => ?_⟩
          have inv16 := inv15.same sm16
          refine ⟨by show 2 ≤ sizeLine; decide, fun t nt => ?_⟩
          have inv17 := inv16.same (same_new (o := .tup [.ref o2, .ref b]) nt)
          have sm17 : Same H15 (upd H16 t (.tup [.ref o2, .ref b])) := sm16.trans (same_new nt)
          have ct : CopyOk T.C_Cache p u q2 ls S W z (upd H16 t (.tup [.ref o2, .ref b])) t := by
            obtain ⟨⟨dx, c1⟩, c2, c3, c4, c5, c6, c7⟩ := c15
            refine ⟨o2, R2, ls2, b, lb, us', upd_same, ⟨⟨dx, sm17 _ _ c1⟩, sm17 _ _ c2, c3, c4, c5, fun j l r hl hr => sm17 _ _ (c6 j l r hl hr), c7⟩, ⟨same_new nt _ _ hb, ?_, ?_⟩, inv16.free nt, inv14.free fo2, inv14.free fR2, fun l m => inv14.free (fl2 l m), inv15.free fb, fun l m => inv15.free (flb l m)⟩
            · rw [rows_len]
              exact elb
            · intro j l r hl hr
              have hj : j < S.toNat := by
                have := (List.getElem?_eq_some_iff.mp hr).1
                rwa [rows_len] at this
              rw [rows_get hj, show ((S.toNat : Nat) : Int) = S by omega] at hr
              cases hr
              exact same_new nt _ _ (hlb j l hl)
          refine ⟨q2, _, _, rfl, rfl, inv17.ql, ?_, ?_⟩
          · rw [List.length_map]
            exact small1000 (by omega)
          · refine ⟨_, _, _, _, _, rfl, us', ts ++ [t], ul', by rw [List.length_append, List.length_singleton]; omega, ?_⟩
            have := inv17.copies dj ct
            rw [List.map_append] at this
            exact this
        · exact ⟨_, _, _, _, _, rfl, us', ts, ul', by omega, inv13.same (same_new ntp)⟩
    · rintro σ H' ⟨y8, y9, y10, y11, y12, rfl, us, ts, ul, tl, inv⟩
      have lens : ∀ us : List Int, (rowsOf us S.toNat W.toNat).length ≤ 64 ∧ ∀ r ∈ rowsOf us S.toNat W.toNat, r.length ≤ 100 := fun us => ⟨by rw [rows_len]; omega, fun r m => Nat.le_trans (rows_short m) (by omega)⟩
      refine ⟨_, rfl, q2, rfl, ⟨_, SqL.of inv.ql⟩, for_list (xs := ts.map V.ref) (fun i σ H'' => ∃ y13 y14, σ = [some (.ref l), some (.ref p), some (.int S), some (.int W), some (.int z), some (.ref o), some (.ref u), some (.ref q2), y8, y9, y10, y11, y12, y13, y14] ∧ H'' = H') ⟨none, none, rfl, rfl⟩
        (fun i σ H'' _ ⟨_, _, _, e⟩ => by rw [e]; exact SqL.of inv.ql) ?_ ?_⟩
      · rintro i x σ H'' hi ⟨y13, y14, rfl, rfl⟩
        obtain ⟨t, mt, rfl⟩ := List.mem_map.mp (List.mem_of_getElem? hi)
        obtain ⟨o2, R2, ls2, b, lb, us3, ht, ⟨⟨dx, c1⟩, c2, c3, c4, c5, c6, c7⟩, hb, _⟩ := inv.cp t mt
        refine ⟨t, _, rfl, SqT.of ht, rfl, _, _, rfl, _, _, rfl, rfl, ?_⟩
        refine if_or (a := false) (b := _) (fun Q' q' => ⟨_, rfl, o2, _, dx, _, _, rfl, c1, T.cl_Cache, T.n_Cache_rows, cf_R, _, rfl, R2, b, ls2, lb, _, rfl, ⟨c2, c4, c6⟩, hb, (lens us3).1, (lens us3).2, true, rfl, q'⟩)
          (fun _ Q' q' => or_test (a := false) (b := _) (fun Q2 q2 => ⟨_, rfl, o2, _, dx, _, _, rfl, c1, T.cl_Cache, T.n_Cache_sets, cf_S, _, rfl, rfl, _, rfl, by rw [ne_int rfl]; exact q2⟩)
            (fun _ Q3 q3 => or_test (a := false) (b := _) (fun Q2 q2 => ⟨_, rfl, o2, _, dx, _, _, rfl, c1, T.cl_Cache, T.n_Cache_ways, cf_W, _, rfl, rfl, _, rfl, by rw [ne_int rfl]; exact q2⟩)
              (fun _ Q2 q2 => ⟨_, rfl, o2, _, dx, _, _, rfl, c1, T.cl_Cache, T.n_Cache_size, cf_z, _, rfl, rfl, _, rfl, by rw [ne_int rfl]; exact q2⟩) q3) q') (if_f rfl ?_)
        exact ⟨_, _, rfl, rfl⟩
      · rintro σ H'' ⟨y13, y14, rfl, rfl⟩
        obtain ⟨⟨dx, c1⟩, c2, c3, c4, c5, c6, c7⟩ := inv.ca
        refine ⟨_, rfl, o, _, dx, _, _, rfl, c1, T.cl_Cache, T.n_Cache_rows, cf_R, ?_⟩
        refine ⟨_, rfl, _, rfl, _, rfl, u, us, S, W, rfl, inv.ul, by omega, by omega, s2, by omega, fun H16 b lb sm16 fb flb elb hb hlb => ?_⟩
        refine ⟨R, b, ls, lb, _, rfl, ⟨sm16 _ _ c2, c4, fun j l r hl hr => sm16 _ _ (c6 j l r hl hr)⟩, ⟨hb, by rw [rows_len]; exact elb, fun j l r hl hr => ?_⟩, (lens us).1, (lens us).2, q _⟩
        have hj : j < S.toNat := by
          have := (List.getElem?_eq_some_iff.mp hr).1
          rwa [rows_len] at this
        rw [rows_get hj, show ((S.toNat : Nat) : Int) = S by omega] at hr
        cases hr
        exact hlb j l hl
end
def top_mk {P : Program} {w : World} {K : PySem.W.Frag} {h : Heap} {mg : Str → Option Value} (X : K.In h) (G : h.Ns mainGlobals mg)
    {a__law_start : Addr} {od__law_start an__law_start : Option Addr} {sl__law_start : Array (Option Value)} {oc__law_start kV__law_start dc__law_start pm__law_start cd__law_start ct__law_start : Value}
    {a__law_draw : Addr} {od__law_draw an__law_draw : Option Addr} {sl__law_draw : Array (Option Value)} {oc__law_draw kV__law_draw dc__law_draw pm__law_draw cd__law_draw ct__law_draw : Value}
    {a_Cache_init : Addr} {od_Cache_init an_Cache_init : Option Addr} {sl_Cache_init : Array (Option Value)} {oc_Cache_init kV_Cache_init dc_Cache_init pm_Cache_init cd_Cache_init ct_Cache_init : Value}
    {a_Cache_holds : Addr} {od_Cache_holds an_Cache_holds : Option Addr} {sl_Cache_holds : Array (Option Value)} {oc_Cache_holds kV_Cache_holds dc_Cache_holds pm_Cache_holds cd_Cache_holds ct_Cache_holds : Value}
    {a_Cache_use : Addr} {od_Cache_use an_Cache_use : Option Addr} {sl_Cache_use : Array (Option Value)} {oc_Cache_use kV_Cache_use dc_Cache_use pm_Cache_use cd_Cache_use ct_Cache_use : Value}
    {a_Cache_read : Addr} {od_Cache_read an_Cache_read : Option Addr} {sl_Cache_read : Array (Option Value)} {oc_Cache_read kV_Cache_read dc_Cache_read pm_Cache_read cd_Cache_read ct_Cache_read : Value}
    {a_Cache_write : Addr} {od_Cache_write an_Cache_write : Option Addr} {sl_Cache_write : Array (Option Value)} {oc_Cache_write kV_Cache_write dc_Cache_write pm_Cache_write cd_Cache_write ct_Cache_write : Value}
    {a_Cache_duplicate : Addr} {od_Cache_duplicate an_Cache_duplicate : Option Addr} {sl_Cache_duplicate : Array (Option Value)} {oc_Cache_duplicate kV_Cache_duplicate dc_Cache_duplicate pm_Cache_duplicate cd_Cache_duplicate ct_Cache_duplicate : Value}
    {a__law_address : Addr} {od__law_address an__law_address : Option Addr} {sl__law_address : Array (Option Value)} {oc__law_address kV__law_address dc__law_address pm__law_address cd__law_address ct__law_address : Value}
    {a__law_contents : Addr} {od__law_contents an__law_contents : Option Addr} {sl__law_contents : Array (Option Value)} {oc__law_contents kV__law_contents dc__law_contents pm__law_contents cd__law_contents ct__law_contents : Value}
    {a__law_row : Addr} {od__law_row an__law_row : Option Addr} {sl__law_row : Array (Option Value)} {oc__law_row kV__law_row dc__law_row pm__law_row cd__law_row ct__law_row : Value}
    {a__law_same : Addr} {od__law_same an__law_same : Option Addr} {sl__law_same : Array (Option Value)} {oc__law_same kV__law_same dc__law_same pm__law_same cd__law_same ct__law_same : Value}
    {a__law_told : Addr} {od__law_told an__law_told : Option Addr} {sl__law_told : Array (Option Value)} {oc__law_told kV__law_told dc__law_told pm__law_told cd__law_told ct__law_told : Value}
    {a_law : Addr} {od_law an_law : Option Addr} {sl_law : Array (Option Value)} {oc_law kV_law dc_law pm_law cd_law ct_law : Value}
    {C_Cache : Addr}
    {p_LINE_SIZES : Addr} {n_LINE_SIZES : Nat} {us_LINE_SIZES : Array Value} {sl_LINE_SIZES : Array (Option Value)}
    {t_MOST_WAYS : Tok}
    {t_MOST_SETS : Tok}
    (n__law_start : PySem.W.nsIn K mainGlobals "_law_start" = some (some (.ref a__law_start)))
    (n__law_draw : PySem.W.nsIn K mainGlobals "_law_draw" = some (some (.ref a__law_draw)))
    (n__law_address : PySem.W.nsIn K mainGlobals "_law_address" = some (some (.ref a__law_address)))
    (n__law_contents : PySem.W.nsIn K mainGlobals "_law_contents" = some (some (.ref a__law_contents)))
    (n__law_row : PySem.W.nsIn K mainGlobals "_law_row" = some (some (.ref a__law_row)))
    (n__law_same : PySem.W.nsIn K mainGlobals "_law_same" = some (some (.ref a__law_same)))
    (n__law_told : PySem.W.nsIn K mainGlobals "_law_told" = some (some (.ref a__law_told)))
    (n_law : PySem.W.nsIn K mainGlobals "law" = some (some (.ref a_law)))
    (nc_Cache : PySem.W.nsIn K mainGlobals "Cache" = some (some (.ref C_Cache)))
    (l__law_start : K.lookup a__law_start = some ⟨oc__law_start, od__law_start, .func (PySem.W.fnOf "_law_start" "_law_start" (defArgs s__law_start) (defBody s__law_start) (defScope s__law_start) .none kV__law_start dc__law_start pm__law_start an__law_start cd__law_start ct__law_start), sl__law_start⟩)
    (c__law_start : PySem.W.codeIn K cd__law_start "_law_start" = true)
    (k__law_start : PySem.W.keepIn K (.ref a__law_start) = true)
    (l__law_draw : K.lookup a__law_draw = some ⟨oc__law_draw, od__law_draw, .func (PySem.W.fnOf "_law_draw" "_law_draw" (defArgs s__law_draw) (defBody s__law_draw) (defScope s__law_draw) .none kV__law_draw dc__law_draw pm__law_draw an__law_draw cd__law_draw ct__law_draw), sl__law_draw⟩)
    (c__law_draw : PySem.W.codeIn K cd__law_draw "_law_draw" = true)
    (k__law_draw : PySem.W.keepIn K (.ref a__law_draw) = true)
    (fi_Cache_init : PySem.W.findIn K (.ref C_Cache) "__init__" = some (some (.ref a_Cache_init)))
    (fn_Cache_init : PySem.W.isFn K (.ref a_Cache_init) = true)
    (l_Cache_init : K.lookup a_Cache_init = some ⟨oc_Cache_init, od_Cache_init, .func (PySem.W.fnOf "__init__" "Cache.__init__" (defArgs s_Cache_init) (defBody s_Cache_init) (defScope s_Cache_init) .none kV_Cache_init dc_Cache_init pm_Cache_init an_Cache_init cd_Cache_init ct_Cache_init), sl_Cache_init⟩)
    (c_Cache_init : PySem.W.codeIn K cd_Cache_init "Cache.__init__" = true)
    (k_Cache_init : PySem.W.keepIn K (.ref a_Cache_init) = true)
    (fi_Cache_holds : PySem.W.findIn K (.ref C_Cache) "holds" = some (some (.ref a_Cache_holds)))
    (fn_Cache_holds : PySem.W.isFn K (.ref a_Cache_holds) = true)
    (l_Cache_holds : K.lookup a_Cache_holds = some ⟨oc_Cache_holds, od_Cache_holds, .func (PySem.W.fnOf "holds" "Cache.holds" (defArgs s_Cache_holds) (defBody s_Cache_holds) (defScope s_Cache_holds) .none kV_Cache_holds dc_Cache_holds pm_Cache_holds an_Cache_holds cd_Cache_holds ct_Cache_holds), sl_Cache_holds⟩)
    (c_Cache_holds : PySem.W.codeIn K cd_Cache_holds "Cache.holds" = true)
    (k_Cache_holds : PySem.W.keepIn K (.ref a_Cache_holds) = true)
    (fi_Cache_use : PySem.W.findIn K (.ref C_Cache) "use" = some (some (.ref a_Cache_use)))
    (fn_Cache_use : PySem.W.isFn K (.ref a_Cache_use) = true)
    (l_Cache_use : K.lookup a_Cache_use = some ⟨oc_Cache_use, od_Cache_use, .func (PySem.W.fnOf "use" "Cache.use" (defArgs s_Cache_use) (defBody s_Cache_use) (defScope s_Cache_use) .none kV_Cache_use dc_Cache_use pm_Cache_use an_Cache_use cd_Cache_use ct_Cache_use), sl_Cache_use⟩)
    (c_Cache_use : PySem.W.codeIn K cd_Cache_use "Cache.use" = true)
    (k_Cache_use : PySem.W.keepIn K (.ref a_Cache_use) = true)
    (fi_Cache_read : PySem.W.findIn K (.ref C_Cache) "read" = some (some (.ref a_Cache_read)))
    (fn_Cache_read : PySem.W.isFn K (.ref a_Cache_read) = true)
    (l_Cache_read : K.lookup a_Cache_read = some ⟨oc_Cache_read, od_Cache_read, .func (PySem.W.fnOf "read" "Cache.read" (defArgs s_Cache_read) (defBody s_Cache_read) (defScope s_Cache_read) .none kV_Cache_read dc_Cache_read pm_Cache_read an_Cache_read cd_Cache_read ct_Cache_read), sl_Cache_read⟩)
    (c_Cache_read : PySem.W.codeIn K cd_Cache_read "Cache.read" = true)
    (k_Cache_read : PySem.W.keepIn K (.ref a_Cache_read) = true)
    (fi_Cache_write : PySem.W.findIn K (.ref C_Cache) "write" = some (some (.ref a_Cache_write)))
    (fn_Cache_write : PySem.W.isFn K (.ref a_Cache_write) = true)
    (l_Cache_write : K.lookup a_Cache_write = some ⟨oc_Cache_write, od_Cache_write, .func (PySem.W.fnOf "write" "Cache.write" (defArgs s_Cache_write) (defBody s_Cache_write) (defScope s_Cache_write) .none kV_Cache_write dc_Cache_write pm_Cache_write an_Cache_write cd_Cache_write ct_Cache_write), sl_Cache_write⟩)
    (c_Cache_write : PySem.W.codeIn K cd_Cache_write "Cache.write" = true)
    (k_Cache_write : PySem.W.keepIn K (.ref a_Cache_write) = true)
    (fi_Cache_duplicate : PySem.W.findIn K (.ref C_Cache) "duplicate" = some (some (.ref a_Cache_duplicate)))
    (fn_Cache_duplicate : PySem.W.isFn K (.ref a_Cache_duplicate) = true)
    (l_Cache_duplicate : K.lookup a_Cache_duplicate = some ⟨oc_Cache_duplicate, od_Cache_duplicate, .func (PySem.W.fnOf "duplicate" "Cache.duplicate" (defArgs s_Cache_duplicate) (defBody s_Cache_duplicate) (defScope s_Cache_duplicate) .none kV_Cache_duplicate dc_Cache_duplicate pm_Cache_duplicate an_Cache_duplicate cd_Cache_duplicate ct_Cache_duplicate), sl_Cache_duplicate⟩)
    (c_Cache_duplicate : PySem.W.codeIn K cd_Cache_duplicate "Cache.duplicate" = true)
    (k_Cache_duplicate : PySem.W.keepIn K (.ref a_Cache_duplicate) = true)
    (l__law_address : K.lookup a__law_address = some ⟨oc__law_address, od__law_address, .func (PySem.W.fnOf "_law_address" "_law_address" (defArgs s__law_address) (defBody s__law_address) (defScope s__law_address) .none kV__law_address dc__law_address pm__law_address an__law_address cd__law_address ct__law_address), sl__law_address⟩)
    (c__law_address : PySem.W.codeIn K cd__law_address "_law_address" = true)
    (k__law_address : PySem.W.keepIn K (.ref a__law_address) = true)
    (l__law_contents : K.lookup a__law_contents = some ⟨oc__law_contents, od__law_contents, .func (PySem.W.fnOf "_law_contents" "_law_contents" (defArgs s__law_contents) (defBody s__law_contents) (defScope s__law_contents) .none kV__law_contents dc__law_contents pm__law_contents an__law_contents cd__law_contents ct__law_contents), sl__law_contents⟩)
    (c__law_contents : PySem.W.codeIn K cd__law_contents "_law_contents" = true)
    (k__law_contents : PySem.W.keepIn K (.ref a__law_contents) = true)
    (l__law_row : K.lookup a__law_row = some ⟨oc__law_row, od__law_row, .func (PySem.W.fnOf "_law_row" "_law_row" (defArgs s__law_row) (defBody s__law_row) (defScope s__law_row) .none kV__law_row dc__law_row pm__law_row an__law_row cd__law_row ct__law_row), sl__law_row⟩)
    (c__law_row : PySem.W.codeIn K cd__law_row "_law_row" = true)
    (k__law_row : PySem.W.keepIn K (.ref a__law_row) = true)
    (l__law_same : K.lookup a__law_same = some ⟨oc__law_same, od__law_same, .func (PySem.W.fnOf "_law_same" "_law_same" (defArgs s__law_same) (defBody s__law_same) (defScope s__law_same) .none kV__law_same dc__law_same pm__law_same an__law_same cd__law_same ct__law_same), sl__law_same⟩)
    (c__law_same : PySem.W.codeIn K cd__law_same "_law_same" = true)
    (k__law_same : PySem.W.keepIn K (.ref a__law_same) = true)
    (l__law_told : K.lookup a__law_told = some ⟨oc__law_told, od__law_told, .func (PySem.W.fnOf "_law_told" "_law_told" (defArgs s__law_told) (defBody s__law_told) (defScope s__law_told) .none kV__law_told dc__law_told pm__law_told an__law_told cd__law_told ct__law_told), sl__law_told⟩)
    (c__law_told : PySem.W.codeIn K cd__law_told "_law_told" = true)
    (k__law_told : PySem.W.keepIn K (.ref a__law_told) = true)
    (l_law : K.lookup a_law = some ⟨oc_law, od_law, .func (PySem.W.fnOf "law" "law" (defArgs s_law) (defBody s_law) (defScope s_law) .none kV_law dc_law pm_law an_law cd_law ct_law), sl_law⟩)
    (c_law : PySem.W.codeIn K cd_law "law" = true)
    (k_law : PySem.W.keepIn K (.ref a_law) = true)
    (kpg_Cache : PySem.W.plainGet K C_Cache Str.empty = true)
    (khd_Cache : PySem.W.hasDictIn K C_Cache = true)
    (kpo_Cache : PySem.W.plainOver K C_Cache = true)
    (ksa_Cache : PySem.W.findIn K (.ref C_Cache) "__setattr__" = some (some (.builtin "object.__setattr__")))
    (kmk_Cache : PySem.W.makesIn K C_Cache = true)
    (kkc_Cache : PySem.W.keepIn K (.ref C_Cache) = true)
    (kn_Cache_rows : PySem.W.findIn K (.ref C_Cache) "rows" = some none)
    (kn_Cache_sets : PySem.W.findIn K (.ref C_Cache) "sets" = some none)
    (kn_Cache_size : PySem.W.findIn K (.ref C_Cache) "size" = some none)
    (kn_Cache_ways : PySem.W.findIn K (.ref C_Cache) "ways" = some none)
    (z_list : PySem.W.nsIn K mainGlobals "list" = some none)
    (z_int : PySem.W.nsIn K mainGlobals "int" = some none)
    (z_len : PySem.W.nsIn K mainGlobals "len" = some none)
    (z_abs : PySem.W.nsIn K mainGlobals "abs" = some none)
    (z_range : PySem.W.nsIn K mainGlobals "range" = some none)
    (z_min : PySem.W.nsIn K mainGlobals "min" = some none)
    (z_bool : PySem.W.nsIn K mainGlobals "bool" = some none)
    (z_isinstance : PySem.W.nsIn K mainGlobals "isinstance" = some none)
    (v_LINE_SIZES : PySem.W.nsIn K mainGlobals "LINE_SIZES" = some (some (.ref p_LINE_SIZES)))
    (w_LINE_SIZES : K.lookup p_LINE_SIZES = some ⟨.type "tuple", none, .seq us_LINE_SIZES n_LINE_SIZES, sl_LINE_SIZES⟩)
    (y_LINE_SIZES : Vals [.int (1), .int (2), .int (4), .int (8), .int (16)] us_LINE_SIZES.toList)
    (v_MOST_WAYS : PySem.W.nsIn K mainGlobals "MOST_WAYS" = some (some (.int 4 t_MOST_WAYS)))
    (v_MOST_SETS : PySem.W.nsIn K mainGlobals "MOST_SETS" = some (some (.int 64 t_MOST_SETS))) :
    Top K mg :=
  { a__law_start := a__law_start,
    d__law_start := _,
    F__law_start := fun_mk (st := s__law_start) l__law_start c__law_start k__law_start,
    g__law_start := PySem.W.mg_of X G n__law_start,
    b__law_start := (fun_mk (st := s__law_start) l__law_start c__law_start k__law_start).binds (ps := ["_law_script"]) fun _ _ _ _ _ _ us hl => match us, hl with | [_], _ => rfl,
    a__law_draw := a__law_draw,
    d__law_draw := _,
    F__law_draw := fun_mk (st := s__law_draw) l__law_draw c__law_draw k__law_draw,
    g__law_draw := PySem.W.mg_of X G n__law_draw,
    b__law_draw := (fun_mk (st := s__law_draw) l__law_draw c__law_draw k__law_draw).binds (ps := ["_law_state", "_law_many"]) fun _ _ _ _ _ _ us hl => match us, hl with | [_, _], _ => rfl,
    a_Cache_init := a_Cache_init,
    d_Cache_init := _,
    F_Cache_init := fun_mk (st := s_Cache_init) l_Cache_init c_Cache_init k_Cache_init,
    M_Cache := ⟨kmk_Cache, fi_Cache_init, fn_Cache_init, kkc_Cache⟩,
    b_Cache_init := (fun_mk (st := s_Cache_init) l_Cache_init c_Cache_init k_Cache_init).binds (ps := ["self", "sets", "ways", "size"]) fun _ _ _ _ _ _ us hl => match us, hl with | [_, _, _, _], _ => rfl,
    a_Cache_holds := a_Cache_holds,
    d_Cache_holds := _,
    F_Cache_holds := fun_mk (st := s_Cache_holds) l_Cache_holds c_Cache_holds k_Cache_holds,
    m_Cache_holds := ⟨fi_Cache_holds, fn_Cache_holds, k_Cache_holds⟩,
    b_Cache_holds := (fun_mk (st := s_Cache_holds) l_Cache_holds c_Cache_holds k_Cache_holds).binds (ps := ["self", "address"]) fun _ _ _ _ _ _ us hl => match us, hl with | [_, _], _ => rfl,
    a_Cache_use := a_Cache_use,
    d_Cache_use := _,
    F_Cache_use := fun_mk (st := s_Cache_use) l_Cache_use c_Cache_use k_Cache_use,
    m_Cache_use := ⟨fi_Cache_use, fn_Cache_use, k_Cache_use⟩,
    b_Cache_use := (fun_mk (st := s_Cache_use) l_Cache_use c_Cache_use k_Cache_use).binds (ps := ["self", "address"]) fun _ _ _ _ _ _ us hl => match us, hl with | [_, _], _ => rfl,
    a_Cache_read := a_Cache_read,
    d_Cache_read := _,
    F_Cache_read := fun_mk (st := s_Cache_read) l_Cache_read c_Cache_read k_Cache_read,
    m_Cache_read := ⟨fi_Cache_read, fn_Cache_read, k_Cache_read⟩,
    b_Cache_read := (fun_mk (st := s_Cache_read) l_Cache_read c_Cache_read k_Cache_read).binds (ps := ["self", "address"]) fun _ _ _ _ _ _ us hl => match us, hl with | [_, _], _ => rfl,
    a_Cache_write := a_Cache_write,
    d_Cache_write := _,
    F_Cache_write := fun_mk (st := s_Cache_write) l_Cache_write c_Cache_write k_Cache_write,
    m_Cache_write := ⟨fi_Cache_write, fn_Cache_write, k_Cache_write⟩,
    b_Cache_write := (fun_mk (st := s_Cache_write) l_Cache_write c_Cache_write k_Cache_write).binds (ps := ["self", "address"]) fun _ _ _ _ _ _ us hl => match us, hl with | [_, _], _ => rfl,
    a_Cache_duplicate := a_Cache_duplicate,
    d_Cache_duplicate := _,
    F_Cache_duplicate := fun_mk (st := s_Cache_duplicate) l_Cache_duplicate c_Cache_duplicate k_Cache_duplicate,
    m_Cache_duplicate := ⟨fi_Cache_duplicate, fn_Cache_duplicate, k_Cache_duplicate⟩,
    b_Cache_duplicate := (fun_mk (st := s_Cache_duplicate) l_Cache_duplicate c_Cache_duplicate k_Cache_duplicate).binds (ps := ["self"]) fun _ _ _ _ _ _ us hl => match us, hl with | [_], _ => rfl,
    a__law_address := a__law_address,
    d__law_address := _,
    F__law_address := fun_mk (st := s__law_address) l__law_address c__law_address k__law_address,
    g__law_address := PySem.W.mg_of X G n__law_address,
    b__law_address := (fun_mk (st := s__law_address) l__law_address c__law_address k__law_address).binds (ps := ["_law_state", "_law_sets", "_law_size"]) fun _ _ _ _ _ _ us hl => match us, hl with | [_, _, _], _ => rfl,
    a__law_contents := a__law_contents,
    d__law_contents := _,
    F__law_contents := fun_mk (st := s__law_contents) l__law_contents c__law_contents k__law_contents,
    g__law_contents := PySem.W.mg_of X G n__law_contents,
    b__law_contents := (fun_mk (st := s__law_contents) l__law_contents c__law_contents k__law_contents).binds (ps := ["_law_uses", "_law_sets", "_law_ways"]) fun _ _ _ _ _ _ us hl => match us, hl with | [_, _, _], _ => rfl,
    a__law_row := a__law_row,
    d__law_row := _,
    F__law_row := fun_mk (st := s__law_row) l__law_row c__law_row k__law_row,
    g__law_row := PySem.W.mg_of X G n__law_row,
    b__law_row := (fun_mk (st := s__law_row) l__law_row c__law_row k__law_row).binds (ps := ["_law_uses", "_law_line", "_law_sets", "_law_ways"]) fun _ _ _ _ _ _ us hl => match us, hl with | [_, _, _, _], _ => rfl,
    a__law_same := a__law_same,
    d__law_same := _,
    F__law_same := fun_mk (st := s__law_same) l__law_same c__law_same k__law_same,
    g__law_same := PySem.W.mg_of X G n__law_same,
    b__law_same := (fun_mk (st := s__law_same) l__law_same c__law_same k__law_same).binds (ps := ["_law_rows", "_law_expected"]) fun _ _ _ _ _ _ us hl => match us, hl with | [_, _], _ => rfl,
    a__law_told := a__law_told,
    d__law_told := _,
    F__law_told := fun_mk (st := s__law_told) l__law_told c__law_told k__law_told,
    g__law_told := PySem.W.mg_of X G n__law_told,
    b__law_told := (fun_mk (st := s__law_told) l__law_told c__law_told k__law_told).binds (ps := ["_law_told_here", "_law_due"]) fun _ _ _ _ _ _ us hl => match us, hl with | [_, _], _ => rfl,
    a_law := a_law,
    d_law := _,
    F_law := fun_mk (st := s_law) l_law c_law k_law,
    g_law := PySem.W.mg_of X G n_law,
    b_law := (fun_mk (st := s_law) l_law c_law k_law).binds (ps := ["_law_script"]) fun _ _ _ _ _ _ us hl => match us, hl with | [_], _ => rfl,
    C_Cache := C_Cache,
    gc_Cache := PySem.W.mg_of X G nc_Cache,
    cl_Cache := ⟨kpg_Cache, khd_Cache, kpo_Cache, ksa_Cache⟩,
    n_Cache_rows := kn_Cache_rows,
    n_Cache_sets := kn_Cache_sets,
    n_Cache_size := kn_Cache_size,
    n_Cache_ways := kn_Cache_ways,
    m_list := PySem.W.mg_none_of X G z_list,
    m_int := PySem.W.mg_none_of X G z_int,
    m_len := PySem.W.mg_none_of X G z_len,
    m_abs := PySem.W.mg_none_of X G z_abs,
    m_range := PySem.W.mg_none_of X G z_range,
    m_min := PySem.W.mg_none_of X G z_min,
    m_bool := PySem.W.mg_none_of X G z_bool,
    m_isinstance := PySem.W.mg_none_of X G z_isinstance,
    p_LINE_SIZES := p_LINE_SIZES,
    c_LINE_SIZES := PySem.W.mg_of X G v_LINE_SIZES,
    l_LINE_SIZES := ⟨_, w_LINE_SIZES, rfl, rfl⟩,
    q_LINE_SIZES := fun H => sqT_lit w_LINE_SIZES y_LINE_SIZES,
    t_MOST_WAYS := t_MOST_WAYS,
    c_MOST_WAYS := PySem.W.mg_of X G v_MOST_WAYS,
    t_MOST_SETS := t_MOST_SETS,
    c_MOST_SETS := PySem.W.mg_of X G v_MOST_SETS }
theorem all_mk {l : PySem.W.OpenLaw} {w : World} {K : PySem.W.Frag} {mg : Str → Option Value} {fa : Addr} (T : Top K mg) (hfa : mg "law" = some (.ref fa)) :
    ∃ fd : FuncData, (∀ (s : Shared) (v : Value), BindsTo s fd ⟨[v], []⟩ [("_law_script", v)]) ∧ ∀ base : Heap, K.In base → base.Ns mainGlobals mg → FnOk l.prog w K mg base CX0 4 fa fd ["_law_script"] (sp_law K) := by
  have e := hfa.symm.trans T.g_law
  cases e
  refine ⟨T.d_law, fun s v => ?_, fun base _ _ => ok_law T⟩
  obtain ⟨oc, od, kV, doc, pm, an, cdv, ct, osl, e, lk, hcd⟩ := T.F_law.ex
  rw [e]
  exact .of_eq rfl
end Mine
open PySem PySem.W PyProof.Rows
set_option maxHeartbeats 0 in
theorem PySem.Challenge.cw_deadbeat_k19_caches_by_age_holds : PySem.Challenge.rw_deadbeat_k19_caches_by_age.Holds := by
  w_on; o_law; k_head; (case hw => w_witness2)
  k_fill
  refine L2.walk_of (l := PySem.Challenge.rw_deadbeat_k19_caches_by_age) (n := 63) (k := 4) (x := "_law_script") (CX := fun _ => L2.CX0) (sp := fun w => Mine.sp_law _) rfl (by decide) rfl ⟨rfl, by decide, by decide⟩ (fun w h Y => PySem.W.kIn_of Y) ?F (fun _ _ a ns hl _ hS => ⟨a, ns, rfl, hS, hl, fun _ => rfl⟩) (fun _ _ _ _ _ h => h)
  case F =>
    intro w mg fa h KX G hmg
    refine' Mine.all_mk (Mine.top_mk (P := PySem.Challenge.rw_deadbeat_k19_caches_by_age.prog) (w := w) KX G ?n__law_start ?n__law_draw ?n__law_address ?n__law_contents ?n__law_row ?n__law_same ?n__law_told ?n_law ?nc_Cache ?l__law_start ?c__law_start ?k__law_start ?l__law_draw ?c__law_draw ?k__law_draw ?fi_Cache_init ?fn_Cache_init ?l_Cache_init ?c_Cache_init ?k_Cache_init ?fi_Cache_holds ?fn_Cache_holds ?l_Cache_holds ?c_Cache_holds ?k_Cache_holds ?fi_Cache_use ?fn_Cache_use ?l_Cache_use ?c_Cache_use ?k_Cache_use ?fi_Cache_read ?fn_Cache_read ?l_Cache_read ?c_Cache_read ?k_Cache_read ?fi_Cache_write ?fn_Cache_write ?l_Cache_write ?c_Cache_write ?k_Cache_write ?fi_Cache_duplicate ?fn_Cache_duplicate ?l_Cache_duplicate ?c_Cache_duplicate ?k_Cache_duplicate ?l__law_address ?c__law_address ?k__law_address ?l__law_contents ?c__law_contents ?k__law_contents ?l__law_row ?c__law_row ?k__law_row ?l__law_same ?c__law_same ?k__law_same ?l__law_told ?c__law_told ?k__law_told ?l_law ?c_law ?k_law ?kpg_Cache ?khd_Cache ?kpo_Cache ?ksa_Cache ?kmk_Cache ?kkc_Cache ?kn_Cache_rows ?kn_Cache_sets ?kn_Cache_size ?kn_Cache_ways ?z_list ?z_int ?z_len ?z_abs ?z_range ?z_min ?z_bool ?z_isinstance ?v_LINE_SIZES ?w_LINE_SIZES ?y_LINE_SIZES ?v_MOST_WAYS ?v_MOST_SETS) hmg
    (case n__law_start => k_is); (case n__law_draw => k_is); (case n__law_address => k_is); (case n__law_contents => k_is); (case n__law_row => k_is); (case n__law_same => k_is); (case n__law_told => k_is); (case n_law => k_is); (case nc_Cache => k_is); (case l__law_start => k_is); (case c__law_start => k_is); (case k__law_start => k_is); (case l__law_draw => k_is); (case c__law_draw => k_is); (case k__law_draw => k_is); (case fi_Cache_init => k_is); (case fn_Cache_init => k_is); (case l_Cache_init => k_is); (case c_Cache_init => k_is); (case k_Cache_init => k_is); (case fi_Cache_holds => k_is); (case fn_Cache_holds => k_is); (case l_Cache_holds => k_is); (case c_Cache_holds => k_is); (case k_Cache_holds => k_is); (case fi_Cache_use => k_is); (case fn_Cache_use => k_is); (case l_Cache_use => k_is); (case c_Cache_use => k_is); (case k_Cache_use => k_is); (case fi_Cache_read => k_is); (case fn_Cache_read => k_is); (case l_Cache_read => k_is); (case c_Cache_read => k_is); (case k_Cache_read => k_is); (case fi_Cache_write => k_is); (case fn_Cache_write => k_is); (case l_Cache_write => k_is); (case c_Cache_write => k_is); (case k_Cache_write => k_is); (case fi_Cache_duplicate => k_is); (case fn_Cache_duplicate => k_is); (case l_Cache_duplicate => k_is); (case c_Cache_duplicate => k_is); (case k_Cache_duplicate => k_is); (case l__law_address => k_is); (case c__law_address => k_is); (case k__law_address => k_is); (case l__law_contents => k_is); (case c__law_contents => k_is); (case k__law_contents => k_is); (case l__law_row => k_is); (case c__law_row => k_is); (case k__law_row => k_is); (case l__law_same => k_is); (case c__law_same => k_is); (case k__law_same => k_is); (case l__law_told => k_is); (case c__law_told => k_is); (case k__law_told => k_is); (case l_law => k_is); (case c_law => k_is); (case k_law => k_is); (case kpg_Cache => k_is); (case khd_Cache => k_is); (case kpo_Cache => k_is); (case ksa_Cache => k_is); (case kmk_Cache => k_is); (case kkc_Cache => k_is); (case kn_Cache_rows => k_is); (case kn_Cache_sets => k_is); (case kn_Cache_size => k_is); (case kn_Cache_ways => k_is); (case z_list => k_is); (case z_int => k_is); (case z_len => k_is); (case z_abs => k_is); (case z_range => k_is); (case z_min => k_is); (case z_bool => k_is); (case z_isinstance => k_is); (case v_LINE_SIZES => k_is); (case w_LINE_SIZES => k_is); (case y_LINE_SIZES => first | k_is | (repeat (first | exact .nil | refine .cons ⟨_, rfl⟩ ?_))); (case v_MOST_WAYS => k_is); (case v_MOST_SETS => k_is)

