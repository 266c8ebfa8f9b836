import PyProof.Rows.All
import Wide.All
import OpenK.AllK
import Wide.FinOn
import HandS.ForMost
import HandS.ForExc
import HandS.Walk
import KE.GoesMore
import KE.GoesEnum
import HandS.StrMore
import HandS.IsInst
import KE.KxStill
import HandS.Star
import HandS.ClsMeth
import HandS.MakeKwOnly
import HandS.Set
import HandS.Strs
import HandS.SetFor
import HandS.ExcInit
import HandS.DictComp
import HandS.OwnEq
import KE.KCallOwn
import PyProof.InstEq
import PyProof.ListTruth
import PyProof.Conv_bool
import PyProof.ListNew
import HandS.Deep
import HandS.RaiseMore
import PyProof.ReprRoads
import KE.DatumIndex
import PyProof.ReprLen
import PyProof.StrLawsRepr
import HandS.FStr
import HandS.Property
import HandS.Small
import HandS.WordsExc
import KE.KOpsOwn
import HandS.SlotsOwn
import PyProof.Rows.StrMeet
import HandS.TupAny
import PyProof.NeKinds
import HandS.ExcIs
import KE.KTryMore
import PyProof.Rows.FactsN_abs
import HandS.HotCalls
import HandS.Dict
import HandS.Lambda
import HandS.NoneIn
import HandS.ExcField
import HandS.Flow
import HandS.ReplaceList
import HandS.ReplaceLit
import HandS.Defaults
import HandS.ListItems
import HandS.Conv
import KE.KDictList
import KE.KFmtOwn
import HandS.Text
import HandS.EndTab
import KE.KSortAny
import KE.OsRunLaw
import PySem.Challenge.RW_onemember_k07_facts
set_option Elab.async false
set_option linter.all false
set_option maxRecDepth 100000
set_option maxHeartbeats 4000000
namespace K1
open PySem PySem.Spec
open PyProof.Rows L2
/-! ### the text by places -/
def top (i : Nat) : Stmt := PySem.Challenge.pw_onemember_k07_facts.main.body.getD i (.Pass ⟨0, 0, 0, 0⟩)
abbrev s__wall : Stmt := top 0
abbrev sErrMem : Stmt := inClass (top 5) 0
abbrev sErrChg : Stmt := inClass (top 6) 0
abbrev s_NotAnExpression___init__ : Stmt := inClass (top 7) 0
abbrev s_InvalidForm___init__ : Stmt := inClass (top 8) 0
abbrev sErrText : Stmt := inClass (top 9) 0
abbrev s_UnknownField___init__ : Stmt := inClass (top 10) 0
abbrev sErrNames : Stmt := inClass (top 11) 0
abbrev s_InvalidSets___init__ : Stmt := inClass (top 12) 0
abbrev s_TooManyLeaves___init__ : Stmt := inClass (top 14) 0
abbrev s_TooManyLevels___init__ : Stmt := inClass (top 15) 0
abbrev sIsName : Stmt := top 20
abbrev sWrong : Stmt := top 21
abbrev s_is_field : Stmt := top 26
abbrev s_form_size : Stmt := top 27
abbrev s_is_triple : Stmt := top 28
abbrev s_check_leaves : Stmt := top 29
abbrev s_check_depth : Stmt := top 30
abbrev s_form_text : Stmt := top 31
abbrev s_side_text : Stmt := top 32
abbrev s_read_counted : Stmt := top 33
abbrev s_take_word : Stmt := top 34
abbrev s_joined : Stmt := top 35
abbrev s_form_leaves : Stmt := top 36
abbrev s_form_fields : Stmt := top 37
abbrev s_form_value : Stmt := top 38
abbrev sInit : Stmt := inClass (top 40) 0
abbrev sFromN : Stmt := inClass (top 40) 1
abbrev sReadM : Stmt := inClass (top 40) 2
abbrev sNamesP : Stmt := inClass (top 40) 3
abbrev sStrM : Stmt := inClass (top 40) 4
abbrev sReprM : Stmt := inClass (top 40) 5
abbrev sLenM : Stmt := inClass (top 40) 6
abbrev sIterM : Stmt := inClass (top 40) 7
abbrev sHasM : Stmt := inClass (top 40) 8
abbrev sEqM : Stmt := inClass (top 40) 9
abbrev sOrM : Stmt := inClass (top 40) 10
abbrev sAndM : Stmt := inClass (top 40) 11
abbrev sSubM : Stmt := inClass (top 40) 12
abbrev sXorM : Stmt := inClass (top 40) 13
abbrev sIorM : Stmt := inClass (top 40) 14
abbrev sIandM : Stmt := inClass (top 40) 15
abbrev sIsubM : Stmt := inClass (top 40) 16
abbrev sIxorM : Stmt := inClass (top 40) 17
abbrev sLeM : Stmt := inClass (top 40) 18
abbrev sLtM : Stmt := inClass (top 40) 19
abbrev sGeM : Stmt := inClass (top 40) 20
abbrev sGtM : Stmt := inClass (top 40) 21
abbrev sAddM : Stmt := inClass (top 40) 22
abbrev sInitC : Stmt := inClass (top 41) 0
abbrev sBetC : Stmt := inClass (top 41) 1
abbrev sCameP : Stmt := inClass (top 41) 2
abbrev sWentP : Stmt := inClass (top 41) 3
abbrev sReprC : Stmt := inClass (top 41) 4
abbrev sBoolC : Stmt := inClass (top 41) 5
abbrev sAbsC : Stmt := inClass (top 41) 6
abbrev sEqC : Stmt := inClass (top 41) 7
abbrev sNegC : Stmt := inClass (top 41) 8
abbrev sAddC : Stmt := inClass (top 41) 9
abbrev sChkM : Stmt := top 42
abbrev sChkC : Stmt := top 43
abbrev s_Expression___init__ : Stmt := inClass (top 45) 0
abbrev s_Expression_read : Stmt := inClass (top 45) 1
abbrev s_Expression_form : Stmt := inClass (top 45) 2
abbrev s_Expression_leaves : Stmt := inClass (top 45) 3
abbrev s_Expression_depth : Stmt := inClass (top 45) 4
abbrev s_Expression_fields : Stmt := inClass (top 45) 5
abbrev s_Expression_has_given : Stmt := inClass (top 45) 6
abbrev s_Expression___str__ : Stmt := inClass (top 45) 7
abbrev s_Expression___repr__ : Stmt := inClass (top 45) 8
abbrev s_Expression___eq__ : Stmt := inClass (top 45) 9
abbrev s_Expression___or__ : Stmt := inClass (top 45) 10
abbrev s_Expression___and__ : Stmt := inClass (top 45) 11
abbrev s_Expression___sub__ : Stmt := inClass (top 45) 12
abbrev s_Expression___xor__ : Stmt := inClass (top 45) 13
abbrev s_Expression_within : Stmt := inClass (top 45) 14
abbrev s_Expression_of : Stmt := inClass (top 45) 15
abbrev s_Expression_meets : Stmt := inClass (top 45) 16
abbrev s_Fact___init__ : Stmt := inClass (top 46) 0
abbrev s_Fact_read : Stmt := inClass (top 46) 1
abbrev s_Fact_left : Stmt := inClass (top 46) 2
abbrev s_Fact_right : Stmt := inClass (top 46) 3
abbrev s_Fact_form : Stmt := inClass (top 46) 4
abbrev s_Fact_fields : Stmt := inClass (top 46) 5
abbrev s_Fact_has_given : Stmt := inClass (top 46) 6
abbrev s_Fact___str__ : Stmt := inClass (top 46) 7
abbrev s_Fact___repr__ : Stmt := inClass (top 46) 8
abbrev s_Fact___eq__ : Stmt := inClass (top 46) 9
abbrev s_Fact_is_kept : Stmt := inClass (top 46) 10
abbrev s_fields_of_two : Stmt := top 47
abbrev s_check_expression : Stmt := top 48
abbrev s_with_sign : Stmt := top 49
abbrev s_all_sets : Stmt := top 50
abbrev s_field_sets : Stmt := top 51
abbrev s_is_field_set : Stmt := top 52
abbrev sCell : Stmt := top 54
abbrev sPool : Stmt := top 55
abbrev sDraw : Stmt := top 56
abbrev sNames : Stmt := top 57
abbrev s_L_form : Stmt := top 58
abbrev s_L_in : Stmt := top 59
abbrev sCaught : Stmt := top 60
abbrev s_L_words : Stmt := top 61
abbrev s_L_sets : Stmt := top 62
abbrev s_L_kept : Stmt := top 63
abbrev s_L_one_right : Stmt := top 64
abbrev s_L_errors_right : Stmt := top 65
abbrev sRight : Stmt := top 66
abbrev sLaw : Stmt := top 67
abbrev sIsField : Stmt := top 26
abbrev sSize : Stmt := top 27
abbrev sTriple : Stmt := top 28
abbrev sChkL : Stmt := top 29
abbrev sChkD : Stmt := top 30
abbrev sText : Stmt := top 31
abbrev sSide : Stmt := top 32
abbrev sReadC : Stmt := top 33
abbrev sTake : Stmt := top 34
abbrev sJoined : Stmt := top 35
abbrev sLeavesF : Stmt := top 36
abbrev sFieldsF : Stmt := top 37
abbrev sInitE : Stmt := inClass (top 45) 0
abbrev sReadE : Stmt := inClass (top 45) 1
abbrev sFormP : Stmt := inClass (top 45) 2
abbrev sLeavesP : Stmt := inClass (top 45) 3
abbrev sDepthP : Stmt := inClass (top 45) 4
abbrev sFieldsP : Stmt := inClass (top 45) 5
abbrev sGivenP : Stmt := inClass (top 45) 6
abbrev sStrE : Stmt := inClass (top 45) 7
abbrev sReprE : Stmt := inClass (top 45) 8
abbrev sEqE : Stmt := inClass (top 45) 9
abbrev sOrE : Stmt := inClass (top 45) 10
abbrev sAndE : Stmt := inClass (top 45) 11
abbrev sSubE : Stmt := inClass (top 45) 12
abbrev sXorE : Stmt := inClass (top 45) 13
abbrev sWithin : Stmt := inClass (top 45) 14
abbrev sInitF : Stmt := inClass (top 46) 0
abbrev sReadF : Stmt := inClass (top 46) 1
abbrev sLeftP : Stmt := inClass (top 46) 2
abbrev sRightP : Stmt := inClass (top 46) 3
abbrev sFormF : Stmt := inClass (top 46) 4
abbrev sFieldsFa : Stmt := inClass (top 46) 5
abbrev sGivenF : Stmt := inClass (top 46) 6
abbrev sStrF : Stmt := inClass (top 46) 7
abbrev sReprF : Stmt := inClass (top 46) 8
abbrev sEqF : Stmt := inClass (top 46) 9
abbrev sKept : Stmt := inClass (top 46) 10
abbrev sChkE : Stmt := top 48
abbrev sSign : Stmt := top 49
abbrev sForm : Stmt := top 58
abbrev sWords : Stmt := top 61
end K1
namespace K1
open PySem PySem.Spec
open PyProof.Rows L2
/-! ### which names are the built-ins' -/
structure Free (mg : Str → Option Value) : Prop where
  len : mg "len" = none
  int : mg "int" = none
  abs : mg "abs" = none
  range : mg "range" = none
  list : mg "list" = none
  str : mg "str" = none
  set : mg "set" = none
  sorted : mg "sorted" = none
  tuple : mg "tuple" = none
  isinstance : mg "isinstance" = none
  enumerate : mg "enumerate" = none
  repr : mg "repr" = none
  bool : mg "bool" = none
  any : mg "any" = none
  all : mg "all" = none
  max : mg "max" = none
  min : mg "min" = none
/-! ### the pool: a list of three ints -/
def PoolAt (H : Hp) (p : Addr) : Prop := ∃ a b c : Int, H p = some (.lst [.int a, .int b, .int c])
def spCell (K : PySem.W.Frag) : Sp := fun vs H Q _ => ∃ (a : Addr) (ns : List Int) (k : Nat), vs = [.ref a, .int k] ∧ SqL K H a (ns.map V.int) ∧ ∀ z : Int, Q (.int z) H
def spPool : Sp := fun vs H Q _ => ∃ z : Int, vs = [.int z] ∧ ∀ p, H p = none → ∀ a b c : Int, Q (.ref p) (upd H p (.lst [.int a, .int b, .int c]))
/-- all but the pool stays, the pool is a pool -/
structure Ext (p : Addr) (H H' : Hp) : Prop where
  pool : PoolAt H' p
  keep : ∀ b o, b ≠ p → H b = some o → H' b = some o
theorem PoolAt.ne {H : Hp} {p q : Addr} (h : PoolAt H p) (n : H q = none) : q ≠ p := fun e => by
  obtain ⟨a, b, c, h⟩ := h
  rw [e, h] at n
  cases n
theorem Ext.refl {p : Addr} {H : Hp} (h : PoolAt H p) : Ext p H H := ⟨h, fun _ _ _ e => e⟩
theorem Ext.trans {p : Addr} {H H1 H2 : Hp} (a : Ext p H H1) (b : Ext p H1 H2) : Ext p H H2 := ⟨b.pool, fun c o n e => b.keep c o n (a.keep c o n e)⟩
theorem Ext.free {p q : Addr} {H H' : Hp} (e : Ext p H H') (n : H' q = none) : H q = none := by
  have n2 := e.pool.ne n
  cases h : H q with
  | none => rfl
  | some o =>
    rw [e.keep q o n2 h] at n
    cases n
theorem Ext.same {p : Addr} {H H1 H2 : Hp} (a : Ext p H H1) (s : Same H1 H2) : Ext p H H2 := ⟨by
  obtain ⟨x, y, z, h⟩ := a.pool
  exact ⟨x, y, z, s _ _ h⟩, fun c o n e => s c o (a.keep c o n e)⟩
theorem same_upd {H : Hp} {p : Addr} {o : HO} (h : H p = none) : Same H (upd H p o) := fun b x e => by
  rw [upd_ne (ne_of_none e h)]
  exact e
theorem Ext.of {p : Addr} {H : Hp} (a b c : Int) : Ext p H (upd H p (.lst [.int a, .int b, .int c])) := ⟨⟨a, b, c, upd_same⟩, fun d o n e => by
  rw [upd_ne n]
  exact e⟩
theorem Ext.at {p q : Addr} {H H' : Hp} {o : HO} (e : Ext p H H') (n : q ≠ p) (h : H q = some o) : H' q = some o := e.keep q o n h
def spDraw : Sp := fun vs H Q _ => ∃ (p : Addr) (m : Int), vs = [.ref p, .int m] ∧ PoolAt H p ∧ 0 < m ∧ m < 1000 ∧ ∀ (d : Int) (H' : Hp), Ext p H H' → 0 ≤ d → d < m → Q (.int d) H'
section
variable {w : World} {P : Program}
variable {base : Heap} {mg : Str → Option Value} {K : PySem.W.Frag}
theorem scCell : FnScope ["_law_cells", "_law_k", "_law_mixed", "_law_cell_here"] ["_law_cells", "_law_k"] (defScope sCell) := ⟨rfl, rfl, rfl, by decide +kernel, rfl, by decide +kernel, by decide +kernel⟩
theorem ok_cell {f : Addr} {fd : FuncData} (F : Fun K "_law_cell" "_law_cell" sCell f fd) (T : Free mg) : FnOk P w K mg base CX0 1 f fd ["_law_cells", "_law_k"] (spCell K) := by
  refine F.ok scCell (fun vs H Q E h => ?_) (fun cdv A outer s H vs Q E hr h => ?_)
  · obtain ⟨a, ns, k, rfl, _⟩ := h
    rfl
  · obtain ⟨a, ns, k, rfl, hS, q⟩ := h
    refine ⟨_, pss_cons (ps_if (pt_cmpR op_lt (pv 1) (pe_callB call_len_seq (by rfl) T.len PySem.boot_len (pa_cons (pv 0) pa_nil)) (nomark _)) (pss_one (ps_ret (pe_ix ix_list (pv 0) (pv 1) (fun _ _ => rfl)))) pss_nil)
      (pss_cons (ps_set (i := 2) scCell.nd rfl (.inl rfl) (pe_op op_add pe_int (pe_op op_mul pe_int (pv 1))))
      (pss_cons (ps_for PassesOwn.never rfl (pi_list (pv 0)) (pg_name (i := 3) scCell.nd rfl (.inl rfl))
        (pss_one (ps_set (i := 2) scCell.nd rfl (.inl rfl) (pe_op op_mod (pe_callTy call_int1 (by rfl) T.int (by decide +kernel) (pa_cons (pe_op op_add (pe_op op_mul (pv 2) pe_int) (pe_callB call_abs (by rfl) T.abs (by decide +kernel) (pa_cons (pv 3) pa_nil))) pa_nil)) pe_int))))
      (pss_one (ps_ret (pe_op op_add (pe_op op_mul (pv 2) pe_int) (pv 1)))))), ?_⟩
    refine ⟨_, rfl, _, rfl, a, _, rfl, .inl hS, _, _, rfl, rfl, _, rfl, ?_⟩
    by_cases hk : (k : Int) < ((ns.map V.int).length : Nat)
    · rw [decide_eq_true hk]
      refine iteT ⟨_, rfl, _, rfl, a, _, _, V.int (ns.getD k 0), rfl, rfl, hS, ?_, q _⟩
      have hk2 : k < ns.length := by
        rw [List.length_map] at hk
        omega
      exact atI_nat (by rw [List.getElem?_map, List.getElem?_eq_getElem hk2, List.getD_eq_getElem?_getD, List.getElem?_eq_getElem hk2]; rfl)
    · rw [decide_eq_false hk]
      refine iteF ?_
      refine ⟨_, rfl, _, _, rfl, rfl, .inl (by decide), _, _, rfl, rfl, ?_⟩
      refine ⟨_, rfl, a, rfl, ⟨_, hS⟩, ?_⟩
      refine for_list (xs := ns.map V.int) (K := K) (a := a) (fun i σ H' => H' = H ∧ ∃ (z : Int) (o : Option V), σ = [some (.ref a), some (.int k), some (.int z), o]) ?_ ?_ ?_ ?_
      · exact ⟨rfl, _, none, rfl⟩
      · rintro i σ H' hi ⟨rfl, _⟩
        exact hS
      · rintro i x σ H' hx ⟨rfl, z, o, rfl⟩
        rw [List.getElem?_map] at hx
        obtain ⟨n, _, rfl⟩ := Option.map_eq_some_iff.mp hx
        refine ⟨_, rfl, _, _, rfl, rfl, .inr (by decide), ?_⟩
        refine ⟨_, rfl, n, rfl, _, _, rfl, rfl, ?_⟩
        refine .inl ⟨_, rfl, _, _, rfl, rfl, (by show (0 : Int) < 2147483629; decide), ?_⟩
        exact ⟨rfl, _, _, rfl⟩
      · rintro σ H' ⟨rfl, z, o, rfl⟩
        refine ⟨_, rfl, _, _, rfl, rfl, .inr (by decide), _, rfl, _, _, rfl, rfl, q _⟩
theorem scPool : FnScope ["_law_cell_here"] ["_law_cell_here"] (defScope sPool) := ⟨rfl, rfl, rfl, by decide +kernel, rfl, by decide +kernel, by decide +kernel⟩
theorem ok_pool {f : Addr} {fd : FuncData} (F : Fun K "_law_pool" "_law_pool" sPool f fd) (T : Free mg) : FnOk P w K mg base CX0 1 f fd ["_law_cell_here"] spPool := by
  refine F.ok scPool (fun vs H Q E h => ?_) (fun cdv A outer s H vs Q E hr h => ?_)
  · obtain ⟨z, rfl, _⟩ := h
    rfl
  · obtain ⟨z, rfl, q⟩ := h
    refine ⟨_, pss_one (ps_ret (pe_lst (pa_cons (pe_op op_mod (pe_callTy call_int1 (by rfl) T.int (by decide +kernel) (pa_cons (pv 0) pa_nil)) pe_int)
      (pa_cons (pe_ifExp (PW.pt (pw_or (pt_cmpR op_lt (pv 0) pe_int (nomark _)) (pw_or1 (pt_cmpR op_ge (pv 0) (pe_op op_pow pe_int pe_int) (nomark _))))) (pe_callB call_abs (by rfl) T.abs (by decide +kernel) (pa_cons (pv 0) pa_nil)) pe_int)
      (pa_cons pe_int pa_nil))))), ?_⟩
    refine ⟨_, rfl, .inl ⟨_, rfl, _, _, rfl, rfl, (by show (0 : Int) < 2147483629; decide), ?_⟩⟩
    have fin : ∀ b : Int, ([V.int (z % 2147483629), V.int b, V.int 0] : List V).length ≤ sizeLine ∧ ∀ p, H p = none → Q (.ref p) (upd H p (.lst [V.int (z % 2147483629), V.int b, V.int 0])) := fun b => ⟨by show 3 ≤ sizeLine; decide, fun p hp => q p hp _ _ _⟩
    refine ⟨_, rfl, _, _, rfl, rfl, _, rfl, ?_⟩
    refine ite2 (fun _ => ?_) (fun _ => ?_)
    · refine iteT ⟨_, rfl, _, rfl, fin _⟩
    · refine ⟨_, rfl, _, _, rfl, rfl, ⟨by decide, by decide, by decide⟩, _, _, rfl, rfl, _, rfl, ?_⟩
      refine ite2 (fun _ => ?_) (fun _ => ?_)
      · exact ⟨_, rfl, _, rfl, fin _⟩
      · exact fin 0
theorem scDraw : FnScope ["_law_pool_here", "_law_many", "_law_mixed", "_law_digit"] ["_law_pool_here", "_law_many"] (defScope sDraw) := ⟨rfl, rfl, rfl, by decide +kernel, rfl, by decide +kernel, by decide +kernel⟩
theorem at3 {a b c : V} {j : Nat} {v : V} (h : [a, b, c][j]? = some v) : atI [a, b, c] (j : Int) = some v := atI_nat h
theorem ok_draw {f : Addr} {fd : FuncData} (F : Fun K "_law_draw" "_law_draw" sDraw f fd) (T : Free mg) : FnOk P w K mg base CX0 1 f fd ["_law_pool_here", "_law_many"] spDraw := by
  refine F.ok scDraw (fun vs H Q E h => ?_) (fun cdv A outer s H vs Q E hr h => ?_)
  · obtain ⟨p, m, rfl, _⟩ := h
    rfl
  · obtain ⟨p, m, rfl, ⟨a, b, c, hp⟩, hm, hm2, q⟩ := h
    refine ⟨_, pss_cons (ps_asg (pe_op op_add (pe_ix ix_list (pv 0) pe_int (fun _ _ => rfl)) pe_int) (pg_sub (pv 0) pe_int set_list))
      (pss_cons (ps_set (i := 2) scDraw.nd rfl (.inl rfl) (pe_op op_mod (pe_callTy call_int1 (by rfl) T.int (by decide +kernel) (pa_cons (pe_op op_add (pe_op op_mul (pe_ix ix_list (pv 0) pe_int (fun _ _ => rfl)) pe_int) (pe_op op_mul (pe_ix ix_list (pv 0) pe_int (fun _ _ => rfl)) pe_int)) pa_nil)) pe_int))
      (pss_cons (ps_asg (pe_op op_mod (pe_callTy call_int1 (by rfl) T.int (by decide +kernel) (pa_cons (pe_op op_add (pe_op op_mul (pv 2) (pe_op op_add (pe_op op_fdiv (pv 2) pe_int) pe_int)) pe_int) pa_nil)) pe_int) (pg_sub (pv 0) pe_int set_list))
      (pss_cons (ps_if (pt_cmpR op_gt (pe_ix ix_list (pv 0) pe_int (fun _ _ => rfl)) pe_int (nomark _))
          (pss_cons (ps_set (i := 3) scDraw.nd rfl (.inl rfl) (pe_op op_modN (pe_callTy call_int1 (by rfl) T.int (by decide +kernel) (pa_cons (pe_ix ix_list (pv 0) pe_int (fun _ _ => rfl)) pa_nil)) (pv 1)))
          (pss_cons (ps_asg (pe_op op_fdivN (pe_callTy call_int1 (by rfl) T.int (by decide +kernel) (pa_cons (pe_ix ix_list (pv 0) pe_int (fun _ _ => rfl)) pa_nil)) (pv 1)) (pg_sub (pv 0) pe_int set_list))
          (pss_one (ps_ret (pv 3))))) pss_nil)
      (pss_one (ps_ret (pe_op op_modN (pe_callTy call_int1 (by rfl) T.int (by decide +kernel) (pa_cons (pe_op op_fdiv (pe_ix ix_list (pv 0) pe_int (fun _ _ => rfl)) pe_int) pa_nil)) (pv 1))))))), ?_⟩
    -- pool[2] = pool[2] + 1
    refine ⟨_, rfl, p, _, _, _, rfl, rfl, SqL.of hp, at3 (j := 2) rfl, _, _, rfl, rfl, _, rfl, p, _, _, 2, rfl, rfl, hp, rfl, ?_⟩
    generalize e1 : upd H p _ = H1
    have h1 : H1 p = some (.lst [.int a, .int b, .int (c + 1)]) := by rw [← e1]; exact upd_same
    have x1 : Ext p H H1 := by rw [← e1]; exact Ext.of a b (c + 1)
    clear e1
    -- mixed
    refine ⟨_, rfl, p, _, _, _, rfl, rfl, SqL.of h1, at3 (j := 0) rfl, _, _, rfl, rfl, .inr (by decide), ?_⟩
    refine ⟨_, rfl, p, _, _, _, rfl, rfl, SqL.of h1, at3 (j := 2) rfl, _, _, rfl, rfl, .inr (by decide), ?_⟩
    refine ⟨_, _, rfl, rfl, .inl ⟨_, rfl, _, _, rfl, rfl, (by show (0 : Int) < 2147483629; decide), ?_⟩⟩
    have hx : ∃ x : Int, x = (a * 48271 + (c + 1) * 69997) % 2147483629 ∧ 0 ≤ x ∧ x < 2147483629 := ⟨_, rfl, by omega, by omega⟩
    obtain ⟨x, ex, x0, xl⟩ := hx
    show tSeq _ _ _ (List.set _ _ (some (V.int ((a * 48271 + (c + 1) * 69997) % 2147483629)))) H1
    rw [← ex]
    -- pool[0]
    refine ⟨_, rfl, _, rfl, _, _, rfl, rfl, ⟨by decide, by decide⟩, _, _, rfl, rfl, _, _, rfl, rfl, .inl ⟨by omega, by omega⟩, _, _, rfl, rfl, .inl ⟨_, rfl, _, _, rfl, rfl, (by show (0 : Int) < 2147483629; decide), ?_⟩⟩
    refine ⟨_, rfl, p, _, _, 0, rfl, rfl, h1, rfl, ?_⟩
    generalize e2 : upd H1 p _ = H2
    obtain ⟨a2, h2, x2⟩ : ∃ a2 : Int, H2 p = some (.lst [.int a2, .int b, .int (c + 1)]) ∧ Ext p H H2 := ⟨(x * (x / 7 + 30011) + 12345) % 2147483629, by rw [← e2]; exact upd_same, x1.trans (by rw [← e2]; exact Ext.of _ b (c + 1))⟩
    clear e2
    -- the digits
    refine ⟨_, rfl, p, _, _, _, rfl, rfl, SqL.of h2, at3 (j := 1) rfl, _, _, rfl, rfl, _, rfl, ?_⟩
    have md : ∀ y : Int, 0 ≤ y.fmod m ∧ y.fmod m < m := fun y => ⟨Int.fmod_nonneg_of_pos _ hm, Int.fmod_lt_of_pos _ hm⟩
    refine ite2 (fun _ => ?_) (fun _ => ?_)
    · refine ⟨_, rfl, p, _, _, _, rfl, rfl, SqL.of h2, at3 (j := 1) rfl, .inl ⟨_, rfl, _, rfl, _, _, rfl, rfl, (by omega), ?_⟩⟩
      refine ⟨_, rfl, p, _, _, _, rfl, rfl, SqL.of h2, at3 (j := 1) rfl, .inl ⟨_, rfl, _, rfl, _, _, rfl, rfl, ⟨by omega, by omega⟩, ?_⟩⟩
      refine ⟨_, rfl, p, _, _, 1, rfl, rfl, h2, rfl, _, rfl, ?_⟩
      exact q _ _ (x2.trans (Ext.of a2 _ (c + 1))) (md _).1 (md _).2
    · refine ⟨_, rfl, p, _, _, _, rfl, rfl, SqL.of h2, at3 (j := 0) rfl, _, _, rfl, rfl, ⟨by decide, by decide⟩, .inl ⟨_, rfl, _, rfl, _, _, rfl, rfl, (by omega), ?_⟩⟩
      exact q _ _ x2 (md _).1 (md _).2
end
end K1
namespace K1
open PySem PySem.Spec PyProof.Rows L2 TL
/-! ### tags: texts of one to three lower-case letters -/
def Low (z : Str) : Prop := ∀ c ∈ tl z, 97 ≤ c ∧ c ≤ 122
structure Tag (z : Str) : Prop where
  lo : 1 ≤ (tl z).length
  hi : (tl z).length ≤ 3
  low : Low z
/-- a sign's text -/
abbrev sg (c : Nat) : Str := ⟨#[c]⟩
theorem len_tl (z : Str) : z.length = (tl z).length := by simp [Str.length]
theorem joinL_sg : ∀ cs : List Nat, joinL [] (cs.map fun c => [c]) = cs
  | [] => rfl
  | [c] => rfl
  | c :: d :: r => by
    show [c] ++ ([] ++ joinL [] ((d :: r).map fun c => [c])) = c :: d :: r
    rw [joinL_sg (d :: r)]
    rfl
theorem join_sg (cs : List Nat) : tl (Txt.join (Str.ofString "") (cs.map sg)) = cs := by
  rw [join_eq, tl_join, List.map_map]
  have e : tl (Str.ofString "") = [] := by decide +kernel
  rw [e]
  exact joinL_sg cs
abbrev letters : Str := Str.ofString "abcdefghijklmnopqrstuvwxyz"
theorem letters_len : letters.length = 26 := by decide +kernel
theorem letters_cps : letters.cps = (((List.range 26).map fun i => 97 + i).toArray) := by decide +kernel
theorem letters_at {i : Nat} (h : i < 26) : letters.cps[i]? = some (97 + i) := by
  rw [letters_cps]
  simp [h]
theorem sum_sg : ∀ cs : List Nat, ((cs.map sg).map (·.length)).sum = cs.length
  | [] => rfl
  | c :: r => by
    have ih := sum_sg r
    rw [List.map_cons, List.map_cons, List.sum_cons, ih, List.length_cons]
    show 1 + r.length
        = r.length + 1
    omega
theorem nodup_at {zs : List Str} {t : Nat} {b : Int} (hl : zs.length ≤ 26) (h : ∀ (k : Nat) (z : Str), zs[k]? = some z → (tl z)[t]? = some (97 + ((b + (0 + (k : Int))) % 26).toNat)) : zs.Nodup := by
  refine List.pairwise_iff_getElem.mpr fun i j hi hj hij e => ?_
  have a := h i _ (List.getElem?_eq_getElem hi)
  have b := h j _ (List.getElem?_eq_getElem hj)
  rw [e] at a
  have c := Option.some.inj (a.symm.trans b)
  omega
def spNames : Sp := fun vs H Q _ => ∃ (p : Addr) (m : Nat), vs = [.ref p, .int m] ∧ PoolAt H p ∧ m ≤ 26 ∧ ∀ (q : Addr) (zs : List Str) (H' : Hp), Ext p H H' → H q = none → H' q = some (.lst (zs.map V.str)) → zs.length = m → (∀ z ∈ zs, Tag z) → zs.Nodup → Q (.ref q) H'
section
variable {w : World} {P : Program}
variable {base : Heap} {mg : Str → Option Value} {K : PySem.W.Frag}
abbrev nmNames : List Str := ["_law_pool_here", "_law_many", "_law_letters", "_law_found", "_law_k", "_law_stem", "_law_at", "_law_base", "_law_own"]
theorem scNames : FnScope nmNames ["_law_pool_here", "_law_many"] (defScope sNames) := ⟨rfl, rfl, rfl, by decide +kernel, rfl, by decide +kernel, by decide +kernel⟩
theorem ok_names {f fD : Addr} {fd fdD : FuncData} (F : Fun K "_law_names" "_law_names" sNames f fd) (T : Free mg) (FD : Fun K "_law_draw" "_law_draw" sDraw fD fdD) (mgD : mg "_law_draw" = some (.ref fD)) :
    FnOk P w K mg base CX0 2 f fd ["_law_pool_here", "_law_many"] spNames := by
  have GD : FnOk P w K mg base CX0 1 fD fdD ["_law_pool_here", "_law_many"] spDraw := ok_draw FD T
  have bD : Binds K fdD ["_law_pool_here", "_law_many"] [] := FD.binds (ps := ["_law_pool_here", "_law_many"]) fun _ _ _ _ _ _ us hl => match us, hl with | [_, _], _ => rfl
  refine F.ok scNames (fun vs H Q E h => ?_) (fun cdv A outer s H vs Q E hr h => ?_)
  · obtain ⟨p, m, rfl, _⟩ := h
    rfl
  · obtain ⟨p, m, rfl, hp, hm, q⟩ := h
    refine ⟨_, pss_cons (ps_asg (pe_tup (pa_cons pe_str (pa_cons (pe_lst pa_nil) pa_nil))) (pg_tup rfl (pgs_cons (pg_name (i := 2) scNames.nd rfl (.inr rfl)) (pgs_cons (pg_name (i := 3) scNames.nd rfl (.inl rfl)) pgs_nil))))
      (pss_cons (ps_setLc (i := 5) (own := [("_law_k", 4)]) (g := gName 4) rfl scNames.nd rfl rfl (sw_true rfl rfl rfl (by decide +kernel))
          (pi_range1 rfl T.range (pa_cons (pe_op op_add pe_int (pe_call GD hr rfl mgD FD.kp bD .nil pass0 (pa_cons (pv 0) (pa_cons pe_int pa_nil)))) pa_nil))
          (blkOk_by (own := [("_law_k", 4)]) (N := nmNames) (sc := defScope sNames) (by decide +kernel)) (fun _ _ _ _ _ => pg_name (i := 4) scNames.nd rfl (Or.inl rfl)) (fun _ _ _ _ _ => pts_nil)
          (fun _ _ _ _ _ => pe_item_str (pv 2) (pe_call GD hr rfl mgD FD.kp bD .nil pass0 (pa_cons (pv 0) (pa_cons pe_int pa_nil))) (fun _ _ => rfl)))
      (pss_cons (ps_par (i := 6) (j := 7) rfl scNames.nd rfl rfl (by decide) rfl rfl (pa_cons (pe_call GD hr rfl mgD FD.kp bD .nil pass0 (pa_cons (pv 0) (pa_cons (pe_callB call_len_seq (by rfl) T.len PySem.boot_len (pa_cons (pv 5) pa_nil)) pa_nil))) (pa_cons (pe_call GD hr rfl mgD FD.kp bD .nil pass0 (pa_cons (pv 0) (pa_cons pe_int pa_nil))) pa_nil)) (by rfl))
      (pss_cons (ps_for PassesOwn.never rfl (pi_range1 rfl T.range (pa_cons (pv 1) pa_nil)) (pg_name (i := 4) scNames.nd rfl (.inl rfl))
          (pss_cons (ps_set (i := 8) scNames.nd rfl (.inl rfl) (pe_callTy call_list_of (by rfl) T.list (by decide +kernel) (pa_cons (pv 5) pa_nil)))
          (pss_cons (ps_asg (pe_item_str (pv 2) (pe_op op_mod (pe_callTy call_int1 (by rfl) T.int (by decide +kernel) (pa_cons (pe_op op_add (pv 7) (pv 4)) pa_nil)) pe_int) (fun _ _ => rfl)) (pg_sub (pv 8) (pv 6) set_list))
          (pss_one (ps_expr (pe_bm PySem.F.plainAttrs_list PySem.F.slot_list_append PySem.F.type_list_append mt_append (pv 3) (pa_cons (pe_join pe_str (pv 8)) pa_nil)))))))
      (pss_one (ps_ret (pv 3)))))), ?_⟩
    -- letters, found
    refine ⟨(by show 0 ≤ sizeLine; decide), fun F nF => ⟨(by show 2 ≤ sizeLine; decide), fun t nt => ?_⟩⟩
    refine ⟨t, _, rfl, SqT.of upd_same, rfl, ?_⟩
    have nFp : F ≠ p := hp.ne nF
    have ntF : t ≠ F := fun e => by
      rw [e, upd_same] at nt
      cases nt
    have s1 : Same H (upd H F (.lst [])) := same_upd nF
    have s2 : Same (upd H F (.lst [])) (upd (upd H F (.lst [])) t (.tup [.str letters, .ref F])) := same_upd nt
    have hF : (upd (upd H F (.lst [])) t (.tup [.str letters, .ref F])) F = some (.lst []) := by rw [upd_ne (Ne.symm ntF), upd_same]
    have x1 : Ext p H (upd (upd H F (.lst [])) t (.tup [.str letters, .ref F])) := ((Ext.refl hp).same s1).same s2
    generalize (upd (upd H F (.lst [])) t (.tup [.str letters, .ref F])) = H1 at hF x1 ⊢
    -- stem
    refine ⟨_, _, rfl, _, _, rfl, rfl, ?_⟩
    refine ⟨_, rfl, p, 3, rfl, x1.pool, by decide, by decide, fun d H2 x2 d0 d1 => ?_⟩
    refine ⟨_, _, rfl, rfl, _, rfl, by omega, by omega, fun S nS => ?_⟩
    have hF2 : H2 F = some (.lst []) := x2.at nFp hF
    have nSF : S ≠ F := fun e => by
      rw [e, hF2] at nS
      cases nS
    have nSp : S ≠ p := x2.pool.ne nS
    have xx : Ext p H H2 := x1.trans x2
    refine lc_range (lo := 0) (n := (1 + d).toNat) (fun i H' => Ext p H2 H' ∧ ∃ cs : List Nat, H' S = some (.lst ((cs.map sg).map V.str)) ∧ cs.length = i ∧ ∀ c ∈ cs, 97 ≤ c ∧ c ≤ 122) ?_ ?_ ?_
    · exact ⟨(Ext.refl x2.pool).same (same_upd nS), [], upd_same, rfl, fun c z => by cases z⟩
    · rintro i H' hi ⟨xe, cs, hS, hl, hc⟩
      refine ⟨rfl, ?_⟩
      refine ⟨_, rfl, _, rfl, p, 26, rfl, xe.pool, by decide, by decide, fun e H3 x3 e0 e1 => ?_⟩
      refine ⟨letters, e, 97 + e.toNat, rfl, rfl, e0, by omega, ?_, letters_at (by omega), (cs.map sg).map V.str, x3.at nSp hS, ?_, ?_⟩
      · rw [letters_len]
        exact e1
      · rw [List.length_map, List.length_map, hl]
        exact small1000 (by omega)
      · have hS3 : (H3 S) = some (.lst ((cs.map sg).map V.str)) := x3.at nSp hS
        refine ⟨⟨?_, fun b o n z => ?_⟩, cs ++ [97 + e.toNat], ?_, ?_, ?_⟩
        · obtain ⟨a, b, c, z⟩ := x3.pool
          exact ⟨a, b, c, by rw [upd_ne (Ne.symm nSp)]; exact z⟩
        · have nb : b ≠ S := ne_of_none z nS
          rw [upd_ne nb]
          exact x3.keep b o n (xe.keep b o n z)
        · rw [upd_same, List.map_append, List.map_append]
          rfl
        · rw [List.length_append, hl]
          rfl
        · intro c hc2
          rcases List.mem_append.mp hc2 with z | z
          · exact hc c z
          · have z2 : c = 97 + e.toNat := List.mem_singleton.mp z
            omega
    · rintro H3 ⟨xe, cs, hS, hl, hc⟩
      have hF3 : H3 F = some (.lst []) := xe.at nFp hF2
      -- at, base
      have hS2 : SqL K H3 S ((cs.map sg).map V.str) := SqL.of hS
      have hlS : (((cs.map sg).map V.str).length : Nat) = (1 + d).toNat := by rw [List.length_map, List.length_map, hl]
      refine ⟨_, rfl, _, rfl, S, _, rfl, .inl hS2, p, _, rfl, xe.pool, by omega, by omega, fun t1 H4 x4 t0 t2 => ?_⟩
      refine ⟨_, rfl, p, 26, rfl, x4.pool, by decide, by decide, fun b1 H5 x5 b0 b2 => ?_⟩
      refine ⟨_, _, rfl, ?_⟩
      have x45 : Ext p H3 H5 := x4.trans x5
      have xa : Ext p H H5 := xx.trans (xe.trans x45)
      -- the loop
      refine ⟨_, rfl, m, rfl, by omega, by omega, ?_⟩
      refine for_range (lo := 0) (n := ((m : Nat) : Int).toNat) (fun i σ H' => Ext p H H' ∧ H' S = some (.lst ((cs.map sg).map V.str)) ∧ (∃ zs : List Str, H' F = some (.lst (zs.map V.str)) ∧ zs.length = i ∧ (∀ z ∈ zs, Tag z) ∧ ∀ (k : Nat) (z : Str), zs[k]? = some z → (tl z)[t1.toNat]? = some (97 + ((b1 + (0 + (k : Int))) % 26).toNat)) ∧
        ∃ o1 o2 : Option V, σ = [some (.ref p), some (.int m), some (.str letters), some (.ref F), o1, some (.ref S), some (.int t1), some (.int b1), o2]) ?_ ?_ ?_
      · exact ⟨xa, x45.at nSp hS, ⟨[], x45.at nFp hF3, rfl, fun z hz => (by cases hz), fun k z hk => by cases hk⟩, none, none, rfl⟩
      · rintro i σ H' hi ⟨xf, hS', ⟨zs, hF', hz, ht, hk⟩, o1, o2, rfl⟩
        -- own = list(stem)
        refine ⟨_, rfl, S, _, rfl, .inl (SqL.of hS'), fun W nW => ?_⟩
        have nWp : W ≠ p := xf.pool.ne nW
        have nWF : W ≠ F := fun e => by
          rw [e, hF'] at nW
          cases nW
        refine ⟨_, rfl, _, rfl, _, rfl, _, _, rfl, rfl, .inl ⟨_, rfl, _, _, rfl, rfl, (by show (0 : Int) < 26; decide), ?_⟩⟩
        have r0 : 0 ≤ (b1 + (0 + (i : Int))) % 26 := by omega
        have r1 : (b1 + (0 + (i : Int))) % 26 < 26 := by omega
        refine ⟨letters, _, 97 + ((b1 + (0 + (i : Int))) % 26).toNat, rfl, rfl, r0, by omega, ?_, letters_at (by omega), ?_⟩
        · rw [letters_len]
          exact r1
        have ht1 : t1.toNat < cs.length := by
          rw [hl]
          omega
        refine ⟨_, rfl, _, rfl, W, _, _, t1.toNat, rfl, rfl, upd_same, ?_, ?_⟩
        · rw [List.length_map, List.length_map]
          unfold ixN
          rw [if_pos t0, if_pos (by omega)]
        have eset : ((cs.map sg).map V.str).set t1.toNat (V.str (sg (97 + ((b1 + (0 + (i : Int))) % 26).toNat))) = ((cs.set t1.toNat (97 + ((b1 + (0 + (i : Int))) % 26).toNat)).map sg).map V.str := by
          rw [List.map_set, List.map_set]
        have hcs : ∀ c ∈ cs.set t1.toNat (97 + ((b1 + (0 + (i : Int))) % 26).toNat), 97 ≤ c ∧ c ≤ 122 := fun c z => by
          rcases List.mem_or_eq_of_mem_set z with z | z
          · exact hc c z
          · omega
        have hln : (cs.set t1.toNat (97 + ((b1 + (0 + (i : Int))) % 26).toNat)).length = cs.length := List.length_set
        have hat : (cs.set t1.toNat (97 + ((b1 + (0 + (i : Int))) % 26).toNat))[t1.toNat]? = some (97 + ((b1 + (0 + (i : Int))) % 26).toNat) := List.getElem?_set_self ht1
        generalize cs.set t1.toNat (97 + ((b1 + (0 + (i : Int))) % 26).toNat) = cs2 at eset hcs hln hat
        generalize eW : upd (upd H' W _) W _ = H6
        have hW : H6 W = some (.lst ((cs2.map sg).map V.str)) := by
          rw [← eW, ← eset]
          exact upd_same
        have sm : Same H' H6 := fun b o z => by
          have nb : b ≠ W := ne_of_none z nW
          rw [← eW, upd_ne nb, upd_ne nb]
          exact z
        clear eW
        refine ⟨_, rfl, .inl ⟨rfl, _, SqL.of (sm _ _ hF')⟩, ⟨_, rfl⟩, _, rfl, _, W, cs2.map sg, rfl, rfl, .inl (SqL.of hW), ?_, ?_⟩
        · have e0 := sum_sg cs2
          have e2 : (Str.ofString "").length = 0 := by decide +kernel
          rw [e0, e2]
          omega
        refine ⟨F, _, _, rfl, rfl, sm _ _ hF', ?_, ?_⟩
        · rw [List.length_map, hz]
          exact small1000 (by omega)
        refine ⟨⟨?_, fun b o n z => ?_⟩, ?_, ⟨zs ++ [Txt.join (Str.ofString "") (cs2.map sg)], ?_, ?_, ?_, ?_⟩, _, _, rfl⟩
        · obtain ⟨a, b, c, z⟩ := xf.pool
          exact ⟨a, b, c, by rw [upd_ne (Ne.symm nFp)]; exact sm _ _ z⟩
        · rw [upd_ne (ne_of_none z nF)]
          exact sm _ _ (xf.keep b o n z)
        · rw [upd_ne nSF]
          exact sm _ _ hS'
        · rw [upd_same, List.map_append]
          rfl
        · rw [List.length_append, hz]
          rfl
        · intro z hz2
          rcases List.mem_append.mp hz2 with y | y
          · exact ht z y
          · have y2 : z = Txt.join (Str.ofString "") (cs2.map sg) := List.mem_singleton.mp y
            subst y2
            have ej := join_sg cs2
            refine ⟨?_, ?_, fun c hc2 => ?_⟩
            · rw [ej]
              omega
            · rw [ej]
              omega
            · rw [ej] at hc2
              exact hcs c hc2
        · intro k z hz2
          by_cases hlt : k < zs.length
          · rw [List.getElem?_append_left hlt] at hz2
            exact hk k z hz2
          · rw [List.getElem?_append_right (by omega)] at hz2
            have e3 : k - zs.length = 0 := by
              have := (List.getElem?_eq_some_iff.mp hz2).1
              simp at this
              omega
            rw [e3] at hz2
            cases hz2
            have e4 : k = i := by omega
            subst e4
            rw [join_sg cs2]
            exact hat
      · rintro σ H' ⟨xf, hS', ⟨zs, hF', hz, ht, hk⟩, o1, o2, rfl⟩
        exact ⟨_, rfl, q F zs H' xf nF hF' (by omega) ht (nodup_at (by omega) hk)⟩
end
end K1
/-! enumerate over a tuple -/
namespace EnT
open PySem PySem.Spec
open PyProof.Rows L2
open Builtin
set_option maxHeartbeats
    4000000 in
theorem meets_enumerate_newB1 {v : Value} {o : Obj} {H : Heap → Prop} (B : Begins v o H) :
    Meets (Builtin.«enumerate.__new__» ⟨[.type "enumerate", v], []⟩) (fun _ R s => H s.heap ∧
      R (.ok (.ret (.ref (s.heap.push o).objs.size))) { s with heap := (s.heap.push o).push { cls := .type "enumerate", data := .fields #[.none, .bool false, .ref s.heap.objs.size, rawInt 0, .none, .none] } }) :=
  .of_wp fun prog w A R s hyp => by
    obtain ⟨hp, g, d, tk, os⟩ := s; obtain ⟨h1, hyp⟩ := hyp
    have hsub := sub_enumerate
    have q1 : ∀ {A' : Around} {E : Value → Shared → Prop} {Q : Value → Shared → Prop}, Q (.ref
        hp.objs.size) ⟨hp.push o, g, d, tk, os⟩ → wpAny (model prog w) A' (pyIter v) Q E ⟨hp, g, d, tk, os⟩ :=
      fun q => B.iter prog w _
          _ ⟨hp, g, d, tk, os⟩ _ h1 q
    wp_walk using q1
    refine wpAny_stack_any fun stA => wpAny_pure ?_
    split
    · rename_i c _ _ _ _ _
      cases (c == Value.type
          "enumerate")
      · wp_walk using q1
        exact ⟨_, rfl, hyp⟩
      · wp_walk using q1
        exact ⟨_, rfl, hyp⟩
    · wp_walk using q1
      exact ⟨_, rfl, hyp⟩
section
variable {prog : Program} {w : World} {A
    : Around} {E : Value → Shared → Prop} {s : Shared}
theorem enum_begins1 {v : Value} {o : Obj} {H : Heap → Prop} {Q : Value → Shared → Prop} (B : Begins v o H) (h1 : H s.heap)
    (hyp : ∀ h', IsEnum h' (s.heap.objs.size + 1) s.heap.objs.size 0 .none → h'.get? s.heap.objs.size = some o → h'.objs.size = s.heap.objs.size + 2 →
      (∀ b o, s.heap.get? b = some o → h'.get? b = some
          o) → Q (.ref (s.heap.objs.size + 1)) { s with heap := h' }) :
    wpAny (model prog w) A (call (.type "enumerate") [v]) Q E s := by
  refine callType_new F.called_enumerate (by decide) (F.typeCall_enumerate_1
      _) (F.newCall_enumerate_1 _) (fun obj => F.args_object_init_2 obj _) F.entry_enumerate_new
    (meets_enumerate_newB1 B) ⟨h1, ?_⟩
  have szA : (s.heap.push o).objs.size = s.heap.objs.size + 1 := Heap.size_push ..
  show _ ∧ _
  rw [szA]
  have enA : IsEnum ((s.heap.push o).push { cls := .type "enumerate", data := .fields #[.none, .bool false, .ref s.heap.objs.size, rawInt 0, .none, .none] }) (s.heap.objs.size + 1) s.heap.objs.size 0 .none := by
    have := Heap.get?_push_size (s.heap.push o) (o := { cls := .type "enumerate", data := .fields #[.none, .bool false, .ref s.heap.objs.size, rawInt 0, .none, .none] }) rfl
    rw [szA] at this; exact this
  refine ⟨⟨_, enA, rfl⟩, hyp _ enA (Heap.get?_push_of_some _ (Heap.get?_push_size _ B.free)) (by rw [Heap.size_push, szA]) fun b o x => Heap.get?_push_of_some _ (Heap.get?_push_of_some _ x)⟩
end
/-- the tuple at a, each item in a new pair -/
def Itet (K : PySem.W.Frag) (a : Addr) : It :=
  ⟨fun i H => ∃ (xs : List V) (x : V), SqT K H a xs ∧ xs[i]? = some x, fun i H v H' => ∃ T x, v = .ref T ∧ H T = none ∧ H' = upd H T (.tup [.int (i : Nat), x]) ∧ ∀ xs, SqT K H a xs → xs[i]? = some x, fun i H => ∃ xs : List V, SqT K H a xs ∧ xs.length ≤ i⟩
theorem turn_enumT {P : Program} {w : World} {K : PySem.W.Frag} {elts : List Expr} {kk : Nat} {tpos : Pos} (a e it : Addr) (hai : a ≠ it) (hae : e ≠ a) :
    Turn P w K (.Tuple elts kk tpos) (Itet K a) [e, it] e (fun i hyp => (∃ old, IsEnum hyp e it ((i : Nat) : Int) old) ∧ hyp.IsTupleIter it a i ∧ e ≠ it) where
  mem := by simp
  obj := fun i hyp stA b memB => by
    obtain ⟨⟨old, enA⟩, ⟨o, obA, clA, dtA⟩, _⟩ := stA
    have eqB : b = e ∨ b = it := by simpa using memB
    rcases eqB with zA | zA
    · rw [zA]; exact ⟨_, enA, fun v q => nomatch q⟩
    · rw [zA]; exact ⟨o, obA, fun v q => by rw [dtA] at q; cases q⟩
  keep := fun i hyp h' stA k => let ⟨⟨old, enA⟩, hi, neA⟩ := stA; ⟨⟨old, k e (by simp) _ enA⟩, hi.at fun o q => k it (by simp) o q, neA⟩
  item := by
    intro X hP hw hK clA i pins s σ H E Iv fpA stA hg
    subst hP hw hK
    obtain ⟨⟨old, enA⟩, itA, neA⟩ := stA
    obtain ⟨xs, x, seqA, hx⟩ := hg
    obtain ⟨vsA, relA, p, szA⟩ := Iv.tuple seqA
    obtain ⟨u, getA, rlA⟩ := relA.get hx
    have ltE : e < s.heap.objs.size := Heap.lt_size enA
    have ltI : it < s.heap.objs.size := by obtain ⟨_, q, _⟩ := itA; exact Heap.lt_size q
    have hlt : i < vsA.toArray.size := by
      have := (List.getElem?_eq_some_iff.mp getA).1
      simpa using this
    refine wpAny_pyNext_enum_itemD (Draws.tuple (A := X.A.in1) (prog := X.prog) (w := X.w) (show X.A.in1.handled = none from Iv.ok.hd clA) it a hai vsA.toArray) enA ⟨itA, p⟩ hlt neA (by simp [neA, hae]) fun x' h' tk hx' obA st' tyA hsz kpA => ?_
    have ex : x' = u := by
      have : vsA[i]? = some x' := by simpa using hx'
      rw [getA] at this
      exact (Option.some.inj
          this).symm
    subst ex
    refine ⟨_, rfl, wpAny_letOwnedTupleGo_enum (s := { s with heap := h', toks := tk + 1 }) obA fun h'' he' sameB => ?_⟩
    have hT2 : h''.get? s.heap.objs.size = some { cls := .type "tuple", data := .seq #[.int i tk, x'] } := (sameB.2 _ (Nat.ne_of_gt ltE)).trans tyA
    have new : ObjOk X.prog X.w (upd H s.heap.objs.size (.tup [.int
        (i : Nat), x])) h'' s.heap.objs.size (.tup [.int (i : Nat), x]) :=
      ⟨by show 2 ≤ sizeLine; decide, [.int i tk, x'], .cons ⟨_, rfl⟩ (.cons rlA .nil), ⟨_, hT2, rfl, _, rfl⟩⟩
    have Iv1 : Inv X pins σ (upd H s.heap.objs.size (.tup [.int (i : Nat), x])) { s with heap := h'', toks := tk + 1 } :=
      Iv.turnedNew (ch := [e, it]) (fun b ob memB q => (sameB.2 b (fun zA => memB (by simp [zA]))).trans (kpA b ob (fun zA => memB (by simp [zA])) (fun zA => memB (by simp [zA])) q)) fpA (Nat.le_refl _) new
    refine ⟨.ref s.heap.objs.size, _, Iv1, rfl, ⟨_, x, rfl, Iv.hok.fresh (Nat.le_refl _), rfl, fun ys hy => by rw [Iv.tuple_inj hy seqA]; exact hx⟩, ⟨⟨x', ?_⟩, st'.1.at fun o q => (sameB.2 it (Ne.symm neA)).trans q, neA⟩, fun b memB => ?_⟩
    · have eqA : ((i + 1 : Nat) : Int) = (i : Int) + 1 := by omega
      rw [eqA]; exact he'
    · have ltB : b < s.heap.objs.size := by
        have eqB : b = e ∨ b = it := by simpa using memB
        rcases eqB with zA | zA
        · rw [zA]; exact ltE
        · rw [zA]; exact ltI
      rw [upd_ne (Nat.ne_of_lt ltB)]
      exact (fpA b memB).1
  done := by
    intro X hP hw hK clA i pins s σ H E Iv fpA stA hg
    subst hP hw hK
    obtain ⟨⟨old, enA⟩, itA, neA⟩ := stA
    obtain ⟨xs, seqA, hx⟩ := hg
    obtain ⟨vsA, relA, p, szA⟩ := Iv.tuple seqA
    obtain ⟨f0, f1, f2, f3, f4, f5⟩ := fpA it (by simp)
    have hl := relA.length
    have tyA : s.TypeIs (.ref e) "enumerate" := ⟨_, enA, rfl⟩
    unfold pyNext
    refine wpAny_bind (wpAny_attempt (wpAny_callSpecial?_slot (name := Str.ofString "__next__") tyA F.slot_enumerate_next
      (wpAny_call_entry F.slot_enumerate_next tyA F.entry_enumerate_next ?_ (F.args_enumerate_next_1 _))))
    show wpAny _ _ (field
        (.ref e) 2 >>= _) _ _ _
    refine wpAny_bind (wpAny_field enA rfl (x := .ref it) rfl ?_)
    refine wpAny_bind (wpAny_nextOf_tuple_end (A := X.A.in1) (show X.A.in1.handled = none from Iv.ok.hd clA) itA p (by simp; omega) fun h' x he' hx' => ?_)
    obtain ⟨o, obA, hcl⟩ := hx'
    refine wpAny_bind (wpAny_isInstance (T := "StopIteration") (b := true) ⟨o, obA, hcl⟩ isSubtype_stop ?_)
    exact wpAny_pure ⟨rfl, Iv.turned (t' := s.toks) (fun b o memB q => he' b o memB q) f0 f1 f3 f4 f5⟩
  self := fun A i s Q E stA hyp => let ⟨⟨_, enA⟩, _⟩ := stA; wpAny_pyIter_enum enA hyp
def iEnumT (K : PySem.W.Frag) (ta : TA) : TI := fun σ H R => ta σ H fun vs H1 => ∃ a xs, vs = [.ref a] ∧ SqT K H1 a xs ∧ R (Itet K a) H1
theorem pi_enumT {X : Cx} {e : Expr} {ta : TA} {p pos tpos : Pos} {elts : List Expr} {kk : Nat} (hg : Gl X "enumerate") (hm : X.mg "enumerate" = none) (ha : PA X [e] ta) (hs : starEach [e] X.env = [(false, eval e X.env)] := by rfl) :
    PI X (.Tuple elts kk tpos) (.Call (.Name "enumerate" p) [e] [] pos) (iEnumT X.K ta) := by
  refine ⟨fun pins s σ H R Iv hyp => ?_⟩
  refine Call_ (ld_blt Iv hg hm boot_enumerate (PyProof.Rows.callWith_type1 (thn (ha.run pos pins s σ H _ Iv hyp) fun us s1 ⟨vs, H1, Iv1, r1, q1⟩ => ?_) hs rfl))
  obtain ⟨a, xs, ex, seqA, q⟩ := q1
  subst ex
  cases r1 with
  | cons r rr =>
    cases rr
    cases r
    obtain ⟨vsA, relA, p', szA⟩ := Iv1.tuple seqA
    have hal : a < s1.heap.objs.size := by
      obtain ⟨_, q, _⟩ := p'
      exact Heap.lt_size q
    refine enum_begins1 (begins_tuple a vsA.toArray) p' fun h' enA itA hsz kpA => wpAny_pyIter_enum enA ?_
    have Iv2 : Inv X pins σ H1 { s1 with heap := h' } := Iv1.kept (t' := s1.toks) kpA
    refine ⟨s1.heap.objs.size + 1, [s1.heap.objs.size + 1, s1.heap.objs.size], _, _, H1, rfl, Iv2, turn_enumT a (s1.heap.objs.size + 1) s1.heap.objs.size (Nat.ne_of_lt hal) (Nat.ne_of_gt (Nat.lt_succ_of_lt hal)), ⟨⟨.none, enA⟩, ⟨_, itA, rfl, rfl⟩, Nat.succ_ne_self _⟩, fun b memB => ?_, q⟩
    have eqB : b = s1.heap.objs.size + 1 ∨ b = s1.heap.objs.size := by simpa using memB
    have leB : s1.heap.objs.size ≤ b := by
      rcases eqB with zA | zA
      · rw [zA]; exact Nat.le_add_right _ _
      · rw [zA]; exact Nat.le_refl _
    exact Iv1.fpOk leB (Iv1.hok.fresh leB)
theorem walk_enumT {K : PySem.W.Frag} {a : Addr} {xs : List V} : Walk (Itet K a) xs.length (fun H => SqT K H a xs) (YPair (fun i => some (.int (i : Nat))) (fun i => xs[i]?)) := by
  refine ⟨fun i _ hi q => ⟨xs, xs[i], q, by simp [hi]⟩,
      fun _ q => ⟨xs, q, Nat.le_refl _⟩, fun i H v H' _ q y => ?_⟩
  obtain ⟨T, x, h1,
      h2, h3, h4⟩ := y
  exact ⟨T, .int (i : Nat),
      x, h1, h2, h3, rfl, h4 xs q⟩
end EnT
namespace K1
open PySem PySem.Spec
open PyProof.Rows L2
open TL hiding len_tl
/-! ### what a name is -/
def nameB (z : Str) : Bool := if 8 < z.length then false else if Txt.isascii z = false then false else if Txt.isalnum z = false then false else if Txt.isalpha (sg (z.cps.getD 0 0)) = false then false else decide (z = Txt.lower z)
theorem alnum_all : ((List.range 128).all fun c => !((97 ≤ c && c ≤ 122) || (48 ≤ c && c ≤ 57)) || Unicode.isAlnum c) = true := by decide +kernel
theorem alpha_all : ((List.range 128).all fun c => !(97 ≤ c && c ≤ 122) || Unicode.isAlpha c) = true := by decide +kernel
theorem lo1_all : ((List.range 128).all fun c => !((97 ≤ c && c ≤ 122) || (48 ≤ c && c ≤ 57)) || PyProof.Rows.lo1 c == c) = true := by decide +kernel
theorem small_at {p : Nat → Bool} (h : ((List.range 128).all p) = true) {c : Nat} (hc : c < 128) : p c = true := (List.all_eq_true.mp h) c (List.mem_range.mpr hc)
def NameCh (c : Nat) : Prop := (97 ≤ c ∧ c ≤ 122) ∨ (48 ≤ c ∧ c ≤ 57)
theorem name_of {z : Str} (h1 : 1 ≤ (tl z).length) (h8 : (tl z).length ≤ 8) (ha : ∀ c ∈ tl z, NameCh c) (hf : ∀ c r, tl z = c :: r → 97 ≤ c ∧ c ≤ 122) : nameB z = true := by
  have hl : z.length = (tl z).length := TL.len_tl z
  have h128 : ∀ c ∈ tl z, c < 128 := fun c hc => by
    rcases ha c hc with q | q <;> omega
  have e1 : Txt.isascii z = true := by
    show z.cps.all (· < 128) = true
    rw [← Array.all_toList]
    exact List.all_eq_true.mpr fun c hc => decide_eq_true (h128 c hc)
  have e2 : Txt.isalnum z = true := by
    show (decide (z.length > 0) && z.cps.all Unicode.isAlnum) = true
    rw [decide_eq_true (by omega), ← Array.all_toList, Bool.true_and]
    refine List.all_eq_true.mpr fun c hc => ?_
    have q := small_at alnum_all (h128 c hc)
    rcases ha c hc with y | y
    · simpa [y.1, y.2] using q
    · simpa [y.1, y.2] using q
  obtain ⟨c, r, er⟩ : ∃ c r, tl z = c :: r := by
    cases e : tl z with
    | nil =>
      rw [e] at h1
      cases h1
    | cons c r => exact ⟨c, r, rfl⟩
  have e0 : z.cps.getD 0 0 = c := by
    have q : z.cps.getD 0 0 = (tl z).getD 0 0 := by simp [Array.getD_eq_getD_getElem?]
    rw [q, er]
    rfl
  have e3 : Txt.isalpha (sg c) = true := by
    have hc := hf c r er
    have q := small_at alpha_all (h128 c (by rw [er]; exact List.mem_cons_self))
    have q2 : Unicode.isAlpha c = true := by simpa [hc.1, hc.2] using q
    show (decide ((sg c).length > 0) && (sg c).cps.all Unicode.isAlpha) = true
    have e : (sg c).cps.all Unicode.isAlpha = true := by simp [q2]
    rw [e]
    rfl
  have e4 : Txt.lower z = z := by
    rw [lower_ascii h128]
    refine ext_tl ?_
    show (z.cps.map lo1).toList = tl z
    rw [Array.toList_map]
    have q : ∀ l : List Nat, (∀ c ∈ l, NameCh c) → l.map lo1 = l := fun l => by
      induction l with
      | nil => exact fun _ => rfl
      | cons a t ih =>
        intro h
        rw [List.map_cons, ih fun c hc => h c (List.mem_cons_of_mem _ hc)]
        have hn := h a List.mem_cons_self
        have h128 : a < 128 := by rcases hn with y | y <;> omega
        have q := small_at lo1_all h128
        have q2 : lo1 a = a := by
          rcases hn with y | y
          · simpa [y.1, y.2] using q
          · simpa [y.1, y.2] using q
        rw [q2]
    exact q _ ha
  unfold nameB
  rw [if_neg (by omega), e1, if_neg (by decide), e2, if_neg (by decide), e0, e3, if_neg (by decide), e4]
  exact decide_eq_true rfl
theorem tag_name {z : Str} (h : Tag z) : nameB z = true := name_of h.lo (Nat.le_trans h.hi (by decide)) (fun c hc => .inl (h.low c hc)) fun c r e => h.low c (by rw [e]; exact List.mem_cons_self)
/-! ### is_name -/
/-! ### values that are no texts -/
inductive NoStr (H : Hp) : V → Prop where
  | non : NoStr H .non
  | bl (b : Bool) : NoStr H (.bl b)
  | int (i : Int) : NoStr H (.int i)
  | lst {a : Addr} {xs : List V} (e : H a = some (.lst xs)) : NoStr H (.ref a)
  | tup {a : Addr} {xs : List V} (e : H a = some (.tup xs)) : NoStr H (.ref a)
  | dK {a : Addr} {kvs : List (Key × V)} (e : H a = some (.dK kvs)) : NoStr H (.ref a)
theorem NoStr.same {H H' : Hp} {v : V} (s : Same H H') (h : NoStr H v) : NoStr H' v := by
  cases h with
  | non => exact .non
  | bl b => exact .bl b
  | int i => exact .int i
  | lst e => exact .lst (s _ _ e)
  | tup e => exact .tup (s _ _ e)
  | dK e => exact .dK (s _ _ e)
theorem NoStr.ty {K : PySem.W.Frag} {H : Hp} {v : V} (h : NoStr H v) : ∃ t, TyX K H v t ∧ PySem.W.kitOne K t (.type "str") = some false := by
  cases h with
  | non => exact ⟨_, .base .non, kit_ty (by decide +kernel)⟩
  | bl b => exact ⟨_, .base (.bl b), kit_ty (by decide +kernel)⟩
  | int i => exact ⟨_, .base (.int i), kit_ty (by decide +kernel)⟩
  | lst e => exact ⟨_, .base (.lst e), kit_ty (by decide +kernel)⟩
  | tup e => exact ⟨_, .base (.tup e), kit_ty (by decide +kernel)⟩
  | dK e => exact ⟨_, .base (.dK e), kit_ty (by decide +kernel)⟩
def nameV : V → Bool
  | .str z => nameB z
  | _ => false
theorem NoStr.name {H : Hp} {v : V} (h : NoStr H v) : nameV v = false := by
  cases h <;> rfl
/-- a value that is_name may be asked of -/
def VOk (H : Hp) (v : V) : Prop := (∃ z, v = .str z ∧ z.length ≤ sizeLine) ∨ NoStr H v
theorem VOk.same {H H' : Hp} {v : V} (s : Same H H') (h : VOk H v) : VOk H' v := h.elim .inl fun n => .inr (n.same s)
def spIsName : Sp := fun vs H Q _ => ∃ v, vs = [v] ∧ VOk H v ∧ Q (.bl (nameV v)) H
section
variable {w : World} {P : Program}
variable {base : Heap} {mg : Str → Option Value} {K : PySem.W.Frag}
theorem scIsName : FnScope ["value"] ["value"] (defScope sIsName) := ⟨rfl, rfl, rfl, by decide +kernel, rfl, by decide +kernel, by decide +kernel⟩
theorem ok_isname {f : Addr} {fd : FuncData} (F : Fun K "is_name" "is_name" sIsName f fd) (T : Free mg) (mgL : ∃ t, mg "LONGEST_NAME" = some (.int 8 t)) : FnOk P w K mg base CX0 1 f fd ["value"] spIsName := by
  obtain ⟨tL, mgL⟩ := mgL
  refine F.ok scIsName (fun vs H Q E h => ?_) (fun cdv A outer s H vs Q E hr h => ?_)
  · obtain ⟨v, rfl, _⟩ := h
    rfl
  · obtain ⟨v, rfl, h⟩ := h
    refine ⟨_, pss_cons (ps_if (PW.pt (pw_or (pt_not (pt_val (pe_callB call_isi (by rfl) T.isinstance (by decide +kernel) (pa_cons (pv 0) (pa_cons (pe_bltn (v := .ty "str") (u := .type "str") (by rfl) T.str (by decide +kernel) rfl) pa_nil)))))
          (pw_or1 (pt_cmpR op_gt (pe_callB call_len_str (by rfl) T.len PySem.boot_len (pa_cons (pv 0) pa_nil)) (pe_glob (v := .int 8) rfl mgL ⟨_, rfl⟩) (nomark _))))) (pss_one (ps_ret pe_bl)) pss_nil)
      (pss_cons (ps_if (PW.pt (pw_or (pt_not (pt_val (pe_m0 PySem.F.slot_str_isascii PySem.F.type_str_isascii mt_isascii (pv 0)))) (pw_or1 (pt_not (pt_val (pe_m0 PySem.F.slot_str_isalnum PySem.F.type_str_isalnum mt_isalnum (pv 0))))))) (pss_one (ps_ret pe_bl)) pss_nil)
      (pss_one (ps_ret (pe_and (pe_m0 PySem.F.slot_str_isalpha PySem.F.type_str_isalpha mt_isalpha (pe_item_str (pv 0) pe_int (fun _ _ => rfl))) (pe_one (pe_cmpR op_eq (pv 0) (pe_lower (pv 0)) (nomark _))))))), ?_⟩
    obtain ⟨hv, q⟩ := h
    rcases hv with ⟨z, rfl, hz⟩ | n
    · refine ⟨_, rfl, _, _, _, _, true, rfl, .ty _, .base (.str z), kit_ty (by decide +kernel), true, rfl, ?_⟩
      refine iteF ?_
      refine ⟨_, rfl, z, rfl, hz, _, _, rfl, rfl, _, rfl, ?_⟩
      have q : Q (.bl (nameB z)) H := q
      unfold nameB at q
      by_cases h8 : 8 < z.length
      · rw [decide_eq_true (by omega)]
        rw [if_pos h8] at q
        exact iteT q
      rw [decide_eq_false
          (by omega)]
      rw [if_neg h8] at q
      refine iteF ?_
      refine ⟨_, rfl, ⟨_, rfl⟩, _, rfl, rfl, True.intro, _, rfl, ?_⟩
      cases ea : Txt.isascii z with
      | false =>
        rw [ea, if_pos rfl] at q
        exact iteT (iteT q)
      | true =>
        rw [ea, if_neg (by decide)] at q
        refine iteF ?_
        refine ⟨_, rfl, ⟨_, rfl⟩, _, rfl, rfl, True.intro, _, rfl, ?_⟩
        cases en : Txt.isalnum z with
        | false =>
          rw [en, if_pos rfl] at q
          exact iteT q
        | true =>
          rw [en, if_neg (by decide)] at q
          refine iteF ?_
          have hpos : 0 < z.length := by
            have e : (decide (z.length > 0) && z.cps.all Unicode.isAlnum) = true := en
            simp only [Bool.and_eq_true, decide_eq_true_eq] at e
            exact e.1
          have hcp : z.cps[(0 : Int).toNat]? = some (z.cps.getD 0 0) := by
            have h0 : 0 < z.cps.size := hpos
            show z.cps[0]? = _
            rw [Array.getD_eq_getD_getElem?, Array.getElem?_eq_getElem h0]
            rfl
          refine ⟨_, rfl, z, 0, z.cps.getD 0 0, rfl, rfl, by decide, by decide, by omega, hcp, ⟨_, rfl⟩, _, rfl, rfl, True.intro, _, rfl, ?_⟩
          cases el : Txt.isalpha (sg (z.cps.getD 0 0)) with
          | false =>
            rw [el, if_pos rfl] at q
            exact iteF q
          | true =>
            rw [el, if_neg (by decide)] at q
            refine iteT ?_
            refine ⟨_, rfl, _, rfl, ⟨_, rfl⟩, _, rfl, rfl, by omega, rfl, ?_⟩
            have e : decide (V.str z = V.str (Txt.lower z)) = decide (z = Txt.lower z) := by
              by_cases h : z = Txt.lower z
              · rw [decide_eq_true h, decide_eq_true (congrArg V.str h)]
              · rw [decide_eq_false h, decide_eq_false fun y => h (V.str.inj y)]
            show Q (V.bl (decide (V.str z = V.str (Txt.lower z)))) H
            rw [e]
            exact q
    · obtain ⟨t, ty, kt⟩ := n.ty (K := K)
      rw [n.name] at q
      refine ⟨_, rfl, _, _, _, _, false, rfl, .ty _, ty, kt, false, rfl, ?_⟩
      exact iteT (iteT q)
end
end K1
namespace K1
open PySem PySem.Spec PyProof.Rows L2 EnT
/-! ### wrong_at -/
def wrongIx (xs : List V) : Option Nat := xs.findIdx? fun v => !nameV v
def optInt : Option Nat → V
  | some i => .int i
  | none => .non
theorem wrong_some {xs : List V} {i : Nat} {v : V} (hv : xs[i]? = some v) (hn : nameV v = false) (h : (xs.take i).all nameV = true) : wrongIx xs = some i := by
  unfold wrongIx
  rw [List.findIdx?_eq_some_iff_getElem]
  obtain ⟨hi, e⟩ := List.getElem?_eq_some_iff.mp hv
  refine ⟨hi, by rw [e, hn]; rfl, fun j hj => ?_⟩
  have q := (List.all_eq_true.mp h) (xs[j]'(Nat.lt_trans hj hi)) (List.mem_iff_getElem.mpr ⟨j, by rw [List.length_take]; omega, by rw [List.getElem_take]⟩)
  rw [q]
  decide
theorem wrong_none {xs : List V} (h : xs.all nameV = true) : wrongIx xs = none := by
  unfold wrongIx
  rw [List.findIdx?_eq_none_iff]
  intro x hx
  rw [(List.all_eq_true.mp h) x hx]
  rfl
theorem take_all_succ {xs : List V} {i : Nat} {v : V} (hv : xs[i]? = some v) (hn : nameV v = true) (h : (xs.take i).all nameV = true) : (xs.take (i + 1)).all nameV = true := by
  rw [List.take_succ, hv, List.all_append, h]
  simp [hn]
def spWrongT (K : PySem.W.Frag) : Sp := fun vs H Q _ => ∃ (a : Addr) (xs : List V), vs = [.ref a] ∧ SqT K H a xs ∧ (∀ v ∈ xs, VOk H v) ∧ ∀ H', Same H H' → Q (optInt (wrongIx xs)) H'
def spWrongL (K : PySem.W.Frag) : Sp := fun vs H Q _ => ∃ (a : Addr) (xs : List V), vs = [.ref a] ∧ SqL K H a xs ∧ (∀ v ∈ xs, VOk H v) ∧ ∀ H', Same H H' → Q (optInt (wrongIx xs)) H'
theorem sameT {K : PySem.W.Frag} {H H' : Hp} {a : Addr} {xs : List V} (e : Same H H') (h : SqT K H a xs) : SqT K H' a xs := by
  rcases h with h | h
  · rcases h with h | ⟨o, h⟩
    · exact .inl (.inl (e _ _ h))
    · exact .inl (.inr
          ⟨o, e _ _ h⟩)
  · exact .inr h
section
variable {w : World} {P : Program}
variable {base : Heap} {mg : Str → Option Value} {K : PySem.W.Frag}
theorem scWrong : FnScope ["values", "at", "value"] ["values"] (defScope sWrong) := ⟨rfl, rfl, rfl, by decide +kernel, rfl, by decide +kernel, by decide +kernel⟩
theorem ok_wrongT {f fN : Addr} {fd fdN : FuncData} (F : Fun K "wrong_at" "wrong_at" sWrong f fd) (T : Free mg) (GN : FnOk P w K mg base CX0 1 fN fdN ["value"] spIsName) (FN : Fun K "is_name" "is_name" sIsName fN fdN) (mgN : mg "is_name" = some (.ref fN)) :
    FnOk P w K mg base CX0 2 f fd ["values"] (spWrongT K) := by
  have bN : Binds K fdN ["value"] [] := FN.binds (ps := ["value"]) fun _ _ _ _ _ _ us hl => match us, hl with | [_], _ => rfl
  refine F.ok scWrong (fun vs H Q E h => ?_) (fun cdv A outer s H vs Q E hr h => ?_)
  · obtain ⟨a, xs, rfl, _⟩ := h
    rfl
  · obtain ⟨a, xs, rfl, hS, hv, q⟩ := h
    refine ⟨_, pss_cons (ps_for PassesOwn.never rfl (pi_enumT (by rfl) T.enumerate (pa_cons (pv 0) pa_nil)) (pg_tup rfl (pgs_cons (pg_name (i := 1) scWrong.nd rfl (.inl rfl)) (pgs_cons (pg_name (i := 2) scWrong.nd rfl (.inl rfl)) pgs_nil)))
        (pss_one (ps_if (pt_not (pt_val (pe_call GN hr rfl mgN FN.kp bN .nil pass0 (pa_cons (pv 2) pa_nil)))) (pss_one (ps_ret (pv 1))) pss_nil)))
      (pss_one (ps_ret pe_non)), ?_⟩
    refine ⟨_, rfl, a, xs, rfl, hS, ?_⟩
    refine for_it (walk_enumT (xs := xs)) (fun i σ H' => Same H H' ∧ (xs.take i).all nameV = true ∧ ∃ o1 o2 : Option V, σ = [some (.ref a), o1, o2]) ?_ ?_ ?_ ?_
    · exact ⟨Same.refl H, rfl, none, none, rfl⟩
    · rintro i σ H' hi ⟨sm, _⟩
      exact sameT sm hS
    · rintro i x σ H1 H2 hi ⟨sm, ha, o1, o2, rfl⟩ ⟨t, y1, y2, rfl, nt, rfl, e1, e2⟩
      cases e1
      refine ⟨t, _, rfl, SqT.of upd_same, rfl, _, _, rfl, _, _, rfl, rfl, ?_⟩
      have sm2 : Same H (upd H1 t (.tup [.int (i : Nat), y2])) := sm.trans (same_upd nt)
      have hm : y2 ∈ xs := List.mem_of_getElem? e2
      refine ⟨_, rfl, _, rfl, (hv y2 hm).same sm2, _, rfl, ?_⟩
      cases en : nameV y2 with
      | false =>
        refine iteT ⟨_, rfl, ?_⟩
        have z := q _ sm2
        rw [wrong_some e2 en ha] at z
        exact z
      | true =>
        refine iteF ⟨sm2, take_all_succ e2 en ha, _, _, rfl⟩
    · rintro σ H' ⟨sm, ha, o1, o2, rfl⟩
      have z := q _ sm
      rw [List.take_length] at ha
      rw [wrong_none ha] at z
      exact z
theorem ok_wrongL {f fN : Addr} {fd fdN : FuncData} (F : Fun K "wrong_at" "wrong_at" sWrong f fd) (T : Free mg) (GN : FnOk P w K mg base CX0 1 fN fdN ["value"] spIsName) (FN : Fun K "is_name" "is_name" sIsName fN fdN) (mgN : mg "is_name" = some (.ref fN)) :
    FnOk P w K mg base CX0 2 f fd ["values"] (spWrongL K) := by
  have bN : Binds K fdN ["value"] [] := FN.binds (ps := ["value"]) fun _ _ _ _ _ _ us hl => match us, hl with | [_], _ => rfl
  refine F.ok scWrong (fun vs H Q E h => ?_) (fun cdv A outer s H vs Q E hr h => ?_)
  · obtain ⟨a, xs, rfl, _⟩ := h
    rfl
  · obtain ⟨a, xs, rfl, hS, hv, q⟩ := h
    refine ⟨_, pss_cons (ps_for PassesOwn.never rfl (pi_enum (by rfl) T.enumerate (pa_cons (pv 0) pa_nil)) (pg_tup rfl (pgs_cons (pg_name (i := 1) scWrong.nd rfl (.inl rfl)) (pgs_cons (pg_name (i := 2) scWrong.nd rfl (.inl rfl)) pgs_nil)))
        (pss_one (ps_if (pt_not (pt_val (pe_call GN hr rfl mgN FN.kp bN .nil pass0 (pa_cons (pv 2) pa_nil)))) (pss_one (ps_ret (pv 1))) pss_nil)))
      (pss_one (ps_ret pe_non)), ?_⟩
    refine ⟨_, rfl, a, xs, rfl, hS, ?_⟩
    refine for_it (walk_enum (xs := xs)) (fun i σ H' => Same H H' ∧ (xs.take i).all nameV = true ∧ ∃ o1 o2 : Option V, σ = [some (.ref a), o1, o2]) ?_ ?_ ?_ ?_
    · exact ⟨Same.refl H, rfl, none, none, rfl⟩
    · rintro i σ H' hi ⟨sm, _⟩
      exact sm.seq hS
    · rintro i x σ H1 H2 hi ⟨sm, ha, o1, o2, rfl⟩ ⟨t, y1, y2, rfl, nt, rfl, e1, e2⟩
      cases e1
      refine ⟨t, _, rfl, SqT.of upd_same, rfl, _, _, rfl, _, _, rfl, rfl, ?_⟩
      have sm2 : Same H (upd H1 t (.tup [.int (i : Nat), y2])) := sm.trans (same_upd nt)
      have hm : y2 ∈ xs := List.mem_of_getElem? e2
      refine ⟨_, rfl, _, rfl, (hv y2 hm).same sm2, _, rfl, ?_⟩
      cases en : nameV y2 with
      | false =>
        refine iteT ⟨_, rfl, ?_⟩
        have z := q _ sm2
        rw [wrong_some e2 en ha] at z
        exact z
      | true =>
        refine iteF ⟨sm2, take_all_succ e2 en ha, _, _, rfl⟩
    · rintro σ H' ⟨sm, ha, o1, o2, rfl⟩
      have z := q _ sm
      rw [List.take_length] at ha
      rw [wrong_none ha] at z
      exact z
end
end K1
/-! static methods called through their class; instances made by a starred or an empty argument list -/
namespace SmX
open PySem PySem.Spec PyProof.Rows L2 StX ClX
section
variable {X : Cx} {CX : CXT} {k i : Nat} {f C : Addr} {sp : Sp} {E : XK}
    {x m : Str} {e o : Expr} {es : List Expr} {te ta : TE} {t : TA} {p sp_ pos apos : Pos}
/-- C(*y) -/
theorem pe_makeS1 (M : Mk X.K C f) (F : FnR X.prog X.w X.K X.mg X.base CX k f sp) (hr : Room (k + 1) X.A) (hg : Gl X x) (hm : X.mg x = some (.ref C)) (hx : Passes CX X E) (he : PE X e te) (hd : (x == ("__debug__" : Str)) = false := by decide)
    (hst : starEach [.Starred e sp_] X.env
        = [(true, eval e X.env)] := by rfl) :
    PE X (.Call (.Name x p) [.Starred e sp_] [] pos) (fun σ H Q => te σ H fun y H1 => ∃ a xs, y = V.ref a ∧ (SqT X.K H1 a xs ∨ SqL X.K H1 a xs) ∧ ∀ x dx, H1 x = Option.none → H1 dx = Option.none → dx ≠ x →
      sp (V.ref x :: xs) (upd (upd H1 dx (.own x)) x (.ins C dx [])) (fun v H2 => v = .non ∧ Q (.ref x) H2) E) := by
  refine ⟨fun pins s σ H Q Iv hyp => ?_⟩
  refine wpAny_Call_Name_kw (ld_glob Iv hg hm ?_ hd)
  refine PySem.W.callWith_S (h₀ := X.base) Iv.ok.mod.kin M.kp (thn (he.run pins s σ H _ Iv hyp) fun v st1 ⟨y, H1, Iv1, relY, a, xs, ey, hxs, cont⟩ => ?_) hst
  subst ey
  obtain rfl : v = Value.ref a := relY
  exact star_any Iv1 hxs fun us st2 Iv2 rv => ⟨Iv2.kIn, run_makeR M F hr hx Iv2 rv cont⟩
/-- C() -/
theorem pe_makeR0 (M : Mk X.K C f) (F : FnR X.prog X.w X.K X.mg X.base CX k f sp) (hr : Room (k + 1) X.A) (hg : Gl X x) (hm : X.mg x = some (.ref C)) (hx : Passes CX X E) (hd : (x == ("__debug__" : Str)) = false := by decide) :
    PE X (.Call (.Name x p) [] [] pos) (tMakeR C sp E tNil) := by
  refine ⟨fun pins s σ H Q Iv hyp => ?_⟩
  refine wpAny_Call_Name_kw (ld_glob Iv hg hm ?_ hd)
  exact PySem.W.callWith_K0 Iv.kIn M.kp (run_makeR (us := []) (vs := []) M F hr hx Iv .nil hyp)
end
/-- C.m is a staticmethod: its record at p, its def at g -/
structure SMet (K : PySem.W.Frag) (C : Addr) (mc : Value) (m : Str) (p g : Addr) : Prop where
  at_ : PySem.W.findCls K (.ref C) mc m = some (.get (.builtin "staticmethod.__get__") (.ref p) .none (.ref C))
  rc : ∃ rest, PySem.W.recIn K p "staticmethod" = some (.ref g :: rest)
  kp : PySem.W.keepIn K (.ref g) = true
def tSMeth (C : Addr) (sp : Sp) (E : XK) (ta : TE) (t : TA) : TE := fun σ H Q => ta σ H fun x H1 => x = .ref C ∧ t σ H1 fun vs H2 => sp vs H2 Q E
def tSMethK (C : Addr) (m : Nat) (sp : Sp) (gV : List V → List V → List V) (E : XK) (ta : TE) (tk : TA) : TE := fun σ H Q => ta σ H fun x H1 => x = .ref C ∧ tk σ H1 fun zs H2 => zs.length = m ∧ sp (gV [] zs) H2 Q E
section
variable {X : Cx} {CX : CXT} {k : Nat} {C p g : Addr} {mc : Value} {sp : Sp} {E : XK} {o e : Expr} {es : List Expr} {f m : Str} {pos apos : Pos} {ta : TE} {t tk : TA} {pl : Sem Bool} {pins : List (Addr × Obj)} {σ : L2.St} {H : Hp} {s : Shared} {A : Around} {E' : Value → Shared → Prop}
theorem getmethsm_ok {Q : Value × List Value → Shared → Prop} (Iv : Inv X pins σ H s) (r : CRead X.K C mc) (k : SMet X.K C mc m p g) (hyp : ∀ s', Inv X pins σ H s' → Q (.ref g, []) s') : wpAny (model X.prog X.w) A (getMethod (.ref C) m pl) Q E' s := by
  obtain ⟨rest, hp⟩ := k.rc
  refine PySem.W.method_cls Iv.kIn r.ga (PySem.W.cls_bind Iv.kIn r.rd k.at_ ?_)
  exact wpAny_call (PySem.W.sm_get (s := { s with toks := s.toks + 1 }) Iv.kIn hp (PySem.W.handed_on rfl (hyp _ (Iv.tok _))))
theorem pe_smeth (he : PE X o ta) (r : CRead X.K C mc) (c : SMet X.K C mc m p g) (F : FnR X.prog X.w X.K X.mg X.base CX k g sp) (hr : Room k X.A) (hx : Passes CX X E) (ha : PA X (e :: es) t)
    (hst : starEach (e :: es) X.env = (false, eval e X.env) :: starEach es
        X.env := by rfl) (hpl : (backTo pos (starEach es X.env)).any (·.1) = false := by rfl)
    (ht : eval (.Call (.Attribute o
        m apos) (e :: es) [] pos) X.env = (do
      let ov ← eval o X.env
      standAt apos.atName
      let (f, first) ← holding
          [ov] (getMethod ov m pl)
      callWith pos f first (backTo pos (starEach (e :: es)
          X.env)) (backToKw pos (keywordEach [] X.env))) := by rfl) :
    PE X (.Call (.Attribute o m apos) (e :: es) [] pos) (tSMeth C sp E ta t) := by
  refine ⟨fun pins s σ H Q Iv hyp => ?_⟩
  refine PySem.W.methodCall_KW (pl := pl) (thn (he.run pins s σ H _ Iv hyp) fun usV st1 ⟨x, H1, Iv1, relX, ex, cont⟩ => ?_) ht
  subst ex
  obtain rfl : usV = Value.ref C := relX
  refine getmethsm_ok Iv1 r c fun st2 Iv2 => ?_
  refine PySem.W.callWith_K (h₀ := X.base) Iv.ok.mod.kin c.kp (thn (ha.run pos pins st2 σ H1 _ Iv2 cont) fun us st3 ⟨vs, H2, Iv3, rv, q2⟩ => ⟨Iv3.kIn, ?_⟩) hst hpl
  exact wpAny_call (run_fnR F hr hx Iv3 rv q2)
theorem pe_smethK {fd : FuncData} {ps ks : List Str} {kws : List Keyword} {gg : List Value → List Value → List Value} {gV : List V → List V → List V} (he : PE X o ta) (r : CRead X.K C mc) (c : SMet X.K C mc m p g) (F : FnOk X.prog X.w X.K X.mg X.base CX k g fd ps sp) (hb : KBn X.K fd ps 0 ks gg gV) (hr : Room k X.A) (hx : Passes CX X E) (hkw : PK X kws tk)
    (hall : (backToKw pos (keywordEach kws X.env)).all (·.1.isSome) = true := by rfl) (hks : (backToKw pos (keywordEach kws X.env)).filterMap (·.1) = ks := by rfl)
    (hpl : ((backTo pos (starEach [] X.env)).any (·.1) || (backToKw pos (keywordEach kws X.env)).any (·.1.isNone)) = false := by rfl)
    (ht : eval (.Call (.Attribute o m apos) [] kws pos) X.env = (do
      let ov ← eval o X.env
      standAt apos.atName
      let (f, first) ← holding
          [ov] (getMethod ov m pl)
      callWith pos f first (backTo pos (starEach [] X.env)) (backToKw pos (keywordEach kws X.env))) := by rfl) :
    PE X (.Call (.Attribute o m apos) [] kws pos) (tSMethK C ks.length sp gV E ta tk) := by
  refine ⟨fun pins s σ H Q Iv hyp => ?_⟩
  refine PySem.W.methodCall_KW (pl := pl) (thn (he.run pins s σ H _ Iv hyp) fun usV st1 ⟨x, H1, Iv1, relX, ex, cont⟩ => ?_) ht
  subst ex
  obtain rfl : usV = Value.ref C := relX
  refine getmethsm_ok Iv1 r c fun st2 Iv2 => ?_
  refine PySem.W.callWith_KW0 (h₀ := X.base) Iv.ok.mod.kin c.kp hall ?_ hpl
  refine thn (hkw.run pos pins st2 σ H1 _ Iv2 cont) fun ws st3 ⟨zs, H2, Iv3, rz, l2, q2⟩ => ⟨Iv3.kIn, ?_⟩
  rw [hks]
  exact run_fnN (us := []) (vs := []) (n := 0) F hr hb hx Iv3 .nil rz rfl l2 q2
end
end SmX
/-! sorted(set(texts)) -/
namespace TxS
open PySem PySem.Spec
open PyProof.Rows L2
/-- a set whose table can be walked; its members and their hashes are ms -/
def Tbl (w : World) (hp : Heap) (S : Addr) (ms : Array (Int × Value)) : Prop :=
  ∃ (ob : Obj) (ep : Nat) (tb : SetTable), hp.get? S = some ob ∧ ob.ExactSet ∧ ob.data = .set ms ep tb ∧ ms.size < scanBound ∧ tb.fits ms.size = true ∧ Ris tb.place.toList ∧ (w.params.followText "set-order" = true ∨ tb.led = true)
theorem Tbl.moved {w : World} {hp hp' : Heap} {S : Addr} {ms : Array (Int × Value)} (T : Tbl w hp S ms) (kp : ∀ ob, hp.get? S = some ob → hp'.get? S = some ob) : Tbl w hp' S ms := by
  obtain ⟨ob, ep, tb, h0, rest⟩ := T
  exact ⟨ob, ep, tb, kp ob h0, rest⟩
section
variable {P : Program} {w : World} {A : Around} {Er : Value → Shared → Prop} {st : Shared} {S : Addr}
theorem gave_ok {Q1 : Unit → Shared → Prop} {s1 : Shared} (gv : Bool) (cont : Q1 () s1) : wpAny (model P w) A (match gv with | true => rule "set.scan.the-table-gave-way" | false => pure ()) Q1 Er s1 := by
  cases gv with
  | true => exact wpAny_rule cont
  | false => exact wpAny_pure cont
/-- the table laid, and laid anew where it is too full -/
theorem tail_ok {ms ms1 : Array (Int × Value)} {ob : Obj} {ep : Nat} {tb t1 : SetTable} (h0 : st.heap.get? S = some ob) (hx : ob.ExactSet) (hd : ob.data = .set ms ep tb) (b1 : ms1.size < scanBound) (f1 : t1.fits ms1.size = true) (r1 : Ris t1.place.toList)
    (l1 : w.params.followText "set-order" = true ∨ t1.led = true) (wd : Bool) {R : Option Bool → Shared → Prop}
    (hR : ∀ hp' ms', Heap.SameBut S st.heap hp' → Tbl w hp' S ms' → ms'.toList.Perm ms1.toList → R (some true) { st with heap := hp' }) :
    wpAny (model P w) A (do
      storeSet S ms1 t1
      if (!wd && t1.tooFull) = true then do
        (match (relayAll t1 ms1 (SetTable.grown ms1.size)).2.2 with | true => rule "set.scan.the-table-gave-way" | false => pure ())
        storeSet S (relayAll t1 ms1 (SetTable.grown ms1.size)).1 (relayAll t1 ms1 (SetTable.grown ms1.size)).2.1
        pure (some true)
      else pure (some true)) R Er st := by
  refine wpAny_bind (wpAny_storeSet_of h0 hd ?_ (fits_of_scanBound b1))
  have a1 := store_at (es' := ms1) (t' := t1) h0 hd
  have k1 := Heap.SameBut.update st.heap S (Obj.putSet ms1 t1)
  by_cases full : (!wd && t1.tooFull) = true
  · rw [if_pos full]
    have p2 := relayAll_perm t1 ms1 (SetTable.grown ms1.size)
    have n2 : (relayAll t1 ms1 (SetTable.grown ms1.size)).1.size = ms1.size := by
      have cont := p2.length_eq
      simpa using cont
    refine wpAny_bind (gave_ok _ ?_)
    refine wpAny_bind (wpAny_storeSet_of a1 rfl ?_ (fits_of_scanBound (by rw [n2]; exact b1)))
    have a2 := store_at (es' := (relayAll t1 ms1 (SetTable.grown ms1.size)).1) (t' := (relayAll t1 ms1 (SetTable.grown ms1.size)).2.1) a1 rfl
    refine wpAny_pure (hR _ _ (k1.trans (Heap.SameBut.update _ S _)) ⟨_, _, _, a2, hx, rfl, by rw [n2]; exact b1, relayAll_fits t1 ms1 _, relayAll_ris t1 ms1 _, ?_⟩ p2)
    rw [relayAll_led t1 ms1 _]
    exact l1
  · rw [if_neg full]
    exact wpAny_pure (hR _ _ k1 ⟨_, _, _, a1, hx, rfl, b1, f1, r1, l1⟩ .rfl)
variable {κ : Type} [DecidableEq κ] [BEq κ] [LawfulBEq κ] {knd : KeyKind P w κ}
theorem add_ok {ms : Array (Int × Value)} {k : κ} {v : Value} {Q : Bool → Shared → Prop} (T : Tbl w st.heap S ms) (el : ElemsOf knd ms.toList) (hk : knd.is k v = true) (sc : v.scannable = true) (room : ms.size + 1 < scanBound)
    (old : (∃ e ∈ ms.toList, knd.is k e.2 = true) → Q false st)
    (new : (∀ e ∈ ms.toList, knd.is k e.2 = false) → ∀ hp' ms', Heap.SameBut S st.heap hp' → Tbl w hp' S ms' → ms'.toList.Perm ((knd.hash k, v) :: ms.toList) → Q true { st with heap := hp' }) :
    wpAny (model P w) A (setAddHashed S v (knd.hash k)) Q Er st := by
  obtain ⟨ob, ep, tb, h0, hx, hd, b0, f0, r0, l0⟩ := T
  unfold setAddHashed
      setAddHashedIn
  refine wpAny_holding (wpAny_bind (wpAny_setState_of h0 hd f0 ?_))
  dsimp only
  rw [byScan_of sc b0 el]
  simp only [↓reduceIte]
  unfold setAddByScan
  refine wpAny_bind (wpAny_bind (wpAny_rule (wpAny_bind (wpAny_setScan_of hk h0 hd f0 el ?_))))
  cases fdA : List.findIdx? (fun e => knd.is k e.2) ms.toList with
  | some j =>
    obtain ⟨jA, pA, _⟩ := List.findIdx?_eq_some_iff_getElem.mp fdA
    exact wpAny_pure (wpAny_pure (old ⟨_, List.getElem_mem jA, pA⟩))
  | none =>
    have none_ : ∀ e ∈ ms.toList, knd.is k e.2 = false := fun e he => List.findIdx?_eq_none_iff.mp fdA e he
    dsimp only
    have pm := layNew_perm tb ms (knd.hash k) v
    have hf1 := layNew_fits tb ms (knd.hash k) v
    have hr1 := layNew_ris tb ms (knd.hash k) v r0
    have hl1 := layNew_led tb ms (knd.hash k) v
    generalize layNew tb ms (knd.hash k) v = Z at pm hf1 hr1 hl1 ⊢
    obtain ⟨ms1, t1, wd, gv⟩ := Z
    dsimp only at pm hl1 hr1 hf1 ⊢
    have pc : ms1.toList.Perm ((knd.hash k, v) :: ms.toList) := by
      rw [Array.toList_push] at pm
      exact pm.trans (List.perm_append_singleton _ _)
    have n1 : ms1.size = ms.size + 1 := by
      have cont := pc.length_eq
      simpa using cont
    have fin : ∀ hp' ms', Heap.SameBut S st.heap hp' → Tbl w hp' S ms' → ms'.toList.Perm ms1.toList → Q true { st with heap := hp' } := fun hp' ms' sb T' pp => new none_ hp' ms' sb T' (pp.trans pc)
    have led1 : w.params.followText "set-order" = true ∨ t1.led = true := by
      rw [hl1]
      exact l0
    refine wpAny_bind (gave_ok _ ?_)
    by_cases pl : t1.plain = true
    · rw [if_pos pl, hashByValue_scannable 8 sc]
      refine wpAny_bind
          (wpAny_pure ?_)
      by_cases pk : plainKind v = true
      · rw [pk]
        exact tail_ok h0 hx hd (by rw [n1]; exact room) hf1 hr1 led1 wd fun hp' ms' sb T' pp => wpAny_pure (fin hp' ms' sb T' pp)
      · have pk' : plainKind v = false := by simpa using pk
        rw [pk']
        exact tail_ok (t1 := { t1 with plain := false }) h0 hx hd (by rw [n1]; exact room) (SetTable.fits_plain_off hf1) hr1 led1 wd fun hp' ms' sb T' pp => wpAny_pure (fin hp' ms' sb T' pp)
    · rw [if_neg pl]
      refine wpAny_bind
          (wpAny_pure ?_)
      exact tail_ok h0 hx hd (by rw [n1]; exact room) hf1 hr1 led1 wd fun hp' ms' sb T' pp => wpAny_pure (fin hp' ms' sb T' pp)
end
/-! ### texts -/
def txt (e : Int × Value) : Str := match e.2 with
  | .str z _ => z
  | _ => Str.empty
def Txts (P : Program) (w : World) (ms : List (Int × Value)) : Prop := ∀ e ∈ ms, ∃ z t, e.2 = Value.str z t ∧ e.1 = (PySem.strKind P w).hash z
theorem Txts.el {P : Program} {w : World} {ms : List (Int × Value)} (g : Txts P w ms) : ElemsOf (PySem.strKind P w) ms := fun e he => by
  obtain ⟨z, t, e1, e2⟩ := g e he
  exact ⟨⟨z, by rw [e1]; exact strKind_is P w z t, e2⟩, by rw [e1]; rfl⟩
theorem is_txt {P : Program} {w : World} {e : Int × Value} {z y : Str} {t : Tok} (e1 : e.2 = Value.str z t) : (PySem.strKind P w).is y e.2 = true ↔ txt e = y := by
  have cont : txt e = z := by
    unfold txt
    rw [e1]
  rw [cont]
  constructor
  · intro hyp
    have h2 := strKind_is P w z t
    rw [← e1] at h2
    exact (PySem.strKind P w).inj _ _ _ h2 hyp
  · rintro rfl
    rw [e1]
    exact strKind_is P w z t
/-- the set at S holds just the texts in zs -/
def SetTx (P : Program) (w : World) (hp : Heap) (S : Addr) (zs : List Str) (n : Nat) : Prop :=
  ∃ ms, Tbl w hp S ms ∧ Txts P w ms.toList ∧ (ms.toList.map txt).Nodup ∧ (∀ z, z ∈ ms.toList.map txt ↔ z ∈ zs) ∧ ms.size ≤ n
theorem SetTx.moved {P : Program} {w : World} {hp hp' : Heap} {S : Addr} {zs : List Str} {n : Nat} (T : SetTx P w hp S zs n) (kp : ∀ ob, hp.get? S = some ob → hp'.get? S = some ob) : SetTx P w hp' S zs n := by
  obtain ⟨ms, T0, rest⟩ := T
  exact ⟨ms, T0.moved kp, rest⟩
section
variable {P : Program} {w : World} {A : Around} {Er : Value → Shared → Prop} {st : Shared} {S : Addr}
theorem add_text {zs : List Str} {n : Nat} {y : Str} {t : Tok} {Q : Bool → Shared → Prop} (T : SetTx P w st.heap S zs n) (room : n + 1 < scanBound)
    (cont : ∀ b hp', Heap.SameBut S st.heap hp' → SetTx P w hp' S (zs ++ [y]) (n + 1) → Q b { st with heap := hp' }) :
    wpAny (model P w) A (setAddHashed S (.str y t) ((PySem.strKind P w).hash y)) Q Er st := by
  obtain ⟨ms, T0, g, nd, hm, hn⟩ := T
  refine add_ok (knd := PySem.strKind P w) T0 g.el (strKind_is P w y t) rfl (by omega) (fun ⟨e, he, hy⟩ => ?_) (fun no hp' ms' sb T' pp => ?_)
  · obtain ⟨z, t', e1, _⟩ := g e he
    have ey := (is_txt (P := P) (w := w) e1).mp hy
    refine cont false st.heap (Heap.SameBut.refl S st.heap) ⟨ms, T0, g, nd, fun x => ?_, by omega⟩
    rw [hm x, List.mem_append, List.mem_singleton]
    refine ⟨.inl, fun hyp => hyp.elim id fun h2 => ?_⟩
    rw [h2, ← ey]
    exact (hm _).mp (List.mem_map.mpr ⟨e, he, rfl⟩)
  · have nin : y ∉ ms.toList.map txt := fun hyp => by
      obtain ⟨e, he, ey⟩ := List.mem_map.mp hyp
      obtain ⟨z, t', e1, _⟩ := g e he
      have b := (is_txt (P := P) (w := w) (y := y) e1).mpr ey
      rw [no e he] at b
      cases b
    have pk : (ms'.toList.map txt).Perm (y :: ms.toList.map txt) := pp.map txt
    refine cont true hp' sb ⟨ms', T', fun e he => ?_, pk.nodup_iff.mpr (List.nodup_cons.mpr ⟨nin, nd⟩), fun x => ?_, ?_⟩
    · rcases List.mem_cons.mp (pp.mem_iff.mp he) with hyp | hyp
      · rw [hyp]
        exact ⟨y, t, rfl, rfl⟩
      · exact g e hyp
    · rw [pk.mem_iff, List.mem_cons, hm x, List.mem_append, List.mem_singleton]
      exact Or.comm
    · have cont := pp.length_eq
      rw [Array.length_toList, List.length_cons, Array.length_toList] at cont
      omega
/-- all that is walked is added -/
theorem loop_texts {Iv : Addr} {fp wr : List Addr} {G : Array GenState → Array GenState → Prop} {n : Nat} {Pv : Nat → Value → Prop} {Sv : Nat → Shared → Prop} {R : Result → Shared → Prop} (Wk : WalksS P w A.in1 Iv fp wr G n Pv Sv) (far : S ∉ fp)
    (zs : List Str) (hz : zs.length = n) (room : n + 1 < scanBound) (val : ∀ i v, Pv i v → ∃ z t, zs[i]? = some z ∧ v = Value.str z t)
    (fin : ∀ s1, Moved (S :: wr) G st s1 → SetTx P w s1.heap S zs n → R (.ok (.ret .none)) s1) :
    ∀ (left i : Nat) (s1 : Shared), i + left = n → Sv i s1 → Moved (S :: wr) G st s1 → SetTx P w s1.heap S (zs.take i) i → codeAny (model P w) A (.builtin "set.update.loop" ⟨[.ref S, .ref Iv], []⟩) R s1 := by
  have farw : S ∉ wr := fun hyp => far (Wk.sub _ hyp)
  have inc : ∀ b ∈ wr, b ∈ S :: wr := fun b hb => List.mem_cons_of_mem _ hb
  intro left
  induction left with
  | zero =>
    intro i s1 e hs mv T
    have ei : i = n := by omega
    subst ei
    refine codeAny_builtin
        F.entry_set_update_loop ?_
    rw [Around.under_plainId
        F.plain_set_update_loop _]
    show wpAny _ A.in1 (pyNext (.ref Iv) >>= _) _ _ s1
    refine wpAny_bind (Wk.done s1 _ _ hs fun s2 m2 => ?_)
    rw [List.take_of_length_le (by omega)] at T
    exact wpAny_pure (fin s2 (Moved.trans Wk.gtrans mv (m2.mono inc)) (T.moved fun ob hb => m2.heap S ob farw hb))
  | succ left ih =>
    intro i s1 e hs mv T
    refine codeAny_builtin
        F.entry_set_update_loop ?_
    rw [Around.under_plainId
        F.plain_set_update_loop _]
    show wpAny _ A.in1 (pyNext (.ref Iv) >>= _) _ _ s1
    refine wpAny_bind (Wk.item i s1 _ _ (by omega) hs fun v s2 hv hs2 m2 => ?_)
    obtain ⟨z, t, ez, rfl⟩ := val i v hv
    show wpAny _ A.in1 (holding [Value.str z t] (setAdd S (.str z t)) >>= _) _ _ s2
    refine wpAny_bind
        (wpAny_holding ?_)
    unfold setAdd
    refine wpAny_holding (wpAny_bind ((PySem.strKind P w).pyHash (k := z) (strKind_is P w z t) ?_))
    refine add_text (st := { s2 with toks := s2.toks + 1 }) (T.moved fun ob hb => m2.heap S ob farw hb) (by omega) fun b hp' sb T' => ?_
    have et : zs.take i ++ [z] = zs.take (i + 1) := by
      rw [List.take_add_one, ez]
      rfl
    rw [et] at T'
    have apart : ∀ b ∈ fp, b ≠ S := fun b hb hyp => far (hyp ▸ hb)
    refine wpAny_pure ⟨plainId_quiet F.plain_set_update_loop _, ih (i + 1) _ (by omega) (Wk.frame _ s2 _ _ hs2 (Nat.le_succ _) fun b hb ob eb => (sb.2 b (apart b hb)).trans eb) ?_ T'⟩
    exact Moved.trans Wk.gtrans mv ((m2.mono inc).then_heap (Nat.le_succ _) fun b ob hb eb => (sb.2 b fun hyp => hb (hyp ▸ List.mem_cons_self)).trans eb)
/-- a set as it is made -/
abbrev fresh0 (w : World) : Obj := { cls := .type "set", dict := none, data := .set #[] 0 (.fresh 0 0 (!w.params.followText "set-order")) }
theorem fresh_tx {hp : Heap} {zs : List Str} (hyp : hp.get? S = some (fresh0 w)) : SetTx P w hp S (zs.take 0) 0 := by
  refine ⟨#[], ⟨_, 0, _, hyp, ⟨rfl, rfl, rfl⟩, rfl, by decide, rfl, List.Pairwise.nil, ?_⟩, fun e he => by simp at he, by simp, fun z => by simp, Nat.le_refl _⟩
  show _ ∨ (!w.params.followText
      "set-order") = true
  cases w.params.followText "set-order" with
  | false => exact .inr rfl
  | true => exact .inl rfl
/-- what a list and a tuple have alike, to be made a set of -/
structure Src (P : Program) (w : World) (l : Addr) (items : Array Value) (T : String) (it : Obj) (Sv : Addr → Nat → Heap → Prop) (Is : Heap → Prop) : Prop where
  s1 : isSubtype (.type T) (.type "set") = pure false
  s2 : isSubtype (.type T) (.type "frozenset") = pure false
  nd : (Value.type T == Value.type "dict") = false
  beg : Begins (.ref l) it Is
  walk : ∀ (A' : Around) (Iv : Addr), A'.handled = none → l ≠ Iv → Walks P w A' Iv [Iv, l] [Iv] items.size (fun i v => items[i]? = some v) (Sv Iv)
  st0 : ∀ (Iv : Addr) (hp : Heap), Is hp → hp.get? Iv = some it → Sv Iv 0 hp
set_option maxHeartbeats 6400000 in
theorem call_set_any {l : Addr} {items : Array Value} {T : String} {it : Obj} {Sv : Addr → Nat → Heap → Prop} {Is : Heap → Prop} {zs : List Str} {Q : Value → Shared → Prop} {od : Option Addr} {dt : Data} {sl : Array (Option Value)} (src : Src P w l items T it Sv Is) (hh : A.handled = none)
    (hol : st.heap.get? l = some { cls := .type T, dict := od, data := dt, slots := sl }) (is0 : Is st.heap) (val : ∀ (i : Nat) (v : Value), items[i]? = some v → ∃ (z : Str) (t : Tok), zs[i]? = some z ∧ v = Value.str z t) (hz : zs.length = items.size) (room : items.size + 1 < scanBound)
    (cont : ∀ (hp' : Heap) (tk : Nat), SetTx P w hp' st.heap.objs.size zs items.size → (∀ b ob, st.heap.get? b = some ob → hp'.get? b = some ob) → Q (.ref st.heap.objs.size) { st with heap := hp', toks := tk }) :
    wpAny (model P w) A (call (.type "set") [.ref l]) Q Er st := by
  obtain ⟨c, tl, hmro⟩
      := F.called_set.mro
  have hmade :=
      F.called_set.made
  have hsub := F.called_set.sub
  refine wpAny_call
      (codeAny_of_tree ?_)
  show wpAny _ _ (callAny
      (.type "set") _) _ _ _
  refine wpAny_pure ⟨Code.quiet_builtin _ (by decide +kernel),
      codeAny_builtin F.entry_type_call ?_⟩
  rw [Around.under_plain (weight_type_call_type
      "set" [.ref l] []) rfl]
  have nt := F.called_set.notType
  have cc := F.called_set.canCreate
  have tc := F.typeCall_set_1 (.ref l)
  repeat (any_goals (first
      | assumption | wp_step))
  refine codeAny_mono (code_set_led1 (.ref l) (E := Er) (Q₁ := fun obj sx => obj = .ref st.heap.objs.size ∧ sx = { st with heap := st.heap.push (fresh0 w) }) ⟨rfl, rfl⟩) fun r sx hr => ?_
  cases r with
  | error e => exact hr
  | ok fl =>
    cases fl with
    | ret obj =>
      obtain ⟨rfl, rfl⟩ := hr
      have hS : (st.heap.push (fresh0 w)).get? st.heap.objs.size = some (fresh0 w) := Heap.get?_push_size _ rfl
      have hT : Shared.TypeIs { st with heap := st.heap.push (fresh0 w) } (.ref st.heap.objs.size) "set" := ⟨_, hS, rfl⟩
      have li := F.called_set.init.lookup
      have bi := F.called_set.init.bind (.ref st.heap.objs.size)
      repeat (any_goals (first
          | assumption | wp_step))
      refine codeAny_mono (codeAny_call_builtin (R := wants (fun r s₂ => r = .none ∧ ∃ hp' tk, s₂ = { st with heap := hp', toks := tk } ∧ SetTx P w hp' st.heap.objs.size zs items.size ∧ (∀ b ob, st.heap.get? b = some ob → hp'.get? b = some ob)) Er)
        F.called_set.init.plain F.entry_set_init (check_set_init_1 hT ?_)) fun r₂ s₂ hr₂ => ?_
      · have hol2 : (st.heap.push (fresh0 w)).get? l = some { cls := .type T, dict := od, data := dt, slots := sl } := Heap.get?_push_of_some _ hol
        have e1 := src.s1
        have e2 := src.s2
        have e3 := src.nd
        have is1 : Is (st.heap.push (fresh0 w)) := src.beg.keeps _ _ is0 fun b ob e => Heap.get?_push_of_some _ e
        unfold Builtin.«set.__init__» noKeywords
            Builtin.Frozenset.updateFrom
        generalize hPI : pyIter = PI
        wp_walk
        subst hPI
        refine src.beg.iter P w _ _ _ _ is1 ?_
        refine wpAny_bind
            (wpAny_runValue ?_)
        have ls : l < st.heap.objs.size := Heap.lt_size hol
        have z1 : (st.heap.push (fresh0 w)).objs.size = st.heap.objs.size + 1 := Heap.size_push ..
        have hget : ((st.heap.push (fresh0 w)).push it).get? st.heap.objs.size = some (fresh0 w) := Heap.get?_push_of_some _ hS
        have lI : l ≠ (st.heap.push (fresh0 w)).objs.size := by
          rw [z1]
          exact Nat.ne_of_lt (Nat.lt_succ_of_lt ls)
        refine loop_texts (st := { st with heap := (st.heap.push (fresh0 w)).push it }) ((src.walk _ _ (by simp [hh]) lI).toS) ?_ zs hz room val (fun s1 mv T' => ?_) items.size 0 _ (by omega) ?_ ⟨fun _ _ _ e => e, rfl, rfl, rfl, Nat.le_refl _⟩ (fresh_tx hget)
        · rw [z1]
          intro hm
          rcases List.mem_cons.mp hm with hyp | hyp
          · exact Nat.ne_of_lt (Nat.lt_succ_self _) hyp
          · exact Nat.ne_of_gt ls (List.mem_singleton.mp hyp)
        · obtain ⟨hp', g', d', tk', os'⟩ := s1
          obtain rfl : g' = st.gens := mv.gens
          obtain rfl : d' = st.drawn := mv.drawn
          obtain rfl : os' = st.os := mv.os
          show wpAny _ _ _ _ _ _
          refine wpAny_pure ?_
          show wpAny _ _ (ret
              Value.none) _ _ _
          refine wpAny_pure ⟨rfl, hp', tk', rfl, T', fun b ob e => ?_⟩
          have bl := Heap.lt_size e
          refine mv.heap b ob ?_ (Heap.get?_push_of_some _ (Heap.get?_push_of_some _ e))
          rw [z1]
          intro hm
          rcases List.mem_cons.mp hm with hyp | hyp
          · exact Nat.ne_of_lt bl hyp
          · exact Nat.ne_of_lt (Nat.lt_succ_of_lt bl) (List.mem_singleton.mp hyp)
        · exact src.st0 _ _ (src.beg.keeps _ _ is1 fun b ob e => Heap.get?_push_of_some _ e) (Heap.get?_push_size _ src.beg.free)
      · cases r₂ with
        | error e => exact hr₂
        | ok fl₂ =>
          cases fl₂ with
          | ret r =>
            obtain ⟨rfl, hp', tk, rfl, T', kp⟩ := hr₂
            repeat (any_goals (first
                | assumption | wp_step))
            exact cont hp' tk T' kp
          | _ => exact hr₂.elim
    | _ => exact hr.elim
theorem src_list (l : Addr) (items : Array Value) : Src P w l items "list" { cls := .type "list_iterator", data := .fields #[.ref l, .int 0 0] } (fun Iv i hp => hp.IsListIter Iv l i ∧ hp.IsList l items) (fun hp => hp.IsList l items) :=
  ⟨F.sub_list_set, F.sub_list_frozenset, by decide, begins_list l items, fun A' Iv hh hne => Walks.list hh Iv l hne items, fun Iv hp h1 h2 => ⟨⟨_, h2, rfl, rfl⟩, h1⟩⟩
theorem src_tuple (l : Addr) (items : Array Value) : Src P w l items "tuple" { cls := .type "tuple_iterator", data := .fields #[.ref l, .int 0 0] } (fun Iv i hp => hp.IsTupleIter Iv l i ∧ hp.IsTuple l items) (fun hp => hp.IsTuple l items) :=
  ⟨F.sub_tuple_set, F.sub_tuple_frozenset, by decide, begins_tuple l items, fun A' Iv hh hne => Walks.tuple hh Iv l hne items, fun Iv hp h1 h2 => ⟨⟨_, h2, rfl, rfl⟩, h1⟩⟩
theorem strs_of_txts : ∀ (l : List (Int × Value)), Txts P w l → StrsAre (l.map (·.2)) (l.map txt)
  | [], _ => .nil
  | e :: l, g => by
    obtain ⟨z, t, e1, _⟩ := g e List.mem_cons_self
    have cont : txt e = z := by
      unfold txt
      rw [e1]
    rw [List.map_cons, List.map_cons, e1, cont]
    exact .cons z t (strs_of_txts l fun x hx => g x (List.mem_cons_of_mem _ hx))
theorem sorted_setTx {zs : List Str} {n : Nat} {Q : Value → Shared → Prop} (T : SetTx P w st.heap S zs n) (hh : A.handled = none)
    (cont : ∀ s1 p (out : Array Value) (c : Nat) (ys : List Str), (∀ b ob, st.heap.get? b = some ob → s1.heap.get? b = some ob) → s1.gens = st.gens → s1.os = st.os → st.heap.objs.size ≤ p → s1.heap.get? p = some (seqObj "list" out c) →
      StrsAre out.toList ys → sortedS ys = true → ys.Nodup → (∀ z, z ∈ ys ↔ z ∈ zs) → ys.length ≤ n → Q (.ref p) s1) :
    wpAny (model P w) A (call (.builtin "sorted") [.ref S]) Q Er st := by
  obtain ⟨ms, ⟨ob, ep, tb, h0, hx, hd, b0, f0, r0, l0⟩, g, nd, hm, hn⟩ := T
  refine Calls.call_function_entry kind_sorted
      plain_sorted entry_sorted (args_sorted1 _) ?_
  unfold Builtin.«sorted»
  refine wpAny_bind (m := checkCount "sorted" 1 1 _) (wpAny_pure (wpAny_bind (collect_set (A := A.in1) hh ⟨ob, h0, hx.1, hd⟩ f0 b0 r0 l0 fun s1 vs k1 z1 g1 o1 pm => ?_)))
  have lv : vs.length ≤ n := by
    rw [pm.length_eq, List.length_map, Array.length_toList]
    exact hn
  have lv2 : vs.length ≤ sizeLine := by
    rw [pm.length_eq, List.length_map, Array.length_toList]
    exact fits_of_scanBound b0
  have hS : StrsAre vs (vs.map strOf) := strsAre_map vs fun v hv => by
    obtain ⟨e, he, ev⟩ := List.mem_map.mp (pm.mem_iff.mp hv)
    obtain ⟨z, t, e1, _⟩ := g e he
    exact ⟨z, t, by rw [← ev, e1]⟩
  have pk : (vs.map strOf).Perm (ms.toList.map txt) := by
    have q1 := pm.map strOf
    rw [(strs_of_txts ms.toList g).strs] at q1
    exact q1
  refine wpAny_bind (wpAny_newList ?_ lv2)
  have hL : (s1.heap.push (seqObj "list" vs.toArray 0)).get? s1.heap.objs.size = some (seqObj "list" vs.toArray 0) := Heap.get?_push_size _ rfl
  refine wpAny_bind (wpAny_holding (wpAny_call_entry PyProof.Rows.slot_list_sort ⟨_, hL, rfl⟩ PyProof.Rows.entry_list_sort
    (list_sort_treeKAny strKind_oneLt hL hS.keysOf (fun v₁ v₂ rest e => keyKind_strs (by rw [← e]; exact hS)) lv2 fun sx hp hs => ⟨_, rfl, ?_⟩) (PyProof.Rows.args_list_sort _)))
  obtain ⟨ys, y1, y2, y3⟩ := sorted_out_str hS hp hs
  obtain ⟨c, hc⟩ := sortedHeap_at (vs := vs) (out := (arrOf sx).map (·.2)) hL
  have py := y2.trans pk
  refine wpAny_pure ⟨_, rfl, cont _ s1.heap.objs.size _ c ys (fun b u e => ?_) g1 o1 z1 hc y1 y3 (py.nodup_iff.mpr nd) (fun z => by rw [py.mem_iff, hm z]) ?_⟩
  · have e1 := k1 b u e
    have lt := Heap.lt_size e1
    show (sortedHeap (s1.heap.push (seqObj "list" vs.toArray 0)) s1.heap.objs.size vs ((arrOf sx).map (·.2))).get? b = some u
    rw [sortedHeap_old (Nat.ne_of_lt lt) (by rw [size_push']; exact Nat.lt_succ_of_lt lt)]
    exact Heap.get?_push_of_some _ e1
  · rw [y2.length_eq, List.length_map]
    exact lv
end
/-! ### the rule -/
/-- sorted(set(a)), a list or a tuple of texts -/
def tSortSet (K : PySem.W.Frag) (ta : TE) : TE := fun σ H Q => ta σ H fun x H1 => ∃ (l : Addr) (zs : List Str), x = .ref l ∧ (SqL K H1 l (zs.map V.str) ∨ SqT K H1 l (zs.map V.str)) ∧ zs.length ≤ 1000 ∧
  ∀ (ys : List Str) (p : Addr), sortedS ys = true → ys.Nodup → (∀ z, z ∈ ys ↔ z ∈ zs) → ys.length ≤ zs.length → H1 p = none → Q (.ref p) (upd H1 p (.lst (ys.map V.str)))
section
variable {X : Cx}
theorem vals_get {zs : List Str} {its : List Value} (r : Vals (zs.map V.str) its) (i : Nat) (v : Value) (hyp : its[i]? = some v) : ∃ (z : Str) (t : Tok), zs[i]? = some z ∧ v = Value.str z t := by
  have hl := r.length
  rw [List.length_map] at hl
  have hi : i < zs.length := by
    rw [hl]
    exact (List.getElem?_eq_some_iff.mp hyp).1
  obtain ⟨u, hu, ru⟩ := r.get (i := i) (x := V.str zs[i]) (by rw [List.getElem?_map, List.getElem?_eq_getElem hi]; rfl)
  rw [hyp] at hu
  obtain rfl : v = u := Option.some.inj hu
  obtain ⟨t, et⟩ := ru
  exact ⟨zs[i], t, List.getElem?_eq_getElem hi, et⟩
theorem len_of {zs : List Str} {its : List Value} (r : Vals (zs.map V.str) its) : zs.length = its.toArray.size := by
  have cont := r.length
  rw [List.length_map] at cont
  rw [List.size_toArray, cont]
theorem room_of {zs : List Str} {its : List Value} (r : Vals (zs.map V.str) its) (hyp : zs.length ≤ 1000) : its.toArray.size + 1 < scanBound := by
  rw [← len_of r]
  unfold scanBound
  omega
theorem pe_sortSet {a : Expr} {ta : TE} {p p2 q2 pos : Pos} (hc : X.calm = true) (hg : Gl X "sorted") (hm : X.mg "sorted" = none) (hg2 : Gl X "set") (hm2 : X.mg "set" = none) (ha : PE X a ta) (na : starEach [a] X.env = (false, eval a X.env) :: starEach [] X.env := by rfl) :
    PE X (.Call (.Name "sorted" p) [.Call (.Name "set" p2) [a] [] q2] [] pos) (tSortSet X.K ta) := by
  refine ⟨fun pins s σ H Q Iv hyp => ?_⟩
  refine Call_ (ld_blt Iv hg hm (show bootBuiltins "sorted" = some (.builtin "sorted") by decide +kernel) (PyProof.Rows.callWith_builtin1 (PyProof.Rows.args_cons ?_ rfl) rfl rfl))
  refine Call_ (ld_blt Iv hg2 hm2 boot_set (PyProof.Rows.callWith_type1 (PyProof.Rows.args_cons (thn (ha.run pins s σ H _ Iv hyp) fun v s1 ⟨x, H1, Iv1, r1, q1⟩ => PyProof.Rows.args_nil ?_) na) na rfl))
  obtain ⟨l, zs, rfl, hq, h1, q1⟩ := q1
  cases r1
  have fin : ∀ (its : List Value), Vals (zs.map V.str) its → ∀ (hp' : Heap) (tk : Nat), SetTx X.prog X.w hp' s1.heap.objs.size zs its.toArray.size → (∀ b ob, s1.heap.get? b = some ob → hp'.get? b = some ob) →
      wpAny (model X.prog X.w) X.A (spliced (backTo pos (starEach [] X.env))) (fun vs s₂ => wpAny (model X.prog X.w) X.A (call (.builtin "sorted") (Value.ref s1.heap.objs.size :: vs)) (EP X pins σ Q) X.xe s₂) X.xe { s1 with heap := hp', toks := tk } := fun its r hp' tk T kp => by
    refine PyProof.Rows.args_nil
        ?_
    have Iv2 : Inv X pins σ H1 { s1 with heap := hp', toks := tk } := Iv1.kept kp
    have n1 : its.toArray.size = zs.length := by
      have cont := r.length
      rw [List.length_map] at cont
      rw [List.size_toArray, cont]
    rw [n1] at T
    refine sorted_setTx T (Iv1.ok.hd hc) fun s3 p' out c ys k3 g3 o3 z3 hp3 y1 y2 y3 y4 y5 => ?_
    have Iv3 := Iv2.tok tk
    have hn : H1 p' = none := Iv2.hok.fresh z3
    have big : (ys.map V.str).length ≤ sizeLine := by
      rw [List.length_map,
          sizeLine_eq]
      omega
    obtain ⟨hp4, g4, d4, t4, o4⟩ := s3
    obtain rfl : o4 = s1.os := o3
    have bare4 : AllBare g4 := by
      rw [show g4 = s1.gens from g3]
      exact Iv2.bare
    have un : Un X.fs [] H1 (upd H1 p' (.lst (ys.map V.str))) hp' hp4 := Un.laid k3 z3 hn
    have ok4 : HOk X.prog X.w (upd H1 p' (.lst (ys.map V.str))) hp4 := Iv2.hok.laid k3 z3 ⟨big, out.toList, c, vals_of_strs y1, hp3⟩
    exact ⟨.ref p', _, L2.Inv.call (s := { s1 with heap := hp', toks := tk }) Iv2 (ch := []) (Un.laid k3 z3 hn) ok4 bare4 (fun _ z => nomatch z), rfl, q1 ys p' y2 y3 y4 y5 hn⟩
  rcases hq with hq | hq
  · obtain ⟨its, r, pl, hz⟩ := Iv1.list hq
    obtain ⟨⟨c0, d0, dt0, sl0⟩, ho, hc0, n0, hd0⟩ := pl.isList
    obtain rfl : c0 = Value.type "list" := hc0
    exact call_set_any (src_list l its.toArray) (Iv1.ok.hd hc) ho pl.isList (fun i v hv => vals_get r i v (by simpa using hv)) (len_of r) (room_of r h1) fun hp' tk T kp => fin its r hp' tk T kp
  · obtain ⟨its, r, pl, hz⟩ := Iv1.tuple hq
    obtain ⟨⟨c0, d0, dt0, sl0⟩, ho, hc0, n0, hd0⟩ := id pl
    obtain rfl : c0 = Value.type "tuple" := hc0
    exact call_set_any (src_tuple l its.toArray) (Iv1.ok.hd hc) ho pl (fun i v hv => vals_get r i v (by simpa using hv)) (len_of r) (room_of r h1) fun hp' tk T kp => fin its r hp' tk T kp
end
end TxS
namespace K1
open PySem PySem.Spec PyProof.Rows L2 EnT StX SmX TxS
/-! ### errors of the program -/
structure ErrC (K : PySem.W.Frag) (mg : Str → Option Value) (x f : Str) (C fI : Addr) : Prop where
  g : mg x = some (.ref C)
  ox : OexC K C
  no : PySem.W.findIn K (.ref C) f = some none
  ini : PySem.W.findIn K (.ref C) "__init__" = some (some (.ref fI))
  ty : PySem.W.typeIn K (.ref fI) = some (.type "function")
/-- an error of the class at C with one field, let go from the heap H -/
def ErrAt (C : Addr) (f : Str) (v : V) (H : Hp) (E : XK) : Prop := ∀ (d : Addr) (H' : Hp), Same H H' → H' d = none → E (.ref C) (some d) (upd H' d (.xd [(f, v)]))
def spErr (C : Addr) (f : Str) : Sp := fun vs H Q _ => ∃ (a : Addr) (v : V), vs = [.ref a, v] ∧ H a = some (exo a C none) ∧ ∀ d, H d = none → d ≠ a → Q .non (upd (upd H d (exd d [(f, v)])) a (exo a C (some d)))
theorem raise_heap {H : Hp} {a d : Addr} {o1 o2 o3 o4 : HO} (n : H a = none) (hd : d ≠ a) : upd (del (upd (upd (upd H a o1) d o2) a o3) a) d o4 = upd H d o4 := by
  funext b
  by_cases h1 : b = d
  · rw [h1, upd_same, upd_same]
  · rw [upd_ne h1, upd_ne h1]
    by_cases h2 : b = a
    · rw [h2, del_same, n]
    · rw [del_ne h2, upd_ne h2, upd_ne h1, upd_ne h2]
section
variable {w : World} {P : Program}
variable {base : Heap} {mg : Str → Option Value} {K : PySem.W.Frag}
theorem scErrN : FnScope ["self", "index"] ["self", "index"] (defScope sErrNames) := ⟨rfl, rfl, rfl, by decide +kernel, rfl, by decide +kernel, by decide +kernel⟩
theorem scErrT : FnScope ["self", "value"] ["self", "value"] (defScope sErrText) := ⟨rfl, rfl, rfl, by decide +kernel, rfl, by decide +kernel, by decide +kernel⟩
theorem ok_errN {f C fI : Addr} {fd : FuncData} (F : Fun K "__init__" "InvalidNames.__init__" sErrNames f fd) (T : ErrC K mg "InvalidNames" "index" C fI) : FnOk P w K mg base CX0 1 f fd ["self", "index"] (spErr C "index") := by
  refine F.ok scErrN (fun vs H Q E h => ?_) (fun cdv A outer s H vs Q E hr h => ?_)
  · obtain ⟨a, v, rfl, _⟩ := h
    rfl
  · obtain ⟨a, v, rfl, ha, q⟩ := h
    exact ⟨_, pss_one (ps_ost (pv 0) (pv 1)), _, rfl, _, rfl, a, C, rfl, T.ox, T.no, .inl ⟨ha, fun d nd ne => q d nd ne⟩⟩
theorem ok_errT {f C fI : Addr} {fd : FuncData} (F : Fun K "__init__" "InvalidText.__init__" sErrText f fd) (T : ErrC K mg "InvalidText" "value" C fI) : FnOk P w K mg base CX0 1 f fd ["self", "value"] (spErr C "value") := by
  refine F.ok scErrT (fun vs H Q E h => ?_) (fun cdv A outer s H vs Q E hr h => ?_)
  · obtain ⟨a, v, rfl, _⟩ := h
    rfl
  · obtain ⟨a, v, rfl, ha, q⟩ := h
    exact ⟨_, pss_one (ps_ost (pv 0) (pv 1)), _, rfl, _, rfl, a, C, rfl, T.ox, T.no, .inl ⟨ha, fun d nd ne => q d nd ne⟩⟩
end
/-! ### Members -/
def flds (t d : Addr) : List (Str × V) := putF "_table" (.ref d) (putF "_names" (.ref t) [])
def tabOf (zs : List Str) : List (Key × V) := zs.map fun z => (Sum.inr z, V.bl true)
structure MemAt (C : Addr) (H : Hp) (p : Addr) (zs : List Str) : Prop where
  at_ : ∃ dx t d, H p = some (.ins C dx (flds t d)) ∧ H t = some (.tup (zs.map V.str)) ∧ H d = some (.dK (tabOf zs))
  srt : sortedS zs = true
  nd : zs.Nodup
  few : zs.length ≤ 1000
  nm : ∀ z ∈ zs, nameB z = true
theorem MemAt.same {C : Addr} {H H' : Hp} {p : Addr} {zs : List Str} (s : Same H H') (m : MemAt C H p zs) : MemAt C H' p zs := by
  obtain ⟨⟨dx, t, d, h1, h2, h3⟩, a, b, c, e⟩ := m
  exact ⟨⟨dx, t, d, s _ _ h1, s _ _ h2, s _ _ h3⟩, a, b, c, e⟩
/-- what Members(..) gives: new Members of these texts -/
def Makes (C : Addr) (zs : List Str) (H : Hp) (Q : VK) : Prop := ∀ (p : Addr) (ys : List Str) (H' : Hp), H p = none → Same H H' → (∀ z, z ∈ ys ↔ z ∈ zs) → MemAt C H' p ys → Q (.ref p) H'
structure MemC (K : PySem.W.Frag) (mg : Str → Option Value) (C : Addr) : Prop where
  g : mg "Members" = some (.ref C)
  cl : Cls K C
  nN : NoAttr K C "_names"
  nT : NoAttr K C "_table"
/-- the dict of the Members at p was not there in H -/
def MemN (C : Addr) (H H' : Hp) (p : Addr) : Prop := ∃ dx t d, H' p = some (.ins C dx (flds t d)) ∧ H d = none
/-- __init__, its names a tuple at t -/
def spInit0 (K : PySem.W.Frag) (C CN : Addr) : Sp := fun vs H Q E => ∃ (p t dx : Addr) (xs : List V), vs = [.ref p, .ref t] ∧ H p = some (.ins C dx []) ∧ SqT K H t xs ∧ (∀ v ∈ xs, VOk H v) ∧ xs.length ≤ 1000 ∧
  (∀ i, wrongIx xs = some i → ErrAt CN "index" (.int i) H E) ∧ (wrongIx xs = none → ∀ zs : List Str, xs = zs.map V.str → ∀ (ys : List Str) (H' : Hp), (∀ b o, b ≠ p → H b = some o → H' b = some o) → (∀ z, z ∈ ys ↔ z ∈ zs) → MemAt C H' p ys → MemN C H H' p → Q .non H')
theorem all_texts : ∀ {xs : List V}, wrongIx xs = none → ∃ zs : List Str, xs = zs.map V.str
  | [], _ => ⟨[], rfl⟩
  | x :: r, h => by
    unfold wrongIx at h
    rw [List.findIdx?_eq_none_iff] at h
    have hr : wrongIx r = none := by
      unfold wrongIx
      rw [List.findIdx?_eq_none_iff]
      exact fun y hy => h y (List.mem_cons_of_mem _ hy)
    obtain ⟨zs, e⟩ := all_texts hr
    have hx := h x List.mem_cons_self
    cases x with
    | str z => exact ⟨z :: zs, by rw [e]; rfl⟩
    | _ => simp [nameV] at hx
theorem names_ok {zs : List Str} (h : wrongIx (zs.map V.str) = none) : ∀ z ∈ zs, nameB z = true := fun z hz => by
  unfold wrongIx at h
  rw [List.findIdx?_eq_none_iff] at h
  simpa [nameV] using h (V.str z) (List.mem_map.mpr ⟨z, hz, rfl⟩)
section
variable {w : World} {P : Program}
variable {base : Heap} {mg : Str → Option Value} {K : PySem.W.Frag}
theorem kNT : ¬ (("_names" : Str) = "_table") := by decide +kernel
theorem look_names (u : Addr) : (putF "_names" (V.ref u) []).lookup ("_names" : Str) = some (.ref u) := by
  rw [lookup_putF, if_pos rfl]
theorem tab_none {zs : List Str} {z : Str} (h : z ∉ zs) : valV (tabOf zs) (Sum.inr z : Key) = none := by
  induction zs with
  | nil => rfl
  | cons a r ih =>
    have ha : ¬ a = z := fun e => h (e ▸ List.mem_cons_self)
    show valV ((Sum.inr a, V.bl true) :: tabOf r) (Sum.inr z : Key) = none
    rw [valV_neg (fun e => ha (Sum.inr.inj e))]
    exact ih fun m => h (List.mem_cons_of_mem _ m)
theorem take_nodup_none {ys : List Str} {i : Nat} {z : Str} (nd : ys.Nodup) (h : ys[i]? = some z) : z ∉ ys.take i := by
  intro m
  obtain ⟨ltX, e⟩ := List.getElem?_eq_some_iff.mp h
  obtain ⟨j, hj, ej⟩ := List.mem_iff_getElem.mp m
  rw [List.length_take] at hj
  rw [List.getElem_take] at ej
  have := (List.getElem_inj nd).mp (ej.trans e.symm)
  omega
abbrev nmInit : List Str := ["self", "names", "at", "name"]
theorem scInit : FnScope nmInit ((["self"] : List Str) ++ (["names"] : List Str)) (defScope sInit) := ⟨rfl, rfl, rfl, by decide +kernel, rfl, by decide +kernel, by decide +kernel⟩
theorem ok_init {f fW fE C CN : Addr} {fd fdW fdE : FuncData} (F : Fun K "__init__" "Members.__init__" sInit f fd) (T : Free mg) (M : MemC K mg C) (GW : FnOk P w K mg base CX0 2 fW fdW ["values"] (spWrongT K)) (FW : Fun K "wrong_at" "wrong_at" sWrong fW fdW) (mgW : mg "wrong_at" = some (.ref fW))
    (EN : ErrC K mg "InvalidNames" "index" CN fE) (FE : Fun K "__init__" "InvalidNames.__init__" sErrNames fE fdE) :
    FnR P w K mg base (L2.CX P w) 4 f (fun vs H Q E => ∃ ws rest, vs = ws ++ rest ∧ ws.length = (["self"] : List Str).length ∧ rest.length ≤ sizeLine ∧ ∀ p, H p = Option.none → spInit0 K C CN (ws ++ [V.ref p]) (upd H p (.tup rest)) Q E) := by
  have bW : Binds K fdW ["values"] [] := FW.binds (ps := ["values"]) fun _ _ _ _ _ _ us hl => match us, hl with | [_], _ => rfl
  have bE : Binds K fdE ["self", "index"] [] := FE.binds (ps := ["self", "index"]) fun _ _ _ _ _ _ us hl => match us, hl with | [_, _], _ => rfl
  have GE : FnOk P w K mg base CX0 1 fE fdE ["self", "index"] (spErr CN "index") := ok_errN FE EN
  obtain ⟨oc, oD, kV, doc, pm, an, cdv, ct, osl, rfl, lk, hcd⟩ := F.ex
  refine fn_star (ps := ["self"]) (pv := "names") (sp := spInit0 K C CN) lk hcd scInit cxUp (bind_star1 (B := fun us => bindArgs (PySem.W.fnOf "__init__" "Members.__init__" (defArgs sInit) (defBody sInit) (defScope sInit) .none kV doc pm an cdv ct) ⟨us, []⟩) (p1 := "self") (pv := "names") (fun a => rfl) fun a r rs => rfl) fun A outer s H vs Q E hr h => ?_
  obtain ⟨p, t, dx, xs, rfl, hp, hS, hv, hl, qE, q⟩ := h
  refine ⟨_, pss_cons (ps_set (i := 2) scInit.nd rfl (.inl rfl) (pe_call GW (hr.mono (by decide)) rfl mgW FW.kp bW .nil pass0 (pa_cons (pv 1) pa_nil)))
    (pss_cons (ps_if (pt_cmp (pc_notN (pv 2))) (pss_one (ps_raise rfl (takes_of rfl rfl rfl rfl) (pmk_oex EN.ox EN.ini EN.ty GE (hr.mono (by decide)) bE .nil pass0 rfl EN.g (pa_cons (pv 2) pa_nil)))) pss_nil)
    (pss_cons (ps_fld (pv 0) (pe_callTy call_tuple_of (by rfl) T.tuple (by decide +kernel) (pa_cons (pe_sortSet rfl (by rfl) T.sorted (by rfl) T.set (pv 1)) pa_nil)) rfl)
    (pss_one (ps_fld (pv 0) (pe_dc (own := [("name", 3)]) (g := gName 3) (tt := tYes) rfl scInit.nd (pi_tup (pe_fld (pv 0) rfl)) (blkOk_by (own := [("name", 3)]) (N := nmInit) (sc := defScope sInit) (by decide +kernel)) (fun _ _ _ _ _ => pg_name (i := 3) scInit.nd rfl (Or.inl rfl)) (fun _ _ _ _ _ => pts_nil) (fun _ _ _ _ _ => pv 3) (fun _ _ _ _ _ => pe_bl)) rfl)))), ?_⟩
  refine ⟨_, rfl, t, xs, rfl, hS, hv, fun H1 sm => ?_⟩
  refine ⟨_, rfl, _, rfl, ?_⟩
  cases hw : wrongIx xs with
  | some i =>
    refine iteT ?_
    refine ⟨_, rfl, (by show 1 ≤ 1000; decide), fun a na => ⟨a, _, rfl, upd_same, fun d nd ne => ⟨rfl, d, [("index", .int i)], upd_same, ?_, ?_, ?_⟩⟩⟩
    · rw [upd_ne ne, upd_same]
      rfl
    · rw [upd_ne ne] at nd
      exact nd
    · rw [raise_heap na ne]
      rw [upd_ne ne] at nd
      exact qE i hw d H1 sm nd
  | none =>
    refine iteF ?_
    obtain ⟨zs, rfl⟩ := all_texts hw
    have hS1 : SqT K H1 t (zs.map V.str) := sameT sm hS
    have hp1 := sm _ _ hp
    refine ⟨_, rfl, t, zs, rfl, .inr hS1, by rw [List.length_map] at hl; exact hl, fun ys l y1 y2 y3 y4 nl => ?_⟩
    refine ⟨l, _, rfl, .inl ⟨SqL.of upd_same, fun u nu => ?_⟩⟩
    have nu1 : H1 u = none := by
      by_cases e : u = l
      · rw [e, upd_same] at nu
        cases nu
      · rw [upd_ne e] at nu
        exact nu
    have pu : p ≠ u := ne_of_none hp1 nu1
    have pl : p ≠ l := ne_of_none hp1 nl
    have s1 : Same H1 (upd H1 l (.lst (ys.map V.str))) := same_upd nl
    have s2 : Same (upd H1 l (.lst (ys.map V.str))) (upd (upd H1 l (.lst (ys.map V.str))) u (.tup (ys.map V.str))) := same_upd nu
    refine ⟨_, rfl, p, C, dx, [], rfl, s2 _ _ (s1 _ _ hp1), M.cl, M.nN, (by show 0 < 1000; decide), ?_⟩
    generalize e4 : upd (upd (upd H1 l _) u _) p _ = H4
    have h4p : H4 p = some (.ins C dx (putF "_names" (.ref u) [])) := by
      rw [← e4]
      exact upd_same
    have h4u : H4 u = some (.tup (ys.map V.str)) := by
      rw [← e4, upd_ne (Ne.symm pu)]
      exact upd_same
    have kp : ∀ b o, b ≠ p → H b = some o → H4 b = some o := fun b o n z => by
      rw [← e4, upd_ne n]
      exact s2 _ _ (s1 _ _ (sm _ _ z))
    clear e4
    refine ⟨_, rfl, p, C, dx, _, _, rfl, h4p, M.cl, M.nN, look_names u, u, rfl, ⟨_, SqT.of h4u⟩, fun D nD => ?_⟩
    have Dp : D ≠ p := fun e => by
      rw [e, h4p] at nD
      cases nD
    have Du : D ≠ u := fun e => by
      rw [e, h4u] at nD
      cases nD
    have few : ys.length ≤ 1000 := Nat.le_trans y4 (by rw [List.length_map] at hl; exact hl)
    refine dc_tup (K := K) (a := u) (xs := ys.map V.str) (fun i H' => (∀ b o, b ≠ D → H4 b = some o → H' b = some o) ∧ H' D = some (.dK (tabOf (ys.take i)))) ?_ ?_ ?_ ?_
    · exact ⟨fun b o n z => by rw [upd_ne n]; exact z, upd_same⟩
    · rintro i H' ltX ⟨k, hD⟩
      exact SqT.of (k _ _ (Ne.symm Du) h4u)
    · rintro i x H' hx ⟨k, hD⟩
      rw [List.getElem?_map] at hx
      obtain ⟨z, ez, rfl⟩ := Option.map_eq_some_iff.mp hx
      have ltX : i < ys.length := (List.getElem?_eq_some_iff.mp ez).1
      refine ⟨rfl, ?_⟩
      refine ⟨_, rfl, tabOf (ys.take i), Sum.inr z, rfl, hD, ?_, ?_, ?_⟩
      · unfold tabOf
        rw [List.length_map, List.length_take]
        exact small1000 (by omega)
      · intro b o n q2
        rw [upd_ne n]
        exact k b o n q2
      · rw [upd_same, putK_new _ (tab_none (take_nodup_none y2 ez))]
        unfold tabOf
        rw [List.take_add_one, ez, List.map_append]
        rfl
    · rintro H' ⟨k, hD⟩
      rw [List.length_map, List.take_length] at hD
      refine ⟨_, rfl, p, C, dx, _, rfl, k _ _ (Ne.symm Dp) h4p, M.cl, M.nT, (by rw [show (putF "_names" (V.ref u) []).length = 1 from rfl]; decide), ?_⟩
      refine q hw zs rfl ys _ (fun b o n z => ?_) y3 ⟨⟨dx, u, D, upd_same, ?_, ?_⟩, y1, y2, few, fun z hz => names_ok hw z ((y3 z).mp hz)⟩ ⟨dx, u, D, upd_same, by
        cases e : H D with
        | none => rfl
        | some o =>
          have := kp D o Dp e
          rw [nD] at this
          cases this⟩
      · rw [upd_ne n]
        exact k b o (fun e => by rw [e] at z; have := kp D o (e ▸ n) z; rw [nD] at this; cases this) (kp b o n z)
      · rw [upd_ne (Ne.symm pu)]
        exact k _ _ (Ne.symm Du) h4u
      · rw [upd_ne Dp]
        exact hD
end
end K1
/-! str(o), repr(o), len(o), bool(o), v in o, o == v, o != v by an own class's methods -/
namespace DuX
open PySem PySem.Spec
open PyProof.Rows L2
section
variable {X : Cx} {CX : CXT} {k : Nat} {g C : Addr} {sp : Sp} {Ek : XK} {pins : List (Addr × Obj)} {σ : L2.St} {H : Hp} {s : Shared}
/-- a method is run somewhere below the body that runs -/
theorem run_below {A : Around} {valsU : List Value} {vs : List V} {Q : VK} (F : FnR X.prog X.w X.K X.mg X.base CX k g sp) (hr : Room k A) (hf : A.frames = X.A.frames) (hx : Passes CX X Ek) (Iv : Inv X pins σ H s) (r : Vals vs valsU) (hyp : sp vs H Q Ek) :
    wpAny (model X.prog X.w) A (call (.ref g) valsU) (EP X pins σ Q) X.xe s := by
  have e0 : Env0 X.prog X.w X.K
      X.mg X.base A X.stack s H := by
    obtain ⟨a1, a2, a3, a4, a5, a6, a7, a8⟩ := Iv.env0
    exact ⟨by rw [hf]; exact a1, a2, a3, a4, a5, a6, a7, a8⟩
  refine wpAny_call (codeAny_mono (F A X.stack s H valsU vs Q Ek hr e0 r hyp) fun res s1 hq => ?_)
  match res, hq with
  | .error e, hq => exact hx pins σ H s e s1 Iv hq
  | .ok (.ret u), hq => exact Iv.after hq
  | .ok .next, hq => exact False.elim hq
  | .ok .brk, hq => exact False.elim hq
  | .ok .cont, hq => exact False.elim hq
/-- the class at C has the method m, at g -/
structure OwnM (K : PySem.W.Frag) (C : Addr) (m : Str) (g : Addr) : Prop where
  at_ : PySem.W.findIn K (.ref C) m = some (some (.ref g))
  fn : PySem.W.isFn
      K (.ref g) = true
theorem inst_of {a dx : Addr} {fs : List (Str × V)} (Iv : Inv X pins σ H s) (hyp : H a = some (.ins C dx fs)) : ∃ ox od, PySem.W.InstAt s.heap a ox C (some od) := by
  obtain ⟨mA, O, _⟩ := ins_get Iv.hok hyp
  obtain ⟨od, J, _⟩ := O.look
  exact ⟨_, od, J⟩
/-- str(o) -/
theorem call_strO (m : OwnM X.K C "__str__" g) (F : FnR X.prog X.w X.K X.mg X.base CX k g sp) (hr : Room (k + 2) X.A) (hx : Passes CX X Ek) :
    CallR X (.type "str") (fun xs H Q => ∃ a dx fs, xs = [.ref a] ∧ H a = some (.ins C dx fs) ∧ sp [.ref a] H (fun v H' => ∃ z, v = .str z ∧ Q (.str z) H') Ek) := by
  intro pins s σ H xs valsU Q Iv r hyp
  obtain ⟨a, dx, fs, rfl, atA, cont⟩ := hyp
  rw [Vals.ref1 r]
  obtain ⟨ox, od, J⟩ := inst_of Iv atA
  refine PySem.W.kso_call hr.in1.in1.units0 Iv.kIn J m.at_ m.fn ?_
  refine wpAny_mono (run_below F hr.in1.in1 rfl hx Iv (vs := [V.ref a]) (.cons rfl .nil) cont) (fun u s1 hu => ?_) fun _ _ e => e
  obtain ⟨v, H1, Iv1, rv, z, rfl, q1⟩ := hu
  obtain ⟨t, rfl⟩ := rv
  exact ⟨.str z, H1, Iv1, ⟨t, rfl⟩, q1⟩
/-- repr(o) -/
theorem call_reprO (m : OwnM X.K C "__repr__" g) (F : FnR X.prog X.w X.K X.mg X.base CX k g sp) (hr : Room (k + 1) X.A) (hx : Passes CX X Ek) :
    CallR X (.builtin "repr") (fun xs H Q => ∃ a dx fs, xs = [.ref a] ∧ H a = some (.ins C dx fs) ∧ sp [.ref a] H (fun v H' => ∃ z, v = .str z ∧ Q (.str z) H') Ek) := by
  intro pins s σ H xs valsU Q Iv r hyp
  obtain ⟨a, dx, fs, rfl, atA, cont⟩ := hyp
  rw [Vals.ref1 r]
  obtain ⟨ox, od, J⟩ := inst_of Iv atA
  obtain ⟨mm, hF⟩ := Iv.fr
  refine PySem.W.repr_K hr.in1.units0 hF Iv.ok.mod.kin J m.at_ m.fn ?_
  refine wpAny_mono (run_below F hr.in1 rfl hx Iv (vs := [V.ref a]) (.cons rfl .nil) cont) (fun u s1 hu => ?_) fun _ _ e => e
  obtain ⟨v, H1, Iv1, rv, z, rfl, q1⟩ := hu
  obtain ⟨t, rfl⟩ := rv
  exact ⟨.str z, H1, Iv1, ⟨t, rfl⟩, q1⟩
/-- len(o) -/
theorem call_lenO (m : OwnM X.K C "__len__" g) (F : FnR X.prog X.w X.K X.mg X.base CX k g sp) (hr : Room (k + 1) X.A) (hx : Passes CX X Ek) :
    CallR X (.builtin "len") (fun xs H Q => ∃ a dx fs, xs = [.ref a] ∧ H a = some (.ins C dx fs) ∧ sp [.ref a] H (fun v H' => ∃ n : Nat, v = .int n ∧ n < 2 ^ 62 ∧ Q (.int n) H') Ek) := by
  intro pins s σ H xs valsU Q Iv r hyp
  obtain ⟨a, dx, fs, rfl, atA, cont⟩ := hyp
  rw [Vals.ref1 r]
  obtain ⟨ox, od, J⟩ := inst_of Iv atA
  obtain ⟨mm, hF⟩ := Iv.fr
  refine PySem.W.len_K hF Iv.ok.mod.kin J m.at_ m.fn ?_
  refine wpAny_mono (run_below F hr.in1 rfl hx Iv (vs := [V.ref a]) (.cons rfl .nil) cont) (fun u s1 hu => ?_) fun _ _ e => e
  obtain ⟨v, H1, Iv1, rv, n, rfl, hn, q1⟩ := hu
  obtain ⟨t, rfl⟩ := rv
  exact ⟨⟨by omega, by omega⟩, .int n, H1, Iv1.tok _, ⟨_, rfl⟩, q1⟩
/-- v in o -/
theorem op_inO (m : OwnM X.K C "__contains__" g) (F : FnR X.prog X.w X.K X.mg X.base CX k g sp) (hr : Room k X.A) (hx : Passes CX X Ek) :
    OpR X (compareOp .In) (fun x y H Q => ∃ a dx fs, y = .ref a ∧ H a = some (.ins C dx fs) ∧ sp [.ref a, x] H (fun v H' => ∃ b, v = .bl b ∧ Q (.bl b) H') Ek) := by
  intro pins s σ H x y u v Q Iv rx ry hyp
  obtain ⟨a, dx, fs, rfl, atA, cont⟩ := hyp
  cases ry
  obtain ⟨ox, od, J⟩ := inst_of Iv atA
  obtain ⟨mm, hF⟩ := Iv.fr
  refine PySem.W.in_K hF Iv.ok.mod.kin J m.at_ m.fn ?_
  refine wpAny_mono (run_below F hr rfl hx Iv (vs := [V.ref a, x]) (.cons rfl (.cons rx .nil)) cont) (fun u' s1 hu => ?_) fun _ _ e => e
  obtain ⟨v', H1, Iv1, rv, b, rfl, q1⟩ := hu
  cases rv
  exact wpAny_truthy_bool ⟨.bl b, H1, Iv1, rfl, q1⟩
/-- o == v: the own method answers with a truth value -/
theorem rc_eq {A : Around} {a dx : Addr} {fs : List (Str × V)} {y : V} {u t : Value} {Q : Bool → Hp → Prop} (m : OwnM X.K C "__eq__" g) (F : FnR X.prog X.w X.K X.mg X.base CX k g sp) (hr : Room k A) (hf : A.frames = X.A.frames) (hx : Passes CX X Ek) (Iv : Inv X pins σ H s) (atA : H a = some (.ins C dx fs))
    (ry : RelV y u) (ty : ∀ M : Model, PySem.W.Looks M s.heap (typeOf u) t) (nf : PySem.W.notFirst X.K C t = true) (cont : sp [.ref a, y] H (fun v H' => ∃ b, v = .bl b ∧ Q b H') Ek) :
    wpAny (model X.prog X.w) A (richCompare .Eq (.ref a) u) (fun r s1 => ∃ b, r = .bool b ∧ ∃ H', Inv X pins σ H' s1 ∧ Q b H') X.xe s := by
  obtain ⟨ox, od, J⟩ := inst_of Iv atA
  obtain ⟨mm, hF⟩ := Iv.fr
  refine PySem.W.cmp_K (op := .Eq) hr.units0 hF Iv.ok.mod.kin J (ty _) nf m.at_ m.fn ?_
  refine wpAny_mono (run_below F hr hf hx Iv (vs := [V.ref a, y]) (.cons rfl (.cons ry .nil)) cont) (fun w s1 hu => ?_) fun _ _ e => e
  obtain ⟨v, H1, Iv1, rv, b, rfl, q1⟩ := hu
  cases rv
  exact ⟨b, rfl, H1, Iv1, q1⟩
theorem op_eqO (m : OwnM X.K C "__eq__" g) (F : FnR X.prog X.w X.K X.mg X.base CX k g sp) (hr : Room k X.A) (hx : Passes CX X Ek) :
    OpR X (compareOp .Eq) (fun x y H Q => ∃ a dx fs t, x = .ref a ∧ H a = some (.ins C dx fs) ∧ (∀ pins σ s u, Inv X pins σ H s → RelV y u → ∀ M : Model, PySem.W.Looks M s.heap (typeOf u) t) ∧ PySem.W.notFirst X.K C t = true ∧ sp [.ref a, y] H (fun v H' => ∃ b, v = .bl b ∧ Q (.bl b) H') Ek) := by
  intro pins s σ H x y u v Q Iv rx ry hyp
  obtain ⟨a, dx, fs, t, rfl, atA, ty, nf, cont⟩ := hyp
  cases rx
  refine wpAny_mono (rc_eq (Q := fun b H' => Q (.bl b) H') m F hr rfl hx Iv atA ry (ty pins σ s _ Iv ry) nf cont) (fun r s1 z => ?_) fun _ _ e => e
  obtain ⟨b, rfl, H1, Iv1, q1⟩ := z
  exact ⟨.bl b, H1, Iv1, rfl, q1⟩
/-- a special method that is a built-in's -/
theorem bound_bi {M : Model} {A : Around} {E : Value → Shared → Prop} {a : Addr} {ox : Obj} {od : Option Obj} {name : Str} {id : String} {args : List Value} {Q : Option Value → Shared → Prop} {Kf : PySem.W.Frag} (kin : Kf.In s.heap) (J : PySem.W.InstAt s.heap a ox C od) (hs : PySem.W.findIn Kf (.ref C) name = some (some (.builtin id)))
    (hb : ∀ self, bindSpecial (.builtin id) self = pure (.builtin id, [self])) (hyp : wpAny M A (call (.builtin id) (.ref a :: args)) (fun v => Q (some v)) E s) : wpAny M A (callSpecialIfBound? (.ref a) name args) Q E s := by
  simp only [callSpecialIfBound?,
      bindSpecialIfBound?]
  refine wpAny_holding (wpAny_bind (wpAny_bind (wpAny_bind (J.type.here ((PySem.W.looks_findIn kin hs).here ?_)))))
  have go : wpAny M A (call (.builtin id) ([.ref a] ++ args) >>= fun v => pure (some v)) Q E s := wpAny_bind (wpAny_mono hyp (fun v s1 z => wpAny_pure z) fun _ _ z => z)
  refine wpAny_bind (wpAny_askSetting
      (wpAny_ite ?_))
  split
  · exact wpAny_bind ((PySem.W.Looks.of_pure (hb _)).here (wpAny_pure go))
  · exact wpAny_tryCatch (wpAny_bind ((PySem.W.Looks.of_pure (hb _)).here (wpAny_pure go)))
/-- object.__ne__(o, v), where o's class has its own == -/
theorem one_ne {A : Around} {a dx : Addr} {fs : List (Str × V)} {y : V} {u : Value} {Q : Bool → Hp → Prop} (m : OwnM X.K C "__eq__" g) (hm : PySem.W.mroIn X.K C (.type "object") = some true) (F : FnR X.prog X.w X.K X.mg X.base CX k g sp) (hr : Room (k + 1) A) (hf : A.frames = X.A.frames) (hx : Passes CX X Ek) (Iv : Inv X pins σ H s) (atA : H a = some (.ins C dx fs))
    (ry : RelV y u) (cont : sp [.ref a, y] H (fun v H' => ∃ b, v = .bl b ∧ Q b H') Ek) :
    wpAny (model X.prog X.w) A (call (.builtin "object.__ne__") [.ref a, u]) (fun r s1 => ∃ b, r = .bool (!b) ∧ ∃ H', Inv X pins σ H' s1 ∧ Q b H') X.xe s := by
  obtain ⟨ox, od, J⟩ := inst_of Iv atA
  refine wpAny_call (codeAny_call_builtin PySem.F.slot_object_ne.plain PySem.F.cmpEntry_ne (PySem.W.check_slot (i := "object.__ne__") (owner := "object") (n := "__ne__") (by decide +kernel) (by decide +kernel) (J.type.andThen (PySem.W.looks_mroIn Iv.kIn hm)) (PySem.F.cmpArgs_ne _ _) ?_))
  unfold
    Builtin.«object.__ne__»
  refine wpAny_bind (m := slotArgs "__ne__" 1 _) (wpAny_pure ?_)
  refine wpAny_bind (m := cRoomFor _ _) (wpAny_cRoomFor hr.in1.units0 ?_)
  refine wpAny_bind (m := callSpecialIfBound? (.ref a) (Str.ofString "__eq__") _) (PySem.W.ifBound_K Iv.kIn J m.at_ m.fn ?_)
  refine wpAny_mono (run_below F hr.in1 hf hx Iv (vs := [V.ref a, y]) (.cons rfl (.cons ry .nil)) cont) (fun w s1 hu => ?_) fun _ _ e => e
  obtain ⟨v, H1, Iv1, rv, b, rfl, q1⟩ := hu
  cases rv
  refine wpAny_bind (wpAny_truthy_bool ?_)
  exact wpAny_pure ⟨_, rfl, H1, Iv1, q1⟩
theorem rc_ne {A : Around} {a dx : Addr} {fs : List (Str × V)} {y : V} {u t : Value} {Q : Bool → Hp → Prop} (m : OwnM X.K C "__eq__" g) (hn : PySem.W.findIn X.K (.ref C) "__ne__" = some (some (.builtin "object.__ne__"))) (hm : PySem.W.mroIn X.K C (.type "object") = some true) (F : FnR X.prog X.w X.K X.mg X.base CX k g sp) (hr : Room (k + 1) A) (hf : A.frames = X.A.frames)
    (hx : Passes CX X Ek) (Iv : Inv X pins σ H s) (atA : H a = some (.ins C dx fs)) (ry : RelV y u) (ty : ∀ M : Model, PySem.W.Looks M s.heap (typeOf u) t) (nf : PySem.W.notFirst X.K C t = true) (cont : sp [.ref a, y] H (fun v H' => ∃ b, v = .bl b ∧ Q b H') Ek) :
    wpAny (model X.prog X.w) A (richCompare .NotEq (.ref a) u) (fun r s1 => ∃ b, r = .bool (!b) ∧ ∃ H', Inv X pins σ H' s1 ∧ Q b H') X.xe s := by
  obtain ⟨ox, od, J⟩ := inst_of Iv atA
  have one : wpAny (model X.prog X.w) A (tryCompare (.ref a) (cmpInfo .NotEq).2.1 u) (fun r s1 => ∃ b, r = some (.bool (!b)) ∧ ∃ H', Inv X pins σ H' s1 ∧ Q b H') X.xe s := by
    unfold tryCompare
    refine wpAny_bind (bound_bi Iv.kIn J hn PySem.F.slot_object_ne.bind (wpAny_mono (one_ne m hm F hr hf hx Iv atA ry cont) (fun r s1 z => ?_) fun _ _ e => e))
    obtain ⟨b, rfl, z⟩ := z
    exact wpAny_pure ⟨b, rfl, z⟩
  unfold richCompare
  simp only [oneThing_ref]
  refine wpAny_holding (wpAny_bind (wpAny_cRoomFor hr.units0 ?_))
  refine wpAny_bind (J.type.here (wpAny_bind ((ty _).here ?_)))
  split
  · rename_i z
    have e : PySem.W.subIn X.K t (.ref C) = some false := by
      rcases Bool.or_eq_true_iff.mp nf with e | e
      · rw [beq_iff_eq.mp e] at z
        simp at z
      · exact beq_iff_eq.mp e
    refine wpAny_bind ((PySem.W.looks_subIn Iv.kIn e).here ?_)
    simp only [Bool.false_eq_true,
        if_false]
    refine wpAny_bind (wpAny_mono one (fun r s1 zz => ?_) fun _ _ e => e)
    obtain ⟨b, rfl, zz⟩ := zz
    exact wpAny_pure ⟨b, rfl, zz⟩
  · refine wpAny_bind
        (wpAny_pure ?_)
    simp only [Bool.false_eq_true,
        if_false]
    refine wpAny_bind (wpAny_mono one (fun r s1 zz => ?_) fun _ _ e => e)
    obtain ⟨b, rfl, zz⟩ := zz
    exact wpAny_pure ⟨b, rfl, zz⟩
end
end DuX
/-! o != v; bool(o) by the own __len__ -/
namespace DuX
open PySem PySem.Spec
open PyProof.Rows L2
section
variable {X : Cx} {CX : CXT} {k : Nat} {g C : Addr} {sp : Sp} {Ek : XK} {pins : List (Addr × Obj)} {σ : L2.St} {H : Hp} {s : Shared}
/-- what the class at C has from object: its != -/
structure NeM (K : PySem.W.Frag) (C : Addr) : Prop where
  ne : PySem.W.findIn K (.ref C) "__ne__" = some (some (.builtin "object.__ne__"))
  mro : PySem.W.mroIn K C (.type "object") = some true
theorem op_neO (m : OwnM X.K C "__eq__" g) (n : NeM X.K C) (F : FnR X.prog X.w X.K X.mg X.base CX k g sp) (hr : Room (k + 1) X.A) (hx : Passes CX X Ek) :
    OpR X (compareOp .NotEq) (fun x y H Q => ∃ a dx fs t, x = .ref a ∧ H a = some (.ins C dx fs) ∧ (∀ pins σ s u, Inv X pins σ H s → RelV y u → ∀ M : Model, PySem.W.Looks M s.heap (typeOf u) t) ∧ PySem.W.notFirst X.K C t = true ∧ sp [.ref a, y] H (fun v H' => ∃ b, v = .bl b ∧ Q (.bl (!b)) H') Ek) := by
  intro pins s σ H x y u v Q Iv rx ry h
  obtain ⟨a, dx, fs, t, rfl, ha, ty, nf, q⟩ := h
  cases rx
  refine wpAny_mono (rc_ne (Q := fun b H' => Q (.bl (!b)) H') m n.ne n.mro F hr rfl hx Iv ha ry (ty pins σ s _ Iv ry) nf q) (fun r s1 z => ?_) fun _ _ e => e
  obtain ⟨b, rfl, H1, I1, q1⟩ := z
  exact ⟨.bl (!b), H1, I1, rfl, q1⟩
/-- the truth of o, by its __len__ -/
theorem truthy_lenO {A : Around} {a dx : Addr} {fs : List (Str × V)} {Q : Bool → Hp → Prop} (m : OwnM X.K C "__len__" g) (nb : PySem.W.findIn X.K (.ref C) "__bool__" = some none) (F : FnR X.prog X.w X.K X.mg X.base CX k g sp) (hr : Room (k + 1) A) (hf : A.frames = X.A.frames) (hx : Passes CX X Ek) (Iv : Inv X pins σ H s) (ha : H a = some (.ins C dx fs))
    (q : sp [.ref a] H (fun v H' => ∃ n : Nat, v = .int n ∧ n < 2 ^ 62 ∧ Q (n != 0) H') Ek) :
    wpAny (model X.prog X.w) A (truthy (.ref a)) (fun b s1 => ∃ H', Inv X pins σ H' s1 ∧ Q b H') X.xe s := by
  obtain ⟨ox, od, J⟩ := inst_of Iv ha
  have len : wpAny (model X.prog X.w) A (runValue (.builtin "len" ⟨[.ref a], []⟩)) (fun r s1 => ∃ (n : Nat) (t : Tok), r = .int n t ∧ ∃ H', Inv X pins σ H' s1 ∧ Q (n != 0) H') X.xe s := by
    refine wpAny_runValue (codeAny_builtin
        entry_len ?_)
    rw [Around.under_plainId
        plain_len _]
    unfold Builtin.«len»
    refine wpAny_bind (m := oneArg
        "len" _) (wpAny_pure ?_)
    refine wpAny_bind (m := callSpecial? (.ref a) (Str.ofString "__len__")) (PySem.W.special_fn Iv.kIn J m.at_ (beq_iff_eq.mp m.fn) (wpAny_mono (run_below F hr.in1 hf hx Iv (vs := [V.ref a]) (.cons rfl .nil) q) (fun r s' z => ?_) fun _ _ y => y))
    obtain ⟨v, H1, I1, rv, n, rfl, hn, q1⟩ := z
    obtain ⟨t, rfl⟩ := rv
    refine wpAny_bind (wpAny_holding
        (wpAny_pure ?_))
    refine wpAny_bind
        (wpAny_letGo ?_)
    show wpAny _ _ (if ((n : Nat) : Int) < 0 then _ else _) _ _ _
    rw [if_neg (by omega)]
    show wpAny _ _ (if ((n : Nat) : Int) ≥ 2 ^ 63 then _ else _) _ _ _
    rw [if_neg (by omega)]
    exact wpAny_bind (wpAny_mkInt (wpAny_pure ⟨n, _, rfl, H1, I1.tok _, q1⟩))
  unfold truthy
  refine wpAny_bind (m := callSpecial? (.ref a) (Str.ofString "__bool__")) (wpAny_bind (wpAny_bind (J.type.here ((PySem.W.looks_findIn Iv.kIn nb).here (wpAny_pure ?_)))))
  refine wpAny_bind (wpAny_bind (J.type.here ((PySem.W.looks_findIn Iv.kIn m.at_).here ?_)))
  refine wpAny_bind (wpAny_mono len (fun r s1 z => ?_) fun _ _ e => e)
  obtain ⟨n, t, rfl, H1, I1, q1⟩ := z
  have e : ((n : Int) != 0) = (n != 0) := by
    cases n with
    | zero => rfl
    | succ n => rfl
  show wpAny _ _ (pure ((n : Int) != 0)) _ _ _
  rw [e]
  exact wpAny_pure ⟨H1, I1, q1⟩
/-- bool(o) -/
theorem call_boolO (m : OwnM X.K C "__len__" g) (nb : PySem.W.findIn X.K (.ref C) "__bool__" = some none) (F : FnR X.prog X.w X.K X.mg X.base CX k g sp) (hr : Room (k + 3) X.A) (hx : Passes CX X Ek) :
    CallR X (.type "bool") (fun xs H Q => ∃ a dx fs, xs = [.ref a] ∧ H a = some (.ins C dx fs) ∧ sp [.ref a] H (fun v H' => ∃ n : Nat, v = .int n ∧ n < 2 ^ 62 ∧ Q (.bl (n != 0)) H') Ek) := by
  intro pins s σ H xs us Q Iv r h
  obtain ⟨a, dx, fs,
      rfl, ha, q⟩ := h
  rw [Vals.ref1 r]
  have f1 := PySem.F.conv_sub_bool
  refine callType_codes (T := "bool") (Bi := Builtin.«object.__init__») (Q₁ := fun r s₁ => ∃ b, r = .bool b ∧ ∃ H', Inv X pins σ H' s₁ ∧ Q (.bl b) H') PySem.F.called_bool (PySem.F.typeCall_bool_1 _) PySem.F.entry_object_init ?_ ?_
  · refine codeAny_of_tree ?_
    show wpAny _ X.A.in1.in1 (do checkBuiltinCall "bool.__new__" ⟨[.type "bool", .ref a], []⟩; again (.builtin "bool.__new__" ⟨[.type "bool", .ref a], []⟩)) _ _ s
    refine wpAny_bind (wpAny_of_eq (PySem.F.newCall_bool_1 _) (wpAny_pure ⟨plainId_quiet (by decide +kernel) _, codeAny_builtin PySem.F.entry_bool_new ?_⟩))
    rw [Around.under_plainId
        (by decide +kernel) _]
    unfold Builtin.«bool.__new__»
    refine wpAny_bind (m := isType (.type "bool")) (wpAny_pure ?_)
    simp only [Bool.not_true,
        Bool.false_eq_true, if_false]
    refine wpAny_bind (wpAny_of_eq f1 ?_)
    simp only [Bool.not_true,
        Bool.false_eq_true, if_false]
    refine wpAny_bind (m := someArgs "bool" 0 1 _) (wpAny_pure ?_)
    refine wpAny_bind (wpAny_mono (truthy_lenO (Q := fun b H' => Q (.bl b) H') m nb F hr.in1.in1 rfl hx Iv ha q) (fun b s1 z => ?_) fun _ _ e => e)
    exact wpAny_pure ⟨b, rfl, z⟩
  · rintro obj s₁ ⟨b, rfl, H1, I1, q1⟩
    exact ⟨rfl, PySem.F.args_object_init_2 _ _, object_init_meets PySem.F.called_bool.init.lookup PySem.F.called_bool.made (by decide) X.prog X.w X.A.in1 _ s₁ ⟨rfl, rfl, .bl b, H1, I1, rfl, q1⟩⟩
end
end DuX
/-! repr of data of any depth -/
namespace RpD
open PySem PySem.Spec
open PyProof.Rows L2
section
variable {X : Cx}
structure Shows (d : PyData) : Prop where
  sh : d.showable = true
  nd : d.hasDict = false
  dp : d.depth ≤ 20
  sz : d.shown.length ≤ sizeLine
/-- repr(x) -/
theorem call_reprD (hg : X.A.guards = some []) (hu : X.A.units + 100 < cLine) : CallR X (.builtin "repr") (fun xs H Q => ∃ x d, xs = [x] ∧ Dp X.K H x d ∧ Shows d ∧ Q (.str d.shown) H) := by
  intro pins s σ H xs us Q Iv r h
  obtain ⟨x, d, rfl, hd, S, q⟩ := h
  cases r with
  | cons r rr =>
    cases rr
    rename_i u
    obtain ⟨as, R⟩ := Dp.reads Iv d x u hd r
    have dp := S.dp
    have go : ∀ {a : Addr}, u = .ref a → wpAny (model X.prog X.w) X.A (call (.builtin "repr") [u]) (EP X pins σ Q) X.xe s := fun {a} e => by
      subst e
      refine repr_of_reads' R S.sh (fun e => by rw [S.nd] at e; cases e) hg (by omega) (fun _ _ e => e) (fun h' t tk kp => ⟨.str d.shown, H, Iv.kept kp, ⟨t, rfl⟩, q⟩) S.sz
    cases hd with
    | non =>
      cases r
      exact P.repr_of_none ⟨.str _, H, Iv.tok _, ⟨_, rfl⟩, q⟩
    | bl b =>
      cases r
      exact P.repr_of_bool ⟨.str _, H, Iv.tok _, ⟨_, rfl⟩, q⟩
    | int i =>
      obtain ⟨t, rfl⟩ := r
      have e : i.natAbs.log2 < 1920 := by simpa [PyData.showable] using S.sh
      exact P.repr_of_int e ⟨.str _, H, Iv.tok _, ⟨_, rfl⟩, q⟩
    | str z =>
      obtain ⟨t, rfl⟩ := r
      exact P.repr_of_str ⟨.str _, H, Iv.tok _, ⟨_, rfl⟩, q⟩ S.sz
    | lst h1 h2 =>
      cases r
      exact go rfl
    | tup h1 h2 =>
      cases r
      exact go rfl
end
/-! ### how long a text of data is -/
mutual
def wide : PyData → Nat
  | .none => 5
  | .bool _ => 5
  | .int _ => 5
  | .str x => 10 * x.length + 2
  | .list xs => wideAll xs + 3
  | .tuple xs => wideAll xs + 3
  | .dict _ => 0
def wideAll : List PyData → Nat
  | [] => 0
  | x :: xs => wide x + 2 + wideAll xs
end
mutual
def plainD : PyData → Bool
  | .none => true
  | .bool _ => true
  | .int i => decide (0 ≤ i ∧ i < 1000)
  | .str x => x.cps.toList.all
      fun c => decide (c < 16 ^ 8)
  | .list xs => plainAll xs
  | .tuple xs => plainAll xs
  | .dict _ => false
def plainAll :
    List PyData → Bool
  | [] => true
  | x :: xs => plainD x && plainAll xs
end
theorem dec1000 : ((List.range 1000).all fun n => decide ((toString (n : Int) : Str).length ≤ 5)) = true := by decide +kernel
theorem shown_int {i : Int} (h : 0 ≤ i ∧ i < 1000) : (toString i : Str).length ≤ 5 := by
  have q := (List.all_eq_true.mp dec1000) i.toNat (List.mem_range.mpr (by omega))
  have e : ((i.toNat : Nat) : Int) = i := by omega
  rw [e] at q
  exact of_decide_eq_true q
theorem log_small {i : Int} (h : 0 ≤ i ∧ i < 1024) : i.natAbs.log2 < 1920 := by
  by_cases h0 : i.natAbs = 0
  · rw [h0]
    decide
  · refine (Nat.log2_lt h0).mpr ?_
    refine Nat.lt_of_lt_of_le (show i.natAbs < 2 ^ 10 by omega) (Nat.pow_le_pow_right (by decide) (by decide))
mutual
theorem shown_le : ∀ d : PyData, plainD d = true → d.shown.length ≤ wide d ∧ d.showable = true ∧ d.hasDict = false
  | .none, _ => ⟨by decide +kernel, rfl, rfl⟩
  | .bool b, _ => ⟨by cases b <;> decide +kernel, rfl, rfl⟩
  | .int i, h => by
    have q : 0 ≤ i ∧ i < 1000 := of_decide_eq_true h
    exact ⟨shown_int q, decide_eq_true (log_small ⟨q.1, by omega⟩), rfl⟩
  | .str x, h => by
    refine ⟨StrLaws.reprText_len x fun c hc => of_decide_eq_true ((List.all_eq_true.mp h) c hc), rfl, rfl⟩
  | .list xs, h => by
    obtain ⟨a, b, c⟩ := shown_all xs h
    refine ⟨?_, b, c⟩
    show (listText (PyData.shownAll xs)).length ≤ wideAll xs + 3
    have := listText_len_le (PyData.shownAll xs)
    omega
  | .tuple xs, h => by
    obtain ⟨a, b, c⟩ := shown_all xs h
    refine ⟨?_, b, c⟩
    show (tupleText (PyData.shownAll xs)).length ≤ wideAll xs + 3
    have := tupleText_len_le (PyData.shownAll xs)
    omega
  | .dict _, h => by cases h
theorem shown_all : ∀ xs : List PyData, plainAll xs = true → ((PyData.shownAll xs).map (·.length)).sum + 2 * (PyData.shownAll xs).length ≤ wideAll xs ∧ PyData.showableAll xs = true ∧ PyData.hasDictAll xs = false
  | [], _ => ⟨Nat.le_refl _, rfl, rfl⟩
  | x :: xs, h => by
    have h : (plainD x && plainAll xs) = true := h
    rw [Bool.and_eq_true] at h
    obtain ⟨a, b, c⟩ := shown_le x h.1
    obtain ⟨a2, b2, c2⟩ := shown_all xs h.2
    refine ⟨?_, ?_, ?_⟩
    · show ((x.shown :: PyData.shownAll xs).map (·.length)).sum + 2 * (x.shown :: PyData.shownAll xs).length ≤ wide x + 2 + wideAll xs
      rw [List.map_cons, List.sum_cons, List.length_cons]
      omega
    · show (x.showable && PyData.showableAll xs) = true
      rw [b, b2]
      rfl
    · show (x.hasDict || PyData.hasDictAll xs) = false
      rw [c, c2]
      rfl
end
theorem Shows.of {d : PyData} (h : plainD d = true) (hd : d.depth ≤ 20) (hw : wide d ≤ 16000000) : Shows d := by
  obtain ⟨a, b, c⟩ := shown_le d h
  exact ⟨b, c, hd, by rw [sizeLine_eq]; omega⟩
end RpD
namespace K1
open PySem PySem.Spec
open PyProof.Rows L2 EnT StX SmX TxS DuX
/-! ### which class a value is of -/
def baseTys : List String := ["NoneType", "bool", "int", "str", "list", "tuple", "dict"]
structure MemIs (K : PySem.W.Frag) (C : Addr) : Prop where
  ha : PySem.W.findIn K (.ref C) "__class__"
      = some (some (.builtin "object.__class__"))
  hn : PySem.W.specialIn K (.builtin "object.__class__")
      "__get__" = some (some (.builtin "getset_descriptor.__get__"))
  htk : PySem.W.takesIn K (.builtin
      "object.__class__") = some true
  hm : PySem.W.mroIn K C
      (.type "object") = some true
  yes : PySem.W.kitOne K (.ref C) (.ref C) = some true
  no : ∀ t ∈ baseTys, PySem.W.kitOne K (.type t) (.ref C) = some false
  nf : ∀ t ∈ baseTys, PySem.W.notFirst K C (.type t) = true
  nfC : PySem.W.notFirst K C (.ref C) = true
theorem VOk.ty {K : PySem.W.Frag} {H : Hp} {v : V} (h : VOk H v) : ∃ t, t ∈ baseTys ∧ TyX K H v (.type t) := by
  rcases h with ⟨z, rfl, _⟩ | h
  · exact ⟨"str", by decide, .base (.str z)⟩
  cases h with
  | non => exact ⟨"NoneType", by decide, .base .non⟩
  | bl b => exact ⟨"bool", by decide, .base (.bl b)⟩
  | int i => exact ⟨"int", by decide, .base (.int i)⟩
  | lst e => exact ⟨"list", by decide, .base (.lst e)⟩
  | tup e => exact ⟨"tuple", by decide, .base (.tup e)⟩
  | dK e => exact ⟨"dict", by decide, .base (.dK e)⟩
theorem VOk.isStr {K : PySem.W.Frag} {H : Hp} {v : V} (h : VOk H v) : ∃ t b, TyX K H v (.type t) ∧ PySem.W.kitOne K (.type t) (.type "str") = some b ∧ (b = true → ∃ z, v = .str z) ∧ (b = false → NoStr H v) := by
  rcases h with ⟨z, rfl, _⟩ | h
  · exact ⟨"str", true, .base (.str z), kit_ty (by decide +kernel), fun _ => ⟨z, rfl⟩, fun e => by cases e⟩
  have h0 := h
  cases h with
  | non => exact ⟨"NoneType", false, .base .non, kit_ty (by decide +kernel), fun e => (by cases e), fun _ => h0⟩
  | bl b => exact ⟨"bool", false, .base (.bl b), kit_ty (by decide +kernel), fun e => (by cases e), fun _ => h0⟩
  | int i => exact ⟨"int", false, .base (.int i), kit_ty (by decide +kernel), fun e => (by cases e), fun _ => h0⟩
  | lst e => exact ⟨"list", false, .base (.lst e), kit_ty (by decide +kernel), fun e => (by cases e), fun _ => h0⟩
  | tup e => exact ⟨"tuple", false, .base (.tup e), kit_ty (by decide +kernel), fun e => (by cases e), fun _ => h0⟩
  | dK e => exact ⟨"dict", false, .base (.dK e), kit_ty (by decide +kernel), fun e => (by cases e), fun _ => h0⟩
/-! ### facts of names -/
theorem name_short {z : Str} (h : nameB z = true) : z.length ≤ 8 := by
  unfold nameB at h
  by_cases h8 : 8 < z.length
  · rw [if_pos h8] at h
    cases h
  · omega
def sp1 : Str := Str.ofString " "
def joinSp (zs : List Str) : Str := Txt.join sp1 zs
theorem sum_short : ∀ zs : List Str, (∀ z ∈ zs, z.length ≤ 8) → (zs.map (·.length)).sum ≤ zs.length * 8
  | [], _ => Nat.le_refl _
  | z :: r, h => by
    have a := h z List.mem_cons_self
    have b := sum_short r fun y hy => h y (List.mem_cons_of_mem _ hy)
    rw [List.map_cons, List.sum_cons, List.length_cons]
    omega
theorem join_fits {zs : List Str} (h : ∀ z ∈ zs, z.length ≤ 8) (hl : zs.length ≤ 1000) : (zs.map (·.length)).sum + zs.length * (sp1).length ≤ 16777216 := by
  have a := sum_short zs h
  have e : (sp1).length = 1 := by decide +kernel
  rw [e]
  omega
theorem flds_names (t d : Addr) : (flds t d).lookup ("_names" : Str) = some (.ref t) := by
  unfold flds
  rw [lookup_putF, lookup_putF, if_pos rfl, if_neg (by decide +kernel)]
theorem flds_table (t d : Addr) : (flds t d).lookup ("_table" : Str) = some (.ref d) := by
  unfold flds
  rw [lookup_putF, if_pos rfl]
theorem flds_str (t d : Addr) : (flds t d).lookup ("names" : Str) = none := by
  unfold flds
  rw [lookup_putF, lookup_putF, if_neg (by decide +kernel), if_neg (by decide +kernel)]
  rfl
theorem valV_tab {zs : List Str} {z : Str} : (valV (tabOf zs) (Sum.inr z : Key)).isSome = decide (z ∈ zs) := by
  induction zs with
  | nil => rfl
  | cons a r ih =>
    show (valV ((Sum.inr a, V.bl true) :: tabOf r) (Sum.inr z : Key)).isSome = _
    by_cases h : a = z
    · subst h
      have e : valV ((Sum.inr a, V.bl true) :: tabOf r) (Sum.inr a : Key) = some (V.bl true) := by
        unfold valV
        rw [List.find?_cons, decide_eq_true rfl]
        rfl
      rw [e, decide_eq_true List.mem_cons_self]
      rfl
    · rw [valV_neg (fun e => h (Sum.inr.inj e)), ih]
      by_cases m : z ∈ r
      · rw [decide_eq_true m, decide_eq_true (List.mem_cons_of_mem _ m)]
      · rw [decide_eq_false m, decide_eq_false fun q => by
          rcases List.mem_cons.mp q with q | q
          · exact h q.symm
          · exact m q]
/-! ### texts as data -/
def strD (zs : List Str) : List PyData := zs.map PyData.str
theorem dpAll_str {K : PySem.W.Frag} {H : Hp} : ∀ zs : List Str, DpAll K H (zs.map V.str) (strD zs)
  | [] => .nil
  | z :: r => .cons (.str z) (dpAll_str r)
def OkS (zs : List Str) : Prop := ∀ z ∈ zs, PyData.strOk z = true
theorem strD_lay : ∀ zs : List Str, OkS zs → PyData.canLayAll0 (strD zs) = true
  | [], _ => by simp [strD, PyData.canLayAll0]
  | z :: zs, h => by
    have := strD_lay zs fun y hy => h y (List.mem_cons_of_mem _ hy)
    have h1 := h z List.mem_cons_self
    simp only [strD] at this
    simp [strD, PyData.canLayAll0, PyData.canLay0, this, h1]
theorem name_low {z : Str} (h : nameB z = true) : ∀ c ∈ z.cps.toList, c < 128 := by
  unfold nameB at h
  split at h
  · cases h
  split at h
  · cases h
  · rename_i h2
    have e : z.cps.all (· < 128) = true := by
      cases q : Txt.isascii z with
      | true => exact q
      | false => exact absurd q h2
    rw [← Array.all_toList] at e
    exact fun c hc => of_decide_eq_true ((List.all_eq_true.mp e) c hc)
theorem strOk_low {z : Str} (h : ∀ c ∈ z.cps.toList, c < 128) : PyData.strOk z = true := by
  show z.cps.all (· < 0x110000) = true
  rw [← Array.all_toList]
  exact List.all_eq_true.mpr fun c hc => decide_eq_true (Nat.lt_trans (h c hc) (by decide))
theorem okS_names {zs : List Str} (h : ∀ z ∈ zs, nameB z = true) : OkS zs := fun z hz => strOk_low (name_low (h z hz))
theorem strD_depth : ∀ zs : List Str, PyData.depthAll (strD zs) = 0
  | [] => by simp [strD, PyData.depthAll]
  | z :: zs => by
    have := strD_depth zs
    simp only [strD] at this
    simp [strD, PyData.depthAll, PyData.depth, this]
theorem tupD_shaped {zs : List Str} (h : OkS zs) : SeqAt.shaped (.tuple (strD zs)) = true := by
  show (PyData.canLay0 (.tuple (strD zs)) && decide (PyData.depth (.tuple (strD zs)) ≤ 64)) = true
  rw [Bool.and_eq_true]
  refine ⟨by simp only [PyData.canLay0]; exact strD_lay zs h, decide_eq_true ?_⟩
  simp only [PyData.depth]
  rw [strD_depth]
  omega
theorem lstD_shaped {zs : List Str} (h : OkS zs) : SeqAt.shaped (.list (strD zs)) = true := by
  show (PyData.canLay0 (.list (strD zs)) && decide (PyData.depth (.list (strD zs)) ≤ 64)) = true
  rw [Bool.and_eq_true]
  refine ⟨by simp only [PyData.canLay0]; exact strD_lay zs h, decide_eq_true ?_⟩
  simp only [PyData.depth]
  rw [strD_depth]
  omega
theorem strD_eqv : ∀ zs ws : List Str, PyData.eqvAll (strD zs) (strD ws) = decide (zs = ws)
  | [], [] => by simp [strD, PyData.eqvAll]
  | [], w :: ws => by simp [strD, PyData.eqvAll]
  | z :: zs, [] => by simp [strD, PyData.eqvAll]
  | z :: zs, w :: ws => by
    have ih := strD_eqv zs ws
    simp only [strD] at ih
    simp only [strD, List.map_cons, PyData.eqvAll, PyData.eqv, ih]
    by_cases h : z = w
    · subst h
      simp
    · have : (z == w) = false := beq_eq_false_iff_ne.mpr h
      rw [this]
      simp [h]
/-! ### promises -/
def spNamesP (C : Addr) : Sp := fun vs H Q _ => ∃ a zs, vs = [.ref a] ∧ MemAt C H a zs ∧ ∀ t, H t = some (.tup (zs.map V.str)) → Q (.ref t) H
def spStrM (C : Addr) : Sp := fun vs H Q _ => ∃ a zs, vs = [.ref a] ∧ MemAt C H a zs ∧ (∀ z ∈ zs, z.length ≤ 8) ∧ Q (.str (joinSp zs)) H
def spReprM (C : Addr) : Sp := fun vs H Q _ => ∃ a zs, vs = [.ref a] ∧ MemAt C H a zs ∧ Q (.str (Str.empty ++ ("Members(" : Str) ++ (toString (zs.length : Int) : Str) ++ (")" : Str))) H
def spLenM (C : Addr) : Sp := fun vs H Q _ => ∃ a zs, vs = [.ref a] ∧ MemAt C H a zs ∧ Q (.int (zs.length : Nat)) H
def hasV (zs : List Str) : V → Bool
  | .str z => decide (z ∈ zs)
  | _ => false
def spHasM (C : Addr) : Sp := fun vs H Q _ => ∃ a zs v, vs = [.ref a, v] ∧ MemAt C H a zs ∧ VOk H v ∧ Q (.bl (hasV zs v)) H
def spEqM (C : Addr) : Sp := fun vs H Q _ => ∃ a zs y, vs = [.ref a, y] ∧ MemAt C H a zs ∧ ((∃ b ws, y = .ref b ∧ MemAt C H b ws ∧ Q (.bl (decide (zs = ws))) H) ∨ (VOk H y ∧ Q (.bl false) H))
section
variable {w : World} {P : Program} {base : Heap} {mg : Str → Option Value} {K : PySem.W.Frag}
theorem scStrM : FnScope ["self"] ["self"] (defScope sStrM) := ⟨rfl, rfl, rfl, by decide +kernel, rfl, by decide +kernel, by decide +kernel⟩
theorem scReprM : FnScope ["self"] ["self"] (defScope sReprM) := ⟨rfl, rfl, rfl, by decide +kernel, rfl, by decide +kernel, by decide +kernel⟩
theorem scLenM : FnScope ["self"] ["self"] (defScope sLenM) := ⟨rfl, rfl, rfl, by decide +kernel, rfl, by decide +kernel, by decide +kernel⟩
theorem scNamesP : FnScope ["self"] ["self"] (defScope sNamesP) := ⟨rfl, rfl, rfl, by decide +kernel, rfl, by decide +kernel, by decide +kernel⟩
theorem scHasM : FnScope ["self", "value"] ["self", "value"] (defScope sHasM) := ⟨rfl, rfl, rfl, by decide +kernel, rfl, by decide +kernel, by decide +kernel⟩
theorem scEqM : FnScope ["self", "other"] ["self", "other"] (defScope sEqM) := ⟨rfl, rfl, rfl, by decide +kernel, rfl, by decide +kernel, by decide +kernel⟩
theorem ok_namesP {f C : Addr} {fd : FuncData} (F : Fun K "names" "Members.names" sNamesP f fd) (M : MemC K mg C) : FnOk P w K mg base CX0 1 f fd ["self"] (getSp C "_names") := by
  refine F.ok scNamesP (fun vs H Q E h => ?_) (fun cdv A outer s H vs Q E hr h => ?_)
  · obtain ⟨a, dx, fs, v, rfl, _⟩ := h
    rfl
  · obtain ⟨a, dx, fs, v, rfl, ha, l, q⟩ := h
    exact ⟨_, pss_one (ps_ret (pe_fld (pv 0) rfl)), _, rfl, a, C, dx, fs, v, rfl, ha, M.cl, M.nN, l, q⟩
theorem ok_strM {f C : Addr} {fd : FuncData} (F : Fun K "__str__" "Members.__str__" sStrM f fd) (M : MemC K mg C) : FnOk P w K mg base CX0 1 f fd ["self"] (spStrM C) := by
  refine F.ok scStrM (fun vs H Q E h => ?_) (fun cdv A outer s H vs Q E hr h => ?_)
  · obtain ⟨a, zs, rfl, _⟩ := h
    rfl
  · obtain ⟨a, zs, rfl, m, hl, q⟩ := h
    obtain ⟨dx, t, d, h1, h2, h3⟩ := m.at_
    exact ⟨_, pss_one (ps_ret (pe_join pe_str (pe_fld (pv 0) rfl))), ⟨_, rfl⟩, _, rfl, a, C, dx, _, _, rfl, h1, M.cl, M.nN, flds_names t d, _, t, zs, rfl, rfl, .inr (SqT.of h2), join_fits hl m.few, q⟩
theorem ok_lenM {f C : Addr} {fd : FuncData} (F : Fun K "__len__" "Members.__len__" sLenM f fd) (T : Free mg) (M : MemC K mg C) : FnOk P w K mg base CX0 1 f fd ["self"] (spLenM C) := by
  refine F.ok scLenM (fun vs H Q E h => ?_) (fun cdv A outer s H vs Q E hr h => ?_)
  · obtain ⟨a, zs, rfl, _⟩ := h
    rfl
  · obtain ⟨a, zs, rfl, m, q⟩ := h
    obtain ⟨dx, t, d, h1, h2, h3⟩ := m.at_
    refine ⟨_, pss_one (ps_ret (pe_callB call_len_seq (by rfl) T.len PySem.boot_len (pa_cons (pe_fld (pv 0) rfl) pa_nil))), _, rfl, a, C, dx, _, _, rfl, h1, M.cl, M.nN, flds_names t d, t, zs.map V.str, rfl, .inr (SqT.of h2), ?_⟩
    rw [List.length_map]
    exact q
theorem str_short {n : Nat} (h : n ≤ 1000) : (toString (n : Int) : Str).length ≤ 5 := by
  by_cases e : n = 1000
  · subst e
    decide +kernel
  · exact RpD.shown_int (by omega)
theorem ok_reprM {f C : Addr} {fd : FuncData} (F : Fun K "__repr__" "Members.__repr__" sReprM f fd) (T : Free mg) (M : MemC K mg C) : FnOk P w K mg base CX0 1 f fd ["self"] (spReprM C) := by
  refine F.ok scReprM (fun vs H Q E h => ?_) (fun cdv A outer s H vs Q E hr h => ?_)
  · obtain ⟨a, zs, rfl, _⟩ := h
    rfl
  · obtain ⟨a, zs, rfl, m, q⟩ := h
    obtain ⟨dx, t, d, h1, h2, h3⟩ := m.at_
    have few := str_short m.few
    have e0 : (Str.empty ++ ("Members(" : Str)).length = 8 := by decide +kernel
    refine ⟨_, pss_one (ps_ret (pe_joined (.cons pe_str (.cons (pe_fmt (pe_callB call_len_seq (by rfl) T.len PySem.boot_len (pa_cons (pe_fld (pv 0) rfl) pa_nil))) (.cons pe_str .nil))))), ?_⟩
    have e8 : (8 : Nat) ≤ sizeLine := by rw [sizeLine_eq]; decide
    refine ⟨_, rfl, e0 ▸ e8, _, rfl, a, C, dx, _, _, rfl, h1, M.cl, M.nN, flds_names t d, t, zs.map V.str, rfl, .inr (SqT.of h2), .inr ⟨_, rfl, ?_, ?_⟩⟩
    · rw [List.length_map]
      have := m.few
      exact RpD.log_small (i := (zs.length : Nat)) (by omega)
    · rw [List.length_map]
      refine ⟨_, rfl, ?_, _, rfl, ?_, q⟩
      · rw [strLen_append, e0, sizeLine_eq]
        omega
      · rw [strLen_append, strLen_append, e0, sizeLine_eq]
        have : ((")" : Str)).length = 1 := by decide +kernel
        omega
theorem ok_hasM {f C : Addr} {fd : FuncData} (F : Fun K "__contains__" "Members.__contains__" sHasM f fd) (T : Free mg) (M : MemC K mg C) : FnOk P w K mg base CX0 1 f fd ["self", "value"] (spHasM C) := by
  refine F.ok scHasM (fun vs H Q E h => ?_) (fun cdv A outer s H vs Q E hr h => ?_)
  · obtain ⟨a, zs, v, rfl, _⟩ := h
    rfl
  · obtain ⟨a, zs, v, rfl, m, hv, q⟩ := h
    obtain ⟨dx, t, d, h1, h2, h3⟩ := m.at_
    obtain ⟨ty, b, e1, e2, e3, e4⟩ := hv.isStr (K := K)
    refine ⟨_, pss_one (ps_ret (pe_and (pe_callB call_isi (by rfl) T.isinstance (by decide +kernel) (pa_cons (pv 1) (pa_cons (pe_bltn (v := .ty "str") (u := .type "str") (by rfl) T.str (by decide +kernel) rfl) pa_nil))) (pe_one (pe_cmp (pc_din (by have := hr.un; show A.units + 3 + 1 < cLine; have e : (A.deeper (envOfC "Members.__contains__" (defScope sHasM) s.heap.objs.size f cdv)).units = A.units + 3 := rfl; omega) (pv 1) (pe_fld (pv 0) rfl)))))), ?_⟩
    refine ⟨_, rfl, _, _, _, _, b, rfl, .ty _, e1, e2, b, rfl, ?_⟩
    cases b with
    | true =>
      obtain ⟨z, rfl⟩ := e3 rfl
      rw [if_pos rfl]
      refine ⟨_, rfl, _, rfl, a, C, dx, _, _, rfl, h1, M.cl, M.nT, flds_table t d, d, _, rfl, .k (k := Sum.inr z) h3, ?_⟩
      rw [valV_tab]
      exact q
    | false =>
      rw [if_neg (by decide)]
      have n := e4 rfl
      have e : hasV zs v = false := by cases n <;> rfl
      rw [e] at q
      exact q
theorem ok_eqM {f C pN gN : Addr} {fd fdN : FuncData} (F : Fun K "__eq__" "Members.__eq__" sEqM f fd) (T : Free mg) (M : MemC K mg C) (I : MemIs K C) (pr : PropOf K C "names" pN gN) (GN : FnOk P w K mg base CX0 1 gN fdN ["self"] (getSp C "_names")) (FN : Fun K "names" "Members.names" sNamesP gN fdN) :
    FnOk P w K mg base CX0 3 f fd ["self", "other"] (spEqM C) := by
  have bN : Binds K fdN ["self"] [] := FN.binds (ps := ["self"]) fun _ _ _ _ _ _ us hl => match us, hl with | [_], _ => rfl
  refine F.ok scEqM (fun vs H Q E h => ?_) (fun cdv A outer s H vs Q E hr h => ?_)
  · obtain ⟨a, zs, y, rfl, _⟩ := h
    rfl
  · obtain ⟨a, zs, y, rfl, m, h⟩ := h
    obtain ⟨dx, t, d, h1, h2, h3⟩ := m.at_
    refine ⟨_, pss_one (ps_ret (pe_and (pe_callB call_isi (by rfl) T.isinstance (by decide +kernel) (pa_cons (pv 1) (pa_cons (pe_glob (v := .ref C) (by rfl) M.g rfl) pa_nil))) (pe_one (pe_cmpR (op_eqD (by have := hr.un; have e : (A.deeper (envOfC "Members.__eq__" (defScope sEqM) s.heap.objs.size f cdv)).units = A.units + 3 := rfl; show A.units + 3 + 64 < cLine; omega)) (pe_fld (pv 0) rfl) (pe_prop (pv 1) M.cl pr GN hr bN .nil pass0 rfl) (nomark _))))), ?_⟩
    rcases h with ⟨b, ws, rfl, m2, q⟩ | ⟨hv, q⟩
    · obtain ⟨dx2, t2, d2, k1, k2, k3⟩ := m2.at_
      refine ⟨_, rfl, _, _, _, _, true, rfl, .own C, .base (.ins k1 M.cl I.ha I.hn I.htk I.hm), I.yes, true, rfl, ?_⟩
      refine iteT ⟨_, rfl, a, C, dx, _, _, rfl, h1, M.cl, M.nN, flds_names t d, _, rfl, b, dx2, _, rfl, k1, b, dx2, _, _, rfl, k1, flds_names t2 d2, ?_⟩
      refine ⟨.tuple (strD zs), .tuple (strD ws), .tup (SqT.of h2) (dpAll_str zs), .tup (SqT.of k2) (dpAll_str ws), tupD_shaped (okS_names m.nm), tupD_shaped (okS_names m2.nm), ?_⟩
      have e : PyData.eqv (.tuple (strD zs)) (.tuple (strD ws)) = decide (zs = ws) := by
        simp only [PyData.eqv]
        exact strD_eqv zs ws
      rw [e]
      exact q
    · obtain ⟨ty, ht, tx⟩ := hv.ty (K := K)
      refine ⟨_, rfl, _, _, _, _, false, rfl, .own C, tx, I.no ty ht, false, rfl, ?_⟩
      exact iteF q
end
end K1
namespace K1
open PySem PySem.Spec
open PyProof.Rows L2 EnT StX SmX TxS DuX
/-- Members(*xs): what is asked, what is told -/
def spMk (C CN : Addr) : Sp := fun xs H Q E => (∀ v ∈ xs, VOk H v) ∧ xs.length ≤ 1000 ∧ (∀ i, wrongIx xs = some i → ErrAt CN "index" (.int i) H E) ∧ (wrongIx xs = none → ∀ zs : List Str, xs = zs.map V.str → Makes C zs H Q)
theorem ErrAt.same {C : Addr} {f : Str} {v : V} {H H' : Hp} {E : XK} (s : Same H H') (h : ErrAt C f v H E) : ErrAt C f v H' E := fun d H2 s2 n => h d H2 (s.trans s2) n
/-- what __init__ of Members promises, its names starred -/
def spInitR (K : PySem.W.Frag) (C CN : Addr) : Sp := fun vs H Q E => ∃ ws rest, vs = ws ++ rest ∧ ws.length = (["self"] : List Str).length ∧ rest.length ≤ sizeLine ∧ ∀ p, H p = Option.none → spInit0 K C CN (ws ++ [V.ref p]) (upd H p (.tup rest)) Q E
theorem make_of {K : PySem.W.Frag} {C CN : Addr} {xs : List V} {H : Hp} {Q : VK} {E : XK} (h : spMk C CN xs H Q E) :
    ∀ x dx, H x = Option.none → H dx = Option.none → dx ≠ x → spInitR K C CN (V.ref x :: xs) (upd (upd H dx (.own x)) x (.ins C dx [])) (fun v H2 => v = .non ∧ Q (.ref x) H2) E := by
  obtain ⟨hv, hl, he, hq⟩ := h
  intro x dx nx nd ne
  refine ⟨[.ref x], xs, rfl, rfl, by rw [sizeLine_eq]; omega, fun p np => ?_⟩
  have px : p ≠ x := fun e => by
    rw [e, upd_same] at np
    cases np
  have s1 : Same H (upd H dx (.own x)) := same_upd nd
  have s2 : Same (upd H dx (.own x)) (upd (upd H dx (.own x)) x (.ins C dx [])) := same_upd (by rw [upd_ne (Ne.symm ne)]; exact nx)
  have s3 : Same (upd (upd H dx (.own x)) x (.ins C dx [])) (upd (upd (upd H dx (.own x)) x (.ins C dx [])) p (.tup xs)) := same_upd np
  have s : Same H (upd (upd (upd H dx (.own x)) x (.ins C dx [])) p (.tup xs)) := (s1.trans s2).trans s3
  refine ⟨x, p, dx, xs, rfl, by rw [upd_ne (Ne.symm px), upd_same], SqT.of upd_same, fun v hm => (hv v hm).same s, hl, fun i hi => (he i hi).same s, fun hw zs ez ys H' k m M _ => ⟨rfl, ?_⟩⟩
  exact hq hw zs ez x ys H' nx (fun b o e => k b o (ne_of_none e nx) (s b o e)) m M
/-- Members() -/
theorem make_nil {K : PySem.W.Frag} {C CN : Addr} {H : Hp} {Q : VK} {E : XK} (q : ∀ (x : Addr) (H' : Hp), H x = Option.none → Same H H' → MemAt C H' x [] → MemN C H H' x → Q (.ref x) H') :
    ∀ x dx, H x = Option.none → H dx = Option.none → dx ≠ x → spInitR K C CN [V.ref x] (upd (upd H dx (.own x)) x (.ins C dx [])) (fun v H2 => v = .non ∧ Q (.ref x) H2) E := by
  intro x dx nx nd ne
  refine ⟨[.ref x], [], rfl, rfl, Nat.zero_le _, fun p np => ?_⟩
  have px : p ≠ x := fun e => by
    rw [e, upd_same] at np
    cases np
  have s1 : Same H (upd H dx (.own x)) := same_upd nd
  have s2 : Same (upd H dx (.own x)) (upd (upd H dx (.own x)) x (.ins C dx [])) := same_upd (by rw [upd_ne (Ne.symm ne)]; exact nx)
  have s3 : Same (upd (upd H dx (.own x)) x (.ins C dx [])) (upd (upd (upd H dx (.own x)) x (.ins C dx [])) p (.tup [])) := same_upd np
  have s : Same H (upd (upd (upd H dx (.own x)) x (.ins C dx [])) p (.tup [])) := (s1.trans s2).trans s3
  refine ⟨x, p, dx, [], rfl, by rw [upd_ne (Ne.symm px), upd_same], SqT.of upd_same, (fun v hm => by cases hm), Nat.zero_le _, (fun i hi => by cases hi), fun hw zs ez ys H' k m M N => ⟨rfl, ?_⟩⟩
  have ez2 : zs = [] := List.map_eq_nil_iff.mp ez.symm
  subst ez2
  have ey : ys = [] := List.eq_nil_iff_forall_not_mem.mpr fun z hz => by cases (m z).mp hz
  subst ey
  obtain ⟨dx', t', d', h1, h2⟩ := N
  refine q x H' nx (fun b o e => k b o (ne_of_none e nx) (s b o e)) M ⟨dx', t', d', h1, ?_⟩
  cases e : H d' with
  | none => rfl
  | some o =>
    rw [s _ _ e] at h2
    cases h2
/-- the same, what follows told of the place -/
theorem make_at {K : PySem.W.Frag} {C CN : Addr} {xs : List V} {H : Hp} {QA : Addr → Hp → Prop} {E : XK} (h : spMk C CN xs H (fun v H2 => ∃ p, v = .ref p ∧ QA p H2) E) :
    ∀ x dx, H x = Option.none → H dx = Option.none → dx ≠ x → spInitR K C CN (V.ref x :: xs) (upd (upd H dx (.own x)) x (.ins C dx [])) (fun v H2 => v = .non ∧ QA x H2) E := fun x dx nx nd ne => by
  obtain ⟨ws, rest, e1, e2, e3, e4⟩ := make_of (K := K) h x dx nx nd ne
  refine ⟨ws, rest, e1, e2, e3, fun p np => ?_⟩
  obtain ⟨a1, a2, a3, a4, b1, b2, b3, b4, b5, b6, b7⟩ := e4 p np
  refine ⟨a1, a2, a3, a4, b1, b2, b3, b4, b5, b6, fun hw zs ez ys H' k m M N => ?_⟩
  obtain ⟨c1, p', c2, c3⟩ := b7 hw zs ez ys H' k m M N
  cases c2
  exact ⟨c1, c3⟩
def spFromT (C CN : Addr) : Sp := fun vs H Q E => ∃ a xs, vs = [.ref a] ∧ H a = some (.tup xs) ∧ spMk C CN xs H Q E
def spFromL (CN : Addr) : Sp := fun vs H Q E => ∃ a xs, vs = [.ref a] ∧ H a = some (.lst xs) ∧ ErrAt CN "index" .non H E
/-- what is known of the class that makes Members -/
structure MakeC (P : Program) (w : World) (K : PySem.W.Frag) (mg : Str → Option Value) (base : Heap) (C CN fI : Addr) : Prop where
  M : Mk K C fI
  F : FnR P w K mg base (L2.CX P w) 4 fI (spInitR K C CN)
section
variable {w : World} {P : Program} {base : Heap} {mg : Str → Option Value} {K : PySem.W.Frag}
theorem scFromN : FnScope ["names"] ["names"] (defScope sFromN) := ⟨rfl, rfl, rfl, by decide +kernel, rfl, by decide +kernel, by decide +kernel⟩
theorem ok_fromT {f fI fE C CN : Addr} {fd fdE : FuncData} (F : Fun K "from_names" "Members.from_names" sFromN f fd) (T : Free mg) (M : MemC K mg C) (MM : MakeC P w K mg base C CN fI) (EN : ErrC K mg "InvalidNames" "index" CN fE) (FE : Fun K "__init__" "InvalidNames.__init__" sErrNames fE fdE) :
    FnOk P w K mg base (L2.CX P w) 6 f fd ["names"] (spFromT C CN) := by
  have bE : Binds K fdE ["self", "index"] [] := FE.binds (ps := ["self", "index"]) fun _ _ _ _ _ _ us hl => match us, hl with | [_, _], _ => rfl
  have GE : FnOk P w K mg base CX0 1 fE fdE ["self", "index"] (spErr CN "index") := ok_errN FE EN
  refine F.okX scFromN (fun vs H Q E h => ?_) (fun cdv A outer s H vs Q E hr h => ?_)
  · obtain ⟨a, xs, rfl, _⟩ := h
    rfl
  · obtain ⟨a, xs, rfl, ha, q⟩ := h
    refine ⟨_, pss_cons (ps_if (pt_not (pt_val (pe_callB call_isi (by rfl) T.isinstance (by decide +kernel) (pa_cons (pv 0) (pa_cons (pe_bltn (v := .ty "tuple") (u := .type "tuple") (by rfl) T.tuple (by decide +kernel) rfl) pa_nil)))))
        (pss_one (ps_raise rfl (takes_of rfl rfl rfl rfl) (pmk_oex EN.ox EN.ini EN.ty GE (hr.mono (by decide)) bE .nil pass0 rfl EN.g (pa_cons pe_non pa_nil)))) pss_nil)
      (pss_one (ps_ret (pe_makeS1 MM.M MM.F hr (by rfl) M.g (passes_call (takes_of rfl rfl rfl rfl) fun _ _ _ _ h => h) (pv 0)))), ?_⟩
    refine ⟨_, rfl, _, _, _, _, true, rfl, .ty _, .base (.tup ha), kit_ty (by decide +kernel), true, rfl, ?_⟩
    refine iteF ?_
    exact ⟨_, rfl, a, xs, rfl, .inl (SqT.of ha), make_of q⟩
theorem ok_fromL {f fI fE C CN : Addr} {fd fdE : FuncData} (F : Fun K "from_names" "Members.from_names" sFromN f fd) (T : Free mg) (M : MemC K mg C) (MM : MakeC P w K mg base C CN fI) (EN : ErrC K mg "InvalidNames" "index" CN fE) (FE : Fun K "__init__" "InvalidNames.__init__" sErrNames fE fdE) :
    FnOk P w K mg base (L2.CX P w) 6 f fd ["names"] (spFromL CN) := by
  have bE : Binds K fdE ["self", "index"] [] := FE.binds (ps := ["self", "index"]) fun _ _ _ _ _ _ us hl => match us, hl with | [_, _], _ => rfl
  have GE : FnOk P w K mg base CX0 1 fE fdE ["self", "index"] (spErr CN "index") := ok_errN FE EN
  refine F.okX scFromN (fun vs H Q E h => ?_) (fun cdv A outer s H vs Q E hr h => ?_)
  · obtain ⟨a, xs, rfl, _⟩ := h
    rfl
  · obtain ⟨a, xs, rfl, ha, qE⟩ := h
    refine ⟨_, pss_cons (ps_if (pt_not (pt_val (pe_callB call_isi (by rfl) T.isinstance (by decide +kernel) (pa_cons (pv 0) (pa_cons (pe_bltn (v := .ty "tuple") (u := .type "tuple") (by rfl) T.tuple (by decide +kernel) rfl) pa_nil)))))
        (pss_one (ps_raise rfl (takes_of rfl rfl rfl rfl) (pmk_oex EN.ox EN.ini EN.ty GE (hr.mono (by decide)) bE .nil pass0 rfl EN.g (pa_cons pe_non pa_nil)))) pss_nil)
      (pss_one (ps_ret (pe_makeS1 MM.M MM.F hr (by rfl) M.g (passes_call (takes_of rfl rfl rfl rfl) fun _ _ _ _ h => h) (pv 0)))), ?_⟩
    refine ⟨_, rfl, _, _, _, _, false, rfl, .ty _, .base (.lst ha), kit_ty (by decide +kernel), false, rfl, ?_⟩
    refine iteT ?_
    refine ⟨(by show 1 ≤ 1000; decide), fun x nx => ⟨x, _, rfl, upd_same, fun d nd ne => ⟨rfl, d, [("index", .non)], upd_same, ?_, ?_, ?_⟩⟩⟩
    · rw [upd_ne ne, upd_same]
    · rw [upd_ne ne] at nd
      exact nd
    · rw [raise_heap nx ne]
      rw [upd_ne ne] at nd
      exact qE d H (Same.refl H) nd
end
end K1
/-! a | b, a |= b, a <= b by an own class's methods -/
namespace DuX
open PySem PySem.Spec
open PyProof.Rows L2
section
variable {X : Cx} {CX : CXT} {k : Nat} {g C : Addr} {sp : Sp} {Ek : XK}
/-- both are of the class at C -/
def rBinO (C : Addr) (sp : Sp) (Ek : XK) : R2 := fun x y H Q => ∃ a dx fs b dy gs, x = .ref a ∧ y = .ref b ∧ H a = some (.ins C dx fs) ∧ H b = some (.ins C dy gs) ∧ sp [.ref a, .ref b] H Q Ek
theorem op_binO {op : Operator} (m : OwnM X.K C (PySem.dunder op.info.2) g) (hc : PySem.W.selfFirst X.K C = true) (F : FnR X.prog X.w X.K X.mg X.base CX k g sp) (hr : Room k X.A) (hx : Passes CX X Ek) : OpR X (binaryOp op) (rBinO C sp Ek) := by
  intro pins s σ H x y v u Q Iv rx ry h
  obtain ⟨a, dx, fs, b, dy, gs, rfl, rfl, ha, hb, q⟩ := h
  cases rx
  cases ry
  obtain ⟨ox, od, J⟩ := inst_of Iv ha
  obtain ⟨oy, oe, J2⟩ := inst_of Iv hb
  obtain ⟨mm, hF⟩ := Iv.fr
  refine PySem.W.binop_K hF Iv.ok.mod.kin J J2.type hc m.at_ m.fn ?_
  refine wpAny_mono (run_below F hr rfl hx Iv (vs := [V.ref a, V.ref b]) (.cons rfl (.cons rfl .nil)) q) (fun z s1 hz => ?_) fun _ _ e => e
  obtain ⟨z', H1, I1, rz, qz⟩ := hz
  exact SlX.cmpback rz ⟨z', H1, I1, rz, qz⟩
/-- a op= b -/
def rInO (C : Addr) (sp : Sp) (Ek : XK) : TIp := fun x y H Q => ∃ a dx fs, x = .ref a ∧ H a = some (.ins C dx fs) ∧ sp [.ref a, y] H Q Ek
theorem ip_O {op : Operator} (m : OwnM X.K C (PySem.dunderI op.info.2) g) (hc : PySem.W.selfFirst X.K C = true) (F : FnR X.prog X.w X.K X.mg X.base CX k g sp) (hr : Room k X.A) (hx : Passes CX X Ek) : PIp X op (rInO C sp Ek) := by
  intro pins s σ H x y v u Q Iv rx ry h
  obtain ⟨a, dx, fs, rfl, ha, q⟩ := h
  cases rx
  obtain ⟨ox, od, J⟩ := inst_of Iv ha
  obtain ⟨mm, hF⟩ := Iv.fr
  refine PySem.W.ksp_inplace hF Iv.ok.mod.kin J hc m.at_ m.fn ?_
  refine wpAny_mono (run_below F hr rfl hx Iv (vs := [V.ref a, y]) (.cons rfl (.cons ry .nil)) q) (fun z s1 hz => ?_) fun _ _ e => e
  obtain ⟨z', H1, I1, rz, qz⟩ := hz
  exact SlX.cmpback rz ⟨z', H1, I1, rz, qz⟩
/-- an order by an own method -/
def rCmpO (K : PySem.W.Frag) (C : Addr) (sp : Sp) (Ek : XK) : R2 := fun x y H Q => ∃ a dx fs t, x = .ref a ∧ H a = some (.ins C dx fs) ∧ TyX K H y t ∧ PySem.W.notFirst K C t = true ∧ sp [.ref a, y] H Q Ek
theorem op_cmpO {op : CmpOp} (hop : ∀ a b, compareOp op a b = richCompare op a b) (m : OwnM X.K C (cmpInfo op).2.1 g) (F : FnR X.prog X.w X.K X.mg X.base CX k g sp) (hr : Room k X.A) (hx : Passes CX X Ek) : OpR X (compareOp op) (rCmpO X.K C sp Ek) := by
  intro pins s σ H x y v u Q Iv rx ry h
  obtain ⟨a, dx, fs, t, rfl, ha, ty, nf, q⟩ := h
  cases rx
  obtain ⟨ox, od, J⟩ := inst_of Iv ha
  obtain ⟨mm, hF⟩ := Iv.fr
  obtain ⟨Pz, Z, pz, _⟩ := kit_of Iv ry ty
  rw [hop]
  refine PySem.W.cmp_K (op := op) hr.units0 hF Iv.ok.mod.kin J (Z.ty _ _ Iv.kIn pz) nf m.at_ m.fn ?_
  refine wpAny_mono (run_below F hr rfl hx Iv (vs := [V.ref a, y]) (.cons rfl (.cons ry .nil)) q) (fun z s1 hz => ?_) fun _ _ e => e
  obtain ⟨z', H1, I1, rz, qz⟩ := hz
  exact SlX.cmpback rz ⟨z', H1, I1, rz, qz⟩
end
/-- what a built-in class has for an operator, and that it is not below C -/
structure OthT (K : PySem.W.Frag) (C : Addr) (nm T : String) : Prop where
  h1 : ∃ fo, PySem.W.findIn K (.type T) (PySem.dunder nm) = some fo
  h2 : ∃ ro, PySem.W.findIn K (.type T) (dunderR nm) = some ro
  hs : PySem.W.subIn K (.type T) (.ref C) = some false
section
variable {M : Model} {prog : Program} {w : World} {A : Around} {E : Value → Shared → Prop} {s : Shared} {K : PySem.W.Frag} {x C f : Addr} {ox : Obj} {od : Option Obj} {T : String}
open PySem.W in
theorem bin_other {op : Operator} {b : Value} {Q : Value → Shared → Prop} (X : K.In s.heap) (J : InstAt s.heap x ox C od) (hb : ∀ M : Model, Looks M s.heap (typeOf b) (.type T)) (hc : selfFirst K C = true) (hs : findIn K (.ref C) (PySem.dunder op.info.2) = some (some (.ref f))) (hf : isFn K (.ref f) = true)
    (hr : findIn K (.ref C) (dunderR op.info.2) = some none) (O : OthT K C op.info.2 T)
    (h : wpAny (model prog w) A (call (.ref f) [.ref x, b]) (PySem.W.CmpBack Q) E s) : wpAny (model prog w) A (binaryOp op (.ref x) b) Q E s := by
  obtain ⟨cd, more, hcd, hm⟩ := ksp_first hc
  obtain ⟨⟨fo, h1⟩, ⟨ro, h2⟩, hsub⟩ := O
  have one := ksp_try X J hs hf h
  rcases hi : op.info with ⟨sym, nm⟩
  rw [hi] at hs hr h1 h2 one
  dsimp only at hs hr h1 h2 one
  obtain ⟨hp, g, d, tk, os⟩ := s
  have la := J.type (M := model prog w)
  have lb := hb (model prog w)
  have lc := fills_K (M := model prog w) X hcd hm hs
  have ld := ksp_fillsT (M := model prog w) X h1 h2
  have le := looks_subIn (M := model prog w) X hsub
  have lf := ksp_inPy (M := model prog w) X hs hr (.inl rfl)
  have lg : Looks (model prog w) hp (numberSlotInPython (.type T) nm) false := .of_pure rfl
  have lh := looks_findIn (M := model prog w) X h2
  generalize ((fo.isSome && !isSeqSlot fo) || (ro.isSome && !isSeqSlot ro)) = right at ld
  have ne : (Value.ref C == Value.type T) = false := Bool.eq_false_iff.mpr fun q => by cases beq_iff_eq.mp q
  simp only [binaryOp, hi]
  refine wpAny_holding (wpAny_bind ?_)
  unfold binaryOp1
  refine wpAny_bind (la.at (wpAny_bind (lb.at (wpAny_bind (lc.at ?_)))))
  simp only [ne, if_false, Bool.false_eq_true]
  cases right <;>
  · ksp_lk
    refine wpAny_mono one (fun r s1 hz => ?_) fun _ _ e => e
    obtain ⟨v, rfl, q⟩ := hz
    ksp_lk
    exact q
end
section
variable {X : Cx} {CX : CXT} {k : Nat} {g C : Addr} {sp : Sp} {Ek : XK}
/-- the other one is of a built-in class -/
def rBinT (K : PySem.W.Frag) (C : Addr) (Ts : List String) (sp : Sp) (Ek : XK) : R2 := fun x y H Q => ∃ a dx fs t, x = .ref a ∧ H a = some (.ins C dx fs) ∧ t ∈ Ts ∧ TyX K H y (.type t) ∧ sp [.ref a, y] H Q Ek
theorem op_binT {op : Operator} {Ts : List String} (m : OwnM X.K C (PySem.dunder op.info.2) g) (hc : PySem.W.selfFirst X.K C = true) (hR : PySem.W.findIn X.K (.ref C) (dunderR op.info.2) = some none) (O : ∀ t ∈ Ts, OthT X.K C op.info.2 t) (F : FnR X.prog X.w X.K X.mg X.base CX k g sp) (hr : Room k X.A) (hx : Passes CX X Ek) :
    OpR X (binaryOp op) (rBinT X.K C Ts sp Ek) := by
  intro pins s σ H x y v u Q Iv rx ry h
  obtain ⟨a, dx, fs, t, rfl, ha, ht, ty, q⟩ := h
  cases rx
  obtain ⟨ox, od, J⟩ := inst_of Iv ha
  obtain ⟨Pz, Z, pz, _⟩ := kit_of Iv ry ty
  refine bin_other Iv.kIn J (fun M => Z.ty M _ Iv.kIn pz) hc m.at_ m.fn hR (O t ht) ?_
  refine wpAny_mono (run_below F hr rfl hx Iv (vs := [V.ref a, y]) (.cons rfl (.cons ry .nil)) q) (fun z s1 hz => ?_) fun _ _ e => e
  obtain ⟨z', H1, I1, rz, qz⟩ := hz
  exact SlX.cmpback rz ⟨z', H1, I1, rz, qz⟩
end
end DuX
/-! in, not in, ==, != of an own class's instances, told without the context -/
namespace DuX
open PySem PySem.Spec
open PyProof.Rows L2
section
variable {X : Cx} {CX : CXT} {k : Nat} {g C : Addr} {sp : Sp} {Ek : XK}
theorem op_ninO (m : OwnM X.K C "__contains__" g) (F : FnR X.prog X.w X.K X.mg X.base CX k g sp) (hr : Room k X.A) (hx : Passes CX X Ek) :
    OpR X (compareOp .NotIn) (fun x y H Q => ∃ a dx fs, y = .ref a ∧ H a = some (.ins C dx fs) ∧ sp [.ref a, x] H (fun v H' => ∃ b, v = .bl b ∧ Q (.bl (!b)) H') Ek) := by
  intro pins s σ H x y u v Q Iv rx ry hyp
  obtain ⟨a, dx, fs, rfl, atA, cont⟩ := hyp
  cases ry
  obtain ⟨ox, od, J⟩ := inst_of Iv atA
  obtain ⟨mm, hF⟩ := Iv.fr
  refine PySem.W.notIn_K hF Iv.ok.mod.kin J m.at_ m.fn ?_
  refine wpAny_mono (run_below F hr rfl hx Iv (vs := [V.ref a, x]) (.cons rfl (.cons rx .nil)) cont) (fun u' s1 hu => ?_) fun _ _ e => e
  obtain ⟨v', H1, Iv1, rv, b, rfl, q1⟩ := hu
  cases rv
  exact wpAny_truthy_bool ⟨.bl (!b), H1, Iv1, rfl, q1⟩
def rEqO (K : PySem.W.Frag) (C : Addr) (sp : Sp) : R2 := fun x y H Q => ∃ a dx fs t, x = .ref a ∧ H a = some (.ins C dx fs) ∧ TyX K H y t ∧ PySem.W.notFirst K C t = true ∧ sp [.ref a, y] H (fun v H' => ∃ b, v = .bl b ∧ Q (.bl b) H') E0
def rNeO (K : PySem.W.Frag) (C : Addr) (sp : Sp) : R2 := fun x y H Q => ∃ a dx fs t, x = .ref a ∧ H a = some (.ins C dx fs) ∧ TyX K H y t ∧ PySem.W.notFirst K C t = true ∧ sp [.ref a, y] H (fun v H' => ∃ b, v = .bl b ∧ Q (.bl (!b)) H') E0
def rHasO (C : Addr) (sp : Sp) : R2 := fun x y H Q => ∃ a dx fs, y = .ref a ∧ H a = some (.ins C dx fs) ∧ sp [.ref a, x] H (fun v H' => ∃ b, v = .bl b ∧ Q (.bl b) H') E0
def rNinO (C : Addr) (sp : Sp) : R2 := fun x y H Q => ∃ a dx fs, y = .ref a ∧ H a = some (.ins C dx fs) ∧ sp [.ref a, x] H (fun v H' => ∃ b, v = .bl b ∧ Q (.bl (!b)) H') E0
theorem op_eqX (m : OwnM X.K C "__eq__" g) (F : FnR X.prog X.w X.K X.mg X.base CX0 k g sp) (hr : Room k X.A) : OpR X (compareOp .Eq) (rEqO X.K C sp) := by
  intro pins s σ H x y u v Q I rx ry h
  obtain ⟨a, dx, fs, t, h1, h2, h3, h4, q⟩ := h
  exact op_eqO m F hr pass0 pins s σ H x y u v Q I rx ry ⟨a, dx, fs, t, h1, h2, fun pins σ s u Iv r M => by
    obtain ⟨Pz, Z, pz, _⟩ := kit_of Iv r h3
    exact Z.ty M s.heap Iv.kIn pz, h4, q⟩
theorem op_neX (m : OwnM X.K C "__eq__" g) (n : NeM X.K C) (F : FnR X.prog X.w X.K X.mg X.base CX0 k g sp) (hr : Room (k + 1) X.A) : OpR X (compareOp .NotEq) (rNeO X.K C sp) := by
  intro pins s σ H x y u v Q I rx ry h
  obtain ⟨a, dx, fs, t, h1, h2, h3, h4, q⟩ := h
  exact op_neO m n F hr pass0 pins s σ H x y u v Q I rx ry ⟨a, dx, fs, t, h1, h2, fun pins σ s u Iv r M => by
    obtain ⟨Pz, Z, pz, _⟩ := kit_of Iv r h3
    exact Z.ty M s.heap Iv.kIn pz, h4, q⟩
theorem op_inX (m : OwnM X.K C "__contains__" g) (F : FnR X.prog X.w X.K X.mg X.base CX0 k g sp) (hr : Room k X.A) : OpR X (compareOp .In) (rHasO C sp) := op_inO m F hr pass0
theorem op_ninX (m : OwnM X.K C "__contains__" g) (F : FnR X.prog X.w X.K X.mg X.base CX0 k g sp) (hr : Room k X.A) : OpR X (compareOp .NotIn) (rNinO C sp) := op_ninO m F hr pass0
end
/-! ### what is known of a def -/
structure Has (P : Program) (w : World) (K : PySem.W.Frag) (mg : Str → Option Value) (base : Heap) (CX : CXT) (k : Nat) (x : Str) (f : Addr) (ps : List Str) (sp : Sp) : Prop where
  gm : mg x = some (.ref f)
  kp : PySem.W.keepIn K (.ref f) = true
  ex : ∃ fd, FnOk P w K mg base CX k f fd ps sp ∧ L2.Binds K fd ps []
section
variable {X : Cx} {CX : CXT} {k : Nat} {x : Str} {f : Addr} {ps : List Str} {sp : Sp} {E : XK}
/-- x(e, ..) -/
theorem pe_has {e : Expr} {es : List Expr} {t : TA} {p pos : Pos} (F : Has X.prog X.w X.K X.mg X.base CX k x f ps sp) (hr : Room k X.A) (hg : Gl X x) (hx : Passes CX X E) (ha : PA X (e :: es) t) (hd : (x == ("__debug__" : Str)) = false := by decide)
    (hst : starEach (e :: es) X.env = (false, eval e X.env) :: starEach es X.env := by rfl) (hpl : (backTo pos (starEach es X.env)).any (·.1) = false := by rfl) :
    PE X (.Call (.Name x p) (e :: es) [] pos) (tCall sp [] E t) := by
  obtain ⟨gm, kp, fd, F, B⟩ := F
  exact pe_call F hr hg gm kp B .nil hx ha hd hst hpl
end
end DuX
/-! joined and sorted texts -/
namespace K1
open PySem PySem.Spec
open PyProof.Rows L2
def NotLt (a b : Str) : Prop := ¬ (b.cps.toList < a.cps.toList)
theorem notLt_of {a b : Str} (h : (!ltCps b.cps.toList a.cps.toList) = true) : NotLt a b := by
  rw [ltCps_eq] at h
  simpa [NotLt] using h
theorem notLt_trans {a b c : Str} (h1 : NotLt a b) (h2 : NotLt b c) : NotLt a c := by
  have h1 : a.cps.toList ≤ b.cps.toList := List.not_lt.mp h1
  have h2 : b.cps.toList ≤ c.cps.toList := List.not_lt.mp h2
  exact List.not_lt.mpr (List.le_trans h1 h2)
theorem notLt_anti {a b : Str} (h1 : NotLt a b) (h2 : NotLt b a) : a = b := by
  have h1 : a.cps.toList ≤ b.cps.toList := List.not_lt.mp h1
  have h2 : b.cps.toList ≤ a.cps.toList := List.not_lt.mp h2
  exact TL.ext_tl (List.le_antisymm h1 h2)
theorem rising_pw : ∀ (r : List Str) (p : Str), risingS p r = true → (p :: r).Pairwise NotLt
  | [], p, _ => List.pairwise_cons.mpr ⟨fun _ h => (by cases h), List.Pairwise.nil⟩
  | x :: r, p, h => by
    have h : (!ltCps x.cps.toList p.cps.toList && risingS x r) = true := h
    rw [Bool.and_eq_true] at h
    have ih := rising_pw r x h.2
    have h1 := notLt_of h.1
    refine List.pairwise_cons.mpr ⟨fun y hy => ?_, ih⟩
    rcases List.mem_cons.mp
        hy with e | e
    · rw [e]
      exact h1
    · exact notLt_trans h1 ((List.pairwise_cons.mp ih).1 y e)
theorem sorted_pw {xs : List Str} (h : sortedS xs = true) : xs.Pairwise NotLt := by
  cases xs with
  | nil => exact List.Pairwise.nil
  | cons x r => exact rising_pw r x h
theorem sorted_uniq {xs ys : List Str} (hx : sortedS xs = true) (hy : sortedS ys = true) (nx : xs.Nodup) (ny : ys.Nodup) (m : ∀ z, z ∈ xs ↔ z ∈ ys) : xs = ys :=
  List.Perm.eq_of_pairwise (le := NotLt) (fun a b _ _ h1 h2 => notLt_anti h1 h2) (sorted_pw hx) (sorted_pw hy) ((List.perm_ext_iff_of_nodup nx ny).mpr m)
end K1

namespace K1
open PySem PySem.Spec
open PyProof.Rows L2 EnT StX SmX TxS DuX ClX
/-! ### the signs of Members -/
theorem mk_names {C CN : Addr} {zs : List Str} {H : Hp} {Q : VK} {E : XK} (nm : ∀ z ∈ zs, nameB z = true) (hl : zs.length ≤ 1000)
    (q : ∀ b ys H', H b = none → Same H H' → (∀ z, z ∈ ys ↔ z ∈ zs) → MemAt C H' b ys → Q (.ref b) H') : spMk C CN (zs.map V.str) H Q E := by
  have hw : wrongIx (zs.map V.str) = none := wrong_none (List.all_eq_true.mpr fun v hv => by
    obtain ⟨z, hz, rfl⟩ := List.mem_map.mp hv
    exact nm z hz)
  refine ⟨fun v hv => ?_, by rw [List.length_map]; exact hl, fun i hi => (by rw [hw] at hi; cases hi), fun _ us eu b ws H' nb s m MA => ?_⟩
  · obtain ⟨z, hz, rfl⟩ := List.mem_map.mp hv
    exact .inl ⟨z, rfl, by have := name_short (nm z hz); rw [sizeLine_eq]; omega⟩
  · have eu2 : us = zs := (List.map_inj_right (fun _ _ h => V.str.inj h)).mp eu.symm
    subst eu2
    exact q b ws H' nb s m MA
/-- new Members of those that p tells -/
def MakesP (C : Addr) (p : Str → Prop) (H : Hp) (Q : VK) : Prop := ∀ (a : Addr) (ys : List Str) (H' : Hp), H a = none → Same H H' → (∀ z, z ∈ ys ↔ p z) → MemAt C H' a ys → Q (.ref a) H'
theorem MakesP.imp {C : Addr} {p p' : Str → Prop} {H H1 : Hp} {Q Q' : VK} (h : MakesP C p H Q) (s : Same H H1) (e : ∀ z, p' z ↔ p z) (q : ∀ a H', Q (.ref a) H' → Q' (.ref a) H') : MakesP C p' H1 Q' := fun a ys H' n s' m MA => q a H' (h a ys H' (by
  cases hh : H a with
  | none => rfl
  | some o =>
    rw [s _ _ hh] at n
    cases n) (s.trans s') (fun z => (m z).trans (e z)) MA)
abbrev rOr : Prop → Prop → Prop := fun a b => a ∨ b
abbrev rAnd : Prop → Prop → Prop := fun a b => a ∧ b
abbrev rSub : Prop → Prop → Prop := fun a b => a ∧ ¬ b
abbrev rXor : Prop → Prop → Prop := fun a b => (a ∧ ¬ b) ∨ (b ∧ ¬ a)
def spBinM (C : Addr) (r : Prop → Prop → Prop) : Sp := fun vs H Q _ => ∃ a b zs ws, vs = [.ref a, .ref b] ∧ MemAt C H a zs ∧ MemAt C H b ws ∧ zs.length + ws.length ≤ 1000 ∧ MakesP C (fun z => r (z ∈ zs) (z ∈ ws)) H Q
def spBadM (C CM : Addr) : Sp := fun vs H _ E => ∃ a zs v, vs = [.ref a, v] ∧ MemAt C H a zs ∧ VOk H v ∧ ErrAt CM "value" v H E
def spChkY (C : Addr) : Sp := fun vs H Q _ => ∃ b ws, vs = [.ref b] ∧ MemAt C H b ws ∧ Q .non H
def spChkN (CM : Addr) : Sp := fun vs H _ E => ∃ v, vs = [v] ∧ VOk H v ∧ ErrAt CM "value" v H E
/-- what the signs of Members lean on -/
structure Mb (P : Program) (w : World) (K : PySem.W.Frag) (mg : Str → Option Value) (base : Heap) (C CN CM : Addr) (mc : Value) : Prop where
  T : Free mg
  M : MemC K mg C
  I : MemIs K C
  sf : PySem.W.selfFirst K C = true
  chkY : ∃ f, Has P w K mg base (L2.CX P w) 3 "check_members" f ["value"] (spChkY C)
  chkN : ∃ f, Has P w K mg base (L2.CX P w) 3 "check_members" f ["value"] (spChkN CM)
  fromT : ∃ p g, SMet K C mc "from_names" p g ∧ FnR P w K mg base (L2.CX P w) 6 g (spFromT C CN)
  hasM : ∃ g, OwnM K C "__contains__" g ∧ FnR P w K mg base CX0 1 g (spHasM C)
  lenM : ∃ g, OwnM K C "__len__" g ∧ FnR P w K mg base CX0 1 g (spLenM C)
  prop : ∃ pN gN fdN, PropOf K C "names" pN gN ∧ FnOk P w K mg base CX0 1 gN fdN ["self"] (getSp C "_names") ∧ L2.Binds K fdN ["self"] []
  cr : CRead K C mc
section
variable {w : World} {P : Program} {base : Heap} {mg : Str → Option Value} {K : PySem.W.Frag} {C CN CM : Addr} {mc : Value}
theorem scErrM : FnScope ["self", "value"] ["self", "value"] (defScope sErrMem) := ⟨rfl, rfl, rfl, by decide +kernel, rfl, by decide +kernel, by decide +kernel⟩
theorem ok_errM {f C fI : Addr} {fd : FuncData} (F : Fun K "__init__" "NotMembers.__init__" sErrMem f fd) (T : ErrC K mg "NotMembers" "value" C fI) : FnOk P w K mg base CX0 1 f fd ["self", "value"] (spErr C "value") := by
  refine F.ok scErrM (fun vs H Q E h => ?_) (fun cdv A outer s H vs Q E hr h => ?_)
  · obtain ⟨a, v, rfl, _⟩ := h
    rfl
  · obtain ⟨a, v, rfl, ha, q⟩ := h
    exact ⟨_, pss_one (ps_ost (pv 0) (pv 1)), _, rfl, _, rfl, a, C, rfl, T.ox, T.no, .inl ⟨ha, fun d nd ne => q d nd ne⟩⟩
theorem scChkM : FnScope ["value"] ["value"] (defScope sChkM) := ⟨rfl, rfl, rfl, by decide +kernel, rfl, by decide +kernel, by decide +kernel⟩
theorem ok_chkY {f fE : Addr} {fd fdE : FuncData} (F : Fun K "check_members" "check_members" sChkM f fd) (T : Free mg) (M : MemC K mg C) (I : MemIs K C) (EM : ErrC K mg "NotMembers" "value" CM fE) (FE : Fun K "__init__" "NotMembers.__init__" sErrMem fE fdE) :
    FnOk P w K mg base (L2.CX P w) 3 f fd ["value"] (spChkY C) := by
  have bE : Binds K fdE ["self", "value"] [] := FE.binds (ps := ["self", "value"]) fun _ _ _ _ _ _ us hl => match us, hl with | [_, _], _ => rfl
  have GE : FnOk P w K mg base CX0 1 fE fdE ["self", "value"] (spErr CM "value") := ok_errM FE EM
  refine F.okX scChkM (fun vs H Q E h => ?_) (fun cdv A outer s H vs Q E hr h => ?_)
  · obtain ⟨b, ws, rfl, _⟩ := h
    rfl
  · obtain ⟨b, ws, rfl, m2, q⟩ := h
    obtain ⟨dx2, t2, d2, k1, k2, k3⟩ := m2.at_
    refine ⟨_, pss_one (ps_if (pt_not (pt_val (pe_callB call_isi (by rfl) T.isinstance (by decide +kernel) (pa_cons (pv 0) (pa_cons (pe_glob (v := .ref C) (by rfl) M.g rfl) pa_nil)))))
        (pss_one (ps_raise rfl (takes_of rfl rfl rfl rfl) (pmk_oex EM.ox EM.ini EM.ty GE (hr.mono (by decide)) bE .nil pass0 rfl EM.g (pa_cons (pv 0) pa_nil)))) pss_nil), ?_⟩
    refine ⟨_, rfl, _, _, _, _, true, rfl, .own C, .base (.ins k1 M.cl I.ha I.hn I.htk I.hm), I.yes, true, rfl, ?_⟩
    exact iteF q
theorem ok_chkN {f fE : Addr} {fd fdE : FuncData} (F : Fun K "check_members" "check_members" sChkM f fd) (T : Free mg) (M : MemC K mg C) (I : MemIs K C) (EM : ErrC K mg "NotMembers" "value" CM fE) (FE : Fun K "__init__" "NotMembers.__init__" sErrMem fE fdE) :
    FnOk P w K mg base (L2.CX P w) 3 f fd ["value"] (spChkN CM) := by
  have bE : Binds K fdE ["self", "value"] [] := FE.binds (ps := ["self", "value"]) fun _ _ _ _ _ _ us hl => match us, hl with | [_, _], _ => rfl
  have GE : FnOk P w K mg base CX0 1 fE fdE ["self", "value"] (spErr CM "value") := ok_errM FE EM
  refine F.okX scChkM (fun vs H Q E h => ?_) (fun cdv A outer s H vs Q E hr h => ?_)
  · obtain ⟨v, rfl, _⟩ := h
    rfl
  · obtain ⟨v, rfl, hv, q⟩ := h
    obtain ⟨ty, ht, tx⟩ := hv.ty (K := K)
    refine ⟨_, pss_one (ps_if (pt_not (pt_val (pe_callB call_isi (by rfl) T.isinstance (by decide +kernel) (pa_cons (pv 0) (pa_cons (pe_glob (v := .ref C) (by rfl) M.g rfl) pa_nil)))))
        (pss_one (ps_raise rfl (takes_of rfl rfl rfl rfl) (pmk_oex EM.ox EM.ini EM.ty GE (hr.mono (by decide)) bE .nil pass0 rfl EM.g (pa_cons (pv 0) pa_nil)))) pss_nil), ?_⟩
    refine ⟨_, rfl, _, _, _, _, false, rfl, .own C, tx, I.no ty ht, false, rfl, ?_⟩
    refine iteT ?_
    refine ⟨_, rfl, (by show 1 ≤ 1000; decide), fun x nx => ⟨x, _, rfl, upd_same, fun d nd ne => ⟨rfl, d, [("value", v)], upd_same, ?_, ?_, ?_⟩⟩⟩
    · rw [upd_ne ne, upd_same]
    · rw [upd_ne ne] at nd
      exact nd
    · rw [raise_heap nx ne]
      rw [upd_ne ne] at nd
      exact q d H (Same.refl H) nd
abbrev nmSO : List Str := ["self", "other"]
theorem scOrM : FnScope nmSO nmSO (defScope sOrM) := ⟨rfl, rfl, rfl, by decide +kernel, rfl, by decide +kernel, by decide +kernel⟩
theorem ok_orM {f : Addr} {fd : FuncData} (F : Fun K "__or__" "Members.__or__" sOrM f fd) (B : Mb P w K mg base C CN CM mc) : FnOk P w K mg base (L2.CX P w) 7 f fd nmSO (spBinM C rOr) := by
  obtain ⟨fC, hC⟩ := B.chkY
  obtain ⟨pF, gF, mF, FF⟩ := B.fromT
  obtain ⟨pN, gN, fdN, pr, GN, bN⟩ := B.prop
  have M := B.M
  refine F.okX scOrM (fun vs H Q E h => ?_) (fun cdv A outer s H vs Q E hr h => ?_)
  · obtain ⟨a, b, zs, ws, rfl, _⟩ := h
    rfl
  · obtain ⟨a, b, zs, ws, rfl, m1, m2, hl, q⟩ := h
    obtain ⟨dx, t, d, h1, h2, h3⟩ := m1.at_
    obtain ⟨dy, t2, d2, k1, k2, k3⟩ := m2.at_
    refine ⟨_, pss_cons (ps_expr (pe_has hC (hr.mono (by decide)) (by rfl) (passes_call (takes_of rfl rfl rfl rfl) fun _ _ _ _ h => h) (pa_cons (pv 1) pa_nil)))
      (pss_one (ps_ret (pe_smeth (pe_glob (v := .ref C) (by rfl) M.g rfl) B.cr mF FF hr (passes_call (takes_of rfl rfl rfl rfl) fun _ _ _ _ h => h) (pa_cons (pe_op op_catA (pe_fld (pv 0) rfl) (pe_prop (pv 1) M.cl pr GN (hr.mono (by decide)) bN .nil pass0 rfl)) pa_nil)))), ?_⟩
    have nm : ∀ z ∈ zs ++ ws, nameB z = true := fun z hz => (List.mem_append.mp hz).elim (m1.nm z) (m2.nm z)
    have hl2 : (zs ++ ws).length ≤ 1000 := by rw [List.length_append]; exact hl
    have fin : ∀ (l : Addr) (H1 : Hp), Same H H1 → H1 l = some (.tup ((zs ++ ws).map V.str)) → spFromT C CN [.ref l] H1 Q E := fun l H1 s1 hl1 => ⟨l, _, rfl, hl1, mk_names nm hl2 (q.imp s1 (fun z => List.mem_append) fun _ _ h => h)⟩
    refine ⟨_, rfl, b, ws, rfl, m2, ?_⟩
    refine ⟨rfl, _, rfl, a, C, dx, _, _, rfl, h1, M.cl, M.nN, flds_names t d, _, rfl, b, dy, _, rfl, k1, b, dy, _, _, rfl, k1, flds_names t2 d2, ?_⟩
    refine ⟨t, t2, zs.map V.str, ws.map V.str, rfl, rfl, SqT.of h2, SqT.of k2, by rw [List.length_map, List.length_map, sizeLine_eq]; omega, fun e => ?_, fun n e => ?_, fun n n2 p np => ?_⟩
    · have e2 : zs = [] := List.map_eq_nil_iff.mp e
      exact fin t2 H (Same.refl H) (by rw [e2]; exact k2)
    · have e2 : ws = [] := List.map_eq_nil_iff.mp e
      exact fin t H (Same.refl H) (by rw [e2, List.append_nil]; exact h2)
    · exact fin p _ (same_upd np) (by rw [upd_same, List.map_append])
end
end K1

namespace K1
open PySem PySem.Spec
open PyProof.Rows L2 EnT StX SmX TxS DuX ClX
theorem len_sub : ∀ {ys zs : List Str}, ys.Nodup → (∀ z ∈ ys, z ∈ zs) → ys.length ≤ zs.length
  | [], _, _, _ => Nat.zero_le _
  | y :: r, zs, nd, s => by
    have nd' := List.nodup_cons.mp nd
    have hy := s y List.mem_cons_self
    have h := len_sub (zs := zs.erase y) nd'.2 fun z hz => (List.mem_erase_of_ne fun e => nd'.1 (by rw [← e]; exact hz)).mpr (s z (List.mem_cons_of_mem _ hz))
    rw [List.length_erase_of_mem hy] at h
    have := List.length_pos_of_mem hy
    rw [List.length_cons]
    omega
theorem upd_upd {H : Hp} {d : Addr} {x y : HO} : upd (upd H d x) d y = upd H d y := by
  funext b
  by_cases h : b = d
  · rw [h, upd_same, upd_same]
  · rw [upd_ne h, upd_ne h, upd_ne h]
theorem filt_succ {zs : List Str} {i : Nat} {z : Str} {p : Str → Bool} (h : zs[i]? = some z) : (zs.take (i + 1)).filter p = (zs.take i).filter p ++ if p z = true then [z] else [] := by
  rw [List.take_add_one, h, List.filter_append]
  congr 1
  by_cases e : p z = true
  · rw [if_pos e]
    simp [e]
  · rw [if_neg e]
    simp [e]
theorem map_succ {zs : List Str} {i : Nat} {z : Str} {g : Str → V} (h : zs[i]? = some z) : (zs.take (i + 1)).map g = (zs.take i).map g ++ [g z] := by
  rw [List.take_add_one, h, List.map_append]
  rfl
theorem filt_len {zs : List Str} {p : Str → Bool} {n : Nat} (h : zs.length ≤ n) : (zs.filter p).length ≤ n := Nat.le_trans (List.length_filter_le _ _) h
section
variable {w : World} {P : Program} {base : Heap} {mg : Str → Option Value} {K : PySem.W.Frag} {C CN CM : Addr} {mc : Value}
abbrev nmSON : List Str := ["self", "other", "name"]
theorem scAndM : FnScope nmSON nmSO (defScope sAndM) := ⟨rfl, rfl, rfl, by decide +kernel, rfl, by decide +kernel, by decide +kernel⟩
theorem scSubM : FnScope nmSON nmSO (defScope sSubM) := ⟨rfl, rfl, rfl, by decide +kernel, rfl, by decide +kernel, by decide +kernel⟩
theorem ok_andM {f : Addr} {fd : FuncData} (F : Fun K "__and__" "Members.__and__" sAndM f fd) (B : Mb P w K mg base C CN CM mc) : FnOk P w K mg base (L2.CX P w) 7 f fd nmSO (spBinM C rAnd) := by
  obtain ⟨fC, hC⟩ := B.chkY
  obtain ⟨pF, gF, mF, FF⟩ := B.fromT
  obtain ⟨gH, mH, FH⟩ := B.hasM
  have M := B.M
  refine F.okX scAndM (fun vs H Q E h => ?_) (fun cdv A outer s H vs Q E hr h => ?_)
  · obtain ⟨a, b, zs, ws, rfl, _⟩ := h
    rfl
  · obtain ⟨a, b, zs, ws, rfl, m1, m2, hl, q⟩ := h
    obtain ⟨dx, t, d, h1, h2, h3⟩ := m1.at_
    obtain ⟨dy, t2, d2, k1, k2, k3⟩ := m2.at_
    refine ⟨_, pss_cons (ps_expr (pe_has hC (hr.mono (by decide)) (by rfl) (passes_call (takes_of rfl rfl rfl rfl) fun _ _ _ _ h => h) (pa_cons (pv 1) pa_nil)))
      (pss_one (ps_ret (pe_smeth (pe_glob (v := .ref C) (by rfl) M.g rfl) B.cr mF FF hr (passes_call (takes_of rfl rfl rfl rfl) fun _ _ _ _ h => h) (pa_cons (pe_callTy call_tuple_of (by rfl) B.T.tuple (by decide +kernel) (pa_cons
        (pe_lc (own := [("name", 2)]) (g := gName 2) (tt := tTest (tOp (rHasO C (spHasM C)) (tVar 2) (tVar 1))) rfl scAndM.nd (pi_tup (pe_fld (pv 0) rfl)) (blkOk_by (own := [("name", 2)]) (N := nmSON) (sc := defScope sAndM) (by decide +kernel)) (fun _ _ _ _ _ => pg_name (i := 2) scAndM.nd rfl (Or.inl rfl))
          (fun _ _ _ _ _ => pts_one (pt_cmpR (op_inX mH FH (hr.mono (by decide))) (pv 2) (pv 1) (by rfl))) (fun _ _ _ _ _ => pv 2)) pa_nil)) pa_nil)))), ?_⟩
    refine ⟨_, rfl, b, ws, rfl, m2, rfl, ?_⟩
    refine ⟨_, rfl, a, C, dx, _, _, rfl, h1, M.cl, M.nN, flds_names t d, t, rfl, ⟨_, SqT.of h2⟩, fun D nD => ?_⟩
    refine lc_tup (K := K) (a := t) (xs := zs.map V.str) (fun i H' => H' = upd H D (.lst (((zs.take i).filter fun z => decide (z ∈ ws)).map V.str))) rfl (fun i H' hi e => ?_) (fun i x H' hx e => ?_) (fun H' e => ?_)
    · subst e
      exact SqT.of (same_upd nD _ _ h2)
    · subst e
      rw [List.getElem?_map] at hx
      obtain ⟨z, hz, rfl⟩ := Option.map_eq_some_iff.mp hx
      have s1 : Same H (upd H D (.lst (((zs.take i).filter fun z => decide (z ∈ ws)).map V.str))) := same_upd nD
      refine ⟨rfl, ?_⟩
      refine ⟨_, rfl, _, rfl, b, dy, _, rfl, s1 _ _ k1, b, ws, _, rfl, m2.same s1, .inl ⟨z, rfl, by have := name_short (m1.nm z (List.mem_of_getElem? hz)); rw [sizeLine_eq]; omega⟩, _, rfl, _, rfl, ?_⟩
      have e1 : hasV ws (V.str z) = decide (z ∈ ws) := rfl
      rw [e1, filt_succ hz]
      by_cases hm : z ∈ ws
      · rw [decide_eq_true hm, if_pos rfl]
        refine iteT ⟨_, rfl, _, upd_same, ?_, ?_⟩
        · have : (((zs.take i).filter fun z => decide (z ∈ ws))).length ≤ 1000 := filt_len (by rw [List.length_take]; omega)
          rw [List.length_map, sizeLine_eq]
          omega
        · rw [upd_upd, List.map_append]
          rfl
      · rw [decide_eq_false hm, if_neg (by decide), List.append_nil]
        exact iteF rfl
    · subst e
      rw [List.length_map, List.take_length]
      have s1 : Same H (upd H D (.lst ((zs.filter fun z => decide (z ∈ ws)).map V.str))) := same_upd nD
      refine ⟨D, _, rfl, .inl ⟨SqL.of upd_same, fun l nl => ?_⟩⟩
      have s2 := same_upd (o := .tup ((zs.filter fun z => decide (z ∈ ws)).map V.str)) nl
      exact ⟨l, _, rfl, upd_same, mk_names (fun z hz => m1.nm z (List.mem_filter.mp hz).1) (filt_len (by omega)) (q.imp (s1.trans s2) (fun z => by rw [List.mem_filter, decide_eq_true_iff]) fun _ _ h => h)⟩
theorem ok_subM {f : Addr} {fd : FuncData} (F : Fun K "__sub__" "Members.__sub__" sSubM f fd) (B : Mb P w K mg base C CN CM mc) : FnOk P w K mg base (L2.CX P w) 7 f fd nmSO (spBinM C rSub) := by
  obtain ⟨fC, hC⟩ := B.chkY
  obtain ⟨pF, gF, mF, FF⟩ := B.fromT
  obtain ⟨gH, mH, FH⟩ := B.hasM
  have M := B.M
  refine F.okX scSubM (fun vs H Q E h => ?_) (fun cdv A outer s H vs Q E hr h => ?_)
  · obtain ⟨a, b, zs, ws, rfl, _⟩ := h
    rfl
  · obtain ⟨a, b, zs, ws, rfl, m1, m2, hl, q⟩ := h
    obtain ⟨dx, t, d, h1, h2, h3⟩ := m1.at_
    obtain ⟨dy, t2, d2, k1, k2, k3⟩ := m2.at_
    refine ⟨_, pss_cons (ps_expr (pe_has hC (hr.mono (by decide)) (by rfl) (passes_call (takes_of rfl rfl rfl rfl) fun _ _ _ _ h => h) (pa_cons (pv 1) pa_nil)))
      (pss_one (ps_ret (pe_smeth (pe_glob (v := .ref C) (by rfl) M.g rfl) B.cr mF FF hr (passes_call (takes_of rfl rfl rfl rfl) fun _ _ _ _ h => h) (pa_cons (pe_callTy call_tuple_of (by rfl) B.T.tuple (by decide +kernel) (pa_cons
        (pe_lc (own := [("name", 2)]) (g := gName 2) (tt := tTest (tOp (rNinO C (spHasM C)) (tVar 2) (tVar 1))) rfl scSubM.nd (pi_tup (pe_fld (pv 0) rfl)) (blkOk_by (own := [("name", 2)]) (N := nmSON) (sc := defScope sSubM) (by decide +kernel)) (fun _ _ _ _ _ => pg_name (i := 2) scSubM.nd rfl (Or.inl rfl))
          (fun _ _ _ _ _ => pts_one (pt_cmpR (op_ninX mH FH (hr.mono (by decide))) (pv 2) (pv 1) (by rfl))) (fun _ _ _ _ _ => pv 2)) pa_nil)) pa_nil)))), ?_⟩
    refine ⟨_, rfl, b, ws, rfl, m2, rfl, ?_⟩
    refine ⟨_, rfl, a, C, dx, _, _, rfl, h1, M.cl, M.nN, flds_names t d, t, rfl, ⟨_, SqT.of h2⟩, fun D nD => ?_⟩
    refine lc_tup (K := K) (a := t) (xs := zs.map V.str) (fun i H' => H' = upd H D (.lst (((zs.take i).filter fun z => !decide (z ∈ ws)).map V.str))) rfl (fun i H' hi e => ?_) (fun i x H' hx e => ?_) (fun H' e => ?_)
    · subst e
      exact SqT.of (same_upd nD _ _ h2)
    · subst e
      rw [List.getElem?_map] at hx
      obtain ⟨z, hz, rfl⟩ := Option.map_eq_some_iff.mp hx
      have s1 : Same H (upd H D (.lst (((zs.take i).filter fun z => !decide (z ∈ ws)).map V.str))) := same_upd nD
      refine ⟨rfl, ?_⟩
      refine ⟨_, rfl, _, rfl, b, dy, _, rfl, s1 _ _ k1, b, ws, _, rfl, m2.same s1, .inl ⟨z, rfl, by have := name_short (m1.nm z (List.mem_of_getElem? hz)); rw [sizeLine_eq]; omega⟩, _, rfl, _, rfl, ?_⟩
      have e1 : hasV ws (V.str z) = decide (z ∈ ws) := rfl
      rw [e1, filt_succ hz]
      by_cases hm : z ∈ ws
      · rw [decide_eq_true hm, if_neg (by decide), List.append_nil]
        exact iteF rfl
      · rw [decide_eq_false hm, Bool.not_false, if_pos rfl]
        refine iteT ⟨_, rfl, _, upd_same, ?_, ?_⟩
        · have : (((zs.take i).filter fun z => !decide (z ∈ ws))).length ≤ 1000 := filt_len (by rw [List.length_take]; omega)
          rw [List.length_map, sizeLine_eq]
          omega
        · rw [upd_upd, List.map_append]
          rfl
    · subst e
      rw [List.length_map, List.take_length]
      have s1 : Same H (upd H D (.lst ((zs.filter fun z => !decide (z ∈ ws)).map V.str))) := same_upd nD
      refine ⟨D, _, rfl, .inl ⟨SqL.of upd_same, fun l nl => ?_⟩⟩
      have s2 := same_upd (o := .tup ((zs.filter fun z => !decide (z ∈ ws)).map V.str)) nl
      exact ⟨l, _, rfl, upd_same, mk_names (fun z hz => m1.nm z (List.mem_filter.mp hz).1) (filt_len (by omega)) (q.imp (s1.trans s2) (fun z => by rw [List.mem_filter]; simp) fun _ _ h => h)⟩
/-! a sign with what is no Members -/
theorem ok_orN {f : Addr} {fd : FuncData} (F : Fun K "__or__" "Members.__or__" sOrM f fd) (B : Mb P w K mg base C CN CM mc) : FnOk P w K mg base (L2.CX P w) 7 f fd nmSO (spBadM C CM) := by
  obtain ⟨fC, hC⟩ := B.chkN
  obtain ⟨pF, gF, mF, FF⟩ := B.fromT
  obtain ⟨pN, gN, fdN, pr, GN, bN⟩ := B.prop
  have M := B.M
  refine F.okX scOrM (fun vs H Q E h => ?_) (fun cdv A outer s H vs Q E hr h => ?_)
  · obtain ⟨a, zs, v, rfl, _⟩ := h
    rfl
  · obtain ⟨a, zs, v, rfl, m1, hv, qE⟩ := h
    exact ⟨_, pss_cons (ps_expr (pe_has hC (hr.mono (by decide)) (by rfl) (passes_call (takes_of rfl rfl rfl rfl) fun _ _ _ _ h => h) (pa_cons (pv 1) pa_nil)))
      (pss_one (ps_ret (pe_smeth (pe_glob (v := .ref C) (by rfl) M.g rfl) B.cr mF FF hr (passes_call (takes_of rfl rfl rfl rfl) fun _ _ _ _ h => h) (pa_cons (pe_op op_catA (pe_fld (pv 0) rfl) (pe_prop (pv 1) M.cl pr GN (hr.mono (by decide)) bN .nil pass0 rfl)) pa_nil)))), _, rfl, v, rfl, hv, qE⟩
theorem ok_andN {f : Addr} {fd : FuncData} (F : Fun K "__and__" "Members.__and__" sAndM f fd) (B : Mb P w K mg base C CN CM mc) : FnOk P w K mg base (L2.CX P w) 7 f fd nmSO (spBadM C CM) := by
  obtain ⟨fC, hC⟩ := B.chkN
  obtain ⟨pF, gF, mF, FF⟩ := B.fromT
  obtain ⟨gH, mH, FH⟩ := B.hasM
  have M := B.M
  refine F.okX scAndM (fun vs H Q E h => ?_) (fun cdv A outer s H vs Q E hr h => ?_)
  · obtain ⟨a, zs, v, rfl, _⟩ := h
    rfl
  · obtain ⟨a, zs, v, rfl, m1, hv, qE⟩ := h
    exact ⟨_, pss_cons (ps_expr (pe_has hC (hr.mono (by decide)) (by rfl) (passes_call (takes_of rfl rfl rfl rfl) fun _ _ _ _ h => h) (pa_cons (pv 1) pa_nil)))
      (pss_one (ps_ret (pe_smeth (pe_glob (v := .ref C) (by rfl) M.g rfl) B.cr mF FF hr (passes_call (takes_of rfl rfl rfl rfl) fun _ _ _ _ h => h) (pa_cons (pe_callTy call_tuple_of (by rfl) B.T.tuple (by decide +kernel) (pa_cons
        (pe_lc (own := [("name", 2)]) (g := gName 2) (tt := tTest (tOp (rHasO C (spHasM C)) (tVar 2) (tVar 1))) rfl scAndM.nd (pi_tup (pe_fld (pv 0) rfl)) (blkOk_by (own := [("name", 2)]) (N := nmSON) (sc := defScope sAndM) (by decide +kernel)) (fun _ _ _ _ _ => pg_name (i := 2) scAndM.nd rfl (Or.inl rfl))
          (fun _ _ _ _ _ => pts_one (pt_cmpR (op_inX mH FH (hr.mono (by decide))) (pv 2) (pv 1) (by rfl))) (fun _ _ _ _ _ => pv 2)) pa_nil)) pa_nil)))), _, rfl, v, rfl, hv, qE⟩
theorem ok_subN {f : Addr} {fd : FuncData} (F : Fun K "__sub__" "Members.__sub__" sSubM f fd) (B : Mb P w K mg base C CN CM mc) : FnOk P w K mg base (L2.CX P w) 7 f fd nmSO (spBadM C CM) := by
  obtain ⟨fC, hC⟩ := B.chkN
  obtain ⟨pF, gF, mF, FF⟩ := B.fromT
  obtain ⟨gH, mH, FH⟩ := B.hasM
  have M := B.M
  refine F.okX scSubM (fun vs H Q E h => ?_) (fun cdv A outer s H vs Q E hr h => ?_)
  · obtain ⟨a, zs, v, rfl, _⟩ := h
    rfl
  · obtain ⟨a, zs, v, rfl, m1, hv, qE⟩ := h
    exact ⟨_, pss_cons (ps_expr (pe_has hC (hr.mono (by decide)) (by rfl) (passes_call (takes_of rfl rfl rfl rfl) fun _ _ _ _ h => h) (pa_cons (pv 1) pa_nil)))
      (pss_one (ps_ret (pe_smeth (pe_glob (v := .ref C) (by rfl) M.g rfl) B.cr mF FF hr (passes_call (takes_of rfl rfl rfl rfl) fun _ _ _ _ h => h) (pa_cons (pe_callTy call_tuple_of (by rfl) B.T.tuple (by decide +kernel) (pa_cons
        (pe_lc (own := [("name", 2)]) (g := gName 2) (tt := tTest (tOp (rNinO C (spHasM C)) (tVar 2) (tVar 1))) rfl scSubM.nd (pi_tup (pe_fld (pv 0) rfl)) (blkOk_by (own := [("name", 2)]) (N := nmSON) (sc := defScope sSubM) (by decide +kernel)) (fun _ _ _ _ _ => pg_name (i := 2) scSubM.nd rfl (Or.inl rfl))
          (fun _ _ _ _ _ => pts_one (pt_cmpR (op_ninX mH FH (hr.mono (by decide))) (pv 2) (pv 1) (by rfl))) (fun _ _ _ _ _ => pv 2)) pa_nil)) pa_nil)))), _, rfl, v, rfl, hv, qE⟩
end
end K1
/-! l.count(True), l a list of truths -/
namespace CnB
open PySem PySem.Spec
open PyProof.Rows L2
def tru : Value → Bool
  | .bool b => b
  | _ => false
theorem tru_vals : ∀ {bs : List Bool} {its : List Value}, Vals (bs.map V.bl) its → its.countP tru = bs.count true ∧ ∀ u ∈ its, ∃ b, u = .bool b
  | [], _, h => by
    cases h
    exact ⟨rfl, fun u z => by cases z⟩
  | b :: r, _, h => by
    cases h with
    | cons h1 h2 =>
      cases h1
      obtain ⟨e1, e2⟩ := tru_vals h2
      refine ⟨?_, fun u hu => ?_⟩
      · rw [List.countP_cons, e1, List.count_cons]
        cases b <;> rfl
      · rcases List.mem_cons.mp hu with e | e
        · exact ⟨b, e⟩
        · exact e2 u e
def rCntB (K : PySem.W.Frag) : V → List V → Hp → VK → Prop := fun x xs H Q => ∃ (p : Addr) (bs : List Bool), x = .ref p ∧ xs = [.bl true] ∧ SqL K H p (bs.map V.bl) ∧ Q (.int (bs.count true : Nat)) H
section
variable {X : Cx}
theorem mt_lcountB : MtR X "list.count" (rCntB X.K) := by
  intro pins s σ H x xs v us Q Iv rx rxs h
  obtain ⟨p, bs, rfl, rfl, hs, q⟩ := h
  cases rx
  obtain ⟨u, rfl,
      ru⟩ := rxs.one
  cases ru
  obtain ⟨its, rv, ⟨⟨cls, dd, data, sl⟩, n, ho, hc, hdn, hd⟩, hlen⟩ := Iv.list hs
  simp only at hc hd
  subst hc hd
  obtain ⟨ec, eb⟩ := tru_vals rv
  refine call_meets PySem.F.slot_list_count ⟨_, ho,
      rfl⟩ PySem.F.entry_list_count (PySem.F.args_list_count_2 _ _)
    (SeqAt.list_countAt p its.toArray n dd sl (.bool true) tru) ⟨ho, fun y hy => ?_, ?_⟩
  · obtain ⟨b, rfl⟩ := eb y (by simpa using hy)
    have z := eqAt_V (A := X.A.in1) (s := s) (y := .bl b) (x := .bl true) rfl rfl rfl rfl
    have e : eqV (.bl b) (.bl true) = b := by cases b <;> rfl
    rw [e] at z
    exact z
  · have e2 : its.toArray.toList.countP tru = bs.count true := ec
    refine ⟨.int (bs.count true : Nat), H, Iv.tok _, ⟨s.toks, ?_⟩, q⟩
    show Value.int ((its.toArray.toList.countP tru : Nat) : Int) _ = Value.int ((bs.count true : Nat) : Int) _
    rw [e2]
end
end CnB
/-! != of two lists whose items are equal one by one, by the items' own == -/
namespace NeL
open PySem PySem.SeqAt
open AutoSeq1
    (wpAny_loadPart')
open MeetsSeq MeetsSeq2
open MeetsSeq3 SeqRoads2
section
variable {w : World} {prog : Program}
variable {R : Result → Shared → Prop} {A : Around}
theorem loop3 (l b : Addr) (N : Nat) (J : Nat → Shared → Prop) (hl : GQ.ListI prog w A (fun e s' => R (.error e) s') l b N J)
    (fin : ∀ s, J N s → R (.ok (.ret (.bool false))) s) (m : Nat) :
    ∀ i : Nat, N - i = m → i ≤ N → ∀ s, J i s →
      wpAny (model prog w) A.in1 (Builtin.«list.__eq__.loop» ⟨[.ref l, .ref b, rawInt i, rawInt 3], []⟩) (GQ.FinOf prog w A R) (fun e s' => R (.error e) s') s := by
  induction m with
  | zero =>
    intro i hm hi s hj
    obtain ⟨xs, ys, n, n2, atL, atB, szX, szY, _⟩ := hl _ _ hj
    have ei : i = N := by omega
    have done : R (.ok (.ret (.bool false))) s := fin s (ei ▸ hj)
    obtain ⟨hp, g,
        d, tk, os⟩ := s
    wp_walk using wpAny_loadPart' atL, wpAny_loadPart' atB
    have no1 : xs[((i : Nat) : Int).toNat]? = none := by simp; omega
    have no2 : ys[((i : Nat) : Int).toNat]? = none := by simp; omega
    rw [no1, no2]
    wp_walk using wpAny_loadPart' atL, wpAny_loadPart' atB
    show R (.ok (.ret (.bool (xs.size != ys.size)))) _
    rw [szX, szY]
    simpa using done
  | succ m ih =>
    intro i hm hi s hj
    obtain ⟨xs, ys, n, n2, atL, atB, szX, szY, turn⟩ := hl _ _ hj
    have l1 : i < xs.size := by omega
    have l2 : i < ys.size := by omega
    have tt := turn l1 l2
    obtain ⟨hp, g,
        d, tk, os⟩ := s
    wp_walk using wpAny_loadPart' atL, wpAny_loadPart' atB
    have is1 : xs[((i : Nat) : Int).toNat]? = some xs[i] := by simp [l1]
    have is2 : ys[((i : Nat) : Int).toNat]? = some ys[i] := by simp [l2]
    have next : ((i : Int) + 1) = ((i + 1 : Nat) : Int) := by omega
    rw [is1, is2]
    refine wpAny_bind (wpAny_mono tt (fun r s2 h2 => ?_) fun _ _ x => x)
    obtain ⟨er, h2⟩ := h2
    subst er
    have go := ih (i + 1) (by omega) (by omega) s2 h2
    obtain ⟨hp2, g2,
        d2, tk2, os2⟩ := s2
    wp_walk
    rw [next]
    exact ⟨plainId_quiet plain_eq_loop
        _, codeAny_builtin entry_eq_loop (by
      rw [Around.under_plainId plain_eq_loop _]; exact go)⟩
theorem list_neG (l b : Addr) (N : Nat) (J : Nat → Shared → Prop) (hl : GQ.ListI prog w A (fun e s' => R (.error e) s') l b N J)
    (fin : ∀ s, J N s → R (.ok (.ret (.bool false))) s) {s : Shared} (hj : J 0 s) :
    wpAny (model prog w) A.in1 (Builtin.«list.__ne__» ⟨[.ref l, .ref b], []⟩) (GQ.FinOf prog w A R) (fun e s' => R (.error e) s') s := by
  obtain ⟨xs, ys, n, n2, atL, atB, szX, szY, _⟩ := hl _ _ hj
  have go := loop3 (A := A) (R := R) l b N J hl fin _ 0 rfl (Nat.zero_le _) s hj
  obtain ⟨hp, g,
      d, tk, os⟩ := s
  have sub := AutoSeq1.sub_list_list
  have same : ¬ (xs.size != ys.size) = true := by simp [szX, szY]
  wp_walk using wpAny_loadPart' atL, wpAny_loadPart' atB
  exact ⟨plainId_quiet plain_eq_loop
      _, codeAny_builtin entry_eq_loop (by
    rw [Around.under_plainId plain_eq_loop _]; exact go)⟩
end
section
variable {w : World} {prog : Program}
variable {E : Value → Shared → Prop} {A : Around} {s : Shared}
theorem rc_neG {l b : Addr} {N : Nat} {Q : Value → Shared → Prop} (hu : A.units < cLine) (J : Nat → Shared → Prop) (hl : GQ.ListI prog w A E l b N J)
    (fin : ∀ s, J N s → Q (.bool false) s) (hj : J 0 s) : wpAny (model prog w) A (richCompare .NotEq (.ref l) (.ref b)) Q E s := by
  obtain ⟨xs, ys, n, n2, atL, atB, _, _, _⟩ := hl _ _ hj
  refine wpAny_richCompare_same_room (op := .NotEq) ⟨_, atL, rfl⟩ ⟨_, atB, rfl⟩ F.slot_list_ne (GQ.call_here F.slot_list_ne ⟨_, atL, rfl⟩ F.entry_list_ne (F.args_list_ne_2 _ _) ?_) hu
  exact list_neG (R := wants (fun v s' => v ≠ .notImplemented ∧ Q v s') E) l b N J hl (fun s' q => ⟨(fun x => nomatch x), fin s' q⟩) hj
end
open PySem.Spec PyProof.Rows L2
section
variable {X : Cx} {n : Nat} {D : Eqv}
/-- x != y as an expression: the lists' items are equal -/
theorem op_neG (hD : Mon D) (h : EqG X n D) (hr : Room (n + 1) X.A) : OpR X (compareOp .NotEq) (fun x y H Q => DList D x y H ∧ ∀ H', L2.Ext H H' → Q (.bl false) H') := by
  intro pins s σ H x y v u Q Iv rx ry hq
  obtain ⟨⟨a, b, xs, ys, rfl, rfl, ha, hb, p⟩, q⟩ := hq
  cases rx
  cases ry
  have sb : Sub X (n + 1) X.A := ⟨hr, rfl⟩
  show wpAny (model X.prog X.w) X.A (richCompare .NotEq (.ref a) (.ref b)) (EP X pins σ Q) X.xe s
  refine rc_neG (N := xs.length) hr.units0 (fun _ s' => LoopI X pins σ H s') (fun i s' l => ?_) (fun s' l => ?_) ⟨H, Iv, L2.Ext.rfl'⟩
  · obtain ⟨H1, I1, e1⟩ := id l
    obtain ⟨z, its, k, r, e⟩
        := I1.hok a _ (e1 _ _ ha)
    obtain ⟨z2, its2, k2, r2,
        e2⟩ := I1.hok b _ (e1 _ _ hb)
    refine ⟨its.toArray, its2.toArray, k, k2, e, e2, by rw [List.size_toArray,
        ← r.length], by rw [List.size_toArray, ← r2.length, ← p.1], fun h1 h2 => ?_⟩
    exact turnG hD h sb p r r2 i h1 h2 s' l
  · obtain ⟨H1, I1, e1⟩ := l
    exact ⟨.bl false, H1, I1, rfl, q H1 e1⟩
end
end NeL

/-! isinstance of a caught error that has attributes -/
namespace XdI
open PySem PySem.Spec
    PySem.Calls
open PyProof.Rows PySem.W
section
variable {s : Shared} {prog : Program} {w : World}
variable {E : Value → Shared → Prop} {A : Around} {K : Frag} {x D : Addr} {ox od : Obj}
theorem cls_dict {Q : Option Value → Shared → Prop} (gA : findIn K (.ref D) "__getattribute__" = some (some (.builtin "BaseException.__getattribute__"))) (gT : findIn K (.ref D) "__getattr__" = some none) (sB : subIn K (.ref D) (.type "BaseException") = some true)
    (dC : hasDictIn K D = true) (cA : findIn K (.ref D) "__class__" = some (some (.builtin "object.__class__")))
    (sG : specialIn K (.builtin "object.__class__") "__get__" = some (some (.builtin "getset_descriptor.__get__"))) (tA : takesIn K (.builtin "object.__class__") = some true) (mO : mroIn K D (.type "object") = some true)
    (Kn : K.In s.heap) (Iv : InstAt s.heap x ox D (some od)) (h : Q (some (.ref D)) { s with toks := s.toks + 1 }) : wpAny (model prog w) A (getAttr? (.ref x) "__class__") Q E s := by
  have fO : findObj K D (some od) "__class__" = some (.bind (.builtin "getset_descriptor.__get__") (.builtin "object.__class__")) := findObj_data (by obtain ⟨cd, hc, _⟩ := any_some dC; rw [hc]; rfl) cA sG tA
  obtain ⟨hp, g, d, t, os⟩ := s
  have M0 := Iv.type (M := model prog w)
  have M1 := looks_findIn (M := model prog w) Kn gA
  have M2 := looks_findIn (M := model prog w) Kn gT
  have M3 := looks_find (M := model prog w) Kn Iv fO
  have sub : Looks (model prog w) hp (isInstance (.ref x) (.type "BaseException")) true := M0.andThen (looks_subIn Kn sB)
  have no0 : (false && onTheHeap (Value.builtin "BaseException.__getattribute__")) = false := rfl
  have no2 : (Value.builtin "BaseException.__getattribute__" == Value.builtin "object.__getattribute__") = false := by decide +kernel
  have no1 : (onTheHeap (Value.ref D) && Value.builtin "BaseException.__getattribute__" == Value.builtin "object.__getattribute__") = false := by rw [no2]; rfl
  unfold getAttr? getAttrBy?
      getAttrBy
  refine wpAny_bind (wpAny_mkText (wpAny_bind (wpAny_attempt (wpAny_holding (wpAny_bind (M0.at (wpAny_bind (M1.at ?_))))))))
  show wpAny _ _ (if (onTheHeap (Value.ref D) && Value.builtin "BaseException.__getattribute__"
      == Value.builtin "object.__getattribute__") = true then _ else _) _ _ _
  rw [no1, if_neg Bool.false_ne_true]
  unfold getAttrByItsOwn
      hookBefore
  refine wpAny_bind ?_
  rw [if_pos (show onTheHeap
      (Value.ref D) = true from rfl)]
  refine M2.at ?_
  refine wpAny_bind (wpAny_attempt
      (wpAny_holding ?_))
  unfold callGetattribute
  rw [no0, if_neg Bool.false_ne_true]
  unfold boundAndCalled
  rw [PySem.F.excAttr_ValueError.ga.bind
      (.ref x)]
  refine wpAny_bind
      (wpAny_pure ?_)
  show wpAny _ _ (call (.builtin "BaseException.__getattribute__")
      [.ref x, .str "__class__" t]) _ _ _
  refine wpAny_call (codeAny_call_builtin PySem.F.excAttr_ValueError.ga.plain
      PySem.F.entry_bexc_ga ?_)
  refine @check_slot (model prog w) _ _ ⟨hp, g, d, t + 1, os⟩ "BaseException.__getattribute__" "BaseException" "__getattribute__"
      (.ref x) [.str "__class__" t] [] _ (by decide +kernel) (by decide +kernel) sub (PySem.F.args_bexc_ga (.ref x) (.str "__class__" t)) ?_
  unfold
    Builtin.«object.__getattribute__»
  refine wpAny_bind (wpAny_of_eq (a := ((Value.ref x : Value), [Value.str
      "__class__" t])) (by first | rfl | (simp only [slotArgs]; rfl)) ?_)
  refine wpAny_bind (wpAny_pure (wpAny_bind (M0.at (wpAny_bind (M3.at ?_)))))
  show wpAny _ _ (holding [Value.builtin "object.__class__"] (call (.builtin
      "getset_descriptor.__get__") [.builtin "object.__class__", .ref x, .ref D]) >>= ret) _ _ _
  refine wpAny_bind (wpAny_holding (wpAny_call (class_get (s := ⟨hp, g, d, t + 1, os⟩) (ox := ox) (od := some od) Kn Iv mO ?_)))
  refine wpAny_pure ?_
  show wpAny _ _ (handedOut
      (.ref D)) _ _ _
  rw [handedOut_of
      (v := .ref D) rfl]
  first
    | exact wpAny_pure
        (wpAny_pure h)
    | exact wpAny_pure h
    | exact wpAny_pure (wpAny_bind
        (wpAny_pure (wpAny_pure h)))
theorem kitx_dict (gA : findIn K (.ref D) "__getattribute__" = some (some (.builtin "BaseException.__getattribute__"))) (gT : findIn K (.ref D) "__getattr__" = some none) (sB : subIn K (.ref D) (.type "BaseException") = some true) (dC : hasDictIn K D = true) (cA : findIn K (.ref D) "__class__" = some (some (.builtin "object.__class__")))
    (sG : specialIn K (.builtin "object.__class__") "__get__" = some (some (.builtin "getset_descriptor.__get__"))) (tA : takesIn K (.builtin "object.__class__") = some true) (mO : mroIn K D (.type "object") = some true) :
    KitX K (.ref x) (.ref D) (fun h
        => InstAt h x ox D (some od)) where
  ty := fun _ _ _ Iv => Iv.type
  it := fun _ _ Kn _ => by
    obtain ⟨rD, eD, _⟩ := any_some dC
    unfold clsIn at eD
    split at eD
    · rename_i c' d' cd' sl' ho
      intro A' Q' E' s' k q
      unfold isType loadHead
      exact wpAny_bind (wpAny_loadPart (k _ _ (Kn _ _ ho)) (wpAny_pure q))
    · cases eD
  ne := fun h tp dd its n sl Kn htp => by
    obtain ⟨rD, eD, _⟩ := any_some dC
    refine Bool.eq_false_iff.mpr
        fun q => ?_
    have e : D = tp := Value.ref.inj
        (beq_iff_eq.mp q)
    subst e
    unfold clsIn at eD
    split at eD
    · rename_i c' d' cd' sl' ho
      have z := (Kn _ _ ho).symm.trans htp
      cases z
    · cases eD
  ca := fun Kn Iv k => cls_dict gA gT sB dC cA sG tA mO Kn Iv k
end
end XdI
namespace XdI
open PySem PySem.Spec
open PyProof.Rows L2
/-- isinstance(e, c), e the exception that the suite holds, its attributes at dd -/
def rIsD (K : PySem.W.Frag) (D a : Addr) (d : Option Addr) : List V → Hp → VK → Prop := fun xs H Q => ∃ (c : V) (cv : Value) (b : Bool) (dd : Addr) (fs : List (Str × V)), xs = [.ref a, c] ∧ d = some dd ∧ H dd = some (.xd fs) ∧ (∀ u, RelV c u → u = cv) ∧ PySem.W.kitOne K (.ref D) cv = some b ∧ Q (.bl b) H
theorem call_isD {X : Cx} {a D : Addr} {d : Option Addr} {oe : Obj} {pn : List (Addr × Obj)} {cls : Value} (ec : cls = .ref D) (C : ExcC X.K D) (hz : Zc cls d oe) (hf : ∃ vs, oe.data = .fields vs) : CallR (X.suite a ((a, oe) :: pn)) (.builtin "isinstance") (rIsD X.K D a d) := by
  intro pins s σ H xs us Q Iv r h
  obtain ⟨c, cv, b, dd, fs, rfl, ed, hd, hcv, e, q⟩ := h
  subst ed
  subst ec
  cases r with
  | cons rx rr =>
    cases rr with
    | cons rt rr =>
      cases rr
      cases rx
      have ec := hcv _ rt
      subst ec
      obtain ⟨gotA, _⟩ := Iv.pin (a, oe) (List.mem_append.mpr (.inl List.mem_cons_self))
      obtain ⟨vs, vA⟩ := hf
      have okX : ObjOk X.prog X.w H s.heap dd (.xd fs) := Iv.hok dd _ hd
      obtain ⟨mA, hns, hr⟩ := okX
      obtain ⟨od, ho, hl⟩
          := lookIn_ns hns
      have Jv : PySem.W.InstAt s.heap a oe D (some od) := ⟨gotA, hz.1, by unfold PySem.W.notCls; rw [vA] <;> rfl, by rw [hz.2]; exact ho⟩
      exact PySem.W.kia_one (kitx_dict C.hg C.hk C.hs C.hd C.ha C.hn C.ht C.hm) Iv.kIn Jv e (fun z => nomatch z) fun tk => ⟨.bl b, H, Iv.kept (t' := tk) fun _ _ z => z, rfl, q⟩
end XdI

/-! try .. except (X1, X2, X3) as n, where the clause takes what is raised -/
namespace Tr3
open PySem PySem.Spec
open PyProof.Rows L2
theorem fly_keeps {B h h' : Heap} {l : List Env} {e : Addr} {Z : Obj → Prop} (x : HandSPX.FlyingZ B l e Z h) (k : ∀ b o, h.get? b = some o → h'.get? b = some o) : HandSPX.FlyingZ B l e Z h' := by
  obtain ⟨f1, f2, f3, oe, vs, T, oT, ts, h1, h2, hpA, hpB, h5, h6, h7, h8, h9⟩ := x
  exact ⟨fun b o q => k b o (f1 b o q), f2, f3.of_keeps fun b o q _ => ⟨o, k b o q, rfl⟩, oe, vs, T, oT, ts, k _ _ h1, h2, hpA, hpB, h5, h6, k _ _ h7, h8, h9⟩
/-- what the clause wishes of an exception of the body: slot i is n's -/
def wAs3 (K : PySem.W.Frag) (cs : List Value) (i : Nat) (ts : Addr → Value → Option Addr → TS) (D : Ends) : WX := fun cls d σ H =>
  PySem.W.exmAny K cls cs = some true ∧ ∀ a, H a = none → ts a cls d { nx := fun σ' H' => D.nx (σ'.set i none) H', rt := D.rt, bk := fun σ' H' => D.bk (σ'.set i none) H', ct := fun σ' H' => D.ct (σ'.set i none) H' } (σ.set i (some (.ref a))) H
section
variable {X : Cx} {n : Str} {x1 x2 x3 : Str} {c1 c2 c3 : Value} {i kk : Nat} {body suite : List Stmt}
variable {b₀ : Stmt} {pos pos' p1 p2 p3 tpos : Pos} {tb : WX → TS} {ts : Addr → Value → Option Addr → TS}
theorem ps_try_as3 (hs : X.stack = X.env :: X.outer) (hf : X.env.frame = some X.env.locals) (hN : X.N.Nodup) (hi : X.N[i]? = some n) (hln : X.env.kindOf n = some .local) (hc1 : Names X x1 c1) (hc2 : Names X x2 c2) (hc3 : Names X x3 c3)
    (hb : ∀ (W : WX) (pn : List (Addr × Obj)) (xe : Value → Shared → Prop), Takes
        (X.tr pn xe) W → PassesOwn (model X.prog X.w) X.A X.env xe → PSs (X.tr pn xe) body (tb W))
    (hsu : ∀ (a : Addr) (oe : Obj) (cls : Value) (d : Option Addr) (pn : List (Addr × Obj)),
        Zc cls d oe → (∃ vs, oe.data = .fields vs) → PSs (X.suite a ((a, oe) :: pn)) (b₀ :: suite) (ts a cls d)) :
    PS X (.Try body [.ExceptHandler (some (.Tuple [.Name x1 p1, .Name x2 p2, .Name x3 p3] kk tpos)) (some n) (b₀ :: suite) pos'] [] [] pos) (fun D σ H => tb (wAs3 X.K [c1, c2, c3] i ts D) D σ H) := by
  refine ⟨fun pins s σ H D Iv h => ?_⟩
  have okA := Iv.ok
  have frA : X.A.frames = some (X.env :: X.outer) := by rw [okA.frames, hs]
  have hloc : Loc X.env.scope
      n := .inl hln
  refine wpAny_Try_except ?_
  refine wpAny_mono ((hb (wAs3 X.K [c1, c2, c3] i ts D) (X.pn ++ pins) (fun e s₁ => wpAny (model X.prog X.w) X.A (noteFrame e X.env) (fun _ s₂ => wpAny (model X.prog X.w) X.A (setFlight e none) (fun _ s₃ =>
    wpAny (model X.prog X.w) X.A (handleBy e X.env [.ExceptHandler (some (.Tuple [.Name x1 p1, .Name x2 p2, .Name x3 p3] kk tpos)) (some n) (b₀ :: suite) pos']) (SP X pins D) X.xe s₃) X.xe s₂) X.xe s₁) (fun u s' xA => ?_) PassesOwn.looking).run [] s σ H D (Iv.toTry _) h) (fun f s1 hsp => ?_) (fun e s1 he => he)
  · -- the catch
    obtain ⟨a, B, sI, pins', σ', H', cls, d, rfl, J', nbA, up, skA, na, os, ag, hb1, hyes⟩ := xA
    have Jv : Inv X pins σ' H' sI := J'.ofTry okA
    have sky' : Sky B (X.env :: X.outer) a (Zc cls d) X.env.locals s'.heap := by rw [← hs]; exact skA
    show wpAny (model X.prog X.w)
        X.A (noteFrame (.ref a) X.env) _ _ _
    refine Sky.land Zc.steady frA hf sky' fun hpA flA upA => ?_
    have Jv3 : Inv X pins σ' H' { s' with heap := hpA } := Jv.landed nbA flA.1 (up.trans upA) os ag
    obtain ⟨oA, vA, eA, zA, dA⟩ := flA.there
    have notFr : ∀ {h : Heap} {o : Obj} {vs : Array Value}, h.FunFrames B (X.env :: X.outer)
        → h.get? a = some o → o.data = .fields vs → a ∉ frs (X.env :: X.outer) := fun {h o vs} ff e dd hm => by
      obtain ⟨_, o', e',
          hnf⟩ := ff.mem hm
      rw [e] at e'; cases e'
      exact hnf _ dd
    have notR := notFr flA.2.2.1 eA dA
    have notL : a ≠ X.env.locals := fun z => notR (List.mem_filterMap.mpr ⟨X.env, List.mem_cons_self, by rw [hf, z]⟩)
    have notF : a ∉ X.fs := fun hm => by
      obtain ⟨e, he, q⟩ :=
          List.mem_filterMap.mp hm
      exact notR (List.mem_filterMap.mpr ⟨e, List.mem_cons_of_mem _ he, q⟩)
    have SvA := Jv3.suite eA dA na notL notF
    refine wpAny_handleBy_cons (codeAny_handlers_test
        ?_) (by intro q; cases q)
    have LT : PySem.W.Looks (model X.prog X.w) hpA (typeOf (.ref a)) cls := fun A Q E s k q => wpAny_typeOf_ref (k _ _ eA) (by rw [zA.1]; exact q)
    have test : ∀ {x : Str} {c : Value} {np : Pos} {s1 : Shared} (hc : Names X x c) (I1 : Inv (X.suite a ((a, oA) :: (X.pn ++ pins))) [] σ' H' s1) {Q : Value → Shared → Prop} {E : Value → Shared → Prop}, Q c s1 → wpAny (model X.prog X.w) (X.A.mark (some (.ref a))) (eval (.Name x np) X.env) Q E s1 := by
      intro x c np s1 hc I1 Q E q
      obtain ⟨hg, hdbg, hm
          | ⟨hm, hv, hnn⟩⟩ := hc
      · exact ld_glob (X := X.suite a ((a, oA) :: (X.pn ++ pins))) I1 hg hm q hdbg
      · exact ld_blt (X := X.suite a ((a, oA) :: (X.pn ++ pins))) I1 hg hm hv q hnn hdbg
    refine wpAny_Tuple ?_
    refine wpAny_items_cons (test hc1 SvA ?_)
    refine wpAny_items_cons (test hc2 SvA ?_)
    refine wpAny_items_cons (test hc3 SvA ?_)
    refine wpAny_items_nil ⟨(by show 3 ≤ sizeLine; decide), ?_⟩
    have kp : ∀ q o, hpA.get? q = some o → (hpA.push { cls := .type "tuple", data := .seq [c1, c2, c3].toArray }).get? q = some o := fun _ _ z => Heap.get?_push_of_some _ z
    refine (PySem.W.exm_tup3 (Jv3.kIn.keeps kp) (LT.keeps kp) (Heap.get?_push_size hpA rfl) hb1).here ?_
    have flA := fly_keeps flA kp
    have upA := upA.trans (Heap.UpToSlots.of_keeps kp)
    refine codeAny_handlers_suite_as
        ?_
    refine HandSPX.lands_againZ flA fun hpB flB upB => ?_
    have Jv4 : Inv X pins σ' H' { s' with heap := hpB } := Jv.landed nbA flB.1 ((up.trans upA).trans upB) os ag
    obtain ⟨oB, vB, eB, zB, dB⟩ := flB.there
    have SvB := Jv4.suite eB dB na notL notF
    refine store_ok (X := X.suite a ((a, oB) :: (X.pn ++ pins))) (v := .ref a) SvB hN hi hloc rfl (fun s5 SvC => ?_) (.inr hln)
    refine wpAny_mono ((hsu a oB cls d (X.pn ++ pins) zB ⟨_, dB⟩).run [] s5 _ H' _ SvC (hyes a na)) (fun f s6 hsp => ?_) (fun _ _ z => False.elim z)
    have end_ : ∀ {σ6 : L2.St} {H6 : Hp} {Q : Shared → Prop}, Inv (X.suite a ((a, oB) :: (X.pn ++ pins))) [] σ6 H6 s6 → (∀ s7, Inv X pins (σ6.set i none) H6 s7 → Q s7) →
        wpAny (model X.prog X.w) X.A (do bindName X.env n .none; unbindBehindTheSuite X.env n pos') (fun _ s7 => Q s7) X.xe s6 := fun {σ6 H6 Q} SvD hq => gone_ok (SvD.unsuite okA) hN hi hln hq
    cases f with
    | next =>
      obtain ⟨σ6, H6, SvD, q6⟩ := hsp
      exact end_ SvD fun s7 J7 => ⟨_, _, J7, q6⟩
    | brk =>
      obtain ⟨σ6, H6, SvD, q6⟩ := hsp
      exact end_ SvD fun s7 J7 => ⟨_, _, J7, q6⟩
    | cont =>
      obtain ⟨σ6, H6, SvD, q6⟩ := hsp
      exact end_ SvD fun s7 J7 => ⟨_, _, J7, q6⟩
    | ret u =>
      obtain ⟨v6, σ6, H6, SvD, r6, q6⟩ := hsp
      exact end_ SvD fun s7 J7 => ⟨_, _, _, J7, r6, q6⟩
  · cases f with
    | next =>
      obtain ⟨σ', H', J', q⟩ := hsp
      exact wpAny_execs_nil ⟨σ', H', J'.ofTry okA, q⟩
    | brk =>
      obtain ⟨σ', H', J', q⟩ := hsp
      exact ⟨σ', H', J'.ofTry okA, q⟩
    | cont =>
      obtain ⟨σ', H', J', q⟩ := hsp
      exact ⟨σ', H', J'.ofTry okA, q⟩
    | ret u =>
      obtain ⟨v, σ', H',
          J', r, q⟩ := hsp
      exact ⟨v, σ', H', J'.ofTry okA, r, q⟩
end
end Tr3
/-! two own classes at an operator; -o, abs(o), bool(o) by own methods; the truth of o in a test -/
namespace DuX
open PySem PySem.Spec
open PyProof.Rows L2
/-- the class at D has the operator too, and is not below C -/
structure OthC (K : PySem.W.Frag) (C D : Addr) (nm : String) : Prop where
  ne : C ≠ D
  sf : PySem.W.selfFirst K D = true
  f : ∃ f, PySem.W.findIn K (.ref D) (PySem.dunder nm) = some (some (.ref f))
  r : PySem.W.findIn K (.ref D) (dunderR nm) = some none
  hs : PySem.W.subIn K (.ref D) (.ref C) = some false
section
variable {M : Model} {prog : Program} {w : World} {A : Around} {E : Value → Shared → Prop} {s : Shared} {K : PySem.W.Frag} {x C D f : Addr} {ox : Obj} {od : Option Obj}
open PySem.W in
theorem bin_two {op : Operator} {b : Value} {Q : Value → Shared → Prop} (X : K.In s.heap) (J : InstAt s.heap x ox C od) (hb : ∀ M : Model, Looks M s.heap (typeOf b) (.ref D)) (hc : selfFirst K C = true) (hs : findIn K (.ref C) (PySem.dunder op.info.2) = some (some (.ref f))) (hf : isFn K (.ref f) = true)
    (hr : findIn K (.ref C) (dunderR op.info.2) = some none) (O : OthC K C D op.info.2)
    (h : wpAny (model prog w) A (call (.ref f) [.ref x, b]) (PySem.W.CmpBack Q) E s) : wpAny (model prog w) A (binaryOp op (.ref x) b) Q E s := by
  obtain ⟨cd, more, hcd, hm⟩ := ksp_first hc
  obtain ⟨ne, sf, ⟨g, h1⟩, h2, hsub⟩ := O
  obtain ⟨cd2, more2, hcd2, hm2⟩ := ksp_first sf
  have one := ksp_try X J hs hf h
  rcases hi : op.info with ⟨sym, nm⟩
  rw [hi] at hs hr h1 h2 one
  dsimp only at hs hr h1 h2 one
  obtain ⟨hp, g', d, tk, os⟩ := s
  have la := J.type (M := model prog w)
  have lb := hb (model prog w)
  have lc := fills_K (M := model prog w) X hcd hm hs
  have ld := fills_K (M := model prog w) X hcd2 hm2 h1
  have le := looks_subIn (M := model prog w) X hsub
  have lf := ksp_inPy (M := model prog w) X hs hr (.inl rfl)
  have lg := ksp_inPy (M := model prog w) X h1 h2 (.inl rfl)
  have ne : (Value.ref C == Value.ref D) = false := Bool.eq_false_iff.mpr fun q => ne (Value.ref.inj (beq_iff_eq.mp q))
  simp only [binaryOp, hi]
  refine wpAny_holding (wpAny_bind ?_)
  unfold binaryOp1
  refine wpAny_bind (la.at (wpAny_bind (lb.at (wpAny_bind (lc.at ?_)))))
  simp only [ne, if_false, Bool.false_eq_true]
  ksp_lk
  refine wpAny_mono one (fun r s1 hz => ?_) fun _ _ e => e
  obtain ⟨v, rfl, q⟩ := hz
  ksp_lk
  exact q
end
section
variable {X : Cx} {CX : CXT} {k : Nat} {g C D : Addr} {sp : Sp} {Ek : XK} {pins : List (Addr × Obj)} {σ : L2.St} {H : Hp} {s : Shared}
/-- the left one of the class at C, the right one of the class at D -/
def rBinD (K : PySem.W.Frag) (C D : Addr) (sp : Sp) (Ek : XK) : R2 := fun x y H Q => ∃ a dx fs, x = .ref a ∧ H a = some (.ins C dx fs) ∧ TyX K H y (.ref D) ∧ sp [.ref a, y] H Q Ek
theorem op_binD {op : Operator} (m : OwnM X.K C (PySem.dunder op.info.2) g) (hc : PySem.W.selfFirst X.K C = true) (hR : PySem.W.findIn X.K (.ref C) (dunderR op.info.2) = some none) (O : OthC X.K C D op.info.2) (F : FnR X.prog X.w X.K X.mg X.base CX k g sp) (hr : Room k X.A) (hx : Passes CX X Ek) :
    OpR X (binaryOp op) (rBinD X.K C D sp Ek) := by
  intro pins s σ H x y v u Q Iv rx ry h
  obtain ⟨a, dx, fs, rfl, ha, ty, q⟩ := h
  cases rx
  obtain ⟨ox, od, J⟩ := inst_of Iv ha
  obtain ⟨Pz, Z, pz, _⟩ := kit_of Iv ry ty
  refine bin_two Iv.kIn J (fun M => Z.ty M _ Iv.kIn pz) hc m.at_ m.fn hR O ?_
  refine wpAny_mono (run_below F hr rfl hx Iv (vs := [V.ref a, y]) (.cons rfl (.cons ry .nil)) q) (fun z s1 hz => ?_) fun _ _ e => e
  obtain ⟨z', H1, I1, rz, qz⟩ := hz
  exact SlX.cmpback rz ⟨z', H1, I1, rz, qz⟩
/-- -o -/
def rNegO (C : Addr) (sp : Sp) (Ek : XK) : V → Hp → VK → Prop := fun x H Q => ∃ a dx fs, x = .ref a ∧ H a = some (.ins C dx fs) ∧ sp [.ref a] H Q Ek
theorem un_negO (m : OwnM X.K C "__neg__" g) (F : FnR X.prog X.w X.K X.mg X.base CX k g sp) (hr : Room k X.A) (hx : Passes CX X Ek) : UnR X (unaryOp .USub) (rNegO C sp Ek) := by
  intro pins s σ H x v Q Iv rx h
  obtain ⟨a, dx, fs, rfl, ha, q⟩ := h
  cases rx
  obtain ⟨ox, od, J⟩ := inst_of Iv ha
  obtain ⟨mm, hF⟩ := Iv.fr
  exact PySem.W.ksp_neg hF Iv.ok.mod.kin J m.at_ m.fn (run_below F hr rfl hx Iv (vs := [V.ref a]) (.cons rfl .nil) q)
/-- abs(o) -/
theorem call_absO (m : OwnM X.K C "__abs__" g) (F : FnR X.prog X.w X.K X.mg X.base CX k g sp) (hr : Room (k + 1) X.A) (hx : Passes CX X Ek) :
    CallR X (.builtin "abs") (fun xs H Q => ∃ a dx fs, xs = [.ref a] ∧ H a = some (.ins C dx fs) ∧ sp [.ref a] H Q Ek) := by
  intro pins s σ H xs us Q Iv r h
  obtain ⟨a, dx, fs, rfl, ha, q⟩ := h
  rw [Vals.ref1 r]
  obtain ⟨ox, od, J⟩ := inst_of Iv ha
  refine Calls.call_function_entry kind_abs plain_abs entry_abs (args_abs _) ?_
  unfold Builtin.«abs»
  refine wpAny_bind (m := oneArg "abs" _) (wpAny_pure ?_)
  refine wpAny_bind (m := callSpecial? (.ref a) (Str.ofString "__abs__")) (PySem.W.special_fn Iv.kIn J m.at_ (beq_iff_eq.mp m.fn) (wpAny_mono (run_below F hr.in1 rfl hx Iv (vs := [V.ref a]) (.cons rfl .nil) q) (fun z s1 hz => ?_) fun _ _ e => e))
  exact wpAny_pure ⟨_, rfl, hz⟩
/-- the truth of o, by its __bool__ -/
theorem truthy_boolO {A : Around} {a dx : Addr} {fs : List (Str × V)} {Q : Bool → Hp → Prop} (m : OwnM X.K C "__bool__" g) (F : FnR X.prog X.w X.K X.mg X.base CX k g sp) (hr : Room k A) (hf : A.frames = X.A.frames) (hx : Passes CX X Ek) (Iv : Inv X pins σ H s) (ha : H a = some (.ins C dx fs))
    (q : sp [.ref a] H (fun v H' => ∃ b, v = .bl b ∧ Q b H') Ek) :
    wpAny (model X.prog X.w) A (truthy (.ref a)) (fun b s1 => ∃ H', Inv X pins σ H' s1 ∧ Q b H') X.xe s := by
  obtain ⟨ox, od, J⟩ := inst_of Iv ha
  obtain ⟨mm, hF⟩ := Iv.fr
  refine PySem.W.truthy_K hF Iv.ok.mod.kin J m.at_ m.fn (wpAny_mono (run_below F hr hf hx Iv (vs := [V.ref a]) (.cons rfl .nil) q) (fun z s1 hz => ?_) fun _ _ e => e)
  obtain ⟨v, H1, I1, rv, b, rfl, q1⟩ := hz
  cases rv
  exact ⟨H1, I1, q1⟩
/-- bool(o), by its __bool__ -/
theorem call_boolB (m : OwnM X.K C "__bool__" g) (F : FnR X.prog X.w X.K X.mg X.base CX k g sp) (hr : Room (k + 2) X.A) (hx : Passes CX X Ek) :
    CallR X (.type "bool") (fun xs H Q => ∃ a dx fs, xs = [.ref a] ∧ H a = some (.ins C dx fs) ∧ sp [.ref a] H (fun v H' => ∃ b, v = .bl b ∧ Q (.bl b) H') Ek) := by
  intro pins s σ H xs us Q Iv r h
  obtain ⟨a, dx, fs, rfl, ha, q⟩ := h
  rw [Vals.ref1 r]
  have f1 := PySem.F.conv_sub_bool
  refine callType_codes (T := "bool") (Bi := Builtin.«object.__init__») (Q₁ := fun r s₁ => ∃ b, r = .bool b ∧ ∃ H', Inv X pins σ H' s₁ ∧ Q (.bl b) H') PySem.F.called_bool (PySem.F.typeCall_bool_1 _) PySem.F.entry_object_init ?_ ?_
  · refine codeAny_of_tree ?_
    show wpAny _ X.A.in1.in1 (do checkBuiltinCall "bool.__new__" ⟨[.type "bool", .ref a], []⟩; again (.builtin "bool.__new__" ⟨[.type "bool", .ref a], []⟩)) _ _ s
    refine wpAny_bind (wpAny_of_eq (PySem.F.newCall_bool_1 _) (wpAny_pure ⟨plainId_quiet (by decide +kernel) _, codeAny_builtin PySem.F.entry_bool_new ?_⟩))
    rw [Around.under_plainId
        (by decide +kernel) _]
    unfold Builtin.«bool.__new__»
    refine wpAny_bind (m := isType (.type "bool")) (wpAny_pure ?_)
    simp only [Bool.not_true,
        Bool.false_eq_true, if_false]
    refine wpAny_bind (wpAny_of_eq f1 ?_)
    simp only [Bool.not_true,
        Bool.false_eq_true, if_false]
    refine wpAny_bind (m := someArgs "bool" 0 1 _) (wpAny_pure ?_)
    refine wpAny_bind (wpAny_mono (truthy_boolO (Q := fun b H' => Q (.bl b) H') m F hr.in1.in1 rfl hx Iv ha q) (fun b s1 z => ?_) fun _ _ e => e)
    exact wpAny_pure ⟨b, rfl, z⟩
  · rintro obj s₁ ⟨b, rfl, H1, I1, q1⟩
    exact ⟨rfl, PySem.F.args_object_init_2 _ _, object_init_meets PySem.F.called_bool.init.lookup PySem.F.called_bool.made (by decide) X.prog X.w X.A.in1 _ s₁ ⟨rfl, rfl, .bl b, H1, I1, rfl, q1⟩⟩
/-- o in a test, by its __len__ -/
theorem pt_lenO {e : Expr} {ta : TE} (m : OwnM X.K C "__len__" g) (nb : PySem.W.findIn X.K (.ref C) "__bool__" = some none) (F : FnR X.prog X.w X.K X.mg X.base CX k g sp) (hr : Room (k + 1) X.A) (hx : Passes CX X Ek) (ha : PE X e ta)
    (he : ∀ whole, isTrue e X.env whole = (do let v ← whole; standAt e.pos; holding [v] (truthy v)) := by intro _; rfl) :
    PT X e (fun σ H Q => ta σ H fun x H' => ∃ a dx fs, x = .ref a ∧ H' a = some (.ins C dx fs) ∧ sp [.ref a] H' (fun v H2 => ∃ n : Nat, v = .int n ∧ n < 2 ^ 62 ∧ Q (n != 0) H2) Ek) := by
  refine ⟨fun pins s σ H Q Iv h => ?_⟩
  refine isTrue_plain (thn (ha.run pins s σ H _ Iv h) fun v s1 ⟨x, H1, I1, r1, q1⟩ => ?_) (he _)
  obtain ⟨a, dx, fs, rfl, h1, q⟩ := q1
  cases r1
  exact truthy_lenO m nb F hr rfl hx I1 h1 q
end
end DuX
/-! own methods that raise nothing, called in an except suite -/
namespace DuX
open PySem PySem.Spec
open PyProof.Rows L2 L2H
/-- what a def promises while an exception is handled, its object p aside -/
def FnQ (P : Program) (w : World) (K : PySem.W.Frag) (mg : Str → Option Value) (base : Heap) (k : Nat) (f : Addr) (sp : Sp) : Prop :=
  ∀ (A : Around) (outer : List Env) (s : Shared) (H : Hp) (us : List Value) (vs : List V) (Q : VK) (p : Addr × Obj), RoomH k A → PinOk outer H s p → Env0 P w K mg base A outer s H → Vals vs us → sp vs H Q E0 →
    codeAny (model P w) A (.call (.ref f) ⟨us, []⟩) (CR CX0 outer P w H s Q E0) s
section
variable {P : Program} {w : World} {K : PySem.W.Frag} {mg : Str → Option Value} {base : Heap}
theorem fnQ_of {k : Nat} {f : Addr} {name qual : Str} {st : Stmt} {fd : FuncData} {N ps : List Str} {sp : Sp} (F : Fun K name qual st f fd) (S : FnScope N ps (defScope st)) (hb : L2.Binds K fd ps [])
    (len : ∀ vs H Q E, sp vs H Q E → vs.length = ps.length)
    (body : ∀ (cdv : Value) (A : Around) (outer : List Env) (s : Shared) (H : Hp) (vs : List V) (Q : VK) (p : Addr × Obj), RoomH k (A.deeper (envOfC qual (defScope st) s.heap.objs.size f cdv)) → sp vs H Q E0 →
      ∃ t, PSs (cxH CX0 P w K mg base N qual (defScope st) f cdv A outer s H E0 p) (defBody st) t ∧ t { nx := fun _ H' => Q .non H', rt := Q } (L2.start N vs) H) : FnQ P w K mg base (k + 1) f sp := by
  intro A outer s H us vs Q p hr hpin e0 r hsp
  obtain ⟨oc, od, kV, doc, pm, an, cdv, ct, osl, rfl, lk, hcd⟩ := F.ex
  have hl := len _ _ _ _ hsp
  have hlu : us.length = ps.length := by rw [← r.length]; exact hl
  have KX : K.In s.heap := e0.mod.kin.keeps fun b o e => (e0.bs b o e).1
  have lim : s.heap.NoLimit := e0.mod.nolimit.keeps fun b o e => (e0.bs b o e).1
  have bb := hb s us KX (by rw [List.append_nil]; exact hlu)
  rw [List.append_nil] at bb
  have kinds : ∀ y ∈ ps.zip us, (defScope st).names.lookup y.1 = some .local ∨ ((defScope st).names.lookup y.1 = some .cell ∧ ((cellsFrom (s.heap.objs.size + 1) (defScope st).names []).lookup y.1).isSome = true) := fun ⟨n, v⟩ hy => by
    rcases S.par n (List.of_mem_zip hy).1 with q | q
    · exact .inl q
    · exact .inr ⟨q, PySem.W.cellsFrom_some _ _ _
          (.inl q)⟩
  refine codeAny_call_function hr.depth (KX _ _ lk) rfl S.co S.gen rfl
      (PySem.W.codeRec_of KX hcd) (bb _ _ _ _ ?_)
  refine wpAny_newFunctionEnv_cells S.kind kinds fun env he s1 x => ?_
  subst he
  refine ⟨lim.keeps
      x.toInCall.keep, codeAny_func ?_⟩
  obtain ⟨t, ht, hq⟩ := body cdv A outer s H vs Q p (hr.deeper _) hsp
  have I := inv_startH (CX := CX0) (E := E0) S hpin e0 hl r x
  refine wpAny_mono (ht.run [] s1 (L2.start N vs) H _ I hq) (fun fl s2 hs => ?_)
      fun e s2 hs => hs
  have fin : ∀ {σ' : L2.St} {H' : Hp} {v : V} {u : Value}, Inv (cxH CX0 P w K mg base N qual (defScope st) f cdv A outer s H E0 p) [] σ' H' s2 → RelV v u → Q v H' → CE outer P w H s Q u s2 :=
    fun {σ' H' v u} J rv q => ⟨v, H', J.os, J.bare, J.base,
        J.hok, rv, q⟩
  cases fl with
  | ret u =>
    obtain ⟨v, σ', H',
        J, rv, q⟩ := hs
    exact fin J rv q
  | next =>
    obtain ⟨σ', H',
        J, q⟩ := hs
    exact fin (v := V.non)
        (u := Value.none) J rfl q
  | brk =>
    obtain ⟨_, _, _,
        q⟩ := hs
    exact q.elim
  | cont =>
    obtain ⟨_, _, _,
        q⟩ := hs
    exact q.elim
end
section
variable {X : Cx} {k : Nat} {g C : Addr} {sp : Sp} {pins : List (Addr × Obj)} {σ : L2.St} {H : Hp} {s : Shared} {p : Addr × Obj}
theorem run_belowQ {A : Around} {us : List Value} {vs : List V} {Q : VK} (F : FnQ X.prog X.w X.K X.mg X.base k g sp) (hr : RoomH k A) (hf : A.frames = X.A.frames) (hp : p ∈ X.pn) (Iv : Inv X pins σ H s) (r : Vals vs us) (hyp : sp vs H Q E0) :
    wpAny (model X.prog X.w) A (call (.ref g) us) (EP X pins σ Q) X.xe s := by
  have e0 : Env0 X.prog X.w X.K X.mg X.base A X.stack s H := by
    obtain ⟨a1, a2, a3, a4, a5, a6, a7, a8⟩ := Iv.env0
    exact ⟨by rw [hf]; exact a1, a2, a3, a4, a5, a6, a7, a8⟩
  have P1 := Iv.pin p (List.mem_append_left _ hp)
  have pin : PinOk X.stack H s p := ⟨P1.1, P1.2.1, fun hm => (List.mem_cons.mp (Iv.stkSub p.1 hm)).elim P1.2.2.1 P1.2.2.2.1,
      P1.2.2.2.2⟩
  refine wpAny_call (codeAny_mono (F A X.stack s H us vs Q p hr pin e0 r hyp) fun res s1 hq => ?_)
  match res, hq with
  | .error e, hq => exact hq.elim
  | .ok (.ret u), hq => exact Iv.after hq
  | .ok .next, hq => exact False.elim hq
  | .ok .brk, hq => exact False.elim hq
  | .ok .cont, hq => exact False.elim hq
theorem roomH_in1 {k : Nat} {A : Around} (r : RoomH (k + 1) A) : RoomH k A.in1 :=
  ⟨by have := r.dp; show A.depth + 3 * k + 5 < _; omega, by have := r.un; show A.units + 1 + 16 * k + 200 < _; omega⟩
/-- len(o) there -/
theorem call_lenQ (m : OwnM X.K C "__len__" g) (F : FnQ X.prog X.w X.K X.mg X.base k g sp) (hr : RoomH (k + 1) X.A) (hp : p ∈ X.pn) :
    CallR X (.builtin "len") (fun xs H Q => ∃ a dx fs, xs = [.ref a] ∧ H a = some (.ins C dx fs) ∧ sp [.ref a] H (fun v H' => ∃ n : Nat, v = .int n ∧ n < 2 ^ 62 ∧ Q (.int n) H') E0) := by
  intro pins s σ H xs us Q Iv r hyp
  obtain ⟨a, dx, fs, rfl, atA, cont⟩ := hyp
  rw [Vals.ref1 r]
  obtain ⟨ox, od, J⟩ := inst_of Iv atA
  obtain ⟨mm, hF⟩ := Iv.fr
  refine PySem.W.len_K hF Iv.ok.mod.kin J m.at_ m.fn ?_
  refine wpAny_mono (run_belowQ F (roomH_in1 hr) rfl hp Iv (vs := [V.ref a]) (.cons rfl .nil) cont) (fun u s1 hu => ?_) fun _ _ e => e
  obtain ⟨v, H1, Iv1, rv, n, rfl, hn, q1⟩ := hu
  obtain ⟨t, rfl⟩ := rv
  exact ⟨⟨by omega, by omega⟩, .int n, H1, Iv1.tok _, ⟨_, rfl⟩, q1⟩
/-- repr(o) there -/
theorem call_reprQ (m : OwnM X.K C "__repr__" g) (F : FnQ X.prog X.w X.K X.mg X.base k g sp) (hr : RoomH (k + 1) X.A) (hp : p ∈ X.pn) :
    CallR X (.builtin "repr") (fun xs H Q => ∃ a dx fs, xs = [.ref a] ∧ H a = some (.ins C dx fs) ∧ sp [.ref a] H (fun v H' => ∃ z, v = .str z ∧ Q (.str z) H') E0) := by
  intro pins s σ H xs us Q Iv r hyp
  obtain ⟨a, dx, fs, rfl, atA, cont⟩ := hyp
  rw [Vals.ref1 r]
  obtain ⟨ox, od, J⟩ := inst_of Iv atA
  obtain ⟨mm, hF⟩ := Iv.fr
  refine PySem.W.repr_K (by have := hr.un; show X.A.units + 1 < cLine; omega) hF Iv.ok.mod.kin J m.at_ m.fn ?_
  refine wpAny_mono (run_belowQ F (roomH_in1 hr) rfl hp Iv (vs := [V.ref a]) (.cons rfl .nil) cont) (fun u s1 hu => ?_) fun _ _ e => e
  obtain ⟨v, H1, Iv1, rv, z, rfl, q1⟩ := hu
  obtain ⟨t, rfl⟩ := rv
  exact ⟨.str z, H1, Iv1, ⟨t, rfl⟩, q1⟩
end
end DuX
/-! repr of data, and of an empty dict -/
namespace RpD
open PySem PySem.Spec
open PyProof.Rows L2
def ShD (K : PySem.W.Frag) (H : Hp) (v : V) (d : PyData) : Prop := (Dp K H v d ∧ Shows d) ∨ ∃ a, v = .ref a ∧ H a = some (.dK []) ∧ d = .dict []
section
variable {X : Cx}
theorem call_reprE (hg : X.A.guards = some []) (hu : X.A.units + 100 < cLine) : CallR X (.builtin "repr") (fun xs H Q => ∃ x d, xs = [x] ∧ ShD X.K H x d ∧ Q (.str d.shown) H) := by
  intro pins s σ H xs us Q Iv r h
  obtain ⟨x, d, rfl, hd, q⟩ := h
  rcases hd with ⟨hd, S⟩ | ⟨a, rfl, hd, rfl⟩
  · exact call_reprD hg hu pins s σ H [x] us Q Iv r ⟨x, d, rfl, hd, S, q⟩
  · cases r with
    | cons r rr =>
      cases rr
      cases r
      obtain ⟨hl, hs, vs, kv, o, es, ep, ho, hx, e1, _, e2, _⟩ := Iv.hok a _ hd
      cases kv
      have e3 : es.toList = [] := by
        cases h : es.toList with
        | nil => rfl
        | cons x r =>
          rw [h] at e2
          cases e2
      have rd : Reads s.heap (.ref a) (.dict []) (a :: [] ++ []) := .dict ho hx.1 e1 (by rw [e3]; exact .nil) (by rw [e3]; exact .nil)
      have ns : sysModules ∉ (a :: [] ++ []) := fun m => by
        have e : sysModules = a := by simpa using m
        rw [← e] at hs
        simp at hs
      exact repr_of_reads' rd rfl (fun _ => ns) hg (by show X.A.units + (PyData.depth (.dict []) + 1) < cLine; have : PyData.depth (.dict []) ≤ 5 := (by decide); omega) (fun _ _ e => e) (fun h' t tk kp => ⟨.str _, H, Iv.kept kp, ⟨t, rfl⟩, q⟩) (by rw [sizeLine_eq]; decide +kernel)
theorem ShD.same {K : PySem.W.Frag} {H H' : Hp} {v : V} {d : PyData} (dp : Dp K H v d → Dp K H' v d) (s : Same H H') (h : ShD K H v d) : ShD K H' v d := by
  rcases h with ⟨a, b⟩ | ⟨a, e, h, e2⟩
  · exact .inl ⟨dp a, b⟩
  · exact .inr ⟨a, e, s _ _ h, e2⟩
end
end RpD

namespace K1
open PySem PySem.Spec
open PyProof.Rows L2 L2H EnT StX SmX TxS DuX XdI Tr3 CnB ClX
/-! ### from heap to heap, the pool and the tables aside -/
structure RX (p : Addr) (H H' : Hp) : Prop where
  pool : PoolAt H' p
  keep : ∀ b o, b ≠ p → H b = some o → (∀ ps, o ≠ .tbl ps) → H' b = some o
/-- a move: all but the pool and the tables stays, the tables are tables -/
structure Mv (p : Addr) (Tb : List (Addr × Str)) (H H' : Hp) : Prop where
  rx : RX p H H'
  tabs : LamX.Tabs Tb H'
theorem Mv.trans {p : Addr} {Tb : List (Addr × Str)} {H H1 H2 : Hp} (a : Mv p Tb H H1) (b : Mv p Tb H1 H2) : Mv p Tb H H2 := ⟨⟨b.rx.pool, fun c o n e t => b.rx.keep c o n (a.rx.keep c o n e t) t⟩, b.tabs⟩
theorem Mv.refl {p : Addr} {Tb : List (Addr × Str)} {H : Hp} (hp : PoolAt H p) (t : LamX.Tabs Tb H) : Mv p Tb H H := ⟨⟨hp, fun _ _ _ e _ => e⟩, t⟩
theorem PoolAt.same {p : Addr} {H H' : Hp} (s : Same H H') (h : PoolAt H p) : PoolAt H' p := by
  obtain ⟨a, b, c, e⟩ := h
  exact ⟨a, b, c, s _ _ e⟩
theorem Mv.same {p : Addr} {Tb : List (Addr × Str)} {H H' : Hp} (s : Same H H') (hp : PoolAt H p) (t : LamX.Tabs Tb H) : Mv p Tb H H' := ⟨⟨hp.same s, fun b o _ e _ => s b o e⟩, t.ext s⟩
theorem tabs_ext {p : Addr} {Tb : List (Addr × Str)} {H H' : Hp} (x : Ext p H H') (hp : PoolAt H p) (t : LamX.Tabs Tb H) : LamX.Tabs Tb H' := fun q hq => by
  obtain ⟨ps, h1, h2, h3⟩ := t q hq
  obtain ⟨a, b, c, e⟩ := hp
  refine ⟨ps, x.at (fun z => by rw [z, e] at h1; cases h1) h1, h2, fun pos cv hc => ?_⟩
  obtain ⟨d, e1, e2⟩ := h3 pos cv hc
  exact ⟨d, e1, x.at (fun z => by rw [z, e] at e2; unfold LamX.CodeO at e2; cases e2) e2⟩
theorem Mv.ext {p : Addr} {Tb : List (Addr × Str)} {H H' : Hp} (x : Ext p H H') (hp : PoolAt H p) (t : LamX.Tabs Tb H) : Mv p Tb H H' := ⟨⟨x.pool, fun b o n e _ => x.at n e⟩, tabs_ext x hp t⟩
theorem Mv.lam {p : Addr} {Tb : List (Addr × Str)} {H H' : Hp} (x : LamX.ExtN H H') (hp : PoolAt H p) (t : LamX.Tabs Tb H') : Mv p Tb H H' := by
  obtain ⟨a, b, c, e⟩ := hp
  exact ⟨⟨⟨a, b, c, x _ _ e (fun ps z => by cases z)⟩, fun d o _ h n => x d o h n⟩, t⟩
theorem Mv.at {p q : Addr} {Tb : List (Addr × Str)} {H H' : Hp} {o : HO} (m : Mv p Tb H H') (hp : PoolAt H p) (h : H q = some o) (n : ∀ x y z : Int, o ≠ .lst [.int x, .int y, .int z]) (nt : ∀ ps, o ≠ .tbl ps) : H' q = some o := by
  refine m.rx.keep q o (fun e => ?_) h nt
  obtain ⟨a, b, c, e2⟩ := hp
  rw [e, e2] at h
  exact n a b c (Option.some.inj h).symm
theorem strs_nopool {zs : List Str} : ∀ x y z : Int, (HO.lst (zs.map V.str)) ≠ .lst [.int x, .int y, .int z] := fun x y z e => by
  have q := HO.lst.inj e
  cases zs with
  | nil => cases q
  | cons a r => cases q
theorem Mv.strs {p q : Addr} {Tb : List (Addr × Str)} {H H' : Hp} {zs : List Str} (m : Mv p Tb H H') (hp : PoolAt H p) (h : H q = some (.lst (zs.map V.str))) : H' q = some (.lst (zs.map V.str)) := m.at hp h strs_nopool (fun _ e => by cases e)
theorem Mv.mem {C p q : Addr} {Tb : List (Addr × Str)} {H H' : Hp} {zs : List Str} (m : Mv p Tb H H') (hp : PoolAt H p) (h : MemAt C H q zs) : MemAt C H' q zs := by
  obtain ⟨⟨dx, t, d, h1, h2, h3⟩, a, b, c, e⟩ := h
  exact ⟨⟨dx, t, d, m.at hp h1 (fun _ _ _ e => by cases e) (fun _ e => by cases e), m.at hp h2 (fun _ _ _ e => by cases e) (fun _ e => by cases e), m.at hp h3 (fun _ _ _ e => by cases e) (fun _ e => by cases e)⟩, a, b, c, e⟩
theorem Mv.vok {p : Addr} {Tb : List (Addr × Str)} {H H' : Hp} {v : V} (m : Mv p Tb H H') (n : v ≠ .ref p) (h : VOk H v) : VOk H' v := by
  refine h.elim .inl fun g => .inr ?_
  have np : ∀ {a : Addr}, v = .ref a → a ≠ p := fun e z => n (by rw [e, z])
  cases g with
  | non => exact .non
  | bl b => exact .bl b
  | int i => exact .int i
  | lst e => exact .lst (m.rx.keep _ _ (np rfl) e (fun _ e => by cases e))
  | tup e => exact .tup (m.rx.keep _ _ (np rfl) e (fun _ e => by cases e))
  | dK e => exact .dK (m.rx.keep _ _ (np rfl) e (fun _ e => by cases e))
theorem refs_nopool {as : List Addr} : ∀ x y z : Int, (HO.lst (as.map V.ref)) ≠ .lst [.int x, .int y, .int z] := fun x y z e => by
  have q := HO.lst.inj e
  cases as with
  | nil => cases q
  | cons a r => cases q
theorem tabs_upd {Tb : List (Addr × Str)} {H : Hp} {t : Addr} {xs : List V} {o : HO} (h : H t = some (.lst xs)) (T : LamX.Tabs Tb H) : LamX.Tabs Tb (upd H t o) := fun q hq => by
  obtain ⟨ps, h1, h2, h3⟩ := T q hq
  refine ⟨ps, by rw [upd_ne (fun z => by rw [z, h] at h1; cases h1)]; exact h1, h2, fun pos cv hc => ?_⟩
  obtain ⟨d, e1, e2⟩ := h3 pos cv hc
  exact ⟨d, e1, by rw [upd_ne (fun z => by rw [z, h] at e2; unfold LamX.CodeO at e2; cases e2)]; exact e2⟩
/-- a promise where no text is being made around -/
def FnG (P : Program) (w : World) (K : PySem.W.Frag) (mg : Str → Option Value) (base : Heap) (CX : CXT) (k : Nat) (f : Addr) (sp : Sp) : Prop :=
  ∀ (A : Around) (outer : List Env) (s : Shared) (H : Hp) (us : List Value) (vs : List V) (Q : VK) (E : XK), A.guards = some [] → Room k A → Env0 P w K mg base A outer s H → Vals vs us → sp vs H Q E →
    codeAny (model P w) A (.call (.ref
        f) ⟨us, []⟩) (CR CX outer P w H s Q E) s
/-- the def of the law's right, its code object at c -/
structure FunC (K : PySem.W.Frag) (x qual : Str) (st : Stmt) (f c : Addr) : Prop where
  ex : ∃ (oc : Value) (od : Option Addr) (kV doc pm : Value) (an : Option Addr) (ct : Value) (osl : Array (Option Value)), K.lookup f = some ⟨oc, od, .func (PySem.W.fnOf x qual (defArgs st) (defBody st) (defScope st) .none kV doc pm an (.ref c) ct), osl⟩ ∧ PySem.W.codeIn K (.ref c) qual = true
section
variable {X : Cx} {k : Nat} {x : Str} {f : Addr} {sp : Sp}
/-- x(e, ..), where no text is being made around -/
theorem pe_callG {e : Expr} {es : List Expr} {t : TA} {p pos : Pos} (F : FnG X.prog X.w X.K X.mg X.base CX0 k f sp) (hgd : X.A.guards = some []) (hr : Room k X.A) (hg : Gl X x) (hm : X.mg x = some (.ref f)) (hk : PySem.W.keepIn X.K (.ref f) = true) (ha : PA X (e :: es) t)
    (hd : (x == ("__debug__" : Str)) = false := by decide) (hst : starEach (e :: es) X.env = (false, eval e X.env) :: starEach es X.env := by rfl) (hpl : (backTo pos (starEach es X.env)).any (·.1) = false := by rfl) :
    PE X (.Call (.Name x p) (e :: es) [] pos) (tCall sp [] E0 t) := by
  refine ⟨fun pins
      s σ H Q I h => ?_⟩
  refine wpAny_Call_Name_kw
      (ld_glob I hg hm ?_ hd)
  refine PySem.W.callWith_K (h₀ := X.base) I.ok.mod.kin hk (thn (ha.run pos pins s σ H _ I h) fun us s1 ⟨vs, H1, I1, rv, q⟩ => ⟨I1.kIn, ?_⟩) hst hpl
  have q : sp vs H1 Q E0 := by
    have q : sp (vs ++ []) H1 Q E0 := q
    rw [List.append_nil] at q
    exact q
  refine wpAny_call (codeAny_mono (F X.A X.stack s1 H1 us vs Q E0 hgd hr I1.env0 rv q) fun r s' hq => ?_)
  cases r with
  | error e => exact hq.elim
  | ok fl =>
    cases fl with
    | ret u => exact I1.after hq
    | next => exact False.elim hq
    | brk => exact False.elim hq
    | cont => exact False.elim hq
end
def tysB : List String := ["NoneType", "bool", "int", "str", "list", "tuple", "dict"]
theorem vok_tys {K : PySem.W.Frag} {H : Hp} {v : V} (h : VOk H v) : ∃ t, t ∈ tysB ∧ TyX K H v (.type t) := h.ty
def StepQ (D : Addr) (H : Hp) (out : Nat → List V) (i : Nat) : VK := fun y H4 => ∃ acc, H4 D = some (.lst acc) ∧ acc.length < sizeLine ∧ upd H4 D (.lst (acc ++ [y])) = upd H D (.lst (out (i + 1)))
theorem step_ok {D : Addr} {H : Hp} {out : Nat → List V} {i : Nat} {y : V} (hl : (out i).length < sizeLine) (e : out (i + 1) = out i ++ [y]) : StepQ D H out i y (upd H D (.lst (out i))) := ⟨_, upd_same, hl, by rw [upd_upd, e]⟩
theorem step_no {D : Addr} {H : Hp} {out : Nat → List V} {i : Nat} (e : out (i + 1) = out i) : upd H D (.lst (out i)) = upd H D (.lst (out (i + 1))) := by rw [e]
theorem lc_pure {K : PySem.W.Frag} {a : Addr} {xs : List V} {g : TG} {tt : TT} {te : TE} {vs : List Nat} {σ : L2.St} {H : Hp} {D : Addr} {Qd : Hp → Prop} (out : Nat → List V) (src : ∀ H', Same H H' → SqL K H' a xs) (nD : H D = none) (h0 : out 0 = [])
    (hs : ∀ i x, xs[i]? = some x → Same H (upd H D (.lst (out i))) → g x (wipe σ vs) (upd H D (.lst (out i))) fun σ2 H2 => wipe σ2 vs = wipe σ vs ∧ tt σ2 H2 fun b H3 => if b = true then te σ2 H3 (StepQ D H out i) else H3 = upd H D (.lst (out (i + 1))))
    (hd : ∀ H', Same H H' → H' D = some (.lst (out xs.length)) → Qd H') :
    ∃ W : Nat → Nat → Hp → Prop, (∃ m, W 0 m (upd H D (.lst []))) ∧ ∀ i m H, W i m H →
      ((Itl K a).stop i H ∧ Qd H) ∨ ((Itl K a).go i H ∧ ∃ Nx : Hp → Prop, (∀ H', Nx H' → ∃ m', m' < m ∧ W (i + 1) m' H') ∧ ∀ x H', (Itl K a).yld i H x H' → g x (wipe σ vs) H' fun σ2 H2 => wipe σ2 vs = wipe σ vs ∧ tt σ2 H2 fun b H3 =>
        if b = true then te σ2 H3 fun y H4 => ∃ acc, H4 D = some (.lst acc) ∧ acc.length < sizeLine ∧ Nx (upd H4 D (.lst (acc ++ [y]))) else Nx H3) := by
  refine lc_list (K := K) (a := a) (xs := xs) (fun i H' => H' = upd H D (.lst (out i))) (by rw [h0]) (fun i H' hi e => ?_) (fun i x H' hx e => ?_) (fun H' e => ?_)
  · subst e
    exact src _ (same_upd nD)
  · subst e
    exact hs i x hx (same_upd nD)
  · subst e
    exact hd _ (same_upd nD) upd_same
theorem str_at {zs : List Str} {i : Nat} {x : V} (h : (zs.map V.str)[i]? = some x) : ∃ z, zs[i]? = some z ∧ x = V.str z := by
  rw [List.getElem?_map] at h
  obtain ⟨z, hz, e⟩ := Option.map_eq_some_iff.mp h
  exact ⟨z, hz, e.symm⟩
/-- the texts of zs that p tells, up to the i-th -/
def outF (zs : List Str) (p : Str → Bool) (i : Nat) : List V := ((zs.take i).filter p).map V.str
def outM (zs : List Str) (e : Str → V) (i : Nat) : List V := (zs.take i).map e
theorem outF_yes {zs : List Str} {p : Str → Bool} {i : Nat} {z : Str} (h : zs[i]? = some z) (hp : p z = true) : outF zs p (i + 1) = outF zs p i ++ [V.str z] := by
  unfold outF
  rw [filt_succ h, if_pos hp, List.map_append]
  rfl
theorem outF_no {zs : List Str} {p : Str → Bool} {i : Nat} {z : Str} (h : zs[i]? = some z) (hp : p z = false) : outF zs p (i + 1) = outF zs p i := by
  unfold outF
  rw [filt_succ h, hp, if_neg (by decide), List.append_nil]
theorem outM_succ {zs : List Str} {e : Str → V} {i : Nat} {z : Str} (h : zs[i]? = some z) : outM zs e (i + 1) = outM zs e i ++ [e z] := map_succ h
theorem outF_len {zs : List Str} {p : Str → Bool} {i : Nat} (h : zs.length ≤ 1000) : (outF zs p i).length < sizeLine := by
  unfold outF
  have := List.length_filter_le p (zs.take i)
  rw [List.length_take] at this
  rw [List.length_map, sizeLine_eq]
  omega
theorem outM_len {zs : List Str} {e : Str → V} {i : Nat} (h : zs.length ≤ 1000) : (outM zs e i).length < sizeLine := by
  unfold outM
  rw [List.length_map, List.length_take, sizeLine_eq]
  omega
theorem outF_end {zs : List Str} {p : Str → Bool} {x : Nat} (h : x = zs.length) : outF zs p x = (zs.filter p).map V.str := by
  unfold outF
  rw [h, List.take_length]
theorem outM_end {zs : List Str} {e : Str → V} {x : Nat} (h : x = zs.length) : outM zs e x = zs.map e := by
  unfold outM
  rw [h, List.take_length]
theorem strs_flat (zs : List Str) : (zs.map V.str).all flatV = true := by simp [flatV]
theorem inV_mem (z : Str) : ∀ ys : List Str, inV (.str z) (ys.map V.str) = decide (z ∈ ys)
  | [] => rfl
  | y :: r => by
    have ih := inV_mem z r
    unfold inV at ih ⊢
    rw [List.map_cons, List.any_cons, ih]
    by_cases h : y = z
    · subst h
      rw [decide_eq_true List.mem_cons_self]
      simp [eqV]
    · have e : eqV (V.str y) (V.str z) = false := by
        show (y == z) = false
        exact beq_eq_false_iff_ne.mpr h
      rw [e, Bool.false_or]
      by_cases m : z ∈ r
      · rw [decide_eq_true m, decide_eq_true (List.mem_cons_of_mem _ m)]
      · rw [decide_eq_false m, decide_eq_false fun q => by
          rcases List.mem_cons.mp q with q | q
          · exact h q.symm
          · exact m q]
def rListOf (K : PySem.W.Frag) : List V → Hp → VK → Prop := fun xs H Q => ∃ p ys, xs = [.ref p] ∧ (SqL K H p ys ∨ SqT K H p ys) ∧ ∀ l, H l = none → Q (.ref l) (upd H l (.lst ys))
theorem call_listK {X : Cx} : CallR X (.type "list") (rListOf X.K) := call_list_of
def lsD (Y : List (List Str)) : List PyData := Y.map fun y => .list (strD y)
structure Lists (H : Hp) (ds : List Addr) (Y : List (List Str)) : Prop where
  len : ds.length = Y.length
  at_ : ∀ (j : Nat) (d : Addr) (y : List Str), ds[j]? = some d → Y[j]? = some y → H d = some (.lst (y.map V.str))
theorem Lists.same {H H' : Hp} {ds : List Addr} {Y : List (List Str)} (s : Same H H') (h : Lists H ds Y) : Lists H' ds Y := ⟨h.len, fun j d y a b => s _ _ (h.at_ j d y a b)⟩
theorem Lists.nil {H : Hp} : Lists H [] [] := ⟨rfl, fun j d y a => by cases a⟩
theorem Lists.snoc {H : Hp} {ds : List Addr} {Y : List (List Str)} {d : Addr} {y : List Str} (h : Lists H ds Y) (hd : H d = some (.lst (y.map V.str))) : Lists H (ds ++ [d]) (Y ++ [y]) := by
  refine ⟨by rw [List.length_append, List.length_append, h.len]; rfl, fun j d' y' a b => ?_⟩
  have l := h.len
  by_cases hj : j < ds.length
  · rw [List.getElem?_append_left hj] at a
    rw [List.getElem?_append_left (by omega)] at b
    exact h.at_ j d' y' a b
  · rw [List.getElem?_append_right (by omega)] at a
    rw [List.getElem?_append_right (by omega)] at b
    have e : j - ds.length = 0 := by
      have := (List.getElem?_eq_some_iff.mp a).1
      simp at this
      omega
    rw [e] at a
    rw [← l, e] at b
    cases a
    cases b
    exact hd
theorem Lists.dp {K : PySem.W.Frag} {H : Hp} : ∀ {ds : List Addr} {Y : List (List Str)}, Lists H ds Y → DpAll K H (ds.map V.ref) (lsD Y)
  | [], [], _ => .nil
  | [], y :: Y, h => by have := h.len; cases this
  | d :: ds, [], h => by have := h.len; cases this
  | d :: ds, y :: Y, h => .cons (.lst (SqL.of (h.at_ 0 d y rfl rfl)) (dpAll_str y)) (Lists.dp (ds := ds) (Y := Y) ⟨by have := h.len; simpa using this, fun j d' y' a b => h.at_ (j + 1) d' y' a b⟩)
theorem lsD_lay : ∀ {Y : List (List Str)}, (∀ y ∈ Y, OkS y) → PyData.canLayAll0 (lsD Y) = true
  | [], _ => by simp [lsD, PyData.canLayAll0]
  | y :: Y, h => by
    have h1 := lsD_lay (Y := Y) fun z hz => h z (List.mem_cons_of_mem _ hz)
    have h2 := strD_lay y (h y List.mem_cons_self)
    simp only [lsD] at h1
    simp [lsD, PyData.canLayAll0, PyData.canLay0, h1, h2]
theorem lsD_depth : ∀ Y : List (List Str), PyData.depthAll (lsD Y) ≤ 1
  | [] => by simp [lsD, PyData.depthAll]
  | y :: Y => by
    have h1 := lsD_depth Y
    have h2 := strD_depth y
    simp only [lsD] at h1
    simp only [lsD, List.map_cons, PyData.depthAll, PyData.depth, h2]
    omega
theorem lsD_shaped {Y : List (List Str)} (h : ∀ y ∈ Y, OkS y) : SeqAt.shaped (.list (lsD Y)) = true := by
  show (PyData.canLay0 (.list (lsD Y)) && decide (PyData.depth (.list (lsD Y)) ≤ 64)) = true
  rw [Bool.and_eq_true]
  refine ⟨by simp only [PyData.canLay0]; exact lsD_lay h, decide_eq_true ?_⟩
  simp only [PyData.depth]
  have := lsD_depth Y
  omega
theorem lsD_eqv {Y : List (List Str)} (h : ∀ y ∈ Y, OkS y) : PyData.eqv (.list (lsD Y)) (.list (lsD Y)) = true := SeqAt.eqv_refl _ (by simp only [PyData.canLay0]; exact lsD_lay h)
/-- Members at ps, of the names Y -/
structure Mems (C : Addr) (H : Hp) (ps : List Addr) (Y : List (List Str)) : Prop where
  len : ps.length = Y.length
  at_ : ∀ (j : Nat) (p : Addr) (y : List Str), ps[j]? = some p → Y[j]? = some y → MemAt C H p y
theorem Mems.same {C : Addr} {H H' : Hp} {ps : List Addr} {Y : List (List Str)} (s : Same H H') (h : Mems C H ps Y) : Mems C H' ps Y := ⟨h.len, fun j p y a b => (h.at_ j p y a b).same s⟩
theorem Mems.ok {C : Addr} {H : Hp} {ps : List Addr} {Y : List (List Str)} (h : Mems C H ps Y) : ∀ y ∈ Y, OkS y := fun y hy => by
  obtain ⟨j, hj, e⟩ := List.mem_iff_getElem.mp hy
  have l := h.len
  exact okS_names (h.at_ j (ps[j]'(by omega)) y (List.getElem?_eq_getElem _) (by rw [← e]; exact List.getElem?_eq_getElem _)).nm
theorem len_or {y zs ws : List Str} (nd : y.Nodup) (h : ∀ z, z ∈ y → z ∈ zs ∨ z ∈ ws) : y.length ≤ zs.length + ws.length := by
  have := len_sub (zs := zs ++ ws) nd fun z hz => List.mem_append.mpr (h z hz)
  rw [List.length_append] at this
  exact this
theorem pw_uniq {xs ys : List Str} (hx : xs.Pairwise NotLt) (hy : ys.Pairwise NotLt) (nx : xs.Nodup) (ny : ys.Nodup) (m : ∀ z, z ∈ xs ↔ z ∈ ys) : xs = ys :=
  List.Perm.eq_of_pairwise (le := NotLt) (fun a b _ _ p q => notLt_anti p q) hx hy ((List.perm_ext_iff_of_nodup nx ny).mpr m)
theorem lc_pureT {K : PySem.W.Frag} {a : Addr} {xs : List V} {g : TG} {tt : TT} {te : TE} {vs : List Nat} {σ : L2.St} {H : Hp} {D : Addr} {Qd : Hp → Prop} (out : Nat → List V) (src : ∀ H', Same H H' → SqT K H' a xs) (nD : H D = none) (h0 : out 0 = [])
    (hs : ∀ i x, xs[i]? = some x → Same H (upd H D (.lst (out i))) → g x (wipe σ vs) (upd H D (.lst (out i))) fun σ2 H2 => wipe σ2 vs = wipe σ vs ∧ tt σ2 H2 fun b H3 => if b = true then te σ2 H3 (StepQ D H out i) else H3 = upd H D (.lst (out (i + 1))))
    (hd : ∀ H', Same H H' → H' D = some (.lst (out xs.length)) → Qd H') :
    ∃ W : Nat → Nat → Hp → Prop, (∃ m, W 0 m (upd H D (.lst []))) ∧ ∀ i m H, W i m H →
      ((Itt K a).stop i H ∧ Qd H) ∨ ((Itt K a).go i H ∧ ∃ Nx : Hp → Prop, (∀ H', Nx H' → ∃ m', m' < m ∧ W (i + 1) m' H') ∧ ∀ x H', (Itt K a).yld i H x H' → g x (wipe σ vs) H' fun σ2 H2 => wipe σ2 vs = wipe σ vs ∧ tt σ2 H2 fun b H3 =>
        if b = true then te σ2 H3 fun y H4 => ∃ acc, H4 D = some (.lst acc) ∧ acc.length < sizeLine ∧ Nx (upd H4 D (.lst (acc ++ [y]))) else Nx H3) := by
  refine lc_tup (K := K) (a := a) (xs := xs) (fun i H' => H' = upd H D (.lst (out i))) (by rw [h0]) (fun i H' hi e => ?_) (fun i x H' hx e => ?_) (fun H' e => ?_)
  · subst e
    exact src _ (same_upd nD)
  · subst e
    exact hs i x hx (same_upd nD)
  · subst e
    exact hd _ (same_upd nD) upd_same
/-- the names of the comers, as a new list -/
theorem nm_of {K : PySem.W.Frag} {C a : Addr} {zs : List Str} {H : Hp} {te : TE} {σ : L2.St} {Q : VK} (m : MemAt C H a zs) (ht : ∀ Q' : VK, Q' (.ref a) H → te σ H Q') (q : ∀ r, H r = none → Q (.ref r) (upd H r (.lst (zs.map V.str)))) :
    tCB (rListOf K) (tCons (tProp C (getSp C "_names") [] E0 te) tNil) σ H Q := by
  obtain ⟨dx, t, d, k1, k2, k3⟩ := m.at_
  exact ht _ ⟨a, dx, _, rfl, k1, a, dx, _, _, rfl, k1, flds_names t d, t, _, rfl, .inr (SqT.of k2), q⟩
theorem pss_of {X : Cx} {b : List Stmt} {T : TS} (h : ∀ D σ H, T D σ H → ∃ t, PSs X b t ∧ t D σ H) : PSs X b T := ⟨fun pins s σ H D I hyp => by
  obtain ⟨t, ht, hq⟩ := h D σ H hyp
  exact ht.run pins s σ H D I hq⟩
def rTupOf (K : PySem.W.Frag) : List V → Hp → VK → Prop := fun xs H Q => ∃ p ys, xs = [.ref p] ∧ ((SqL K H p ys ∧ ∀ l, H l = none → Q (.ref l) (upd H l (.tup ys))) ∨ (SqT K H p ys ∧ Q (.ref p) H))
theorem call_tupK {X : Cx} : CallR X (.type "tuple") (rTupOf X.K) := call_tuple_of
/-- rows of names -/
structure Row (p a : Addr) (N : List Str) (H : Hp) : Prop where
  pool : PoolAt H p
  ne : a ≠ p
  at_ : H a = some (.lst (N.map V.str))
  len : N.length ≤ 20
  nd : N.Nodup
  nm : ∀ z ∈ N, nameB z = true
theorem Row.ext {p a : Addr} {N : List Str} {H H' : Hp} (r : Row p a N H) (x : Ext p H H') : Row p a N H' := ⟨x.pool, r.ne, x.at r.ne r.at_, r.len, r.nd, r.nm⟩
theorem MemAt.ext {C p q : Addr} {zs : List Str} {H H' : Hp} (hp : PoolAt H p) (x : Ext p H H') (m : MemAt C H q zs) : MemAt C H' q zs := by
  obtain ⟨⟨dx, t, d, h1, h2, h3⟩, a, b, c, e⟩ := m
  obtain ⟨i, j, k, hp⟩ := hp
  exact ⟨⟨dx, t, d, x.at (fun e => by rw [e, hp] at h1; cases h1) h1, x.at (fun e => by rw [e, hp] at h2; cases h2) h2, x.at (fun e => by rw [e, hp] at h3; cases h3) h3⟩, a, b, c, e⟩
theorem same_set {H H' : Hp} {d : Addr} {o : HO} (s : Same H H') (n : H d = none) : Same H (upd H' d o) := fun b x e => by
  rw [upd_ne (ne_of_none e n)]
  exact s _ _ e
theorem at0 {xs : List V} {i : Nat} {v : V} (h : xs[i]? = some v) : atI xs ((0 : Int) + (i : Nat)) = some v := by
  rw [Int.zero_add]
  exact atI_nat h
theorem lc_tupS {K : PySem.W.Frag} {a : Addr} {zs : List Str} {g : TG} {tt : TT} {te : TE} {vs : List Nat} {σ : L2.St} {H : Hp} {D : Addr} {Qd : Hp → Prop} (ha : H a = some (.tup (zs.map V.str))) (hl : zs.length ≤ 1000) (nD : H D = none)
    (hs : ∀ z H', g (.str z) (wipe σ vs) H' fun σ2 H2 => wipe σ2 vs = wipe σ vs ∧ tt σ2 H2 fun b H3 => b = true ∧ H3 = H' ∧ ∀ Q : VK, Q (.str z) H3 → te σ2 H3 Q)
    (hg : ∀ z H' (R R' : L2.St → Hp → Prop), (∀ s h, R s h → R' s h) → g (.str z) (wipe σ vs) H' R → g (.str z) (wipe σ vs) H' R')
    (ht : ∀ s h (R R' : Bool → Hp → Prop), (∀ b h', R b h' → R' b h') → tt s h R → tt s h R')
    (hd : ∀ H', Same H H' → H' D = some (.lst (zs.map V.str)) → Qd H') :
    ∃ W : Nat → Nat → Hp → Prop, (∃ m, W 0 m (upd H D (.lst []))) ∧ ∀ i m H, W i m H →
      ((Itt K a).stop i H ∧ Qd H) ∨ ((Itt K a).go i H ∧ ∃ Nx : Hp → Prop, (∀ H', Nx H' → ∃ m', m' < m ∧ W (i + 1) m' H') ∧ ∀ x H', (Itt K a).yld i H x H' → g x (wipe σ vs) H' fun σ2 H2 => wipe σ2 vs = wipe σ vs ∧ tt σ2 H2 fun b H3 =>
        if b = true then te σ2 H3 fun y H4 => ∃ acc, H4 D = some (.lst acc) ∧ acc.length < sizeLine ∧ Nx (upd H4 D (.lst (acc ++ [y]))) else Nx H3) := by
  refine lc_tup (K := K) (a := a) (xs := zs.map V.str) (fun i H' => H' = upd H D (.lst ((zs.take i).map V.str))) rfl (fun i H' hi e => ?_) (fun i x H' hx e => ?_) (fun H' e => ?_)
  · subst e
    exact SqT.of (same_upd nD _ _ ha)
  · subst e
    rw [List.getElem?_map] at hx
    obtain ⟨z, hz, rfl⟩ := Option.map_eq_some_iff.mp hx
    refine hg z _ _ _ (fun s h r => ⟨r.1, ht _ _ _ _ (fun b h' q => ?_) r.2⟩) (hs z _)
    obtain ⟨rfl, rfl, q⟩ := q
    rw [if_pos rfl]
    refine q _ ⟨_, upd_same, by rw [List.length_map, List.length_take, sizeLine_eq]; omega, ?_⟩
    rw [upd_upd, List.take_add_one, hz, List.map_append]
    rfl
  · subst e
    rw [List.length_map, List.take_length]
    exact hd _ (same_upd nD) upd_same
theorem upd_keep {H : Hp} {t b : Addr} {o1 o2 o : HO} (h : H t = some o1) (hb : H b = some o2) (n : o2 ≠ o1) : upd H t o b = some o2 := by
  rw [upd_ne (fun e => by rw [e, h] at hb; exact n (Option.some.inj hb).symm)]
  exact hb
abbrev sa : Str := Str.ofString "a"
inductive OddD (H : Hp) : V → PyData → Prop where
  | non : OddD H .non .none
  | int : OddD H (.int 0) (.int 0)
  | str : OddD H (.str sa) (.str sa)
  | tup0 {a : Addr} (e : H a = some (.tup [])) : OddD H (.ref a) (.tuple [])
  | tup1 {a : Addr} (e : H a = some (.tup [.str sa])) : OddD H (.ref a) (.tuple [.str sa])
  | lst {a : Addr} (e : H a = some (.lst [])) : OddD H (.ref a) (.list [])
  | dK {a : Addr} (e : H a = some (.dK [])) : OddD H (.ref a) (.dict [])
  | bl : OddD H (.bl true) (.bool true)
theorem OddD.keep {H H' : Hp} {v : V} {d : PyData} (h : OddD H v d) (k : ∀ a o, H a = some o → (∀ x y z : Int, o ≠ .lst [.int x, .int y, .int z]) → (∀ ps, o ≠ .tbl ps) → (∀ xs, o = .lst xs → xs = []) → H' a = some o) : OddD H' v d := by
  cases h with
  | non => exact .non
  | int => exact .int
  | str => exact .str
  | tup0 e => exact .tup0 (k _ _ e (fun _ _ _ e => by cases e) (fun _ e => by cases e) (fun _ e => by cases e))
  | tup1 e => exact .tup1 (k _ _ e (fun _ _ _ e => by cases e) (fun _ e => by cases e) (fun _ e => by cases e))
  | lst e => exact .lst (k _ _ e (fun _ _ _ e => by cases e) (fun _ e => by cases e) (fun _ e => by cases e; rfl))
  | dK e => exact .dK (k _ _ e (fun _ _ _ e => by cases e) (fun _ e => by cases e) (fun _ e => by cases e))
  | bl => exact .bl
theorem OddD.mv {p : Addr} {Tb : List (Addr × Str)} {H H' : Hp} {v : V} {d : PyData} (m : Mv p Tb H H') (hp : PoolAt H p) (h : OddD H v d) : OddD H' v d := h.keep fun a o e n nt _ => m.at hp e n nt
theorem OddD.set {t : Addr} {H : Hp} {as : List Addr} {o : HO} {v : V} {d : PyData} (ht : H t = some (.lst (as.map V.ref))) (hn : as ≠ []) (h : OddD H v d) : OddD (upd H t o) v d := h.keep fun a o e _ _ nl => upd_keep ht e fun q => by
  subst q
  have := nl _ rfl
  exact hn (List.map_eq_nil_iff.mp this)
theorem OddD.vok {H : Hp} {v : V} {d : PyData} (h : OddD H v d) : VOk H v := by
  cases h with
  | non => exact .inr .non
  | int => exact .inr (.int _)
  | str => exact .inl ⟨_, rfl, by rw [sizeLine_eq]; decide +kernel⟩
  | tup0 e => exact .inr (.tup e)
  | tup1 e => exact .inr (.tup e)
  | lst e => exact .inr (.lst e)
  | dK e => exact .inr (.dK e)
  | bl => exact .inr (.bl _)
theorem OddD.shd {K : PySem.W.Frag} {H : Hp} {v : V} {d : PyData} (h : OddD H v d) : RpD.ShD K H v d := by
  cases h with
  | non => exact .inl ⟨.non, .of rfl (by decide) (by decide)⟩
  | int => exact .inl ⟨.int _, .of (by decide) (by decide) (by decide)⟩
  | str => exact .inl ⟨.str _, .of (by decide +kernel) (by decide +kernel) (by decide +kernel)⟩
  | tup0 e => exact .inl ⟨.tup (SqT.of e) .nil, .of rfl (by decide) (by decide)⟩
  | tup1 e => exact .inl ⟨.tup (SqT.of e) (.cons (.str _) .nil), .of (by decide +kernel) (by decide +kernel) (by decide +kernel)⟩
  | lst e => exact .inl ⟨.lst (SqL.of e) .nil, .of rfl (by decide) (by decide)⟩
  | dK e => exact .inr ⟨_, rfl, e, rfl⟩
  | bl => exact .inl ⟨.bl _, .of rfl (by decide) (by decide)⟩
theorem OddD.ok {H : Hp} {v : V} {d : PyData} (h : OddD H v d) : PyData.strOk d.shown = true := by
  cases h <;> decide +kernel
theorem Lists.mv {p : Addr} {Tb : List (Addr × Str)} {H H' : Hp} {ds : List Addr} {Y : List (List Str)} (m : Mv p Tb H H') (hp : PoolAt H p) (h : Lists H ds Y) : Lists H' ds Y := ⟨h.len, fun j d y a b => m.strs hp (h.at_ j d y a b)⟩
theorem strs_refs {zs : List Str} {as : List Addr} (hn : as ≠ []) : HO.lst (zs.map V.str) ≠ HO.lst (as.map V.ref) := fun e => by
  have q := HO.lst.inj e
  cases as with
  | nil => exact hn rfl
  | cons a r =>
    cases zs with
    | nil => cases q
    | cons z s => cases q
theorem Lists.set {t : Addr} {H : Hp} {as ds : List Addr} {o : HO} {Y : List (List Str)} (ht : H t = some (.lst (as.map V.ref))) (hn : as ≠ []) (h : Lists H ds Y) : Lists (upd H t o) ds Y := ⟨h.len, fun j d y a b => upd_keep ht (h.at_ j d y a b) (strs_refs hn)⟩
/-- both are the Members of the same names -/
def SameMem (C : Addr) : Addr → Addr → Hp → Prop := fun a b H => ∃ ys, MemAt C H a ys ∧ MemAt C H b ys
theorem sameMem_mon (C : Addr) : ∀ a b H H', L2.Ext H H' → SameMem C a b H → SameMem C a b H' := fun a b H H' e h => by
  obtain ⟨ys, h1, h2⟩ := h
  exact ⟨ys, h1.same e, h2.same e⟩
theorem eq_same {P : Program} {w : World} {K : PySem.W.Frag} {mg : Str → Option Value} {base : Heap} {C g : Addr} {fd : FuncData} (F : FnOk P w K mg base CX0 3 g fd ["self", "other"] (spEqM C)) : FnOk P w K mg base CX0 3 g fd ["self", "other"] (spEq (SameMem C)) := by
  have imp : ∀ vs H Q E, spEq (SameMem C) vs H Q E → spEqM C vs H Q E := fun vs H Q E h => by
    obtain ⟨a, b, e, ⟨ys, h1, h2⟩, q⟩ := h
    refine ⟨a, ys, .ref b, e, h1, .inl ⟨b, ys, rfl, h2, ?_⟩⟩
    rw [decide_eq_true rfl]
    exact q H L2.Ext.rfl'
  exact ⟨fun vs H Q E h => F.len vs H Q E (imp vs H Q E h), fun A outer s H args us vs Q E hr e0 hb r h => F.run A outer s H args us vs Q E hr e0 hb r (imp vs H Q E h)⟩
theorem din {C a b : Addr} {ys zs : List Str} {H : Hp} (h1 : MemAt C H a ys) (h2 : MemAt C H b zs) (e : ys = zs) : DIns C (SameMem C) (.ref a) (.ref b) H := by
  subst e
  obtain ⟨dx, t, d, e1, _, _⟩ := h1.at_
  obtain ⟨dy, t2, d2, e2, _, _⟩ := h2.at_
  exact ⟨a, b, dx, dy, _, _, rfl, rfl, e1, e2, ys, h1, h2⟩
theorem MemAt.set {C a t : Addr} {H : Hp} {zs : List Str} {xs : List V} {o : HO} (h : H t = some (.lst xs)) (m : MemAt C H a zs) : MemAt C (upd H t o) a zs := by
  obtain ⟨⟨dx, t1, d, h1, h2, h3⟩, b, c, e, f⟩ := m
  exact ⟨⟨dx, t1, d, by rw [upd_ne (fun z => by rw [z, h] at h1; cases h1)]; exact h1, by rw [upd_ne (fun z => by rw [z, h] at h2; cases h2)]; exact h2, by rw [upd_ne (fun z => by rw [z, h] at h3; cases h3)]; exact h3⟩, b, c, e, f⟩
theorem mem_ty {K : PySem.W.Frag} {mg : Str → Option Value} {C b : Addr} {H : Hp} {ws : List Str} (M : MemC K mg C) (I : MemIs K C) (m : MemAt C H b ws) : TyX K H (.ref b) (.ref C) := by
  obtain ⟨dy, t2, d2, k1, _, _⟩ := m.at_
  exact .base (.ins k1 M.cl I.ha I.hn I.htk I.hm)
theorem bin_go {C a b : Addr} {zs ws : List Str} {r : Prop → Prop → Prop} {H : Hp} {Q : VK} {E : XK} (m1 : MemAt C H a zs) (m2 : MemAt C H b ws) (hl : zs.length + ws.length ≤ 1000) (q : MakesP C (fun z => r (z ∈ zs) (z ∈ ws)) H Q) : rBinO C (spBinM C r) E (.ref a) (.ref b) H Q := by
  obtain ⟨dx, t, d, h1, _, _⟩ := m1.at_
  obtain ⟨dy, t2, d2, k1, _, _⟩ := m2.at_
  exact ⟨a, dx, _, b, dy, _, rfl, rfl, h1, k1, a, b, zs, ws, rfl, m1, m2, hl, q⟩
theorem eq_go {K : PySem.W.Frag} {mg : Str → Option Value} {C a b : Addr} {zs ws : List Str} {H : Hp} {Q : VK} (M : MemC K mg C) (I : MemIs K C) (m1 : MemAt C H a zs) (m2 : MemAt C H b ws) (q : Q (.bl (decide (zs = ws))) H) : rEqO K C (spEqM C) (.ref a) (.ref b) H Q := by
  obtain ⟨dx, t, d, h1, _, _⟩ := m1.at_
  exact ⟨a, dx, _, _, rfl, h1, mem_ty M I m2, I.nfC, a, zs, .ref b, rfl, m1, .inl ⟨b, ws, rfl, m2, _, rfl, q⟩⟩
theorem ne_go {K : PySem.W.Frag} {mg : Str → Option Value} {C a b : Addr} {zs ws : List Str} {H : Hp} {Q : VK} (M : MemC K mg C) (I : MemIs K C) (m1 : MemAt C H a zs) (m2 : MemAt C H b ws) (q : Q (.bl (!decide (zs = ws))) H) : rNeO K C (spEqM C) (.ref a) (.ref b) H Q := by
  obtain ⟨dx, t, d, h1, _, _⟩ := m1.at_
  exact ⟨a, dx, _, _, rfl, h1, mem_ty M I m2, I.nfC, a, zs, .ref b, rfl, m1, .inl ⟨b, ws, rfl, m2, _, rfl, q⟩⟩
end K1

namespace K1
open PySem PySem.Spec
open PyProof.Rows L2 EnT StX SmX TxS DuX
/-! ### forms -/
inductive Fm where
  | leaf (z : Str)
  | node (s : Str) (l r : Fm)
abbrev tGiven : Str := "given"
abbrev tNone : Str := "none"
abbrev signs : List Str := ["|", "&", "-", "^"]
/-- a form on the heap -/
inductive FmAt (H : Hp) : V → Fm → Prop where
  | leaf (z : Str) : FmAt H (.str z) (.leaf z)
  | node {a : Addr} {s : Str} {vl vr : V} {l r : Fm} (h : H a = some (.tup [.str s, vl, vr])) (hl : FmAt H vl l) (hr : FmAt H vr r) : FmAt H (.ref a) (.node s l r)
/-- tuples stay -/
def TupK (H H' : Hp) : Prop := ∀ a xs, H a = some (.tup xs) → H' a = some (.tup xs)
theorem TupK.same {H H' : Hp} (s : Same H H') : TupK H H' := fun a xs h => s a _ h
theorem TupK.ext {p : Addr} {H H' : Hp} (hp : PoolAt H p) (x : K1.Ext p H H') : TupK H H' := fun a xs h => x.at (fun e => by
  obtain ⟨i, j, k, q⟩ := hp
  rw [e, q] at h
  cases h) h
theorem TupK.set {H H' : Hp} {t : Addr} {ys : List V} {o : HO} (k : TupK H H') (ht : H' t = some (.lst ys)) : TupK H (upd H' t o) := fun a xs h => by
  have h' := k a xs h
  rw [upd_ne (fun e => by rw [e, ht] at h'; cases h')]
  exact h'
theorem TupK.new {H H' : Hp} {t : Addr} {o : HO} (k : TupK H H') (ht : H t = none) : TupK H (upd H' t o) := fun a xs h => by
  rw [upd_ne (fun e => by rw [e, ht] at h; cases h)]
  exact k a xs h
theorem TupK.trans {H H1 H2 : Hp} (a : TupK H H1) (b : TupK H1 H2) : TupK H H2 := fun c xs h => b c xs (a c xs h)
theorem FmAt.keep {H H' : Hp} (k : TupK H H') {v : V} {t : Fm} (h : FmAt H v t) : FmAt H' v t := by
  induction h with
  | leaf z => exact .leaf z
  | node h _ _ ih1 ih2 => exact .node (k _ _ h) ih1 ih2
theorem FmAt.same {H H' : Hp} (s : Same H H') {v : V} {t : Fm} (h : FmAt H v t) : FmAt H' v t := h.keep (.same s)
namespace Fm
/-- the forms that are valid -/
def Ok : Fm → Prop
  | .leaf z => nameB z = true
  | .node s l r => s ∈ signs ∧ l.Ok ∧ r.Ok
def dep : Fm → Nat
  | .leaf _ => 1
  | .node _ l r => 1 + (if l.dep > r.dep then l.dep else r.dep)
def lvs : Fm → List Str
  | .leaf z => [z]
  | .node _ l r => l.lvs ++ r.lvs
def nl (t : Fm) : Nat := t.lvs.length
def size : Fm → Nat
  | .leaf _ => 1
  | .node _ l r => 1 + l.size + r.size
/-- the text; inside another one in brackets -/
def txt : Bool → Fm → Str
  | _, .leaf z => z
  | false, .node s l r => txt true l ++ (" " : Str) ++ s ++ (" " : Str) ++ txt true r
  | true, .node s l r => ("(" : Str) ++ (txt true l ++ (" " : Str) ++ s ++ (" " : Str) ++ txt true r) ++ (")" : Str)
def dat : Fm → PyData
  | .leaf z => .str z
  | .node s l r => .tuple [.str s, l.dat, r.dat]
theorem dep_pos : ∀ t : Fm, 1 ≤ t.dep
  | .leaf _ => Nat.le_refl _
  | .node _ l r => Nat.le_add_right _ _
theorem nl_pos : ∀ t : Fm, 1 ≤ t.nl
  | .leaf _ => Nat.le_refl _
  | .node _ l r => by
    have := nl_pos l
    unfold nl at this ⊢
    simp only [lvs, List.length_append]
    omega
theorem size_pos : ∀ t : Fm, 1 ≤ t.size
  | .leaf _ => Nat.le_refl _
  | .node _ l r => by simp only [size]; omega
theorem nl_node (s : Str) (l r : Fm) : (node s l r).nl = l.nl + r.nl := by
  unfold nl
  simp only [lvs, List.length_append]
theorem dep_node (s : Str) (l r : Fm) : (node s l r).dep = 1 + max l.dep r.dep := by
  simp only [dep]
  congr 1
  split <;> omega
theorem size_nl : ∀ t : Fm, t.size + 1 = 2 * t.nl
  | .leaf _ => rfl
  | .node s l r => by
    have a := size_nl l
    have b := size_nl r
    rw [nl_node]
    simp only [size]
    omega
theorem nl_dep : ∀ t : Fm, t.nl ≤ 2 ^ (t.dep - 1)
  | .leaf _ => Nat.le_refl _
  | .node s l r => by
    have a := nl_dep l
    have b := nl_dep r
    have pl := dep_pos l
    have pr := dep_pos r
    have a' : 2 ^ (l.dep - 1) ≤ 2 ^ (max l.dep r.dep - 1) := Nat.pow_le_pow_right (by decide) (by omega)
    have b' : 2 ^ (r.dep - 1) ≤ 2 ^ (max l.dep r.dep - 1) := Nat.pow_le_pow_right (by decide) (by omega)
    rw [nl_node, dep_node]
    have e : 1 + max l.dep r.dep - 1 = (max l.dep r.dep - 1) + 1 := by omega
    rw [e, Nat.pow_succ]
    omega
theorem Ok.names : ∀ {t : Fm}, t.Ok → ∀ z ∈ t.lvs, nameB z = true
  | .leaf z, h => fun y hy => by
    rw [List.mem_singleton.mp hy]
    exact h
  | .node s l r, h => fun y hy => by
    rcases List.mem_append.mp hy with e | e
    · exact h.2.1.names y e
    · exact h.2.2.names y e
end Fm
theorem sign_ok {s : Str} (h : s ∈ signs) : s.length = 1 ∧ PyData.strOk s = true := by
  simp only [signs, List.mem_cons, List.not_mem_nil, or_false] at h
  rcases h with rfl | rfl | rfl | rfl <;> decide +kernel
theorem txt_len5 : ∀ (b : Bool) (t : Fm), t.Ok → (t.txt b).length + 5 ≤ 13 * t.nl
  | b, .leaf z, h => by
    have := name_short (show nameB z = true from h)
    have e : (Fm.leaf z).txt b = z := by cases b <;> rfl
    rw [e]
    show z.length + 5 ≤ 13 * 1
    omega
  | b, .node s l r, h => by
    have a := txt_len5 true l h.2.1
    have b' := txt_len5 true r h.2.2
    have c := (sign_ok h.1).1
    have e1 : (" " : Str).length = 1 := by decide +kernel
    have e2 : ("(" : Str).length = 1 := by decide +kernel
    have e3 : (")" : Str).length = 1 := by decide +kernel
    rw [Fm.nl_node]
    cases b
    · simp only [Fm.txt]
      rw [strLen_append, strLen_append, strLen_append, strLen_append, c, e1]
      omega
    · simp only [Fm.txt]
      rw [strLen_append, strLen_append, strLen_append, strLen_append, strLen_append, strLen_append, c, e1, e2, e3]
      omega
theorem txt_len (b : Bool) (t : Fm) (h : t.Ok) : (t.txt b).length ≤ 13 * t.nl := Nat.le_trans (Nat.le_add_right _ _) (txt_len5 b t h)
theorem FmAt.dp {K : PySem.W.Frag} {H : Hp} {v : V} {t : Fm} (h : FmAt H v t) : Dp K H v t.dat := by
  induction h with
  | leaf z => exact .str z
  | node h _ _ ih1 ih2 => exact .tup (SqT.of h) (.cons (.str _) (.cons ih1 (.cons ih2 .nil)))
end K1

namespace K1
open PySem PySem.Spec
open PyProof.Rows L2 EnT StX SmX TxS DuX
/-- the names of the module of forms -/
structure Gf (K : PySem.W.Frag) (mg : Str → Option Value) (aS : Addr) : Prop where
  T : Free mg
  sg : mg "SIGNS" = some (.ref aS)
  st : ∀ H : Hp, SqT K H aS (signs.map V.str)
  gv : ∃ t, mg "GIVEN" = some (.str tGiven t)
  nn : ∃ t, mg "NONE" = some (.str tNone t)
  ml : ∃ t, mg "MOST_LEAVES" = some (.int 200 t)
  md : ∃ t, mg "MOST_DEPTH" = some (.int 20 t)
theorem name_line {z : Str} (h : nameB z = true) : z.length ≤ sizeLine := by
  have := name_short h
  rw [sizeLine_eq]
  omega
theorem FmAt.vok {H : Hp} {v : V} {t : Fm} (h : FmAt H v t) (ok : t.Ok) : VOk H v := by
  cases h with
  | leaf z => exact .inl ⟨z, rfl, name_line ok⟩
  | node h _ _ => exact .inr (.tup h)
/-! ### is_field, of a name -/
def fieldB (z : Str) : Bool := decide (z ≠ tGiven ∧ z ≠ tNone)
def spIsField : Sp := fun vs H Q _ => ∃ z : Str, vs = [.str z] ∧ nameB z = true ∧ ∀ H', Same H H' → Q (.bl (fieldB z)) H'
section
variable {w : World} {P : Program} {base : Heap} {mg : Str → Option Value} {K : PySem.W.Frag} {aS : Addr}
theorem scIsField : FnScope ["value"] ["value"] (defScope sIsField) := ⟨rfl, rfl, rfl, by decide +kernel, rfl, by decide +kernel, by decide +kernel⟩
theorem ok_isfield {f fN : Addr} {fd : FuncData} (F : Fun K "is_field" "is_field" sIsField f fd) (G : Gf K mg aS) (hN : Has P w K mg base CX0 1 "is_name" fN ["value"] spIsName) : FnOk P w K mg base CX0 2 f fd ["value"] spIsField := by
  obtain ⟨tg, hg⟩ := G.gv
  obtain ⟨tn, hn⟩ := G.nn
  refine F.ok scIsField (fun vs H Q E h => ?_) (fun cdv A outer s H vs Q E hr h => ?_)
  · obtain ⟨z, rfl, _⟩ := h
    rfl
  · obtain ⟨z, rfl, nz, q⟩ := h
    refine ⟨_, pss_one (ps_ret (pe_and (pe_has hN hr (by rfl) pass0 (pa_cons (pv 0) pa_nil)) (pe_one (pe_cmpR op_notIn_seq (pv 0) (pe_tup (pa_cons (pe_glob (v := .str tGiven) (by rfl) hg ⟨_, rfl⟩) (pa_cons (pe_glob (v := .str tNone) (by rfl) hn ⟨_, rfl⟩) pa_nil))) (by rfl))))), ?_⟩
    have e : nameV (.str z) = true := nz
    refine ⟨_, rfl, _, rfl, .inl ⟨z, rfl, name_line nz⟩, _, rfl, ?_⟩
    rw [e]
    refine iteT ⟨_, rfl, (by show 2 ≤ sizeLine; decide), fun a na => ⟨a, _, rfl, .inr (SqT.of upd_same), rfl, rfl, ?_⟩⟩
    have z2 : (!inV (.str z) [V.str tGiven, V.str tNone]) = fieldB z := by
      have := inV_mem z [tGiven, tNone]
      show (!inV (.str z) ([tGiven, tNone].map V.str)) = _
      rw [this]
      unfold fieldB
      by_cases h1 : z = tGiven <;> by_cases h2 : z = tNone <;> simp [h1, h2]
    rw [z2]
    exact q _ (same_upd na)
/-! ### is_triple, of a form -/
def isNode : Fm → Bool
  | .leaf _ => false
  | .node _ _ _ => true
def spTriple : Sp := fun vs H Q _ => ∃ (v : V) (t : Fm), vs = [v] ∧ FmAt H v t ∧ t.Ok ∧ Q (.bl (isNode t)) H
theorem scTriple : FnScope ["value"] ["value"] (defScope sTriple) := ⟨rfl, rfl, rfl, by decide +kernel, rfl, by decide +kernel, by decide +kernel⟩
theorem ok_triple {f : Addr} {fd : FuncData} (F : Fun K "is_triple" "is_triple" sTriple f fd) (G : Gf K mg aS) : FnOk P w K mg base CX0 1 f fd ["value"] spTriple := by
  have T := G.T
  refine F.ok scTriple (fun vs H Q E h => ?_) (fun cdv A outer s H vs Q E hr h => ?_)
  · obtain ⟨v, t, rfl, _⟩ := h
    rfl
  · obtain ⟨v, t, rfl, m, ok, q⟩ := h
    refine ⟨_, pss_one (ps_ret (pe_and (pe_callB call_isi (by rfl) T.isinstance (by decide +kernel) (pa_cons (pv 0) (pa_cons (pe_bltn (v := .ty "tuple") (u := .type "tuple") (by rfl) T.tuple (by decide +kernel) rfl) pa_nil)))
      (pe_and (pe_cmpR op_eq (pe_callB call_len_seq (by rfl) T.len PySem.boot_len (pa_cons (pv 0) pa_nil)) pe_int (nomark _))
      (pe_and (pe_callB call_isi (by rfl) T.isinstance (by decide +kernel) (pa_cons (pe_ix ix_tup (pv 0) pe_int (fun _ _ => rfl)) (pa_cons (pe_bltn (v := .ty "str") (u := .type "str") (by rfl) T.str (by decide +kernel) rfl) pa_nil)))
      (pe_one (pe_cmpR op_in_seq (pe_ix ix_tup (pv 0) pe_int (fun _ _ => rfl)) (pe_glob (v := .ref aS) (by rfl) G.sg rfl) (by rfl))))))), ?_⟩
    cases m with
    | leaf z => exact ⟨_, rfl, _, _, _, _, false, rfl, .ty _, .base (.str z), kit_ty (by decide +kernel), false, rfl, iteF q⟩
    | node h hl hr' =>
      rename_i a s vl vr l r
      refine ⟨_, rfl, _, _, _, _, true, rfl, .ty _, .base (.tup h), kit_ty (by decide +kernel), true, rfl, iteT ?_⟩
      refine ⟨_, rfl, a, _, rfl, .inr (SqT.of h), rfl, _, rfl, iteT ?_⟩
      refine ⟨_, rfl, a, _, _, .str s, rfl, rfl, SqT.of h, atI_nat (j := 0) rfl, ?_⟩
      refine ⟨_, _, _, _, true, rfl, .ty _, .base (.str s), kit_ty (by decide +kernel), true, rfl, iteT ?_⟩
      refine ⟨_, rfl, a, _, _, .str s, rfl, rfl, SqT.of h, atI_nat (j := 0) rfl, ?_⟩
      refine ⟨aS, _, rfl, .inr (G.st H), rfl, strs_flat _, ?_⟩
      rw [inV_mem, decide_eq_true ok.1]
      exact q
/-! ### check_leaves, check_depth, within the limits -/
def spChk (n : Int) : Sp := fun vs H Q _ => ∃ i : Int, vs = [.int i] ∧ i ≤ n ∧ Q .non H
theorem scChkL : FnScope ["leaves"] ["leaves"] (defScope sChkL) := ⟨rfl, rfl, rfl, by decide +kernel, rfl, by decide +kernel, by decide +kernel⟩
theorem scChkD : FnScope ["depth"] ["depth"] (defScope sChkD) := ⟨rfl, rfl, rfl, by decide +kernel, rfl, by decide +kernel, by decide +kernel⟩
theorem ok_chkL {f : Addr} {fd : FuncData} (F : Fun K "check_leaves" "check_leaves" sChkL f fd) (G : Gf K mg aS) : FnOk P w K mg base CX0 1 f fd ["leaves"] (spChk 200) := by
  obtain ⟨t, ht⟩ := G.ml
  refine F.ok scChkL (fun vs H Q E h => ?_) (fun cdv A outer s H vs Q E hr h => ?_)
  · obtain ⟨i, rfl, _⟩ := h
    rfl
  · obtain ⟨i, rfl, le, q⟩ := h
    refine ⟨_, pss_one (ps_if (pt_cmpR op_gt (pv 0) (pe_glob (v := .int 200) (by rfl) ht ⟨_, rfl⟩) (nomark _)) pss_never pss_nil), ?_⟩
    refine ⟨_, rfl, _, _, rfl, rfl, _, rfl, ?_⟩
    rw [decide_eq_false (by omega)]
    exact iteF q
theorem ok_chkD {f : Addr} {fd : FuncData} (F : Fun K "check_depth" "check_depth" sChkD f fd) (G : Gf K mg aS) : FnOk P w K mg base CX0 1 f fd ["depth"] (spChk 20) := by
  obtain ⟨t, ht⟩ := G.md
  refine F.ok scChkD (fun vs H Q E h => ?_) (fun cdv A outer s H vs Q E hr h => ?_)
  · obtain ⟨i, rfl, _⟩ := h
    rfl
  · obtain ⟨i, rfl, le, q⟩ := h
    refine ⟨_, pss_one (ps_if (pt_cmpR op_gt (pv 0) (pe_glob (v := .int 20) (by rfl) ht ⟨_, rfl⟩) (nomark _)) pss_never pss_nil), ?_⟩
    refine ⟨_, rfl, _, _, rfl, rfl, _, rfl, ?_⟩
    rw [decide_eq_false (by omega)]
    exact iteF q
end
end K1

namespace K1
open PySem PySem.Spec
open PyProof.Rows L2 EnT StX SmX TxS DuX
/-! ### comprehensions whose steps make objects -/
def StepG (D : Addr) (H : Hp) (out : Nat → List V) (i : Nat) : VK := fun y H4 => Same H H4 ∧ H4 D = some (.lst (out i)) ∧ (out i).length < sizeLine ∧ out (i + 1) = out i ++ [y]
theorem lc_grow {K : PySem.W.Frag} {a : Addr} {xs : List V} {g : TG} {tt : TT} {te : TE} {vs : List Nat} {σ : L2.St} {H : Hp} {D : Addr} {Qd : Hp → Prop} (out : Nat → List V) (src : ∀ H', Same H H' → SqL K H' a xs) (nD : H D = none) (h0 : out 0 = [])
    (hs : ∀ i x H', xs[i]? = some x → Same H H' → H' D = some (.lst (out i)) → g x (wipe σ vs) H' fun σ2 H2 => wipe σ2 vs = wipe σ vs ∧ tt σ2 H2 fun b H3 => if b = true then te σ2 H3 (StepG D H out i) else (Same H H3 ∧ H3 D = some (.lst (out (i + 1)))))
    (hg : ∀ x H' (R R' : L2.St → Hp → Prop), (∀ s h, R s h → R' s h) → g x (wipe σ vs) H' R → g x (wipe σ vs) H' R')
    (ht : ∀ s h (R R' : Bool → Hp → Prop), (∀ b h', R b h' → R' b h') → tt s h R → tt s h R')
    (he : ∀ s h (R R' : VK), (∀ b h', R b h' → R' b h') → te s h R → te s h R')
    (hd : ∀ H', Same H H' → H' D = some (.lst (out xs.length)) → Qd H') :
    ∃ W : Nat → Nat → Hp → Prop, (∃ m, W 0 m (upd H D (.lst []))) ∧ ∀ i m H, W i m H →
      ((Itl K a).stop i H ∧ Qd H) ∨ ((Itl K a).go i H ∧ ∃ Nx : Hp → Prop, (∀ H', Nx H' → ∃ m', m' < m ∧ W (i + 1) m' H') ∧ ∀ x H', (Itl K a).yld i H x H' → g x (wipe σ vs) H' fun σ2 H2 => wipe σ2 vs = wipe σ vs ∧ tt σ2 H2 fun b H3 =>
        if b = true then te σ2 H3 fun y H4 => ∃ acc, H4 D = some (.lst acc) ∧ acc.length < sizeLine ∧ Nx (upd H4 D (.lst (acc ++ [y]))) else Nx H3) := by
  refine lc_list (K := K) (a := a) (xs := xs) (fun i H' => Same H H' ∧ H' D = some (.lst (out i))) ⟨same_upd nD, by rw [upd_same, h0]⟩ (fun i H' hi e => src _ e.1) (fun i x H' hx e => ?_) (fun H' e => hd _ e.1 e.2)
  refine hg x H' _ _ (fun s h r => ⟨r.1, ht _ _ _ _ (fun b h' q => ?_) r.2⟩) (hs i x H' hx e.1 e.2)
  cases b with
  | false => exact q
  | true =>
    refine he _ _ _ _ (fun y h4 z => ?_) q
    obtain ⟨s4, d4, l4, o4⟩ := z
    exact ⟨_, d4, l4, same_set s4 nD, by rw [upd_same, o4]⟩
/-! ### form_leaves -/
def spLeaves (n : Nat) : Sp := fun vs H Q _ => ∃ (v : V) (t : Fm), vs = [v] ∧ FmAt H v t ∧ t.dep ≤ n ∧ t.nl ≤ 1000 ∧ ∀ (q : Addr) (H' : Hp), H q = none → Same H H' → H' q = some (.lst (t.lvs.map V.str)) → Q (.ref q) H'
section
variable {w : World} {P : Program} {base : Heap} {mg : Str → Option Value} {K : PySem.W.Frag} {aS : Addr}
theorem scLeavesF : FnScope ["form"] ["form"] (defScope sLeavesF) := ⟨rfl, rfl, rfl, by decide +kernel, rfl, by decide +kernel, by decide +kernel⟩
theorem ok_leavesF {f : Addr} {fd : FuncData} (F : Fun K "form_leaves" "form_leaves" sLeavesF f fd) (T : Free mg) (mgF : mg "form_leaves" = some (.ref f)) : ∀ n : Nat, FnOk P w K mg base CX0 (n + 1) f fd ["form"] (spLeaves (n + 1)) := by
  have bF : L2.Binds K fd ["form"] [] := F.binds (ps := ["form"]) fun _ _ _ _ _ _ us hl => match us, hl with | [_], _ => rfl
  intro n
  induction n with
  | zero =>
    refine F.ok scLeavesF (fun vs H Q E h => ?_) (fun cdv A outer s H vs Q E hr h => ?_)
    · obtain ⟨v, t, rfl, _⟩ := h
      rfl
    · obtain ⟨v, t, rfl, m, d, l, q⟩ := h
      refine ⟨_, pss_cons (ps_if (pt_val (pe_callB call_isi (by rfl) T.isinstance (by decide +kernel) (pa_cons (pv 0) (pa_cons (pe_bltn (v := .ty "str") (u := .type "str") (by rfl) T.str (by decide +kernel) rfl) pa_nil)))) (pss_one (ps_ret (pe_lst (pa_cons (pv 0) pa_nil)))) pss_nil) pss_never, ?_⟩
      cases m with
      | leaf z => exact ⟨_, rfl, _, _, _, _, true, rfl, .ty _, .base (.str z), kit_ty (by decide +kernel), true, rfl, iteT ⟨_, rfl, (by show 1 ≤ sizeLine; decide), fun p np => q p _ np (same_upd np) upd_same⟩⟩
      | node h hl hr' =>
        rename_i a s' vl vr l' r'
        have := Fm.dep_pos l'
        rw [Fm.dep_node] at d
        omega
  | succ n ih =>
    have hF : Has P w K mg base CX0 (n + 1) "form_leaves" f ["form"] (spLeaves (n + 1)) := ⟨mgF, F.kp, fd, ih, bF⟩
    refine F.ok scLeavesF (fun vs H Q E h => ?_) (fun cdv A outer s H vs Q E hr h => ?_)
    · obtain ⟨v, t, rfl, _⟩ := h
      rfl
    · obtain ⟨v, t, rfl, m, d, l, q⟩ := h
      refine ⟨_, pss_cons (ps_if (pt_val (pe_callB call_isi (by rfl) T.isinstance (by decide +kernel) (pa_cons (pv 0) (pa_cons (pe_bltn (v := .ty "str") (u := .type "str") (by rfl) T.str (by decide +kernel) rfl) pa_nil)))) (pss_one (ps_ret (pe_lst (pa_cons (pv 0) pa_nil)))) pss_nil)
        (pss_one (ps_ret (pe_op op_cat (pe_has hF hr (by rfl) pass0 (pa_cons (pe_ix ix_tup (pv 0) pe_int (fun _ _ => rfl)) pa_nil)) (pe_has hF hr (by rfl) pass0 (pa_cons (pe_ix ix_tup (pv 0) pe_int (fun _ _ => rfl)) pa_nil))))), ?_⟩
      cases m with
      | leaf z => exact ⟨_, rfl, _, _, _, _, true, rfl, .ty _, .base (.str z), kit_ty (by decide +kernel), true, rfl, iteT ⟨_, rfl, (by show 1 ≤ sizeLine; decide), fun p np => q p _ np (same_upd np) upd_same⟩⟩
      | node h hl hr' =>
        rename_i a s' vl vr l' r'
        rw [Fm.dep_node] at d
        rw [Fm.nl_node] at l
        refine ⟨_, rfl, _, _, _, _, false, rfl, .ty _, .base (.tup h), kit_ty (by decide +kernel), false, rfl, iteF ?_⟩
        refine ⟨_, rfl, a, _, _, vl, rfl, rfl, SqT.of h, atI_nat (j := 1) rfl, vl, l', rfl, hl, by omega, by omega, fun q1 H1 n1 s1 h1 => ?_⟩
        refine ⟨_, rfl, a, _, _, vr, rfl, rfl, SqT.of (s1 _ _ h), atI_nat (j := 2) rfl, vr, r', rfl, hr'.same s1, by omega, by omega, fun q2 H2 n2 s2 h2 => ?_⟩
        have e1 : (l'.lvs.map V.str).length = l'.nl := List.length_map ..
        have e2 : (r'.lvs.map V.str).length = r'.nl := List.length_map ..
        refine ⟨q1, q2, _, _, rfl, rfl, s2 _ _ h1, h2, by rw [e1, e2, sizeLine_eq]; omega, fun p np => ?_⟩
        have s12 := s1.trans s2
        refine q p _ ?_ (s12.trans (same_upd np)) (by rw [upd_same, ← List.map_append]; rfl)
        cases hh : H p with
        | none => rfl
        | some o =>
          rw [s12 _ _ hh] at np
          cases np
/-! ### form_fields -/
def spFields (n : Nat) : Sp := fun vs H Q _ => ∃ (v : V) (t : Fm), vs = [v] ∧ FmAt H v t ∧ t.Ok ∧ t.dep ≤ n ∧ t.nl ≤ 500 ∧ ∀ (q : Addr) (ys : List Str) (H' : Hp), Same H H' → H' q = some (.tup (ys.map V.str)) → sortedS ys = true → ys.Nodup → (∀ z, z ∈ ys ↔ z ∈ t.lvs ∧ fieldB z = true) → Q (.ref q) H'
abbrev nmFF : List Str := ["form", "leaves", "leaf"]
theorem scFieldsF : FnScope nmFF ["form"] (defScope sFieldsF) := ⟨rfl, rfl, rfl, by decide +kernel, rfl, by decide +kernel, by decide +kernel⟩
theorem ok_fieldsF {n : Nat} {f fL fI : Addr} {fd : FuncData} (F : Fun K "form_fields" "form_fields" sFieldsF f fd) (T : Free mg) (hL : Has P w K mg base CX0 (n + 3) "form_leaves" fL ["form"] (spLeaves (n + 3))) (hI : Has P w K mg base CX0 2 "is_field" fI ["value"] spIsField) :
    FnOk P w K mg base CX0 (n + 4) f fd ["form"] (spFields (n + 3)) := by
  refine F.ok scFieldsF (fun vs H Q E h => ?_) (fun cdv A outer s H vs Q E hr h => ?_)
  · obtain ⟨v, t, rfl, _⟩ := h
    rfl
  · obtain ⟨v, t, rfl, m, ok, d, l, q⟩ := h
    refine ⟨_, pss_cons (ps_set (i := 1) scFieldsF.nd rfl (.inl rfl) (pe_has hL hr (by rfl) pass0 (pa_cons (pv 0) pa_nil)))
      (pss_one (ps_ret (pe_callTy call_tuple_of (by rfl) T.tuple (by decide +kernel) (pa_cons (pe_sortSet rfl (by rfl) T.sorted (by rfl) T.set (pe_lc (own := [("leaf", 2)]) (g := gName 2) (tt := tTest (tCall spIsField [] E0 (tCons (tVar 2) tNil))) rfl scFieldsF.nd (pi_list (pv 1))
            (blkOk_by (own := [("leaf", 2)]) (N := nmFF) (sc := defScope sFieldsF) (by decide +kernel)) (fun _ _ _ _ _ => pg_name (i := 2) scFieldsF.nd rfl (Or.inl rfl))
            (fun _ _ _ _ _ => pts_one (pt_val (pe_has hI (hr.mono (by omega)) (by rfl) pass0 (pa_cons (pv 2) pa_nil)))) (fun _ _ _ _ _ => pv 2))) pa_nil)))), ?_⟩
    have lt : t.lvs.length ≤ 500 := l
    refine ⟨_, rfl, v, t, rfl, m, d, by omega, fun q1 H1 n1 s1 h1 => ?_⟩
    refine ⟨_, rfl, q1, rfl, ⟨_, SqL.of h1⟩, fun D1 nD => lc_grow (K := K) (a := q1) (xs := t.lvs.map V.str) (outF t.lvs fieldB) (fun H' e => SqL.of (e _ _ h1)) nD rfl (fun i x H' hx e1 e2 => ?_) (fun x H' R R' h hh => h _ _ hh) (fun s h R R' k hh => ?_) (fun s h R R' k hh => ?_) fun H2 s2 h2 => ?_⟩
    · obtain ⟨z, hz, rfl⟩ := str_at hx
      refine ⟨rfl, _, rfl, z, rfl, ok.names z (List.mem_of_getElem? hz), fun H2 s2 => ⟨_, rfl, ?_⟩⟩
      cases hf : fieldB z with
      | true => exact iteT ⟨_, rfl, e1.trans s2, s2 _ _ e2, outF_len (by omega), outF_yes hz hf⟩
      | false => exact iteF ⟨e1.trans s2, by rw [outF_no hz hf]; exact s2 _ _ e2⟩
    · obtain ⟨v', e, z, e2, nz, q⟩ := hh
      exact ⟨v', e, z, e2, nz, fun H' s' => by
        obtain ⟨k', e3, r⟩ := q H' s'
        exact ⟨k', e3, k _ _ r⟩⟩
    · obtain ⟨v', e, r⟩ := hh
      exact ⟨v', e, k _ _ r⟩
    · rw [outF_end (List.length_map ..)] at h2
      have lF := List.length_filter_le fieldB t.lvs
      refine ⟨D1, t.lvs.filter fieldB, rfl, .inl (SqL.of h2), by omega, fun ys q2 srt nd mem lys nq2 => ?_⟩
      have s3 : Same H2 (upd H2 q2 (.lst (ys.map V.str))) := same_upd nq2
      refine ⟨q2, _, rfl, .inl ⟨SqL.of upd_same, fun tp ntp => ?_⟩⟩
      have s4 := same_upd (o := .tup (ys.map V.str)) ntp
      exact q tp ys _ (((s1.trans s2).trans s3).trans s4) upd_same srt nd fun z => (mem z).trans (by rw [List.mem_filter])
end
end K1

namespace K1
open PySem PySem.Spec
open PyProof.Rows L2 EnT StX SmX TxS DuX
namespace Fm
theorem lay : ∀ {t : Fm}, t.Ok → PyData.canLay0 t.dat = true
  | .leaf z, h => by
    have := strOk_low (name_low (show nameB z = true from h))
    simp [dat, PyData.canLay0, this]
  | .node s l r, h => by
    have a := lay h.2.1
    have b := lay h.2.2
    have c := (sign_ok h.1).2
    simp [dat, PyData.canLay0, PyData.canLayAll0, a, b, c]
theorem ddep : ∀ t : Fm, PyData.depth t.dat + 1 = t.dep
  | .leaf z => rfl
  | .node s l r => by
    have a := ddep l
    have b := ddep r
    rw [dep_node]
    simp only [dat, PyData.depth, PyData.depthAll]
    omega
theorem shaped {t : Fm} (h : t.Ok) (d : t.dep ≤ 60) : SeqAt.shaped t.dat = true := by
  show (PyData.canLay0 t.dat && decide (PyData.depth t.dat ≤ 64)) = true
  rw [lay h, Bool.true_and]
  have := ddep t
  exact decide_eq_true (by omega)
theorem eqv_eq : ∀ {t u : Fm}, PyData.eqv t.dat u.dat = true → t = u
  | .leaf z, .leaf y, h => by
    simp only [dat, PyData.eqv] at h
    rw [beq_iff_eq.mp h]
  | .leaf z, .node _ _ _, h => by simp [dat, PyData.eqv] at h
  | .node _ _ _, .leaf z, h => by simp [dat, PyData.eqv] at h
  | .node s l r, .node s' l' r', h => by
    simp only [dat, PyData.eqv, PyData.eqvAll, Bool.and_eq_true, Bool.and_true] at h
    obtain ⟨h1, h2, h3⟩ := h
    rw [beq_iff_eq.mp h1, eqv_eq h2, eqv_eq h3]
theorem eqv_self {t : Fm} (h : t.Ok) : PyData.eqv t.dat t.dat = true := SeqAt.eqv_refl _ (lay h)
end Fm
/-! ### form_size -/
structure It4 where
  a : Addr
  v : V
  m : Nat
  k : Nat
  t : Fm
structure ItOk (H : Hp) (i : It4) : Prop where
  h : H i.a = some (.tup [i.v, .int i.m, .int i.k])
  f : FmAt H i.v i.t
  ok : i.t.Ok
  m1 : 1 ≤ i.m
  k1 : 1 ≤ i.k
theorem ItOk.keep {H H' : Hp} {i : It4} (k : TupK H H') (x : ItOk H i) : ItOk H' i := ⟨k _ _ x.h, x.f.keep k, x.ok, x.m1, x.k1⟩
def lsum : List It4 → Nat
  | [] => 0
  | i :: r => i.m * i.t.nl + lsum r
def lmax : List It4 → Nat
  | [] => 0
  | i :: r => max (i.k + i.t.dep - 1) (lmax r)
def lsz : List It4 → Nat
  | [] => 0
  | i :: r => i.t.size + lsz r
theorem lsum_app : ∀ (x y : List It4), lsum (x ++ y) = lsum x + lsum y
  | [], y => by simp [lsum]
  | i :: r, y => by
    have := lsum_app r y
    simp only [List.cons_append, lsum, this]
    omega
theorem lsz_app : ∀ (x y : List It4), lsz (x ++ y) = lsz x + lsz y
  | [], y => by simp [lsz]
  | i :: r, y => by
    have := lsz_app r y
    simp only [List.cons_append, lsz, this]
    omega
theorem lmax_app : ∀ (x y : List It4), lmax (x ++ y) = max (lmax x) (lmax y)
  | [], y => by simp [lmax]
  | i :: r, y => by
    have := lmax_app r y
    simp only [List.cons_append, lmax, this]
    omega
theorem lsum_len : ∀ {l : List It4}, (∀ i ∈ l, 1 ≤ i.m) → l.length ≤ lsum l
  | [], _ => Nat.le_refl _
  | i :: r, h => by
    have a := lsum_len (l := r) fun j hj => h j (List.mem_cons_of_mem _ hj)
    have b := h i List.mem_cons_self
    have c := Fm.nl_pos i.t
    have d : 1 * 1 ≤ i.m * i.t.nl := Nat.mul_le_mul b c
    simp only [List.length_cons, lsum]
    omega
def spSize : Sp := fun vs H Q _ => ∃ (v : V) (t : Fm), vs = [v] ∧ FmAt H v t ∧ t.Ok ∧ t.nl ≤ 500 ∧ t.dep ≤ 60 ∧ ∀ (q : Addr) (H' : Hp), Same H H' → H' q = some (.tup [.int t.nl, .int t.dep]) → Q (.ref q) H'
abbrev nmSz : List Str := ["value", "leaves", "depth", "parts", "part", "times", "level", "side"]
theorem scSize : FnScope nmSz ["value"] (defScope sSize) := ⟨rfl, rfl, rfl, by decide +kernel, rfl, by decide +kernel, by decide +kernel⟩
structure AtSz (T : Fm) (L : Addr) (H0 : Hp) (m : Nat) (σ : L2.St) (H : Hp) : Prop where
  ex : ∃ (its : List It4) (lv dp : Nat) (x0 x4 x5 x6 x7 : Option V), σ = [x0, some (.int lv), some (.int dp), some (.ref L), x4, x5, x6, x7] ∧ m = lsz its ∧ H L = some (.lst (its.map fun i => V.ref i.a)) ∧ (∀ i ∈ its, ItOk H i) ∧ lv + lsum its = T.nl ∧ max dp (lmax its) = T.dep ∧ Same H0 H
abbrev cxZ (P : Program) (w : World) (K : PySem.W.Frag) (mg : Str → Option Value) (base : Heap) (f : Addr) (cdv : Value) (A : Around) (outer : List Env) (s : Shared) (H : Hp) (E : XK) : Cx := (cxOf CX0 P w K mg base nmSz "form_size" (defScope sSize) f cdv A outer s H E).nox
def whB : List Stmt := match defBody sSize with
  | _ :: _ :: (.While _ b _ _) :: _ => b
  | _ => []
/-- a turn of the loop, behind the depth -/
structure AtB (R : Fm → Prop) (T : Fm) (L : Addr) (H0 : Hp) (σ : L2.St) (H : Hp) (En : Ends) : Prop where
  ex : ∃ (its : List It4) (v : V) (t : Fm) (lv dp m k M : Nat) (x0 x7 : Option V), σ = [x0, some (.int lv), some (.int dp), some (.ref L), some v, some (.int m), some (.int k), x7] ∧ H L = some (.lst (its.map fun i => V.ref i.a)) ∧ (∀ i ∈ its, ItOk H i) ∧ FmAt H v t ∧ t.Ok ∧ R t ∧ 1 ≤ m ∧ 1 ≤ k ∧ k ≤ dp ∧
    lv + (lsum its + m * t.nl) = T.nl ∧ max dp (max (lmax its) (k + t.dep - 1)) = T.dep ∧ lsz its + t.size ≤ M ∧ Same H0 H ∧ H0 L = none ∧ T.nl ≤ 500 ∧ T.dep ≤ 60 ∧ ∀ σ' H', (∃ m', m' < M ∧ AtSz T L H0 m' σ' H') → En.nx σ' H'
section
variable {w : World} {P : Program} {base : Heap} {mg : Str → Option Value} {K : PySem.W.Frag} {aS : Addr}
variable {f fN fT : Addr} {cdv : Value} {A : Around} {outer : List Env} {s : Shared} {H00 : Hp} {E : XK} {T0 : Fm} {L : Addr} {H0 : Hp}
def inIf : List Stmt → List Stmt × List Stmt
  | [.If _ a b _] => (a, b)
  | _ => ([], [])
def whI : List Stmt × List Stmt := inIf (inIf (inIf (whB.drop 2)).2).2
theorem sz_app (T : Free mg) (hr : Room 1 (A.deeper (envOfC "form_size" (defScope sSize) s.heap.objs.size f cdv))) :
    PSs (cxZ P w K mg base f cdv A outer s H00 E) whI.1 (fun En σ H => AtB (fun t => ∃ s l, t = .node s l l) T0 L H0 σ H En) := by
  refine pss_of fun En σ H hyp => ?_
  obtain ⟨its, v, t, lv, dp, m, k, M, x0, x7, eσ, hL, hi, ft, ok, rt, m1, k1, kd, e1, e2, e3, s0, nL, l5, d6, fin⟩ := hyp.ex
  refine ⟨_, pss_one (ps_expr (pe_bm PySem.F.plainAttrs_list PySem.F.slot_list_append PySem.F.type_list_append mt_append (pv 3) (pa_cons (pe_tup (pa_cons (pe_ix ix_tup (pv 4) pe_int (fun _ _ => rfl)) (pa_cons (pe_op op_add (pv 5) (pv 5)) (pa_cons (pe_op op_add (pv 6) pe_int) pa_nil)))) pa_nil))), ?_⟩
  subst eσ
  obtain ⟨s', l, rfl⟩ := rt
  cases ft with
  | node h hl hr' =>
    rename_i a vl vr
    have hlen : its.length ≤ 500 := by
      have := lsum_len (l := its) fun i hx => (hi i hx).m1
      omega
    refine ⟨_, rfl, .inl ⟨rfl, _, SqL.of hL⟩, ?_⟩
    refine ⟨_, rfl, a, _, _, vl, rfl, rfl, SqT.of h, atI_nat (j := 1) rfl, _, rfl, _, rfl, _, _, rfl, rfl, _, rfl, _, _, rfl, rfl, (by show 3 ≤ sizeLine; decide), fun p np => ?_⟩
    have s1 : Same H (upd H p (.tup [vl, .int ((m : Int) + m), .int ((k : Int) + 1)])) := same_upd np
    refine ⟨L, _, _, rfl, rfl, s1 _ _ hL, by rw [List.length_map, sizeLine_eq]; omega, ?_⟩
    have kp : TupK H (upd (upd H p (.tup [vl, .int ((m : Int) + m), .int ((k : Int) + 1)])) L (.lst (its.map (fun i => V.ref i.a) ++ [.ref p]))) := (TupK.same s1).set (s1 _ _ hL)
    have em : (m : Int) + m = ((m + m : Nat) : Int) := by omega
    have ek : (k : Int) + 1 = ((k + 1 : Nat) : Int) := by omega
    have pL : p ≠ L := fun e => by rw [e, hL] at np; cases np
    have hp : (upd (upd H p (.tup [vl, .int ((m : Int) + m), .int ((k : Int) + 1)])) L (.lst (its.map (fun i => V.ref i.a) ++ [.ref p]))) p = some (.tup [vl, .int (m + m : Nat), .int (k + 1 : Nat)]) := by
      rw [upd_ne pL, upd_same, em, ek]
    refine fin _ _ ⟨lsz (its ++ [⟨p, vl, m + m, k + 1, l⟩]), ?_, its ++ [⟨p, vl, m + m, k + 1, l⟩], lv, dp, _, _, _, _, _, rfl, rfl, by rw [upd_same, List.map_append]; rfl, fun i hx => ?_, ?_, ?_, same_set (s0.trans s1) nL⟩
    · rw [lsz_app]
      have := Fm.size_pos l
      simp only [lsz]
      simp only [Fm.size] at e3
      omega
    · rcases List.mem_append.mp hx with e | e
      · exact (hi i e).keep kp
      · rw [List.mem_singleton.mp e]
        exact ⟨hp, hl.keep kp, ok.2.1, by show 1 ≤ m + m; omega, by show 1 ≤ k + 1; omega⟩
    · rw [lsum_app]
      rw [Fm.nl_node, Nat.mul_add] at e1
      simp only [lsum, Nat.add_mul]
      omega
    · rw [lmax_app]
      rw [Fm.dep_node] at e2
      have := Fm.dep_pos l
      simp only [lmax]
      omega
theorem sz_ext (T : Free mg) (hr : Room 1 (A.deeper (envOfC "form_size" (defScope sSize) s.heap.objs.size f cdv))) :
    PSs (cxZ P w K mg base f cdv A outer s H00 E) whI.2 (fun En σ H => AtB (fun t => isNode t = true) T0 L H0 σ H En) := by
  refine pss_of fun En σ H hyp => ?_
  obtain ⟨its, v, t, lv, dp, m, k, M, x0, x7, eσ, hL, hi, ft, ok, rt, m1, k1, kd, e1, e2, e3, s0, nL, l5, d6, fin⟩ := hyp.ex
  refine ⟨_, pss_one (ps_expr (pe_bm PySem.F.plainAttrs_list PySem.F.slot_list_extend PySem.F.type_list_extend mt_extend (pv 3) (pa_cons (pe_lc (own := [("side", 7)]) (g := gName 7) (tt := tYes) (te := tTup (tCons (tVar 7) (tCons (tVar 5) (tCons (tOp (rI0 fun i j => .int (i + j)) (tVar 6) (tC (.int 1))) tNil)))) rfl scSize.nd (pi_tup (pe_slice sl_tup (pv 4) (po_some pe_int) po_none))
              (blkOk_by (own := [("side", 7)]) (N := nmSz) (sc := defScope sSize) (by decide +kernel)) (fun _ _ _ _ _ => pg_name (i := 7) scSize.nd rfl (Or.inl rfl)) (fun _ _ _ _ _ => pts_nil)
              (fun _ _ _ _ _ => pe_tup (pa_cons (pv 7) (pa_cons (pv 5) (pa_cons (pe_op op_add (pv 6) pe_int) pa_nil))))) pa_nil))), ?_⟩
  subst eσ
  cases ft with
  | leaf z => cases rt
  | node h hl hr' =>
    rename_i a s' vl vr l r
    have hlen : its.length ≤ 500 := by
      have := lsum_len (l := its) fun i hx => (hi i hx).m1
      omega
    refine ⟨_, rfl, .inl ⟨rfl, _, SqL.of hL⟩, ?_⟩
    refine ⟨_, rfl, 1, rfl, a, _, rfl, SqT.of h, (fun e => absurd e.1 (by show ¬ (HT.sIx 3 0 (some 1) = 0); decide)), fun pp npp => ?_⟩
    have s1 : Same H (upd H pp (.tup [vl, vr])) := same_upd npp
    have hpp : (upd H pp (.tup [vl, vr])) pp = some (.tup [vl, vr]) := upd_same
    refine ⟨pp, rfl, ⟨_, SqT.of upd_same⟩, fun D nD => ?_⟩
    refine lc_tup (K := K) (a := pp) (xs := [vl, vr]) (fun i H' => Same (upd H pp (.tup [vl, vr])) H' ∧ ∃ ps : List Addr, ps.length = i ∧ H' D = some (.lst (ps.map V.ref)) ∧ ∀ (j : Nat) (q : Addr) (u : V), ps[j]? = some q → ([vl, vr] : List V)[j]? = some u → H' q = some (.tup [u, .int m, .int ((k : Int) + 1)])) ?_ ?_ ?_ ?_
    · exact ⟨same_upd nD, [], rfl, upd_same, fun j q u e => by cases e⟩
    · rintro i H' _ ⟨s2, _⟩
      exact SqT.of (s2 _ _ hpp)
    · rintro i x H' hx ⟨s2, ps, lp, hD, hq⟩
      have hi2 : i < 2 := (List.getElem?_eq_some_iff.mp hx).1
      refine ⟨rfl, _, rfl, _, rfl, _, rfl, _, _, rfl, rfl, (by show 3 ≤ sizeLine; decide), fun q nq => ?_⟩
      have s3 : Same H' (upd H' q (.tup [x, .int m, .int ((k : Int) + 1)])) := same_upd nq
      have hD3 := s3 _ _ hD
      have nqD : q ≠ D := fun e => by rw [e, hD] at nq; cases nq
      refine ⟨_, hD3, by rw [List.length_map, lp, sizeLine_eq]; omega, same_set (s2.trans s3) nD, ps ++ [q], by rw [List.length_append, lp]; rfl, by rw [upd_same, List.map_append]; rfl, fun j q' u e1 e2 => ?_⟩
      by_cases hj : j < ps.length
      · rw [List.getElem?_append_left hj] at e1
        have z := hq j q' u e1 e2
        rw [upd_ne (fun e => by rw [e, hD] at z; cases z)]
        exact s3 _ _ z
      · rw [List.getElem?_append_right (by omega)] at e1
        have e : j - ps.length = 0 := by
          have := (List.getElem?_eq_some_iff.mp e1).1
          simp at this
          omega
        rw [e] at e1
        cases e1
        have ej : j = i := by omega
        rw [ej, hx] at e2
        cases e2
        rw [upd_ne nqD, upd_same]
    · rintro H' ⟨s2, ps, lp, hD, hq⟩
      obtain ⟨p1, p2, rfl⟩ : ∃ p1 p2, ps = [p1, p2] := by
        match ps, lp with
        | [p1, p2], _ => exact ⟨p1, p2, rfl⟩
      have q1 := hq 0 p1 vl rfl rfl
      have q2 := hq 1 p2 vr rfl rfl
      have s12 := s1.trans s2
      refine ⟨L, D, _, _, rfl, rfl, s12 _ _ hL, hD, by rw [List.length_map, sizeLine_eq]; show its.length + 2 ≤ _; omega, ?_⟩
      have kp : TupK H (upd H' L (.lst (its.map (fun i => V.ref i.a) ++ [V.ref p1, V.ref p2]))) := (TupK.same s12).set (s12 _ _ hL)
      have ek : (k : Int) + 1 = ((k + 1 : Nat) : Int) := by omega
      have g1 : (upd H' L (.lst (its.map (fun i => V.ref i.a) ++ [V.ref p1, V.ref p2]))) p1 = some (.tup [vl, .int m, .int (k + 1 : Nat)]) := by
        rw [upd_ne (fun e => by rw [e, s12 _ _ hL] at q1; cases q1), ← ek]
        exact q1
      have g2 : (upd H' L (.lst (its.map (fun i => V.ref i.a) ++ [V.ref p1, V.ref p2]))) p2 = some (.tup [vr, .int m, .int (k + 1 : Nat)]) := by
        rw [upd_ne (fun e => by rw [e, s12 _ _ hL] at q2; cases q2), ← ek]
        exact q2
      refine fin _ _ ⟨lsz (its ++ [⟨p1, vl, m, k + 1, l⟩, ⟨p2, vr, m, k + 1, r⟩]), ?_, its ++ [⟨p1, vl, m, k + 1, l⟩, ⟨p2, vr, m, k + 1, r⟩], lv, dp, _, _, _, _, _, rfl, rfl, by rw [upd_same, List.map_append]; rfl, fun i hx => ?_, ?_, ?_, same_set (s0.trans s12) nL⟩
      · rw [lsz_app]
        simp only [lsz]
        simp only [Fm.size] at e3
        omega
      · rcases List.mem_append.mp hx with e | e
        · exact (hi i e).keep kp
        · simp only [List.mem_cons, List.not_mem_nil, or_false] at e
          rcases e with rfl | rfl
          · exact ⟨g1, hl.keep kp, ok.2.1, m1, by show 1 ≤ k + 1; omega⟩
          · exact ⟨g2, hr'.keep kp, ok.2.2, m1, by show 1 ≤ k + 1; omega⟩
      · rw [lsum_app]
        rw [Fm.nl_node, Nat.mul_add] at e1
        simp only [lsum]
        omega
      · rw [lmax_app]
        rw [Fm.dep_node] at e2
        have := Fm.dep_pos l
        have := Fm.dep_pos r
        simp only [lmax]
        omega
theorem sz_rest (T : Free mg) (hN : Has P w K mg base CX0 1 "is_name" fN ["value"] spIsName) (hT : Has P w K mg base CX0 1 "is_triple" fT ["value"] spTriple) (hr : Room 1 (A.deeper (envOfC "form_size" (defScope sSize) s.heap.objs.size f cdv))) :
    PSs (cxZ P w K mg base f cdv A outer s H00 E) (whB.drop 2) (fun En σ H => AtB (fun _ => True) T0 L H0 σ H En) := by
  refine pss_of fun En σ H hyp => ?_
  obtain ⟨its, v, t, lv, dp, m, k, M, x0, x7, eσ, hL, hi, ft, ok, rt, m1, k1, kd, e1, e2, e3, s0, nL, l5, d6, fin⟩ := hyp.ex
  have hun := hr.un
  refine ⟨_, pss_one (ps_if (pt_val (pe_has hN hr (by rfl) pass0 (pa_cons (pv 4) pa_nil)))
          (pss_one (ps_set (i := 1) scSize.nd rfl (.inl rfl) (pe_op op_add (pv 1) (pv 5))))
          (pss_one (ps_if (pt_not (pt_val (pe_has hT hr (by rfl) pass0 (pa_cons (pv 4) pa_nil)))) pss_never
          (pss_one (ps_if (PW.pt (pw_and (pt_val (pe_has hT hr (by rfl) pass0 (pa_cons (pe_ix ix_tup (pv 4) pe_int (fun _ _ => rfl)) pa_nil))) (pw_and1 (pt_cmpR (op_eqD (by show (A.deeper (envOfC "form_size" (defScope sSize) s.heap.objs.size f cdv)).units + 64 < cLine; omega)) (pe_ix ix_tup (pv 4) pe_int (fun _ _ => rfl)) (pe_ix ix_tup (pv 4) pe_int (fun _ _ => rfl)) (nomark _)))))
            (sz_app (T0 := T0) (L := L) (H0 := H0) T hr)
            (sz_ext (T0 := T0) (L := L) (H0 := H0) T hr)))))), ?_⟩
  subst eσ
  refine ⟨_, rfl, v, rfl, ft.vok ok, _, rfl, ?_⟩
  cases ft with
  | leaf z =>
    rw [show nameV (.str z) = true from ok]
    refine iteT ⟨_, rfl, _, rfl, _, _, rfl, rfl, ?_⟩
    refine fin _ _ ⟨lsz its, ?_, its, lv + m, dp, _, _, _, _, _, rfl, rfl, hL, hi, ?_, ?_, s0⟩
    · have : (Fm.leaf z).size = 1 := rfl
      omega
    · have : m * (Fm.leaf z).nl = m := Nat.mul_one m
      omega
    · have : (Fm.leaf z).dep = 1 := rfl
      rw [this] at e2
      omega
  | node h hl hr' =>
    rename_i a s' vl vr l r
    rw [show nameV (.ref a) = false from rfl]
    refine iteF ?_
    refine ⟨_, rfl, .ref a, .node s' l r, rfl, .node h hl hr', ok, _, rfl, iteF ?_⟩
    refine ⟨_, rfl, a, _, _, vl, rfl, rfl, SqT.of h, atI_nat (j := 1) rfl, vl, l, rfl, hl, ok.2.1, _, rfl, ?_⟩
    have st : AtB (fun t => isNode t = true) T0 L H0 [x0, some (.int lv), some (.int dp), some (.ref L), some (.ref a), some (.int m), some (.int k), x7] H En := ⟨its, .ref a, .node s' l r, lv, dp, m, k, M, x0, x7, rfl, hL, hi, .node h hl hr', ok, rfl, m1, k1, kd, e1, e2, e3, s0, nL, l5, d6, fin⟩
    cases hn : isNode l with
    | false => exact iteF (iteF st)
    | true =>
      have dl : l.dep ≤ 60 ∧ r.dep ≤ 60 := by
        rw [Fm.dep_node] at e2
        omega
      refine iteT ⟨_, rfl, a, _, _, vl, rfl, rfl, SqT.of h, atI_nat (j := 1) rfl, _, rfl, a, _, _, vr, rfl, rfl, SqT.of h, atI_nat (j := 2) rfl, _, _, hl.dp, hr'.dp, Fm.shaped ok.2.1 dl.1, Fm.shaped ok.2.2 dl.2, _, rfl, ?_⟩
      cases he : PyData.eqv l.dat r.dat with
      | false => exact iteF st
      | true =>
        have er := Fm.eqv_eq he
        exact iteT ⟨its, .ref a, .node s' l r, lv, dp, m, k, M, x0, x7, rfl, hL, hi, .node h hl hr', ok, ⟨s', l, by rw [er]⟩, m1, k1, kd, e1, e2, e3, s0, nL, l5, d6, fin⟩
end
end K1

namespace K1
open PySem PySem.Spec
open PyProof.Rows L2 EnT StX SmX TxS DuX
section
variable {w : World} {P : Program} {base : Heap} {mg : Str → Option Value} {K : PySem.W.Frag} {aS : Addr}
theorem sz_any {f fN fT : Addr} {cdv : Value} {A : Around} {outer : List Env} {s : Shared} {H00 : Hp} {E : XK} (T0 : Fm) (H0 : Hp) (T : Free mg) (hN : Has P w K mg base CX0 1 "is_name" fN ["value"] spIsName) (hT : Has P w K mg base CX0 1 "is_triple" fT ["value"] spTriple) (hr : Room 1 (A.deeper (envOfC "form_size" (defScope sSize) s.heap.objs.size f cdv))) :
    PSs (cxZ P w K mg base f cdv A outer s H00 E) (whB.drop 2) (fun En σ H => ∃ L, AtB (fun _ => True) T0 L H0 σ H En) := pss_of fun En σ H h => by
  obtain ⟨L, h⟩ := h
  exact ⟨_, sz_rest (T0 := T0) (L := L) (H0 := H0) T hN hT hr, h⟩
theorem ok_size {f fN fT : Addr} {fd : FuncData} (F : Fun K "form_size" "form_size" sSize f fd) (T : Free mg) (hN : Has P w K mg base CX0 1 "is_name" fN ["value"] spIsName) (hT : Has P w K mg base CX0 1 "is_triple" fT ["value"] spTriple) : FnOk P w K mg base CX0 2 f fd ["value"] spSize := by
  refine F.ok scSize (fun vs H Q E h => ?_) (fun cdv A outer s H vs Q E hr h => ?_)
  · obtain ⟨v, t, rfl, _⟩ := h
    rfl
  · obtain ⟨v, t, rfl, mt, ok, l5, d6, q⟩ := h
    refine ⟨_, pss_cons (ps_asg2 pe_int (pg_name (i := 1) scSize.nd rfl (.inl rfl)) (pg_name (i := 2) scSize.nd rfl (.inl rfl)))
      (pss_cons (ps_set (i := 3) scSize.nd rfl (.inl rfl) (pe_lst (pa_cons (pe_tup (pa_cons (pv 0) (pa_cons pe_int (pa_cons pe_int pa_nil)))) pa_nil)))
      (pss_cons (ps_while PassesOwn.never (pt_truth (pv 3) (by intro _; rfl))
        (pss_cons (ps_asg (pe_bm0 PySem.F.plainAttrs_list PySem.F.slot_list_pop PySem.F.type_list_pop mt_pop (pv 3)) (pg_tup rfl (pgs_cons (pg_name (i := 4) scSize.nd rfl (.inl rfl)) (pgs_cons (pg_name (i := 5) scSize.nd rfl (.inr rfl)) (pgs_cons (pg_name (i := 6) scSize.nd rfl (.inr rfl)) pgs_nil)))))
        (pss_cons (ps_set (i := 2) scSize.nd rfl (.inl rfl) (pe_ifExp (pt_cmpR op_gt (pv 6) (pv 2) (nomark _)) (pv 6) (pv 2)))
        (sz_any t H T hN hT hr))))
      (pss_one (ps_ret (pe_tup (pa_cons (pv 1) (pa_cons (pv 2) pa_nil))))))), ?_⟩
    refine ⟨_, rfl, (by show 3 ≤ sizeLine; decide), fun a1 n1 => ⟨(by show 1 ≤ sizeLine; decide), fun L nL => ?_⟩⟩
    have s1 : Same H (upd H a1 (.tup [v, .int 1, .int 1])) := same_upd n1
    have h1 : (upd H a1 (.tup [v, .int 1, .int 1])) a1 = some (.tup [v, .int 1, .int 1]) := upd_same
    have nL0 : H L = none := by
      cases hh : H L with
      | none => rfl
      | some o =>
        rw [s1 _ _ hh] at nL
        cases nL
    have s2 := s1.trans (same_upd (o := .lst [.ref a1]) nL)
    have h2 := (same_upd (o := .lst [.ref a1]) nL) _ _ h1
    refine ⟨fun m σ H' => AtSz t L H m σ H', ⟨lsz [⟨a1, v, 1, 1, t⟩], [⟨a1, v, 1, 1, t⟩], 0, 0, _, _, _, _, _, rfl, rfl, upd_same, fun i hi => ?_, ?_, ?_, s2⟩, ?_⟩
    · rw [List.mem_singleton.mp hi]
      exact ⟨h2, mt.same s2, ok, Nat.le_refl _, Nat.le_refl _⟩
    · show 0 + (1 * t.nl + 0) = t.nl
      omega
    · have := Fm.dep_pos t
      show max 0 (max (1 + t.dep - 1) 0) = t.dep
      omega
    · rintro m σ1 H1 ⟨its, lv, dp, x0, x4, x5, x6, x7, rfl, rfl, hL, hi, e1, e2, s0⟩
      refine ⟨_, rfl, _, .inl ⟨_, SqL.of hL, rfl⟩, ?_⟩
      rcases List.eq_nil_or_concat its with rfl | ⟨ini, x, rfl⟩
      · refine iteF ?_
        refine ⟨_, rfl, _, rfl, (by show 2 ≤ sizeLine; decide), fun p np => ?_⟩
        have z1 : lv = t.nl := e1
        have z2 : dp = t.dep := by
          rw [← e2]
          show dp = max dp 0
          omega
        rw [z1, z2]
        exact q p _ (s0.trans (same_upd np)) upd_same
      · rw [List.concat_eq_append] at hL hi e1 e2 ⊢
        have em : ((ini ++ [x]).map fun i => V.ref i.a) = (ini.map fun i => V.ref i.a) ++ [.ref x.a] := by rw [List.map_append]; rfl
        rw [em] at hL ⊢
        have ek : (!((ini.map fun i => V.ref i.a) ++ [V.ref x.a]).isEmpty) = true := by simp
        rw [ek]
        refine iteT ⟨fun σ' H' => ∃ m', m' < lsz (ini ++ [x]) ∧ AtSz t L H m' σ' H', fun σ' H' h => h, ?_⟩
        have X := hi x (by simp)
        refine ⟨_, rfl, .inl ⟨rfl, _, SqL.of hL⟩, L, _, .ref x.a, rfl, rfl, hL, by simp, ?_⟩
        have ed : ((ini.map fun i => V.ref i.a) ++ [V.ref x.a]).dropLast = ini.map fun i => V.ref i.a := by simp
        rw [ed]
        have kp : TupK H1 (upd H1 L (.lst (ini.map fun i => V.ref i.a))) := TupK.set (H := H1) (H' := H1) (fun a xs h => h) hL
        have s3 : Same H (upd H1 L (.lst (ini.map fun i => V.ref i.a))) := same_set s0 nL0
        have X' := X.keep kp
        have hL' : (upd H1 L (.lst (ini.map fun i => V.ref i.a))) L = some (.lst (ini.map fun i => V.ref i.a)) := upd_same
        generalize upd H1 L (.lst (ini.map fun i => V.ref i.a)) = H2 at kp s3 X' hL' ⊢
        refine ⟨x.a, _, rfl, SqT.of X'.h, rfl, _, _, rfl, _, _, rfl, _, _, rfl, rfl, ?_⟩
        refine ⟨_, rfl, _, rfl, _, _, rfl, rfl, _, rfl, ?_⟩
        rw [lsum_app] at e1
        rw [lmax_app] at e2
        simp only [lsum, lmax] at e1 e2
        have D := Fm.dep_pos x.t
        have K1' := X.k1
        have key : ∀ dp' : Nat, dp' = max dp x.k → ∀ σ' : L2.St, σ' = [x0, some (.int lv), some (.int dp'), some (.ref L), some x.v, some (.int x.m), some (.int x.k), x7] → ∀ En : Ends, (∀ σ' H', (∃ m', m' < lsz (ini ++ [x]) ∧ AtSz t L H m' σ' H') → En.nx σ' H') → ∃ L', AtB (fun _ => True) t L' H σ' H2 En := fun dp' ed' σ' es En hn => ⟨L, ini, x.v, x.t, lv, dp', x.m, x.k, lsz (ini ++ [x]), _, _, es, hL', fun i hx => (hi i (by simp [hx])).keep kp, X'.f, X.ok, trivial, X.m1, X.k1, by omega, by omega, by omega, by rw [lsz_app]; simp only [lsz]; omega, s3, nL0, l5, d6, hn⟩
        by_cases hk : ((x.k : Nat) : Int) > ((dp : Nat) : Int)
        · rw [decide_eq_true hk]
          exact iteT ⟨_, rfl, key x.k (by omega) _ rfl _ fun σ' H' h => h⟩
        · rw [decide_eq_false hk]
          exact iteF ⟨_, rfl, key dp (by omega) _ rfl _ fun σ' H' h => h⟩
end
end K1

namespace K1
open PySem PySem.Spec
open PyProof.Rows L2 EnT StX SmX TxS DuX
theorem empty_app (x : Str) : Str.empty ++ x = x := by
  cases x with
  | mk c =>
    show (⟨#[] ++ c⟩ : Str) = ⟨c⟩
    simp
/-! ### texts of forms -/
def spTextF (n : Nat) : Sp := fun vs H Q _ => ∃ (v : V) (t : Fm), vs = [v] ∧ FmAt H v t ∧ t.Ok ∧ t.dep ≤ n ∧ t.nl ≤ 500 ∧ Q (.str (t.txt false)) H
def spSideF (n : Nat) : Sp := fun vs H Q _ => ∃ (v : V) (t : Fm), vs = [v] ∧ FmAt H v t ∧ t.Ok ∧ t.dep ≤ n ∧ t.nl ≤ 500 ∧ Q (.str (t.txt true)) H
abbrev nmTx : List Str := ["form", "sign", "left", "right"]
section
variable {w : World} {P : Program} {base : Heap} {mg : Str → Option Value} {K : PySem.W.Frag} {aS : Addr}
theorem scText : FnScope nmTx ["form"] (defScope sText) := ⟨rfl, rfl, rfl, by decide +kernel, rfl, by decide +kernel, by decide +kernel⟩
theorem scSide : FnScope ["form"] ["form"] (defScope sSide) := ⟨rfl, rfl, rfl, by decide +kernel, rfl, by decide +kernel, by decide +kernel⟩
theorem leaf_only {t : Fm} (h : t.dep ≤ 1) : ∃ z, t = .leaf z := by
  cases t with
  | leaf z => exact ⟨z, rfl⟩
  | node s l r =>
    have := Fm.dep_pos l
    rw [Fm.dep_node] at h
    omega
theorem ok_texts {f g : Addr} {fd gd : FuncData} (F : Fun K "form_text" "form_text" sText f fd) (G : Fun K "side_text" "side_text" sSide g gd) (T : Free mg) (mgF : mg "form_text" = some (.ref f)) (mgG : mg "side_text" = some (.ref g)) :
    ∀ n : Nat, FnOk P w K mg base CX0 (2 * n + 2) f fd ["form"] (spTextF (n + 1)) ∧ FnOk P w K mg base CX0 (2 * n + 3) g gd ["form"] (spSideF (n + 1)) := by
  have bF : L2.Binds K fd ["form"] [] := F.binds (ps := ["form"]) fun _ _ _ _ _ _ us hl => match us, hl with | [_], _ => rfl
  have bG : L2.Binds K gd ["form"] [] := G.binds (ps := ["form"]) fun _ _ _ _ _ _ us hl => match us, hl with | [_], _ => rfl
  have e1 : (" " : Str).length = 1 := by decide +kernel
  have e2 : ("(" : Str).length = 1 := by decide +kernel
  have e3 : (")" : Str).length = 1 := by decide +kernel
  intro n
  induction n with
  | zero =>
    refine ⟨?_, ?_⟩
    · refine F.ok scText (fun vs H Q E h => ?_) (fun cdv A outer s H vs Q E hr h => ?_)
      · obtain ⟨v, t, rfl, _⟩ := h
        rfl
      · obtain ⟨v, t, rfl, m, ok, d, l, q⟩ := h
        obtain ⟨z, rfl⟩ := leaf_only d
        refine ⟨_, pss_cons (ps_if (pt_val (pe_callB call_isi (by rfl) T.isinstance (by decide +kernel) (pa_cons (pv 0) (pa_cons (pe_bltn (v := .ty "str") (u := .type "str") (by rfl) T.str (by decide +kernel) rfl) pa_nil)))) (pss_one (ps_ret (pv 0))) pss_nil) pss_never, ?_⟩
        cases m
        exact ⟨_, rfl, _, _, _, _, true, rfl, .ty _, .base (.str z), kit_ty (by decide +kernel), true, rfl, iteT ⟨_, rfl, q⟩⟩
    · refine G.ok scSide (fun vs H Q E h => ?_) (fun cdv A outer s H vs Q E hr h => ?_)
      · obtain ⟨v, t, rfl, _⟩ := h
        rfl
      · obtain ⟨v, t, rfl, m, ok, d, l, q⟩ := h
        obtain ⟨z, rfl⟩ := leaf_only d
        refine ⟨_, pss_cons (ps_if (pt_val (pe_callB call_isi (by rfl) T.isinstance (by decide +kernel) (pa_cons (pv 0) (pa_cons (pe_bltn (v := .ty "str") (u := .type "str") (by rfl) T.str (by decide +kernel) rfl) pa_nil)))) (pss_one (ps_ret (pv 0))) pss_nil) pss_never, ?_⟩
        cases m
        exact ⟨_, rfl, _, _, _, _, true, rfl, .ty _, .base (.str z), kit_ty (by decide +kernel), true, rfl, iteT ⟨_, rfl, q⟩⟩
  | succ n ih =>
    obtain ⟨_, ihS⟩ := ih
    have hS : Has P w K mg base CX0 (2 * n + 3) "side_text" g ["form"] (spSideF (n + 1)) := ⟨mgG, G.kp, gd, ihS, bG⟩
    have one : FnOk P w K mg base CX0 (2 * (n + 1) + 2) f fd ["form"] (spTextF (n + 1 + 1)) := by
      refine F.ok (k := 2 * n + 3) scText (fun vs H Q E h => ?_) (fun cdv A outer s H vs Q E hr h => ?_)
      · obtain ⟨v, t, rfl, _⟩ := h
        rfl
      · obtain ⟨v, t, rfl, m, ok, d, l, q⟩ := h
        refine ⟨_, pss_cons (ps_if (pt_val (pe_callB call_isi (by rfl) T.isinstance (by decide +kernel) (pa_cons (pv 0) (pa_cons (pe_bltn (v := .ty "str") (u := .type "str") (by rfl) T.str (by decide +kernel) rfl) pa_nil)))) (pss_one (ps_ret (pv 0))) pss_nil)
          (pss_cons (ps_asg (pv 0) (pg_tup rfl (pgs_cons (pg_name (i := 1) scText.nd rfl (.inl rfl)) (pgs_cons (pg_name (i := 2) scText.nd rfl (.inl rfl)) (pgs_cons (pg_name (i := 3) scText.nd rfl (.inl rfl)) pgs_nil)))))
          (pss_one (ps_ret (pe_joined (.cons (pe_fmt (pe_has hS hr (by rfl) pass0 (pa_cons (pv 2) pa_nil))) (.cons pe_str (.cons (pe_fmt (pv 1)) (.cons pe_str (.cons (pe_fmt (pe_has hS hr (by rfl) pass0 (pa_cons (pv 3) pa_nil))) .nil))))))))), ?_⟩
        cases m with
        | leaf z => exact ⟨_, rfl, _, _, _, _, true, rfl, .ty _, .base (.str z), kit_ty (by decide +kernel), true, rfl, iteT ⟨_, rfl, q⟩⟩
        | node h hl hr' =>
          rename_i a s' vl vr l' r'
          rw [Fm.dep_node] at d
          have t1 := txt_len true l' ok.2.1
          have t2 := txt_len true r' ok.2.2
          rw [Fm.nl_node] at l
          have c1 := (sign_ok ok.1).1
          have z0 : Str.empty.length = 0 := rfl
          refine ⟨_, rfl, _, _, _, _, false, rfl, .ty _, .base (.tup h), kit_ty (by decide +kernel), false, rfl, iteF ?_⟩
          refine ⟨_, rfl, a, _, rfl, SqT.of h, rfl, _, _, rfl, _, _, rfl, _, _, rfl, rfl, ?_⟩
          refine ⟨_, rfl, vl, l', rfl, hl, ok.2.1, by omega, by omega, .inl ⟨_, rfl, by rw [sizeLine_eq]; omega, _, rfl, by rw [strLen_append, z0, sizeLine_eq]; omega, _, rfl, by rw [strLen_append, strLen_append, z0, e1, sizeLine_eq]; omega, ?_⟩⟩
          refine ⟨_, rfl, .inl ⟨_, rfl, by rw [c1, sizeLine_eq]; omega, _, rfl, by rw [strLen_append, strLen_append, strLen_append, z0, e1, c1, sizeLine_eq]; omega, _, rfl, by rw [strLen_append, strLen_append, strLen_append, strLen_append, z0, e1, c1, sizeLine_eq]; omega, ?_⟩⟩
          refine ⟨_, rfl, vr, r', rfl, hr', ok.2.2, by omega, by omega, .inl ⟨_, rfl, by rw [sizeLine_eq]; omega, _, rfl, by rw [strLen_append, strLen_append, strLen_append, strLen_append, strLen_append, z0, e1, c1, sizeLine_eq]; omega, ?_⟩⟩
          rw [empty_app]
          exact q
    refine ⟨one, ?_⟩
    have hT : Has P w K mg base CX0 (2 * (n + 1) + 2) "form_text" f ["form"] (spTextF (n + 1 + 1)) := ⟨mgF, F.kp, fd, one, bF⟩
    refine G.ok (k := 2 * (n + 1) + 2) scSide (fun vs H Q E h => ?_) (fun cdv A outer s H vs Q E hr h => ?_)
    · obtain ⟨v, t, rfl, _⟩ := h
      rfl
    · obtain ⟨v, t, rfl, m, ok, d, l, q⟩ := h
      refine ⟨_, pss_cons (ps_if (pt_val (pe_callB call_isi (by rfl) T.isinstance (by decide +kernel) (pa_cons (pv 0) (pa_cons (pe_bltn (v := .ty "str") (u := .type "str") (by rfl) T.str (by decide +kernel) rfl) pa_nil)))) (pss_one (ps_ret (pv 0))) pss_nil)
        (pss_one (ps_ret (pe_joined (.cons pe_str (.cons (pe_fmt (pe_has hT hr (by rfl) pass0 (pa_cons (pv 0) pa_nil))) (.cons pe_str .nil)))))), ?_⟩
      have tl := txt_len false t ok
      cases m with
      | leaf z => exact ⟨_, rfl, _, _, _, _, true, rfl, .ty _, .base (.str z), kit_ty (by decide +kernel), true, rfl, iteT ⟨_, rfl, q⟩⟩
      | node h hl hr' =>
        rename_i a s' vl vr l' r'
        have z0 : Str.empty.length = 0 := rfl
        refine ⟨_, rfl, _, _, _, _, false, rfl, .ty _, .base (.tup h), kit_ty (by decide +kernel), false, rfl, iteF ?_⟩
        refine ⟨_, rfl, by rw [strLen_append, z0, e2, sizeLine_eq]; omega, _, rfl, .ref a, .node s' l' r', rfl, .node h hl hr', ok, d, l, .inl ⟨_, rfl, by rw [sizeLine_eq]; omega, _, rfl, by rw [strLen_append, strLen_append, z0, e2, sizeLine_eq]; omega, _, rfl, by rw [strLen_append, strLen_append, strLen_append, z0, e2, e3, sizeLine_eq]; omega, ?_⟩⟩
        rw [empty_app]
        exact q
end
end K1

namespace K1
open PySem PySem.Spec
open PyProof.Rows L2 EnT StX SmX TxS DuX
/-! ### what is read: parts, rows of parts, the stack of rows -/
inductive Part where
  | f (t : Fm)
  | s (z : Str)
inductive PartAt (H : Hp) : V → Part → Prop where
  | f {a : Addr} {v : V} {t : Fm} (h : H a = some (.tup [v, .int (t.nl : Nat)])) (m : FmAt H v t) : PartAt H (.ref a) (.f t)
  | s (z : Str) : PartAt H (.str z) (.s z)
theorem PartAt.keep {H H' : Hp} (k : TupK H H') {v : V} {x : Part} (h : PartAt H v x) : PartAt H' v x := by
  cases h with
  | f h m => exact .f (k _ _ h) (m.keep k)
  | s z => exact .s z
inductive PartsAt (H : Hp) : List V → List Part → Prop where
  | nil : PartsAt H [] []
  | cons {v : V} {x : Part} {vs : List V} {xs : List Part} (h : PartAt H v x) (r : PartsAt H vs xs) : PartsAt H (v :: vs) (x :: xs)
theorem PartsAt.keep {H H' : Hp} (k : TupK H H') {vs : List V} {xs : List Part} (h : PartsAt H vs xs) : PartsAt H' vs xs := by
  induction h with
  | nil => exact .nil
  | cons h _ ih => exact .cons (h.keep k) ih
theorem PartsAt.len {H : Hp} {vs : List V} {xs : List Part} (h : PartsAt H vs xs) : vs.length = xs.length := by
  induction h with
  | nil => rfl
  | cons _ _ ih => rw [List.length_cons, List.length_cons, ih]
theorem PartsAt.snoc {H : Hp} {vs : List V} {xs : List Part} {v : V} {x : Part} (h : PartsAt H vs xs) (p : PartAt H v x) : PartsAt H (vs ++ [v]) (xs ++ [x]) := by
  induction h with
  | nil => exact .cons p .nil
  | cons h _ ih => exact .cons h ih
/-- an even row: nothing, or a form and a sign -/
inductive Even : List Part → Prop where
  | nil : Even []
  | two (t : Fm) (z : Str) : Even [.f t, .s z]
abbrev tOpen : Str := "("
abbrev tClose : Str := ")"
inductive Step : List (List Part) → Str → List (List Part) → Prop where
  | close (z : Str) (l r : Fm) (o : List Part) (os : List (List Part)) (h : Even o) : Step ([.f l, .s z, .f r] :: o :: os) tClose ((o ++ [.f (.node z l r)]) :: os)
  | sign (l : Fm) (z : Str) (os : List (List Part)) (h : z ∈ signs) : Step ([.f l] :: os) z ([.f l, .s z] :: os)
  | open_ (i : List Part) (os : List (List Part)) (h : Even i) : Step (i :: os) tOpen ([] :: i :: os)
  | name (i : List Part) (os : List (List Part)) (h : Even i) (z : Str) (n : nameB z = true) : Step (i :: os) z ((i ++ [.f (.leaf z)]) :: os)
inductive Runs : List (List Part) → List Str → List (List Part) → Prop where
  | nil (st : List (List Part)) : Runs st [] st
  | cons {st st1 st2 : List (List Part)} {z : Str} {ws : List Str} (h : Step st z st1) (r : Runs st1 ws st2) : Runs st (z :: ws) st2
theorem Runs.app {a b c : List (List Part)} {x y : List Str} (h : Runs a x b) (g : Runs b y c) : Runs a (x ++ y) c := by
  induction h with
  | nil st => exact g
  | cons h _ ih => exact .cons h (ih g)
/-- the words of a form's text -/
def Fm.tok : Bool → Fm → List Str
  | _, .leaf z => [z]
  | false, .node s l r => Fm.tok true l ++ (s :: Fm.tok true r)
  | true, .node s l r => tOpen :: (Fm.tok true l ++ (s :: (Fm.tok true r ++ [tClose])))
theorem runs_tok : ∀ (t : Fm) (i : List Part) (os : List (List Part)), t.Ok → Even i → Runs (i :: os) (t.tok true) ((i ++ [.f t]) :: os)
  | .leaf z, i, os, ok, e => .cons (.name i os e z ok) (.nil _)
  | .node s l r, i, os, ok, e => .cons (.open_ i os e) (Runs.app (runs_tok l [] (i :: os) ok.2.1 .nil) (.cons (.sign l s (i :: os) ok.1) (Runs.app (runs_tok r [.f l, .s s] (i :: os) ok.2.2 (.two l s)) (.cons (.close s l r i os e) (.nil _)))))
/-- what stands in the outermost row at the end -/
def Fm.outer : Fm → List Part
  | .leaf z => [.f (.leaf z)]
  | .node s l r => [.f l, .s s, .f r]
theorem runs_all (t : Fm) (ok : t.Ok) : Runs [[]] (t.tok false) [t.outer] := by
  cases t with
  | leaf z => exact .cons (.name [] [] .nil z ok) (.nil _)
  | node s l r => exact Runs.app (runs_tok l [] [] ok.2.1 .nil) (.cons (.sign l s [] ok.1) (runs_tok r [.f l, .s s] [] ok.2.2 (.two l s)))
/-! ### joined -/
def spJoined : Sp := fun vs H Q _ => ∃ (a : Addr) (xs : List V) (z : Str) (l r : Fm), vs = [.ref a] ∧ H a = some (.lst xs) ∧ PartsAt H xs [.f l, .s z, .f r] ∧ ∀ (v : V) (H' : Hp), Same H H' → PartAt H' v (.f (.node z l r)) → Q v H'
abbrev nmJo : List Str := ["parts", "left", "left_leaves", "sign", "right", "right_leaves"]
section
variable {w : World} {P : Program} {base : Heap} {mg : Str → Option Value} {K : PySem.W.Frag} {aS : Addr}
theorem scJoined : FnScope nmJo ["parts"] (defScope sJoined) := ⟨rfl, rfl, rfl, by decide +kernel, rfl, by decide +kernel, by decide +kernel⟩
theorem ok_joined {f : Addr} {fd : FuncData} (F : Fun K "joined" "joined" sJoined f fd) : FnOk P w K mg base CX0 1 f fd ["parts"] spJoined := by
  refine F.ok scJoined (fun vs H Q E h => ?_) (fun cdv A outer s H vs Q E hr h => ?_)
  · obtain ⟨a, xs, z, l, r, rfl, _⟩ := h
    rfl
  · obtain ⟨a, xs, z, l, r, rfl, ha, pa, q⟩ := h
    refine ⟨_, pss_cons (ps_asg (pv 0) (pg_unl rfl (pgs_cons (pg_tup rfl (pgs_cons (pg_name (i := 1) scJoined.nd rfl (.inl rfl)) (pgs_cons (pg_name (i := 2) scJoined.nd rfl (.inl rfl)) pgs_nil)))
        (pgs_cons (pg_name (i := 3) scJoined.nd rfl (.inl rfl)) (pgs_cons (pg_tup rfl (pgs_cons (pg_name (i := 4) scJoined.nd rfl (.inl rfl)) (pgs_cons (pg_name (i := 5) scJoined.nd rfl (.inl rfl)) pgs_nil))) pgs_nil)))))
      (pss_one (ps_ret (pe_tup (pa_cons (pe_tup (pa_cons (pv 3) (pa_cons (pv 1) (pa_cons (pv 4) pa_nil)))) (pa_cons (pe_op op_add (pv 2) (pv 5)) pa_nil))))), ?_⟩
    cases pa with
    | cons p1 r1 =>
    cases r1 with
    | cons p2 r2 =>
    cases r2 with
    | cons p3 r3 =>
    cases r3
    cases p1 with
    | f h1 m1 =>
    cases p2
    cases p3 with
    | f h3 m3 =>
    rename_i a1 v1 a3 v3
    refine ⟨_, rfl, a, _, rfl, SqL.of ha, rfl, _, _, rfl, ?_⟩
    refine ⟨a1, _, rfl, SqT.of h1, rfl, _, _, rfl, _, _, rfl, rfl, ?_⟩
    refine ⟨_, _, rfl, _, _, rfl, a3, _, rfl, SqT.of h3, rfl, _, _, rfl, _, _, rfl, rfl, rfl, ?_⟩
    refine ⟨_, rfl, _, rfl, _, rfl, (by show 3 ≤ sizeLine; decide), fun p np => ?_⟩
    refine ⟨_, rfl, _, rfl, _, _, rfl, rfl, (by show 2 ≤ sizeLine; decide), fun p2 np2 => ?_⟩
    have s1 : Same H (upd H p (.tup [.str z, v1, v3])) := same_upd np
    have hp : (upd H p (.tup [.str z, v1, v3])) p = some (.tup [.str z, v1, v3]) := upd_same
    have s2 := same_upd (o := .tup [.ref p, .int ((l.nl : Nat) + (r.nl : Nat))]) np2
    have e : ((l.nl : Nat) : Int) + (r.nl : Nat) = (((Fm.node z l r).nl : Nat) : Int) := by rw [Fm.nl_node]; omega
    refine q (.ref p2) _ (s1.trans s2) (.f (v := .ref p) ?_ (.node (s2 _ _ hp) (m1.same (s1.trans s2)) (m3.same (s1.trans s2))))
    rw [← e]
    exact upd_same
end
end K1

namespace K1
open PySem PySem.Spec
open PyProof.Rows L2 EnT StX SmX TxS DuX
/-! ### the stack on the heap, the innermost row first -/
inductive RowsAt (H0 H : Hp) (L : Addr) : List Addr → List (List Part) → Prop where
  | nil : RowsAt H0 H L [] []
  | cons {a : Addr} {as : List Addr} {vs : List V} {xs : List Part} {st : List (List Part)} (h : H a = some (.lst vs)) (p : PartsAt H vs xs) (n : H0 a = none) (ne : a ≠ L) (nd : a ∉ as) (r : RowsAt H0 H L as st) : RowsAt H0 H L (a :: as) (xs :: st)
theorem RowsAt.len {H0 H : Hp} {L : Addr} {as : List Addr} {st : List (List Part)} (h : RowsAt H0 H L as st) : as.length = st.length := by
  induction h with
  | nil => rfl
  | cons _ _ _ _ _ _ ih => rw [List.length_cons, List.length_cons, ih]
theorem RowsAt.move {H0 H H' : Hp} {L : Addr} {as : List Addr} {st : List (List Part)} (k : TupK H H') (g : ∀ a vs, a ∈ as → H a = some (.lst vs) → H' a = some (.lst vs)) (h : RowsAt H0 H L as st) : RowsAt H0 H' L as st := by
  induction h with
  | nil => exact .nil
  | cons h p n ne nd _ ih => exact .cons (g _ _ (List.mem_cons_self ..) h) (p.keep k) n ne nd (ih fun a vs m e => g a vs (List.mem_cons_of_mem _ m) e)
theorem RowsAt.same {H0 H H' : Hp} {L : Addr} {as : List Addr} {st : List (List Part)} (s : Same H H') (h : RowsAt H0 H L as st) : RowsAt H0 H' L as st := h.move (.same s) fun a vs _ e => s _ _ e
/-- a list that is none of the rows is stored into -/
theorem RowsAt.set {H0 H : Hp} {L t : Addr} {as : List Addr} {st : List (List Part)} {ys : List V} {o : HO} (ht : H t = some (.lst ys)) (n : t ∉ as) (h : RowsAt H0 H L as st) : RowsAt H0 (upd H t o) L as st :=
  h.move (TupK.set (H := H) (H' := H) (fun a xs e => e) ht) fun a vs m e => by rw [upd_ne (fun z => n (by rw [← z]; exact m))]; exact e
structure StackAt (H0 H : Hp) (L : Addr) (as : List Addr) (st : List (List Part)) : Prop where
  hL : H L = some (.lst (as.reverse.map V.ref))
  nL : H0 L = none
  rows : RowsAt H0 H L as st
theorem StackAt.same {H0 H H' : Hp} {L : Addr} {as : List Addr} {st : List (List Part)} (s : Same H H') (h : StackAt H0 H L as st) : StackAt H0 H' L as st := ⟨s _ _ h.hL, h.nL, h.rows.same s⟩
def spTake (H0 : Hp) : Sp := fun vs H Q _ => ∃ (L : Addr) (w : Str) (as : List Addr) (st st' : List (List Part)), vs = [.ref L, .str w] ∧ StackAt H0 H L as st ∧ Step st w st' ∧ Same H0 H ∧ st.length ≤ 100000 ∧ w.length ≤ sizeLine ∧
  ∀ (as' : List Addr) (H' : Hp), Same H0 H' → StackAt H0 H' L as' st' → Q (.bl true) H'
abbrev nmTk : List Str := ["opened", "word", "innermost"]
theorem last_ref {as : List Addr} {a : Addr} : atI ((a :: as).reverse.map V.ref) (-1) = some (.ref a) := by
  rw [List.reverse_cons, List.map_append]
  exact atI_last _ _
theorem last_at {as : List Addr} {a : Addr} : ((a :: as).reverse.map V.ref)[((a :: as).reverse.map V.ref).length - 1]? = some (.ref a) := by
  rw [List.reverse_cons, List.map_append]
  simp
theorem last_drop {as : List Addr} {a : Addr} : ((a :: as).reverse.map V.ref).dropLast = as.reverse.map V.ref := by
  rw [List.reverse_cons, List.map_append]
  simp
theorem even_len {i : List Part} (h : Even i) : i.length = 0 ∨ i.length = 2 := by
  cases h
  · exact .inl rfl
  · exact .inr rfl
theorem in_02 {n : Nat} : inV (.int n) [V.int 0, V.int 2] = decide (n = 0 ∨ n = 2) := by
  by_cases h0 : n = 0
  · subst h0
    rfl
  · by_cases h2 : n = 2
    · subst h2
      rfl
    · rw [decide_eq_false (by omega)]
      have a : eqV (.int 0) (.int n) = false := by
        show ((0 : Int) == (n : Int)) = false
        exact beq_eq_false_iff_ne.mpr (by omega)
      have b : eqV (.int 2) (.int n) = false := by
        show ((2 : Int) == (n : Int)) = false
        exact beq_eq_false_iff_ne.mpr (by omega)
      unfold inV
      simp [a, b]
theorem sign_no {z : Str} (h : z ∈ signs) : z ≠ tClose ∧ z ≠ tOpen := by
  simp only [signs, List.mem_cons, List.not_mem_nil, or_false] at h
  rcases h with rfl | rfl | rfl | rfl <;> decide +kernel
theorem name_no {z : Str} (h : nameB z = true) : z ≠ tClose ∧ z ≠ tOpen := ⟨fun e => by
  rw [e] at h
  revert h
  decide +kernel, fun e => by
  rw [e] at h
  revert h
  decide +kernel⟩
section
variable {w : World} {P : Program} {base : Heap} {mg : Str → Option Value} {K : PySem.W.Frag} {aS : Addr}
theorem scTake : FnScope nmTk ["opened", "word"] (defScope sTake) := ⟨rfl, rfl, rfl, by decide +kernel, rfl, by decide +kernel, by decide +kernel⟩
theorem ok_take {f fJ fN : Addr} {fd : FuncData} (H0 : Hp) (F : Fun K "take_word" "take_word" sTake f fd) (G : Gf K mg aS) (hJ : Has P w K mg base CX0 1 "joined" fJ ["parts"] spJoined) (hN : Has P w K mg base CX0 1 "is_name" fN ["value"] spIsName) : FnOk P w K mg base CX0 2 f fd ["opened", "word"] (spTake H0) := by
  have T := G.T
  refine F.ok scTake (fun vs H Q E h => ?_) (fun cdv A outer s H vs Q E hr h => ?_)
  · obtain ⟨L, z, as, st, st', rfl, _⟩ := h
    rfl
  · obtain ⟨L, z, as, st, st', rfl, sk, step, s0, ls, lz, q⟩ := h
    refine ⟨_, pss_cons (ps_set (i := 2) scTake.nd rfl (.inl rfl) (pe_ix ix_list (pv 0) (pe_un un_neg pe_int) (fun _ _ => rfl)))
      (pss_cons (ps_if (PW.pt (pw_and (pt_cmpR op_eq (pv 1) pe_str (nomark _)) (pw_and (pt_cmpR op_eq (pe_callB call_len_seq (by rfl) T.len PySem.boot_len (pa_cons (pv 2) pa_nil)) pe_int (nomark _)) (pw_and1 (pt_cmpR op_gt (pe_callB call_len_seq (by rfl) T.len PySem.boot_len (pa_cons (pv 0) pa_nil)) pe_int (nomark _))))))
          (pss_cons (ps_expr (pe_bm0 PySem.F.plainAttrs_list PySem.F.slot_list_pop PySem.F.type_list_pop mt_pop (pv 0)))
          (pss_one (ps_expr (pe_bm PySem.F.plainAttrs_list PySem.F.slot_list_append PySem.F.type_list_append mt_append (pe_ix ix_list (pv 0) (pe_un un_neg pe_int) (fun _ _ => rfl)) (pa_cons (pe_has hJ hr (by rfl) pass0 (pa_cons (pv 2) pa_nil)) pa_nil)))))
        (pss_one (ps_if (PW.pt (pw_and (pt_cmpR op_eq (pe_callB call_len_seq (by rfl) T.len PySem.boot_len (pa_cons (pv 2) pa_nil)) pe_int (nomark _)) (pw_and1 (pt_cmpR op_in_seq (pv 1) (pe_glob (v := .ref aS) (by rfl) G.sg rfl) (by rfl)))))
          (pss_one (ps_expr (pe_bm PySem.F.plainAttrs_list PySem.F.slot_list_append PySem.F.type_list_append mt_append (pv 2) (pa_cons (pv 1) pa_nil))))
        (pss_one (ps_if (PW.pt (pw_and (pt_cmpR op_in_seq (pe_callB call_len_seq (by rfl) T.len PySem.boot_len (pa_cons (pv 2) pa_nil)) (pe_tup (pa_cons pe_int (pa_cons pe_int pa_nil))) (by rfl)) (pw_and1 (pt_cmpR op_eq (pv 1) pe_str (nomark _)))))
          (pss_one (ps_expr (pe_bm PySem.F.plainAttrs_list PySem.F.slot_list_append PySem.F.type_list_append mt_append (pv 0) (pa_cons (pe_lst pa_nil) pa_nil))))
        (pss_one (ps_if (PW.pt (pw_and (pt_cmpR op_in_seq (pe_callB call_len_seq (by rfl) T.len PySem.boot_len (pa_cons (pv 2) pa_nil)) (pe_tup (pa_cons pe_int (pa_cons pe_int pa_nil))) (by rfl)) (pw_and1 (pt_val (pe_has hN hr (by rfl) pass0 (pa_cons (pv 1) pa_nil))))))
          (pss_one (ps_expr (pe_bm PySem.F.plainAttrs_list PySem.F.slot_list_append PySem.F.type_list_append mt_append (pv 2) (pa_cons (pe_tup (pa_cons (pv 1) (pa_cons pe_int pa_nil))) pa_nil))))
        pss_never)))))))
      (pss_one (ps_ret pe_bl))), ?_⟩
    have hL := sk.hL
    have nL := sk.nL
    obtain ⟨_, _, rows⟩ := sk
    cases step with
    | sign l z os hz =>
      cases rows with
      | cons ha p na ne nd r =>
        rename_i a ar vs hL
        have lv := p.len
        refine ⟨_, rfl, _, rfl, L, _, _, .ref a, rfl, rfl, SqL.of hL, last_ref, ?_⟩
        refine ⟨_, rfl, rfl, _, rfl, ?_⟩
        rw [decide_eq_false (fun e => (sign_no hz).1 (V.str.inj e))]
        refine iteF (iteF ?_)
        refine ⟨_, rfl, a, _, rfl, .inl (SqL.of ha), rfl, _, rfl, ?_⟩
        rw [decide_eq_true (by rw [lv]; rfl)]
        refine iteT ⟨_, rfl, aS, _, rfl, .inr (G.st H), rfl, strs_flat _, _, rfl, ?_⟩
        rw [inV_mem, decide_eq_true hz]
        refine iteT ⟨_, rfl, .inl ⟨rfl, _, SqL.of ha⟩, _, rfl, a, _, _, rfl, rfl, ha, by rw [lv, sizeLine_eq]; show 1 < _; decide, ?_⟩
        have aL : L ≠ a := fun e => ne e.symm
        refine q (a :: ar) _ (same_set s0 na) ⟨by rw [upd_ne aL]; exact hL, nL, .cons upd_same ((p.keep (TupK.set (H := H) (H' := H) (fun a xs e => e) ha)).snoc (.s z)) na ne nd (r.set ha nd)⟩
    | open_ i os hi =>
      cases rows with
      | cons ha p na ne nd r =>
        rename_i a ar vs hL
        have lv := p.len
        have el := even_len hi
        refine ⟨_, rfl, _, rfl, L, _, _, .ref a, rfl, rfl, SqL.of hL, last_ref, ?_⟩
        refine ⟨_, rfl, rfl, _, rfl, ?_⟩
        rw [decide_eq_false (fun e => absurd (V.str.inj e) (by decide +kernel))]
        refine iteF (iteF ?_)
        refine ⟨_, rfl, a, _, rfl, .inl (SqL.of ha), rfl, _, rfl, ?_⟩
        rw [decide_eq_false (fun e => by have := V.int.inj e; omega)]
        refine iteF (iteF ?_)
        refine ⟨_, rfl, a, _, rfl, .inl (SqL.of ha), (by show 2 ≤ sizeLine; decide), fun t nt => ?_⟩
        have s1 : Same H (upd H t (.tup [.int 0, .int 2])) := same_upd nt
        refine ⟨t, _, rfl, .inr (SqT.of upd_same), rfl, rfl, _, rfl, ?_⟩
        rw [in_02, decide_eq_true (by rw [lv]; exact el)]
        refine iteT ⟨_, rfl, rfl, _, rfl, ?_⟩
        rw [decide_eq_true rfl]
        refine iteT ?_
        generalize upd H t (.tup [.int 0, .int 2]) = H1 at s1 ⊢
        have hL1 := s1 _ _ hL
        refine ⟨_, rfl, .inl ⟨rfl, _, SqL.of hL1⟩, (by show 0 ≤ sizeLine; decide), fun b nb => ?_⟩
        have s2 : Same H1 (upd H1 b (.lst [])) := same_upd nb
        have s02 := s0.trans (s1.trans s2)
        have hL2 := s2 _ _ hL1
        have hb : (upd H1 b (.lst [])) b = some (.lst []) := upd_same
        have nb0 : H0 b = none := by
          cases hh : H0 b with
          | none => rfl
          | some o =>
            rw [s1 _ _ (s0 _ _ hh)] at nb
            cases nb
        have bL : b ≠ L := fun e => by rw [e, hL1] at nb; cases nb
        have rl := r.len
        have nbr : b ∉ a :: ar := by
          intro hm
          have rr : RowsAt H0 H1 L (a :: ar) (i :: os) := (RowsAt.cons ha p na ne nd r).same s1
          have : ∀ {as : List Addr} {st : List (List Part)}, RowsAt H0 H1 L as st → b ∈ as → False := fun h m => by
            induction h with
            | nil => cases m
            | cons h _ _ _ _ _ ih =>
              rcases List.mem_cons.mp m with e | e
              · rw [← e, nb] at h
                cases h
              · exact ih e
          exact this rr hm
        generalize upd H1 b (.lst []) = H2 at s2 s02 hL2 hb ⊢
        refine ⟨L, _, _, rfl, rfl, hL2, by rw [List.length_map, List.length_reverse, List.length_cons, rl, sizeLine_eq]; rw [List.length_cons] at ls; omega, ?_⟩
        have rr : RowsAt H0 H2 L (a :: ar) (i :: os) := (RowsAt.cons ha p na ne nd r).same (s1.trans s2)
        have nLr : L ∉ b :: a :: ar := by
          intro hm
          rcases List.mem_cons.mp hm with e | e
          · exact bL e.symm
          · have : ∀ {as : List Addr} {st : List (List Part)}, RowsAt H0 H2 L as st → L ∈ as → False := fun h m => by
              induction h with
              | nil => cases m
              | cons _ _ _ ne _ _ ih =>
                rcases List.mem_cons.mp m with e | e
                · exact ne e.symm
                · exact ih e
            exact this rr e
        refine q (b :: a :: ar) _ (same_set s02 nL) ⟨by rw [upd_same, List.reverse_cons (a := b), List.map_append]; rfl, nL, RowsAt.set hL2 nLr (.cons hb .nil nb0 bL nbr rr)⟩
    | name i os hi z nz =>
      cases rows with
      | cons ha p na ne nd r =>
        rename_i a ar vs hL
        have lv := p.len
        have el := even_len hi
        refine ⟨_, rfl, _, rfl, L, _, _, .ref a, rfl, rfl, SqL.of hL, last_ref, ?_⟩
        refine ⟨_, rfl, rfl, _, rfl, ?_⟩
        rw [decide_eq_false (fun e => (name_no nz).1 (V.str.inj e))]
        refine iteF (iteF ?_)
        refine ⟨_, rfl, a, _, rfl, .inl (SqL.of ha), rfl, _, rfl, ?_⟩
        rw [decide_eq_false (fun e => by have := V.int.inj e; omega)]
        refine iteF (iteF ?_)
        refine ⟨_, rfl, a, _, rfl, .inl (SqL.of ha), (by show 2 ≤ sizeLine; decide), fun t nt => ?_⟩
        have s1 : Same H (upd H t (.tup [.int 0, .int 2])) := same_upd nt
        refine ⟨t, _, rfl, .inr (SqT.of upd_same), rfl, rfl, _, rfl, ?_⟩
        rw [in_02, decide_eq_true (by rw [lv]; exact el)]
        refine iteT ⟨_, rfl, rfl, _, rfl, ?_⟩
        rw [decide_eq_false (fun e => (name_no nz).2 (V.str.inj e))]
        refine iteF ?_
        generalize upd H t (.tup [.int 0, .int 2]) = H1 at s1 ⊢
        refine ⟨_, rfl, a, _, rfl, .inl (SqL.of (s1 _ _ ha)), (by show 2 ≤ sizeLine; decide), fun t2 nt2 => ?_⟩
        have s2 : Same H1 (upd H1 t2 (.tup [.int 0, .int 2])) := same_upd nt2
        refine ⟨t2, _, rfl, .inr (SqT.of upd_same), rfl, rfl, _, rfl, ?_⟩
        rw [in_02, decide_eq_true (by rw [lv]; exact el)]
        refine iteT ⟨_, rfl, .str z, rfl, .inl ⟨z, rfl, lz⟩, _, rfl, ?_⟩
        rw [show nameV (.str z) = true from nz]
        refine iteT ?_
        generalize upd H1 t2 (.tup [.int 0, .int 2]) = H2 at s2 ⊢
        have s12 := s1.trans s2
        have ha2 := s12 _ _ ha
        refine ⟨_, rfl, .inl ⟨rfl, _, SqL.of ha2⟩, _, rfl, (by show 2 ≤ sizeLine; decide), fun u nu => ?_⟩
        have s3 : Same H2 (upd H2 u (.tup [.str z, .int 1])) := same_upd nu
        have hu : (upd H2 u (.tup [.str z, .int 1])) u = some (.tup [.str z, .int 1]) := upd_same
        have ha3 := s3 _ _ ha2
        have s13 := s12.trans s3
        generalize upd H2 u (.tup [.str z, .int 1]) = H3 at s3 hu ha3 s13 ⊢
        refine ⟨a, _, _, rfl, rfl, ha3, by rw [lv, sizeLine_eq]; omega, ?_⟩
        have aL : L ≠ a := fun e => ne e.symm
        have kp : TupK H3 (upd H3 a (.lst (vs ++ [.ref u]))) := TupK.set (H := H3) (H' := H3) (fun a xs e => e) ha3
        exact q (a :: ar) _ (same_set (s0.trans s13) na) ⟨by rw [upd_ne aL]; exact s13 _ _ hL, nL, .cons upd_same ((p.keep ((TupK.same s13).trans kp)).snoc (.f (t := .leaf z) (kp _ _ hu) (.leaf z))) na ne nd ((r.same s13).set ha3 nd)⟩
    | close z l r o os ho =>
      cases rows with
      | cons ha p na ne nd rr =>
        cases rr with
        | cons ha1 p1 na1 ne1 nd1 r2 =>
          rename_i a vs a1 ar vs1 hL
          have lv := p.len
          have lv1 := p1.len
          have el := even_len ho
          refine ⟨_, rfl, _, rfl, L, _, _, .ref a, rfl, rfl, SqL.of hL, last_ref, ?_⟩
          refine ⟨_, rfl, rfl, _, rfl, ?_⟩
          rw [decide_eq_true rfl]
          refine iteT ⟨_, rfl, a, _, rfl, .inl (SqL.of ha), rfl, _, rfl, ?_⟩
          rw [decide_eq_true (by rw [lv]; rfl)]
          refine iteT ⟨_, rfl, L, _, rfl, .inl (SqL.of hL), _, _, rfl, rfl, _, rfl, ?_⟩
          rw [decide_eq_true (by rw [List.length_map, List.length_reverse, List.length_cons, List.length_cons]; omega)]
          refine iteT ?_
          refine ⟨_, rfl, .inl ⟨rfl, _, SqL.of hL⟩, L, _, .ref a, rfl, rfl, hL, last_at, ?_⟩
          rw [last_drop]
          have k1 : TupK H (upd H L (.lst ((a1 :: ar).reverse.map V.ref))) := TupK.set (H := H) (H' := H) (fun a xs e => e) hL
          have s1 := same_set (o := .lst ((a1 :: ar).reverse.map V.ref)) s0 nL
          have hL1 : (upd H L (.lst ((a1 :: ar).reverse.map V.ref))) L = some (.lst ((a1 :: ar).reverse.map V.ref)) := upd_same
          have ha' : (upd H L (.lst ((a1 :: ar).reverse.map V.ref))) a = some (.lst vs) := by rw [upd_ne ne]; exact ha
          have ha1' : (upd H L (.lst ((a1 :: ar).reverse.map V.ref))) a1 = some (.lst vs1) := by rw [upd_ne ne1]; exact ha1
          have nLr : L ∉ ar := by
            intro hm
            have : ∀ {as : List Addr} {st : List (List Part)}, RowsAt H0 H L as st → L ∈ as → False := fun h m => by
              induction h with
              | nil => cases m
              | cons _ _ _ ne _ _ ih =>
                rcases List.mem_cons.mp m with e | e
                · exact ne e.symm
                · exact ih e
            exact this r2 hm
          have r2' := RowsAt.set (o := .lst ((a1 :: ar).reverse.map V.ref)) hL nLr r2
          have p' := p.keep k1
          have p1' := p1.keep k1
          generalize upd H L (.lst ((a1 :: ar).reverse.map V.ref)) = H1 at k1 s1 hL1 ha' ha1' r2' p' p1' ⊢
          refine ⟨_, rfl, _, rfl, L, _, _, .ref a1, rfl, rfl, SqL.of hL1, last_ref, .inl ⟨rfl, _, SqL.of ha1'⟩, ?_⟩
          refine ⟨_, rfl, a, vs, z, l, r, rfl, ha', p', fun v H2 s2 pv => ?_⟩
          have ha2 := s2 _ _ ha1'
          refine ⟨a1, _, _, rfl, rfl, ha2, by rw [lv1, sizeLine_eq]; omega, ?_⟩
          have aL : L ≠ a1 := fun e => ne1 e.symm
          have kp : TupK H2 (upd H2 a1 (.lst (vs1 ++ [v]))) := TupK.set (H := H2) (H' := H2) (fun a xs e => e) ha2
          exact q (a1 :: ar) _ (same_set (s1.trans s2) na1) ⟨by rw [upd_ne aL]; exact s2 _ _ hL1, nL, .cons upd_same ((p1'.keep ((TupK.same s2).trans kp)).snoc (pv.keep kp)) na1 ne1 nd1 ((r2'.same s2).set ha2 nd1)⟩
end
end K1

namespace K1
open PySem PySem.Spec
open PyProof.Rows L2 EnT StX SmX TxS DuX TL PySem.StrLaws
/-! ### the text of a form, cut into words -/
def rep1 (c : Nat) (z l : List Nat) : List Nat := l.flatMap fun d => if d = c then z else [d]
theorem repl_one (c : Nat) (z : List Nat) : ∀ l : List Nat, replL [c] z l = rep1 c z l
  | [] => replL_nil
  | d :: r => by
    by_cases h : d = c
    · subst h
      rw [replL_hit (by simp) rfl]
      show z ++ replL [d] z r = _
      rw [repl_one d z r]
      simp [rep1]
    · rw [replL_miss (by simp [h]), repl_one c z r]
      simp [rep1, h]
def spc (l : List Nat) : List Nat := l.flatMap fun d => if d = 40 then [40, 32] else if d = 41 then [32, 41] else [d]
theorem spc_app (x y : List Nat) : spc (x ++ y) = spc x ++ spc y := List.flatMap_append
theorem two_reps (l : List Nat) : rep1 41 [32, 41] (rep1 40 [40, 32] l) = spc l := by
  unfold rep1 spc
  rw [List.flatMap_assoc]
  congr 1
  funext d
  by_cases h : d = 40
  · simp [h]
  · by_cases g : d = 41 <;> simp [h, g]
abbrev twoSpc (x : Str) : Str := Txt.replace (Txt.replace x tOpen ("( " : Str)) tClose (" )" : Str)
theorem tl_open : tl tOpen = [40] := by decide +kernel
theorem tl_close : tl tClose = [41] := by decide +kernel
theorem tl_twoSpc (x : Str) : tl (twoSpc x) = spc (tl x) := by
  have a := replace_list (x := x) (y := tOpen) (z := ("( " : Str)) (by decide +kernel)
  have b := replace_list (x := Txt.replace x tOpen ("( " : Str)) (y := tClose) (z := (" )" : Str)) (by decide +kernel)
  have e1 : tOpen.cps.toList = [40] := tl_open
  have e2 : tClose.cps.toList = [41] := tl_close
  have e3 : ("( " : Str).cps.toList = [40, 32] := by decide +kernel
  have e4 : (" )" : Str).cps.toList = [32, 41] := by decide +kernel
  show (twoSpc x).cps.toList = _
  rw [b, a, e1, e2, e3, e4, repl_one, repl_one, two_reps]
/-- no bracket, no space -/
def Bare (l : List Nat) : Prop := ∀ c ∈ l, c ≠ 32 ∧ c ≠ 40 ∧ c ≠ 41
theorem spc_bare : ∀ {l : List Nat}, Bare l → spc l = l
  | [], _ => rfl
  | d :: r, h => by
    have a := h d List.mem_cons_self
    have b := spc_bare (l := r) fun c hc => h c (List.mem_cons_of_mem _ hc)
    show (if d = 40 then [40, 32] else if d = 41 then [32, 41] else [d]) ++ spc r = d :: r
    rw [if_neg a.2.1, if_neg a.2.2, b]
    rfl
theorem name_bare {z : Str} (h : nameB z = true) : Bare (tl z) := by
  unfold nameB at h
  split at h
  · cases h
  split at h
  · cases h
  split at h
  · cases h
  · rename_i h3
    intro c hc
    have e : Txt.isalnum z = true := by
      cases q : Txt.isalnum z with
      | true => rfl
      | false => exact absurd q h3
    unfold Txt.isalnum at e
    rw [Bool.and_eq_true] at e
    have e2 := e.2
    rw [← Array.all_toList] at e2
    have e3 : Unicode.isAlnum c = true := (List.all_eq_true.mp e2) c hc
    have no : ∀ d ∈ [32, 40, 41], Unicode.isAlnum d = false := by decide +kernel
    refine ⟨fun x => ?_, fun x => ?_, fun x => ?_⟩
    · rw [x, no 32 (by simp)] at e3
      cases e3
    · rw [x, no 40 (by simp)] at e3
      cases e3
    · rw [x, no 41 (by simp)] at e3
      cases e3
theorem sign_bare {z : Str} (h : z ∈ signs) : Bare (tl z) := by
  have all : ∀ z ∈ signs, (tl z).all (fun c => decide (c ≠ 32 ∧ c ≠ 40 ∧ c ≠ 41)) = true := by decide +kernel
  intro c hc
  exact of_decide_eq_true (List.all_eq_true.mp (all z h) c hc)
theorem joinL_app (S : List Nat) : ∀ {x y : List (List Nat)}, x ≠ [] → y ≠ [] → joinL S (x ++ y) = joinL S x ++ (S ++ joinL S y)
  | [], _, h, _ => absurd rfl h
  | [p], [], _, h => absurd rfl h
  | [p], q :: r, _, _ => rfl
  | p :: q :: r, y, _, hy => by
    have ih := joinL_app S (x := q :: r) (y := y) (by simp) hy
    show p ++ (S ++ joinL S ((q :: r) ++ y)) = (p ++ (S ++ joinL S (q :: r))) ++ (S ++ joinL S y)
    rw [ih]
    simp [List.append_assoc]
theorem joinL_cons (S p : List Nat) {y : List (List Nat)} (hy : y ≠ []) : joinL S (p :: y) = p ++ (S ++ joinL S y) := joinL_app S (x := [p]) (by simp) hy
theorem tok_ne : ∀ (b : Bool) (t : Fm), t.tok b ≠ []
  | _, .leaf z => by cases ‹Bool› <;> simp [Fm.tok]
  | false, .node s l r => by simp [Fm.tok]
  | true, .node s l r => by simp [Fm.tok]
theorem map_ne {l : List Str} (h : l ≠ []) : l.map tl ≠ [] := fun e => h (List.map_eq_nil_iff.mp e)
theorem tok_text : ∀ (b : Bool) (t : Fm), t.Ok → spc (tl (t.txt b)) = joinL [32] ((t.tok b).map tl)
  | b, .leaf z, h => by
    have e : (Fm.leaf z).txt b = z := by cases b <;> rfl
    have e2 : (Fm.leaf z).tok b = [z] := by cases b <;> rfl
    rw [e, e2, spc_bare (name_bare h)]
    rfl
  | b, .node s l r, h => by
    have il := tok_text true l h.2.1
    have ir := tok_text true r h.2.2
    have e1 : tl (" " : Str) = [32] := by decide +kernel
    have e5 : spc [32] = [32] := rfl
    have nl := map_ne (tok_ne true l)
    have nr := map_ne (tok_ne true r)
    have sb := spc_bare (sign_bare h.1)
    cases b
    · simp only [Fm.txt, Fm.tok]
      rw [tl_append, tl_append, tl_append, tl_append, spc_app, spc_app, spc_app, spc_app, e1, e5, il, ir, sb, List.map_append, List.map_cons, joinL_app _ nl (by simp), joinL_cons _ _ nr]
      simp only [List.append_assoc]
    · simp only [Fm.txt, Fm.tok]
      rw [tl_append, tl_append, tl_append, tl_append, tl_append, tl_append, spc_app, spc_app, spc_app, spc_app, spc_app, spc_app, e1, e5, il, ir, sb, List.map_cons, List.map_append, List.map_cons, List.map_append, joinL_cons _ _ (by simp [nl]), joinL_app _ nl (by simp), joinL_cons _ _ (by simp), joinL_app _ nr (by simp)]
      have e6 : spc (tl ("(" : Str)) = [40, 32] := by decide +kernel
      have e7 : spc (tl (")" : Str)) = [32, 41] := by decide +kernel
      rw [e6, e7, tl_open]
      show _ = [40] ++ ([32] ++ (joinL [32] (List.map tl (Fm.tok true l)) ++ ([32] ++ (tl s ++ ([32] ++ (joinL [32] (List.map tl (Fm.tok true r)) ++ ([32] ++ joinL [32] [tl tClose])))))))
      show _ = [40] ++ ([32] ++ (joinL [32] (List.map tl (Fm.tok true l)) ++ ([32] ++ (tl s ++ ([32] ++ (joinL [32] (List.map tl (Fm.tok true r)) ++ ([32] ++ tl tClose)))))))
      rw [tl_close]
      simp only [List.append_assoc, List.cons_append, List.nil_append]
theorem tok_bare : ∀ (b : Bool) (t : Fm), t.Ok → ∀ z ∈ t.tok b, 32 ∉ tl z ∧ z.length ≤ 8
  | b, .leaf y, h => fun z hz => by
    have e2 : (Fm.leaf y).tok b = [y] := by cases b <;> rfl
    rw [e2] at hz
    rw [List.mem_singleton.mp hz]
    exact ⟨fun m => (name_bare h 32 m).1 rfl, name_short h⟩
  | b, .node s l r, h => fun z hz => by
    have c1 := (sign_ok h.1).1
    have sg : 32 ∉ tl s ∧ s.length ≤ 8 := ⟨fun m => (sign_bare h.1 32 m).1 rfl, by omega⟩
    have op : 32 ∉ tl tOpen ∧ tOpen.length ≤ 8 := by decide +kernel
    have cl : 32 ∉ tl tClose ∧ tClose.length ≤ 8 := by decide +kernel
    have il := tok_bare true l h.2.1
    have ir := tok_bare true r h.2.2
    cases b
    · simp only [Fm.tok, List.mem_append, List.mem_cons] at hz
      rcases hz with e | rfl | e
      · exact il z e
      · exact sg
      · exact ir z e
    · simp only [Fm.tok, List.mem_append, List.mem_cons, List.not_mem_nil, or_false] at hz
      rcases hz with rfl | e | rfl | e | rfl
      · exact op
      · exact il z e
      · exact sg
      · exact ir z e
      · exact cl
theorem words_of (t : Fm) (h : t.Ok) : Txt.split (twoSpc (t.txt false)) (" " : Str) = t.tok false := by
  have e1 : tl (" " : Str) = [32] := by decide +kernel
  have e : twoSpc (t.txt false) = Txt.join (" " : Str) (t.tok false) := by
    have a : tl (twoSpc (t.txt false)) = tl (Txt.join (" " : Str) (t.tok false)) := by
      rw [tl_twoSpc, tok_text false t h, join_eq, tl_join, e1]
    rw [← mk_tl (twoSpc (t.txt false)), ← mk_tl (Txt.join (" " : Str) (t.tok false)), a]
  rw [e]
  exact split_join e1 (by decide +kernel) (tok_ne false t) fun p hp => (tok_bare false t h p hp).1
theorem tok_len : ∀ (b : Bool) (t : Fm), (t.tok b).length + 3 ≤ 4 * t.nl
  | b, .leaf y => by
    have e2 : (Fm.leaf y).tok b = [y] := by cases b <;> rfl
    rw [e2]
    show 1 + 3 ≤ 4 * 1
    omega
  | b, .node s l r => by
    have a := tok_len true l
    have c := tok_len true r
    rw [Fm.nl_node]
    cases b
    · simp only [Fm.tok, List.length_append, List.length_cons]
      omega
    · simp only [Fm.tok, List.length_append, List.length_cons, List.length_nil]
      omega
end K1

/-! defs that want a token out -/
namespace TkX
open PySem PySem.Spec PyProof.Rows L2 SmX ClX
structure FnT (P : Program) (w : World) (K : PySem.W.Frag) (mg : Str → Option Value) (base : Heap) (k : Nat) (f : Addr) (fd : FuncData) (ps : List Str) (sp : Sp) : Prop where
  len : ∀ vs H Q E, sp vs H Q E → vs.length = ps.length
  run : ∀ (A : Around) (outer : List Env) (s : Shared) (H : Hp) (args : Args) (us : List Value) (vs : List V) (Q : VK) (E : XK), 1 ≤ s.toks → Room k A → Env0 P w K mg base A outer s H → BindsTo s fd args (ps.zip us) → Vals vs us → sp vs H Q E →
    codeAny (model P w) A (.call (.ref f) args) (CR CX0 outer P w H s Q E) s
section
variable {P : Program} {w : World} {K : PySem.W.Frag} {mg : Str → Option Value} {base : Heap}
theorem fnT_of {k : Nat} {f : Addr} {name qual : Str} {st : Stmt} {fd : FuncData} {N ps : List Str} {sp : Sp} (F : Fun K name qual st f fd) (S : FnScope N ps (defScope st)) (len : ∀ vs H Q E, sp vs H Q E → vs.length = ps.length)
    (body : ∀ (cdv : Value) (A : Around) (outer : List Env) (s : Shared) (H : Hp) (vs : List V) (Q : VK) (E : XK), Room k (A.deeper (envOfC qual (defScope st) s.heap.objs.size f cdv)) → sp vs H Q E →
      ∃ t, PSsT (cxOf CX0 P w K mg base N qual (defScope st) f cdv A outer s H E).nox (defBody st) t ∧ t { nx := fun _ H' => Q .non H', rt := Q } (L2.start N vs) H) : FnT P w K mg base (k + 1) f fd ps sp := by
  refine ⟨len, fun A outer s H args us vs Q E h1 hr e0 hb r hsp => ?_⟩
  obtain ⟨oc, od, kV, doc, pm, an, cdv, ct, osl, rfl, lk, hcd⟩ := F.ex
  have hl := len _ _ _ _ hsp
  have inK : K.In s.heap := e0.mod.kin.keeps fun b o e => (e0.bs b o e).1
  have noL : s.heap.NoLimit := e0.mod.nolimit.keeps fun b o e => (e0.bs b o e).1
  have kinds : ∀ y ∈ ps.zip us, (defScope st).names.lookup y.1 = some .local ∨ ((defScope st).names.lookup y.1 = some .cell ∧ ((cellsFrom (s.heap.objs.size + 1) (defScope st).names []).lookup y.1).isSome = true) := fun ⟨n, v⟩ hy => by
    rcases S.par n (List.of_mem_zip hy).1 with q | q
    · exact .inl q
    · exact .inr ⟨q, PySem.W.cellsFrom_some _ _ _
          (.inl q)⟩
  refine codeAny_call_function hr.depth (inK _ _ lk) rfl S.co S.gen rfl
      (PySem.W.codeRec_of inK hcd) (hb _ _ _ _ ?_)
  refine wpAny_mono (PySem.wpAny_toks_of h1 (wpAny_newFunctionEnv_cells (Q := fun env s1 => env = envOfC qual (defScope st) s.heap.objs.size f cdv ∧ InCallC s s.heap.objs.size (bindL (envOfC qual (defScope st) s.heap.objs.size f cdv).kindOf (ps.zip us) fun _ => none) (cellsFrom (s.heap.objs.size + 1) (defScope st).names []) (bindC (envOfC qual (defScope st) s.heap.objs.size f cdv).kindOf (ps.zip us) fun _ => none) s1) S.kind kinds fun env he s1 x => ⟨he, by subst he; exact x⟩)) (fun env s1 hz => ?_) fun _ _ z => z.2
  obtain ⟨t1, rfl, x⟩ := hz
  refine ⟨noL.keeps
      x.toInCall.keep, codeAny_func ?_⟩
  obtain ⟨t, ht, hq⟩ := body cdv A outer s H vs Q E (hr.deeper _) hsp
  have I := (inv_start (CX := CX0) (E := E) S hr.hd e0 hl r x).wish fun _ _ => False
  refine wpAny_mono (ht [] s1 (L2.start N vs) H _ t1 I hq) (fun fl s2 hs => ?_) fun e s2 hs => False.elim hs
  have hs := hs.unwish
  have fin : ∀ {σ' : L2.St} {H' : Hp} {v : V} {u : Value}, Inv (cxOf CX0 P w K mg base N qual (defScope st) f cdv A outer s H E) [] σ' H' s2 → RelV v u → Q v H' → CE outer P w H s Q u s2 :=
    fun {σ' H' v u} J rv q => ⟨v, H', J.os, J.bare, J.base,
        J.hok, rv, q⟩
  cases fl with
  | ret u =>
    obtain ⟨v, σ', H',
        J, rv, q⟩ := hs
    exact fin J rv q
  | next =>
    obtain ⟨σ', H',
        J, q⟩ := hs
    exact fin (v := V.non)
        (u := Value.none) J rfl q
  | brk =>
    obtain ⟨_, _, _,
        q⟩ := hs
    exact q.elim
  | cont =>
    obtain ⟨_, _, _,
        q⟩ := hs
    exact q.elim
end
/-- x(e, ..), a token being out -/
structure HasT (P : Program) (w : World) (K : PySem.W.Frag) (mg : Str → Option Value) (base : Heap) (k : Nat) (x : Str) (f : Addr) (ps : List Str) (sp : Sp) : Prop where
  gm : mg x = some (.ref f)
  kp : PySem.W.keepIn K (.ref f) = true
  ex : ∃ fd, FnT P w K mg base k f fd ps sp ∧ L2.Binds K fd ps []
section
variable {X : Cx} {k : Nat} {x : Str} {f C p g : Addr} {ps : List Str} {sp : Sp} {o e : Expr} {es : List Expr} {te to : TE} {ta t : TA} {E : XK} {mc : Value} {m : Str} {pos apos : Pos}
theorem after_run {pins : List (Addr × Obj)} {σ : L2.St} {H : Hp} {s : Shared} {Q : VK} (I : Inv X pins σ H s) {r : Result} {s' : Shared} : CR CX0 X.stack X.prog X.w H s Q E0 r s' →
    (match r with | .ok (.ret v) => EP X pins σ Q v s' | .ok _ => False | .error e => X.xe e s') := by
  intro hq
  cases r with
  | error e => exact hq.elim
  | ok fl =>
    cases fl with
    | ret u => exact I.after hq
    | next => exact False.elim hq
    | brk => exact False.elim hq
    | cont => exact False.elim hq
theorem pet_has {pn : Pos} (F : HasT X.prog X.w X.K X.mg X.base k x f ps sp) (hr : Room k X.A) (hg : Gl X x) (ha : PA X (e :: es) t)
    (hd : (x == ("__debug__" : Str)) = false := by decide) (hst : starEach (e :: es) X.env = (false, eval e X.env) :: starEach es X.env := by rfl) (hpl : (backTo pos (starEach es X.env)).any (·.1) = false := by rfl) :
    PET X (.Call (.Name x pn) (e :: es) [] pos) (tCall sp [] E0 t) := by
  obtain ⟨gm, kp, fd, F, hb⟩ := F
  intro pins s σ H Q h1 I h
  refine wpAny_Call_Name_kw
      (ld_glob I hg gm ?_ hd)
  refine PySem.W.callWith_K (h₀ := X.base) I.ok.mod.kin kp (wpAny_mono (PySem.wpAny_toks_of h1 (ha.run pos pins s σ H _ I h)) (fun us s1 q => ?_) fun _ _ z => z.2) hst hpl
  obtain ⟨t1, vs, H1, I1, rv, q⟩ := q
  refine ⟨I1.kIn, ?_⟩
  have q : sp vs H1 Q E0 := by
    have q : sp (vs ++ []) H1 Q E0 := q
    rw [List.append_nil] at q
    exact q
  have hl : us.length = ps.length := by rw [← rv.length]; exact F.len _ _ _ _ q
  have bb := hb s1 us I1.kIn (by rw [List.append_nil]; exact hl)
  rw [List.append_nil] at bb
  exact wpAny_call (codeAny_mono (F.run X.A X.stack s1 H1 ⟨us, []⟩ us vs Q E0 t1 hr I1.env0 bb rv q) fun r s' hq => after_run I1 hq)
theorem pst_set {i : Nat} {pos' : Pos} (hN : X.N.Nodup) (hi : X.N[i]? = some x) (hx : Loc X.env.scope x) (he : PET X e te) (hs : swapsWith e (some (.Name x pos')) pos.line X.env = pure false := by rfl) (hf : X.fn x = true ∨ X.env.scope.names.lookup x = some .local := by first | exact .inl rfl | exact .inr rfl | assumption) :
    PST X (.Assign [.Name x pos'] e pos) (tAsg te (gName i)) := by
  intro pins s σ H D h1 I h
  refine wpAny_Assign_Name (thn (he pins s σ H _ h1 I h) fun v s1 ⟨y, H1, I1, r1, q1⟩ => ?_) hs
  exact store_ok I1 hN hi hx r1 (fun s2 I2 => ⟨_, H1, I2, q1⟩) hf
theorem pet_m1 {id : String} {name : Str} {r : V → List V → Hp → VK → Prop} (slot : Slot "str" name id) (ty : typeOf (.builtin id) = pure (.type "method_descriptor")) (rule : MtR X id r) (ho : PET X o to) (he : PE X e te)
    (hs : starEach [e] X.env = [(false, eval e X.env)] := by rfl) (hbase : attributeBase o name X.env (eval o X.env) = eval o X.env := by rfl) (hline : (apos.endLine == pos.line) = true := by rfl) :
    PET X (.Call (.Attribute o name apos) [e] [] pos) (tM1 r to te) := by
  intro pins s σ H Q h1 I h
  refine PySem.Call_method1 hbase hs hline (thn (ho pins s σ H _ h1 I h) fun v s1 ⟨x, H1, I1, r1, q1⟩ => ?_)
  obtain ⟨⟨a, rfl⟩, q1⟩ := q1
  obtain ⟨t, rfl⟩ := _root_.id r1
  refine ⟨"str", _, F.plainAttrs_str, slot, ty, typeIs_str _ _ _, (fun _ e => nomatch e), Calls.callWith_builtin rfl (Calls.evalArgs_plain (Calls.spliced_cons ?_))⟩
  exact thn (he.run pins s1 σ H1 _ I1 q1) fun u s2 ⟨y, H2, I2, r2, q2⟩ => Calls.spliced_nil (rule pins s2 σ H2 _ [y] _ [u] Q I2 r1 (.cons r2 .nil) q2)
theorem getsm_tok {pl : Sem Bool} {pins : List (Addr × Obj)} {σ : L2.St} {H : Hp} {s : Shared} {A : Around} {E' : Value → Shared → Prop} {Q : Value × List Value → Shared → Prop} (Iv : Inv X pins σ H s) (r : CRead X.K C mc) (k : SMet X.K C mc m p g) (hyp : ∀ s', 1 ≤ s'.toks → Inv X pins σ H s' → Q (.ref g, []) s') : wpAny (model X.prog X.w) A (getMethod (.ref C) m pl) Q E' s := by
  obtain ⟨rest, hp⟩ := k.rc
  refine PySem.W.method_cls Iv.kIn r.ga (PySem.W.cls_bind Iv.kIn r.rd k.at_ ?_)
  exact wpAny_call (PySem.W.sm_get (s := { s with toks := s.toks + 1 }) Iv.kIn hp (PySem.W.handed_on rfl (hyp _ (Nat.le_add_left 1 _) (Iv.tok _))))
/-- C.m(e, ..) of a static method that wants a token out -/
theorem pe_smT {fd : FuncData} {pl : Sem Bool} (he : PE X o to) (r : CRead X.K C mc) (c : SMet X.K C mc m p g) (F : FnT X.prog X.w X.K X.mg X.base k g fd ps sp) (hb : L2.Binds X.K fd ps []) (hr : Room k X.A) (ha : PA X (e :: es) t)
    (hst : starEach (e :: es) X.env = (false, eval e X.env) :: starEach es
        X.env := by rfl) (hpl : (backTo pos (starEach es X.env)).any (·.1) = false := by rfl)
    (ht : eval (.Call (.Attribute o
        m apos) (e :: es) [] pos) X.env = (do
      let ov ← eval o X.env
      standAt apos.atName
      let (f, first) ← holding
          [ov] (getMethod ov m pl)
      callWith pos f first (backTo pos (starEach (e :: es)
          X.env)) (backToKw pos (keywordEach [] X.env))) := by rfl) :
    PE X (.Call (.Attribute o m apos) (e :: es) [] pos) (tSMeth C sp E0 to t) := by
  refine ⟨fun pins s σ H Q Iv hyp => ?_⟩
  refine PySem.W.methodCall_KW (pl := pl) (thn (he.run pins s σ H _ Iv hyp) fun usV st1 ⟨x, H1, Iv1, relX, ex, cont⟩ => ?_) ht
  subst ex
  obtain rfl : usV = Value.ref C := relX
  refine getsm_tok Iv1 r c fun st2 t2 Iv2 => ?_
  refine PySem.W.callWith_K (h₀ := X.base) Iv.ok.mod.kin c.kp (wpAny_mono (PySem.wpAny_toks_of t2 (ha.run pos pins st2 σ H1 _ Iv2 cont)) (fun us s1 q => ?_) fun _ _ z => z.2) hst hpl
  obtain ⟨t3, vs, H2, I3, rv, q⟩ := q
  refine ⟨I3.kIn, ?_⟩
  have hl : us.length = ps.length := by rw [← rv.length]; exact F.len _ _ _ _ q
  have bb := hb s1 us I3.kIn (by rw [List.append_nil]; exact hl)
  rw [List.append_nil] at bb
  exact wpAny_call (codeAny_mono (F.run X.A X.stack s1 H2 ⟨us, []⟩ us vs Q E0 t3 hr I3.env0 bb rv q) fun r s' hq => after_run I3 hq)
end
end TkX

namespace K1
open PySem PySem.Spec
open PyProof.Rows L2 EnT StX SmX TxS DuX
/-! ### read_counted -/
def spTakeX : Sp := fun vs H Q E => ∃ H0, spTake H0 vs H Q E
def spReadC : Sp := fun vs H Q _ => ∃ t : Fm, vs = [.str (t.txt false)] ∧ t.Ok ∧ t.nl ≤ 500 ∧ ∀ (v : V) (H' : Hp), Same H H' → PartAt H' v (.f t) → Q v H'
abbrev nmRc : List Str := ["text", "words", "opened", "word", "outermost"]
theorem step_len {a b : List (List Part)} {z : Str} (h : Step a z b) : b.length ≤ a.length + 1 := by
  cases h <;> simp only [List.length_cons] <;> omega
section
variable {w : World} {P : Program} {base : Heap} {mg : Str → Option Value} {K : PySem.W.Frag} {aS : Addr}
theorem ok_takeX {f fJ fN : Addr} {fd : FuncData} (F : Fun K "take_word" "take_word" sTake f fd) (G : Gf K mg aS) (hJ : Has P w K mg base CX0 1 "joined" fJ ["parts"] spJoined) (hN : Has P w K mg base CX0 1 "is_name" fN ["value"] spIsName) : FnOk P w K mg base CX0 2 f fd ["opened", "word"] spTakeX :=
  ⟨fun vs H Q E ⟨H0, h⟩ => (ok_take H0 F G hJ hN).len vs H Q E h, fun A outer s H args us vs Q E hr e0 hb r ⟨H0, h⟩ => (ok_take H0 F G hJ hN).run A outer s H args us vs Q E hr e0 hb r h⟩
theorem scRc : FnScope nmRc ["text"] (defScope sReadC) := ⟨rfl, rfl, rfl, by decide +kernel, rfl, by decide +kernel, by decide +kernel⟩
theorem ok_readC {f fT fJ : Addr} {fd : FuncData} (F : Fun K "read_counted" "read_counted" sReadC f fd) (T : Free mg) (hT : Has P w K mg base CX0 2 "take_word" fT ["opened", "word"] spTakeX) (hJ : Has P w K mg base CX0 1 "joined" fJ ["parts"] spJoined) :
    TkX.FnT P w K mg base 3 f fd ["text"] spReadC := by
  refine TkX.fnT_of F scRc (fun vs H Q E h => ?_) (fun cdv A outer s H vs Q E hr h => ?_)
  · obtain ⟨t, rfl, _⟩ := h
    rfl
  · obtain ⟨t, rfl, ok, l, q⟩ := h
    refine ⟨_, psst_cons (PST.of (ps_if (pt_not (pt_val (pe_callB call_isi (by rfl) T.isinstance (by decide +kernel) (pa_cons (pv 0) (pa_cons (pe_bltn (v := .ty "str") (u := .type "str") (by rfl) T.str (by decide +kernel) rfl) pa_nil))))) pss_never pss_nil))
      (psst_cons (TkX.pst_set (i := 1) scRc.nd rfl (.inl rfl) (TkX.pet_m1 PySem.F.slot_str_split PySem.F.type_str_split mt_split (CwR.pet_replT (CwR.pet_replC (pv 0))) pe_str))
      (PSsT.of (pss_cons (ps_set (i := 2) scRc.nd rfl (.inl rfl) (pe_lst (pa_cons (pe_lst pa_nil) pa_nil)))
      (pss_cons (ps_for PassesOwn.never rfl (pi_list (pv 1)) (pg_name (i := 3) scRc.nd rfl (.inl rfl))
          (pss_one (ps_if (pt_not (pt_val (pe_has hT hr (by rfl) pass0 (pa_cons (pv 2) (pa_cons (pv 3) pa_nil))))) pss_never pss_nil)))
      (pss_cons (ps_set (i := 4) scRc.nd rfl (.inl rfl) (pe_ix ix_list (pv 2) pe_int (fun _ _ => rfl)))
      (pss_cons (ps_if (pt_cmpR op_eq (pe_callB call_len_seq (by rfl) T.len PySem.boot_len (pa_cons (pv 4) pa_nil)) pe_int (nomark _)) (pss_one (ps_ret (pe_has hJ (hr.mono (by decide)) (by rfl) pass0 (pa_cons (pv 4) pa_nil)))) pss_nil)
      (pss_cons (ps_if (PW.pt (pw_and (pt_cmpR op_eq (pe_callB call_len_seq (by rfl) T.len PySem.boot_len (pa_cons (pv 4) pa_nil)) pe_int (nomark _)) (pw_and1 (pt_val (pe_callB call_isi (by rfl) T.isinstance (by decide +kernel) (pa_cons (pe_ix ix_tup (pe_ix ix_list (pv 4) pe_int (fun _ _ => rfl)) pe_int (fun _ _ => rfl)) (pa_cons (pe_bltn (v := .ty "str") (u := .type "str") (by rfl) T.str (by decide +kernel) rfl) pa_nil)))))))
          (pss_one (ps_ret (pe_ix ix_list (pv 4) pe_int (fun _ _ => rfl)))) pss_nil) pss_never))))))), ?_⟩
    refine ⟨_, rfl, _, _, _, _, true, rfl, .ty _, .base (.str _), kit_ty (by decide +kernel), true, rfl, iteF ?_⟩
    have l1 := txt_len false t ok
    have z1 : ("( " : Str).length = 2 := by decide +kernel
    have z2 : (" )" : Str).length = 2 := by decide +kernel
    have l2 := TK.replace_len (t.txt false) ("(" : Str) ("( " : Str)
    have l3 := TK.replace_len (Txt.replace (t.txt false) ("(" : Str) ("( " : Str)) (")" : Str) (" )" : Str)
    have sl : sizeLine = 16777216 := by decide
    rw [z1] at l2
    rw [z2] at l3
    refine ⟨_, rfl, _, rfl, (by rw [z1]; omega), _, rfl, (by rw [z2]; omega), ⟨_, rfl⟩, _, _, rfl, rfl, by decide +kernel, (by omega), fun W nW => ?_⟩
    have wo := words_of t ok
    have hW : (upd H W (.lst ((Txt.split (twoSpc (t.txt false)) (" " : Str)).map V.str))) W = some (.lst ((t.tok false).map V.str)) := by rw [wo]; exact upd_same
    have s1 : Same H (upd H W (.lst ((Txt.split (twoSpc (t.txt false)) (" " : Str)).map V.str))) := same_upd nW
    generalize (upd H W (.lst ((Txt.split (twoSpc (t.txt false)) (" " : Str)).map V.str))) = H1 at hW s1
    refine ⟨(by show 0 ≤ sizeLine; decide), fun R nR => ⟨(by show 1 ≤ sizeLine; decide), fun L nL => ?_⟩⟩
    have nRL : R ≠ L := fun e => by
      rw [← e, upd_same] at nL
      cases nL
    have nL1 : H1 L = none := by
      rw [upd_ne (Ne.symm nRL)] at nL
      exact nL
    have s2 : Same H1 (upd (upd H1 R (.lst [])) L (.lst [.ref R])) := (same_upd nR).trans (same_upd nL)
    have sk : StackAt H1 (upd (upd H1 R (.lst [])) L (.lst [.ref R])) L [R] [[]] := ⟨upd_same, nL1, .cons (by rw [upd_ne nRL]; exact upd_same) .nil nR nRL (by simp) .nil⟩
    generalize (upd (upd H1 R (.lst [])) L (.lst [.ref R])) = H3 at s2 sk ⊢
    have run := runs_all t ok
    have tl4 := tok_len false t
    refine ⟨_, rfl, W, rfl, ⟨_, SqL.of (s2 _ _ hW)⟩, for_list (xs := (t.tok false).map V.str) (K := K) (a := W) (fun i σ H' => Same H1 H' ∧ ∃ (as : List Addr) (st : List (List Part)) (y3 : Option V), σ = [some (.str (t.txt false)), some (.ref W), some (.ref L), y3, none] ∧ StackAt H1 H' L as st ∧ st.length ≤ i + 1 ∧ Runs st ((t.tok false).drop i) [t.outer]) ⟨s2, _, _, _, rfl, sk, Nat.le_refl _, run⟩ ?_ ?_ ?_⟩
    · rintro i σ H' hi ⟨s3, _⟩
      exact SqL.of (s3 _ _ hW)
    · rintro i x σ H' hx ⟨s3, as, st, y3, rfl, k3, ll, rr⟩
      rw [List.getElem?_map] at hx
      obtain ⟨z, hz, rfl⟩ := Option.map_eq_some_iff.mp hx
      obtain ⟨hi, ez⟩ := List.getElem?_eq_some_iff.mp hz
      rw [List.drop_eq_getElem_cons hi, ez] at rr
      cases rr with
      | cons stp rr =>
      have hl8 := (tok_bare false t ok z (List.mem_of_getElem? hz)).2
      refine ⟨_, rfl, _, rfl, H1, L, z, as, st, _, rfl, k3, stp, s3, (by omega), (by omega), fun as' H4 s4 k4 => ?_⟩
      refine ⟨true, rfl, iteF ?_⟩
      have := step_len stp
      exact ⟨s4, as', _, _, rfl, k4, by omega, rr⟩
    · rintro σ H4 ⟨s4, as, st, y3, rfl, k4, ll, rr⟩
      rw [List.drop_eq_nil_of_le (by rw [List.length_map]; exact Nat.le_refl _)] at rr
      cases rr
      obtain ⟨hL, nL', rows⟩ := k4
      cases rows with
      | cons ha pa na ne nd r =>
      cases r
      rename_i a vs
      refine ⟨_, rfl, L, _, _, .ref a, rfl, rfl, SqL.of hL, rfl, ?_⟩
      have s5 := s1.trans s4
      have lv := pa.len
      cases t with
      | leaf z =>
        cases pa with
        | cons p1 r1 =>
        cases r1
        cases p1 with
        | f hb m =>
        rename_i b v
        cases m
        refine ⟨_, rfl, a, _, rfl, .inl (SqL.of ha), rfl, _, rfl, iteF ?_⟩
        refine ⟨_, rfl, a, _, rfl, .inl (SqL.of ha), rfl, _, rfl, iteT ?_⟩
        refine ⟨_, rfl, a, _, _, .ref b, rfl, rfl, SqL.of ha, rfl, b, _, _, .str z, rfl, rfl, SqT.of hb, rfl, _, _, _, _, true, rfl, .ty _, .base (.str _), kit_ty (by decide +kernel), true, rfl, iteT ?_⟩
        exact ⟨_, rfl, a, _, _, .ref b, rfl, rfl, SqL.of ha, rfl, q _ _ s5 (.f hb (.leaf z))⟩
      | node z l r =>
        refine ⟨_, rfl, a, _, rfl, .inl (SqL.of ha), rfl, _, rfl, ?_⟩
        rw [decide_eq_true (by rw [lv]; rfl)]
        exact iteT ⟨_, rfl, a, _, z, _, r, rfl, ha, pa, fun v H' s p => q v H' (s5.trans s) p⟩
end
end K1

namespace K1
open PySem PySem.Spec
open PyProof.Rows L2 EnT StX SmX TxS DuX
/-! ### expressions -/
def eflds (v : V) (t : Fm) (fl : Addr) : List (Str × V) := putF "_has_given" (.bl (decide (tGiven ∈ t.lvs))) (putF "_fields" (.ref fl) (putF "_depth" (.int (t.dep : Nat)) (putF "_leaves" (.int (t.nl : Nat)) (putF "_form" v []))))
theorem ef_form (v : V) (t : Fm) (fl : Addr) : (eflds v t fl).lookup ("_form" : Str) = some v := by
  unfold eflds
  rw [lookup_putF, if_neg (by decide +kernel), lookup_putF, if_neg (by decide +kernel), lookup_putF, if_neg (by decide +kernel), lookup_putF, if_neg (by decide +kernel), lookup_putF, if_pos rfl]
theorem ef_leaves (v : V) (t : Fm) (fl : Addr) : (eflds v t fl).lookup ("_leaves" : Str) = some (.int (t.nl : Nat)) := by
  unfold eflds
  rw [lookup_putF, if_neg (by decide +kernel), lookup_putF, if_neg (by decide +kernel), lookup_putF, if_neg (by decide +kernel), lookup_putF, if_pos rfl]
theorem ef_depth (v : V) (t : Fm) (fl : Addr) : (eflds v t fl).lookup ("_depth" : Str) = some (.int (t.dep : Nat)) := by
  unfold eflds
  rw [lookup_putF, if_neg (by decide +kernel), lookup_putF, if_neg (by decide +kernel), lookup_putF, if_pos rfl]
theorem ef_fields (v : V) (t : Fm) (fl : Addr) : (eflds v t fl).lookup ("_fields" : Str) = some (.ref fl) := by
  unfold eflds
  rw [lookup_putF, if_neg (by decide +kernel), lookup_putF, if_pos rfl]
theorem ef_given (v : V) (t : Fm) (fl : Addr) : (eflds v t fl).lookup ("_has_given" : Str) = some (.bl (decide (tGiven ∈ t.lvs))) := by
  unfold eflds
  rw [lookup_putF, if_pos rfl]
structure ExpC (K : PySem.W.Frag) (mg : Str → Option Value) (C : Addr) : Prop where
  g : mg "Expression" = some (.ref C)
  cl : Cls K C
  nF : NoAttr K C "_form"
  nL : NoAttr K C "_leaves"
  nD : NoAttr K C "_depth"
  nS : NoAttr K C "_fields"
  nG : NoAttr K C "_has_given"
structure ExpAt (C : Addr) (H : Hp) (p : Addr) (t : Fm) : Prop where
  at_ : ∃ (dx : Addr) (v : V) (fl : Addr) (ys : List Str), H p = some (.ins C dx (eflds v t fl)) ∧ FmAt H v t ∧ H fl = some (.tup (ys.map V.str)) ∧ sortedS ys = true ∧ ys.Nodup ∧ ∀ z, z ∈ ys ↔ z ∈ t.lvs ∧ fieldB z = true
  ok : t.Ok
  d : t.dep ≤ 9
  n : t.nl ≤ 100
theorem ExpAt.same {C p : Addr} {H H' : Hp} {t : Fm} (s : Same H H') (m : ExpAt C H p t) : ExpAt C H' p t := by
  obtain ⟨⟨dx, v, fl, ys, h1, h2, h3, h4⟩, a, b, c⟩ := m
  exact ⟨⟨dx, v, fl, ys, s _ _ h1, h2.same s, s _ _ h3, h4⟩, a, b, c⟩
theorem ExpAt.set {C p a : Addr} {H : Hp} {t : Fm} {xs : List V} {o : HO} (h : H a = some (.lst xs)) (m : ExpAt C H p t) : ExpAt C (upd H a o) p t := by
  obtain ⟨⟨dx, v, fl, ys, h1, h2, h3, h4⟩, b, c, d⟩ := m
  exact ⟨⟨dx, v, fl, ys, by rw [upd_ne (fun z => by rw [z, h] at h1; cases h1)]; exact h1, h2.keep (TupK.set (H := H) (H' := H) (fun _ _ e => e) h), by rw [upd_ne (fun z => by rw [z, h] at h3; cases h3)]; exact h3, h4⟩, b, c, d⟩
/-- what Expression(..) gives -/
def spInitE (C : Addr) : Sp := fun vs H Q _ => ∃ (p dx : Addr) (v : V) (t : Fm), vs = [.ref p, v] ∧ H p = some (.ins C dx []) ∧ FmAt H v t ∧ t.Ok ∧ t.dep ≤ 9 ∧ t.nl ≤ 100 ∧ ∀ H', (∀ x o, x ≠ p → H x = some o → H' x = some o) → ExpAt C H' p t → Q .non H'
abbrev nmIE : List Str := ["self", "form", "size", "leaves", "depth"]
section
variable {w : World} {P : Program} {base : Heap} {mg : Str → Option Value} {K : PySem.W.Frag} {aS C : Addr}
theorem scIE : FnScope nmIE ["self", "form"] (defScope sInitE) := ⟨rfl, rfl, rfl, by decide +kernel, rfl, by decide +kernel, by decide +kernel⟩
theorem ok_initE {f f1 f2 f3 f4 f5 : Addr} {fd : FuncData} (F : Fun K "__init__" "Expression.__init__" sInitE f fd) (G : Gf K mg aS) (M : ExpC K mg C) (hS : Has P w K mg base CX0 2 "form_size" f1 ["value"] spSize)
    (hL : Has P w K mg base CX0 1 "check_leaves" f2 ["leaves"] (spChk 200)) (hD : Has P w K mg base CX0 1 "check_depth" f3 ["depth"] (spChk 20)) (hF : Has P w K mg base CX0 10 "form_fields" f4 ["form"] (spFields 9)) (hV : Has P w K mg base CX0 9 "form_leaves" f5 ["form"] (spLeaves 9)) :
    FnOk P w K mg base CX0 11 f fd ["self", "form"] (spInitE C) := by
  obtain ⟨tg, hg⟩ := G.gv
  refine F.ok scIE (fun vs H Q E h => ?_) (fun cdv A outer s H vs Q E hr h => ?_)
  · obtain ⟨p, dx, v, t, rfl, _⟩ := h
    rfl
  · obtain ⟨p, dx, v, t, rfl, hp, hm, ok, hd, nl, q⟩ := h
    refine ⟨_, pss_cons (ps_set (i := 2) scIE.nd rfl (.inl rfl) (pe_has hS (hr.mono (by decide)) (by rfl) pass0 (pa_cons (pv 1) pa_nil)))
      (pss_cons (ps_if (pt_cmp (pc_isN (pv 2))) pss_never pss_nil)
      (pss_cons (ps_asg (pv 2) (pg_tup rfl (pgs_cons (pg_name (i := 3) scIE.nd rfl (.inl rfl)) (pgs_cons (pg_name (i := 4) scIE.nd rfl (.inl rfl)) pgs_nil))))
      (pss_cons (ps_expr (pe_has hL (hr.mono (by decide)) (by rfl) pass0 (pa_cons (pv 3) pa_nil)))
      (pss_cons (ps_expr (pe_has hD (hr.mono (by decide)) (by rfl) pass0 (pa_cons (pv 4) pa_nil)))
      (pss_cons (ps_fld (pv 0) (pv 1) rfl) (pss_cons (ps_fld (pv 0) (pv 3) rfl) (pss_cons (ps_fld (pv 0) (pv 4) rfl)
      (pss_cons (ps_fld (pv 0) (pe_has hF hr (by rfl) pass0 (pa_cons (pv 1) pa_nil)) rfl)
      (pss_one (ps_fld (pv 0) (pe_cmpR op_in_seq (pe_glob (v := .str tGiven) (by rfl) hg ⟨_, rfl⟩) (pe_has hV (hr.mono (by decide)) (by rfl) pass0 (pa_cons (pv 1) pa_nil)) (by rfl)) rfl)))))))))), ?_⟩
    refine ⟨_, rfl, v, t, rfl, hm, ok, by omega, by omega, fun a H1 s1 ha => ?_⟩
    refine ⟨_, rfl, false, rfl, iteF ?_⟩
    refine ⟨_, rfl, a, _, rfl, SqT.of ha, rfl, _, _, rfl, _, _, rfl, rfl, ?_⟩
    refine ⟨_, rfl, _, rfl, by omega, ?_⟩
    refine ⟨_, rfl, _, rfl, by omega, ?_⟩
    have hp1 := s1 _ _ hp
    have hm1 := hm.same s1
    have pt : ∀ {fs : List (Str × V)} {H2 : Hp} {o : HO}, H2 p = some (.ins C dx fs) → TupK H2 (upd H2 p o) := fun {fs H2 o} e a xs h => by rw [upd_ne (fun z => by rw [z, e] at h; cases h)]; exact h
    refine ⟨_, rfl, _, rfl, p, C, dx, [], rfl, hp1, M.cl, M.nF, (by show 0 < 1000; decide), ?_⟩
    refine ⟨_, rfl, _, rfl, p, C, dx, _, rfl, upd_same, M.cl, M.nL, (by rw [show (putF "_form" v []).length = 1 from rfl]; decide), ?_⟩
    rw [upd_upd]
    refine ⟨_, rfl, _, rfl, p, C, dx, _, rfl, upd_same, M.cl, M.nD, (by rw [show (putF "_leaves" (V.int (t.nl : Nat)) (putF "_form" v [])).length = 2 from rfl]; decide), ?_⟩
    rw [upd_upd]
    refine ⟨_, rfl, v, t, rfl, hm1.keep (pt hp1), ok, hd, by omega, fun fl ys H2 s2 hf so nd iff => ?_⟩
    have hp2 := s2 _ _ (upd_same (H := H1) (a := p) (o := .ins C dx (putF "_depth" (V.int (t.dep : Nat)) (putF "_leaves" (V.int (t.nl : Nat)) (putF "_form" v [])))))
    have hm2 := (hm1.keep (pt hp1 (o := .ins C dx (putF "_depth" (V.int (t.dep : Nat)) (putF "_leaves" (V.int (t.nl : Nat)) (putF "_form" v [])))))).same s2
    refine ⟨_, rfl, p, C, dx, _, rfl, hp2, M.cl, M.nS, (by rw [show (putF "_depth" (V.int (t.dep : Nat)) (putF "_leaves" (V.int (t.nl : Nat)) (putF "_form" v []))).length = 3 from rfl]; decide), ?_⟩
    refine ⟨_, rfl, v, t, rfl, hm2.keep (pt hp2), hd, by omega, fun l H3 nl' s3 hl => ?_⟩
    have hp3 := s3 _ _ (upd_same (H := H2) (a := p) (o := .ins C dx (putF "_fields" (V.ref fl) (putF "_depth" (V.int (t.dep : Nat)) (putF "_leaves" (V.int (t.nl : Nat)) (putF "_form" v []))))))
    have hm3 := (hm2.keep (pt hp2 (o := .ins C dx (putF "_fields" (V.ref fl) (putF "_depth" (V.int (t.dep : Nat)) (putF "_leaves" (V.int (t.nl : Nat)) (putF "_form" v []))))))).same s3
    have hf3 := s3 _ _ (pt hp2 (o := .ins C dx (putF "_fields" (V.ref fl) (putF "_depth" (V.int (t.dep : Nat)) (putF "_leaves" (V.int (t.nl : Nat)) (putF "_form" v []))))) _ _ hf)
    refine ⟨l, _, rfl, .inl (SqL.of hl), rfl, strs_flat _, ?_⟩
    rw [inV_mem]
    refine ⟨_, rfl, p, C, dx, _, rfl, hp3, M.cl, M.nG, (by rw [show (putF "_fields" (V.ref fl) (putF "_depth" (V.int (t.dep : Nat)) (putF "_leaves" (V.int (t.nl : Nat)) (putF "_form" v [])))).length = 4 from rfl]; decide), ?_⟩
    refine q _ (fun x o n e => ?_) ⟨⟨dx, v, fl, ys, upd_same, hm3.keep (pt hp3), pt hp3 _ _ hf3, so, nd, iff⟩, ok, hd, nl⟩
    rw [upd_ne n]
    refine s3 _ _ ?_
    rw [upd_ne n]
    refine s2 _ _ ?_
    rw [upd_ne n]
    exact s1 _ _ e
end
end K1

namespace K1
open PySem PySem.Spec
open PyProof.Rows L2 EnT StX SmX TxS DuX
/-! ### what an expression tells -/
/-- e.x, a property that hands a field on -/
structure Pp (P : Program) (w : World) (K : PySem.W.Frag) (mg : Str → Option Value) (base : Heap) (C : Addr) (x y : Str) : Prop where
  cl : Cls K C
  ex : ∃ p g fd, PropOf K C x p g ∧ FnOk P w K mg base CX0 1 g fd ["self"] (getSp C y) ∧ L2.Binds K fd ["self"] []
section
variable {X : Cx} {C : Addr} {x y : Str} {e : Expr} {pos : Pos} {ta : TE}
theorem pe_pp (h : Pp X.prog X.w X.K X.mg X.base C x y) (he : PE X e ta) (hr : Room 2 X.A) (hab : attributeBase e x X.env (eval e X.env) = eval e X.env) : PE X (.Attribute e x pos) (tProp C (getSp C y) [] E0 ta) := by
  obtain ⟨c, p, g, fd, pr, G, b⟩ := h
  exact pe_prop he c pr G hr b .nil pass0 hab
end
/-- what is asked of a class for isinstance -/
structure IsC (K : PySem.W.Frag) (C : Addr) : Prop where
  yes : PySem.W.kitOne K (.ref C) (.ref C) = some true
  no : ∀ t ∈ baseTys, PySem.W.kitOne K (.type t) (.ref C) = some false
  hm : PySem.W.mroIn K C (.type "object") = some true
  htk : PySem.W.takesIn K (.builtin "object.__class__") = some true
  hn : PySem.W.specialIn K (.builtin "object.__class__") "__get__" = some (some (.builtin "getset_descriptor.__get__"))
  ha : PySem.W.findIn K (.ref C) "__class__" = some (some (.builtin "object.__class__"))
/-- a value that is none of the class at C -/
def NotC (K : PySem.W.Frag) (C : Addr) (H : Hp) (v : V) : Prop := ∃ t, TyX K H v t ∧ PySem.W.kitOne K t (.ref C) = some false
theorem VOk.notC {K : PySem.W.Frag} {C : Addr} {H : Hp} {v : V} (I : IsC K C) (h : VOk H v) : NotC K C H v := by
  obtain ⟨t, ht, tx⟩ := h.ty (K := K)
  exact ⟨_, tx, I.no t ht⟩
theorem exp_ty {K : PySem.W.Frag} {mg : Str → Option Value} {C b : Addr} {H : Hp} {t : Fm} (M : ExpC K mg C) (I : IsC K C) (m : ExpAt C H b t) : TyX K H (.ref b) (.ref C) := by
  obtain ⟨dy, v, fl, ys, k1, _⟩ := m.at_
  exact .base (.ins k1 M.cl I.ha I.hn I.htk I.hm)
def expText (t : Fm) : Str := Str.empty ++ ("Expression(" : Str) ++ (toString (t.nl : Int) : Str) ++ (" leaves)" : Str)
def spStrE (C : Addr) : Sp := fun vs H Q _ => ∃ (a : Addr) (t : Fm), vs = [.ref a] ∧ ExpAt C H a t ∧ Q (.str (t.txt false)) H
def spReprE (C : Addr) : Sp := fun vs H Q _ => ∃ (a : Addr) (t : Fm), vs = [.ref a] ∧ ExpAt C H a t ∧ Q (.str (expText t)) H
def spEqE (K : PySem.W.Frag) (C : Addr) : Sp := fun vs H Q _ => ∃ (a : Addr) (t : Fm) (y : V), vs = [.ref a, y] ∧ ExpAt C H a t ∧ ((∃ (b : Addr) (u : Fm), y = .ref b ∧ ExpAt C H b u ∧ Q (.bl (PyData.eqv t.dat u.dat)) H) ∨ (NotC K C H y ∧ Q (.bl false) H))
section
variable {w : World} {P : Program} {base : Heap} {mg : Str → Option Value} {K : PySem.W.Frag} {aS C : Addr}
theorem scFormP : FnScope ["self"] ["self"] (defScope sFormP) := ⟨rfl, rfl, rfl, by decide +kernel, rfl, by decide +kernel, by decide +kernel⟩
theorem scLeavesP : FnScope ["self"] ["self"] (defScope sLeavesP) := ⟨rfl, rfl, rfl, by decide +kernel, rfl, by decide +kernel, by decide +kernel⟩
theorem scDepthP : FnScope ["self"] ["self"] (defScope sDepthP) := ⟨rfl, rfl, rfl, by decide +kernel, rfl, by decide +kernel, by decide +kernel⟩
theorem scFieldsP : FnScope ["self"] ["self"] (defScope sFieldsP) := ⟨rfl, rfl, rfl, by decide +kernel, rfl, by decide +kernel, by decide +kernel⟩
theorem scGivenP : FnScope ["self"] ["self"] (defScope sGivenP) := ⟨rfl, rfl, rfl, by decide +kernel, rfl, by decide +kernel, by decide +kernel⟩
theorem scStrE : FnScope ["self"] ["self"] (defScope sStrE) := ⟨rfl, rfl, rfl, by decide +kernel, rfl, by decide +kernel, by decide +kernel⟩
theorem scReprE : FnScope ["self"] ["self"] (defScope sReprE) := ⟨rfl, rfl, rfl, by decide +kernel, rfl, by decide +kernel, by decide +kernel⟩
theorem scEqE : FnScope ["self", "other"] ["self", "other"] (defScope sEqE) := ⟨rfl, rfl, rfl, by decide +kernel, rfl, by decide +kernel, by decide +kernel⟩
theorem ok_formP {f : Addr} {fd : FuncData} (F : Fun K "form" "Expression.form" sFormP f fd) (M : ExpC K mg C) : FnOk P w K mg base CX0 1 f fd ["self"] (getSp C "_form") := by
  refine F.ok scFormP (fun vs H Q E h => ?_) (fun cdv A outer s H vs Q E hr h => ?_)
  · obtain ⟨a, dx, fs, v, rfl, _⟩ := h
    rfl
  · obtain ⟨a, dx, fs, v, rfl, ha, l, q⟩ := h
    exact ⟨_, pss_one (ps_ret (pe_fld (pv 0) rfl)), _, rfl, a, C, dx, fs, v, rfl, ha, M.cl, M.nF, l, q⟩
theorem ok_leavesP {f : Addr} {fd : FuncData} (F : Fun K "leaves" "Expression.leaves" sLeavesP f fd) (M : ExpC K mg C) : FnOk P w K mg base CX0 1 f fd ["self"] (getSp C "_leaves") := by
  refine F.ok scLeavesP (fun vs H Q E h => ?_) (fun cdv A outer s H vs Q E hr h => ?_)
  · obtain ⟨a, dx, fs, v, rfl, _⟩ := h
    rfl
  · obtain ⟨a, dx, fs, v, rfl, ha, l, q⟩ := h
    exact ⟨_, pss_one (ps_ret (pe_fld (pv 0) rfl)), _, rfl, a, C, dx, fs, v, rfl, ha, M.cl, M.nL, l, q⟩
theorem ok_depthP {f : Addr} {fd : FuncData} (F : Fun K "depth" "Expression.depth" sDepthP f fd) (M : ExpC K mg C) : FnOk P w K mg base CX0 1 f fd ["self"] (getSp C "_depth") := by
  refine F.ok scDepthP (fun vs H Q E h => ?_) (fun cdv A outer s H vs Q E hr h => ?_)
  · obtain ⟨a, dx, fs, v, rfl, _⟩ := h
    rfl
  · obtain ⟨a, dx, fs, v, rfl, ha, l, q⟩ := h
    exact ⟨_, pss_one (ps_ret (pe_fld (pv 0) rfl)), _, rfl, a, C, dx, fs, v, rfl, ha, M.cl, M.nD, l, q⟩
theorem ok_fieldsP {f : Addr} {fd : FuncData} (F : Fun K "fields" "Expression.fields" sFieldsP f fd) (M : ExpC K mg C) : FnOk P w K mg base CX0 1 f fd ["self"] (getSp C "_fields") := by
  refine F.ok scFieldsP (fun vs H Q E h => ?_) (fun cdv A outer s H vs Q E hr h => ?_)
  · obtain ⟨a, dx, fs, v, rfl, _⟩ := h
    rfl
  · obtain ⟨a, dx, fs, v, rfl, ha, l, q⟩ := h
    exact ⟨_, pss_one (ps_ret (pe_fld (pv 0) rfl)), _, rfl, a, C, dx, fs, v, rfl, ha, M.cl, M.nS, l, q⟩
theorem ok_givenP {f : Addr} {fd : FuncData} (F : Fun K "has_given" "Expression.has_given" sGivenP f fd) (M : ExpC K mg C) : FnOk P w K mg base CX0 1 f fd ["self"] (getSp C "_has_given") := by
  refine F.ok scGivenP (fun vs H Q E h => ?_) (fun cdv A outer s H vs Q E hr h => ?_)
  · obtain ⟨a, dx, fs, v, rfl, _⟩ := h
    rfl
  · obtain ⟨a, dx, fs, v, rfl, ha, l, q⟩ := h
    exact ⟨_, pss_one (ps_ret (pe_fld (pv 0) rfl)), _, rfl, a, C, dx, fs, v, rfl, ha, M.cl, M.nG, l, q⟩
theorem ok_strE {f f1 : Addr} {fd : FuncData} (F : Fun K "__str__" "Expression.__str__" sStrE f fd) (T : Free mg) (M : ExpC K mg C) (hT : Has P w K mg base CX0 18 "form_text" f1 ["form"] (spTextF 9)) : FnOk P w K mg base CX0 19 f fd ["self"] (spStrE C) := by
  refine F.ok scStrE (fun vs H Q E h => ?_) (fun cdv A outer s H vs Q E hr h => ?_)
  · obtain ⟨a, t, rfl, _⟩ := h
    rfl
  · obtain ⟨a, t, rfl, m, q⟩ := h
    obtain ⟨dx, v, fl, ys, h1, h2, _⟩ := m.at_
    have nl := m.n
    exact ⟨_, pss_one (ps_ret (pe_callTy SkE.call_str_str (by rfl) T.str (by decide +kernel) (pa_cons (pe_has hT hr (by rfl) pass0 (pa_cons (pe_fld (pv 0) rfl) pa_nil)) pa_nil))), _, rfl, a, C, dx, _, _, rfl, h1, M.cl, M.nF, ef_form v t fl, v, t, rfl, h2, m.ok, m.d, by omega, _, rfl, q⟩
theorem ok_reprE {f : Addr} {fd : FuncData} (F : Fun K "__repr__" "Expression.__repr__" sReprE f fd) (M : ExpC K mg C) : FnOk P w K mg base CX0 1 f fd ["self"] (spReprE C) := by
  refine F.ok scReprE (fun vs H Q E h => ?_) (fun cdv A outer s H vs Q E hr h => ?_)
  · obtain ⟨a, t, rfl, _⟩ := h
    rfl
  · obtain ⟨a, t, rfl, m, q⟩ := h
    obtain ⟨dx, v, fl, ys, h1, h2, _⟩ := m.at_
    have nl := m.n
    have f1 : (toString (t.nl : Int) : Str).length ≤ 5 := RpD.shown_int (by omega)
    have e0 : (Str.empty ++ ("Expression(" : Str)).length = 11 := by decide +kernel
    have e1 : ((" leaves)" : Str)).length = 8 := by decide +kernel
    refine ⟨_, pss_one (ps_ret (pe_joined (.cons pe_str (.cons (pe_fmt (pe_fld (pv 0) rfl)) (.cons pe_str .nil))))), ?_⟩
    refine ⟨_, rfl, by rw [e0, sizeLine_eq]; decide, _, rfl, a, C, dx, _, _, rfl, h1, M.cl, M.nL, ef_leaves v t fl, .inr ⟨_, rfl, RpD.log_small (i := (t.nl : Nat)) (by omega), ?_⟩⟩
    exact ⟨_, rfl, by rw [strLen_append, e0, sizeLine_eq]; omega, _, rfl, by rw [strLen_append, strLen_append, e0, e1, sizeLine_eq]; omega, q⟩
theorem ok_eqE {f : Addr} {fd : FuncData} (F : Fun K "__eq__" "Expression.__eq__" sEqE f fd) (T : Free mg) (M : ExpC K mg C) (I : IsC K C) (pF : Pp P w K mg base C "form" "_form") : FnOk P w K mg base CX0 3 f fd ["self", "other"] (spEqE K C) := by
  refine F.ok scEqE (fun vs H Q E h => ?_) (fun cdv A outer s H vs Q E hr h => ?_)
  · obtain ⟨a, t, y, rfl, _⟩ := h
    rfl
  · obtain ⟨a, t, y, rfl, m, h⟩ := h
    obtain ⟨dx, v, fl, ys, h1, h2, _⟩ := m.at_
    refine ⟨_, pss_one (ps_ret (pe_and (pe_callB call_isi (by rfl) T.isinstance (by decide +kernel) (pa_cons (pv 1) (pa_cons (pe_glob (v := .ref C) (by rfl) M.g rfl) pa_nil))) (pe_one (pe_cmpR (op_eqD (by have := hr.un; have e : (A.deeper (envOfC "Expression.__eq__" (defScope sEqE) s.heap.objs.size f cdv)).units = A.units + 3 := rfl; show A.units + 3 + 64 < cLine; omega)) (pe_fld (pv 0) rfl) (pe_pp pF (pv 1) hr rfl) (nomark _))))), ?_⟩
    rcases h with ⟨b, u, rfl, m2, q⟩ | ⟨⟨ty, tx, kt⟩, q⟩
    · obtain ⟨dx2, v2, fl2, ys2, k1, k2, _⟩ := m2.at_
      refine ⟨_, rfl, _, _, _, _, true, rfl, .own C, exp_ty M I m2, I.yes, true, rfl, ?_⟩
      refine iteT ⟨_, rfl, a, C, dx, _, _, rfl, h1, M.cl, M.nF, ef_form v t fl, _, rfl, b, dx2, _, rfl, k1, b, dx2, _, _, rfl, k1, ef_form v2 u fl2, ?_⟩
      have d1 := m.d
      have d2 := m2.d
      exact ⟨t.dat, u.dat, h2.dp, k2.dp, Fm.shaped m.ok (by omega), Fm.shaped m2.ok (by omega), q⟩
    · refine ⟨_, rfl, _, _, _, _, false, rfl, .own C, tx, kt, false, rfl, ?_⟩
      exact iteF q
end
def MakesE (C : Addr) (t : Fm) (H : Hp) (Q : VK) : Prop := ∀ (p : Addr) (H' : Hp), H p = none → Same H H' → ExpAt C H' p t → Q (.ref p) H'
theorem makeE_go {C : Addr} {H : Hp} {v : V} {t : Fm} {Q : VK} {E : XK} (hm : FmAt H v t) (ok : t.Ok) (hd : t.dep ≤ 9) (hn : t.nl ≤ 100) (q : MakesE C t H Q) : ∀ x dx, H x = none → H dx = none → dx ≠ x → spInitE C [.ref x, v] (upd (upd H dx (.own x)) x (.ins C dx [])) (fun v H2 => v = .non ∧ Q (.ref x) H2) E := by
  intro x dx nx nd ne
  have s1 : Same H (upd H dx (.own x)) := same_upd nd
  have nx1 : (upd H dx (.own x)) x = none := by rw [upd_ne (Ne.symm ne)]; exact nx
  have s2 : Same (upd H dx (.own x)) (upd (upd H dx (.own x)) x (.ins C dx [])) := same_upd nx1
  refine ⟨x, dx, v, t, rfl, upd_same, hm.same (s1.trans s2), ok, hd, hn, fun H' k e => ⟨rfl, q x H' nx (fun b o hb => k b o (fun z => ?_) ((s1.trans s2) b o hb)) e⟩⟩
  rw [z, nx] at hb
  cases hb
end K1

namespace TkX
open PySem PySem.Spec PyProof.Rows L2 SmX ClX
/-- C.m(k = e, ..) of a static method that wants a token out -/
theorem pe_smKT {X : Cx} {k : Nat} {C p g : Addr} {mc : Value} {sp : Sp} {o : Expr} {m : Str} {pos apos : Pos} {to : TE} {tk : TA} {pl : Sem Bool} {fd : FuncData} {ps ks : List Str} {kws : List Keyword} {gg : List Value → List Value → List Value} {gV : List V → List V → List V} (he : PE X o to) (r : CRead X.K C mc) (c : SMet X.K C mc m p g)
    (F : FnT X.prog X.w X.K X.mg X.base k g fd ps sp) (hb : KBn X.K fd ps 0 ks gg gV) (hr : Room k X.A) (hkw : PK X kws tk)
    (hks : (backToKw pos (keywordEach kws X.env)).filterMap (·.1) = ks := by rfl) (hall : (backToKw pos (keywordEach kws X.env)).all (·.1.isSome) = true := by rfl)
    (hpl : ((backTo pos (starEach [] X.env)).any (·.1) || (backToKw pos (keywordEach kws X.env)).any (·.1.isNone)) = false := by rfl)
    (ht : eval (.Call (.Attribute o m apos) [] kws pos) X.env = (do
      let ov ← eval o X.env
      standAt apos.atName
      let (f, first) ← holding
          [ov] (getMethod ov m pl)
      callWith pos f first (backTo pos (starEach [] X.env)) (backToKw pos (keywordEach kws X.env))) := by rfl) :
    PE X (.Call (.Attribute o m apos) [] kws pos) (tSMethK C ks.length sp gV E0 to tk) := by
  refine ⟨fun pins s σ H Q Iv hyp => ?_⟩
  refine PySem.W.methodCall_KW (pl := pl) (thn (he.run pins s σ H _ Iv hyp) fun usV st1 ⟨x, H1, Iv1, relX, ex, cont⟩ => ?_) ht
  subst ex
  obtain rfl : usV = Value.ref C := relX
  refine getsm_tok Iv1 r c fun st2 t2 Iv2 => ?_
  refine PySem.W.callWith_KW0 (h₀ := X.base) Iv.ok.mod.kin c.kp hall ?_ hpl
  refine wpAny_mono (PySem.wpAny_toks_of t2 (hkw.run pos pins st2 σ H1 _ Iv2 cont)) (fun ws s1 q => ?_) fun _ _ z => z.2
  obtain ⟨t3, zs, H2, I3, rz, l2, q2⟩ := q
  refine ⟨I3.kIn, ?_⟩
  rw [hks]
  exact wpAny_call (codeAny_mono (F.run X.A X.stack s1 H2 ⟨[], ks.zip ws⟩ (gg [] ws) (gV [] zs) Q E0 t3 hr I3.env0 (hb.to s1 [] ws I3.kIn rfl (rz.length.symm.trans l2)) (hb.rel .nil rz) q2) fun r s' hq => after_run I3 hq)
end TkX
namespace K1
open PySem PySem.Spec
open PyProof.Rows L2 EnT StX SmX TxS DuX
/-! ### Expression.read -/
def spReadE (C : Addr) : Sp := fun vs H Q _ => ∃ t : Fm, vs = [.str (t.txt false)] ∧ t.Ok ∧ t.dep ≤ 9 ∧ t.nl ≤ 100 ∧ MakesE C t H Q
abbrev nmRE : List Str := ["text", "counted", "form", "leaves"]
section
variable {w : World} {P : Program} {base : Heap} {mg : Str → Option Value} {K : PySem.W.Frag} {aS C fI : Addr}
theorem scRE : FnScope nmRE ["text"] (defScope sReadE) := ⟨rfl, rfl, rfl, by decide +kernel, rfl, by decide +kernel, by decide +kernel⟩
theorem ok_readE {f f1 f2 : Addr} {fd : FuncData} (F : Fun K "read" "Expression.read" sReadE f fd) (M : ExpC K mg C) (MK : Mk K C fI) (FI : FnR P w K mg base CX0 11 fI (spInitE C)) (hR : TkX.HasT P w K mg base 3 "read_counted" f1 ["text"] spReadC)
    (hL : Has P w K mg base CX0 1 "check_leaves" f2 ["leaves"] (spChk 200)) : TkX.FnT P w K mg base 13 f fd ["text"] (spReadE C) := by
  refine TkX.fnT_of F scRE (fun vs H Q E h => ?_) (fun cdv A outer s H vs Q E hr h => ?_)
  · obtain ⟨t, rfl, _⟩ := h
    rfl
  · obtain ⟨t, rfl, ok, hd, nl, q⟩ := h
    refine ⟨_, psst_cons (TkX.pst_set (i := 1) scRE.nd rfl (.inl rfl) (TkX.pet_has hR (hr.mono (by decide)) (by rfl) (pa_cons (pv 0) pa_nil)))
      (PSsT.of (pss_cons (ps_if (pt_cmp (pc_isN (pv 1))) pss_never pss_nil)
      (pss_cons (ps_asg (pv 1) (pg_tup rfl (pgs_cons (pg_name (i := 2) scRE.nd rfl (.inl rfl)) (pgs_cons (pg_name (i := 3) scRE.nd rfl (.inl rfl)) pgs_nil))))
      (pss_cons (ps_expr (pe_has hL (hr.mono (by decide)) (by rfl) pass0 (pa_cons (pv 3) pa_nil)))
      (pss_one (ps_ret (pe_makeR MK FI hr (by rfl) M.g pass0 (pa_cons (pv 2) pa_nil)))))))), ?_⟩
    refine ⟨_, rfl, t, rfl, ok, by omega, fun v H1 s1 pt => ?_⟩
    cases pt with
    | f ha hm =>
    rename_i a v
    refine ⟨_, rfl, false, rfl, iteF ?_⟩
    refine ⟨_, rfl, a, _, rfl, SqT.of ha, rfl, _, _, rfl, _, _, rfl, rfl, ?_⟩
    refine ⟨_, rfl, _, rfl, by omega, ?_⟩
    refine ⟨_, rfl, makeE_go hm ok hd nl fun p H' np s2 m => q p H' ?_ (s1.trans s2) m⟩
    cases e : H p with
    | none => rfl
    | some o =>
      rw [s1 _ _ e] at np
      cases np
end
end K1

namespace K1
open PySem PySem.Spec
open PyProof.Rows L2 EnT StX SmX TxS DuX
/-! ### the signs -/
def spChkE (C : Addr) : Sp := fun vs H Q _ => ∃ (b : Addr) (t : Fm), vs = [.ref b] ∧ ExpAt C H b t ∧ Q .non H
def spSign (C : Addr) : Sp := fun vs H Q _ => ∃ (z : Str) (a b : Addr) (t u : Fm), vs = [.str z, .ref a, .ref b] ∧ z ∈ signs ∧ ExpAt C H a t ∧ ExpAt C H b u ∧ t.dep ≤ 8 ∧ u.dep ≤ 8 ∧ t.nl ≤ 50 ∧ u.nl ≤ 50 ∧ MakesE C (.node z t u) H Q
def spOp (C : Addr) (z : Str) : Sp := fun vs H Q _ => ∃ (a b : Addr) (t u : Fm), vs = [.ref a, .ref b] ∧ ExpAt C H a t ∧ ExpAt C H b u ∧ t.dep ≤ 8 ∧ u.dep ≤ 8 ∧ t.nl ≤ 50 ∧ u.nl ≤ 50 ∧ MakesE C (.node z t u) H Q
theorem MakesE.after {C : Addr} {t : Fm} {H H1 : Hp} {Q : VK} (s : Same H H1) (q : MakesE C t H Q) : MakesE C t H1 Q := fun p H' np s2 m => q p H' (by
  cases e : H p with
  | none => rfl
  | some o =>
    rw [s _ _ e] at np
    cases np) (s.trans s2) m
section
variable {w : World} {P : Program} {base : Heap} {mg : Str → Option Value} {K : PySem.W.Frag} {aS C fI : Addr}
theorem scChkE : FnScope ["value"] ["value"] (defScope sChkE) := ⟨rfl, rfl, rfl, by decide +kernel, rfl, by decide +kernel, by decide +kernel⟩
theorem scSign : FnScope ["sign", "one", "other"] ["sign", "one", "other"] (defScope sSign) := ⟨rfl, rfl, rfl, by decide +kernel, rfl, by decide +kernel, by decide +kernel⟩
theorem scOrE : FnScope ["self", "other"] ["self", "other"] (defScope sOrE) := ⟨rfl, rfl, rfl, by decide +kernel, rfl, by decide +kernel, by decide +kernel⟩
theorem scAndE : FnScope ["self", "other"] ["self", "other"] (defScope sAndE) := ⟨rfl, rfl, rfl, by decide +kernel, rfl, by decide +kernel, by decide +kernel⟩
theorem scSubE : FnScope ["self", "other"] ["self", "other"] (defScope sSubE) := ⟨rfl, rfl, rfl, by decide +kernel, rfl, by decide +kernel, by decide +kernel⟩
theorem scXorE : FnScope ["self", "other"] ["self", "other"] (defScope sXorE) := ⟨rfl, rfl, rfl, by decide +kernel, rfl, by decide +kernel, by decide +kernel⟩
theorem ok_chkE {f : Addr} {fd : FuncData} (F : Fun K "check_expression" "check_expression" sChkE f fd) (T : Free mg) (M : ExpC K mg C) (I : IsC K C) : FnOk P w K mg base CX0 1 f fd ["value"] (spChkE C) := by
  refine F.ok scChkE (fun vs H Q E h => ?_) (fun cdv A outer s H vs Q E hr h => ?_)
  · obtain ⟨b, t, rfl, _⟩ := h
    rfl
  · obtain ⟨b, t, rfl, m, q⟩ := h
    refine ⟨_, pss_one (ps_if (pt_not (pt_val (pe_callB call_isi (by rfl) T.isinstance (by decide +kernel) (pa_cons (pv 0) (pa_cons (pe_glob (v := .ref C) (by rfl) M.g rfl) pa_nil))))) pss_never pss_nil), ?_⟩
    exact ⟨_, rfl, _, _, _, _, true, rfl, .own C, exp_ty M I m, I.yes, true, rfl, iteF q⟩
theorem ok_sign {f f1 : Addr} {fd : FuncData} (F : Fun K "with_sign" "with_sign" sSign f fd) (M : ExpC K mg C) (MK : Mk K C fI) (FI : FnR P w K mg base CX0 11 fI (spInitE C)) (hC : Has P w K mg base CX0 1 "check_expression" f1 ["value"] (spChkE C)) (pF : Pp P w K mg base C "form" "_form") :
    FnOk P w K mg base CX0 13 f fd ["sign", "one", "other"] (spSign C) := by
  refine F.ok scSign (fun vs H Q E h => ?_) (fun cdv A outer s H vs Q E hr h => ?_)
  · obtain ⟨z, a, b, t, u, rfl, _⟩ := h
    rfl
  · obtain ⟨z, a, b, t, u, rfl, hz, m1, m2, d1, d2, l1, l2, q⟩ := h
    obtain ⟨dx1, v1, fl1, ys1, h1, h2, _⟩ := m1.at_
    obtain ⟨dx2, v2, fl2, ys2, k1, k2, _⟩ := m2.at_
    refine ⟨_, pss_cons (ps_expr (pe_has hC (hr.mono (by decide)) (by rfl) pass0 (pa_cons (pv 2) pa_nil)))
      (pss_one (ps_ret (pe_makeR MK FI hr (by rfl) M.g pass0 (pa_cons (pe_tup (pa_cons (pv 0) (pa_cons (pe_pp pF (pv 1) (hr.mono (by decide)) rfl) (pa_cons (pe_pp pF (pv 2) (hr.mono (by decide)) rfl) pa_nil)))) pa_nil)))), ?_⟩
    refine ⟨_, rfl, b, u, rfl, m2, ?_⟩
    refine ⟨_, rfl, _, rfl, a, dx1, _, rfl, h1, a, dx1, _, _, rfl, h1, ef_form v1 t fl1, _, rfl, b, dx2, _, rfl, k1, b, dx2, _, _, rfl, k1, ef_form v2 u fl2, (by show 3 ≤ sizeLine; decide), fun p np => ?_⟩
    have s1 : Same H (upd H p (.tup [.str z, v1, v2])) := same_upd np
    have dd : (Fm.node z t u).dep ≤ 9 := by rw [Fm.dep_node]; omega
    exact makeE_go (.node upd_same (h2.same s1) (k2.same s1)) ⟨hz, m1.ok, m2.ok⟩ dd (by rw [Fm.nl_node]; omega) (q.after s1)
theorem ok_orE {f f1 : Addr} {fd : FuncData} (F : Fun K "__or__" "Expression.__or__" sOrE f fd) (hS : Has P w K mg base CX0 13 "with_sign" f1 ["sign", "one", "other"] (spSign C)) : FnOk P w K mg base CX0 14 f fd ["self", "other"] (spOp C "|") := by
  refine F.ok scOrE (fun vs H Q E h => ?_) (fun cdv A outer s H vs Q E hr h => ?_)
  · obtain ⟨a, b, t, u, rfl, _⟩ := h
    rfl
  · obtain ⟨a, b, t, u, rfl, m1, m2, d1, d2, l1, l2, q⟩ := h
    exact ⟨_, pss_one (ps_ret (pe_has hS hr (by rfl) pass0 (pa_cons pe_str (pa_cons (pv 0) (pa_cons (pv 1) pa_nil))))), _, rfl, _, rfl, "|", a, b, t, u, rfl, by decide +kernel, m1, m2, d1, d2, l1, l2, q⟩
theorem ok_andE {f f1 : Addr} {fd : FuncData} (F : Fun K "__and__" "Expression.__and__" sAndE f fd) (hS : Has P w K mg base CX0 13 "with_sign" f1 ["sign", "one", "other"] (spSign C)) : FnOk P w K mg base CX0 14 f fd ["self", "other"] (spOp C "&") := by
  refine F.ok scAndE (fun vs H Q E h => ?_) (fun cdv A outer s H vs Q E hr h => ?_)
  · obtain ⟨a, b, t, u, rfl, _⟩ := h
    rfl
  · obtain ⟨a, b, t, u, rfl, m1, m2, d1, d2, l1, l2, q⟩ := h
    exact ⟨_, pss_one (ps_ret (pe_has hS hr (by rfl) pass0 (pa_cons pe_str (pa_cons (pv 0) (pa_cons (pv 1) pa_nil))))), _, rfl, _, rfl, "&", a, b, t, u, rfl, by decide +kernel, m1, m2, d1, d2, l1, l2, q⟩
theorem ok_subE {f f1 : Addr} {fd : FuncData} (F : Fun K "__sub__" "Expression.__sub__" sSubE f fd) (hS : Has P w K mg base CX0 13 "with_sign" f1 ["sign", "one", "other"] (spSign C)) : FnOk P w K mg base CX0 14 f fd ["self", "other"] (spOp C "-") := by
  refine F.ok scSubE (fun vs H Q E h => ?_) (fun cdv A outer s H vs Q E hr h => ?_)
  · obtain ⟨a, b, t, u, rfl, _⟩ := h
    rfl
  · obtain ⟨a, b, t, u, rfl, m1, m2, d1, d2, l1, l2, q⟩ := h
    exact ⟨_, pss_one (ps_ret (pe_has hS hr (by rfl) pass0 (pa_cons pe_str (pa_cons (pv 0) (pa_cons (pv 1) pa_nil))))), _, rfl, _, rfl, "-", a, b, t, u, rfl, by decide +kernel, m1, m2, d1, d2, l1, l2, q⟩
theorem ok_xorE {f f1 : Addr} {fd : FuncData} (F : Fun K "__xor__" "Expression.__xor__" sXorE f fd) (hS : Has P w K mg base CX0 13 "with_sign" f1 ["sign", "one", "other"] (spSign C)) : FnOk P w K mg base CX0 14 f fd ["self", "other"] (spOp C "^") := by
  refine F.ok scXorE (fun vs H Q E h => ?_) (fun cdv A outer s H vs Q E hr h => ?_)
  · obtain ⟨a, b, t, u, rfl, _⟩ := h
    rfl
  · obtain ⟨a, b, t, u, rfl, m1, m2, d1, d2, l1, l2, q⟩ := h
    exact ⟨_, pss_one (ps_ret (pe_has hS hr (by rfl) pass0 (pa_cons pe_str (pa_cons (pv 0) (pa_cons (pv 1) pa_nil))))), _, rfl, _, rfl, "^", a, b, t, u, rfl, by decide +kernel, m1, m2, d1, d2, l1, l2, q⟩
end
end K1

namespace K1
open PySem PySem.Spec
open PyProof.Rows L2 EnT StX SmX TxS DuX
/-- o.m(e, .., k = v, ..): o an own object without a field m -/
def tMethK (C : Addr) (m : Str) (n j : Nat) (sp : Sp) (gV : List V → List V → List V) (E : XK) (to : TE) (ta tk : TA) : TE := fun σ H Q => to σ H fun x H1 => ∃ (a dx : Addr) (fs : List (Str × V)), x = .ref a ∧ H1 a = some (.ins C dx fs) ∧ fs.lookup m = none ∧
  ta σ H1 fun vs H2 => tk σ H2 fun zs H3 => vs.length + 1 = n ∧ zs.length = j ∧ sp (gV (.ref a :: vs) zs) H3 Q E
section
variable {X : Cx} {CX : CXT} {k n : Nat} {C f : Addr} {fd : FuncData} {ps ks : List Str} {sp : Sp} {E : XK} {m : Str} {o : Expr} {apos pos : Pos} {e : Expr} {es : List Expr} {kws : List Keyword} {to : TE} {ta tk : TA} {g : List Value → List Value → List Value} {gV : List V → List V → List V}
theorem pe_methK {pl : Sem Bool} (ho : PE X o to) (c : Cls X.K C) (hm : Meth X.K C m f) (F : FnOk X.prog X.w X.K X.mg X.base CX k f fd ps sp) (hr : Room k X.A) (hb : KBn X.K fd ps n ks g gV) (hx : Passes CX X E) (ha : PA X (e :: es) ta) (hkw : PK X kws tk)
    (hall : (backToKw pos (keywordEach kws X.env)).all (·.1.isSome) = true := by rfl) (hks : (backToKw pos (keywordEach kws X.env)).filterMap (·.1) = ks := by rfl) (hst : starEach (e :: es) X.env = (false, eval e X.env) :: starEach es X.env := by rfl)
    (hpl : ((backTo pos (starEach (e :: es) X.env)).any (·.1) || (backToKw pos (keywordEach kws X.env)).any (·.1.isNone)) = false := by rfl)
    (ht : eval (.Call (.Attribute o m apos) (e :: es) kws pos) X.env = (do
      let ov ← eval o X.env
      standAt apos.atName
      let (f, first) ← holding [ov] (getMethod ov m pl)
      callWith pos f first (backTo pos (starEach (e :: es) X.env)) (backToKw pos (keywordEach kws X.env))) := by rfl) :
    PE X (.Call (.Attribute o m apos) (e :: es) kws pos) (tMethK C m n ks.length sp gV E to ta tk) := by
  refine ⟨fun pins s σ H Q I h => ?_⟩
  refine PySem.W.methodCall_KW (pl := pl) (thn (ho.run pins s σ H _ I h) fun u s1 hu => ?_) ht
  obtain ⟨x, H1, I1, rx, a, dx, fs, ex, ea, l, q⟩ := hu
  subst ex
  obtain rfl : u = Value.ref a := rx
  refine getmeth_ok I1 ea c hm l ?_
  refine PySem.W.callWith_KW (first := [.ref a]) (h₀ := X.base) I.ok.mod.kin hm.kp hall (thn (ha.run pos pins s1 σ H1 _ I1 q) fun us s2 hv => ?_) hpl hst
  obtain ⟨vs, H2, I2, rv, q2⟩ := hv
  refine thn (hkw.run pos pins s2 σ H2 _ I2 q2) fun ws s3 hw => ?_
  obtain ⟨zs, H3, I3, rz, l1, l2, q3⟩ := hw
  refine ⟨I3.kIn, ?_⟩
  rw [hks]
  exact run_fnN (us := .ref a :: us) (vs := .ref a :: vs) F hr hb hx I3 (.cons rfl rv) rz l1 l2 q3
/-- o.m(k = v, ..) -/
theorem pe_methK0 {pl : Sem Bool} (ho : PE X o to) (c : Cls X.K C) (hm : Meth X.K C m f) (F : FnOk X.prog X.w X.K X.mg X.base CX k f fd ps sp) (hr : Room k X.A) (hb : KBn X.K fd ps n ks g gV) (hx : Passes CX X E) (hkw : PK X kws tk)
    (hall : (backToKw pos (keywordEach kws X.env)).all (·.1.isSome) = true := by rfl) (hks : (backToKw pos (keywordEach kws X.env)).filterMap (·.1) = ks := by rfl)
    (hpl : ((backTo pos (starEach [] X.env)).any (·.1) || (backToKw pos (keywordEach kws X.env)).any (·.1.isNone)) = false := by rfl)
    (ht : eval (.Call (.Attribute o m apos) [] kws pos) X.env = (do
      let ov ← eval o X.env
      standAt apos.atName
      let (f, first) ← holding [ov] (getMethod ov m pl)
      callWith pos f first (backTo pos (starEach [] X.env)) (backToKw pos (keywordEach kws X.env))) := by rfl) :
    PE X (.Call (.Attribute o m apos) [] kws pos) (tMethK C m n ks.length sp gV E to tNil tk) := by
  refine ⟨fun pins s σ H Q I h => ?_⟩
  refine PySem.W.methodCall_KW (pl := pl) (thn (ho.run pins s σ H _ I h) fun u s1 hu => ?_) ht
  obtain ⟨x, H1, I1, rx, a, dx, fs, ex, ea, l, q⟩ := hu
  subst ex
  obtain rfl : u = Value.ref a := rx
  refine getmeth_ok I1 ea c hm l ?_
  refine PySem.W.callWith_KW0 (first := [.ref a]) (h₀ := X.base) I.ok.mod.kin hm.kp hall ?_ hpl
  have q : tk σ H1 (fun zs H3 => ([] : List V).length + 1 = n ∧ zs.length = ks.length ∧ sp (gV (.ref a :: []) zs) H3 Q E) := q
  refine thn (hkw.run pos pins s1 σ H1 _ I1 q) fun ws s3 hw => ?_
  obtain ⟨zs, H3, I3, rz, l1, l2, q3⟩ := hw
  refine ⟨I3.kIn, ?_⟩
  rw [hks]
  exact run_fnN (us := [.ref a]) (vs := [.ref a]) F hr hb hx I3 (.cons rfl .nil) rz l1 l2 q3
end
end K1

namespace K1
open PySem PySem.Spec
open PyProof.Rows L2 EnT StX SmX TxS DuX ClX
/-! ### what a form comes to -/
def sgn (s : Str) (a b : Bool) : Bool := if s = "|" then a || b else if s = "&" then a && b else if s = "-" then a && !b else a != b
/-- whether somebody is in a form, g told of each leaf -/
def Fm.val (g : Str → Bool) : Fm → Bool
  | .leaf z => g z
  | .node s l r => sgn s (l.val g) (r.val g)
theorem sgn_in {s : Str} {a b : Bool} (h : sgn s a b = true) : a = true ∨ b = true := by
  unfold sgn at h
  split at h
  · simpa using h
  split at h
  · exact .inl (by simp at h; exact h.1)
  split at h
  · exact .inl (by simp at h; exact h.1)
  · cases a <;> cases b <;> simp_all
theorem Fm.val_in {g : Str → Bool} : ∀ {t : Fm}, t.val g = true → ∃ z ∈ t.lvs, g z = true
  | .leaf z, h => ⟨z, List.mem_cons_self, h⟩
  | .node s l r, h => by
    rcases sgn_in h with h | h
    · obtain ⟨z, a, b⟩ := Fm.val_in h
      exact ⟨z, List.mem_append_left _ a, b⟩
    · obtain ⟨z, a, b⟩ := Fm.val_in h
      exact ⟨z, List.mem_append_right _ a, b⟩
abbrev sgO : Str := PySem.dunder Operator.BitOr.info.2
abbrev sgA : Str := PySem.dunder Operator.BitAnd.info.2
abbrev sgS : Str := PySem.dunder Operator.Sub.info.2
abbrev sgX : Str := PySem.dunder Operator.BitXor.info.2
/-- Members with their four signs -/
structure Mo (P : Program) (w : World) (K : PySem.W.Frag) (mg : Str → Option Value) (base : Heap) (C CN CM : Addr) (mc : Value) : Prop where
  b : Mb P w K mg base C CN CM mc
  or : ∃ g, OwnM K C sgO g ∧ FnR P w K mg base (L2.CX P w) 7 g (spBinM C rOr)
  and : ∃ g, OwnM K C sgA g ∧ FnR P w K mg base (L2.CX P w) 7 g (spBinM C rAnd)
  sub : ∃ g, OwnM K C sgS g ∧ FnR P w K mg base (L2.CX P w) 7 g (spBinM C rSub)
  xor : ∃ g, OwnM K C sgX g ∧ FnR P w K mg base (L2.CX P w) 8 g (spBinM C rXor)
/-- the Members at q are those that p tells -/
structure MemV (C : Addr) (H : Hp) (q : Addr) (U : List Str) (p : Str → Bool) : Prop where
  ex : ∃ ys, MemAt C H q ys ∧ (∀ x, x ∈ ys ↔ p x = true) ∧ ∀ x ∈ ys, x ∈ U
theorem MemV.same {C : Addr} {H H' : Hp} {q : Addr} {U : List Str} {p : Str → Bool} (s : Same H H') (h : MemV C H q U p) : MemV C H' q U p := by
  obtain ⟨ys, a, b⟩ := h.ex
  exact ⟨ys, a.same s, b⟩
/-- the dict at d holds Members for these leaves -/
def TabM (C : Addr) (H : Hp) (d : Addr) (U : List Str) (g : Str → Str → Bool) (zs : List Str) : Prop := ∃ kvs, H d = some (.dK kvs) ∧ ∀ z ∈ zs, ∃ m, valV kvs (Sum.inr z : Key) = some (.ref m) ∧ MemV C H m U (g z)
theorem TabM.same {C d : Addr} {H H' : Hp} {U : List Str} {g : Str → Str → Bool} {zs : List Str} (s : Same H H') (h : TabM C H d U g zs) : TabM C H' d U g zs := by
  obtain ⟨kvs, a, b⟩ := h
  refine ⟨kvs, s _ _ a, fun z hz => ?_⟩
  obtain ⟨m, c, e⟩ := b z hz
  exact ⟨m, c, e.same s⟩
theorem TabM.sub {C d : Addr} {H : Hp} {U : List Str} {g : Str → Str → Bool} {zs ys : List Str} (h : TabM C H d U g zs) (k : ∀ z ∈ ys, z ∈ zs) : TabM C H d U g ys := by
  obtain ⟨kvs, a, b⟩ := h
  exact ⟨kvs, a, fun z hz => b z (k z hz)⟩
/-- the Members of a form -/
def GivesV (C : Addr) (H : Hp) (U : List Str) (p : Str → Bool) (Q : VK) : Prop := ∀ q H', Same H H' → MemV C H' q U p → Q (.ref q) H'
def spValue (C : Addr) (n : Nat) : Sp := fun vs H Q _ => ∃ (v : V) (t : Fm) (d : Addr) (U : List Str) (g : Str → Str → Bool), vs = [v, .ref d] ∧ FmAt H v t ∧ t.Ok ∧ t.dep ≤ n ∧ U.length ≤ 400 ∧ TabM C H d U g t.lvs ∧ GivesV C H U (fun x => t.val fun z => g z x) Q
abbrev nmVa : List Str := ["form", "table", "sign", "left", "right", "one", "other"]
theorem memv_len {C q : Addr} {H : Hp} {U ys : List Str} (m : MemAt C H q ys) (s : ∀ x ∈ ys, x ∈ U) : ys.length ≤ U.length := len_sub m.nd s
section
variable {w : World} {P : Program} {base : Heap} {mg : Str → Option Value} {K : PySem.W.Frag} {C CN CM : Addr} {mc : Value}
/-- a sign between two Members that are told -/
theorem binV_go {a b : Addr} {H : Hp} {U : List Str} {p1 p2 p : Str → Bool} {r : Prop → Prop → Prop} {Q : VK} {E : XK} (m1 : MemV C H a U p1) (m2 : MemV C H b U p2) (hU : U.length ≤ 400) (e : ∀ x, r (p1 x = true) (p2 x = true) ↔ p x = true) (ei : ∀ x, p x = true → p1 x = true ∨ p2 x = true) (q : GivesV C H U p Q) : rBinO C (spBinM C r) E (.ref a) (.ref b) H Q := by
  obtain ⟨ys, k1, k2, k3⟩ := m1.ex
  obtain ⟨zs, j1, j2, j3⟩ := m2.ex
  obtain ⟨dx, t, d, h1, _, _⟩ := k1.at_
  obtain ⟨dy, t2, d2, h2, _, _⟩ := j1.at_
  have l1 := memv_len k1 k3
  have l2 := memv_len j1 j3
  refine ⟨a, dx, _, b, dy, _, rfl, rfl, h1, h2, a, b, ys, zs, rfl, k1, j1, by omega, fun c us H' n s m MA => q c H' s ⟨us, MA, fun x => ?_, fun x hx => ?_⟩⟩
  · have mx : x ∈ us ↔ r (x ∈ ys) (x ∈ zs) := m x
    rw [mx, k2 x, j2 x]
    exact e x
  · have mx : r (x ∈ ys) (x ∈ zs) := (m x).mp hx
    rw [k2 x, j2 x] at mx
    rcases ei x ((e x).mp mx) with h | h
    · exact k3 x ((k2 x).mpr h)
    · exact j3 x ((j2 x).mpr h)
theorem scVa : FnScope nmVa ["form", "table"] (defScope s_form_value) := ⟨rfl, rfl, rfl, by decide +kernel, rfl, by decide +kernel, by decide +kernel⟩
theorem sign_ne {s : Str} (h : s ∈ signs) : (s = "|" ∨ s = "&") ∨ s = "-" ∨ s = "^" := by
  simp only [signs, List.mem_cons, List.not_mem_nil, or_false] at h
  rcases h with h | h | h | h
  · exact .inl (.inl h)
  · exact .inl (.inr h)
  · exact .inr (.inl h)
  · exact .inr (.inr h)
theorem ok_value {f : Addr} {fd : FuncData} (F : Fun K "form_value" "form_value" s_form_value f fd) (B : Mo P w K mg base C CN CM mc) (mgF : mg "form_value" = some (.ref f)) : ∀ n : Nat, FnOk P w K mg base (L2.CX P w) (n + 10) f fd ["form", "table"] (spValue C (n + 1)) := by
  have bF : L2.Binds K fd ["form", "table"] [] := F.binds (ps := ["form", "table"]) fun _ _ _ _ _ _ us hl => match us, hl with | [_, _], _ => rfl
  have T := B.b.T
  have sf := B.b.sf
  obtain ⟨gO, mO, FO⟩ := B.or
  obtain ⟨gA, mA, FA⟩ := B.and
  obtain ⟨gS, mS, FS⟩ := B.sub
  obtain ⟨gX, mX, FX⟩ := B.xor
  intro n
  induction n with
  | zero =>
    refine F.okX scVa (fun vs H Q E h => ?_) (fun cdv A outer s H vs Q E hr h => ?_)
    · obtain ⟨v, t, d, U, g, rfl, _⟩ := h
      rfl
    · obtain ⟨v, t, d, U, g, rfl, m, ok, dn, hU, tb, q⟩ := h
      refine ⟨_, pss_cons (ps_if (pt_val (pe_callB call_isi (by rfl) T.isinstance (by decide +kernel) (pa_cons (pv 0) (pa_cons (pe_bltn (v := .ty "str") (u := .type "str") (by rfl) T.str (by decide +kernel) rfl) pa_nil)))) (pss_one (ps_ret (pe_dget (hu_of hr) (pv 1) (pv 0) (fun _ _ => rfl)))) pss_nil) pss_never, ?_⟩
      cases m with
      | leaf z =>
        obtain ⟨kvs, h1, h2⟩ := tb
        obtain ⟨m, e1, e2⟩ := h2 z List.mem_cons_self
        refine ⟨_, rfl, _, _, _, _, true, rfl, .ty _, .base (.str z), kit_ty (by decide +kernel), true, rfl, iteT ⟨_, rfl, _, rfl, d, .ref m, rfl, ?_, ?_⟩⟩
        · have := DGet.k (H := H) (a := d) (kvs := kvs) (k := Sum.inr z) h1
          rw [e1] at this
          exact this
        · exact q m H (Same.refl H) e2
      | node h hl hr' =>
        rename_i a s' vl vr l' r'
        have := Fm.dep_pos l'
        rw [Fm.dep_node] at dn
        omega
  | succ n ih =>
    have hF : Has P w K mg base (L2.CX P w) (n + 10) "form_value" f ["form", "table"] (spValue C (n + 1)) := ⟨mgF, F.kp, fd, ih, bF⟩
    refine F.okX scVa (fun vs H Q E h => ?_) (fun cdv A outer s H vs Q E hr h => ?_)
    · obtain ⟨v, t, d, U, g, rfl, _⟩ := h
      rfl
    · obtain ⟨v, t, d, U, g, rfl, m, ok, dn, hU, tb, q⟩ := h
      refine ⟨_, pss_cons (ps_if (pt_val (pe_callB call_isi (by rfl) T.isinstance (by decide +kernel) (pa_cons (pv 0) (pa_cons (pe_bltn (v := .ty "str") (u := .type "str") (by rfl) T.str (by decide +kernel) rfl) pa_nil)))) (pss_one (ps_ret (pe_dget (hu_of hr) (pv 1) (pv 0) (fun _ _ => rfl)))) pss_nil)
        (pss_cons (ps_asg (pv 0) (pg_tup rfl (pgs_cons (pg_name (i := 2) scVa.nd rfl (.inl rfl)) (pgs_cons (pg_name (i := 3) scVa.nd rfl (.inl rfl)) (pgs_cons (pg_name (i := 4) scVa.nd rfl (.inl rfl)) pgs_nil)))))
        (pss_cons (ps_set (i := 5) scVa.nd rfl (.inl rfl) (pe_has hF hr (by rfl) (passes_call (takes_of rfl rfl rfl rfl) fun _ _ _ _ h => h) (pa_cons (pv 3) (pa_cons (pv 1) pa_nil))))
        (pss_cons (ps_set (i := 6) scVa.nd rfl (.inl rfl) (pe_has hF hr (by rfl) (passes_call (takes_of rfl rfl rfl rfl) fun _ _ _ _ h => h) (pa_cons (pv 4) (pa_cons (pv 1) pa_nil))))
        (pss_cons (ps_if (pt_cmpR op_eq (pv 2) pe_str (nomark _)) (pss_one (ps_ret (pe_op (op_binO mO sf FO (hr.mono (by omega)) (passes_call (takes_of rfl rfl rfl rfl) fun _ _ _ _ h => h)) (pv 5) (pv 6)))) pss_nil)
        (pss_cons (ps_if (pt_cmpR op_eq (pv 2) pe_str (nomark _)) (pss_one (ps_ret (pe_op (op_binO mA sf FA (hr.mono (by omega)) (passes_call (takes_of rfl rfl rfl rfl) fun _ _ _ _ h => h)) (pv 5) (pv 6)))) pss_nil)
        (pss_cons (ps_if (pt_cmpR op_eq (pv 2) pe_str (nomark _)) (pss_one (ps_ret (pe_op (op_binO mS sf FS (hr.mono (by omega)) (passes_call (takes_of rfl rfl rfl rfl) fun _ _ _ _ h => h)) (pv 5) (pe_op (op_binO mA sf FA (hr.mono (by omega)) (passes_call (takes_of rfl rfl rfl rfl) fun _ _ _ _ h => h)) (pv 5) (pv 6))))) pss_nil)
        (pss_one (ps_ret (pe_op (op_binO mX sf FX (hr.mono (by omega)) (passes_call (takes_of rfl rfl rfl rfl) fun _ _ _ _ h => h)) (pv 5) (pv 6)))))))))), ?_⟩
      cases m with
      | leaf z =>
        obtain ⟨kvs, h1, h2⟩ := tb
        obtain ⟨m, e1, e2⟩ := h2 z List.mem_cons_self
        refine ⟨_, rfl, _, _, _, _, true, rfl, .ty _, .base (.str z), kit_ty (by decide +kernel), true, rfl, iteT ⟨_, rfl, _, rfl, d, .ref m, rfl, ?_, ?_⟩⟩
        · have := DGet.k (H := H) (a := d) (kvs := kvs) (k := Sum.inr z) h1
          rw [e1] at this
          exact this
        · exact q m H (Same.refl H) e2
      | node h hl hr' =>
        rename_i a s' vl vr l' r'
        rw [Fm.dep_node] at dn
        refine ⟨_, rfl, _, _, _, _, false, rfl, .ty _, .base (.tup h), kit_ty (by decide +kernel), false, rfl, iteF ?_⟩
        refine ⟨_, rfl, a, _, rfl, SqT.of h, rfl, _, _, rfl, _, _, rfl, _, _, rfl, rfl, ?_⟩
        refine ⟨_, rfl, _, rfl, vl, l', d, U, g, rfl, hl, ok.2.1, by omega, hU, tb.sub (fun z hz => List.mem_append_left _ hz), fun c1 H1 s1 M1 => ?_⟩
        refine ⟨_, rfl, _, rfl, vr, r', d, U, g, rfl, hr'.same s1, ok.2.2, by omega, hU, (tb.sub (fun z hz => List.mem_append_right _ hz)).same s1, fun c2 H2 s2 M2 => ?_⟩
        have M1' := M1.same s2
        have s12 := s1.trans s2
        have fin : ∀ {p : Str → Bool}, (∀ x, p x = (Fm.node s' l' r').val fun z => g z x) → GivesV C H2 U p Q := fun {p} e c3 H3 s3 M3 => q c3 H3 (s12.trans s3) (by
          have ep : p = fun x => (Fm.node s' l' r').val fun z => g z x := funext e
          rw [← ep]
          exact M3)
        refine ⟨_, rfl, rfl, _, rfl, ?_⟩
        by_cases e1 : s' = "|"
        · rw [decide_eq_true (by rw [e1])]
          refine iteT ⟨_, rfl, _, rfl, binV_go M1' M2 hU (p := fun x => (l'.val fun z => g z x) || (r'.val fun z => g z x)) (fun x => by simp) (fun x h => by simpa using h) (fin fun x => ?_)⟩
          simp only [Fm.val, sgn, if_pos e1]
        rw [decide_eq_false (fun e => e1 (V.str.inj e))]
        refine iteF ⟨_, rfl, rfl, _, rfl, ?_⟩
        by_cases e2 : s' = "&"
        · rw [decide_eq_true (by rw [e2])]
          refine iteT ⟨_, rfl, _, rfl, binV_go M1' M2 hU (p := fun x => (l'.val fun z => g z x) && (r'.val fun z => g z x)) (fun x => by simp) (fun x h => by simp at h; exact .inl h.1) (fin fun x => ?_)⟩
          simp only [Fm.val, sgn, if_neg e1, if_pos e2]
        rw [decide_eq_false (fun e => e2 (V.str.inj e))]
        refine iteF ⟨_, rfl, rfl, _, rfl, ?_⟩
        by_cases e3 : s' = "-"
        · rw [decide_eq_true (by rw [e3])]
          refine iteT ⟨_, rfl, _, rfl, _, rfl, binV_go M1' M2 hU (p := fun x => (l'.val fun z => g z x) && (r'.val fun z => g z x)) (fun x => by simp) (fun x h => by simp at h; exact .inl h.1) fun c3 H3 s3 M3 => ?_⟩
          refine binV_go (M1'.same s3) M3 hU (p := fun x => (l'.val fun z => g z x) && !(r'.val fun z => g z x)) (fun x => ?_) (fun x h => by simp at h; exact .inl h.1) fun c4 H4 s4 M4 => fin (fun x => ?_) c4 H4 (s3.trans s4) M4
          · show (_ ∧ ¬ _) ↔ _
            cases (l'.val fun z => g z x) <;> cases (r'.val fun z => g z x) <;> simp
          · simp only [Fm.val, sgn, if_neg e1, if_neg e2, if_pos e3]
        rw [decide_eq_false (fun e => e3 (V.str.inj e))]
        refine iteF ⟨_, rfl, _, rfl, binV_go M1' M2 hU (p := fun x => (l'.val fun z => g z x) != (r'.val fun z => g z x)) (fun x => ?_) (fun x h => ?_) (fin fun x => ?_)⟩
        · show ((_ ∧ ¬ _) ∨ (_ ∧ ¬ _)) ↔ _
          cases (l'.val fun z => g z x) <;> cases (r'.val fun z => g z x) <;> simp
        · revert h
          cases (l'.val fun z => g z x) <;> cases (r'.val fun z => g z x) <;> simp
        · simp only [Fm.val, sgn, if_neg e1, if_neg e2, if_neg e3]
end
end K1

namespace K1
open PySem PySem.Spec
open PyProof.Rows L2 EnT StX SmX TxS DuX ClX
/-! ### pairs of a field and Members -/
/-- a value, and whether it is such a pair -/
inductive FsV (K : PySem.W.Frag) (C : Addr) (H : Hp) : V → Bool → Prop where
  | yes {a m : Addr} {z : Str} {ys : List Str} (h : H a = some (.tup [.str z, .ref m])) (nz : nameB z = true) (fz : fieldB z = true) (M : MemAt C H m ys) : FsV K C H (.ref a) true
  | non : FsV K C H .non false
  | one {a : Addr} {x : V} (h : H a = some (.tup [x])) : FsV K C H (.ref a) false
  | lst {a : Addr} {xs : List V} (h : H a = some (.lst xs)) : FsV K C H (.ref a) false
  | notF {a : Addr} {z : Str} {x : V} (h : H a = some (.tup [.str z, x])) (nz : nameB z = true) (fz : fieldB z = false) : FsV K C H (.ref a) false
  | notM {a : Addr} {z : Str} {x : V} (h : H a = some (.tup [.str z, x])) (nz : nameB z = true) (fz : fieldB z = true) (nx : VOk H x) : FsV K C H (.ref a) false
theorem FsV.same {K : PySem.W.Frag} {C : Addr} {H H' : Hp} {v : V} {b : Bool} (s : Same H H') (h : FsV K C H v b) : FsV K C H' v b := by
  cases h with
  | yes h nz fz M => exact .yes (s _ _ h) nz fz (M.same s)
  | non => exact .non
  | one h => exact .one (s _ _ h)
  | lst h => exact .lst (s _ _ h)
  | notF h nz fz => exact .notF (s _ _ h) nz fz
  | notM h nz fz nx => exact .notM (s _ _ h) nz fz (nx.same s)
def spFSet (K : PySem.W.Frag) (C : Addr) : Sp := fun vs H Q _ => ∃ (v : V) (b : Bool), vs = [v] ∧ FsV K C H v b ∧ ∀ H', Same H H' → Q (.bl b) H'
section
variable {w : World} {P : Program} {base : Heap} {mg : Str → Option Value} {K : PySem.W.Frag} {C CN CM : Addr} {mc : Value}
theorem scFSet : FnScope ["value"] ["value"] (defScope s_is_field_set) := ⟨rfl, rfl, rfl, by decide +kernel, rfl, by decide +kernel, by decide +kernel⟩
theorem ok_fset {f fF : Addr} {fd : FuncData} (F : Fun K "is_field_set" "is_field_set" s_is_field_set f fd) (T : Free mg) (M : MemC K mg C) (I : MemIs K C) (hF : Has P w K mg base CX0 2 "is_field" fF ["value"] spIsField) : FnOk P w K mg base CX0 3 f fd ["value"] (spFSet K C) := by
  refine F.ok scFSet (fun vs H Q E h => ?_) (fun cdv A outer s H vs Q E hr h => ?_)
  · obtain ⟨v, b, rfl, _⟩ := h
    rfl
  · obtain ⟨v, b, rfl, hv, q⟩ := h
    refine ⟨_, pss_cons (ps_if (PW.pt (pw_or (pt_not (pt_val (pe_callB call_isi (by rfl) T.isinstance (by decide +kernel) (pa_cons (pv 0) (pa_cons (pe_bltn (v := .ty "tuple") (u := .type "tuple") (by rfl) T.tuple (by decide +kernel) rfl) pa_nil))))) (pw_or1 (pt_cmpR op_ne (pe_callB call_len_seq (by rfl) T.len PySem.boot_len (pa_cons (pv 0) pa_nil)) pe_int (nomark _))))) (pss_one (ps_ret pe_bl)) pss_nil)
      (pss_one (ps_ret (pe_and (pe_has hF hr (by rfl) pass0 (pa_cons (pe_ix ix_tup (pv 0) pe_int (fun _ _ => rfl)) pa_nil)) (pe_one (pe_callB call_isi (by rfl) T.isinstance (by decide +kernel) (pa_cons (pe_ix ix_tup (pv 0) pe_int (fun _ _ => rfl)) (pa_cons (pe_glob (v := .ref C) (by rfl) M.g rfl) pa_nil))))))), ?_⟩
    cases hv with
    | non => exact ⟨_, rfl, _, _, _, _, false, rfl, .ty _, .base .non, kit_ty (by decide +kernel), false, rfl, iteT (iteT (q H (Same.refl H)))⟩
    | lst h => exact ⟨_, rfl, _, _, _, _, false, rfl, .ty _, .base (.lst h), kit_ty (by decide +kernel), false, rfl, iteT (iteT (q H (Same.refl H)))⟩
    | one h => exact ⟨_, rfl, _, _, _, _, true, rfl, .ty _, .base (.tup h), kit_ty (by decide +kernel), true, rfl, iteF ⟨_, rfl, _, _, rfl, .inr (SqT.of h), rfl, _, rfl, iteT (q H (Same.refl H))⟩⟩
    | yes h nz fz M2 =>
      rename_i a m z ys
      obtain ⟨dx2, t2, d2, k1, k2, k3⟩ := M2.at_
      refine ⟨_, rfl, _, _, _, _, true, rfl, .ty _, .base (.tup h), kit_ty (by decide +kernel), true, rfl, iteF ⟨_, rfl, _, _, rfl, .inr (SqT.of h), rfl, _, rfl, iteF ?_⟩⟩
      refine ⟨_, rfl, a, _, _, .str z, rfl, rfl, SqT.of h, atI_nat (j := 0) rfl, z, rfl, nz, fun H1 s1 => ⟨_, rfl, ?_⟩⟩
      rw [fz]
      refine iteT ⟨_, rfl, a, _, _, .ref m, rfl, rfl, SqT.of (s1 _ _ h), atI_nat (j := 1) rfl, _, _, _, _, true, rfl, .own C, .base (.ins (s1 _ _ k1) M.cl I.ha I.hn I.htk I.hm), I.yes, q H1 s1⟩
    | notF h nz fz =>
      rename_i a z x
      refine ⟨_, rfl, _, _, _, _, true, rfl, .ty _, .base (.tup h), kit_ty (by decide +kernel), true, rfl, iteF ⟨_, rfl, _, _, rfl, .inr (SqT.of h), rfl, _, rfl, iteF ?_⟩⟩
      refine ⟨_, rfl, a, _, _, .str z, rfl, rfl, SqT.of h, atI_nat (j := 0) rfl, z, rfl, nz, fun H1 s1 => ⟨_, rfl, ?_⟩⟩
      rw [fz]
      exact iteF (q H1 s1)
    | notM h nz fz nx =>
      rename_i a z x
      obtain ⟨ty, ht, tx⟩ := (nx).ty (K := K)
      refine ⟨_, rfl, _, _, _, _, true, rfl, .ty _, .base (.tup h), kit_ty (by decide +kernel), true, rfl, iteF ⟨_, rfl, _, _, rfl, .inr (SqT.of h), rfl, _, rfl, iteF ?_⟩⟩
      refine ⟨_, rfl, a, _, _, .str z, rfl, rfl, SqT.of h, atI_nat (j := 0) rfl, z, rfl, nz, fun H1 s1 => ⟨_, rfl, ?_⟩⟩
      obtain ⟨ty, ht, tx⟩ := (nx.same s1).ty (K := K)
      rw [fz]
      exact iteT ⟨_, rfl, a, _, _, x, rfl, rfl, SqT.of (s1 _ _ h), atI_nat (j := 1) rfl, _, _, _, _, false, rfl, .own C, tx, I.no ty ht, q H1 s1⟩
end
end K1

namespace K1
open PySem PySem.Spec
open PyProof.Rows L2 EnT StX SmX TxS DuX ClX
/-! ### field_sets -/
def entsE (es : List (Str × Addr)) : List (Key × V) := es.map fun e => (Sum.inr e.1, V.ref e.2)
/-- the values xs begin with pairs of these fields and Members -/
def PairsAt (C : Addr) (H : Hp) (xs : List V) (es : List (Str × Addr)) : Prop := ∀ (i : Nat) (z : Str) (m : Addr), es[i]? = some (z, m) → ∃ (b : Addr) (ys : List Str), xs[i]? = some (.ref b) ∧ H b = some (.tup [.str z, .ref m]) ∧ nameB z = true ∧ fieldB z = true ∧ MemAt C H m ys
theorem PairsAt.same {C : Addr} {H H' : Hp} {xs : List V} {es : List (Str × Addr)} (s : Same H H') (h : PairsAt C H xs es) : PairsAt C H' xs es := fun i z m e => by
  obtain ⟨b, ys, a1, a2, a3, a4, a5⟩ := h i z m e
  exact ⟨b, ys, a1, s _ _ a2, a3, a4, a5.same s⟩
/-- a value behind pairs of these fields that is refused -/
def BadAt (K : PySem.W.Frag) (C : Addr) (H : Hp) (v : V) (es : List (Str × Addr)) : Prop := FsV K C H v false ∨ ∃ (b m : Addr) (z : Str) (ys : List Str), v = .ref b ∧ H b = some (.tup [.str z, .ref m]) ∧ nameB z = true ∧ fieldB z = true ∧ MemAt C H m ys ∧ z ∈ es.map (·.1)
theorem ents_none {es : List (Str × Addr)} {z : Str} (h : z ∉ es.map (·.1)) : valV (entsE es) (Sum.inr z : Key) = none := by
  induction es with
  | nil => rfl
  | cons e r ih =>
    have he : ¬ e.1 = z := fun k => h (by rw [List.map_cons, k]; exact List.mem_cons_self)
    show valV ((Sum.inr e.1, V.ref e.2) :: entsE r) (Sum.inr z : Key) = none
    rw [valV_neg (fun k => he (Sum.inr.inj k))]
    exact ih fun k => h (by rw [List.map_cons]; exact List.mem_cons_of_mem _ k)
theorem ents_some {es : List (Str × Addr)} {z : Str} (h : z ∈ es.map (·.1)) : ∃ m, valV (entsE es) (Sum.inr z : Key) = some (.ref m) ∧ (z, m) ∈ es := by
  induction es with
  | nil => cases h
  | cons e r ih =>
    by_cases he : e.1 = z
    · refine ⟨e.2, ?_, by rw [← he]; exact List.mem_cons_self⟩
      show valV ((Sum.inr e.1, V.ref e.2) :: entsE r) (Sum.inr z : Key) = _
      unfold valV
      rw [List.find?_cons, decide_eq_true (congrArg Sum.inr he)]
      rfl
    · rw [List.map_cons] at h
      rcases List.mem_cons.mp h with k | k
      · exact absurd k.symm he
      · obtain ⟨m, a, b⟩ := ih k
        refine ⟨m, ?_, List.mem_cons_of_mem _ b⟩
        show valV ((Sum.inr e.1, V.ref e.2) :: entsE r) (Sum.inr z : Key) = _
        rw [valV_neg (fun k => he (Sum.inr.inj k))]
        exact a
def spFSets (K : PySem.W.Frag) (C CS : Addr) : Sp := fun vs H Q E => ∃ (a : Addr) (xs : List V) (es : List (Str × Addr)), vs = [.ref a] ∧ H a = some (.tup xs) ∧ PairsAt C H xs es ∧ (es.map (·.1)).Nodup ∧ xs.length ≤ 100 ∧
  ((es.length = xs.length ∧ ∀ d H', H d = none → Same H H' → H' d = some (.dK (entsE es)) → Q (.ref d) H') ∨ ∃ v, xs[es.length]? = some v ∧ BadAt K C H v es ∧ ErrAt CS "index" (.int es.length) H E)
def spFSetsL (CS : Addr) : Sp := fun vs H Q E => ∃ (a : Addr) (xs : List V), vs = [.ref a] ∧ H a = some (.lst xs) ∧ ErrAt CS "index" .non H E
abbrev nmFS : List Str := ["sets", "table", "at", "pair"]
section
variable {w : World} {P : Program} {base : Heap} {mg : Str → Option Value} {K : PySem.W.Frag} {C CN CM CS : Addr} {mc : Value}
theorem scErrS : FnScope ["self", "index"] ["self", "index"] (defScope s_InvalidSets___init__) := ⟨rfl, rfl, rfl, by decide +kernel, rfl, by decide +kernel, by decide +kernel⟩
theorem ok_errS {f C fI : Addr} {fd : FuncData} (F : Fun K "__init__" "InvalidSets.__init__" s_InvalidSets___init__ f fd) (T : ErrC K mg "InvalidSets" "index" C fI) : FnOk P w K mg base CX0 1 f fd ["self", "index"] (spErr C "index") := by
  refine F.ok scErrS (fun vs H Q E h => ?_) (fun cdv A outer s H vs Q E hr h => ?_)
  · obtain ⟨a, v, rfl, _⟩ := h
    rfl
  · obtain ⟨a, v, rfl, ha, q⟩ := h
    exact ⟨_, pss_one (ps_ost (pv 0) (pv 1)), _, rfl, _, rfl, a, C, rfl, T.ox, T.no, .inl ⟨ha, fun d nd ne => q d nd ne⟩⟩
theorem scFS : FnScope nmFS ["sets"] (defScope s_field_sets) := ⟨rfl, rfl, rfl, by decide +kernel, rfl, by decide +kernel, by decide +kernel⟩
theorem ok_fsets {f f1 fE : Addr} {fd fdE : FuncData} (F : Fun K "field_sets" "field_sets" s_field_sets f fd) (T : Free mg) (h1 : Has P w K mg base CX0 3 "is_field_set" f1 ["value"] (spFSet K C)) (ES : ErrC K mg "InvalidSets" "index" CS fE) (FE : Fun K "__init__" "InvalidSets.__init__" s_InvalidSets___init__ fE fdE) :
    FnOk P w K mg base (L2.CX P w) 5 f fd ["sets"] (spFSets K C CS) := by
  have bE : Binds K fdE ["self", "index"] [] := FE.binds (ps := ["self", "index"]) fun _ _ _ _ _ _ us hl => match us, hl with | [_, _], _ => rfl
  have GE : FnOk P w K mg base CX0 1 fE fdE ["self", "index"] (spErr CS "index") := ok_errS FE ES
  refine F.okX scFS (fun vs H Q E h => ?_) (fun cdv A outer s H vs Q E hr h => ?_)
  · obtain ⟨a, xs, es, rfl, _⟩ := h
    rfl
  · obtain ⟨a, xs, es, rfl, ha, pa, nd, hl, q⟩ := h
    refine ⟨_, pss_cons (ps_if (pt_not (pt_val (pe_callB call_isi (by rfl) T.isinstance (by decide +kernel) (pa_cons (pv 0) (pa_cons (pe_bltn (v := .ty "tuple") (u := .type "tuple") (by rfl) T.tuple (by decide +kernel) rfl) pa_nil)))))
        (pss_one (ps_raise rfl (takes_of rfl rfl rfl rfl) (pmk_oex ES.ox ES.ini ES.ty GE (hr.mono (by decide)) bE .nil pass0 rfl ES.g (pa_cons pe_non pa_nil)))) pss_nil)
      (pss_cons (ps_set (i := 1) scFS.nd rfl (.inl rfl) pe_dnewK)
      (pss_cons (ps_for (passes_of rfl) rfl (pi_enumT (by rfl) T.enumerate (pa_cons (pv 0) pa_nil)) (pg_tup rfl (pgs_cons (pg_name (i := 2) scFS.nd rfl (.inl rfl)) (pgs_cons (pg_name (i := 3) scFS.nd rfl (.inl rfl)) pgs_nil)))
        (pss_cons (ps_if (PW.pt (pw_or (pt_not (pt_val (pe_has h1 (hr.mono (by decide)) (by rfl) pass0 (pa_cons (pv 3) pa_nil)))) (pw_or1 (pt_cmp (pc_din (hu_of hr) (pe_ix ix_tup (pv 3) pe_int (fun _ _ => rfl)) (pv 1))))))
            (pss_one (ps_raise rfl (takes_of rfl rfl rfl rfl) (pmk_oex ES.ox ES.ini ES.ty GE (hr.mono (by decide)) bE .nil pass0 rfl ES.g (pa_cons (pv 2) pa_nil)))) pss_nil)
          (pss_one (ps_dput (hu_of hr) (pv 1) (pe_ix ix_tup (pv 3) pe_int (fun _ _ => rfl)) (pe_ix ix_tup (pv 3) pe_int (fun _ _ => rfl)) rfl))))
      (pss_one (ps_ret (pv 1))))), ?_⟩
    refine ⟨_, rfl, _, _, _, _, true, rfl, .ty _, .base (.tup ha), kit_ty (by decide +kernel), true, rfl, iteF ?_⟩
    refine fun d nd0 => ?_
    refine ⟨_, rfl, a, xs, rfl, SqT.of (same_upd nd0 _ _ ha), ?_⟩
    refine for_it (walk_enumT (xs := xs)) (fun i σ H' => Same H H' ∧ H' d = some (.dK (entsE (es.take i))) ∧ i ≤ es.length ∧ ∃ o2 o3 : Option V, σ = [some (.ref a), some (.ref d), o2, o3]) ?_ ?_ ?_ ?_
    · exact ⟨same_upd nd0, upd_same, Nat.zero_le _, none, none, rfl⟩
    · rintro i σ H' hi ⟨sm, _⟩
      exact SqT.of (sm _ _ ha)
    · rintro i x σ H1 H2 hi ⟨sm, hd, le, o2, o3, rfl⟩ ⟨t, y1, y2, rfl, nt, rfl, e1, e2⟩
      cases e1
      refine ⟨t, _, rfl, SqT.of upd_same, rfl, _, _, rfl, _, _, rfl, rfl, ?_⟩
      have sm2 : Same H (upd H1 t (.tup [.int (i : Nat), y2])) := sm.trans (same_upd nt)
      have hd2 : (upd H1 t (.tup [.int (i : Nat), y2])) d = some (.dK (entsE (es.take i))) := same_upd nt _ _ hd
      by_cases hlt : i < es.length
      · obtain ⟨z, m, ez⟩ : ∃ z m, es[i]? = some (z, m) := ⟨(es[i]).1, (es[i]).2, by rw [List.getElem?_eq_getElem hlt]⟩
        obtain ⟨b, ys, b1, b2, b3, b4, b5⟩ := pa i z m ez
        have e2 : xs[i]? = some y2 := e2
        rw [b1] at e2
        cases e2
        have zn : z ∉ (es.take i).map (·.1) := fun hm => by
          rw [List.map_take] at hm
          have e3 : (es.map (·.1))[i]? = some z := by rw [List.getElem?_map, ez]; rfl
          exact take_nodup_none nd e3 hm
        refine ⟨_, rfl, _, true, rfl, .yes (sm2 _ _ b2) b3 b4 (b5.same sm2), fun H3 s3 => ⟨_, rfl, iteF ?_⟩⟩
        have b2' := s3 _ _ (sm2 _ _ b2)
        refine ⟨_, rfl, b, _, _, .str z, rfl, rfl, SqT.of b2', atI_nat (j := 0) rfl, _, rfl, d, _, rfl, .k (k := Sum.inr z) (s3 _ _ hd2), ?_⟩
        rw [ents_none zn]
        refine ⟨_, rfl, iteF ?_⟩
        refine ⟨_, rfl, b, _, _, .ref m, rfl, rfl, SqT.of b2', atI_nat (j := 1) rfl, _, rfl, _, rfl, b, _, _, .str z, rfl, rfl, SqT.of b2', atI_nat (j := 0) rfl, ?_⟩
        have lt : (entsE (es.take i)).length < sizeLine := by
          unfold entsE
          rw [List.length_map, List.length_take, sizeLine_eq]
          have := (List.getElem?_eq_some_iff.mp b1).1
          omega
        refine ⟨d, _, rfl, DPut.k (k := Sum.inr z) (s3 _ _ hd2) lt, ?_⟩
        refine ⟨same_set (sm2.trans s3) nd0, ?_, hlt, _, _, rfl⟩
        rw [upd_same, putK_new _ (ents_none zn)]
        unfold entsE
        rw [List.take_add_one, ez, List.map_append]
        rfl
      · have ei : i = es.length := by omega
        subst ei
        rcases q with ⟨e3, _⟩ | ⟨v, ev, bad, qE⟩
        · have := (List.getElem?_eq_some_iff.mp e2).1
          omega
        have e2 : xs[es.length]? = some y2 := e2
        rw [ev] at e2
        cases e2
        rcases bad with bad | ⟨b, m, z, ys, rfl, b2, b3, b4, b5, b6⟩
        · refine ⟨_, rfl, _, false, rfl, bad.same sm2, fun H3 s3 => ⟨_, rfl, iteT (iteT ?_)⟩⟩
          have qE := qE.same (sm2.trans s3)
          refine ⟨_, rfl, (by show 1 ≤ 1000; decide), fun x nx => ⟨x, _, rfl, upd_same, fun d' nd' ne => ⟨rfl, d', [("index", .int (es.length : Nat))], upd_same, ?_, ?_, ?_⟩⟩⟩
          · rw [upd_ne ne, upd_same]
          · rw [upd_ne ne] at nd'
            exact nd'
          · rw [raise_heap nx ne]
            rw [upd_ne ne] at nd'
            exact qE d' H3 (Same.refl H3) nd'
        · refine ⟨_, rfl, _, true, rfl, .yes (sm2 _ _ b2) b3 b4 (b5.same sm2), fun H3 s3 => ⟨_, rfl, iteF ?_⟩⟩
          have b2' := s3 _ _ (sm2 _ _ b2)
          refine ⟨_, rfl, b, _, _, .str z, rfl, rfl, SqT.of b2', atI_nat (j := 0) rfl, _, rfl, d, _, rfl, .k (k := Sum.inr z) (s3 _ _ hd2), ?_⟩
          rw [List.take_length]
          obtain ⟨m2, e4, _⟩ := ents_some b6
          rw [e4]
          refine ⟨_, rfl, iteT ?_⟩
          have qE := qE.same (sm2.trans s3)
          refine ⟨_, rfl, (by show 1 ≤ 1000; decide), fun x nx => ⟨x, _, rfl, upd_same, fun d' nd' ne => ⟨rfl, d', [("index", .int (es.length : Nat))], upd_same, ?_, ?_, ?_⟩⟩⟩
          · rw [upd_ne ne, upd_same]
          · rw [upd_ne ne] at nd'
            exact nd'
          · rw [raise_heap nx ne]
            rw [upd_ne ne] at nd'
            exact qE d' H3 (Same.refl H3) nd'
    · rintro σ H' ⟨sm, hd, le, o2, o3, rfl⟩
      rcases q with ⟨e3, q⟩ | ⟨v, ev, _, _⟩
      · rw [← e3, List.take_length] at hd
        exact ⟨_, rfl, q d H' nd0 sm hd⟩
      · have := (List.getElem?_eq_some_iff.mp ev).1
        omega
theorem ok_fsetsL {f f1 fE : Addr} {fd fdE : FuncData} (F : Fun K "field_sets" "field_sets" s_field_sets f fd) (T : Free mg) (h1 : Has P w K mg base CX0 3 "is_field_set" f1 ["value"] (spFSet K C)) (ES : ErrC K mg "InvalidSets" "index" CS fE) (FE : Fun K "__init__" "InvalidSets.__init__" s_InvalidSets___init__ fE fdE) :
    FnOk P w K mg base (L2.CX P w) 5 f fd ["sets"] (spFSetsL CS) := by
  have bE : Binds K fdE ["self", "index"] [] := FE.binds (ps := ["self", "index"]) fun _ _ _ _ _ _ us hl => match us, hl with | [_, _], _ => rfl
  have GE : FnOk P w K mg base CX0 1 fE fdE ["self", "index"] (spErr CS "index") := ok_errS FE ES
  refine F.okX scFS (fun vs H Q E h => ?_) (fun cdv A outer s H vs Q E hr h => ?_)
  · obtain ⟨a, xs, rfl, _⟩ := h
    rfl
  · obtain ⟨a, xs, rfl, ha, qE⟩ := h
    refine ⟨_, pss_cons (ps_if (pt_not (pt_val (pe_callB call_isi (by rfl) T.isinstance (by decide +kernel) (pa_cons (pv 0) (pa_cons (pe_bltn (v := .ty "tuple") (u := .type "tuple") (by rfl) T.tuple (by decide +kernel) rfl) pa_nil)))))
        (pss_one (ps_raise rfl (takes_of rfl rfl rfl rfl) (pmk_oex ES.ox ES.ini ES.ty GE (hr.mono (by decide)) bE .nil pass0 rfl ES.g (pa_cons pe_non pa_nil)))) pss_nil) pss_never, ?_⟩
    refine ⟨_, rfl, _, _, _, _, false, rfl, .ty _, .base (.lst ha), kit_ty (by decide +kernel), false, rfl, iteT ?_⟩
    refine ⟨(by show 1 ≤ 1000; decide), fun x nx => ⟨x, _, rfl, upd_same, fun d' nd' ne => ⟨rfl, d', [("index", .non)], upd_same, ?_, ?_, ?_⟩⟩⟩
    · rw [upd_ne ne, upd_same]
    · rw [upd_ne ne] at nd'
      exact nd'
    · rw [raise_heap nx ne]
      rw [upd_ne ne] at nd'
      exact qE d' H (Same.refl H) nd'
end
end K1

namespace K1
open PySem PySem.Spec
open PyProof.Rows L2 EnT StX SmX TxS DuX ClX
/-! ### all_sets -/
theorem rz_err {C : Addr} {f : Str} {v : V} {H : Hp} {Q : XK} (q : ErrAt C f v H Q) : [v].length ≤ 1000 ∧ ∀ a, H a = none → spErr C f (.ref a :: ([v] ++ [])) (upd H a (exo a C none))
    (fun v H2 => v = .non ∧ ∃ (d : Addr) (fs : List (Str × V)), H2 a = some (exo a C (some d)) ∧ H2 d = some (exd d fs) ∧ H d = none ∧ Q (.ref C) (some d) (upd (del H2 a) d (.xd fs))) (fun _ _ _ => False) := by
  refine ⟨(by show 1 ≤ 1000; decide), fun x nx => ⟨x, _, rfl, upd_same, fun d nd ne => ⟨rfl, d, [(f, v)], upd_same, ?_, ?_, ?_⟩⟩⟩
  · rw [upd_ne ne, upd_same]
  · rw [upd_ne ne] at nd
    exact nd
  · rw [raise_heap nx ne]
    rw [upd_ne ne] at nd
    exact q d H (Same.refl H) nd
theorem ErrAt.after {C : Addr} {f : Str} {v : V} {H H' : Hp} {Q : XK} (s : Same H H') (q : ErrAt C f v H Q) : ErrAt C f v H' Q := q.same s
def spOr (a b : Sp) : Sp := fun vs H Q E => a vs H Q E ∨ b vs H Q E
theorem FnOk.or {P : Program} {w : World} {K : PySem.W.Frag} {mg : Str → Option Value} {base : Heap} {CX : CXT} {k : Nat} {f : Addr} {fd : FuncData} {ps : List Str} {a b : Sp} (F : FnOk P w K mg base CX k f fd ps a) (G : FnOk P w K mg base CX k f fd ps b) : FnOk P w K mg base CX k f fd ps (spOr a b) :=
  ⟨fun vs H Q E h => h.elim (F.len vs H Q E) (G.len vs H Q E), fun A outer s H args us vs Q E hr e0 hb r h => h.elim (F.run A outer s H args us vs Q E hr e0 hb r) (G.run A outer s H args us vs Q E hr e0 hb r)⟩
/-- who is given: None, Members, or neither -/
inductive GvV (C : Addr) (H : Hp) : V → Option Bool → Prop where
  | non : GvV C H .non none
  | mem {m : Addr} {ys : List Str} (M : MemAt C H m ys) : GvV C H (.ref m) (some true)
  | odd {v : V} (n : v ≠ .non) (o : VOk H v) : GvV C H v (some false)
def spChkG (C CM : Addr) : Sp := spOr (spChkY C) (spChkN CM)
/-- the sets are pairs of these fields and Members, or else the error that is due -/
def SetsAt (K : PySem.W.Frag) (C CS : Addr) (H : Hp) (v : V) (es : List (Str × Addr)) (E : XK) (R : Prop) : Prop :=
  (∃ (a : Addr) (xs : List V), v = .ref a ∧ H a = some (.lst xs) ∧ ErrAt CS "index" .non H E) ∨
  (∃ (a : Addr) (xs : List V), v = .ref a ∧ H a = some (.tup xs) ∧ PairsAt C H xs es ∧ (es.map (·.1)).Nodup ∧ xs.length ≤ 100 ∧ ((es.length = xs.length ∧ R) ∨ ∃ y, xs[es.length]? = some y ∧ BadAt K C H y es ∧ ErrAt CS "index" (.int es.length) H E))
def entsG (es : List (Str × Addr)) (m0 : Addr) (g : V) : List (Key × V) := entsE es ++ [(Sum.inr tNone, .ref m0)] ++ [(Sum.inr tGiven, g)]
def spAll (K : PySem.W.Frag) (C CS CM CU : Addr) : Sp := fun vs H Q E => ∃ (fl : Addr) (v g : V) (fs : List Str) (es : List (Str × Addr)) (b : Option Bool), vs = [.ref fl, v, g] ∧ H fl = some (.tup (fs.map V.str)) ∧ (∀ z ∈ fs, nameB z = true) ∧ fs.length ≤ 1000 ∧ GvV C H g b ∧
  SetsAt K C CS H v es E (
    (b = some false ∧ ErrAt CM "value" g H E) ∨
    (b ≠ some false ∧ ∃ z i, fs[i]? = some z ∧ (∀ y ∈ fs.take i, y ∈ es.map (·.1)) ∧ z ∉ es.map (·.1) ∧ ErrAt CU "value" (.str z) H E) ∨
    (b ≠ some false ∧ (∀ z ∈ fs, z ∈ es.map (·.1)) ∧ ∀ d m0 g' H', Same H H' → MemAt C H' m0 [] → (g' = g ∧ b = some true ∨ b = none ∧ ∃ m1, g' = .ref m1 ∧ MemAt C H' m1 []) → H' d = some (.dK (entsG es m0 g')) → Q (.ref d) H'))
theorem mk_nil {K : PySem.W.Frag} {C CN : Addr} {H : Hp} {σ : L2.St} {Q : VK} {E : XK} (h : ∀ m1 H2, Same H H2 → MemAt C H2 m1 [] → MemN C H H2 m1 → Q (.ref m1) H2) : tMakeR C (spInitR K C CN) E tNil σ H Q :=
  make_nil fun x H' _ s M N => h x H' s M N
/-- the loop over the fields -/
theorem as_loop {K : PySem.W.Frag} {CU fl a d : Addr} {g : V} {fs : List Str} {es : List (Str × Addr)} {H : Hp} {E : XK} {o4 : Option V} {D : Ends} (hfl : H fl = some (.tup (fs.map V.str))) (hd : H d = some (.dK (entsE es)))
    (q : (∃ z i, fs[i]? = some z ∧ (∀ y ∈ fs.take i, y ∈ es.map (·.1)) ∧ z ∉ es.map (·.1) ∧ ErrAt CU "value" (.str z) H E) ∨ ((∀ z ∈ fs, z ∈ es.map (·.1)) ∧ ∀ o, D.nx [some (.ref fl), some (.ref a), some g, some (.ref d), o] H)) :
    tFor (iTup K (tVar 0)) (gName 4) (tIfS (tB (tDNotIn (tVar 4) (tVar 3))) (fun x σ H => tMkO CU (spErr CU "value") [] (tCons (tVar 4) tNil) σ H fun cls d H' => E cls d H') tNext) D [some (.ref fl), some (.ref a), some g, some (.ref d), o4] H := by
  refine ⟨_, rfl, fl, rfl, ⟨_, SqT.of hfl⟩, ?_⟩
  refine for_it (walk_tup (xs := fs.map V.str)) (fun i σ H' => H' = H ∧ (∀ y ∈ fs.take i, y ∈ es.map (·.1)) ∧ ∃ o, σ = [some (.ref fl), some (.ref a), some g, some (.ref d), o]) ?_ ?_ ?_ ?_
  · exact ⟨rfl, fun y hy => by simp at hy, _, rfl⟩
  · rintro i σ H' _ ⟨rfl, _⟩
    exact SqT.of hfl
  · rintro i x σ H1 H2 hi ⟨rfl, ht, o, rfl⟩ y
    obtain ⟨rfl, ey⟩ := y
    obtain ⟨z, ez, rfl⟩ : ∃ z, fs[i]? = some z ∧ x = V.str z := by
      rw [List.getElem?_map] at ey
      cases e : fs[i]? with
      | none => rw [e] at ey; cases ey
      | some z => rw [e] at ey; exact ⟨z, rfl, (Option.some.inj ey).symm⟩
    refine ⟨_, rfl, _, rfl, d, _, rfl, DGet.k (k := Sum.inr z) hd, ?_⟩
    by_cases hm : z ∈ es.map (·.1)
    · obtain ⟨m, e1, _⟩ := ents_some hm
      rw [e1]
      refine ⟨_, rfl, iteF ?_⟩
      refine ⟨rfl, fun y hy => ?_, _, rfl⟩
      rw [List.take_add_one, ez] at hy
      rcases List.mem_append.mp hy with h | h
      · exact ht y h
      · have : y = z := by simpa using h
        rw [this]
        exact hm
    · rw [ents_none hm]
      refine ⟨_, rfl, iteT ?_⟩
      rcases q with ⟨z', i', e1, e2, e3, e4⟩ | ⟨e1, _⟩
      · have hi' : i' = i := by
          rcases Nat.lt_trichotomy i' i with h | h | h
          · exact absurd (ht z' (by rw [List.mem_iff_getElem?]; exact ⟨i', by rw [List.getElem?_take, if_pos h]; exact e1⟩)) e3
          · exact h
          · exact absurd (e2 z (by rw [List.mem_iff_getElem?]; exact ⟨i, by rw [List.getElem?_take, if_pos h]; exact ez⟩)) hm
        subst hi'
        rw [ez] at e1
        cases e1
        exact ⟨_, rfl, rz_err e4⟩
      · exact absurd (e1 z (List.mem_iff_getElem?.mpr ⟨i, ez⟩)) hm
  · rintro σ H' ⟨rfl, ht, o, rfl⟩
    rcases q with ⟨z', i', e1, e2, e3, e4⟩ | ⟨_, e2⟩
    · exact absurd (ht z' (by rw [List.length_map, List.take_length]; exact List.mem_iff_getElem?.mpr ⟨i', e1⟩)) e3
    · exact e2 o
theorem fld_ne {z : Str} (h : fieldB z = true) : z ≠ tNone ∧ z ≠ tGiven := by
  unfold fieldB at h
  exact ⟨(of_decide_eq_true h).2, (of_decide_eq_true h).1⟩
theorem ents_put {es : List (Str × Addr)} {m0 : Addr} {g : V} (h : ∀ z ∈ es.map (·.1), fieldB z = true) : putK (entsE es) (Sum.inr tNone : Key) (.ref m0) = entsE es ++ [(Sum.inr tNone, .ref m0)] ∧ putK (entsE es ++ [((Sum.inr tNone : Key), V.ref m0)]) (Sum.inr tGiven : Key) g = entsG es m0 g := by
  have a1 : valV (entsE es) (Sum.inr tNone : Key) = none := ents_none fun k => (fld_ne (h _ k)).1 rfl
  have a2 : valV (entsE es) (Sum.inr tGiven : Key) = none := ents_none fun k => (fld_ne (h _ k)).2 rfl
  refine ⟨putK_new _ a1, ?_⟩
  unfold entsG
  refine putK_new _ ?_
  rw [valV_snoc _ _ _ _ a1, if_neg (by decide +kernel), a2]
theorem MemAt.put {C p d : Addr} {H : Hp} {kvs : List (Key × V)} {o : HO} (hd : H d = some (.dK kvs)) (ne : kvs ≠ []) (m : MemAt C H p []) : MemAt C (upd H d o) p [] := by
  obtain ⟨⟨dx, t, d', h1, h2, h3⟩, b, c, e, f⟩ := m
  refine ⟨⟨dx, t, d', ?_, ?_, ?_⟩, b, c, e, f⟩
  · rw [upd_ne (fun z => by rw [z, hd] at h1; cases h1)]
    exact h1
  · rw [upd_ne (fun z => by rw [z, hd] at h2; cases h2)]
    exact h2
  · rw [upd_ne (fun z => by rw [z, hd] at h3; cases h3; exact ne rfl)]
    exact h3
theorem MemAt.putN {C p d : Addr} {H H1 : Hp} {kvs : List (Key × V)} {o o1 : HO} (hd : H d = some (.dK kvs)) (h0 : H1 d = some o1) (N : MemN C H1 H p) (m : MemAt C H p []) : MemAt C (upd H d o) p [] := by
  obtain ⟨⟨dx, t, d', h1, h2, h3⟩, b, c, e, f⟩ := m
  obtain ⟨dx2, t2, d2, k1, k2⟩ := N
  have ed : d' = d2 := by
    have z := h1.symm.trans k1
    have z := congrArg (fun o => match o with | some (HO.ins _ _ fs) => fs.lookup ("_table" : Str) | _ => none) z
    have z : (flds t d').lookup ("_table" : Str) = (flds t2 d2).lookup ("_table" : Str) := z
    unfold flds at z
    rw [lookup_putF, if_pos rfl, lookup_putF, if_pos rfl] at z
    exact V.ref.inj (Option.some.inj z)
  refine ⟨⟨dx, t, d', ?_, ?_, ?_⟩, b, c, e, f⟩
  · rw [upd_ne (fun z => by rw [z, hd] at h1; cases h1)]
    exact h1
  · rw [upd_ne (fun z => by rw [z, hd] at h2; cases h2)]
    exact h2
  · rw [upd_ne (fun z => by rw [← ed, z, h0] at k2; cases k2)]
    exact h3
/-- none and given -/
theorem as_puts {K : PySem.W.Frag} {C CN fl a d : Addr} {g : V} {b : Option Bool} {es : List (Str × Addr)} {H H1 : Hp} {Q : VK} {E : XK} {o4 : Option V} {n : L2.St → Hp → Prop} (n0 : H d = none) (s1 : Same H H1) (hd : H1 d = some (.dK (entsE es))) (hf : ∀ z ∈ es.map (·.1), fieldB z = true) (hl : es.length ≤ 100)
    (hg : GvV C H g b) (nb : b ≠ some false)
    (q : ∀ m0 g' H', Same H H' → MemAt C H' m0 [] → (g' = g ∧ b = some true ∨ b = none ∧ ∃ m1, g' = .ref m1 ∧ MemAt C H' m1 []) → H' d = some (.dK (entsG es m0 g')) → Q (.ref d) H') :
    tSeq (sDPut (tVar 3) (tC (.str tNone)) (tMakeR C (spInitR K C CN) E tNil)) (tSeq (sDPut (tVar 3) (tC (.str tGiven)) (tIf (tB (tIsN (tVar 2))) (tMakeR C (spInitR K C CN) E tNil) (tVar 2))) (tRet (tVar 3))) { nx := n, rt := Q } [some (.ref fl), some (.ref a), some g, some (.ref d), o4] H1 := by
  have p1 : ∀ m0, putK (entsE es) (Sum.inr tNone : Key) (.ref m0) = entsE es ++ [(Sum.inr tNone, .ref m0)] := fun m0 => (ents_put (g := .non) hf).1
  have p2 : ∀ m0 g, putK (entsE es ++ [((Sum.inr tNone : Key), V.ref m0)]) (Sum.inr tGiven : Key) g = entsG es m0 g := fun m0 g => (ents_put hf).2
  have l1 : (entsE es).length ≤ 100 := by
    unfold entsE
    rw [List.length_map]
    exact hl
  unfold tSeq sDPut
  refine mk_nil fun m0 H2 s2 M0 N0 => ?_
  have hd2 := s2 _ _ hd
  refine ⟨_, rfl, d, _, rfl, DPut.k (k := Sum.inr tNone) hd2 (by rw [sizeLine_eq]; omega), ?_⟩
  rw [p1]
  have sA : Same H (upd H2 d (.dK (entsE es ++ [(Sum.inr tNone, V.ref m0)]))) := same_set (s1.trans s2) n0
  have MA := M0.putN (o := .dK (entsE es ++ [(Sum.inr tNone, V.ref m0)])) hd2 hd N0
  have hdA : (upd H2 d (.dK (entsE es ++ [((Sum.inr tNone : Key), V.ref m0)]))) d = some (.dK (entsE es ++ [((Sum.inr tNone : Key), V.ref m0)])) := upd_same
  generalize upd H2 d (.dK (entsE es ++ [((Sum.inr tNone : Key), V.ref m0)])) = HA at sA MA hdA ⊢
  have l2 : (entsE es ++ [((Sum.inr tNone : Key), V.ref m0)]).length < sizeLine := by
    rw [sizeLine_eq, List.length_append]
    show (entsE es).length + 1 < _
    omega
  have e2 : entsE es ++ [((Sum.inr tNone : Key), V.ref m0)] ≠ [] := by simp
  cases hg with
  | odd n o => exact absurd rfl nb
  | non =>
    refine ⟨_, rfl, _, rfl, iteT ?_⟩
    refine mk_nil fun m1 HB sB M1 _ => ?_
    refine ⟨_, rfl, d, _, rfl, DPut.k (k := Sum.inr tGiven) (sB _ _ hdA) l2, ?_⟩
    rw [p2]
    exact ⟨_, rfl, q m0 _ _ (same_set (sA.trans sB) n0) ((MA.same sB).put (sB _ _ hdA) e2) (.inr ⟨rfl, m1, rfl, M1.put (sB _ _ hdA) e2⟩) upd_same⟩
  | mem M =>
    refine ⟨_, rfl, _, rfl, iteF ?_⟩
    refine ⟨_, rfl, _, rfl, d, _, rfl, DPut.k (k := Sum.inr tGiven) hdA l2, ?_⟩
    rw [p2]
    exact ⟨_, rfl, q m0 _ _ (same_set sA n0) (MA.put hdA e2) (.inl ⟨rfl, rfl⟩) upd_same⟩
abbrev nmAS : List Str := ["fields", "sets", "given", "table", "field"]
section
variable {w : World} {P : Program} {base : Heap} {mg : Str → Option Value} {K : PySem.W.Frag} {C CN CM CS CU aS : Addr} {mc : Value}
theorem scAS : FnScope nmAS ["fields", "sets", "given"] (defScope s_all_sets) := ⟨rfl, rfl, rfl, by decide +kernel, rfl, by decide +kernel, by decide +kernel⟩
theorem scErrU : FnScope ["self", "value"] ["self", "value"] (defScope s_UnknownField___init__) := ⟨rfl, rfl, rfl, by decide +kernel, rfl, by decide +kernel, by decide +kernel⟩
theorem ok_errU {f C fI : Addr} {fd : FuncData} (F : Fun K "__init__" "UnknownField.__init__" s_UnknownField___init__ f fd) (T : ErrC K mg "UnknownField" "value" C fI) : FnOk P w K mg base CX0 1 f fd ["self", "value"] (spErr C "value") := by
  refine F.ok scErrU (fun vs H Q E h => ?_) (fun cdv A outer s H vs Q E hr h => ?_)
  · obtain ⟨a, v, rfl, _⟩ := h
    rfl
  · obtain ⟨a, v, rfl, ha, q⟩ := h
    exact ⟨_, pss_one (ps_ost (pv 0) (pv 1)), _, rfl, _, rfl, a, C, rfl, T.ox, T.no, .inl ⟨ha, fun d nd ne => q d nd ne⟩⟩
theorem ok_allsets {f f1 f2 fE fI : Addr} {fd fdE : FuncData} (F : Fun K "all_sets" "all_sets" s_all_sets f fd) (G : Gf K mg aS)
    (h1 : Has P w K mg base (L2.CX P w) 5 "field_sets" f1 ["sets"] (spOr (spFSets K C CS) (spFSetsL CS))) (h2 : Has P w K mg base (L2.CX P w) 3 "check_members" f2 ["value"] (spChkG C CM))
    (M : MemC K mg C) (MK : Mk K C fI) (FI : FnR P w K mg base (L2.CX P w) 4 fI (spInitR K C CN))
    (EU : ErrC K mg "UnknownField" "value" CU fE) (FE : Fun K "__init__" "UnknownField.__init__" s_UnknownField___init__ fE fdE) :
    FnOk P w K mg base (L2.CX P w) 7 f fd ["fields", "sets", "given"] (spAll K C CS CM CU) := by
  have bE : Binds K fdE ["self", "value"] [] := FE.binds (ps := ["self", "value"]) fun _ _ _ _ _ _ us hl => match us, hl with | [_, _], _ => rfl
  have GE : FnOk P w K mg base CX0 1 fE fdE ["self", "value"] (spErr CU "value") := ok_errU FE EU
  obtain ⟨tg, hg⟩ := G.gv
  obtain ⟨tn, hn⟩ := G.nn
  refine F.okX scAS (fun vs H Q E h => ?_) (fun cdv A outer s H vs Q E hr h => ?_)
  · obtain ⟨fl, v, g, fs, es, b, rfl, _⟩ := h
    rfl
  · obtain ⟨fl, v, g, fs, es, b, rfl, hfl, hfn, hll, hgv, hs⟩ := h
    refine ⟨_, pss_cons (ps_set (i := 3) scAS.nd rfl (.inl rfl) (pe_has h1 (hr.mono (by decide)) (by rfl) (passes_call (takes_of rfl rfl rfl rfl) fun _ _ _ _ h => h) (pa_cons (pv 1) pa_nil)))
      (pss_cons (ps_if (pt_cmp (pc_notN (pv 2))) (pss_one (ps_expr (pe_has h2 (hr.mono (by decide)) (by rfl) (passes_call (takes_of rfl rfl rfl rfl) fun _ _ _ _ h => h) (pa_cons (pv 2) pa_nil)))) pss_nil)
      (pss_cons (ps_for (passes_of rfl) rfl (pi_tup (pv 0)) (pg_name (i := 4) scAS.nd rfl (.inl rfl))
        (pss_one (ps_if (pt_cmp (pc_dnotin (hu_of hr) (pv 4) (pv 3)))
          (pss_one (ps_raise rfl (takes_of rfl rfl rfl rfl) (pmk_oex EU.ox EU.ini EU.ty GE (hr.mono (by decide)) bE .nil pass0 rfl EU.g (pa_cons (pv 4) pa_nil)))) pss_nil)))
      (pss_cons (ps_dput (hu_of hr) (pv 3) (pe_glob (v := .str tNone) (by rfl) hn ⟨_, rfl⟩) (pe_makeR0 MK FI (hr.mono (by decide)) (by rfl) M.g (passes_call (takes_of rfl rfl rfl rfl) fun _ _ _ _ h => h)) rfl)
      (pss_cons (ps_dput (hu_of hr) (pv 3) (pe_glob (v := .str tGiven) (by rfl) hg ⟨_, rfl⟩) (pe_ifExp (pt_cmp (pc_isN (pv 2))) (pe_makeR0 MK FI (hr.mono (by decide)) (by rfl) M.g (passes_call (takes_of rfl rfl rfl rfl) fun _ _ _ _ h => h)) (pv 2)) rfl)
      (pss_one (ps_ret (pv 3))))))), ?_⟩
    rcases hs with ⟨a, xs, rfl, ha, qE⟩ | ⟨a, xs, rfl, ha, pa, nd, hl, hs⟩
    · refine ⟨_, rfl, .inr ⟨a, xs, rfl, ha, qE⟩⟩
    · refine ⟨_, rfl, .inl ⟨a, xs, es, rfl, ha, pa, nd, hl, ?_⟩⟩
      rcases hs with ⟨el, hs⟩ | hs
      · refine .inl ⟨el, fun d H1 nd1 s1 hd => ?_⟩
        have hf : ∀ z ∈ es.map (·.1), fieldB z = true := fun z hz => by
          obtain ⟨i, e⟩ := List.mem_iff_getElem?.mp hz
          rw [List.getElem?_map] at e
          cases e2 : es[i]? with
          | none => rw [e2] at e; cases e
          | some zm =>
            rw [e2] at e
            obtain ⟨z', m⟩ := zm
            cases Option.some.inj e
            obtain ⟨_, _, _, _, _, h5, _⟩ := pa i z' m e2
            exact h5
        have tail : ∀ (H2 : Hp) (nb : b ≠ some false), Same H1 H2 → tSeq (tFor (iTup K (tVar 0)) (gName 4) (tIfS (tB (tDNotIn (tVar 4) (tVar 3))) (fun x σ H => tMkO CU (spErr CU "value") [] (tCons (tVar 4) tNil) σ H fun cls d H' => E cls d H') tNext))
            (tSeq (sDPut (tVar 3) (tC (.str tNone)) (tMakeR C (spInitR K C CN) E tNil)) (tSeq (sDPut (tVar 3) (tC (.str tGiven)) (tIf (tB (tIsN (tVar 2))) (tMakeR C (spInitR K C CN) E tNil) (tVar 2))) (tRet (tVar 3)))) { nx := fun x H' => Q V.non H', rt := Q } [some (.ref fl), some (.ref a), some g, some (.ref d), none] H2 := fun H2 nb s2 => by
          have sm := s1.trans s2
          refine as_loop (sm _ _ hfl) (s2 _ _ hd) ?_
          rcases hs with ⟨e1, _⟩ | ⟨_, z, i, e1, e2, e3, e4⟩ | ⟨_, e1, e2⟩
          · exact absurd e1 nb
          · exact .inl ⟨z, i, e1, e2, e3, e4.same sm⟩
          · exact .inr ⟨e1, fun o => as_puts nd1 sm (s2 _ _ hd) hf (by omega) hgv nb (e2 d)⟩
        cases hgv with
        | non => exact ⟨_, rfl, _, rfl, iteF (tail H1 (by simp) (Same.refl H1))⟩
        | mem M =>
          refine ⟨_, rfl, _, rfl, iteT ?_⟩
          refine ⟨_, rfl, .inl ⟨_, _, rfl, M.same s1, ?_⟩⟩
          exact tail H1 (by simp) (Same.refl H1)
        | odd n o =>
          refine ⟨_, rfl, _, rfl, ?_⟩
          rw [decide_eq_false n]
          refine iteT ?_
          rcases hs with ⟨_, e⟩ | ⟨h, _⟩ | ⟨h, _⟩
          · exact ⟨_, rfl, .inr ⟨_, rfl, o.same s1, e.same s1⟩⟩
          · exact absurd rfl h
          · exact absurd rfl h
      · exact .inr hs
end
end K1

namespace K1
open PySem PySem.Spec
open PyProof.Rows L2 EnT StX SmX TxS DuX ClX
/-! ### the Members of an expression -/
/-- who is at a leaf -/
def lkG (gp : Str → Bool) (fg : Str → Str → Bool) (z x : Str) : Bool := if z = tNone then false else if z = tGiven then gp x else fg z x
def spOf (K : PySem.W.Frag) (CE C CS CM CU : Addr) : Sp := fun vs H Q E => ∃ (e : Addr) (v g : V) (t : Fm) (es : List (Str × Addr)) (b : Option Bool), vs = [.ref e, v, g] ∧ ExpAt CE H e t ∧ GvV C H g b ∧
  SetsAt K C CS H v es E (
    (b = some false ∧ ErrAt CM "value" g H E) ∨
    (b ≠ some false ∧ ∀ ys : List Str, sortedS ys = true → ys.Nodup → (∀ z, z ∈ ys ↔ z ∈ t.lvs ∧ fieldB z = true) → ∃ z i, ys[i]? = some z ∧ (∀ y ∈ ys.take i, y ∈ es.map (·.1)) ∧ z ∉ es.map (·.1) ∧ ErrAt CU "value" (.str z) H E) ∨
    (b ≠ some false ∧ (∀ z ∈ t.lvs, fieldB z = true → z ∈ es.map (·.1)) ∧ ∃ (U : List Str) (gp : Str → Bool) (fg : Str → Str → Bool), U.length ≤ 400 ∧ (∀ z m, (z, m) ∈ es → MemV C H m U (fg z)) ∧
      (b = some true → ∃ m, g = .ref m ∧ MemV C H m U gp) ∧ (b = none → gp = fun _ => false) ∧ GivesV C H U (fun x => t.val fun z => lkG gp fg z x) Q))
theorem PairsAt.fld {C : Addr} {H : Hp} {xs : List V} {es : List (Str × Addr)} (pa : PairsAt C H xs es) : ∀ z ∈ es.map (·.1), fieldB z = true := fun z hz => by
  obtain ⟨i, e⟩ := List.mem_iff_getElem?.mp hz
  rw [List.getElem?_map] at e
  cases e2 : es[i]? with
  | none => rw [e2] at e; cases e
  | some zm =>
    rw [e2] at e
    obtain ⟨z', m⟩ := zm
    cases Option.some.inj e
    obtain ⟨_, _, _, _, _, h5, _⟩ := pa i z' m e2
    exact h5
theorem SetsAt.imp {K : PySem.W.Frag} {C CS : Addr} {H : Hp} {v : V} {es : List (Str × Addr)} {E : XK} {R R' : Prop} (k : (∀ z ∈ es.map (·.1), fieldB z = true) → R → R') : SetsAt K C CS H v es E R → SetsAt K C CS H v es E R'
  | .inl h => .inl h
  | .inr ⟨a, xs, h1, h2, h3, h4, h5, .inl ⟨e, r⟩⟩ => .inr ⟨a, xs, h1, h2, h3, h4, h5, .inl ⟨e, k h3.fld r⟩⟩
  | .inr ⟨a, xs, h1, h2, h3, h4, h5, .inr h⟩ => .inr ⟨a, xs, h1, h2, h3, h4, h5, .inr h⟩
theorem ents_look {es : List (Str × Addr)} {m0 : Addr} {g : V} (h : ∀ z ∈ es.map (·.1), fieldB z = true) (z : Str) : valV (entsG es m0 g) (Sum.inr z : Key) = if z = tGiven then some g else if z = tNone then some (.ref m0) else valV (entsE es) (Sum.inr z) := by
  have a1 : valV (entsE es) (Sum.inr tNone : Key) = none := ents_none fun k => (fld_ne (h _ k)).1 rfl
  have a2 : valV (entsE es) (Sum.inr tGiven : Key) = none := ents_none fun k => (fld_ne (h _ k)).2 rfl
  have a3 : valV (entsE es ++ [((Sum.inr tNone : Key), V.ref m0)]) (Sum.inr tGiven : Key) = none := by
    rw [valV_snoc _ _ _ _ a1, if_neg (by decide +kernel), a2]
  unfold entsG
  rw [valV_snoc _ _ _ _ a3, valV_snoc _ _ _ _ a1]
  by_cases e : z = tGiven
  · rw [if_pos e, if_pos (congrArg Sum.inr e)]
  · rw [if_neg e, if_neg (fun k => e (Sum.inr.inj k))]
    by_cases e2 : z = tNone
    · rw [if_pos e2, if_pos (congrArg Sum.inr e2)]
    · rw [if_neg e2, if_neg (fun k => e2 (Sum.inr.inj k))]
abbrev s_of : Stmt := s_Expression_of
section
variable {w : World} {P : Program} {base : Heap} {mg : Str → Option Value} {K : PySem.W.Frag} {CE C CN CM CS CU aS : Addr} {mc : Value}
theorem scOf : FnScope ["self", "sets", "given"] ["self", "sets", "given"] (defScope s_of) := ⟨rfl, rfl, rfl, by decide +kernel, rfl, by decide +kernel, by decide +kernel⟩
theorem memv_nil {H : Hp} {m : Addr} {U : List Str} (M : MemAt C H m []) : MemV C H m U fun _ => false := ⟨[], M, fun x => by simp, fun x h => by cases h⟩
theorem ok_of {f fV fA : Addr} {fd : FuncData} (F : FunD K "of" "Expression.of" (defArgs s_of) (defBody s_of) (defScope s_of) [] [("given", .non)] f fd) (M : ExpC K mg CE)
    (hV : Has P w K mg base (L2.CX P w) 18 "form_value" fV ["form", "table"] (spValue C 9)) (hA : Has P w K mg base (L2.CX P w) 7 "all_sets" fA ["fields", "sets", "given"] (spAll K C CS CM CU)) :
    FnOk P w K mg base (L2.CX P w) 19 f fd ["self", "sets", "given"] (spOf K CE C CS CM CU) := by
  refine F.ok scOf (fun vs H Q E h => ?_) (fun cdv A outer s H vs Q E hr h => ?_)
  · obtain ⟨e, v, g, t, es, b, rfl, _⟩ := h
    rfl
  · obtain ⟨e, v, g, t, es, b, rfl, he, hgv, hs⟩ := h
    obtain ⟨⟨dx, vf, fl, ys, k1, k2, k3, k4, k5, k6⟩, ok, hd, hnl⟩ := he
    refine ⟨_, pss_one (ps_ret (pe_has hV (hr.mono (by decide)) (by rfl) (passes_call (takes_of rfl rfl rfl rfl) fun _ _ _ _ h => h) (pa_cons (pe_fld (pv 0) rfl) (pa_cons (pe_has hA (hr.mono (by decide)) (by rfl) (passes_call (takes_of rfl rfl rfl rfl) fun _ _ _ _ h => h) (pa_cons (pe_fld (pv 0) rfl) (pa_cons (pv 1) (pa_cons (pv 2) pa_nil)))) pa_nil)))), ?_⟩
    refine ⟨_, rfl, e, CE, dx, _, vf, rfl, k1, M.cl, M.nF, ef_form vf t fl, ?_⟩
    refine ⟨_, rfl, e, CE, dx, _, .ref fl, rfl, k1, M.cl, M.nS, ef_fields vf t fl, ?_⟩
    refine ⟨_, rfl, _, rfl, fl, v, g, ys, es, b, rfl, k3, fun z hz => ?_, ?_, hgv, ?_⟩
    · exact ok.names _ ((k6 z).mp hz).1
    · have := len_sub k5 (fun z hz => ((k6 z).mp hz).1)
      have := hnl
      unfold Fm.nl at this
      omega
    · refine hs.imp fun hf hs => ?_
      rcases hs with ⟨e1, e2⟩ | ⟨e1, e2⟩ | ⟨e1, e2, U, gp, fg, hU, hm, hg1, hg2, q⟩
      · exact .inl ⟨e1, e2⟩
      · exact .inr (.inl ⟨e1, e2 ys k4 k5 k6⟩)
      · refine .inr (.inr ⟨e1, fun z hz => e2 z ((k6 z).mp hz).1 ((k6 z).mp hz).2, fun d m0 g' H' sm M0 hg' hd' => ?_⟩)
        refine ⟨vf, t, d, U, lkG gp fg, rfl, k2.same sm, ok, hd, hU, ⟨_, hd', fun z hz => ?_⟩, fun q' H2 s2 mv => q q' H2 (sm.trans s2) mv⟩
        rw [ents_look hf]
        by_cases hz1 : z = tGiven
        · rw [if_pos hz1]
          subst hz1
          rcases hg' with ⟨rfl, eb⟩ | ⟨eb, m1, rfl, M1⟩
          · obtain ⟨m, rfl, mv⟩ := hg1 eb
            exact ⟨m, rfl, mv.same sm⟩
          · refine ⟨m1, rfl, ?_⟩
            have := memv_nil (U := U) M1
            rw [← hg2 eb] at this
            exact this
        · rw [if_neg hz1]
          by_cases hz2 : z = tNone
          · rw [if_pos hz2]
            subst hz2
            exact ⟨m0, rfl, memv_nil M0⟩
          · rw [if_neg hz2]
            have hb : fieldB z = true := decide_eq_true ⟨hz1, hz2⟩
            obtain ⟨m, e4, e5⟩ := ents_some (e2 z hz hb)
            refine ⟨m, e4, ?_⟩
            have eg : lkG gp fg z = fg z := by
              funext x
              unfold lkG
              rw [if_neg hz2, if_neg hz1]
            rw [eg]
            exact (hm z m e5).same sm
end
end K1

namespace K1
open PySem PySem.Spec
open PyProof.Rows L2 EnT StX SmX TxS DuX ClX
/-! ### the law's own look-up -/
def inF (b : Bool) (xs : List Str) (z : Str) : Bool := if z = tGiven then b else decide (z ∈ xs)
def spIn (n : Nat) : Sp := fun vs H Q _ => ∃ (v : V) (t : Fm) (a : Addr) (b : Bool) (xs : List Str), vs = [v, .ref a, .bl b] ∧ FmAt H v t ∧ t.Ok ∧ t.dep ≤ n ∧ H a = some (.lst (xs.map V.str)) ∧ ∀ H', Same H H' → Q (.bl (t.val (inF b xs))) H'
theorem sgn_o (a b : Bool) : sgn "|" a b = (a || b) := if_pos rfl
theorem sgn_a (a b : Bool) : sgn "&" a b = (a && b) := by
  unfold sgn
  rw [if_neg (by decide +kernel), if_pos rfl]
theorem sgn_s (a b : Bool) : sgn "-" a b = (a && !b) := by
  unfold sgn
  rw [if_neg (by decide +kernel), if_neg (by decide +kernel), if_pos rfl]
theorem sgn_x (a b : Bool) : sgn "^" a b = (a != b) := by
  unfold sgn
  rw [if_neg (by decide +kernel), if_neg (by decide +kernel), if_neg (by decide +kernel)]
abbrev nmIn : List Str := ["_law_shape", "_law_among", "_law_gotten", "_law_low", "_law_high"]
section
variable {w : World} {P : Program} {base : Heap} {mg : Str → Option Value} {K : PySem.W.Frag}
theorem scIn : FnScope nmIn ["_law_shape", "_law_among", "_law_gotten"] (defScope s_L_in) := ⟨rfl, rfl, rfl, by decide +kernel, rfl, by decide +kernel, by decide +kernel⟩
theorem ok_in {f : Addr} {fd : FuncData} (F : Fun K "_law_in" "_law_in" s_L_in f fd) (T : Free mg) (mgF : mg "_law_in" = some (.ref f)) : ∀ n : Nat, FnOk P w K mg base CX0 (n + 1) f fd ["_law_shape", "_law_among", "_law_gotten"] (spIn n) := by
  have bF : L2.Binds K fd ["_law_shape", "_law_among", "_law_gotten"] [] := F.binds (ps := ["_law_shape", "_law_among", "_law_gotten"]) fun _ _ _ _ _ _ us hl => match us, hl with | [_, _, _], _ => rfl
  intro n
  induction n with
  | zero =>
    refine F.ok scIn (fun vs H Q E h => ?_) (fun cdv A outer s H vs Q E hr h => ?_)
    · obtain ⟨v, t, a, b, xs, rfl, _⟩ := h
      rfl
    · obtain ⟨v, t, a, b, xs, rfl, m, ok, dn, _⟩ := h
      have := Fm.dep_pos t
      omega
  | succ n ih =>
    have hF : Has P w K mg base CX0 (n + 1) "_law_in" f ["_law_shape", "_law_among", "_law_gotten"] (spIn n) := ⟨mgF, F.kp, fd, ih, bF⟩
    refine F.ok scIn (fun vs H Q E h => ?_) (fun cdv A outer s H vs Q E hr h => ?_)
    · obtain ⟨v, t, a, b, xs, rfl, _⟩ := h
      rfl
    · obtain ⟨v, t, a, b, xs, rfl, m, ok, dn, ha, q⟩ := h
      refine ⟨_, pss_cons (ps_if (pt_val (pe_callB call_isi (by rfl) T.isinstance (by decide +kernel) (pa_cons (pv 0) (pa_cons (pe_bltn (v := .ty "str") (u := .type "str") (by rfl) T.str (by decide +kernel) rfl) pa_nil)))) (pss_one (ps_ret (pe_ifExp (pt_cmpR op_eq (pv 0) pe_str (nomark _)) (pv 2) (pe_cmpR op_in_seq (pv 0) (pv 1) (by rfl))))) pss_nil)
        (pss_cons (ps_par (i := 3) (j := 4) rfl scIn.nd rfl rfl (by decide) rfl rfl (pa_cons (pe_has hF hr (by rfl) pass0 (pa_cons (pe_ix ix_tup (pv 0) pe_int (fun _ _ => rfl)) (pa_cons (pv 1) (pa_cons (pv 2) pa_nil)))) (pa_cons (pe_has hF hr (by rfl) pass0 (pa_cons (pe_ix ix_tup (pv 0) pe_int (fun _ _ => rfl)) (pa_cons (pv 1) (pa_cons (pv 2) pa_nil)))) pa_nil)) (by rfl))
        (pss_cons (ps_if (pt_cmpR op_in_seq (pe_ix ix_tup (pv 0) pe_int (fun _ _ => rfl)) (pe_lst (pa_cons pe_str (pa_cons pe_str pa_nil))) (by rfl)) (pss_one (ps_ret (pe_ifExp (pt_cmpR op_eq (pe_ix ix_tup (pv 0) pe_int (fun _ _ => rfl)) pe_str (nomark _)) (pe_or (pv 3) (pe_one (pv 4))) (pe_and (pv 3) (pe_one (pv 4)))))) pss_nil)
        (pss_one (ps_ret (pe_ifExp (pt_cmpR op_eq (pe_ix ix_tup (pv 0) pe_int (fun _ _ => rfl)) pe_str (nomark _)) (pe_and (pv 3) (pe_one (pe_not (pv 4)))) (pe_cmpR op_ne (pv 3) (pv 4) (nomark _))))))), ?_⟩
      cases m with
      | leaf z =>
        have q : Q (.bl (inF b xs z)) H := q H (Same.refl H)
        refine ⟨_, rfl, _, _, _, _, _, rfl, .ty _, .base (.str _), rfl, _, rfl, iteT (⟨_, rfl, rfl, _, rfl, ?_⟩)⟩
        by_cases e : z = tGiven
        · rw [decide_eq_true (by rw [e])]
          subst e
          exact iteT ⟨_, rfl, q⟩
        · rw [decide_eq_false (fun k => e (V.str.inj k))]
          have e2 : inF b xs z = decide (z ∈ xs) := if_neg e
          rw [e2, ← inV_mem] at q
          exact iteF ⟨_, rfl, _, rfl, a, _, rfl, .inl (SqL.of ha), rfl, strs_flat xs, q⟩
      | node h hl hr' =>
        rename_i a' s' vl vr l' r'
        rw [Fm.dep_node] at dn
        refine ⟨_, rfl, _, _, _, _, _, rfl, .ty _, .base (.tup h), rfl, _, rfl, iteF (⟨_, rfl, _, _, _, _, rfl, rfl, (SqT.of h), rfl, _, rfl, _, rfl, _, _, _, _, _, rfl, hl, ok.2.1, (by omega), ha, fun H1 => fun s1 => ?_⟩)⟩
        refine ⟨_, rfl, _, _, _, _, rfl, rfl, (SqT.of (s1 _ _ h)), rfl, _, rfl, _, rfl, _, _, _, _, _, rfl, (hr'.same s1), ok.2.2, (by omega), (s1 _ _ ha), fun H2 => fun s2 => ?_⟩
        have h2 := s2 _ _ (s1 _ _ h)
        refine ⟨_, _, rfl, _, rfl, _, _, _, _, rfl, rfl, (SqT.of h2), rfl, (by decide), fun p1 => fun n1 => ⟨_, _, rfl, (.inl (SqL.of upd_same)), rfl, rfl, _, rfl, ?_⟩⟩
        have s3 : Same H2 (upd H2 p1 (.lst [.str "|", .str "&"])) := same_upd n1
        have h3 := s3 _ _ h2
        have s4 := (s1.trans s2).trans s3
        generalize upd H2 p1 (.lst [.str "|", .str "&"]) = H3 at s3 h3 s4 ⊢
        have qv : ∀ {c : Bool}, c = (Fm.node s' l' r').val (inF b xs) → Q (.bl c) H3 := fun {c} e => by rw [e]; exact q H3 s4
        rcases sign_ne ok.1 with (e | e) | e | e
        · subst e
          refine iteT ?_
          refine ⟨_, rfl, _, _, _, _, rfl, rfl, (SqT.of h3), rfl, rfl, _, rfl, iteT (⟨_, rfl, _, rfl, ?_⟩)⟩
          cases hv : l'.val (inF b xs) with
          | true => exact iteT (qv (by simp [Fm.val, hv, sgn_o]))
          | false => exact iteF ⟨_, rfl, qv (by simp [Fm.val, hv, sgn_o])⟩
        · subst e
          refine iteT ?_
          refine ⟨_, rfl, _, _, _, _, rfl, rfl, (SqT.of h3), rfl, rfl, _, rfl, iteF (⟨_, rfl, _, rfl, ?_⟩)⟩
          cases hv : l'.val (inF b xs) with
          | true => exact iteT ⟨_, rfl, qv (by simp [Fm.val, hv, sgn_a])⟩
          | false => exact iteF (qv (by simp [Fm.val, hv, sgn_a]))
        · subst e
          refine iteF ?_
          refine ⟨_, rfl, _, _, _, _, rfl, rfl, (SqT.of h3), rfl, rfl, _, rfl, iteT (⟨_, rfl, _, rfl, ?_⟩)⟩
          cases hv : l'.val (inF b xs) with
          | true => exact iteT ⟨_, rfl, _, rfl, qv (by simp [Fm.val, hv, sgn_s])⟩
          | false => exact iteF (qv (by simp [Fm.val, hv, sgn_s]))
        · subst e
          refine iteF ?_
          refine ⟨_, rfl, _, _, _, _, rfl, rfl, (SqT.of h3), rfl, rfl, _, rfl, iteF (⟨_, rfl, _, rfl, rfl, qv ?_⟩)⟩
          simp only [Fm.val]
          rw [sgn_x]
          cases l'.val (inF b xs) <;> cases r'.val (inF b xs) <;> simp
end
end K1

namespace K1
open PySem PySem.Spec
open PyProof.Rows L2 EnT StX SmX TxS DuX ClX
def spFormL (n : Nat) : Sp := fun vs H Q _ => ∃ (p a : Addr) (N : List Str) (d : Nat), vs = [.ref p, .ref a, .int d] ∧ PoolAt H p ∧ a ≠ p ∧ H a = some (.lst (N.map V.str)) ∧ 0 < N.length ∧ N.length < 1000 ∧ (∀ z ∈ N, nameB z = true) ∧ d ≤ n ∧
  ∀ (v : V) (t : Fm) (H' : Hp), K1.Ext p H H' → FmAt H' v t → t.Ok → t.dep ≤ d + 1 → (∀ z ∈ t.lvs, z ∈ N) → Q v H'
abbrev nmFo : List Str := ["_law_pool_here", "_law_words_here", "_law_deep", "_law_sign"]
section
variable {w : World} {P : Program} {base : Heap} {mg : Str → Option Value} {K : PySem.W.Frag}
theorem scForm : FnScope nmFo ["_law_pool_here", "_law_words_here", "_law_deep"] (defScope sForm) := ⟨rfl, rfl, rfl, by decide +kernel, rfl, by decide +kernel, by decide +kernel⟩
def foB : List Stmt := match defBody sForm with
  | (.If _ b _ _) :: _ => b
  | _ => []
structure AtFo (p a : Addr) (N : List Str) (σ : L2.St) (H : Hp) (En : Ends) : Prop where
  ex : ∃ (x2 x3 : Option V), σ = [some (.ref p), some (.ref a), x2, x3] ∧ PoolAt H p ∧ a ≠ p ∧ H a = some (.lst (N.map V.str)) ∧ 0 < N.length ∧ N.length < 1000 ∧ (∀ z ∈ N, nameB z = true) ∧ ∀ z H', K1.Ext p H H' → z ∈ N → En.rt (.str z) H'
theorem fo_leaf {f fD p a : Addr} {N : List Str} {cdv : Value} {A : Around} {outer : List Env} {s : Shared} {H00 : Hp} {E : XK} (T : Free mg) (hD : Has P w K mg base CX0 1 "_law_draw" fD ["_law_pool_here", "_law_many"] spDraw) (hr : Room 1 (A.deeper (envOfC "_law_form" (defScope sForm) s.heap.objs.size f cdv))) :
    PSs (cxOf CX0 P w K mg base nmFo "_law_form" (defScope sForm) f cdv A outer s H00 E).nox foB (fun En σ H => AtFo p a N σ H En) := by
  refine pss_of fun En σ H hyp => ?_
  obtain ⟨x2, x3, eσ, hp, ap, ha, n0, n1, nm, q⟩ := hyp.ex
  refine ⟨_, pss_one (ps_ret (pe_ix ix_list (pv 1) (pe_has hD hr (by rfl) pass0 (pa_cons (pv 0) (pa_cons (pe_callB call_len_seq (by rfl) T.len PySem.boot_len (pa_cons (pv 1) pa_nil)) pa_nil))) (fun _ _ => rfl))), ?_⟩
  subst eσ
  refine ⟨_, rfl, _, rfl, _, rfl, a, _, rfl, .inl (SqL.of ha), ?_⟩
  rw [List.length_map]
  refine ⟨p, _, rfl, hp, by omega, by omega, fun i H1 x1 i0 i1 => ?_⟩
  have ei : ((i.toNat : Nat) : Int) = i := by omega
  have hi : i.toNat < N.length := by omega
  refine ⟨a, _, i, .str (N[i.toNat]), rfl, rfl, SqL.of (x1.at ap ha), ?_, ?_⟩
  · have z := atI_nat (xs := N.map V.str) (j := i.toNat) (by rw [List.getElem?_map, List.getElem?_eq_getElem hi]; rfl)
    rw [ei] at z
    exact z
  · exact q _ H1 x1 (List.getElem_mem hi)
/-- a form that is drawn -/
theorem ok_form {f fD : Addr} {fd : FuncData} (F : Fun K "_law_form" "_law_form" sForm f fd) (T : Free mg) (mgF : mg "_law_form" = some (.ref f)) (hD : Has P w K mg base CX0 1 "_law_draw" fD ["_law_pool_here", "_law_many"] spDraw) :
    ∀ n : Nat, FnOk P w K mg base CX0 (n + 2) f fd ["_law_pool_here", "_law_words_here", "_law_deep"] (spFormL n) := by
  have bF : L2.Binds K fd ["_law_pool_here", "_law_words_here", "_law_deep"] [] := F.binds (ps := ["_law_pool_here", "_law_words_here", "_law_deep"]) fun _ _ _ _ _ _ us hl => match us, hl with | [_, _, _], _ => rfl
  intro n
  induction n with
  | zero =>
    refine F.ok scForm (fun vs H Q E h => ?_) (fun cdv A outer s H vs Q E hr h => ?_)
    · obtain ⟨p, a, N, d, rfl, _⟩ := h
      rfl
    · obtain ⟨p, a, N, d, rfl, hp, ap, ha, n0, n1, nm, dn, q⟩ := h
      refine ⟨_, pss_cons (ps_if (PW.pt (pw_or (pt_cmpR op_eq (pv 2) pe_int (nomark _)) (pw_or1 (pt_cmpR op_eq (pe_has hD hr (by rfl) pass0 (pa_cons (pv 0) (pa_cons pe_int pa_nil))) pe_int (nomark _)))))
        (fo_leaf (p := p) (a := a) (N := N) T hD hr) pss_nil) pss_never, ?_⟩
      have d0 : d = 0 := by omega
      subst d0
      refine ⟨_, rfl, rfl, _, rfl, iteT (iteT ?_)⟩
      exact ⟨_, _, rfl, hp, ap, ha, n0, n1, nm, fun z H1 x1 nz => q _ _ H1 x1 (.leaf z) (nm z nz) (by show 1 ≤ 0 + 1; omega) (fun y hy => by rw [show y = z from by simpa [Fm.lvs] using hy]; exact nz)⟩
  | succ n ih =>
    have hF : Has P w K mg base CX0 (n + 2) "_law_form" f ["_law_pool_here", "_law_words_here", "_law_deep"] (spFormL n) := ⟨mgF, F.kp, fd, ih, bF⟩
    refine F.ok scForm (fun vs H Q E h => ?_) (fun cdv A outer s H vs Q E hr h => ?_)
    · obtain ⟨p, a, N, d, rfl, _⟩ := h
      rfl
    · obtain ⟨p, a, N, d, rfl, hp, ap, ha, n0, n1, nm, dn, q⟩ := h
      refine ⟨_, pss_cons (ps_if (PW.pt (pw_or (pt_cmpR op_eq (pv 2) pe_int (nomark _)) (pw_or1 (pt_cmpR op_eq (pe_has hD (hr.mono (by omega)) (by rfl) pass0 (pa_cons (pv 0) (pa_cons pe_int pa_nil))) pe_int (nomark _)))))
        (fo_leaf (p := p) (a := a) (N := N) T hD (hr.mono (by omega))) pss_nil)
        (pss_cons (ps_set (i := 3) scForm.nd rfl (.inl rfl) (pe_ix ix_list (pe_lst (pa_cons pe_str (pa_cons pe_str (pa_cons pe_str (pa_cons pe_str pa_nil))))) (pe_has hD (hr.mono (by omega)) (by rfl) pass0 (pa_cons (pv 0) (pa_cons pe_int pa_nil))) (fun _ _ => rfl)))
        (pss_one (ps_ret (pe_tup (pa_cons (pv 3) (pa_cons (pe_has hF hr (by rfl) pass0 (pa_cons (pv 0) (pa_cons (pv 1) (pa_cons (pe_op op_sub (pv 2) pe_int) pa_nil)))) (pa_cons (pe_has hF hr (by rfl) pass0 (pa_cons (pv 0) (pa_cons (pv 1) (pa_cons (pe_op op_sub (pv 2) pe_int) pa_nil)))) pa_nil))))))), ?_⟩
      have leaf : ∀ H1, K1.Ext p H H1 → ∀ z H2, K1.Ext p H1 H2 → z ∈ N → Q (.str z) H2 := fun H1 x1 z H2 x2 nz => q _ _ H2 (x1.trans x2) (.leaf z) (nm z nz) (by show 1 ≤ d + 1; omega) (fun y hy => by rw [show y = z from by simpa [Fm.lvs] using hy]; exact nz)
      by_cases hd : d = 0
      · subst hd
        refine ⟨_, rfl, rfl, _, rfl, iteT (iteT ?_)⟩
        exact ⟨_, _, rfl, hp, ap, ha, n0, n1, nm, leaf H (.refl hp)⟩
      · refine ⟨_, rfl, rfl, _, rfl, ?_⟩
        rw [decide_eq_false (fun e => hd (by have := V.int.inj e; omega))]
        refine iteF ?_
        refine ⟨_, rfl, p, 3, rfl, hp, by decide, by decide, fun i H1 x1 i0 i1 => ⟨rfl, _, rfl, ?_⟩⟩
        refine ite2 (fun _ => ?_) (fun _ => ?_)
        · exact ⟨_, _, rfl, x1.pool, ap, x1.at ap ha, n0, n1, nm, leaf H1 x1⟩
        · refine ⟨(by show 4 ≤ sizeLine; decide), fun S nS => ?_⟩
          have Sp : S ≠ p := x1.pool.ne nS
          have x2 : K1.Ext p H (upd H1 S (.lst (signs.map V.str))) := x1.same (same_upd nS)
          refine ⟨_, rfl, p, 4, rfl, x2.pool, by decide, by decide, fun j H2 x3 j0 j1 => ?_⟩
          have hS : H2 S = some (.lst (signs.map V.str)) := x3.at Sp upd_same
          have x23 := x2.trans x3
          have ej : ((j.toNat : Nat) : Int) = j := by omega
          have hj : j.toNat < signs.length := by show j.toNat < 4; omega
          refine ⟨S, _, j, .str (signs[j.toNat]), rfl, rfl, SqL.of hS, ?_, ?_⟩
          · have z := atI_nat (xs := signs.map V.str) (j := j.toNat) (by rw [List.getElem?_map, List.getElem?_eq_getElem hj]; rfl)
            rw [ej] at z
            exact z
          have es : ((d - 1 : Nat) : Int) = (d : Int) - 1 := by omega
          refine ⟨_, rfl, _, rfl, _, rfl, _, rfl, _, _, rfl, rfl, ?_⟩
          refine ⟨p, a, N, d - 1, by rw [es]; rfl, x23.pool, ap, x23.at ap ha, n0, n1, nm, by omega, fun v1 t1 H3 x4 m1 ok1 d1 i1 => ?_⟩
          have x34 := x23.trans x4
          refine ⟨_, rfl, _, rfl, _, rfl, _, _, rfl, rfl, ?_⟩
          refine ⟨p, a, N, d - 1, by rw [es]; rfl, x34.pool, ap, x34.at ap ha, n0, n1, nm, by omega, fun v2 t2 H4 x5 m2 ok2 d2 i2 => ?_⟩
          have x45 := x34.trans x5
          refine ⟨(by show 3 ≤ sizeLine; decide), fun r nr => ?_⟩
          have s6 := same_upd (o := .tup [.str (signs[j.toNat]), v1, v2]) nr
          refine q (.ref r) (.node (signs[j.toNat]) t1 t2) _ (x45.same s6) (.node upd_same ((m1.keep (.ext x34.pool x5)).same s6) (m2.same s6)) ⟨List.getElem_mem hj, ok1, ok2⟩ ?_ ?_
          · rw [Fm.dep_node]
            omega
          · intro z hz
            rcases List.mem_append.mp hz with h | h
            · exact i1 z h
            · exact i2 z h
end
end K1

namespace K1
open PySem PySem.Spec
open PyProof.Rows L2 EnT StX SmX TxS DuX ClX
/-! ### the sets that are drawn -/
abbrev nmSe : List Str := ["_law_pool_here", "_law_fields", "_law_people", "_law_field", "_law_name"]
def scSi : Scope := { kind := .function, names := [(".0", .local), ("_law_field", .local), ("_law_people", .cell), ("_law_pool_here", .cell)], isGenerator := false, isCoroutine := false, more := [] }
section
variable {w : World} {P : Program} {base : Heap} {mg : Str → Option Value} {K : PySem.W.Frag}
theorem scSe : FnScope nmSe ["_law_pool_here", "_law_fields", "_law_people"] (defScope s_L_sets) := ⟨rfl, rfl, rfl, by decide +kernel, rfl, by decide +kernel, by decide +kernel⟩
theorem ext_set {p D : Addr} {H H' : Hp} {o : HO} (x : K1.Ext p H H') (n : H D = none) (Dp : D ≠ p) : K1.Ext p H (upd H' D o) := by
  obtain ⟨⟨a, b, c, h⟩, k⟩ := x
  refine ⟨⟨a, b, c, by rw [upd_ne (Ne.symm Dp)]; exact h⟩, fun b o1 nb e => ?_⟩
  rw [upd_ne (ne_of_none e n)]
  exact k b o1 nb e
theorem lc_drawn {p b : Addr} {N : List Str} {x1 x3 x4 : Option V} {H : Hp} {Q : VK} (hp : PoolAt H p) (bp : b ≠ p) (hb : H b = some (.lst (N.map V.str))) (hl : N.length ≤ 100)
    (q : ∀ (D : Addr) (H' : Hp) (ns : List Str), H D = none → K1.Ext p H H' → H' D = some (.lst (ns.map V.str)) → ns.Sublist N → Q (.ref D) H') :
    tLc (iList K (tVar 2)) (gName 4) (tTest (tOp rEq (tCall spDraw [] E0 (tCons (tVar 0) (tCons (tC (.int 2)) tNil))) (tC (.int 0)))) (tVar 4) [4] [some (.ref p), x1, some (.ref b), x3, x4] H Q := by
  refine ⟨_, rfl, b, rfl, ⟨_, SqL.of hb⟩, fun D nD => ?_⟩
  have Dp : D ≠ p := hp.ne nD
  refine lc_it (walk_list (xs := N.map V.str)) (fun i H' => K1.Ext p H H' ∧ ∃ ns : List Str, H' D = some (.lst (ns.map V.str)) ∧ ns.Sublist (N.take i)) ?_ ?_ ?_ ?_
  · exact ⟨(K1.Ext.refl hp).same (same_upd nD), [], upd_same, List.Sublist.refl _⟩
  · rintro i H' _ ⟨x, _⟩
    exact SqL.of (x.at bp hb)
  · rintro i x H1 H2 hi ⟨xx, ns, hD, sb⟩ ⟨rfl, ey⟩
    obtain ⟨z, ez, rfl⟩ : ∃ z, N[i]? = some z ∧ x = V.str z := by
      rw [List.getElem?_map] at ey
      cases e : N[i]? with
      | none => rw [e] at ey; cases ey
      | some z => rw [e] at ey; exact ⟨z, rfl, (Option.some.inj ey).symm⟩
    refine ⟨rfl, _, rfl, p, 2, rfl, xx.pool, by decide, by decide, fun d H3 x3' d0 d1 => ⟨rfl, _, rfl, ?_⟩⟩
    have x13 := xx.trans x3'
    have hD3 := x3'.at Dp hD
    have et : N.take (i + 1) = N.take i ++ [z] := by rw [List.take_add_one, ez]; rfl
    refine ite2 (fun _ => ?_) (fun _ => ?_)
    · refine ⟨_, rfl, ns.map V.str, hD3, ?_, ext_set x13 nD Dp, ns ++ [z], ?_, ?_⟩
      · have := sb.length_le
        rw [List.length_map, sizeLine_eq]
        rw [List.length_take] at this
        omega
      · rw [upd_same, List.map_append]
        rfl
      · rw [et]
        exact sb.append (List.Sublist.refl _)
    · refine ⟨x13, ns, hD3, ?_⟩
      rw [et]
      exact sb.trans (List.sublist_append_left _ _)
  · rintro H' ⟨x, ns, hD, sb⟩
    rw [List.length_map, List.take_length] at sb
    exact q D H' ns nD x hD sb
/-- a field, its list, what the list holds -/
abbrev Rw3 : Type := Str × Addr × List Str
def entsR (rs : List Rw3) : List (Key × V) := rs.map fun r => (Sum.inr r.1, V.ref r.2.1)
structure KnownAt (H : Hp) (d p : Addr) (rs : List Rw3) (N : List Str) : Prop where
  d : H d = some (.dK (entsR rs))
  l : ∀ r ∈ rs, H r.2.1 = some (.lst (r.2.2.map V.str)) ∧ r.2.2.Sublist N ∧ r.2.1 ≠ p
theorem merge_nd : ∀ {more kvs : List (Key × V)}, (more.map (·.1)).Nodup → (∀ k ∈ more.map (·.1), valV kvs k = none) → mergeK kvs more = kvs ++ more
  | [], kvs, _, _ => (List.append_nil kvs).symm
  | m :: r, kvs, nd, h => by
    show mergeK (putK kvs m.1 m.2) r = _
    have h1 : valV kvs m.1 = none := h _ List.mem_cons_self
    have nd := List.nodup_cons.mp nd
    rw [putK_new _ h1, merge_nd nd.2 fun k hk => ?_, List.append_assoc]
    · rfl
    · rw [valV_snoc _ _ _ _ h1, if_neg (fun e => nd.1 (by show m.1 ∈ _; rw [← e]; exact hk))]
      exact h k (List.mem_cons_of_mem _ hk)
def spSetsL : Sp := fun vs H Q _ => ∃ (p a b : Addr) (F N : List Str), vs = [.ref p, .ref a, .ref b] ∧ PoolAt H p ∧ a ≠ p ∧ b ≠ p ∧ H a = some (.lst (F.map V.str)) ∧ H b = some (.lst (N.map V.str)) ∧ F.length ≤ 100 ∧ N.length ≤ 100 ∧ F.Nodup ∧
  ∀ (d : Addr) (H' : Hp) (rs : List Rw3), H d = none → K1.Ext p H H' → KnownAt H' d p rs N → rs.map (·.1) = F → Q (.ref d) H'
theorem lc_rows {p a b : Addr} {F N : List Str} {x3 x4 : Option V} {H : Hp} {Q : VK} (hp : PoolAt H p) (ap : a ≠ p) (bp : b ≠ p) (ha : H a = some (.lst (F.map V.str))) (hb : H b = some (.lst (N.map V.str))) (lF : F.length ≤ 100) (hl : N.length ≤ 100)
    (q : ∀ (D : Addr) (H' : Hp) (rs : List Rw3) (ps : List Addr), H D = none → K1.Ext p H H' → H' D = some (.lst (ps.map V.ref)) → Paired (fun c r => H' c = some (.tup [.str r.1, .ref r.2.1])) ps rs → (∀ r ∈ rs, H' r.2.1 = some (.lst (r.2.2.map V.str)) ∧ r.2.2.Sublist N ∧ r.2.1 ≠ p) → rs.map (·.1) = F → Q (.ref D) H') :
    tLc (iList K (tVar 1)) (gName 3) tYes (tTup (tCons (tVar 3) (tCons (tLc (iList K (tVar 2)) (gName 4) (tTest (tOp rEq (tCall spDraw [] E0 (tCons (tVar 0) (tCons (tC (.int 2)) tNil))) (tC (.int 0)))) (tVar 4) [4]) tNil))) [3] [some (.ref p), some (.ref a), some (.ref b), x3, x4] H Q := by
  refine ⟨_, rfl, a, rfl, ⟨_, SqL.of ha⟩, fun D nD => ?_⟩
  have Dp : D ≠ p := hp.ne nD
  refine lc_it (walk_list (xs := F.map V.str)) (fun i H' => K1.Ext p H H' ∧ ∃ (rs : List Rw3) (ps : List Addr), H' D = some (.lst (ps.map V.ref)) ∧ Paired (fun c r => H' c = some (.tup [.str r.1, .ref r.2.1])) ps rs ∧ (∀ r ∈ rs, H' r.2.1 = some (.lst (r.2.2.map V.str)) ∧ r.2.2.Sublist N ∧ r.2.1 ≠ p ∧ r.2.1 ≠ D) ∧ rs.map (·.1) = F.take i) ?_ ?_ ?_ ?_
  · exact ⟨(K1.Ext.refl hp).same (same_upd nD), [], [], upd_same, .nil, (fun r hr => by cases hr), rfl⟩
  · rintro i H' _ ⟨x, _⟩
    exact SqL.of (x.at ap ha)
  · rintro i x H1 H2 hi ⟨xx, rs, ps, hD, hP, hR, hF⟩ ⟨rfl, ey⟩
    obtain ⟨z, ez, rfl⟩ : ∃ z, F[i]? = some z ∧ x = V.str z := by
      rw [List.getElem?_map] at ey
      cases e : F[i]? with
      | none => rw [e] at ey; cases ey
      | some z => rw [e] at ey; exact ⟨z, rfl, (Option.some.inj ey).symm⟩
    have et : F.take (i + 1) = F.take i ++ [z] := by rw [List.take_add_one, ez]; rfl
    refine ⟨rfl, ?_⟩
    unfold tYes
    show (if true = true then _ else _)
    rw [if_pos rfl]
    refine ⟨_, rfl, ?_⟩
    show tLc (iList K (tVar 2)) (gName 4) (tTest (tOp rEq (tCall spDraw [] E0 (tCons (tVar 0) (tCons (tC (.int 2)) tNil))) (tC (.int 0)))) (tVar 4) [4] _ H2 _
    refine lc_drawn xx.pool bp (xx.at bp hb) hl fun L H3 ns nL x3' hL sb => ?_
    have x13 := xx.trans x3'
    have Lp : L ≠ p := xx.pool.ne nL
    have LD : L ≠ D := fun e => by rw [e, hD] at nL; cases nL
    refine ⟨(by show 2 ≤ sizeLine; decide), fun c nc => ?_⟩
    have x14 := x13.same (same_upd (o := .tup [.str z, .ref L]) nc)
    have hD4 : (upd H3 c (.tup [.str z, .ref L])) D = some (.lst (ps.map V.ref)) := same_upd nc _ _ (x3'.at Dp hD)
    have cD : c ≠ D := fun e => by rw [e, x3'.at Dp hD] at nc; cases nc
    refine ⟨ps.map V.ref, hD4, ?_, ext_set x14 nD Dp, rs ++ [(z, L, ns)], ps ++ [c], ?_, ?_, ?_, ?_⟩
    · have e1 := hP.length
      have e2 : rs.length = (F.take i).length := by rw [← hF, List.length_map]
      rw [List.length_take] at e2
      rw [List.length_map, sizeLine_eq]
      omega
    · rw [upd_same, List.map_append]
      rfl
    · refine Paired.snoc (hP.mono fun y r hy => ?_) ?_
      · have yp : y ≠ p := fun e => by
          obtain ⟨u1, u2, u3, hu⟩ := xx.pool
          rw [e, hu] at hy
          cases hy
        have yD : y ≠ D := fun e => by rw [e, hD] at hy; cases hy
        rw [upd_ne yD]
        exact same_upd nc _ _ (x3'.at yp hy)
      · rw [upd_ne cD, upd_same]
    · intro r hr
      rcases List.mem_append.mp hr with h | h
      · obtain ⟨h1, h2, h3, h4⟩ := hR r h
        exact ⟨by rw [upd_ne h4]; exact same_upd nc _ _ (x3'.at h3 h1), h2, h3, h4⟩
      · rw [List.mem_singleton] at h
        subst h
        exact ⟨by rw [upd_ne LD]; exact same_upd nc _ _ hL, sb, Lp, LD⟩
    · rw [et, List.map_append, hF]
      rfl
  · rintro H' ⟨x, rs, ps, hD, hP, hR, hF⟩
    rw [List.length_map, List.take_length] at hF
    exact q D H' rs ps nD x hD hP (fun r hr => ⟨(hR r hr).1, (hR r hr).2.1, (hR r hr).2.2.1⟩) hF
theorem ok_sets {f fD : Addr} {fd : FuncData} (F : Fun K "_law_sets" "_law_sets" s_L_sets f fd) (T : Free mg) (gD : mg "dict" = none) (hD : Has P w K mg base CX0 1 "_law_draw" fD ["_law_pool_here", "_law_many"] spDraw) :
    FnOk P w K mg base CX0 2 f fd ["_law_pool_here", "_law_fields", "_law_people"] spSetsL := by
  refine F.ok scSe (fun vs H Q E h => ?_) (fun cdv A outer s H vs Q E hr h => ?_)
  · obtain ⟨p, a, b, F, N, rfl, _⟩ := h
    rfl
  · obtain ⟨p, a, b, Fs, N, rfl, hp, ap, bp, ha, hb, lF, lN, nd, q⟩ := h
    refine ⟨_, pss_one (ps_ret (pe_callTy (call_dictP rfl) (by rfl) gD (by decide +kernel) (pa_cons (pe_lc (own := [("_law_field", 3)]) (g := gName 3) (tt := tYes) (te := tTup (tCons (tVar 3) (tCons (tLc (iList K (tVar 2)) (gName 4) (tTest (tOp rEq (tCall spDraw [] E0 (tCons (tVar 0) (tCons (tC (.int 2)) tNil))) (tC (.int 0)))) (tVar 4) [4]) tNil))) rfl scSe.nd (pi_list (pv 1)) (blkOk_by (own := [("_law_field", 3)]) (N := nmSe) (sc := defScope s_L_sets) (by decide +kernel)) (fun _ _ _ _ _ => pg_name (i := 3) scSe.nd rfl (Or.inl rfl)) (fun _ _ _ _ _ => pts_nil) (fun _ _ _ _ _ => pe_tup (pa_cons (pv 3) (pa_cons (pe_lc (own := [("_law_name", 4)]) (g := gName 4) rfl scSe.nd (pi_list (pv 2)) (blkOk_by (own := [("_law_name", 4)]) (N := nmSe) (sc := scSi) (by decide +kernel)) (fun _ _ _ _ _ => pg_name (i := 4) scSe.nd rfl (Or.inl rfl)) (fun _ _ _ _ _ => pts_one (pt_cmpR op_eq (pe_has hD hr (by rfl) pass0 (pa_cons (pv 0) (pa_cons pe_int pa_nil))) pe_int (nomark _))) (fun _ _ _ _ _ => pv 4)) pa_nil)))) pa_nil))), ?_⟩
    unfold tRet tCB
    refine lc_rows hp ap bp ha hb lF lN fun D H' rs ps nD x hD hP hR hF => ?_
    refine ⟨D, ps, entsR rs, rfl, SqL.of hD, ?_, fun d nd' => ?_⟩
    · have g : ∀ {l1 : List Addr} {l2 : List Rw3}, Paired (fun c r => H' c = some (.tup [.str r.1, .ref r.2.1])) l1 l2 → Paired (fun p kv => SqT K H' p [kV kv.1, kv.2]) l1 (entsR l2) := fun {l1 l2} h => by
        induction h with
        | nil => exact .nil
        | cons h1 _ ih => exact .cons (SqT.of h1) ih
      exact g hP
    · have nk : ((entsR rs).map (·.1)).Nodup := by
        have e1 : (entsR rs).map (·.1) = (rs.map (·.1)).map fun z => (Sum.inr z : Key) := by
          unfold entsR
          rw [List.map_map, List.map_map]
          rfl
        rw [e1, hF]
        exact nd.map _ (fun x y h e => h (Sum.inr.inj e))
      have e : mergeK [] (entsR rs) = entsR rs := merge_nd nk (fun k hk => rfl)
      rw [e]
      exact q d _ rs (x.free nd') (x.same (same_upd nd')) ⟨upd_same, fun r hr => ⟨same_upd nd' _ _ (hR r hr).1, (hR r hr).2⟩⟩ hF
end
end K1

namespace K1
open PySem PySem.Spec PySem.W PySem.Calls
open PyProof.Rows L2
/-! ### list(d.keys()) -/
def rKeysL : V → Hp → VK → Prop := fun x H Q => ∃ (d : Addr) (kvs : List (Key × V)), x = .ref d ∧ H d = some (.dK kvs) ∧ ∀ q, H q = none → Q (.ref q) (upd H q (.lst (kvs.map fun kv => kV kv.1)))
def tListKeys (te : TE) : TE := fun σ H Q => te σ H fun x H1 => rKeysL x H1 Q
section
variable {X : Cx} {e : PySem.Expr} {te : TE} {p apos cpos pos : Pos}
theorem pe_listKeys (hc : X.calm = true) (he : PE X e te) (hg : Gl X "list") (hm : X.mg "list" = none) (hv : bootBuiltins "list" = some (.type "list")) (hbase : attributeBase e "keys" X.env (eval e X.env) = eval e X.env := by rfl) (hline : (apos.endLine == cpos.line) = true := by rfl)
    (hs : starEach [.Call (.Attribute e "keys" apos) [] [] cpos] X.env = (false, eval (.Call (.Attribute e "keys" apos) [] [] cpos) X.env) :: starEach [] X.env := by rfl) :
    PE X (.Call (.Name "list" p) [.Call (.Attribute e "keys" apos) [] [] cpos] [] pos) (tListKeys te) := by
  refine ⟨fun pins s σ H Q I hq => ?_⟩
  refine wpAny_Call_Name_kw (ld_blt I hg hm hv ?_)
  refine PyProof.Rows.callWith_type1 ?_ hs rfl
  rw [hs]
  show wpAny _ _ (spliced ((false, eval (.Call (.Attribute e "keys" apos) [] [] cpos) X.env) :: backTo pos (starEach [] X.env))) _ _ s
  refine Calls.spliced_cons ?_
  refine wpAny_Call_method (T := "dict") (id := "dict.keys") hbase rfl hline F.plainAttrs_dict F.slot_dict_keys F.type_dict_keys (thn (he.run pins s σ H _ I hq) fun u s1 ⟨x, H1, I1, rx, d, kvs, ex, hd, q⟩ => ?_)
  subst ex
  obtain rfl : u = Value.ref d := rx
  obtain ⟨hz, lo, vs, kv, hdo⟩ := I1.hok d _ hd
  obtain ⟨ep, hat⟩ := hdo.dictAt
  have lk : kvs.length = vs.length := Paired.length kv
  have I2 : Inv X pins σ H1 { s1 with heap := s1.heap.push { cls := .type "dict_keys", data := .fields #[.ref d] } } := I1.kept (t' := s1.toks) fun b ob q => Heap.get?_push_of_some _ q
  refine ⟨hdo.typeIs, hdo.mapOf.noDict, ?_⟩
  show wpAny _ _ (callWith cpos (.builtin "dict.keys") [.ref d] [] []) _ X.xe s1
  refine method_meetsIn F.slot_dict_keys F.entry_dict_keys rfl (PySem.evalArgs_none ⟨rfl, hdo.typeIs, F.args_dict_keys_1 _, _, kdl_meets_keys (mixKind X.prog X.w) d lo, ⟨vs, hdo⟩, ?_⟩)
  refine Calls.spliced_nil ?_
  refine PySem.W.kdl_call (PySem.W.kdl_keys (knd := mixKind X.prog X.w) (kvs := vs) (ep := ep)) (I1.ok.hd hc) ⟨⟨_, Heap.get?_push_size _ rfl, rfl, rfl⟩, hat.push _⟩ (by rw [← lk]; exact hz) fun h' tk acc' c' hk hS hacc => ?_
  refine ⟨.ref _, upd H1 _ (.lst (kvs.map fun kv => kV kv.1)), I2.laid hk (Nat.le_refl _) (show ObjOk X.prog X.w _ _ _ (.lst (kvs.map fun kv => kV kv.1)) from ⟨?_, acc'.toList, c', ?_, ?_⟩), rfl, q _ (I2.hok.fresh (Nat.le_refl _))⟩
  · rw [List.length_map]; exact hz
  · have el : acc'.toList.length = acc'.size := by simp
    refine vals_of_at (by rw [List.length_map, el, hacc.1, lk]) fun j x w h1 h2 => ?_
    obtain ⟨k, y, hky, hi⟩ := hacc.2 j w (by rw [← Array.getElem?_toList]; exact h2)
    have e1 : (kvs.map (·.1))[j]? = some k := by
      rw [KV.keys kv, List.getElem?_map, hky] <;> rfl
    have e2 : (kvs.map fun kv => kV kv.1)[j]? = some (kV k) := by
      have e3 : (kvs.map fun kv => kV kv.1) = (kvs.map (·.1)).map kV := by rw [List.map_map] <;> rfl
      rw [e3, List.getElem?_map, e1] <;> rfl
    rw [e2] at h1
    cases h1
    exact keyIs_rel hi
  · rw [Array.toArray_toList]; exact hS
end
end K1

namespace K1
open PySem PySem.Spec
open PyProof.Rows L2 EnT StX SmX TxS DuX
/-! ### facts -/
def ffl (a b : Addr) : List (Str × V) := putF "_right" (.ref b) (putF "_left" (.ref a) [])
theorem ff_left (a b : Addr) : (ffl a b).lookup ("_left" : Str) = some (.ref a) := by
  unfold ffl
  rw [lookup_putF, if_neg (by decide +kernel), lookup_putF, if_pos rfl]
theorem ff_right (a b : Addr) : (ffl a b).lookup ("_right" : Str) = some (.ref b) := by
  unfold ffl
  rw [lookup_putF, if_pos rfl]
structure FacC (K : PySem.W.Frag) (mg : Str → Option Value) (D : Addr) : Prop where
  g : mg "Fact" = some (.ref D)
  cl : Cls K D
  nL : NoAttr K D "_left"
  nR : NoAttr K D "_right"
/-- the fact of the two expressions at a and b -/
structure FacAt (C D : Addr) (H : Hp) (p a b : Addr) (t u : Fm) : Prop where
  at_ : ∃ dx, H p = some (.ins D dx (ffl a b))
  l : ExpAt C H a t
  r : ExpAt C H b u
theorem FacAt.same {C D p a b : Addr} {H H' : Hp} {t u : Fm} (s : Same H H') (m : FacAt C D H p a b t u) : FacAt C D H' p a b t u := by
  obtain ⟨⟨dx, h⟩, l, r⟩ := m
  exact ⟨⟨dx, s _ _ h⟩, l.same s, r.same s⟩
theorem fac_ty {K : PySem.W.Frag} {mg : Str → Option Value} {C D p a b : Addr} {H : Hp} {t u : Fm} (M : FacC K mg D) (I : IsC K D) (m : FacAt C D H p a b t u) : TyX K H (.ref p) (.ref D) := by
  obtain ⟨dy, k1⟩ := m.at_
  exact .base (.ins k1 M.cl I.ha I.hn I.htk I.hm)
def MakesF (C D a b : Addr) (t u : Fm) (H : Hp) (Q : VK) : Prop := ∀ (p : Addr) (H' : Hp), H p = none → Same H H' → FacAt C D H' p a b t u → Q (.ref p) H'
def spInitF (C D : Addr) : Sp := fun vs H Q _ => ∃ (p a b dx : Addr) (t u : Fm), vs = [.ref p, .ref a, .ref b] ∧ H p = some (.ins D dx []) ∧ p ≠ a ∧ p ≠ b ∧ ExpAt C H a t ∧ ExpAt C H b u ∧ ∀ H', (∀ x o, x ≠ p → H x = some o → H' x = some o) → FacAt C D H' p a b t u → Q .non H'
theorem makeF_go {C D a b : Addr} {H : Hp} {t u : Fm} {Q : VK} {E : XK} (m1 : ExpAt C H a t) (m2 : ExpAt C H b u) (q : MakesF C D a b t u H Q) : ∀ x dx, H x = none → H dx = none → dx ≠ x → spInitF C D [.ref x, .ref a, .ref b] (upd (upd H dx (.own x)) x (.ins D dx [])) (fun v H2 => v = .non ∧ Q (.ref x) H2) E := by
  intro x dx nx nd ne
  have s1 : Same H (upd H dx (.own x)) := same_upd nd
  have nx1 : (upd H dx (.own x)) x = none := by rw [upd_ne (Ne.symm ne)]; exact nx
  have s2 : Same (upd H dx (.own x)) (upd (upd H dx (.own x)) x (.ins D dx [])) := same_upd nx1
  have no : ∀ {b : Addr} {o : HO}, H b = some o → x ≠ b := fun h z => by
    rw [← z, nx] at h
    cases h
  obtain ⟨_, _, _, _, h1, _⟩ := m1.at_
  obtain ⟨_, _, _, _, h2, _⟩ := m2.at_
  refine ⟨x, a, b, dx, t, u, rfl, upd_same, no h1, no h2, m1.same (s1.trans s2), m2.same (s1.trans s2), fun H' k e => ⟨rfl, q x H' nx (fun b o hb => k b o (fun z => no hb z.symm) ((s1.trans s2) b o hb)) e⟩⟩
theorem ExpAt.upd_ins {C D p a dx : Addr} {H : Hp} {t : Fm} {fs : List (Str × V)} {o : HO} (h : H p = some (.ins D dx fs)) (n : p ≠ a) (m : ExpAt C H a t) : ExpAt C (upd H p o) a t := by
  obtain ⟨⟨dx', v, fl, ys, h1, h2, h3, h4⟩, b, c, d⟩ := m
  exact ⟨⟨dx', v, fl, ys, by rw [upd_ne (Ne.symm n)]; exact h1, h2.keep (fun c xs e => by rw [upd_ne (fun z => by rw [z, h] at e; cases e)]; exact e), by rw [upd_ne (fun z => by rw [z, h] at h3; cases h3)]; exact h3, h4⟩, b, c, d⟩
def spWithin (C D : Addr) : Sp := fun vs H Q _ => ∃ (a b : Addr) (t u : Fm), vs = [.ref a, .ref b] ∧ ExpAt C H a t ∧ ExpAt C H b u ∧ MakesF C D a b t u H Q
def spFormF (C D : Addr) : Sp := fun vs H Q _ => ∃ (p a b : Addr) (t u : Fm), vs = [.ref p] ∧ FacAt C D H p a b t u ∧ ∀ (q : Addr) (v1 v2 : V) (H' : Hp), Same H H' → H' q = some (.tup [v1, v2]) → FmAt H' v1 t → FmAt H' v2 u → Q (.ref q) H'
def spEqF (C D : Addr) : Sp := fun vs H Q _ => ∃ (p q a b c d : Addr) (t u t' u' : Fm), vs = [.ref p, .ref q] ∧ FacAt C D H p a b t u ∧ FacAt C D H q c d t' u' ∧ Q (.bl (PyData.eqv t.dat t'.dat && PyData.eqv u.dat u'.dat)) H
section
variable {w : World} {P : Program} {base : Heap} {mg : Str → Option Value} {K : PySem.W.Frag} {aS C D fI : Addr}
theorem scIF : FnScope ["self", "left", "right"] ["self", "left", "right"] (defScope sInitF) := ⟨rfl, rfl, rfl, by decide +kernel, rfl, by decide +kernel, by decide +kernel⟩
theorem scWithin : FnScope ["self", "other"] ["self", "other"] (defScope sWithin) := ⟨rfl, rfl, rfl, by decide +kernel, rfl, by decide +kernel, by decide +kernel⟩
theorem scLeftP : FnScope ["self"] ["self"] (defScope sLeftP) := ⟨rfl, rfl, rfl, by decide +kernel, rfl, by decide +kernel, by decide +kernel⟩
theorem scRightP : FnScope ["self"] ["self"] (defScope sRightP) := ⟨rfl, rfl, rfl, by decide +kernel, rfl, by decide +kernel, by decide +kernel⟩
theorem scFormF : FnScope ["self"] ["self"] (defScope sFormF) := ⟨rfl, rfl, rfl, by decide +kernel, rfl, by decide +kernel, by decide +kernel⟩
theorem scEqF : FnScope ["self", "other"] ["self", "other"] (defScope sEqF) := ⟨rfl, rfl, rfl, by decide +kernel, rfl, by decide +kernel, by decide +kernel⟩
theorem ok_initF {f f1 : Addr} {fd : FuncData} (F : Fun K "__init__" "Fact.__init__" sInitF f fd) (M : FacC K mg D) (hC : Has P w K mg base CX0 1 "check_expression" f1 ["value"] (spChkE C)) : FnOk P w K mg base CX0 2 f fd ["self", "left", "right"] (spInitF C D) := by
  refine F.ok scIF (fun vs H Q E h => ?_) (fun cdv A outer s H vs Q E hr h => ?_)
  · obtain ⟨p, a, b, dx, t, u, rfl, _⟩ := h
    rfl
  · obtain ⟨p, a, b, dx, t, u, rfl, hp, n1, n2, m1, m2, q⟩ := h
    refine ⟨_, pss_cons (ps_expr (pe_has hC hr (by rfl) pass0 (pa_cons (pv 1) pa_nil)))
      (pss_cons (ps_expr (pe_has hC hr (by rfl) pass0 (pa_cons (pv 2) pa_nil)))
      (pss_cons (ps_fld (pv 0) (pv 1) rfl) (pss_one (ps_fld (pv 0) (pv 2) rfl)))), ?_⟩
    refine ⟨_, rfl, a, t, rfl, m1, _, rfl, b, u, rfl, m2, ?_⟩
    refine ⟨_, rfl, _, rfl, p, D, dx, [], rfl, hp, M.cl, M.nL, (by show 0 < 1000; decide), ?_⟩
    refine ⟨_, rfl, _, rfl, p, D, dx, _, rfl, upd_same, M.cl, M.nR, (by rw [show (putF "_left" (V.ref a) []).length = 1 from rfl]; decide), ?_⟩
    rw [upd_upd]
    exact q _ (fun x o n e => by rw [upd_ne n]; exact e) ⟨⟨dx, upd_same⟩, m1.upd_ins hp n1, m2.upd_ins hp n2⟩
theorem ok_within {f : Addr} {fd : FuncData} (F : Fun K "within" "Expression.within" sWithin f fd) (M : FacC K mg D) (MK : Mk K D fI) (FI : FnR P w K mg base CX0 2 fI (spInitF C D)) : FnOk P w K mg base CX0 4 f fd ["self", "other"] (spWithin C D) := by
  refine F.ok scWithin (fun vs H Q E h => ?_) (fun cdv A outer s H vs Q E hr h => ?_)
  · obtain ⟨a, b, t, u, rfl, _⟩ := h
    rfl
  · obtain ⟨a, b, t, u, rfl, m1, m2, q⟩ := h
    exact ⟨_, pss_one (ps_ret (pe_makeR MK FI hr (by rfl) M.g pass0 (pa_cons (pv 0) (pa_cons (pv 1) pa_nil)))), _, rfl, _, rfl, makeF_go m1 m2 q⟩
theorem ok_leftP {f : Addr} {fd : FuncData} (F : Fun K "left" "Fact.left" sLeftP f fd) (M : FacC K mg D) : FnOk P w K mg base CX0 1 f fd ["self"] (getSp D "_left") := by
  refine F.ok scLeftP (fun vs H Q E h => ?_) (fun cdv A outer s H vs Q E hr h => ?_)
  · obtain ⟨a, dx, fs, v, rfl, _⟩ := h
    rfl
  · obtain ⟨a, dx, fs, v, rfl, ha, l, q⟩ := h
    exact ⟨_, pss_one (ps_ret (pe_fld (pv 0) rfl)), _, rfl, a, D, dx, fs, v, rfl, ha, M.cl, M.nL, l, q⟩
theorem ok_rightP {f : Addr} {fd : FuncData} (F : Fun K "right" "Fact.right" sRightP f fd) (M : FacC K mg D) : FnOk P w K mg base CX0 1 f fd ["self"] (getSp D "_right") := by
  refine F.ok scRightP (fun vs H Q E h => ?_) (fun cdv A outer s H vs Q E hr h => ?_)
  · obtain ⟨a, dx, fs, v, rfl, _⟩ := h
    rfl
  · obtain ⟨a, dx, fs, v, rfl, ha, l, q⟩ := h
    exact ⟨_, pss_one (ps_ret (pe_fld (pv 0) rfl)), _, rfl, a, D, dx, fs, v, rfl, ha, M.cl, M.nR, l, q⟩
theorem ok_formF {f : Addr} {fd : FuncData} (F : Fun K "form" "Fact.form" sFormF f fd) (M : FacC K mg D) (pF : Pp P w K mg base C "form" "_form") : FnOk P w K mg base CX0 3 f fd ["self"] (spFormF C D) := by
  refine F.ok scFormF (fun vs H Q E h => ?_) (fun cdv A outer s H vs Q E hr h => ?_)
  · obtain ⟨p, a, b, t, u, rfl, _⟩ := h
    rfl
  · obtain ⟨p, a, b, t, u, rfl, m, q⟩ := h
    obtain ⟨dx, h⟩ := m.at_
    obtain ⟨dx1, v1, fl1, ys1, h1, h2, _⟩ := m.l.at_
    obtain ⟨dx2, v2, fl2, ys2, k1, k2, _⟩ := m.r.at_
    refine ⟨_, pss_one (ps_ret (pe_tup (pa_cons (pe_pp pF (pe_fld (pv 0) rfl) hr rfl) (pa_cons (pe_pp pF (pe_fld (pv 0) rfl) hr rfl) pa_nil)))), ?_⟩
    refine ⟨_, rfl, p, D, dx, _, _, rfl, h, M.cl, M.nL, ff_left a b, a, dx1, _, rfl, h1, a, dx1, _, _, rfl, h1, ef_form v1 t fl1, ?_⟩
    refine ⟨_, rfl, p, D, dx, _, _, rfl, h, M.cl, M.nR, ff_right a b, b, dx2, _, rfl, k1, b, dx2, _, _, rfl, k1, ef_form v2 u fl2, (by show 2 ≤ sizeLine; decide), fun r nr => ?_⟩
    have s1 : Same H (upd H r (.tup [v1, v2])) := same_upd nr
    exact q r v1 v2 _ s1 upd_same (h2.same s1) (k2.same s1)
theorem ok_eqF {f gE : Addr} {fd : FuncData} (F : Fun K "__eq__" "Fact.__eq__" sEqF f fd) (T : Free mg) (ME : ExpC K mg C) (IE : IsC K C) (M : FacC K mg D) (I : IsC K D) (nf : PySem.W.notFirst K C (.ref C) = true) (mE : OwnM K C "__eq__" gE) (FE : FnR P w K mg base CX0 3 gE (spEqE K C))
    (pL : Pp P w K mg base D "left" "_left") (pR : Pp P w K mg base D "right" "_right") : FnOk P w K mg base CX0 4 f fd ["self", "other"] (spEqF C D) := by
  refine F.ok scEqF (fun vs H Q E h => ?_) (fun cdv A outer s H vs Q E hr h => ?_)
  · obtain ⟨p, q, a, b, c, d, t, u, t', u', rfl, _⟩ := h
    rfl
  · obtain ⟨p, q, a, b, c, d, t, u, t', u', rfl, m, m', qq⟩ := h
    obtain ⟨dx, h⟩ := m.at_
    obtain ⟨dy, k⟩ := m'.at_
    obtain ⟨dx1, v1, fl1, ys1, h1, _⟩ := m.l.at_
    obtain ⟨dx2, v2, fl2, ys2, h2, _⟩ := m.r.at_
    refine ⟨_, pss_one (ps_ret (pe_and (pe_callB call_isi (by rfl) T.isinstance (by decide +kernel) (pa_cons (pv 1) (pa_cons (pe_glob (v := .ref D) (by rfl) M.g rfl) pa_nil)))
      (pe_and (pe_cmpR (op_eqX mE FE hr) (pe_fld (pv 0) rfl) (pe_pp pL (pv 1) (hr.mono (by decide)) rfl) (nomark _)) (pe_one (pe_cmpR (op_eqX mE FE hr) (pe_fld (pv 0) rfl) (pe_pp pR (pv 1) (hr.mono (by decide)) rfl) (nomark _)))))), ?_⟩
    refine ⟨_, rfl, _, _, _, _, true, rfl, .own D, fac_ty M I m', I.yes, true, rfl, iteT ?_⟩
    refine ⟨_, rfl, p, D, dx, _, _, rfl, h, M.cl, M.nL, ff_left a b, _, rfl, q, dy, _, rfl, k, q, dy, _, _, rfl, k, ff_left c d, a, dx1, _, _, rfl, h1, exp_ty ME IE m'.l, nf, a, t, _, rfl, m.l, .inl ⟨c, t', rfl, m'.l, _, rfl, ?_⟩⟩
    refine ⟨_, rfl, ?_⟩
    cases e1 : PyData.eqv t.dat t'.dat with
    | false =>
      rw [e1] at qq
      exact iteF qq
    | true =>
      rw [e1] at qq
      refine iteT ⟨_, rfl, p, D, dx, _, _, rfl, h, M.cl, M.nR, ff_right a b, _, rfl, q, dy, _, rfl, k, q, dy, _, _, rfl, k, ff_right c d, b, dx2, _, _, rfl, h2, exp_ty ME IE m'.r, nf, b, u, _, rfl, m.r, .inl ⟨d, u', rfl, m'.r, _, rfl, qq⟩⟩
end
end K1

namespace K1
open PySem PySem.Spec
open PyProof.Rows L2 L2H EnT StX SmX TxS DuX XdI Tr3 CnB ClX
section
variable {w : World} {P : Program} {base : Heap} {mg : Str → Option Value} {K : PySem.W.Frag}
theorem scWords : FnScope ["_law_shape"] ["_law_shape"] (defScope sWords) := ⟨rfl, rfl, rfl, by decide +kernel, rfl, by decide +kernel, by decide +kernel⟩
theorem ok_words {f : Addr} {fd : FuncData} (F : Fun K "_law_words" "_law_words" sWords f fd) (T : Free mg) (mgF : mg "_law_words" = some (.ref f)) : ∀ n : Nat, FnOk P w K mg base CX0 (n + 1) f fd ["_law_shape"] (spLeaves (n + 1)) := by
  have bF : L2.Binds K fd ["_law_shape"] [] := F.binds (ps := ["_law_shape"]) fun _ _ _ _ _ _ us hl => match us, hl with | [_], _ => rfl
  have no : ∀ {vs : List V} {H : Hp} {Q : VK} {E : XK}, ¬ spLeaves 0 vs H Q E := fun h => by
    obtain ⟨v, t, _, _, d, _⟩ := h
    have := Fm.dep_pos t
    omega
  have all : ∀ n : Nat, FnOk P w K mg base CX0 n f fd ["_law_shape"] (spLeaves n) := by
    intro n
    induction n with
    | zero => exact ⟨fun vs H Q E h => absurd h no, fun A outer s H args us vs Q E hr e0 hb r h => absurd h no⟩
    | succ n ih =>
      have hF : Has P w K mg base CX0 n "_law_words" f ["_law_shape"] (spLeaves n) := ⟨mgF, F.kp, fd, ih, bF⟩
      refine F.ok scWords (fun vs H Q E h => ?_) (fun cdv A outer s H vs Q E hr h => ?_)
      · obtain ⟨v, t, rfl, _⟩ := h
        rfl
      · obtain ⟨v, t, rfl, m, d, l, q⟩ := h
        refine ⟨_, pss_one (ps_ret (pe_ifExp (pt_val (pe_callB call_isi (by rfl) T.isinstance (by decide +kernel) (pa_cons (pv 0) (pa_cons (pe_bltn (v := .ty "str") (u := .type "str") (by rfl) T.str (by decide +kernel) rfl) pa_nil)))) (pe_lst (pa_cons (pv 0) pa_nil))
          (pe_op op_cat (pe_has hF hr (by rfl) pass0 (pa_cons (pe_ix ix_tup (pv 0) pe_int (fun _ _ => rfl)) pa_nil)) (pe_has hF hr (by rfl) pass0 (pa_cons (pe_ix ix_tup (pv 0) pe_int (fun _ _ => rfl)) pa_nil))))), ?_⟩
        cases m with
        | leaf z => exact ⟨_, rfl, _, _, _, _, true, rfl, .ty _, .base (.str z), kit_ty (by decide +kernel), true, rfl, iteT ⟨_, rfl, (by show 1 ≤ sizeLine; decide), fun p np => q p _ np (same_upd np) upd_same⟩⟩
        | node h hl hr' =>
          rename_i a s' vl vr l' r'
          rw [Fm.dep_node] at d
          rw [Fm.nl_node] at l
          refine ⟨_, rfl, _, _, _, _, false, rfl, .ty _, .base (.tup h), kit_ty (by decide +kernel), false, rfl, iteF ?_⟩
          refine ⟨_, rfl, a, _, _, vl, rfl, rfl, SqT.of h, atI_nat (j := 1) rfl, vl, l', rfl, hl, by omega, by omega, fun q1 H1 n1 s1 h1 => ?_⟩
          refine ⟨_, rfl, a, _, _, vr, rfl, rfl, SqT.of (s1 _ _ h), atI_nat (j := 2) rfl, vr, r', rfl, hr'.same s1, by omega, by omega, fun q2 H2 n2 s2 h2 => ?_⟩
          have e1 : (l'.lvs.map V.str).length = l'.nl := List.length_map ..
          have e2 : (r'.lvs.map V.str).length = r'.nl := List.length_map ..
          refine ⟨q1, q2, _, _, rfl, rfl, s2 _ _ h1, h2, by rw [e1, e2, sizeLine_eq]; omega, fun p np => ?_⟩
          have s12 := s1.trans s2
          refine q p _ ?_ (s12.trans (same_upd np)) (by rw [upd_same, ← List.map_append]; rfl)
          cases hh : H p with
          | none => rfl
          | some o =>
            rw [s12 _ _ hh] at np
            cases np
  exact fun n => all (n + 1)
end
end K1

namespace K1
open PySem PySem.Spec
open PyProof.Rows L2 EnT StX SmX TxS DuX
/-! ### the law: one expression -/
section
variable {w : World} {P : Program} {base : Heap} {mg : Str → Option Value} {K : PySem.W.Frag}
theorem fnG_of {k : Nat} {x : Str} {st : Stmt} {f c : Addr} {N ps : List Str} {sp : Sp} (F : FunC K x x st f c) (S : FnScope N ps (defScope st)) (B : ∀ (kV doc pm : Value) (an : Option Addr) (ct : Value), L2.Binds K (PySem.W.fnOf x x (defArgs st) (defBody st) (defScope st) .none kV doc pm an (.ref c) ct) ps [])
    (len : ∀ vs H Q E, sp vs H Q E → vs.length = ps.length)
    (body : ∀ (A : Around) (outer : List Env) (s : Shared) (H : Hp) (vs : List V) (Q : VK) (E : XK), A.guards = some [] → Room k (A.deeper (envOfC x (defScope st) s.heap.objs.size f (.ref c))) → sp vs H Q E →
      ∃ t, PSs (cxOf CX0 P w K mg base N x (defScope st) f (.ref c) A outer s H E).nox (defBody st) t ∧ t { nx := fun _ H' => Q .non H', rt := Q } (L2.start N vs) H) : FnG P w K mg base CX0 (k + 1) f sp := by
  intro A outer s H us vs Q E hgd hr e0 r h
  obtain ⟨oc, od, kV, doc, pm, an, ct, osl, lk, hcd⟩ := F.ex
  have hl := len _ _ _ _ h
  refine LamX.run_ofS (N := N) (ps := ps) (us := us) (vs := vs) lk hcd S hr e0 ?_ r hl fun hr' => ?_
  · have hlu : us.length = ps.length := by rw [← r.length]; exact hl
    have z := B kV doc pm an ct s us (e0.mod.kin.keeps fun b o e => (e0.bs b o e).1) (by rw [List.append_nil]; exact hlu)
    rw [List.append_nil] at z
    exact z
  · obtain ⟨t, ht, hq⟩ := body A outer s H vs Q E hgd hr' h
    exact ⟨t, ht.nox, hq⟩
end
theorem plain_low {z : Str} (h : ∀ c ∈ z.cps.toList, c < 128) : RpD.plainD (.str z) = true := by
  show (z.cps.toList.all fun c => decide (c < 16 ^ 8)) = true
  refine List.all_eq_true.mpr fun c hc => decide_eq_true ?_
  have := h c hc
  omega
theorem sign_low {z : Str} (h : z ∈ signs) : ∀ c ∈ z.cps.toList, c < 128 := by
  simp only [signs, List.mem_cons, List.not_mem_nil, or_false] at h
  rcases h with rfl | rfl | rfl | rfl <;> decide +kernel
theorem Fm.plain : ∀ {t : Fm}, t.Ok → RpD.plainD t.dat = true ∧ RpD.wide t.dat + 30 ≤ 130 * t.nl
  | .leaf z, h => by
    have hl := name_short (show nameB z = true from h)
    refine ⟨plain_low (name_low h), ?_⟩
    show 10 * z.length + 2 + 30 ≤ 130 * 1
    omega
  | .node s l r, h => by
    obtain ⟨p1, w1⟩ := Fm.plain h.2.1
    obtain ⟨p2, w2⟩ := Fm.plain h.2.2
    have sl := (sign_ok h.1).1
    refine ⟨?_, ?_⟩
    · show (RpD.plainD (.str s) && (RpD.plainD l.dat && (RpD.plainD r.dat && true))) = true
      rw [plain_low (sign_low h.1), p1, p2]
      rfl
    · rw [Fm.nl_node]
      show (10 * s.length + 2) + 2 + (RpD.wide l.dat + 2 + (RpD.wide r.dat + 2 + 0)) + 3 + 30 ≤ _
      omega
theorem plain_strs : ∀ {zs : List Str}, (∀ z ∈ zs, nameB z = true) → RpD.plainAll (strD zs) = true ∧ RpD.wideAll (strD zs) ≤ 90 * zs.length
  | [], _ => ⟨rfl, Nat.le_refl _⟩
  | z :: r, h => by
    obtain ⟨a, b⟩ := plain_strs (zs := r) fun y hy => h y (List.mem_cons_of_mem _ hy)
    have hz := h z List.mem_cons_self
    have hl := name_short hz
    refine ⟨?_, ?_⟩
    · show (RpD.plainD (.str z) && RpD.plainAll (strD r)) = true
      rw [plain_low (name_low hz), a]
      rfl
    · show 10 * z.length + 2 + 2 + RpD.wideAll (strD r) ≤ 90 * (r.length + 1)
      omega
end K1

namespace K1
open PySem PySem.Spec
open PyProof.Rows L2 EnT StX SmX TxS DuX ClX
/-! ### of and meets called: by place, by keyword, with what is not told -/
section
variable {K : PySem.W.Frag}
theorem kb_kept1 {f : Addr} {fd : FuncData} (F : FunD K "is_kept" "Fact.is_kept" (defArgs sKept) (defBody sKept) (defScope sKept) [] [("given", .non)] f fd) :
    ∃ mv : List Value, KBn K fd ["self", "sets", "given"] 2 [] (fun us ws => us ++ mv) (fun vs zs => vs ++ [.non]) :=
  F.kbinds0 2 [] [("given", .non)] (fun us mv ws => us ++ mv) (by decide) (fun q h => h) (fun r1 r2 r3 => r1.append r2) fun D doc pm an cdv ct us mv ws l1 l2 l3 => by
    match us, mv, ws, l1, l2, l3 with
    | [u1, u2], [m1], [], _, _, _ => exact ⟨_, _, _, _, _, _, rfl, rfl, rfl⟩
theorem kb_kept2 {f : Addr} {fd : FuncData} (F : FunD K "is_kept" "Fact.is_kept" (defArgs sKept) (defBody sKept) (defScope sKept) [] [("given", .non)] f fd) :
    ∃ mv : List Value, KBn K fd ["self", "sets", "given"] 2 ["given"] (fun us ws => us ++ ws) (fun vs zs => vs ++ zs) :=
  F.kbinds0 2 ["given"] [] (fun us mv ws => us ++ ws) (by decide) (fun q h => by cases h) (fun r1 r2 r3 => r1.append r3) fun D doc pm an cdv ct us mv ws l1 l2 l3 => by
    match us, mv, ws, l1, l2, l3 with
    | [u1, u2], [], [w1], _, _, _ => rfl
theorem kb_kept3 {f : Addr} {fd : FuncData} (F : FunD K "is_kept" "Fact.is_kept" (defArgs sKept) (defBody sKept) (defScope sKept) [] [("given", .non)] f fd) :
    ∃ mv : List Value, KBn K fd ["self", "sets", "given"] 1 ["sets"] (fun us ws => us ++ ws ++ mv) (fun vs zs => vs ++ zs ++ [.non]) :=
  F.kbinds0 1 ["sets"] [("given", .non)] (fun us mv ws => us ++ ws ++ mv) (by decide) (fun q h => h) (fun r1 r2 r3 => (r1.append r3).append r2) fun D doc pm an cdv ct us mv ws l1 l2 l3 => by
    match us, mv, ws, l1, l2, l3 with
    | [u1], [m1], [w1], _, _, _ => exact ⟨_, _, _, _, _, _, rfl, rfl, rfl⟩
end
end K1

namespace K1
open PySem PySem.Spec
open PyProof.Rows L2 EnT StX SmX TxS DuX ClX
/-! ### the line of a fact, and where it parts -/
abbrev tLe : Str := " <= "
def facText (t u : Fm) : Str := t.txt false ++ tLe ++ u.txt false
theorem nolt_name {z : Str} (h : nameB z = true) : 60 ∉ TL.tl z := by
  unfold nameB at h
  split at h
  · cases h
  split at h
  · cases h
  split at h
  · cases h
  · rename_i h3
    have e : Txt.isalnum z = true := by
      cases q : Txt.isalnum z with
      | true => rfl
      | false => exact absurd q h3
    have e : (decide (z.length > 0) && z.cps.all Unicode.isAlnum) = true := e
    rw [Bool.and_eq_true, ← Array.all_toList] at e
    intro m
    have a := (List.all_eq_true.mp e.2) 60 m
    have b : Unicode.isAlnum 60 = false := by decide +kernel
    rw [b] at a
    cases a
theorem nolt_sign {s : Str} (h : s ∈ signs) : 60 ∉ TL.tl s := by
  simp only [signs, List.mem_cons, List.not_mem_nil, or_false] at h
  rcases h with rfl | rfl | rfl | rfl <;> decide +kernel
theorem nolt_app {x y : Str} (hx : 60 ∉ TL.tl x) (hy : 60 ∉ TL.tl y) : 60 ∉ TL.tl (x ++ y) := fun h => by
  rw [TL.tl_append] at h
  rcases List.mem_append.mp h with q | q
  · exact hx q
  · exact hy q
theorem nolt_txt : ∀ (b : Bool) {t : Fm}, t.Ok → 60 ∉ TL.tl (t.txt b)
  | b, .leaf z, h => by
    have e : (Fm.leaf z).txt b = z := by cases b <;> rfl
    rw [e]
    exact nolt_name h
  | b, .node s l r, h => by
    have a := nolt_txt true h.2.1
    have d := nolt_txt true h.2.2
    have g := nolt_sign h.1
    have sp : 60 ∉ TL.tl (" " : Str) := by decide +kernel
    have op : 60 ∉ TL.tl ("(" : Str) := by decide +kernel
    have cl : 60 ∉ TL.tl (")" : Str) := by decide +kernel
    have m := nolt_app (nolt_app (nolt_app (nolt_app a sp) g) sp) d
    cases b
    · exact m
    · exact nolt_app (nolt_app op m) cl
theorem par_le {p q : List Nat} (h : 60 ∉ p) : TL.par [32, 60, 61, 32] [] (p ++ ([32, 60, 61, 32] ++ q)) = some (p, q) := by
  refine TL.par_part (by simp) fun i hi => ?_
  cases e : TL.pre [32, 60, 61, 32] ((p ++ ([32, 60, 61, 32] ++ q)).drop i) with
  | false => rfl
  | true =>
    exfalso
    have e2 : ((p ++ ([32, 60, 61, 32] ++ q)).drop i).take 4 = [32, 60, 61, 32] := beq_iff_eq.mp e
    have e3 : (((p ++ ([32, 60, 61, 32] ++ q)).drop i).take 4)[1]? = some 60 := by rw [e2]; rfl
    rw [List.getElem?_take, if_pos (by decide), List.getElem?_drop] at e3
    by_cases hk : i + 1 < p.length
    · rw [List.getElem?_append_left hk] at e3
      exact h (List.mem_of_getElem? e3)
    · have ei : i + 1 = p.length := by omega
      rw [ei, List.getElem?_append_right (Nat.le_refl _), Nat.sub_self] at e3
      cases e3
theorem part_le {a b : Str} (h : 60 ∉ TL.tl a) : Txt.partition (a ++ tLe ++ b) tLe = (a, tLe, b) := by
  have et : TL.tl tLe = [32, 60, 61, 32] := by decide +kernel
  rw [TL.partition_par _ tLe (by rw [et]; simp), TL.tl_append, TL.tl_append, List.append_assoc, et, par_le h]
end K1

namespace K1
open PySem PySem.Spec
open PyProof.Rows L2 EnT StX SmX TxS DuX ClX
/-! ### fields_of_two -/
/-- the names of fields in two forms -/
structure Fs2 (t u : Fm) (ys : List Str) : Prop where
  srt : sortedS ys = true
  nd : ys.Nodup
  mem : ∀ z, z ∈ ys ↔ (z ∈ t.lvs ∨ z ∈ u.lvs) ∧ fieldB z = true
theorem Fs2.uniq {t u : Fm} {ys zs : List Str} (a : Fs2 t u ys) (b : Fs2 t u zs) : ys = zs := sorted_uniq a.srt b.srt a.nd b.nd fun x => (a.mem x).trans (b.mem x).symm
def spF2 (C : Addr) : Sp := fun vs H Q _ => ∃ (a b : Addr) (t u : Fm), vs = [.ref a, .ref b] ∧ ExpAt C H a t ∧ ExpAt C H b u ∧ ∀ (q : Addr) (ys : List Str) (H' : Hp), Same H H' → H' q = some (.tup (ys.map V.str)) → Fs2 t u ys → Q (.ref q) H'
section
variable {w : World} {P : Program} {base : Heap} {mg : Str → Option Value} {K : PySem.W.Frag} {C CN CT : Addr}
theorem scF2 : FnScope ["one", "other"] ["one", "other"] (defScope s_fields_of_two) := ⟨rfl, rfl, rfl, by decide +kernel, rfl, by decide +kernel, by decide +kernel⟩
theorem ok_f2 {f : Addr} {fd : FuncData} (F : Fun K "fields_of_two" "fields_of_two" s_fields_of_two f fd) (T : Free mg) (pS : Pp P w K mg base C "fields" "_fields") : FnOk P w K mg base CX0 3 f fd ["one", "other"] (spF2 C) := by
  refine F.ok scF2 (fun vs H Q E h => ?_) (fun cdv A outer s H vs Q E hr h => ?_)
  · obtain ⟨a, b, t, u, rfl, _⟩ := h
    rfl
  · obtain ⟨a, b, t, u, rfl, m1, m2, q⟩ := h
    obtain ⟨dx1, v1, fl1, ys1, h1, h2, h3, h4, h5, h6⟩ := m1.at_
    obtain ⟨dx2, v2, fl2, ys2, k1, k2, k3, k4, k5, k6⟩ := m2.at_
    have la : ys1.length ≤ 100 := Nat.le_trans (len_sub h5 fun z hz => ((h6 z).mp hz).1) m1.n
    have lb : ys2.length ≤ 100 := Nat.le_trans (len_sub k5 fun z hz => ((k6 z).mp hz).1) m2.n
    refine ⟨_, pss_one (ps_ret (pe_callTy call_tuple_of (by rfl) T.tuple (by decide +kernel) (pa_cons (pe_sortSet rfl (by rfl) T.sorted (by rfl) T.set (pe_op op_catA (pe_pp pS (pv 0) (hr.mono (by decide)) rfl) (pe_pp pS (pv 1) (hr.mono (by decide)) rfl))) pa_nil))), ?_⟩
    refine ⟨_, rfl, a, dx1, _, rfl, h1, a, dx1, _, _, rfl, h1, ef_fields v1 t fl1, ?_⟩
    refine ⟨_, rfl, b, dx2, _, rfl, k1, b, dx2, _, _, rfl, k1, ef_fields v2 u fl2, ?_⟩
    have mm : ∀ z, z ∈ ys1 ++ ys2 ↔ (z ∈ t.lvs ∨ z ∈ u.lvs) ∧ fieldB z = true := fun z => by
      rw [List.mem_append, h6 z, k6 z]
      exact ⟨fun h => h.elim (fun h => ⟨.inl h.1, h.2⟩) fun h => ⟨.inr h.1, h.2⟩, fun h => h.1.elim (fun g => .inl ⟨g, h.2⟩) fun g => .inr ⟨g, h.2⟩⟩
    have fin : ∀ (zs : List Str) (r : Addr) (H1 : Hp), Same H H1 → SqT K H1 r (zs.map V.str) → zs.length ≤ 200 → (∀ z, z ∈ zs ↔ (z ∈ t.lvs ∨ z ∈ u.lvs) ∧ fieldB z = true) → ∃ (l : Addr) (zs' : List Str), V.ref r = .ref l ∧ (SqL K H1 l (zs'.map V.str) ∨ SqT K H1 l (zs'.map V.str)) ∧ zs'.length ≤ 1000 ∧
        ∀ (ys : List Str) (p : Addr), sortedS ys = true → ys.Nodup → (∀ z, z ∈ ys ↔ z ∈ zs') → ys.length ≤ zs'.length → H1 p = none → rTupOf K [V.ref p] (upd H1 p (.lst (ys.map V.str))) Q := fun zs r H1 s1 hr1 l1 m1 => by
      refine ⟨r, zs, rfl, .inr hr1, by omega, fun ys p srt nd mem lys np => ?_⟩
      refine ⟨p, _, rfl, .inl ⟨SqL.of upd_same, fun tp ntp => ?_⟩⟩
      exact q tp ys _ ((s1.trans (same_upd np)).trans (same_upd ntp)) upd_same ⟨srt, nd, fun z => (mem z).trans (m1 z)⟩
    refine ⟨fl1, fl2, _, _, rfl, rfl, SqT.of h3, SqT.of k3, (by rw [List.length_map, List.length_map, sizeLine_eq]; omega), fun e => ?_, fun _ e => ?_, fun _ _ p np => ?_⟩
    · have e : ys1 = [] := List.map_eq_nil_iff.mp e
      subst e
      exact fin ys2 fl2 H (Same.refl H) (SqT.of k3) (by omega) mm
    · have e : ys2 = [] := List.map_eq_nil_iff.mp e
      subst e
      exact fin ys1 fl1 H (Same.refl H) (SqT.of h3) (by omega) (fun z => by rw [← mm z, List.append_nil])
    · exact fin (ys1 ++ ys2) p _ (same_upd np) (SqT.of (by rw [upd_same, List.map_append])) (by rw [List.length_append]; omega) mm
end
end K1

namespace K1
open PySem PySem.Spec
open PyProof.Rows L2 L2H EnT StX SmX TxS DuX ClX XdI Tr3 CnB
section
variable {w : World} {P : Program} {base : Heap} {mg : Str → Option Value} {K : PySem.W.Frag} {C CN CM : Addr} {mc : Value}
abbrev uLe : Str := (cmpInfo .LtE).2.1
def inB (zs ws : List Str) : Bool := zs.all fun z => decide (z ∈ ws)
def spCmpM (C : Addr) (r : List Str → List Str → Bool) : Sp := fun vs H Q _ => ∃ a b zs ws, vs = [.ref a, .ref b] ∧ MemAt C H a zs ∧ MemAt C H b ws ∧ ∀ H', Same H H' → Q (.bl (r zs ws)) H'
theorem scLeM : FnScope nmSON nmSO (defScope sLeM) := ⟨rfl, rfl, rfl, by decide +kernel, rfl, by decide +kernel, by decide +kernel⟩
theorem ok_leM {f : Addr} {fd : FuncData} (F : Fun K "__le__" "Members.__le__" sLeM f fd) (B : Mb P w K mg base C CN CM mc) : FnOk P w K mg base (L2.CX P w) 5 f fd nmSO (spCmpM C inB) := by
  obtain ⟨fC, hC⟩ := B.chkY
  obtain ⟨gH, mH, FH⟩ := B.hasM
  have M := B.M
  refine F.okX scLeM (fun vs H Q E h => ?_) (fun cdv A outer s H vs Q E hr h => ?_)
  · obtain ⟨a, b, zs, ws, rfl, _⟩ := h
    rfl
  · obtain ⟨a, b, zs, ws, rfl, m1, m2, q⟩ := h
    obtain ⟨dx, t, d, h1, h2, h3⟩ := m1.at_
    obtain ⟨dy, t2, d2, k1, k2, k3⟩ := m2.at_
    refine ⟨_, pss_cons (ps_expr (pe_has hC (hr.mono (by decide)) (by rfl) (passes_call (takes_of rfl rfl rfl rfl) fun _ _ _ _ h => h) (pa_cons (pv 1) pa_nil)))
      (pss_one (ps_ret (pe_callB (cr_all rfl) (by rfl) B.T.all (by decide +kernel) (pa_cons
        (pe_lc (own := [("name", 2)]) (g := gName 2) (tt := tYes) (te := tOp (rHasO C (spHasM C)) (tVar 2) (tVar 1)) rfl scLeM.nd (pi_tup (pe_fld (pv 0) rfl)) (blkOk_by (own := [("name", 2)]) (N := nmSON) (sc := defScope sLeM) (by decide +kernel)) (fun _ _ _ _ _ => pg_name (i := 2) scLeM.nd rfl (Or.inl rfl))
          (fun _ _ _ _ _ => pts_nil) (fun _ _ _ _ _ => pe_cmpR (op_inX mH FH (hr.mono (by decide))) (pv 2) (pv 1) (by rfl))) pa_nil)))), ?_⟩
    refine ⟨_, rfl, b, ws, rfl, m2, ?_⟩
    refine ⟨_, rfl, a, C, dx, _, _, rfl, h1, M.cl, M.nN, flds_names t d, t, rfl, ⟨_, SqT.of h2⟩, fun D nD => ?_⟩
    refine lc_tup (K := K) (a := t) (xs := zs.map V.str) (fun i H' => H' = upd H D (.lst ((zs.take i).map fun z => V.bl (decide (z ∈ ws))))) rfl (fun i H' hi e => ?_) (fun i x H' hx e => ?_) (fun H' e => ?_)
    · subst e
      exact SqT.of (same_upd nD _ _ h2)
    · subst e
      rw [List.getElem?_map] at hx
      obtain ⟨z, hz, rfl⟩ := Option.map_eq_some_iff.mp hx
      have s1 : Same H (upd H D (.lst ((zs.take i).map fun z => V.bl (decide (z ∈ ws))))) := same_upd nD
      refine ⟨rfl, ?_⟩
      refine ⟨_, rfl, _, rfl, b, dy, _, rfl, s1 _ _ k1, b, ws, _, rfl, m2.same s1, .inl ⟨z, rfl, by have := name_short (m1.nm z (List.mem_of_getElem? hz)); rw [sizeLine_eq]; omega⟩, _, rfl, _, upd_same, ?_, ?_⟩
      · have := m1.few
        rw [List.length_map, List.length_take, sizeLine_eq]
        omega
      · rw [upd_upd, map_succ hz]
        rfl
    · subst e
      rw [List.length_map, List.take_length]
      have s1 : Same H (upd H D (.lst (zs.map fun z => V.bl (decide (z ∈ ws))))) := same_upd nD
      refine ⟨D, zs.map fun z => decide (z ∈ ws), rfl, ?_, ?_⟩
      · rw [List.map_map]
        exact SqL.of upd_same
      · have e2 : (zs.map fun z => decide (z ∈ ws)).all id = inB zs ws := by
          rw [List.all_map]
          rfl
        rw [e2]
        exact q _ s1
end
end K1

namespace K1
open PySem PySem.Spec
open PyProof.Rows L2 EnT StX SmX TxS DuX ClX
/-! ### a fact's text, its fields, whether given is in it -/
/-- {o}, o an own object with __str__ -/
def tFmtO (C : Addr) (sp : Sp) (te : TE) : TE := fun σ H Q => te σ H fun x H1 => ∃ (a dx : Addr) (fs : List (Str × V)), x = .ref a ∧ H1 a = some (.ins C dx fs) ∧ sp [.ref a] H1 (fun v H' => ∃ z, v = .str z ∧ Q (.str z) H') E0
/-- what is asked of a class for {o} -/
structure FmtC (K : PySem.W.Frag) (C : Addr) : Prop where
  fm : PySem.W.findIn K (.ref C) "__format__" = some (some (.builtin "object.__format__"))
  hm : PySem.W.mroIn K C (.type "object") = some true
theorem pe_fmtO {X : Cx} {k : Nat} {g C : Addr} {sp : Sp} {e : Expr} {te : TE} {pos : Pos} (c : FmtC X.K C) (m : OwnM X.K C "__str__" g) (F : FnR X.prog X.w X.K X.mg X.base CX0 k g sp) (hr : Room (k + 1) X.A) (he : PE X e te) : PE X (.FormattedValue e (-1) none pos) (tFmtO C sp te) := by
  refine ⟨fun pins s σ H Q I h => ?_⟩
  refine wpAny_FormattedValue_plain (thn (he.run pins s σ H _ I h) fun v s1 hv => ?_)
  obtain ⟨x, H1, I1, r1, a, dx, fs, rfl, atA, cont⟩ := hv
  cases r1
  obtain ⟨ox, od, J⟩ := inst_of I1 atA
  refine PySem.W.kfo_fieldS hr.in1.units0 I1.kIn J c.fm c.hm m.at_ m.fn ?_
  refine wpAny_mono (run_below F hr.in1 rfl pass0 (I1.tok _) (vs := [V.ref a]) (.cons rfl .nil) cont) (fun u s2 hu => ?_) fun _ _ e => e
  obtain ⟨v, H2, I2, rv, z, rfl, q1⟩ := hu
  obtain ⟨t, rfl⟩ := rv
  exact ⟨.str z, H2, I2, ⟨t, rfl⟩, q1⟩
def spStrF (C D : Addr) : Sp := fun vs H Q _ => ∃ (p a b : Addr) (t u : Fm), vs = [.ref p] ∧ FacAt C D H p a b t u ∧ Q (.str (facText t u)) H
def facRepr (t u : Fm) : Str := ("Fact(" : Str) ++ t.txt false ++ tLe ++ u.txt false ++ (")" : Str)
def spReprF (C D : Addr) : Sp := fun vs H Q _ => ∃ (p a b : Addr) (t u : Fm), vs = [.ref p] ∧ FacAt C D H p a b t u ∧ Q (.str (facRepr t u)) H
def spGivenF (C D : Addr) : Sp := fun vs H Q _ => ∃ (p a b : Addr) (t u : Fm), vs = [.ref p] ∧ FacAt C D H p a b t u ∧ Q (.bl (decide (tGiven ∈ t.lvs) || decide (tGiven ∈ u.lvs))) H
def spFieldsFa (C D : Addr) : Sp := fun vs H Q _ => ∃ (p a b : Addr) (t u : Fm), vs = [.ref p] ∧ FacAt C D H p a b t u ∧ ∀ (q : Addr) (ys : List Str) (H' : Hp), Same H H' → H' q = some (.tup (ys.map V.str)) → Fs2 t u ys → Q (.ref q) H'
section
variable {w : World} {P : Program} {base : Heap} {mg : Str → Option Value} {K : PySem.W.Frag} {aS C D fI : Addr}
theorem scStrF : FnScope ["self"] ["self"] (defScope sStrF) := ⟨rfl, rfl, rfl, by decide +kernel, rfl, by decide +kernel, by decide +kernel⟩
theorem scReprF : FnScope ["self"] ["self"] (defScope sReprF) := ⟨rfl, rfl, rfl, by decide +kernel, rfl, by decide +kernel, by decide +kernel⟩
theorem scGivenF : FnScope ["self"] ["self"] (defScope sGivenF) := ⟨rfl, rfl, rfl, by decide +kernel, rfl, by decide +kernel, by decide +kernel⟩
theorem scFieldsFa : FnScope ["self"] ["self"] (defScope sFieldsFa) := ⟨rfl, rfl, rfl, by decide +kernel, rfl, by decide +kernel, by decide +kernel⟩
theorem ok_strF {f g : Addr} {fd : FuncData} (F : Fun K "__str__" "Fact.__str__" sStrF f fd) (M : FacC K mg D) (c : FmtC K C) (m : OwnM K C "__str__" g) (FS : FnR P w K mg base CX0 19 g (spStrE C)) : FnOk P w K mg base CX0 21 f fd ["self"] (spStrF C D) := by
  refine F.ok scStrF (fun vs H Q E h => ?_) (fun cdv A outer s H vs Q E hr h => ?_)
  · obtain ⟨p, a, b, t, u, rfl, _⟩ := h
    rfl
  · obtain ⟨p, a, b, t, u, rfl, mF, q⟩ := h
    obtain ⟨dx, h⟩ := mF.at_
    obtain ⟨dx1, v1, fl1, ys1, h1, _⟩ := mF.l.at_
    obtain ⟨dx2, v2, fl2, ys2, h2, _⟩ := mF.r.at_
    have l1 := txt_len false t mF.l.ok
    have l2 := txt_len false u mF.r.ok
    have n1 := mF.l.n
    have n2 := mF.r.n
    have e0 : tLe.length = 4 := by decide +kernel
    refine ⟨_, pss_one (ps_ret (pe_joined (.cons (pe_fmtO c m FS hr (pe_fld (pv 0) rfl)) (.cons pe_str (.cons (pe_fmtO c m FS hr (pe_fld (pv 0) rfl)) .nil))))), ?_⟩
    refine ⟨_, rfl, p, D, dx, _, _, rfl, h, M.cl, M.nL, ff_left a b, a, dx1, _, rfl, h1, a, t, rfl, mF.l, _, rfl, ?_⟩
    refine ⟨_, rfl, by rw [empty_app, sizeLine_eq]; omega, _, rfl, by rw [empty_app, strLen_append, sizeLine_eq]; show (t.txt false).length + tLe.length ≤ _; omega, ?_⟩
    refine ⟨_, rfl, p, D, dx, _, _, rfl, h, M.cl, M.nR, ff_right a b, b, dx2, _, rfl, h2, b, u, rfl, mF.r, _, rfl, ?_⟩
    refine ⟨_, rfl, by rw [empty_app, strLen_append, strLen_append, sizeLine_eq]; show (t.txt false).length + tLe.length + _ ≤ _; omega, ?_⟩
    show Q (.str (Str.empty ++ _ ++ _ ++ _)) H
    rw [empty_app]
    exact q
theorem ok_reprF {f g : Addr} {fd : FuncData} (F : Fun K "__repr__" "Fact.__repr__" sReprF f fd) (M : FacC K mg D) (c : FmtC K C) (m : OwnM K C "__str__" g) (FS : FnR P w K mg base CX0 19 g (spStrE C)) : FnOk P w K mg base CX0 21 f fd ["self"] (spReprF C D) := by
  refine F.ok scReprF (fun vs H Q E h => ?_) (fun cdv A outer s H vs Q E hr h => ?_)
  · obtain ⟨p, a, b, t, u, rfl, _⟩ := h
    rfl
  · obtain ⟨p, a, b, t, u, rfl, mF, q⟩ := h
    obtain ⟨dx, h⟩ := mF.at_
    obtain ⟨dx1, v1, fl1, ys1, h1, _⟩ := mF.l.at_
    obtain ⟨dx2, v2, fl2, ys2, h2, _⟩ := mF.r.at_
    have l1 := txt_len false t mF.l.ok
    have l2 := txt_len false u mF.r.ok
    have n1 := mF.l.n
    have n2 := mF.r.n
    have e0 : tLe.length = 4 := by decide +kernel
    have e1 : ("Fact(" : Str).length = 5 := by decide +kernel
    have e2 : (")" : Str).length = 1 := by decide +kernel
    refine ⟨_, pss_one (ps_ret (pe_joined (.cons pe_str (.cons (pe_fmtO c m FS hr (pe_fld (pv 0) rfl)) (.cons pe_str (.cons (pe_fmtO c m FS hr (pe_fld (pv 0) rfl)) (.cons pe_str .nil))))))), ?_⟩
    refine ⟨_, rfl, by rw [empty_app, sizeLine_eq]; show ("Fact(" : Str).length ≤ _; omega, ?_⟩
    refine ⟨_, rfl, p, D, dx, _, _, rfl, h, M.cl, M.nL, ff_left a b, a, dx1, _, rfl, h1, a, t, rfl, mF.l, _, rfl, ?_⟩
    refine ⟨_, rfl, by rw [empty_app, strLen_append, sizeLine_eq]; show ("Fact(" : Str).length + _ ≤ _; omega, _, rfl, by rw [empty_app, strLen_append, strLen_append, sizeLine_eq]; show ("Fact(" : Str).length + _ + tLe.length ≤ _; omega, ?_⟩
    refine ⟨_, rfl, p, D, dx, _, _, rfl, h, M.cl, M.nR, ff_right a b, b, dx2, _, rfl, h2, b, u, rfl, mF.r, _, rfl, ?_⟩
    refine ⟨_, rfl, by rw [empty_app, strLen_append, strLen_append, strLen_append, sizeLine_eq]; show ("Fact(" : Str).length + _ + tLe.length + _ ≤ _; omega, _, rfl, by rw [empty_app, strLen_append, strLen_append, strLen_append, strLen_append, sizeLine_eq]; show ("Fact(" : Str).length + _ + tLe.length + _ + (")" : Str).length ≤ _; omega, ?_⟩
    show Q (.str (Str.empty ++ _ ++ _ ++ _ ++ _ ++ _)) H
    rw [empty_app]
    exact q
theorem ok_givenF {f : Addr} {fd : FuncData} (F : Fun K "has_given" "Fact.has_given" sGivenF f fd) (M : FacC K mg D) (pG : Pp P w K mg base C "has_given" "_has_given") : FnOk P w K mg base CX0 3 f fd ["self"] (spGivenF C D) := by
  refine F.ok scGivenF (fun vs H Q E h => ?_) (fun cdv A outer s H vs Q E hr h => ?_)
  · obtain ⟨p, a, b, t, u, rfl, _⟩ := h
    rfl
  · obtain ⟨p, a, b, t, u, rfl, mF, q⟩ := h
    obtain ⟨dx, h⟩ := mF.at_
    obtain ⟨dx1, v1, fl1, ys1, h1, _⟩ := mF.l.at_
    obtain ⟨dx2, v2, fl2, ys2, h2, _⟩ := mF.r.at_
    refine ⟨_, pss_one (ps_ret (pe_or (pe_pp pG (pe_fld (pv 0) rfl) (hr.mono (by decide)) rfl) (pe_one (pe_pp pG (pe_fld (pv 0) rfl) (hr.mono (by decide)) rfl)))), ?_⟩
    refine ⟨_, rfl, p, D, dx, _, _, rfl, h, M.cl, M.nL, ff_left a b, a, dx1, _, rfl, h1, a, dx1, _, _, rfl, h1, ef_given v1 t fl1, _, rfl, ?_⟩
    by_cases e1 : tGiven ∈ t.lvs
    · rw [decide_eq_true e1] at q ⊢
      exact iteT q
    · rw [decide_eq_false e1] at q ⊢
      exact iteF ⟨_, rfl, p, D, dx, _, _, rfl, h, M.cl, M.nR, ff_right a b, b, dx2, _, rfl, h2, b, dx2, _, _, rfl, h2, ef_given v2 u fl2, q⟩
theorem ok_fieldsFa {f f2 : Addr} {fd : FuncData} (F : Fun K "fields" "Fact.fields" sFieldsFa f fd) (M : FacC K mg D) (h2 : Has P w K mg base CX0 3 "fields_of_two" f2 ["one", "other"] (spF2 C)) : FnOk P w K mg base CX0 4 f fd ["self"] (spFieldsFa C D) := by
  refine F.ok scFieldsFa (fun vs H Q E h => ?_) (fun cdv A outer s H vs Q E hr h => ?_)
  · obtain ⟨p, a, b, t, u, rfl, _⟩ := h
    rfl
  · obtain ⟨p, a, b, t, u, rfl, mF, q⟩ := h
    obtain ⟨dx, h⟩ := mF.at_
    refine ⟨_, pss_one (ps_ret (pe_has h2 hr (by rfl) pass0 (pa_cons (pe_fld (pv 0) rfl) (pa_cons (pe_fld (pv 0) rfl) pa_nil)))), ?_⟩
    exact ⟨_, rfl, p, D, dx, _, _, rfl, h, M.cl, M.nL, ff_left a b, _, rfl, p, D, dx, _, _, rfl, h, M.cl, M.nR, ff_right a b, a, b, t, u, rfl, mF.l, mF.r, q⟩
end
end K1

namespace K1
open PySem PySem.Spec
open PyProof.Rows L2 EnT StX SmX TxS DuX ClX
/-! ### whether a fact is kept -/
theorem BadAt.same {K : PySem.W.Frag} {C : Addr} {H H' : Hp} {v : V} {es : List (Str × Addr)} (s : Same H H') (h : BadAt K C H v es) : BadAt K C H' v es := by
  rcases h with h | ⟨b, m, z, ys, e, h2, h3, h4, h5, h6⟩
  · exact .inl (h.same s)
  · exact .inr ⟨b, m, z, ys, e, s _ _ h2, h3, h4, h5.same s, h6⟩
theorem SetsAt.same {K : PySem.W.Frag} {C CS : Addr} {H H' : Hp} {v : V} {es : List (Str × Addr)} {E : XK} {R : Prop} (s : Same H H') (h : SetsAt K C CS H v es E R) : SetsAt K C CS H' v es E R := by
  rcases h with ⟨a, xs, e, ha, q⟩ | ⟨a, xs, e, ha, pa, nd, hl, h⟩
  · exact .inl ⟨a, xs, e, s _ _ ha, q.same s⟩
  · refine .inr ⟨a, xs, e, s _ _ ha, pa.same s, nd, hl, ?_⟩
    rcases h with h | ⟨y, e, b, q⟩
    · exact .inl h
    · exact .inr ⟨y, e, b.same s, q.same s⟩
theorem GvV.same {C : Addr} {H H' : Hp} {v : V} {b : Option Bool} (s : Same H H') (h : GvV C H v b) : GvV C H' v b := by
  cases h with
  | non => exact .non
  | mem M => exact .mem (M.same s)
  | odd n o => exact .odd n (o.same s)
/-- the fact holds for somebody at the leaves -/
def keptB (U : List Str) (t u : Fm) (g : Str → Str → Bool) : Bool := U.all fun x => !(t.val fun z => g z x) || (u.val fun z => g z x)
def spKept (K : PySem.W.Frag) (CE D C CS CM CU : Addr) : Sp := fun vs H Q E => ∃ (p a b : Addr) (v g : V) (t u : Fm) (es : List (Str × Addr)) (o : Option Bool), vs = [.ref p, v, g] ∧ FacAt CE D H p a b t u ∧ GvV C H g o ∧
  SetsAt K C CS H v es E (
    (o = some false ∧ ErrAt CM "value" g H E) ∨
    (o ≠ some false ∧ ∀ ys : List Str, Fs2 t u ys → ∃ z i, ys[i]? = some z ∧ (∀ y ∈ ys.take i, y ∈ es.map (·.1)) ∧ z ∉ es.map (·.1) ∧ ErrAt CU "value" (.str z) H E) ∨
    (o ≠ some false ∧ (∀ z, z ∈ t.lvs ∨ z ∈ u.lvs → fieldB z = true → z ∈ es.map (·.1)) ∧ ∃ (U : List Str) (gp : Str → Bool) (fg : Str → Str → Bool), U.length ≤ 400 ∧ (∀ z m, (z, m) ∈ es → MemV C H m U (fg z)) ∧
      (o = some true → ∃ m, g = .ref m ∧ MemV C H m U gp) ∧ (o = none → gp = fun _ => false) ∧ ∀ H', Same H H' → Q (.bl (keptB U t u (lkG gp fg))) H'))
theorem inB_kept {C a b : Addr} {H : Hp} {U zs ws : List Str} {p q : Str → Bool} (hp : ∀ x, x ∈ zs ↔ p x = true) (hs : ∀ x ∈ zs, x ∈ U) (hq : ∀ x, x ∈ ws ↔ q x = true) : inB zs ws = U.all fun x => !p x || q x := by
  rw [Bool.eq_iff_iff]
  unfold inB
  rw [List.all_eq_true, List.all_eq_true]
  constructor
  · intro h x hx
    cases e : p x with
    | false => rfl
    | true =>
      have := of_decide_eq_true (h x ((hp x).mpr e))
      rw [(hq x).mp this]
      rfl
  · intro h x hx
    have := h x (hs x hx)
    rw [(hp x).mp hx] at this
    exact decide_eq_true ((hq x).mpr (by simpa using this))
section
variable {w : World} {P : Program} {base : Heap} {mg : Str → Option Value} {K : PySem.W.Frag} {CE D C CN CM CS CU aS : Addr} {mc : Value}
theorem scKept : FnScope ["self", "sets", "given", "table"] ["self", "sets", "given"] (defScope sKept) := ⟨rfl, rfl, rfl, by decide +kernel, rfl, by decide +kernel, by decide +kernel⟩
theorem ok_kept {f fV fA gL : Addr} {fd : FuncData} (F : FunD K "is_kept" "Fact.is_kept" (defArgs sKept) (defBody sKept) (defScope sKept) [] [("given", .non)] f fd) (M : FacC K mg D) (pF : Pp P w K mg base CE "form" "_form")
    (pS : ∃ pr g fdp, PropOf K D "fields" pr g ∧ FnOk P w K mg base CX0 4 g fdp ["self"] (spFieldsFa CE D) ∧ L2.Binds K fdp ["self"] [])
    (B : Mb P w K mg base C CN CM mc) (nf : PySem.W.notFirst K C (.ref C) = true) (mL : OwnM K C uLe gL) (FL : FnR P w K mg base (L2.CX P w) 5 gL (spCmpM C inB))
    (hV : Has P w K mg base (L2.CX P w) 18 "form_value" fV ["form", "table"] (spValue C 9)) (hA : Has P w K mg base (L2.CX P w) 7 "all_sets" fA ["fields", "sets", "given"] (spAll K C CS CM CU)) :
    FnOk P w K mg base (L2.CX P w) 19 f fd ["self", "sets", "given"] (spKept K CE D C CS CM CU) := by
  obtain ⟨pr, gS, fdS, prS, GS, bS⟩ := pS
  refine F.ok scKept (fun vs H Q E h => ?_) (fun cdv A outer s H vs Q E hr h => ?_)
  · obtain ⟨p, a, b, v, g, t, u, es, o, rfl, _⟩ := h
    rfl
  · obtain ⟨p, a, b, v, g, t, u, es, o, rfl, mF, hgv, hs⟩ := h
    obtain ⟨dx, h⟩ := mF.at_
    refine ⟨_, pss_cons (ps_set (i := 3) scKept.nd rfl (.inl rfl) (pe_has hA (hr.mono (by decide)) (by rfl) (passes_call (takes_of rfl rfl rfl rfl) fun _ _ _ _ h => h) (pa_cons (pe_prop (pv 0) M.cl prS GS (hr.mono (by decide)) bS .nil pass0 rfl) (pa_cons (pv 1) (pa_cons (pv 2) pa_nil)))))
      (pss_one (ps_ret (pe_cmpR (op_cmpO (fun _ _ => rfl) mL FL (hr.mono (by decide)) (passes_call (takes_of rfl rfl rfl rfl) fun _ _ _ _ h => h))
        (pe_has hV (hr.mono (by decide)) (by rfl) (passes_call (takes_of rfl rfl rfl rfl) fun _ _ _ _ h => h) (pa_cons (pe_pp pF (pe_fld (pv 0) rfl) (hr.mono (by decide)) rfl) (pa_cons (pv 3) pa_nil)))
        (pe_has hV (hr.mono (by decide)) (by rfl) (passes_call (takes_of rfl rfl rfl rfl) fun _ _ _ _ h => h) (pa_cons (pe_pp pF (pe_fld (pv 0) rfl) (hr.mono (by decide)) rfl) (pa_cons (pv 3) pa_nil))) (nomark _)))), ?_⟩
    refine ⟨_, rfl, p, dx, _, rfl, h, p, a, b, t, u, rfl, mF, fun fl ys H1 s1 hfl fs => ?_⟩
    refine ⟨_, rfl, _, rfl, fl, v, g, ys, es, o, rfl, hfl, fun z hz => ?_, ?_, hgv.same s1, ?_⟩
    · rcases ((fs.mem z).mp hz).1 with k | k
      · exact mF.l.ok.names _ k
      · exact mF.r.ok.names _ k
    · have e1 : ys.length ≤ (t.lvs ++ u.lvs).length := len_sub fs.nd fun z hz => List.mem_append.mpr ((fs.mem z).mp hz).1
      have e2 : t.lvs.length ≤ 100 := mF.l.n
      have e3 : u.lvs.length ≤ 100 := mF.r.n
      rw [List.length_append] at e1
      omega
    · refine (hs.same s1).imp fun hf hs => ?_
      rcases hs with ⟨e1, e2⟩ | ⟨e1, e2⟩ | ⟨e1, e2, U, gp, fg, hU, hm, hg1, hg2, q⟩
      · exact .inl ⟨e1, e2.same s1⟩
      · obtain ⟨z, i, k1, k2, k3, k4⟩ := e2 ys fs
        exact .inr (.inl ⟨e1, z, i, k1, k2, k3, k4.same s1⟩)
      · refine .inr (.inr ⟨e1, fun z hz => e2 z ((fs.mem z).mp hz).1 ((fs.mem z).mp hz).2, fun d m0 g' H2 sm M0 hg' hd' => ?_⟩)
        have s2 := s1.trans sm
        have tab : ∀ ls : List Str, (∀ z ∈ ls, z ∈ t.lvs ∨ z ∈ u.lvs) → TabM C H2 d U (lkG gp fg) ls := fun ls hls => ⟨_, hd', fun z hz => by
          rw [ents_look hf]
          by_cases hz1 : z = tGiven
          · rw [if_pos hz1]
            subst hz1
            rcases hg' with ⟨rfl, eb⟩ | ⟨eb, m1, rfl, M1⟩
            · obtain ⟨m, rfl, mv⟩ := hg1 eb
              exact ⟨m, rfl, mv.same s2⟩
            · refine ⟨m1, rfl, ?_⟩
              have := memv_nil (U := U) M1
              rw [← hg2 eb] at this
              exact this
          · rw [if_neg hz1]
            by_cases hz2 : z = tNone
            · rw [if_pos hz2]
              subst hz2
              exact ⟨m0, rfl, memv_nil M0⟩
            · rw [if_neg hz2]
              have hb : fieldB z = true := decide_eq_true ⟨hz1, hz2⟩
              obtain ⟨m, e4, e5⟩ := ents_some (e2 z (hls z hz) hb)
              refine ⟨m, e4, ?_⟩
              have eg : lkG gp fg z = fg z := by
                funext x
                unfold lkG
                rw [if_neg hz2, if_neg hz1]
              rw [eg]
              exact (hm z m e5).same s2⟩
        obtain ⟨dx1, v1, fl1, ys1, h1, f1, _⟩ := (mF.l.same s2).at_
        obtain ⟨dx2, v2, fl2, ys2, h2, f2, _⟩ := (mF.r.same s2).at_
        refine ⟨_, rfl, p, D, dx, _, _, rfl, s2 _ _ h, M.cl, M.nL, ff_left a b, a, dx1, _, rfl, h1, a, dx1, _, _, rfl, h1, ef_form v1 t fl1, ?_⟩
        refine ⟨_, rfl, v1, t, d, U, lkG gp fg, rfl, f1, mF.l.ok, mF.l.d, hU, tab _ fun z hz => .inl hz, fun q1 H3 s3 mv1 => ?_⟩
        have s23 := s2.trans s3
        refine ⟨_, rfl, p, D, dx, _, _, rfl, s23 _ _ h, M.cl, M.nR, ff_right a b, b, dx2, _, rfl, s3 _ _ h2, b, dx2, _, _, rfl, s3 _ _ h2, ef_form v2 u fl2, ?_⟩
        have tb2 := (tab u.lvs fun z hz => .inr hz).same s3
        refine ⟨_, rfl, v2, u, d, U, lkG gp fg, rfl, f2.same s3, mF.r.ok, mF.r.d, hU, tb2, fun q2 H4 s4 mv2 => ?_⟩
        obtain ⟨zs, m1, i1, u1⟩ := (mv1.same s4).ex
        obtain ⟨ws, m2, i2, u2⟩ := mv2.ex
        obtain ⟨dz, tz, d3, k1, _⟩ := m1.at_
        refine ⟨q1, dz, _, .ref C, rfl, k1, mem_ty B.M B.I m2, nf, q1, q2, zs, ws, rfl, m1, m2, fun H5 s5 => ?_⟩
        rw [inB_kept (C := C) (a := q1) (b := q2) (H := H4) i1 u1 i2]
        exact q H5 (s23.trans (s4.trans s5))
end
end K1

namespace TkX
open PySem PySem.Spec PyProof.Rows L2 SmX ClX
/-- a, b = x, y with plain local names, a token being out -/
theorem pst_par {X : Cx} {pos : Pos} {i j : Nat} {x y : Str} {a b : Expr} {ta : TA} {px py pt : Pos} {kt k2 pt2} (hc : X.calm = true) (hN : X.N.Nodup) (hi : X.N[i]? = some x) (hj : X.N[j]? = some y) (hij : i ≠ j)
    (hx : X.env.scope.names.lookup x = some .local) (hy : X.env.scope.names.lookup y = some .local) (ha : PAT X [a, b] ta)
    (hw : swappedStores [.Tuple [.Name x px, .Name y py] kt pt] (.Tuple [a, b] k2 pt2) X.env = pure (some [x, y]))
    (hs : swapsWithSole [.Tuple [.Name x px, .Name y py] kt pt] (.Tuple [a, b] k2 pt2) pos.line X.env = pure false := by rfl) :
    PST X (.Assign [.Tuple [.Name x px, .Name y py] kt pt] (.Tuple [a, b] k2 pt2) pos) (tPar i j ta) := by
  intro pins s σ H D h0 I h
  rw [exec_Assign_arm]
  refine wpAny_bind (wpAny_standAt ?_)
  rw [hs]
  refine wpAny_bind
      (wpAny_pure ?_)
  rw [if_neg (by decide)]
  refine wpAny_bind (Tuple_ (thn (ha _ pins s σ H _ h0 I h) fun us s1 ⟨vs, H1, I1, r1, q1⟩ => ?_))
  obtain ⟨v, w, e1, q1⟩ := q1
  subst e1
  obtain ⟨u1, u2, rfl, rv, rw'⟩ : ∃ u1 u2, us = [u1, u2] ∧ RelV v u1 ∧ RelV w u2 := by
    cases r1 with
    | cons p q =>
      cases q with
      | cons p' q' =>
        cases q'
        exact ⟨_, _, rfl, p, p'⟩
  refine wpAny_newObj_type ?_ (by show 2 ≤ sizeLine; decide)
  have I2 : Inv X pins σ H1 { s1 with heap := s1.heap.push { cls := .type "tuple", data := .seq [u1, u2].toArray } } := I1.kept (t' := s1.toks) fun _ _ e => Heap.get?_push_of_some _ e
  rw [hw]
  refine wpAny_bind
      (wpAny_pure ?_)
  show wpAny (model X.prog X.w) X.A (do rule "assign.swapped-stores"; let its ← unpackItems (.ref s1.heap.objs.size) 2 none; assignInOrder [fun v => bindName X.env y v, fun v => bindName X.env x v] its.reverse; pure Flow.next) _ _ _
  refine wpAny_bind (wpAny_rule (wpAny_bind (unpackItems_tuple (items := #[u1, u2]) (I.ok.hd hc) (IsTup.new s1.heap _) fun h2 hx2 => ?_)))
  have I3 := I2.kept (h' := h2) (t' := s1.toks) fun b o e => hx2 b o (Nat.ne_of_lt (Heap.lt_size e)) e
  show wpAny _ _ (assignInOrder [fun v => bindName X.env y v, fun v => bindName X.env x v] [u2, u1] >>= fun _ => pure Flow.next) _ _ _
  refine wpAny_bind (assignInOrder_cons (wpAny_bindName (store_ok I3 hN hj (.inl hy) rw' (fun s2 I4 => ?_) (.inr hy))))
  refine assignInOrder_cons (wpAny_bindName (store_ok I4 hN hi (.inl hx) rv (fun s3 I5 => assignInOrder_nil
      (wpAny_pure ?_)) (.inr hx)))
  rw [List.set_comm _ _ (Ne.symm hij)] at I5
  exact ⟨_, H1, I5, q1⟩
end TkX
namespace K1
open PySem PySem.Spec
open PyProof.Rows L2 EnT StX SmX TxS DuX ClX
/-! ### Fact.read -/
theorem makeE_at {C x dx : Addr} {H : Hp} {v : V} {t : Fm} {R : VK} {E : XK} (hm : FmAt H v t) (ok : t.Ok) (hd : t.dep ≤ 9) (hn : t.nl ≤ 100) (nx : H x = none) (nd : H dx = none) (ne : dx ≠ x) (q : ∀ H', Same H H' → ExpAt C H' x t → R .non H') : spInitE C [.ref x, v] (upd (upd H dx (.own x)) x (.ins C dx [])) R E := by
  have s1 : Same H (upd H dx (.own x)) := same_upd nd
  have nx1 : (upd H dx (.own x)) x = none := by rw [upd_ne (Ne.symm ne)]; exact nx
  have s2 : Same (upd H dx (.own x)) (upd (upd H dx (.own x)) x (.ins C dx [])) := same_upd nx1
  refine ⟨x, dx, v, t, rfl, upd_same, hm.same (s1.trans s2), ok, hd, hn, fun H' k e => q H' (fun b o hb => k b o (fun z => ?_) ((s1.trans s2) b o hb)) e⟩
  rw [z, nx] at hb
  cases hb
theorem makeF_at {C D a b x dx : Addr} {H : Hp} {t u : Fm} {R : VK} {E : XK} (m1 : ExpAt C H a t) (m2 : ExpAt C H b u) (nx : H x = none) (nd : H dx = none) (ne : dx ≠ x) (q : ∀ H', Same H H' → FacAt C D H' x a b t u → R .non H') : spInitF C D [.ref x, .ref a, .ref b] (upd (upd H dx (.own x)) x (.ins D dx [])) R E := by
  have s1 : Same H (upd H dx (.own x)) := same_upd nd
  have nx1 : (upd H dx (.own x)) x = none := by rw [upd_ne (Ne.symm ne)]; exact nx
  have s2 : Same (upd H dx (.own x)) (upd (upd H dx (.own x)) x (.ins D dx [])) := same_upd nx1
  have no : ∀ {b : Addr} {o : HO}, H b = some o → x ≠ b := fun h z => by
    rw [← z, nx] at h
    cases h
  obtain ⟨_, _, _, _, h1, _⟩ := m1.at_
  obtain ⟨_, _, _, _, h2, _⟩ := m2.at_
  exact ⟨x, a, b, dx, t, u, rfl, upd_same, no h1, no h2, m1.same (s1.trans s2), m2.same (s1.trans s2), fun H' k e => q H' (fun b o hb => k b o (fun z => no hb z.symm) ((s1.trans s2) b o hb)) e⟩
def MakesFE (C D : Addr) (t u : Fm) (H : Hp) (Q : VK) : Prop := ∀ (p a b : Addr) (H' : Hp), Same H H' → FacAt C D H' p a b t u → Q (.ref p) H'
def spReadF (C D : Addr) : Sp := fun vs H Q _ => ∃ t u : Fm, vs = [.str (facText t u)] ∧ t.Ok ∧ u.Ok ∧ t.dep ≤ 9 ∧ u.dep ≤ 9 ∧ t.nl ≤ 100 ∧ u.nl ≤ 100 ∧ MakesFE C D t u H Q
abbrev nmRF : List Str := ["text", "left_text", "_", "right_text", "left", "right"]
section
variable {w : World} {P : Program} {base : Heap} {mg : Str → Option Value} {K : PySem.W.Frag} {aS C D fI fF : Addr}
theorem scRF : FnScope nmRF ["text"] (defScope sReadF) := ⟨rfl, rfl, rfl, by decide +kernel, rfl, by decide +kernel, by decide +kernel⟩
theorem ok_readF {f f1 f2 : Addr} {fd : FuncData} (F : Fun K "read" "Fact.read" sReadF f fd) (T : Free mg) (M : ExpC K mg C) (MK : Mk K C fI) (FI : FnR P w K mg base CX0 11 fI (spInitE C)) (MF : FacC K mg D) (MKF : Mk K D fF) (FF : FnR P w K mg base CX0 2 fF (spInitF C D))
    (hR : TkX.HasT P w K mg base 3 "read_counted" f1 ["text"] spReadC) (hL : Has P w K mg base CX0 1 "check_leaves" f2 ["leaves"] (spChk 200)) : TkX.FnT P w K mg base 14 f fd ["text"] (spReadF C D) := by
  refine TkX.fnT_of F scRF (fun vs H Q E h => ?_) (fun cdv A outer s H vs Q E hr h => ?_)
  · obtain ⟨t, u, rfl, _⟩ := h
    rfl
  · obtain ⟨t, u, rfl, ok1, ok2, d1, d2, n1, n2, q⟩ := h
    refine ⟨_, psst_cons (PST.of (ps_if (pt_not (pt_val (pe_callB call_isi (by rfl) T.isinstance (by decide +kernel) (pa_cons (pv 0) (pa_cons (pe_bltn (v := .ty "str") (u := .type "str") (by rfl) T.str (by decide +kernel) rfl) pa_nil))))) pss_never pss_nil))
      (psst_cons (PST.of (ps_asg (pe_partition (pv 0) pe_str) (pg_tup rfl (pgs_cons (pg_name (i := 1) scRF.nd rfl (.inl rfl)) (pgs_cons (pg_name (i := 2) scRF.nd rfl (.inl rfl)) (pgs_cons (pg_name (i := 3) scRF.nd rfl (.inl rfl)) pgs_nil))))))
      (psst_cons (TkX.pst_par (i := 4) (j := 5) rfl scRF.nd rfl rfl (by decide) rfl rfl (pat_cons (TkX.pet_has hR (hr.mono (by decide)) (by rfl) (pa_cons (pv 1) pa_nil)) (pat_cons (TkX.pet_has hR (hr.mono (by decide)) (by rfl) (pa_cons (pv 3) pa_nil)) pat_nil)) (by rfl))
      (PSsT.of (pss_cons (ps_if (PW.pt (pw_or (pt_cmp (pc_isN (pv 4))) (pw_or1 (pt_cmp (pc_isN (pv 5)))))) pss_never pss_nil)
      (pss_cons (ps_expr (pe_has hL (hr.mono (by decide)) (by rfl) pass0 (pa_cons (pe_ix ix_tup (pv 4) pe_int (fun _ _ => rfl)) pa_nil)))
      (pss_cons (ps_expr (pe_has hL (hr.mono (by decide)) (by rfl) pass0 (pa_cons (pe_ix ix_tup (pv 5) pe_int (fun _ _ => rfl)) pa_nil)))
      (pss_one (ps_ret (pe_makeR MKF FF (hr.mono (by decide)) (by rfl) MF.g pass0 (pa_cons (pe_makeR MK FI (hr.mono (by decide)) (by rfl) M.g pass0 (pa_cons (pe_ix ix_tup (pv 4) pe_int (fun _ _ => rfl)) pa_nil)) (pa_cons (pe_makeR MK FI (hr.mono (by decide)) (by rfl) M.g pass0 (pa_cons (pe_ix ix_tup (pv 5) pe_int (fun _ _ => rfl)) pa_nil)) pa_nil))))))))))), ?_⟩
    have l1 := txt_len false t ok1
    have l2 := txt_len false u ok2
    have e0 : tLe.length = 4 := by decide +kernel
    refine ⟨_, rfl, _, _, _, _, true, rfl, .ty _, .base (.str _), kit_ty (by decide +kernel), true, rfl, iteF ?_⟩
    refine ⟨_, rfl, ⟨_, rfl⟩, _, _, rfl, rfl, (by decide +kernel), ?_, fun p np => ?_⟩
    · unfold facText
      rw [strLen_append, strLen_append, sizeLine_eq]
      show _ + tLe.length + _ ≤ _
      omega
    have ep := part_le (b := u.txt false) (nolt_txt false ok1)
    have ep : Txt.partition (facText t u) " <= " = (t.txt false, tLe, u.txt false) := ep
    rw [ep]
    have s1 : Same H (upd H p (.tup [.str (t.txt false), .str tLe, .str (u.txt false)])) := same_upd np
    have hp : (upd H p (.tup [.str (t.txt false), .str tLe, .str (u.txt false)])) p = some (.tup [.str (t.txt false), .str tLe, .str (u.txt false)]) := upd_same
    generalize (upd H p (.tup [.str (t.txt false), .str tLe, .str (u.txt false)])) = H1 at s1 hp ⊢
    refine ⟨p, _, rfl, SqT.of hp, rfl, _, _, rfl, _, _, rfl, _, _, rfl, rfl, ?_⟩
    refine ⟨_, rfl, t, rfl, ok1, by omega, fun v1 H2 s2 p1 => ?_⟩
    refine ⟨_, rfl, u, rfl, ok2, by omega, fun v2 H3 s3 p2 => ?_⟩
    cases p1 with
    | f ha1 hm1 =>
    rename_i a1 w1
    cases p2 with
    | f ha2 hm2 =>
    rename_i a2 w2
    refine ⟨_, _, rfl, ?_⟩
    refine ⟨_, rfl, false, rfl, iteF ⟨_, rfl, false, rfl, iteF ?_⟩⟩
    have ha1 := s3 _ _ ha1
    have hm1 := hm1.same s3
    refine ⟨_, rfl, a1, _, _, .int (t.nl : Nat), rfl, rfl, SqT.of ha1, atI_nat (j := 1) rfl, _, rfl, by omega, ?_⟩
    refine ⟨_, rfl, a2, _, _, .int (u.nl : Nat), rfl, rfl, SqT.of ha2, atI_nat (j := 1) rfl, _, rfl, by omega, ?_⟩
    refine ⟨_, rfl, a1, _, _, w1, rfl, rfl, SqT.of ha1, atI_nat (j := 0) rfl, ?_⟩
    refine fun a xa na nxa nea => makeE_at hm1 ok1 d1 n1 na nxa nea fun H4 s4 m1 => ⟨rfl, ?_⟩
    refine ⟨_, rfl, a2, _, _, w2, rfl, rfl, SqT.of (s4 _ _ ha2), atI_nat (j := 0) rfl, ?_⟩
    refine fun b xb nb nxb neb => makeE_at (hm2.same s4) ok2 d2 n2 nb nxb neb fun H5 s5 m2 => ⟨rfl, ?_⟩
    refine fun r xr nr nxr ner => makeF_at (m1.same s5) m2 nr nxr ner fun H6 s6 mF => ⟨rfl, ?_⟩
    exact q r a b H6 (s1.trans (s2.trans (s3.trans (s4.trans (s5.trans s6))))) mF
end
end K1

namespace K1
open PySem PySem.Spec
open PyProof.Rows L2 EnT StX SmX TxS DuX XdI Tr3 CnB ClX
/-- isinstance(e, c) in a suite, whatever the class -/
def rIsX (K : PySem.W.Frag) (a : Addr) (cls : Value) (d : Option Addr) : List V → Hp → VK → Prop := fun xs H Q => ∃ D, cls = .ref D ∧ ExcC K D ∧ rIsD K D a d xs H Q
/-- the same of an exception without attributes -/
def rIsN (K : PySem.W.Frag) (a : Addr) (cls : Value) (d : Option Addr) : List V → Hp → VK → Prop := fun xs H Q => ∃ D, cls = .ref D ∧ ExcC K D ∧ d = none ∧ rIsE K D a xs H Q
theorem call_isN {X : Cx} {a : Addr} {d : Option Addr} {oe : Obj} {pn : List (Addr × Obj)} {cls : Value} (hz : Zc cls d oe) (hf : ∃ vs, oe.data = .fields vs) : CallR (X.suite a ((a, oe) :: pn)) (.builtin "isinstance") (rIsN X.K a cls d) := by
  intro pins s σ
      H xs us Q I r h
  obtain ⟨D, rfl, C, rfl, h⟩ := h
  exact call_isE C hz hf pins s σ H xs us Q I r h
theorem call_isX {X : Cx} {a : Addr} {d : Option Addr} {oe : Obj} {pn : List (Addr × Obj)} {cls : Value} (hz : Zc cls d oe) (hf : ∃ vs, oe.data = .fields vs) : CallR (X.suite a ((a, oe) :: pn)) (.builtin "isinstance") (rIsX X.K a cls d) := by
  intro pins s σ
      H xs us Q I r h
  obtain ⟨D, ec, C, h⟩ := h
  exact call_isD ec C hz hf pins s σ H xs us Q I r h
/-- what is asked of an error's class, its base the b-th one -/
structure ErrF (K : PySem.W.Frag) (S1 S2 S3 D : Addr) (b : Nat) : Prop where
  ec : ExcC K D
  k1 : PySem.W.kitOne K (.ref D) (.ref S1) = some (decide (b = 0))
  k2 : PySem.W.kitOne K (.ref D) (.ref S2) = some (decide (b = 1))
  k3 : PySem.W.kitOne K (.ref D) (.ref S3) = some (decide (b = 2))
  kV : PySem.W.kitOne K (.ref D) (.type "ValueError") = some (decide (b = 0))
  kL : PySem.W.kitOne K (.ref D) (.type "LookupError") = some (decide (b = 1))
  kA : PySem.W.kitOne K (.ref D) (.type "ArithmeticError") = some (decide (b = 2))
  kx : PySem.W.exmAny K (.ref D) [.ref S1, .ref S2, .ref S3] = some true
  xf : XfC K D
/-- repr(x), x told by SV -/
def rSV (SV : Hp → V → Str → Prop) : List V → Hp → VK → Prop := fun xs H Q => ∃ x txt, xs = [x] ∧ SV H x txt ∧ Q (.str txt) H
structure ErrK (K : PySem.W.Frag) (mg : Str → Option Value) (S1 S2 S3 C1 C2 C3 : Addr) : Prop where
  g1 : mg "SetError" = some (.ref S1)
  g2 : mg "StateError" = some (.ref S2)
  g3 : mg "LimitError" = some (.ref S3)
  gV : mg "ValueError" = none
  gL : mg "LookupError" = none
  gA : mg "ArithmeticError" = none
  m1 : mg "InvalidSets" = some (.ref C1)
  e1 : ErrF K S1 S2 S3 C1 0
  i1 : PySem.W.findIn K (.ref C1) "index" = some none
  k1_1 : PySem.W.kitOne K (.ref C1) (.ref C1) = some true
  k1_2 : PySem.W.kitOne K (.ref C1) (.ref C2) = some false
  k1_3 : PySem.W.kitOne K (.ref C1) (.ref C3) = some false
  m2 : mg "NotMembers" = some (.ref C2)
  e2 : ErrF K S1 S2 S3 C2 0
  i2 : PySem.W.findIn K (.ref C2) "value" = some none
  k2_1 : PySem.W.kitOne K (.ref C2) (.ref C1) = some false
  k2_2 : PySem.W.kitOne K (.ref C2) (.ref C2) = some true
  k2_3 : PySem.W.kitOne K (.ref C2) (.ref C3) = some false
  m3 : mg "UnknownField" = some (.ref C3)
  e3 : ErrF K S1 S2 S3 C3 0
  i3 : PySem.W.findIn K (.ref C3) "value" = some none
  k3_1 : PySem.W.kitOne K (.ref C3) (.ref C1) = some false
  k3_2 : PySem.W.kitOne K (.ref C3) (.ref C2) = some false
  k3_3 : PySem.W.kitOne K (.ref C3) (.ref C3) = some true
theorem same_free {H H' : Hp} {p : Addr} (s : Same H H') (n : H' p = none) : H p = none := by
  cases hh : H p with
  | none => rfl
  | some o =>
    rw [s _ _ hh] at n
    cases n
theorem grow_keep {H : Hp} {p : Addr} {xs ys : List V} : ∀ b o, b ≠ p → H b = some o → upd (upd H p (.lst xs)) p (.lst (xs ++ ys)) b = some o := fun b o n e => by
  rw [upd_ne n, upd_ne n]
  exact e
/-- ahead of the n-th truth are none -/
theorem first_at {bs : List Bool} {n m : Nat} {z : V} (h : ((bs.take n).all fun b => !b) = true) (hm : m < n) (hz : (bs.map V.bl)[m]? = some z) : eqV z (.bl true) = false := by
  rw [List.getElem?_map] at hz
  obtain ⟨b, hb, rfl⟩ := Option.map_eq_some_iff.mp hz
  have hb2 : b ∈ bs.take n := by
    obtain ⟨l, e⟩ := List.getElem?_eq_some_iff.mp hb
    exact List.mem_iff_getElem.mpr ⟨m, by rw [List.length_take]; omega, by rw [List.getElem_take]; exact e⟩
  have h2 := (List.all_eq_true.mp h) b hb2
  cases b with
  | true => cases h2
  | false => rfl
abbrev nmCaught : List Str := ["_law_ask", "_law_told", "e", "_law_sides", "_law_base", "_law_sorts", "_law_at"]
theorem scCaught : FnScope nmCaught ["_law_ask"] (defScope sCaught) := ⟨rfl, rfl, rfl, by decide +kernel, rfl, by decide +kernel, by decide +kernel⟩
/-- what is told of an error, its attributes at dd; SV tells a value's text -/
def Told (SV : Hp → V → Str → Prop) (C1 C2 C3 : Addr) (Q : VK) : XK := fun cls d H => (∃ (dd : Addr) (v : V) (txt nm : Str), d = some dd ∧ SV H v txt ∧ ((cls = .ref C1 ∧ nm = "InvalidSets" ∧ H dd = some (.xd [("index", v)])) ∨ (cls = .ref C2 ∧ nm = "NotMembers" ∧ H dd = some (.xd [("value", v)])) ∨ (cls = .ref C3 ∧ nm = "UnknownField" ∧ H dd = some (.xd [("value", v)]))) ∧
    ∀ (p : Addr) (H' : Hp), H p = none → Same H H' → H' p = some (.lst [.str nm, .str txt]) → Q (.ref p) H') ∨
  ∃ nm : Str, d = none ∧ (False) ∧ ∀ (p : Addr) (H' : Hp), H p = none → Same H H' → H' p = some (.lst [.str nm]) → Q (.ref p) H'
/-- the reading of _law_caught(lambda: ..), where the lambda raises -/
def TTc (SV : Hp → V → Str → Prop) (C1 C2 C3 : Addr) : (XK → Hp → VK → Prop) → Hp → VK → Prop := fun tl H Q => ∀ Q', tl (Told SV C1 C2 C3 Q) H Q'
section
variable {X : Cx}
abbrev cxK (X : Cx) (g : Addr) (cdg : Value) (s : Shared) (H : Hp) : Cx := (cxOf C8.CX0 X.prog X.w X.K X.mg X.base nmCaught "_law_caught" (defScope sCaught) g cdg X.A X.stack s H C8.E0).nox
abbrev suiteOf : List Stmt := match defBody sCaught with
  | (.Try _ [.ExceptHandler _ _ su _] _ _ _) :: _ => su
  | _ => []
mutual
theorem dp_same {K : PySem.W.Frag} {H H' : Hp} (s : Same H H') : ∀ {v : V} {d : PyData}, Dp K H v d → Dp K H' v d
  | _, _, .non => .non
  | _, _, .bl b => .bl b
  | _, _, .int i => .int i
  | _, _, .str x => .str x
  | _, _, .lst h r => .lst (s.seq h) (dpAll_same s r)
  | _, _, .tup h r => .tup (sameT s h) (dpAll_same s r)
theorem dpAll_same {K : PySem.W.Frag} {H H' : Hp} (s : Same H H') : ∀ {vs : List V} {ds : List PyData}, DpAll K H vs ds → DpAll K H' vs ds
  | _, _, .nil => .nil
  | _, _, .cons h r => .cons (dp_same s h) (dpAll_same s r)
end
/-- the suite: an error that Told knows -/
def tCau (SV : Hp → V → Str → Prop) (C1 C2 C3 a : Addr) (cls : Value) (d : Option Addr) : TS := fun D σ H => (∃ σ' : L2.St, σ = σ'.set 2 (some (.ref a))) ∧ Told SV C1 C2 C3 D.rt cls d H
theorem suite_ok {g S1 S2 S3 C1 C2 C3 : Addr} {cdg : Value} {s : Shared} {H0 : Hp} (hgd : X.A.guards = some []) (hu : X.A.units + 300 < cLine) (T : Free X.mg) (EK : ErrK X.K X.mg S1 S2 S3 C1 C2 C3) {SV : Hp → V → Str → Prop} (hS : ∀ H H' v x, Same H H' → SV H v x → SV H' v x)
    {a : Addr} {oe : Obj} {cls : Value} {d : Option Addr} {pn : List (Addr × Obj)} (hz : Zc cls d oe) (hf : ∃ vs, oe.data = .fields vs) (hR : CallR ((cxK X g cdg s H0).suite a ((a, oe) :: pn)) (.builtin "repr") (rSV SV)) :
    PSs ((cxK X g cdg s H0).suite a ((a, oe) :: pn)) suiteOf (tCau SV C1 C2 C3 a cls d) := by
  refine ⟨fun pins s' σ H D I h => ?_⟩
  obtain ⟨⟨σ', eσ⟩, hT⟩ := h
  have hl : σ.length = 7 := I.len
  have hl' : σ'.length = 7 := by rw [eσ, List.length_set] at hl; exact hl
  obtain ⟨x0, x1, x2, x3, x4, x5, x6, e'⟩ : ∃ x0 x1 x2 x3 x4 x5 x6, σ' = [x0, x1, x2, x3, x4, x5, x6] := by
    match σ', hl' with
    | [x0, x1, x2, x3, x4, x5, x6], _ => exact ⟨x0, x1, x2, x3, x4, x5, x6, rfl⟩
  subst e'
  have eσ : σ = [x0, x1, some (.ref a), x3, x4, x5, x6] := eσ
  subst eσ
  obtain ⟨t, ht, hq⟩ : ∃ t, PSs ((cxK X g cdg s H0).suite a ((a, oe) :: pn)) suiteOf t ∧ t D [x0, x1, some (.ref a), x3, x4, x5, x6] H := by
    rcases hT with ⟨dd, v, txt, nm, rfl, hsd, (⟨rfl, rfl, hd⟩ | ⟨rfl, rfl, hd⟩ | ⟨rfl, rfl, hd⟩), q⟩ | ⟨nm, rfl, (⟨⟩), q⟩
    · have eC := EK.e1.ec
      have k1 : PySem.W.kitOne X.K (.ref C1) (.ref S1) = some true := EK.e1.k1
      have k2 : PySem.W.kitOne X.K (.ref C1) (.ref S2) = some false := EK.e1.k2
      have k3 : PySem.W.kitOne X.K (.ref C1) (.ref S3) = some false := EK.e1.k3
      have kV : PySem.W.kitOne X.K (.ref C1) (.type "ValueError") = some true := EK.e1.kV
      have kL : PySem.W.kitOne X.K (.ref C1) (.type "LookupError") = some false := EK.e1.kL
      have kA : PySem.W.kitOne X.K (.ref C1) (.type "ArithmeticError") = some false := EK.e1.kA
      refine ⟨_, pss_cons (ps_set (i := 3) scCaught.nd rfl (.inl rfl) (pe_lst (pa_cons (pe_callB (call_isX (X := cxK X g cdg s H0) (a := a) (pn := pn) hz hf) (by rfl) T.isinstance (by decide +kernel) (pa_cons (pv 2) (pa_cons (pe_glob (v := .ref S1) (by rfl) EK.g1 rfl) pa_nil))) (pa_cons (pe_callB (call_isX (X := cxK X g cdg s H0) (a := a) (pn := pn) hz hf) (by rfl) T.isinstance (by decide +kernel) (pa_cons (pv 2) (pa_cons (pe_glob (v := .ref S2) (by rfl) EK.g2 rfl) pa_nil))) (pa_cons (pe_callB (call_isX (X := cxK X g cdg s H0) (a := a) (pn := pn) hz hf) (by rfl) T.isinstance (by decide +kernel) (pa_cons (pv 2) (pa_cons (pe_glob (v := .ref S3) (by rfl) EK.g3 rfl) pa_nil))) pa_nil)))))
          (pss_cons (ps_set (i := 4) scCaught.nd rfl (.inl rfl) (pe_lst (pa_cons (pe_callB (call_isX (X := cxK X g cdg s H0) (a := a) (pn := pn) hz hf) (by rfl) T.isinstance (by decide +kernel) (pa_cons (pv 2) (pa_cons (pe_bltn (v := .ty "ValueError") (u := .type "ValueError") (by rfl) EK.gV (by decide +kernel) rfl) pa_nil))) (pa_cons (pe_callB (call_isX (X := cxK X g cdg s H0) (a := a) (pn := pn) hz hf) (by rfl) T.isinstance (by decide +kernel) (pa_cons (pv 2) (pa_cons (pe_bltn (v := .ty "LookupError") (u := .type "LookupError") (by rfl) EK.gL (by decide +kernel) rfl) pa_nil))) pa_nil))))
          (pss_cons (ps_expr (pe_bm PySem.F.plainAttrs_list PySem.F.slot_list_append PySem.F.type_list_append mt_append (pv 4) (pa_cons (pe_callB (call_isX (X := cxK X g cdg s H0) (a := a) (pn := pn) hz hf) (by rfl) T.isinstance (by decide +kernel) (pa_cons (pv 2) (pa_cons (pe_bltn (v := .ty "ArithmeticError") (u := .type "ArithmeticError") (by rfl) EK.gA (by decide +kernel) rfl) pa_nil))) pa_nil)))
          (pss_cons (ps_set (i := 5) scCaught.nd rfl (.inl rfl) (pe_lst (pa_cons (pe_callB (call_isX (X := cxK X g cdg s H0) (a := a) (pn := pn) hz hf) (by rfl) T.isinstance (by decide +kernel) (pa_cons (pv 2) (pa_cons (pe_glob (v := .ref C1) (by rfl) EK.m1 rfl) pa_nil))) pa_nil)))
          (pss_cons (ps_expr (pe_bm PySem.F.plainAttrs_list PySem.F.slot_list_append PySem.F.type_list_append mt_append (pv 5) (pa_cons (pe_callB (call_isX (X := cxK X g cdg s H0) (a := a) (pn := pn) hz hf) (by rfl) T.isinstance (by decide +kernel) (pa_cons (pv 2) (pa_cons (pe_glob (v := .ref C2) (by rfl) EK.m2 rfl) pa_nil))) pa_nil)))
          (pss_cons (ps_expr (pe_bm PySem.F.plainAttrs_list PySem.F.slot_list_append PySem.F.type_list_append mt_append (pv 5) (pa_cons (pe_callB (call_isX (X := cxK X g cdg s H0) (a := a) (pn := pn) hz hf) (by rfl) T.isinstance (by decide +kernel) (pa_cons (pv 2) (pa_cons (pe_glob (v := .ref C3) (by rfl) EK.m3 rfl) pa_nil))) pa_nil)))
          (pss_cons (ps_if (PW.pt (pw_or (pt_cmpR op_ne (pe_bm PySem.F.plainAttrs_list PySem.F.slot_list_count PySem.F.type_list_count mt_lcountB (pv 5) (pa_cons pe_bl pa_nil)) pe_int (nomark _)) (pw_or (pt_cmpR (op_neD (by show X.A.units + 3 + 64 < cLine; omega)) (pv 3) (pv 4) (nomark _)) (pw_or1 (pt_cmpR op_ne (pe_bm PySem.F.plainAttrs_list PySem.F.slot_list_count PySem.F.type_list_count mt_lcountB (pv 3) (pa_cons pe_bl pa_nil)) pe_int (nomark _)))))) (pss_one (ps_ret (pe_lst (pa_cons pe_str pa_nil)))) pss_nil)
          (pss_cons (ps_set (i := 6) scCaught.nd rfl (.inl rfl) (pe_bm PySem.F.plainAttrs_list PySem.F.slot_list_index PySem.F.type_list_index mt_index (pv 5) (pa_cons pe_bl pa_nil)))
          (pss_cons (ps_if (pt_cmpR op_ne (pe_bm PySem.F.plainAttrs_list PySem.F.slot_list_index PySem.F.type_list_index mt_index (pv 3) (pa_cons pe_bl pa_nil)) (pe_ix ix_list (pe_lst (pa_cons pe_int (pa_cons pe_int (pa_cons pe_int pa_nil)))) (pv 6) (fun _ _ => rfl)) (nomark _)) (pss_one (ps_ret (pe_lst (pa_cons pe_str pa_nil)))) pss_nil)
          (pss_cons (ps_if (pt_cmpR op_eq (pv 6) pe_int (nomark _)) (pss_one (ps_ret (pe_lst (pa_cons pe_str (pa_cons (pe_callB hR (by rfl) T.repr (by decide +kernel) (pa_cons (pe_xf EK.e1.xf EK.i1 hz hf (pv 2)) pa_nil)) pa_nil))))) pss_nil)
          (pss_cons (ps_if (pt_cmpR op_eq (pv 6) pe_int (nomark _)) (pss_one (ps_ret (pe_lst (pa_cons pe_str (pa_cons (pe_callB hR (by rfl) T.repr (by decide +kernel) (pa_cons (pe_xf EK.e2.xf EK.i2 hz hf (pv 2)) pa_nil)) pa_nil))))) pss_nil)
          (pss_one (ps_if (pt_cmpR op_eq (pv 6) pe_int (nomark _)) (pss_one (ps_ret (pe_lst (pa_cons pe_str (pa_cons (pe_callB hR (by rfl) T.repr (by decide +kernel) (pa_cons (pe_xf EK.e3.xf EK.i3 hz hf (pv 2)) pa_nil)) pa_nil))))) pss_nil)))))))))))), ?_⟩
      refine ⟨_, rfl, C1, rfl, eC, _, _, _, dd, _, rfl, rfl, hd, (fun u h => h), k1, _, rfl, C1, rfl, eC, _, _, _, dd, _, rfl, rfl, hd, (fun u h => h), k2, _, rfl, C1, rfl, eC, _, _, _, dd, _, rfl, rfl, hd, (fun u h => h), k3, (by show 3 ≤ sizeLine; decide), fun p3 n3 => ?_⟩
      have s3 : Same H (upd H p3 (.lst [.bl true, .bl false, .bl false])) := same_upd n3
      generalize e3 : upd H p3 (.lst [.bl true, .bl false, .bl false]) = H3 at s3 ⊢
      have h3 : H3 p3 = some (.lst [.bl true, .bl false, .bl false]) := by rw [← e3]; exact upd_same
      clear e3
      have hd3 := s3 _ _ hd
      refine ⟨_, rfl, C1, rfl, eC, _, _, _, dd, _, rfl, rfl, hd3, (fun u h => h), kV, _, rfl, C1, rfl, eC, _, _, _, dd, _, rfl, rfl, hd3, (fun u h => h), kL, (by show 2 ≤ sizeLine; decide), fun p4 n4 => ?_⟩
      have hd4 : upd H3 p4 (.lst [.bl true, .bl false]) dd = some (.xd _) := same_upd n4 _ _ hd3
      refine ⟨_, rfl, .inl ⟨rfl, _, SqL.of upd_same⟩, _, rfl, C1, rfl, eC, _, _, _, dd, _, rfl, rfl, hd4, (fun u h => h), kA, p4, _, _, rfl, rfl, upd_same, (by show 2 < sizeLine; decide), ?_⟩
      have f4 : H p4 = none := same_free s3 n4
      have s4 := grow_keep (H := H3) (p := p4) (xs := [.bl true, .bl false]) (ys := [.bl false])
      generalize e4 : upd (upd H3 p4 (.lst [.bl true, .bl false])) p4 (.lst ([.bl true, .bl false] ++ [.bl false])) = H4 at s4 ⊢
      have h4 : H4 p4 = some (.lst [.bl true, .bl false, .bl false]) := by rw [← e4]; exact upd_same
      clear e4
      have t4 : Same H H4 := fun b o e => s4 b o (ne_of_none e f4) (s3 _ _ e)
      have h43 : H4 p3 = some (.lst [.bl true, .bl false, .bl false]) := s4 _ _ (ne_of_none h3 n4) h3
      have hd5 := t4 _ _ hd
      refine ⟨_, rfl, C1, rfl, eC, _, _, _, dd, _, rfl, rfl, hd5, (fun u h => h), EK.k1_1, (by show 1 ≤ sizeLine; decide), fun p5 n5 => ?_⟩
      have f5 : H p5 = none := same_free t4 n5
      have s5_0 : ∀ b o, b ≠ p5 → H4 b = some o → upd H4 p5 (.lst [.bl true]) b = some o := fun b o n e => by rw [upd_ne n]; exact e
      generalize e5 : upd H4 p5 (.lst [.bl true]) = H5_0 at s5_0 ⊢
      have h5_0 : H5_0 p5 = some (.lst [.bl true]) := by rw [← e5]; exact upd_same
      clear e5
      have hdx1 := s5_0 _ _ (ne_of_none hd5 n5) hd5
      refine ⟨_, rfl, .inl ⟨rfl, _, SqL.of h5_0⟩, _, rfl, C1, rfl, eC, _, _, _, dd, _, rfl, rfl, hdx1, (fun u h => h), EK.k1_2, p5, _, _, rfl, rfl, h5_0, (by show 1 < sizeLine; decide), ?_⟩
      have s5_1 : ∀ b o, b ≠ p5 → H4 b = some o → upd H5_0 p5 (.lst ([.bl true] ++ [.bl false])) b = some o := fun b o n e => by rw [upd_ne n]; exact s5_0 b o n e
      generalize e5 : upd H5_0 p5 (.lst ([.bl true] ++ [.bl false])) = H5_1 at s5_1 ⊢
      have h5_1 : H5_1 p5 = some (.lst [.bl true, .bl false]) := by rw [← e5]; exact upd_same
      clear e5
      have hdx2 := s5_1 _ _ (ne_of_none hd5 n5) hd5
      refine ⟨_, rfl, .inl ⟨rfl, _, SqL.of h5_1⟩, _, rfl, C1, rfl, eC, _, _, _, dd, _, rfl, rfl, hdx2, (fun u h => h), EK.k1_3, p5, _, _, rfl, rfl, h5_1, (by show 2 < sizeLine; decide), ?_⟩
      have s5_2 : ∀ b o, b ≠ p5 → H4 b = some o → upd H5_1 p5 (.lst ([.bl true, .bl false] ++ [.bl false])) b = some o := fun b o n e => by rw [upd_ne n]; exact s5_1 b o n e
      generalize e5 : upd H5_1 p5 (.lst ([.bl true, .bl false] ++ [.bl false])) = H5_2 at s5_2 ⊢
      have h5_2 : H5_2 p5 = some (.lst [.bl true, .bl false, .bl false]) := by rw [← e5]; exact upd_same
      clear e5
      have t5 : Same H H5_2 := fun b o e => s5_2 b o (ne_of_none e f5) (t4 _ _ e)
      have h53 : H5_2 p3 = some (.lst [.bl true, .bl false, .bl false]) := s5_2 _ _ (ne_of_none h43 n5) h43
      have h54 : H5_2 p4 = some (.lst [.bl true, .bl false, .bl false]) := s5_2 _ _ (ne_of_none h4 n5) h4
      have dp : ∀ {p : Addr}, H5_2 p = some (.lst [.bl true, .bl false, .bl false]) → Dp X.K H5_2 (.ref p) (.list [.bool true, .bool false, .bool false]) := fun e => .lst (SqL.of e) (.cons (.bl _) (.cons (.bl _) (.cons (.bl _) .nil)))
      refine ⟨_, rfl, .inl ⟨rfl, _, SqL.of h5_2⟩, p5, [true, false, false], rfl, rfl, SqL.of h5_2, rfl, _, rfl, ?_⟩
      refine iteF ?_
      refine ⟨_, rfl, _, rfl, _, _, dp h53, dp h54, by decide +kernel, by decide +kernel, _, rfl, ?_⟩
      refine iteF ?_
      refine ⟨_, rfl, .inl ⟨rfl, _, SqL.of h53⟩, p3, [true, false, false], rfl, rfl, SqL.of h53, rfl, _, rfl, ?_⟩
      refine iteF ?_
      refine ⟨_, rfl, .inl ⟨rfl, _, SqL.of h5_2⟩, p5, _, _, 0, .bl true, rfl, rfl, SqL.of h5_2, rfl, rfl, rfl, rfl, (fun m z hm => absurd hm (Nat.not_lt_zero m)), ?_⟩
      refine ⟨_, rfl, .inl ⟨rfl, _, SqL.of h53⟩, p3, _, _, 0, .bl true, rfl, rfl, SqL.of h53, rfl, rfl, rfl, rfl, (fun m z hm => absurd hm (Nat.not_lt_zero m)), (by show 3 ≤ sizeLine; decide), fun p7 n7 => ?_⟩
      have s7 : Same H5_2 (upd H5_2 p7 (.lst [.int 0, .int 0, .int 0])) := same_upd n7
      refine ⟨_, rfl, p7, _, _, .int 0, rfl, rfl, SqL.of upd_same, atI_nat (j := 0) rfl, rfl, _, rfl, ?_⟩
      generalize upd H5_2 p7 (.lst [.int 0, .int 0, .int 0]) = H7 at s7 ⊢
      have t7 : Same H H7 := t5.trans s7
      refine iteF ?_
      refine ⟨_, rfl, rfl, _, rfl, ?_⟩
      refine iteT ?_
      refine ⟨_, rfl, rfl, rfl, dd, _, v, rfl, t7 _ _ hd, rfl, v, txt, rfl, hS _ _ _ _ t7 hsd, (by show 2 ≤ sizeLine; decide), fun p n => ?_⟩
      exact q p _ (same_free t7 n) (t7.trans (same_upd n)) upd_same
    · have eC := EK.e2.ec
      have k1 : PySem.W.kitOne X.K (.ref C2) (.ref S1) = some true := EK.e2.k1
      have k2 : PySem.W.kitOne X.K (.ref C2) (.ref S2) = some false := EK.e2.k2
      have k3 : PySem.W.kitOne X.K (.ref C2) (.ref S3) = some false := EK.e2.k3
      have kV : PySem.W.kitOne X.K (.ref C2) (.type "ValueError") = some true := EK.e2.kV
      have kL : PySem.W.kitOne X.K (.ref C2) (.type "LookupError") = some false := EK.e2.kL
      have kA : PySem.W.kitOne X.K (.ref C2) (.type "ArithmeticError") = some false := EK.e2.kA
      refine ⟨_, pss_cons (ps_set (i := 3) scCaught.nd rfl (.inl rfl) (pe_lst (pa_cons (pe_callB (call_isX (X := cxK X g cdg s H0) (a := a) (pn := pn) hz hf) (by rfl) T.isinstance (by decide +kernel) (pa_cons (pv 2) (pa_cons (pe_glob (v := .ref S1) (by rfl) EK.g1 rfl) pa_nil))) (pa_cons (pe_callB (call_isX (X := cxK X g cdg s H0) (a := a) (pn := pn) hz hf) (by rfl) T.isinstance (by decide +kernel) (pa_cons (pv 2) (pa_cons (pe_glob (v := .ref S2) (by rfl) EK.g2 rfl) pa_nil))) (pa_cons (pe_callB (call_isX (X := cxK X g cdg s H0) (a := a) (pn := pn) hz hf) (by rfl) T.isinstance (by decide +kernel) (pa_cons (pv 2) (pa_cons (pe_glob (v := .ref S3) (by rfl) EK.g3 rfl) pa_nil))) pa_nil)))))
          (pss_cons (ps_set (i := 4) scCaught.nd rfl (.inl rfl) (pe_lst (pa_cons (pe_callB (call_isX (X := cxK X g cdg s H0) (a := a) (pn := pn) hz hf) (by rfl) T.isinstance (by decide +kernel) (pa_cons (pv 2) (pa_cons (pe_bltn (v := .ty "ValueError") (u := .type "ValueError") (by rfl) EK.gV (by decide +kernel) rfl) pa_nil))) (pa_cons (pe_callB (call_isX (X := cxK X g cdg s H0) (a := a) (pn := pn) hz hf) (by rfl) T.isinstance (by decide +kernel) (pa_cons (pv 2) (pa_cons (pe_bltn (v := .ty "LookupError") (u := .type "LookupError") (by rfl) EK.gL (by decide +kernel) rfl) pa_nil))) pa_nil))))
          (pss_cons (ps_expr (pe_bm PySem.F.plainAttrs_list PySem.F.slot_list_append PySem.F.type_list_append mt_append (pv 4) (pa_cons (pe_callB (call_isX (X := cxK X g cdg s H0) (a := a) (pn := pn) hz hf) (by rfl) T.isinstance (by decide +kernel) (pa_cons (pv 2) (pa_cons (pe_bltn (v := .ty "ArithmeticError") (u := .type "ArithmeticError") (by rfl) EK.gA (by decide +kernel) rfl) pa_nil))) pa_nil)))
          (pss_cons (ps_set (i := 5) scCaught.nd rfl (.inl rfl) (pe_lst (pa_cons (pe_callB (call_isX (X := cxK X g cdg s H0) (a := a) (pn := pn) hz hf) (by rfl) T.isinstance (by decide +kernel) (pa_cons (pv 2) (pa_cons (pe_glob (v := .ref C1) (by rfl) EK.m1 rfl) pa_nil))) pa_nil)))
          (pss_cons (ps_expr (pe_bm PySem.F.plainAttrs_list PySem.F.slot_list_append PySem.F.type_list_append mt_append (pv 5) (pa_cons (pe_callB (call_isX (X := cxK X g cdg s H0) (a := a) (pn := pn) hz hf) (by rfl) T.isinstance (by decide +kernel) (pa_cons (pv 2) (pa_cons (pe_glob (v := .ref C2) (by rfl) EK.m2 rfl) pa_nil))) pa_nil)))
          (pss_cons (ps_expr (pe_bm PySem.F.plainAttrs_list PySem.F.slot_list_append PySem.F.type_list_append mt_append (pv 5) (pa_cons (pe_callB (call_isX (X := cxK X g cdg s H0) (a := a) (pn := pn) hz hf) (by rfl) T.isinstance (by decide +kernel) (pa_cons (pv 2) (pa_cons (pe_glob (v := .ref C3) (by rfl) EK.m3 rfl) pa_nil))) pa_nil)))
          (pss_cons (ps_if (PW.pt (pw_or (pt_cmpR op_ne (pe_bm PySem.F.plainAttrs_list PySem.F.slot_list_count PySem.F.type_list_count mt_lcountB (pv 5) (pa_cons pe_bl pa_nil)) pe_int (nomark _)) (pw_or (pt_cmpR (op_neD (by show X.A.units + 3 + 64 < cLine; omega)) (pv 3) (pv 4) (nomark _)) (pw_or1 (pt_cmpR op_ne (pe_bm PySem.F.plainAttrs_list PySem.F.slot_list_count PySem.F.type_list_count mt_lcountB (pv 3) (pa_cons pe_bl pa_nil)) pe_int (nomark _)))))) (pss_one (ps_ret (pe_lst (pa_cons pe_str pa_nil)))) pss_nil)
          (pss_cons (ps_set (i := 6) scCaught.nd rfl (.inl rfl) (pe_bm PySem.F.plainAttrs_list PySem.F.slot_list_index PySem.F.type_list_index mt_index (pv 5) (pa_cons pe_bl pa_nil)))
          (pss_cons (ps_if (pt_cmpR op_ne (pe_bm PySem.F.plainAttrs_list PySem.F.slot_list_index PySem.F.type_list_index mt_index (pv 3) (pa_cons pe_bl pa_nil)) (pe_ix ix_list (pe_lst (pa_cons pe_int (pa_cons pe_int (pa_cons pe_int pa_nil)))) (pv 6) (fun _ _ => rfl)) (nomark _)) (pss_one (ps_ret (pe_lst (pa_cons pe_str pa_nil)))) pss_nil)
          (pss_cons (ps_if (pt_cmpR op_eq (pv 6) pe_int (nomark _)) (pss_one (ps_ret (pe_lst (pa_cons pe_str (pa_cons (pe_callB hR (by rfl) T.repr (by decide +kernel) (pa_cons (pe_xf EK.e1.xf EK.i1 hz hf (pv 2)) pa_nil)) pa_nil))))) pss_nil)
          (pss_cons (ps_if (pt_cmpR op_eq (pv 6) pe_int (nomark _)) (pss_one (ps_ret (pe_lst (pa_cons pe_str (pa_cons (pe_callB hR (by rfl) T.repr (by decide +kernel) (pa_cons (pe_xf EK.e2.xf EK.i2 hz hf (pv 2)) pa_nil)) pa_nil))))) pss_nil)
          (pss_one (ps_if (pt_cmpR op_eq (pv 6) pe_int (nomark _)) (pss_one (ps_ret (pe_lst (pa_cons pe_str (pa_cons (pe_callB hR (by rfl) T.repr (by decide +kernel) (pa_cons (pe_xf EK.e3.xf EK.i3 hz hf (pv 2)) pa_nil)) pa_nil))))) pss_nil)))))))))))), ?_⟩
      refine ⟨_, rfl, C2, rfl, eC, _, _, _, dd, _, rfl, rfl, hd, (fun u h => h), k1, _, rfl, C2, rfl, eC, _, _, _, dd, _, rfl, rfl, hd, (fun u h => h), k2, _, rfl, C2, rfl, eC, _, _, _, dd, _, rfl, rfl, hd, (fun u h => h), k3, (by show 3 ≤ sizeLine; decide), fun p3 n3 => ?_⟩
      have s3 : Same H (upd H p3 (.lst [.bl true, .bl false, .bl false])) := same_upd n3
      generalize e3 : upd H p3 (.lst [.bl true, .bl false, .bl false]) = H3 at s3 ⊢
      have h3 : H3 p3 = some (.lst [.bl true, .bl false, .bl false]) := by rw [← e3]; exact upd_same
      clear e3
      have hd3 := s3 _ _ hd
      refine ⟨_, rfl, C2, rfl, eC, _, _, _, dd, _, rfl, rfl, hd3, (fun u h => h), kV, _, rfl, C2, rfl, eC, _, _, _, dd, _, rfl, rfl, hd3, (fun u h => h), kL, (by show 2 ≤ sizeLine; decide), fun p4 n4 => ?_⟩
      have hd4 : upd H3 p4 (.lst [.bl true, .bl false]) dd = some (.xd _) := same_upd n4 _ _ hd3
      refine ⟨_, rfl, .inl ⟨rfl, _, SqL.of upd_same⟩, _, rfl, C2, rfl, eC, _, _, _, dd, _, rfl, rfl, hd4, (fun u h => h), kA, p4, _, _, rfl, rfl, upd_same, (by show 2 < sizeLine; decide), ?_⟩
      have f4 : H p4 = none := same_free s3 n4
      have s4 := grow_keep (H := H3) (p := p4) (xs := [.bl true, .bl false]) (ys := [.bl false])
      generalize e4 : upd (upd H3 p4 (.lst [.bl true, .bl false])) p4 (.lst ([.bl true, .bl false] ++ [.bl false])) = H4 at s4 ⊢
      have h4 : H4 p4 = some (.lst [.bl true, .bl false, .bl false]) := by rw [← e4]; exact upd_same
      clear e4
      have t4 : Same H H4 := fun b o e => s4 b o (ne_of_none e f4) (s3 _ _ e)
      have h43 : H4 p3 = some (.lst [.bl true, .bl false, .bl false]) := s4 _ _ (ne_of_none h3 n4) h3
      have hd5 := t4 _ _ hd
      refine ⟨_, rfl, C2, rfl, eC, _, _, _, dd, _, rfl, rfl, hd5, (fun u h => h), EK.k2_1, (by show 1 ≤ sizeLine; decide), fun p5 n5 => ?_⟩
      have f5 : H p5 = none := same_free t4 n5
      have s5_0 : ∀ b o, b ≠ p5 → H4 b = some o → upd H4 p5 (.lst [.bl false]) b = some o := fun b o n e => by rw [upd_ne n]; exact e
      generalize e5 : upd H4 p5 (.lst [.bl false]) = H5_0 at s5_0 ⊢
      have h5_0 : H5_0 p5 = some (.lst [.bl false]) := by rw [← e5]; exact upd_same
      clear e5
      have hdx1 := s5_0 _ _ (ne_of_none hd5 n5) hd5
      refine ⟨_, rfl, .inl ⟨rfl, _, SqL.of h5_0⟩, _, rfl, C2, rfl, eC, _, _, _, dd, _, rfl, rfl, hdx1, (fun u h => h), EK.k2_2, p5, _, _, rfl, rfl, h5_0, (by show 1 < sizeLine; decide), ?_⟩
      have s5_1 : ∀ b o, b ≠ p5 → H4 b = some o → upd H5_0 p5 (.lst ([.bl false] ++ [.bl true])) b = some o := fun b o n e => by rw [upd_ne n]; exact s5_0 b o n e
      generalize e5 : upd H5_0 p5 (.lst ([.bl false] ++ [.bl true])) = H5_1 at s5_1 ⊢
      have h5_1 : H5_1 p5 = some (.lst [.bl false, .bl true]) := by rw [← e5]; exact upd_same
      clear e5
      have hdx2 := s5_1 _ _ (ne_of_none hd5 n5) hd5
      refine ⟨_, rfl, .inl ⟨rfl, _, SqL.of h5_1⟩, _, rfl, C2, rfl, eC, _, _, _, dd, _, rfl, rfl, hdx2, (fun u h => h), EK.k2_3, p5, _, _, rfl, rfl, h5_1, (by show 2 < sizeLine; decide), ?_⟩
      have s5_2 : ∀ b o, b ≠ p5 → H4 b = some o → upd H5_1 p5 (.lst ([.bl false, .bl true] ++ [.bl false])) b = some o := fun b o n e => by rw [upd_ne n]; exact s5_1 b o n e
      generalize e5 : upd H5_1 p5 (.lst ([.bl false, .bl true] ++ [.bl false])) = H5_2 at s5_2 ⊢
      have h5_2 : H5_2 p5 = some (.lst [.bl false, .bl true, .bl false]) := by rw [← e5]; exact upd_same
      clear e5
      have t5 : Same H H5_2 := fun b o e => s5_2 b o (ne_of_none e f5) (t4 _ _ e)
      have h53 : H5_2 p3 = some (.lst [.bl true, .bl false, .bl false]) := s5_2 _ _ (ne_of_none h43 n5) h43
      have h54 : H5_2 p4 = some (.lst [.bl true, .bl false, .bl false]) := s5_2 _ _ (ne_of_none h4 n5) h4
      have dp : ∀ {p : Addr}, H5_2 p = some (.lst [.bl true, .bl false, .bl false]) → Dp X.K H5_2 (.ref p) (.list [.bool true, .bool false, .bool false]) := fun e => .lst (SqL.of e) (.cons (.bl _) (.cons (.bl _) (.cons (.bl _) .nil)))
      refine ⟨_, rfl, .inl ⟨rfl, _, SqL.of h5_2⟩, p5, [false, true, false], rfl, rfl, SqL.of h5_2, rfl, _, rfl, ?_⟩
      refine iteF ?_
      refine ⟨_, rfl, _, rfl, _, _, dp h53, dp h54, by decide +kernel, by decide +kernel, _, rfl, ?_⟩
      refine iteF ?_
      refine ⟨_, rfl, .inl ⟨rfl, _, SqL.of h53⟩, p3, [true, false, false], rfl, rfl, SqL.of h53, rfl, _, rfl, ?_⟩
      refine iteF ?_
      refine ⟨_, rfl, .inl ⟨rfl, _, SqL.of h5_2⟩, p5, _, _, 1, .bl true, rfl, rfl, SqL.of h5_2, rfl, rfl, rfl, rfl, (fun m z hm hz => first_at (bs := [false, true, false]) (n := 1) (by decide) hm hz), ?_⟩
      refine ⟨_, rfl, .inl ⟨rfl, _, SqL.of h53⟩, p3, _, _, 0, .bl true, rfl, rfl, SqL.of h53, rfl, rfl, rfl, rfl, (fun m z hm => absurd hm (Nat.not_lt_zero m)), (by show 3 ≤ sizeLine; decide), fun p7 n7 => ?_⟩
      have s7 : Same H5_2 (upd H5_2 p7 (.lst [.int 0, .int 0, .int 0])) := same_upd n7
      refine ⟨_, rfl, p7, _, _, .int 0, rfl, rfl, SqL.of upd_same, atI_nat (j := 1) rfl, rfl, _, rfl, ?_⟩
      generalize upd H5_2 p7 (.lst [.int 0, .int 0, .int 0]) = H7 at s7 ⊢
      have t7 : Same H H7 := t5.trans s7
      refine iteF ?_
      refine ⟨_, rfl, rfl, _, rfl, ?_⟩
      refine iteF ?_
      refine ⟨_, rfl, rfl, _, rfl, ?_⟩
      refine iteT ?_
      refine ⟨_, rfl, rfl, rfl, dd, _, v, rfl, t7 _ _ hd, rfl, v, txt, rfl, hS _ _ _ _ t7 hsd, (by show 2 ≤ sizeLine; decide), fun p n => ?_⟩
      exact q p _ (same_free t7 n) (t7.trans (same_upd n)) upd_same
    · have eC := EK.e3.ec
      have k1 : PySem.W.kitOne X.K (.ref C3) (.ref S1) = some true := EK.e3.k1
      have k2 : PySem.W.kitOne X.K (.ref C3) (.ref S2) = some false := EK.e3.k2
      have k3 : PySem.W.kitOne X.K (.ref C3) (.ref S3) = some false := EK.e3.k3
      have kV : PySem.W.kitOne X.K (.ref C3) (.type "ValueError") = some true := EK.e3.kV
      have kL : PySem.W.kitOne X.K (.ref C3) (.type "LookupError") = some false := EK.e3.kL
      have kA : PySem.W.kitOne X.K (.ref C3) (.type "ArithmeticError") = some false := EK.e3.kA
      refine ⟨_, pss_cons (ps_set (i := 3) scCaught.nd rfl (.inl rfl) (pe_lst (pa_cons (pe_callB (call_isX (X := cxK X g cdg s H0) (a := a) (pn := pn) hz hf) (by rfl) T.isinstance (by decide +kernel) (pa_cons (pv 2) (pa_cons (pe_glob (v := .ref S1) (by rfl) EK.g1 rfl) pa_nil))) (pa_cons (pe_callB (call_isX (X := cxK X g cdg s H0) (a := a) (pn := pn) hz hf) (by rfl) T.isinstance (by decide +kernel) (pa_cons (pv 2) (pa_cons (pe_glob (v := .ref S2) (by rfl) EK.g2 rfl) pa_nil))) (pa_cons (pe_callB (call_isX (X := cxK X g cdg s H0) (a := a) (pn := pn) hz hf) (by rfl) T.isinstance (by decide +kernel) (pa_cons (pv 2) (pa_cons (pe_glob (v := .ref S3) (by rfl) EK.g3 rfl) pa_nil))) pa_nil)))))
          (pss_cons (ps_set (i := 4) scCaught.nd rfl (.inl rfl) (pe_lst (pa_cons (pe_callB (call_isX (X := cxK X g cdg s H0) (a := a) (pn := pn) hz hf) (by rfl) T.isinstance (by decide +kernel) (pa_cons (pv 2) (pa_cons (pe_bltn (v := .ty "ValueError") (u := .type "ValueError") (by rfl) EK.gV (by decide +kernel) rfl) pa_nil))) (pa_cons (pe_callB (call_isX (X := cxK X g cdg s H0) (a := a) (pn := pn) hz hf) (by rfl) T.isinstance (by decide +kernel) (pa_cons (pv 2) (pa_cons (pe_bltn (v := .ty "LookupError") (u := .type "LookupError") (by rfl) EK.gL (by decide +kernel) rfl) pa_nil))) pa_nil))))
          (pss_cons (ps_expr (pe_bm PySem.F.plainAttrs_list PySem.F.slot_list_append PySem.F.type_list_append mt_append (pv 4) (pa_cons (pe_callB (call_isX (X := cxK X g cdg s H0) (a := a) (pn := pn) hz hf) (by rfl) T.isinstance (by decide +kernel) (pa_cons (pv 2) (pa_cons (pe_bltn (v := .ty "ArithmeticError") (u := .type "ArithmeticError") (by rfl) EK.gA (by decide +kernel) rfl) pa_nil))) pa_nil)))
          (pss_cons (ps_set (i := 5) scCaught.nd rfl (.inl rfl) (pe_lst (pa_cons (pe_callB (call_isX (X := cxK X g cdg s H0) (a := a) (pn := pn) hz hf) (by rfl) T.isinstance (by decide +kernel) (pa_cons (pv 2) (pa_cons (pe_glob (v := .ref C1) (by rfl) EK.m1 rfl) pa_nil))) pa_nil)))
          (pss_cons (ps_expr (pe_bm PySem.F.plainAttrs_list PySem.F.slot_list_append PySem.F.type_list_append mt_append (pv 5) (pa_cons (pe_callB (call_isX (X := cxK X g cdg s H0) (a := a) (pn := pn) hz hf) (by rfl) T.isinstance (by decide +kernel) (pa_cons (pv 2) (pa_cons (pe_glob (v := .ref C2) (by rfl) EK.m2 rfl) pa_nil))) pa_nil)))
          (pss_cons (ps_expr (pe_bm PySem.F.plainAttrs_list PySem.F.slot_list_append PySem.F.type_list_append mt_append (pv 5) (pa_cons (pe_callB (call_isX (X := cxK X g cdg s H0) (a := a) (pn := pn) hz hf) (by rfl) T.isinstance (by decide +kernel) (pa_cons (pv 2) (pa_cons (pe_glob (v := .ref C3) (by rfl) EK.m3 rfl) pa_nil))) pa_nil)))
          (pss_cons (ps_if (PW.pt (pw_or (pt_cmpR op_ne (pe_bm PySem.F.plainAttrs_list PySem.F.slot_list_count PySem.F.type_list_count mt_lcountB (pv 5) (pa_cons pe_bl pa_nil)) pe_int (nomark _)) (pw_or (pt_cmpR (op_neD (by show X.A.units + 3 + 64 < cLine; omega)) (pv 3) (pv 4) (nomark _)) (pw_or1 (pt_cmpR op_ne (pe_bm PySem.F.plainAttrs_list PySem.F.slot_list_count PySem.F.type_list_count mt_lcountB (pv 3) (pa_cons pe_bl pa_nil)) pe_int (nomark _)))))) (pss_one (ps_ret (pe_lst (pa_cons pe_str pa_nil)))) pss_nil)
          (pss_cons (ps_set (i := 6) scCaught.nd rfl (.inl rfl) (pe_bm PySem.F.plainAttrs_list PySem.F.slot_list_index PySem.F.type_list_index mt_index (pv 5) (pa_cons pe_bl pa_nil)))
          (pss_cons (ps_if (pt_cmpR op_ne (pe_bm PySem.F.plainAttrs_list PySem.F.slot_list_index PySem.F.type_list_index mt_index (pv 3) (pa_cons pe_bl pa_nil)) (pe_ix ix_list (pe_lst (pa_cons pe_int (pa_cons pe_int (pa_cons pe_int pa_nil)))) (pv 6) (fun _ _ => rfl)) (nomark _)) (pss_one (ps_ret (pe_lst (pa_cons pe_str pa_nil)))) pss_nil)
          (pss_cons (ps_if (pt_cmpR op_eq (pv 6) pe_int (nomark _)) (pss_one (ps_ret (pe_lst (pa_cons pe_str (pa_cons (pe_callB hR (by rfl) T.repr (by decide +kernel) (pa_cons (pe_xf EK.e1.xf EK.i1 hz hf (pv 2)) pa_nil)) pa_nil))))) pss_nil)
          (pss_cons (ps_if (pt_cmpR op_eq (pv 6) pe_int (nomark _)) (pss_one (ps_ret (pe_lst (pa_cons pe_str (pa_cons (pe_callB hR (by rfl) T.repr (by decide +kernel) (pa_cons (pe_xf EK.e2.xf EK.i2 hz hf (pv 2)) pa_nil)) pa_nil))))) pss_nil)
          (pss_one (ps_if (pt_cmpR op_eq (pv 6) pe_int (nomark _)) (pss_one (ps_ret (pe_lst (pa_cons pe_str (pa_cons (pe_callB hR (by rfl) T.repr (by decide +kernel) (pa_cons (pe_xf EK.e3.xf EK.i3 hz hf (pv 2)) pa_nil)) pa_nil))))) pss_nil)))))))))))), ?_⟩
      refine ⟨_, rfl, C3, rfl, eC, _, _, _, dd, _, rfl, rfl, hd, (fun u h => h), k1, _, rfl, C3, rfl, eC, _, _, _, dd, _, rfl, rfl, hd, (fun u h => h), k2, _, rfl, C3, rfl, eC, _, _, _, dd, _, rfl, rfl, hd, (fun u h => h), k3, (by show 3 ≤ sizeLine; decide), fun p3 n3 => ?_⟩
      have s3 : Same H (upd H p3 (.lst [.bl true, .bl false, .bl false])) := same_upd n3
      generalize e3 : upd H p3 (.lst [.bl true, .bl false, .bl false]) = H3 at s3 ⊢
      have h3 : H3 p3 = some (.lst [.bl true, .bl false, .bl false]) := by rw [← e3]; exact upd_same
      clear e3
      have hd3 := s3 _ _ hd
      refine ⟨_, rfl, C3, rfl, eC, _, _, _, dd, _, rfl, rfl, hd3, (fun u h => h), kV, _, rfl, C3, rfl, eC, _, _, _, dd, _, rfl, rfl, hd3, (fun u h => h), kL, (by show 2 ≤ sizeLine; decide), fun p4 n4 => ?_⟩
      have hd4 : upd H3 p4 (.lst [.bl true, .bl false]) dd = some (.xd _) := same_upd n4 _ _ hd3
      refine ⟨_, rfl, .inl ⟨rfl, _, SqL.of upd_same⟩, _, rfl, C3, rfl, eC, _, _, _, dd, _, rfl, rfl, hd4, (fun u h => h), kA, p4, _, _, rfl, rfl, upd_same, (by show 2 < sizeLine; decide), ?_⟩
      have f4 : H p4 = none := same_free s3 n4
      have s4 := grow_keep (H := H3) (p := p4) (xs := [.bl true, .bl false]) (ys := [.bl false])
      generalize e4 : upd (upd H3 p4 (.lst [.bl true, .bl false])) p4 (.lst ([.bl true, .bl false] ++ [.bl false])) = H4 at s4 ⊢
      have h4 : H4 p4 = some (.lst [.bl true, .bl false, .bl false]) := by rw [← e4]; exact upd_same
      clear e4
      have t4 : Same H H4 := fun b o e => s4 b o (ne_of_none e f4) (s3 _ _ e)
      have h43 : H4 p3 = some (.lst [.bl true, .bl false, .bl false]) := s4 _ _ (ne_of_none h3 n4) h3
      have hd5 := t4 _ _ hd
      refine ⟨_, rfl, C3, rfl, eC, _, _, _, dd, _, rfl, rfl, hd5, (fun u h => h), EK.k3_1, (by show 1 ≤ sizeLine; decide), fun p5 n5 => ?_⟩
      have f5 : H p5 = none := same_free t4 n5
      have s5_0 : ∀ b o, b ≠ p5 → H4 b = some o → upd H4 p5 (.lst [.bl false]) b = some o := fun b o n e => by rw [upd_ne n]; exact e
      generalize e5 : upd H4 p5 (.lst [.bl false]) = H5_0 at s5_0 ⊢
      have h5_0 : H5_0 p5 = some (.lst [.bl false]) := by rw [← e5]; exact upd_same
      clear e5
      have hdx1 := s5_0 _ _ (ne_of_none hd5 n5) hd5
      refine ⟨_, rfl, .inl ⟨rfl, _, SqL.of h5_0⟩, _, rfl, C3, rfl, eC, _, _, _, dd, _, rfl, rfl, hdx1, (fun u h => h), EK.k3_2, p5, _, _, rfl, rfl, h5_0, (by show 1 < sizeLine; decide), ?_⟩
      have s5_1 : ∀ b o, b ≠ p5 → H4 b = some o → upd H5_0 p5 (.lst ([.bl false] ++ [.bl false])) b = some o := fun b o n e => by rw [upd_ne n]; exact s5_0 b o n e
      generalize e5 : upd H5_0 p5 (.lst ([.bl false] ++ [.bl false])) = H5_1 at s5_1 ⊢
      have h5_1 : H5_1 p5 = some (.lst [.bl false, .bl false]) := by rw [← e5]; exact upd_same
      clear e5
      have hdx2 := s5_1 _ _ (ne_of_none hd5 n5) hd5
      refine ⟨_, rfl, .inl ⟨rfl, _, SqL.of h5_1⟩, _, rfl, C3, rfl, eC, _, _, _, dd, _, rfl, rfl, hdx2, (fun u h => h), EK.k3_3, p5, _, _, rfl, rfl, h5_1, (by show 2 < sizeLine; decide), ?_⟩
      have s5_2 : ∀ b o, b ≠ p5 → H4 b = some o → upd H5_1 p5 (.lst ([.bl false, .bl false] ++ [.bl true])) b = some o := fun b o n e => by rw [upd_ne n]; exact s5_1 b o n e
      generalize e5 : upd H5_1 p5 (.lst ([.bl false, .bl false] ++ [.bl true])) = H5_2 at s5_2 ⊢
      have h5_2 : H5_2 p5 = some (.lst [.bl false, .bl false, .bl true]) := by rw [← e5]; exact upd_same
      clear e5
      have t5 : Same H H5_2 := fun b o e => s5_2 b o (ne_of_none e f5) (t4 _ _ e)
      have h53 : H5_2 p3 = some (.lst [.bl true, .bl false, .bl false]) := s5_2 _ _ (ne_of_none h43 n5) h43
      have h54 : H5_2 p4 = some (.lst [.bl true, .bl false, .bl false]) := s5_2 _ _ (ne_of_none h4 n5) h4
      have dp : ∀ {p : Addr}, H5_2 p = some (.lst [.bl true, .bl false, .bl false]) → Dp X.K H5_2 (.ref p) (.list [.bool true, .bool false, .bool false]) := fun e => .lst (SqL.of e) (.cons (.bl _) (.cons (.bl _) (.cons (.bl _) .nil)))
      refine ⟨_, rfl, .inl ⟨rfl, _, SqL.of h5_2⟩, p5, [false, false, true], rfl, rfl, SqL.of h5_2, rfl, _, rfl, ?_⟩
      refine iteF ?_
      refine ⟨_, rfl, _, rfl, _, _, dp h53, dp h54, by decide +kernel, by decide +kernel, _, rfl, ?_⟩
      refine iteF ?_
      refine ⟨_, rfl, .inl ⟨rfl, _, SqL.of h53⟩, p3, [true, false, false], rfl, rfl, SqL.of h53, rfl, _, rfl, ?_⟩
      refine iteF ?_
      refine ⟨_, rfl, .inl ⟨rfl, _, SqL.of h5_2⟩, p5, _, _, 2, .bl true, rfl, rfl, SqL.of h5_2, rfl, rfl, rfl, rfl, (fun m z hm hz => first_at (bs := [false, false, true]) (n := 2) (by decide) hm hz), ?_⟩
      refine ⟨_, rfl, .inl ⟨rfl, _, SqL.of h53⟩, p3, _, _, 0, .bl true, rfl, rfl, SqL.of h53, rfl, rfl, rfl, rfl, (fun m z hm => absurd hm (Nat.not_lt_zero m)), (by show 3 ≤ sizeLine; decide), fun p7 n7 => ?_⟩
      have s7 : Same H5_2 (upd H5_2 p7 (.lst [.int 0, .int 0, .int 0])) := same_upd n7
      refine ⟨_, rfl, p7, _, _, .int 0, rfl, rfl, SqL.of upd_same, atI_nat (j := 2) rfl, rfl, _, rfl, ?_⟩
      generalize upd H5_2 p7 (.lst [.int 0, .int 0, .int 0]) = H7 at s7 ⊢
      have t7 : Same H H7 := t5.trans s7
      refine iteF ?_
      refine ⟨_, rfl, rfl, _, rfl, ?_⟩
      refine iteF ?_
      refine ⟨_, rfl, rfl, _, rfl, ?_⟩
      refine iteF ?_
      refine ⟨_, rfl, rfl, _, rfl, ?_⟩
      refine iteT ?_
      refine ⟨_, rfl, rfl, rfl, dd, _, v, rfl, t7 _ _ hd, rfl, v, txt, rfl, hS _ _ _ _ t7 hsd, (by show 2 ≤ sizeLine; decide), fun p n => ?_⟩
      exact q p _ (same_free t7 n) (t7.trans (same_upd n)) upd_same
  exact ht.run pins s' _ H D I hq
theorem caught_gives {g S1 S2 S3 C1 C2 C3 : Addr} {cdg : Value} {q : Str} (hgd : X.A.guards = some []) (hu : X.A.units + 300 < cLine) (T : Free X.mg) (EK : ErrK X.K X.mg S1 S2 S3 C1 C2 C3) {SV : Hp → V → Str → Prop} (hS : ∀ H H' v x, Same H H' → SV H v x → SV H' v x)
    (hR : ∀ (s : Shared) (H : Hp) (a : Addr) (oe : Obj) (pn : List (Addr × Obj)), CallR ((cxK X g cdg s H).suite a ((a, oe) :: pn)) (.builtin "repr") (rSV SV)) :
    LamX.GivesTo X nmCaught "_law_caught" (defScope sCaught) g cdg (defBody sCaught) "_law_ask" q (TTc SV C1 C2 C3) := by
  intro f c' s H Q tl act hc h
  refine ⟨_, pss_cons (ps_try_as3 (X := cxK X g cdg s H) (i := 2) (c1 := .ref S1) (c2 := .ref S2) (c3 := .ref S3)
      (tb := fun W D σ H => ∃ Ech : XK, (∀ cls d σ' H', Ech cls d H' → W cls d σ' H') ∧ σ[0]? = some (some (.ref f)) ∧ H c' = some (LamX.CodeO c' q) ∧ ∀ Q', tl Ech H Q')
      (ts := fun a cls d => tCau SV C1 C2 C3 a cls d)
      rfl rfl scCaught.nd rfl rfl ⟨by rfl, by decide, .inl EK.g1⟩ ⟨by rfl, by decide, .inl EK.g2⟩ ⟨by rfl, by decide, .inl EK.g3⟩ (fun W pn xe tk _ => ⟨fun pins s' σ H' D I h' => ?_⟩)
      (fun a oe cls d pn hz hf => suite_ok hgd hu T EK hS hz hf (hR s H a oe pn)))
    (pss_one (ps_ret (pe_lst (pa_cons pe_str (pa_cons (pe_callB (RpD.call_reprD (by exact hgd) (by show X.A.units + 3 + 100 < cLine; omega)) (by rfl) T.repr (by decide +kernel) (pa_cons (pv 1) pa_nil)) pa_nil))))), ?_⟩
  · obtain ⟨Ech, hW, h1, h2, h3⟩ := id h'
    exact (pss_one (ps_set (i := 1) scCaught.nd rfl (.inl rfl) (act W pn xe Ech _ _ tk hW))).run pins s' σ H' D I ⟨h1, h2, h3 _⟩
  · refine ⟨Told SV C1 C2 C3 Q, fun cls d σ' H' told => ?_, rfl, hc, h⟩
    have told2 := told
    rcases told2 with ⟨dd, v, txt, nm, rfl, hsd, (⟨rfl, rfl, hd⟩ | ⟨rfl, rfl, hd⟩ | ⟨rfl, rfl, hd⟩), q⟩ | ⟨nm, rfl, (⟨⟩), q⟩
    · exact ⟨EK.e1.kx, fun a na => ⟨⟨_, rfl⟩, told⟩⟩
    · exact ⟨EK.e2.kx, fun a na => ⟨⟨_, rfl⟩, told⟩⟩
    · exact ⟨EK.e3.kx, fun a na => ⟨⟨_, rfl⟩, told⟩⟩
end
end K1

namespace K1
open PySem PySem.Spec
open PyProof.Rows L2 L2H EnT StX SmX TxS DuX XdI Tr3 CnB ClX
/-- the Members at m are those of a list of names -/
def MemL (C : Addr) (H : Hp) (m : Addr) (ns : List Str) : Prop := ∃ ys, MemAt C H m ys ∧ ∀ x, x ∈ ys ↔ x ∈ ns
theorem MemL.same {C m : Addr} {H H' : Hp} {ns : List Str} (s : Same H H') (h : MemL C H m ns) : MemL C H' m ns := by
  obtain ⟨ys, a, b⟩ := h
  exact ⟨ys, a.same s, b⟩
theorem MemL.set {C m t : Addr} {H : Hp} {ns : List Str} {xs : List V} {o : HO} (h : H t = some (.lst xs)) (g : MemL C H m ns) : MemL C (upd H t o) m ns := by
  obtain ⟨ys, a, b⟩ := g
  exact ⟨ys, a.set h, b⟩
theorem paired_gr {α β : Type} {F : α → β → Prop} : ∀ {xs : List α} {ys : List β}, Paired F xs ys → ∀ {i : Nat} {y : β}, ys[i]? = some y → ∃ x, xs[i]? = some x ∧ F x y
  | _, _, .nil, i, x, h => by cases h
  | _, _, .cons r t, 0, x, h => by
    cases Option.some.inj h
    exact ⟨_, rfl, r⟩
  | _, _, .cons r t, i + 1, x, h => paired_gr t h
theorem paired_gl {α β : Type} {F : α → β → Prop} : ∀ {xs : List α} {ys : List β}, Paired F xs ys → ∀ {i : Nat} {x : α}, xs[i]? = some x → ∃ y, ys[i]? = some y ∧ F x y
  | _, _, .nil, i, x, h => by cases h
  | _, _, .cons r t, 0, x, h => by
    cases Option.some.inj h
    exact ⟨_, rfl, r⟩
  | _, _, .cons r t, i + 1, x, h => paired_gl t h
/-- pairs of fields and Members, made of the rows -/
def PairR (C : Addr) (H : Hp) (es : List (Str × Addr)) (rs : List Rw3) : Prop := Paired (fun e r => e.1 = r.1 ∧ MemL C H e.2 r.2.2) es rs
theorem entsR_at {rs : List Rw3} {i : Nat} {r : Rw3} (nd : (rs.map (·.1)).Nodup) (h : rs[i]? = some r) : valV (entsR rs) (Sum.inr r.1 : Key) = some (.ref r.2.1) := by
  induction rs generalizing i with
  | nil => cases h
  | cons q l ih =>
    have nd := List.nodup_cons.mp nd
    cases i with
    | zero =>
      cases Option.some.inj h
      exact valV_pos rfl
    | succ i =>
      have h : l[i]? = some r := h
      show valV ((Sum.inr q.1, V.ref q.2.1) :: entsR l) (Sum.inr r.1 : Key) = _
      rw [valV_neg (fun e => nd.1 (by
        have e : q.1 = r.1 := Sum.inr.inj e
        show q.1 ∈ _
        rw [e]
        exact List.mem_map.mpr ⟨r, List.mem_of_getElem? h, rfl⟩))]
      exact ih nd.2 h
/-- the fields whose list has a name -/
def amF (rs : List Rw3) (x : Str) : List Str := (rs.filter fun r => decide (x ∈ r.2.2)).map (·.1)
def wants (rs : List Rw3) (G : List Str) (t : Fm) (x : Str) : Bool := t.val (inF (decide (x ∈ G)) (amF rs x))
def outA (rs : List Rw3) (z : Str) (i : Nat) : List V := ((rs.take i).filter fun r => decide (z ∈ r.2.2)).map fun r => V.str r.1
theorem outA_yes {rs : List Rw3} {z : Str} {i : Nat} {r : Rw3} (h : rs[i]? = some r) (k : z ∈ r.2.2) : outA rs z (i + 1) = outA rs z i ++ [V.str r.1] := by
  unfold outA
  rw [List.take_add_one, h, List.filter_append, List.map_append]
  simp [k]
theorem outA_no {rs : List Rw3} {z : Str} {i : Nat} {r : Rw3} (h : rs[i]? = some r) (k : ¬ z ∈ r.2.2) : outA rs z (i + 1) = outA rs z i := by
  unfold outA
  rw [List.take_add_one, h, List.filter_append, List.map_append]
  simp [k]
theorem outA_len {rs : List Rw3} {z : Str} {i : Nat} (h : rs.length ≤ 100) : (outA rs z i).length < sizeLine := by
  unfold outA
  rw [List.length_map, sizeLine_eq]
  have h1 := List.length_filter_le (fun r : Rw3 => decide (z ∈ r.2.2)) (rs.take i)
  rw [List.length_take] at h1
  omega
theorem outA_end {rs : List Rw3} {z : Str} {n : Nat} (h : n = rs.length) : outA rs z n = (amF rs z).map V.str := by
  unfold outA amF
  rw [h, List.take_length, List.map_map]
  rfl
def fgR (rs : List Rw3) (z x : Str) : Bool := decide (z ∈ amF rs x)
theorem amF_mem {rs : List Rw3} {z x : Str} : z ∈ amF rs x ↔ ∃ r ∈ rs, r.1 = z ∧ x ∈ r.2.2 := by
  unfold amF
  rw [List.mem_map]
  constructor
  · rintro ⟨r, h, e⟩
    obtain ⟨a, b⟩ := List.mem_filter.mp h
    exact ⟨r, a, e, of_decide_eq_true b⟩
  · rintro ⟨r, h, e, g⟩
    exact ⟨r, List.mem_filter.mpr ⟨h, decide_eq_true g⟩, e⟩
theorem key_one {rs : List Rw3} (nd : (rs.map (·.1)).Nodup) : ∀ {i : Nat} {r q : Rw3}, rs[i]? = some r → q ∈ rs → q.1 = r.1 → q = r := by
  induction rs with
  | nil => intro i r q h; cases h
  | cons a l ih =>
    have nd := List.nodup_cons.mp nd
    intro i r q h hq e
    cases i with
    | zero =>
      cases Option.some.inj h
      rcases List.mem_cons.mp hq with z | z
      · exact z
      · exact absurd (show a.1 ∈ l.map (·.1) by rw [← e]; exact List.mem_map.mpr ⟨q, z, rfl⟩) nd.1
    | succ i =>
      have h : l[i]? = some r := h
      rcases List.mem_cons.mp hq with z | z
      · exact absurd (show a.1 ∈ l.map (·.1) by rw [← z, e]; exact List.mem_map.mpr ⟨r, List.mem_of_getElem? h, rfl⟩) nd.1
      · exact ih nd.2 h z e
theorem amF_at {rs : List Rw3} (nd : (rs.map (·.1)).Nodup) {i : Nat} {r : Rw3} (h : rs[i]? = some r) (x : Str) : r.1 ∈ amF rs x ↔ x ∈ r.2.2 := by
  rw [amF_mem]
  constructor
  · rintro ⟨q, hq, e, g⟩
    rw [key_one nd h hq e] at g
    exact g
  · exact fun g => ⟨r, List.mem_of_getElem? h, rfl, g⟩
theorem wants_of {rs : List Rw3} {G : List Str} (hf : ∀ r ∈ rs, nameB r.1 = true ∧ fieldB r.1 = true) (t : Fm) (x : Str) : (t.val fun z => lkG (fun x => decide (x ∈ G)) (fgR rs) z x) = wants rs G t x := by
  unfold wants
  congr 1
  funext z
  unfold lkG inF fgR
  by_cases e : z = tNone
  · rw [if_pos e, e, if_neg (by decide +kernel)]
    refine (decide_eq_false fun h => ?_).symm
    obtain ⟨r, hr, e2, _⟩ := amF_mem.mp h
    exact (fld_ne (hf r hr).2).1 e2
  · rw [if_neg e]
end K1

namespace K1
open PySem PySem.Spec
open PyProof.Rows L2 EnT StX SmX TxS DuX ClX
/-! ### the law's own look-up of a fact -/
def keptP (rs : List Rw3) (G : List Str) (t u : Fm) (x : Str) : Bool := !(wants rs G t x) || wants rs G u x
def spKeptL : Sp := fun vs H Q _ => ∃ (v1 v2 : V) (t u : Fm) (d b g p : Addr) (rs : List Rw3) (N M G : List Str), vs = [v1, v2, .ref d, .ref b, .ref g] ∧ FmAt H v1 t ∧ t.Ok ∧ t.dep ≤ 7 ∧ FmAt H v2 u ∧ u.Ok ∧ u.dep ≤ 7 ∧ KnownAt H d p rs M ∧ rs.length ≤ 100 ∧ (rs.map (·.1)).Nodup ∧
  H b = some (.lst (N.map V.str)) ∧ H g = some (.lst (G.map V.str)) ∧ ∀ H', Same H H' → Q (.bl (N.all (keptP rs G t u))) H'
abbrev nmKp : List Str := ["_law_low", "_law_high", "_law_known", "_law_people", "_law_some", "_law_name", "_law_among", "_law_field"]
theorem all_no {N : List Str} {f : Str → Bool} {i : Nat} {z : Str} (h : N[i]? = some z) (e : f z = false) : N.all f = false := by
  cases k : N.all f with
  | false => rfl
  | true =>
    have := List.all_eq_true.mp k z (List.mem_of_getElem? h)
    rw [e] at this
    cases this
section
variable {w : World} {P : Program} {base : Heap} {mg : Str → Option Value} {K : PySem.W.Frag}
theorem scKp : FnScope nmKp ["_law_low", "_law_high", "_law_known", "_law_people", "_law_some"] (defScope s_L_kept) := ⟨rfl, rfl, rfl, by decide +kernel, rfl, by decide +kernel, by decide +kernel⟩
theorem ok_keptL {f f1 : Addr} {fd : FuncData} (F : Fun K "_law_kept" "_law_kept" s_L_kept f fd) (T : Free mg) (hI : Has P w K mg base CX0 8 "_law_in" f1 ["_law_shape", "_law_among", "_law_gotten"] (spIn 7)) :
    FnOk P w K mg base CX0 9 f fd ["_law_low", "_law_high", "_law_known", "_law_people", "_law_some"] spKeptL := by
  refine F.ok scKp (fun vs H Q E h => ?_) (fun cdv A outer s H vs Q E hr h => ?_)
  · obtain ⟨v1, v2, t, u, d, b, g, p, rs, N, M, G, rfl, _⟩ := h
    rfl
  · obtain ⟨v1, v2, t, u, d, b, g, p, rs, N, M, G, rfl, m1, ok1, d1, m2, ok2, d2, kn, lr, nd, hb, hg, q⟩ := h
    refine ⟨_, pss_cons (ps_for PassesOwn.never rfl (pi_list (pv 3)) (pg_name (i := 5) scKp.nd rfl (.inr rfl))
        (pss_cons (ps_setLc (i := 6) (own := [("_law_field", 7)]) (g := gName 7) (tt := tTest (tOp (rIn K false) (tVar 5) (tDGet (tVar 2) (tVar 7)))) (te := tVar 7) rfl scKp.nd rfl rfl (sw_true rfl rfl rfl (by decide +kernel)) (pi_list (pe_listKeys rfl (pv 2) (by rfl) T.list rfl))
            (blkOk_by (own := [("_law_field", 7)]) (N := nmKp) (sc := defScope s_L_kept) (by decide +kernel)) (fun _ _ _ _ _ => pg_name (i := 7) scKp.nd rfl (Or.inl rfl))
            (fun _ _ _ _ _ => pts_one (pt_cmpR op_in_seq (pv 5) (pe_dget (hu_of hr) (pv 2) (pv 7) (fun _ _ => rfl)) (by rfl))) (fun _ _ _ _ _ => pv 7))
        (pss_one (ps_if (PW.pt (pw_and (pt_val (pe_has hI hr (by rfl) pass0 (pa_cons (pv 0) (pa_cons (pv 6) (pa_cons (pe_cmpR op_in_seq (pv 5) (pv 4) (by rfl)) pa_nil)))))
            (pw_and1 (pt_not (pt_val (pe_has hI hr (by rfl) pass0 (pa_cons (pv 1) (pa_cons (pv 6) (pa_cons (pe_cmpR op_in_seq (pv 5) (pv 4) (by rfl)) pa_nil)))))))))
          (pss_one (ps_ret pe_bl)) pss_nil))))
      (pss_one (ps_ret pe_bl)), ?_⟩
    refine ⟨_, rfl, b, rfl, ⟨_, SqL.of hb⟩, ?_⟩
    refine for_it (walk_list (xs := N.map V.str)) (fun i σ H' => Same H H' ∧ (∀ z ∈ N.take i, keptP rs G t u z = true) ∧ ∃ o5 o6 o7, σ = [some v1, some v2, some (.ref d), some (.ref b), some (.ref g), o5, o6, o7]) ?_ ?_ ?_ ?_
    · exact ⟨Same.refl H, fun z hz => by simp at hz, _, _, _, rfl⟩
    · rintro i σ H' _ ⟨sm, _⟩
      exact SqL.of (sm _ _ hb)
    · rintro i x σ H1 H2 hi ⟨sm, hA, o5, o6, o7, rfl⟩ ⟨rfl, ey⟩
      obtain ⟨z, ez, rfl⟩ : ∃ z, N[i]? = some z ∧ x = V.str z := by
        rw [List.getElem?_map] at ey
        cases e : N[i]? with
        | none => rw [e] at ey; cases ey
        | some z => rw [e] at ey; exact ⟨z, rfl, (Option.some.inj ey).symm⟩
      have et : N.take (i + 1) = N.take i ++ [z] := by rw [List.take_add_one, ez]; rfl
      refine ⟨_, rfl, d, entsR rs, rfl, sm _ _ kn.d, fun kq nk => ?_⟩
      have ek : (entsR rs).map (fun kv => kV kv.1) = rs.map fun r => V.str r.1 := by
        unfold entsR
        rw [List.map_map]
        rfl
      rw [ek]
      have sk : Same H2 (upd H2 kq (.lst (rs.map fun r => V.str r.1))) := same_upd nk
      have hk : (upd H2 kq (.lst (rs.map fun r => V.str r.1))) kq = some (.lst (rs.map fun r => V.str r.1)) := upd_same
      generalize upd H2 kq (.lst (rs.map fun r => V.str r.1)) = HK at sk hk ⊢
      have s1 := sm.trans sk
      refine ⟨kq, rfl, ⟨_, SqL.of hk⟩, fun D nD => ?_⟩
      refine lc_pure (K := K) (a := kq) (xs := rs.map fun r => V.str r.1) (outA rs z) (fun H' s => SqL.of (s _ _ hk)) nD rfl (fun j x hx s2 => ?_) (fun H3 s3 h3 => ?_)
      · obtain ⟨r, er, rfl⟩ : ∃ r, rs[j]? = some r ∧ x = V.str r.1 := by
          rw [List.getElem?_map] at hx
          cases e : rs[j]? with
          | none => rw [e] at hx; cases hx
          | some r => rw [e] at hx; exact ⟨r, rfl, (Option.some.inj hx).symm⟩
        obtain ⟨hL, _, _⟩ := kn.l r (List.mem_of_getElem? er)
        have s3 := s1.trans s2
        have dg : DGet (upd HK D (.lst (outA rs z j))) d (.str r.1) (some (.ref r.2.1)) := by
          have y := DGet.k (k := (Sum.inr r.1 : Key)) (s3 _ _ kn.d)
          rw [entsR_at nd er] at y
          exact y
        refine ⟨rfl, _, rfl, _, rfl, _, rfl, d, _, rfl, dg, r.2.1, r.2.2.map V.str, rfl, .inl (SqL.of (s3 _ _ hL)), rfl, strs_flat _, ?_⟩
        refine ⟨_, rfl, ?_⟩
        have ei : (if false = true then !inV (V.str z) (r.2.2.map V.str) else inV (V.str z) (r.2.2.map V.str)) = decide (z ∈ r.2.2) := inV_mem z r.2.2
        rw [ei]
        by_cases hz : z ∈ r.2.2
        · rw [decide_eq_true hz]
          exact iteT ⟨_, rfl, step_ok (outA_len lr) (outA_yes er hz)⟩
        · rw [decide_eq_false hz]
          exact iteF (step_no (outA_no er hz).symm.symm)
      · rw [outA_end (List.length_map ..)] at h3
        have s4 := s1.trans s3
        have ei : (if false = true then !inV (V.str z) (G.map V.str) else inV (V.str z) (G.map V.str)) = decide (z ∈ G) := inV_mem z G
        refine ⟨_, rfl, _, rfl, _, rfl, _, rfl, g, G.map V.str, rfl, .inl (SqL.of (s4 _ _ hg)), rfl, strs_flat G, ?_⟩
        rw [ei]
        refine ⟨v1, t, D, decide (z ∈ G), amF rs z, rfl, m1.same s4, ok1, by omega, h3, fun H4 s5 => ?_⟩
        have s6 := s4.trans s5
        refine ⟨_, rfl, ?_⟩
        have w1 : t.val (inF (decide (z ∈ G)) (amF rs z)) = wants rs G t z := rfl
        have w2 : u.val (inF (decide (z ∈ G)) (amF rs z)) = wants rs G u z := rfl
        rw [w1]
        have go : keptP rs G t u z = true → ∀ H5, Same H4 H5 → ∃ o5 o6 o7, Same H H5 ∧ (∀ y ∈ N.take (i + 1), keptP rs G t u y = true) ∧ ([some v1, some v2, some (.ref d), some (.ref b), some (.ref g), some (V.str z), some (V.ref D), none] : L2.St) = [some v1, some v2, some (.ref d), some (.ref b), some (.ref g), o5, o6, o7] := fun hk H5 s7 => by
          refine ⟨_, _, _, s6.trans s7, fun y hy => ?_, rfl⟩
          rw [et] at hy
          rcases List.mem_append.mp hy with h | h
          · exact hA y h
          · rw [List.mem_singleton.mp h]
            exact hk
        cases hw : wants rs G t z with
        | false =>
          refine iteF ⟨s6, fun y hy => ?_, _, _, _, rfl⟩
          rw [et] at hy
          rcases List.mem_append.mp hy with h | h
          · exact hA y h
          · rw [List.mem_singleton.mp h]
            unfold keptP
            rw [hw]
            rfl
        | true =>
          refine iteT ⟨_, rfl, _, rfl, _, rfl, _, rfl, g, G.map V.str, rfl, .inl (SqL.of (s6 _ _ hg)), rfl, strs_flat G, ?_⟩
          rw [ei]
          refine ⟨v2, u, D, decide (z ∈ G), amF rs z, rfl, m2.same s6, ok2, by omega, s5 _ _ h3, fun H5 s7 => ?_⟩
          refine ⟨_, rfl, ?_⟩
          rw [w2]
          cases hw2 : wants rs G u z with
          | true =>
            refine iteF ⟨s6.trans s7, fun y hy => ?_, _, _, _, rfl⟩
            rw [et] at hy
            rcases List.mem_append.mp hy with h | h
            · exact hA y h
            · rw [List.mem_singleton.mp h]
              unfold keptP
              rw [hw2, Bool.or_true]
          | false =>
            have z0 : N.all (keptP rs G t u) = false := all_no ez (by unfold keptP; rw [hw, hw2]; rfl)
            have q2 := q H5 (s6.trans s7)
            rw [z0] at q2
            exact iteT q2
    · rintro σ H' ⟨sm, hA, o5, o6, o7, rfl⟩
      rw [List.length_map, List.take_length] at hA
      have q2 := q H' sm
      rw [List.all_eq_true.mpr hA] at q2
      exact q2
end
end K1

namespace K1
open PySem PySem.Spec
open PyProof.Rows L2 L2H EnT StX SmX TxS DuX XdI Tr3 CnB ClX
theorem low_app {x y : Str} (hx : ∀ c ∈ x.cps.toList, c < 128) (hy : ∀ c ∈ y.cps.toList, c < 128) : ∀ c ∈ (x ++ y).cps.toList, c < 128 := by
  intro c hc
  have e : (x ++ y).cps.toList = x.cps.toList ++ y.cps.toList := TL.tl_append x y
  rw [e] at hc
  rcases List.mem_append.mp hc with q | q
  · exact hx c q
  · exact hy c q
theorem txt_low : ∀ (b : Bool) {t : Fm}, t.Ok → ∀ c ∈ (t.txt b).cps.toList, c < 128
  | b, .leaf z, h => by
    have e : (Fm.leaf z).txt b = z := by cases b <;> rfl
    rw [e]
    exact name_low h
  | b, .node s l r, h => by
    have a := txt_low true h.2.1
    have d := txt_low true h.2.2
    have g := sign_low h.1
    have sp : ∀ c ∈ (" " : Str).cps.toList, c < 128 := by decide +kernel
    have op : ∀ c ∈ ("(" : Str).cps.toList, c < 128 := by decide +kernel
    have cl : ∀ c ∈ (")" : Str).cps.toList, c < 128 := by decide +kernel
    have m := low_app (low_app (low_app (low_app a sp) g) sp) d
    cases b
    · exact m
    · exact low_app (low_app op m) cl
theorem eqv_dec {t u : Fm} (h : t.Ok) : (PyData.eqv t.dat u.dat = true ∧ t = u) ∨ (PyData.eqv t.dat u.dat = false ∧ t ≠ u) := by
  cases e : PyData.eqv t.dat u.dat with
  | true => exact .inl ⟨rfl, Fm.eqv_eq e⟩
  | false =>
    refine .inr ⟨rfl, fun q => ?_⟩
    rw [← q, Fm.eqv_self h] at e
    cases e
theorem ef_within (v : V) (t : Fm) (fl : Addr) : (eflds v t fl).lookup ("within" : Str) = none := by
  unfold eflds
  rw [lookup_putF, if_neg (by decide +kernel), lookup_putF, if_neg (by decide +kernel), lookup_putF, if_neg (by decide +kernel), lookup_putF, if_neg (by decide +kernel), lookup_putF, if_neg (by decide +kernel)]
  rfl
theorem tag_ne {z w : Str} (h : Tag z) (hw : 3 < w.length) : z ≠ w := fun e => by
  have a := h.hi
  rw [← len_tl, e] at a
  omega
theorem tag_fld {z : Str} (h : Tag z) : fieldB z = true := decide_eq_true ⟨tag_ne h (by decide +kernel), tag_ne h (by decide +kernel)⟩
end K1

namespace K1
open PySem PySem.Spec
open PyProof.Rows L2 EnT StX SmX TxS DuX ClX
/-! ### one fact: what is known, its names -/
structure Fk (P : Program) (w : World) (K : PySem.W.Frag) (mg : Str → Option Value) (base : Heap) (CE C CN CM CS CU D : Addr) (mc : Value) : Prop where
  T : Free mg
  M : ExpC K mg CE
  I : IsC K CE
  crD : CRead K D mc
  mkE : ∃ f, Mk K CE f ∧ FnR P w K mg base CX0 11 f (spInitE CE)
  read : ∃ p g fd gg, SMet K D mc "read" p g ∧ TkX.FnT P w K mg base 14 g fd ["text"] (spReadF CE D) ∧ L2.Binds K fd ["text"] [] ∧ KBn K fd ["text"] 0 ["text"] gg fun _ zs => zs
  pS : Pp P w K mg base CE "fields" "_fields"
  strE : ∃ g, OwnM K CE "__str__" g ∧ FnR P w K mg base CX0 19 g (spStrE CE)
  eqE : ∃ g, OwnM K CE "__eq__" g ∧ FnR P w K mg base CX0 3 g (spEqE K CE)
  nf : PySem.W.notFirst K CE (.ref CE) = true
  neE : NeM K CE
  F : FacC K mg D
  J : IsC K D
  nfF : PySem.W.notFirst K D (.ref D) = true
  neD : NeM K D
  mkF : ∃ f, Mk K D f ∧ FnR P w K mg base CX0 2 f (spInitF CE D)
  strF : ∃ g, OwnM K D "__str__" g ∧ FnR P w K mg base CX0 21 g (spStrF CE D)
  repF : ∃ g, OwnM K D "__repr__" g ∧ FnR P w K mg base CX0 21 g (spReprF CE D)
  eqF : ∃ g, OwnM K D "__eq__" g ∧ FnR P w K mg base CX0 4 g (spEqF CE D)
  pLe : Pp P w K mg base D "left" "_left"
  pRi : Pp P w K mg base D "right" "_right"
  pFo : ∃ p g fd, PropOf K D "form" p g ∧ FnOk P w K mg base CX0 3 g fd ["self"] (spFormF CE D) ∧ L2.Binds K fd ["self"] []
  pFi : ∃ p g fd, PropOf K D "fields" p g ∧ FnOk P w K mg base CX0 4 g fd ["self"] (spFieldsFa CE D) ∧ L2.Binds K fd ["self"] []
  pGi : ∃ p g fd, PropOf K D "has_given" p g ∧ FnOk P w K mg base CX0 3 g fd ["self"] (spGivenF CE D) ∧ L2.Binds K fd ["self"] []
  kept : ∃ g fd, Meth K D "is_kept" g ∧ FunD K "is_kept" "Fact.is_kept" (defArgs sKept) (defBody sKept) (defScope sKept) [] [("given", .non)] g fd ∧ FnOk P w K mg base (L2.CX P w) 19 g fd ["self", "sets", "given"] (spKept K CE D C CS CM CU)
  B : Mb P w K mg base C CN CM mc
  words : ∃ f, Has P w K mg base CX0 7 "_law_words" f ["_law_shape"] (spLeaves 7)
  keptL : ∃ f, Has P w K mg base CX0 9 "_law_kept" f ["_law_low", "_law_high", "_law_known", "_law_people", "_law_some"] spKeptL
abbrev nmO : List Str := ["_law_low", "_law_high", "_law_known", "_law_people", "_law_some", "_law_fact", "_law_words_here", "_law_tags", "_law_line", "_law_told", "_law_pairs", "_law_gotten", "_law_due", "_law_word", "_law_field"]
theorem scO : FnScope nmO ["_law_low", "_law_high", "_law_known", "_law_people", "_law_some"] (defScope s_L_one_right) := ⟨rfl, rfl, rfl, by decide +kernel, rfl, by decide +kernel, by decide +kernel⟩
abbrev cxO (P : Program) (w : World) (K : PySem.W.Frag) (mg : Str → Option Value) (base : Heap) (f : Addr) (cdv : Value) (A : Around) (outer : List Env) (s : Shared) (H : Hp) : Cx := (cxOf CX0 P w K mg base nmO "_law_one_right" (defScope s_L_one_right) f cdv A outer s H E0).nox
def oRest (i : Nat) : List Stmt := (defBody s_L_one_right).drop i
/-- what one fact is asked about -/
structure OneI (C d b g p : Addr) (v1 v2 : V) (t u : Fm) (rs : List Rw3) (N G : List Str) (H : Hp) : Prop where
  m1 : FmAt H v1 t
  m2 : FmAt H v2 u
  ok1 : t.Ok
  ok2 : u.Ok
  d1 : t.dep ≤ 6
  d2 : u.dep ≤ 6
  kn : KnownAt H d p rs N
  lr : rs.length ≤ 20
  rn : rs ≠ []
  nd : (rs.map (·.1)).Nodup
  rf : ∀ r ∈ rs, nameB r.1 = true ∧ fieldB r.1 = true
  hb : H b = some (.lst (N.map V.str))
  lN : N.length ≤ 60
  nN : ∀ z ∈ N, nameB z = true
  hg : H g = some (.lst (G.map V.str))
  lG : G.length ≤ 60
  gN : ∀ z ∈ G, z ∈ N
  cov : ∀ z, z ∈ t.lvs ∨ z ∈ u.lvs → fieldB z = true → z ∈ rs.map (·.1)
theorem OneI.same {C d b g p : Addr} {v1 v2 : V} {t u : Fm} {rs : List Rw3} {N G : List Str} {H H' : Hp} (s : Same H H') (k : OneI C d b g p v1 v2 t u rs N G H) : OneI C d b g p v1 v2 t u rs N G H' :=
  { k with m1 := k.m1.same s, m2 := k.m2.same s, hb := s _ _ k.hb, hg := s _ _ k.hg, kn := ⟨s _ _ k.kn.d, fun r hr => ⟨s _ _ (k.kn.l r hr).1, (k.kn.l r hr).2⟩⟩ }
def spOneF (C : Addr) : Sp := fun vs H Q _ => ∃ (d b g p : Addr) (v1 v2 : V) (t u : Fm) (rs : List Rw3) (N G : List Str), vs = [v1, v2, .ref d, .ref b, .ref g] ∧ OneI C d b g p v1 v2 t u rs N G H ∧ ∀ H', Same H H' → Q (.bl true) H'
def gvB (t u : Fm) : Bool := decide (tGiven ∈ t.lvs) || decide (tGiven ∈ u.lvs)
def oneFD (t u : Fm) (ts : List Str) : PyData := .list [.tuple [t.dat, u.dat], .tuple (strD ts), .bool (gvB t u), .str (facText t u), .str (facRepr t u)]
theorem fac_low {t u : Fm} (h1 : t.Ok) (h2 : u.Ok) : ∀ c ∈ (facText t u).cps.toList, c < 128 :=
  low_app (low_app (txt_low false h1) (by decide +kernel)) (txt_low false h2)
theorem fac_len {t u : Fm} (h1 : t.Ok) (h2 : u.Ok) : (facText t u).length ≤ 13 * t.nl + 13 * u.nl + 4 := by
  have a := txt_len false t h1
  have b := txt_len false u h2
  have e : tLe.length = 4 := by decide +kernel
  unfold facText
  rw [strLen_append, strLen_append]
  show _ + tLe.length + _ ≤ _
  omega
theorem str_assoc (a b c : Str) : a ++ b ++ c = a ++ (b ++ c) := TL.ext_tl (by rw [TL.tl_append, TL.tl_append, TL.tl_append, TL.tl_append, List.append_assoc])
theorem facRepr_eq (t u : Fm) : facRepr t u = ("Fact(" : Str) ++ facText t u ++ (")" : Str) := by
  unfold facRepr facText
  simp only [str_assoc]
theorem oneF_shows {t u : Fm} {ts : List Str} (ok1 : t.Ok) (ok2 : u.Ok) (d1 : t.dep ≤ 6) (d2 : u.dep ≤ 6) (n1 : t.nl ≤ 100) (n2 : u.nl ≤ 100) (nm : ∀ z ∈ ts, nameB z = true) (hl : ts.length ≤ 200) : RpD.Shows (oneFD t u ts) := by
  obtain ⟨p1, w1⟩ := Fm.plain ok1
  obtain ⟨p2, w2⟩ := Fm.plain ok2
  obtain ⟨p3, w3⟩ := plain_strs nm
  have lx := fac_len ok1 ok2
  have e1 : ("Fact(" : Str).length = 5 := by decide +kernel
  have e2 : (")" : Str).length = 1 := by decide +kernel
  have ly : (facRepr t u).length ≤ 13 * t.nl + 13 * u.nl + 10 := by
    rw [facRepr_eq, strLen_append, strLen_append, e1, e2]
    omega
  have q1 : RpD.plainD (.str (facText t u)) = true := plain_low (fac_low ok1 ok2)
  have q2 : RpD.plainD (.str (facRepr t u)) = true := by
    rw [facRepr_eq]
    exact plain_low (low_app (low_app (by decide +kernel) (fac_low ok1 ok2)) (by decide +kernel))
  refine RpD.Shows.of ?_ ?_ ?_
  · show ((RpD.plainD t.dat && (RpD.plainD u.dat && true)) && (RpD.plainAll (strD ts) && (true && (RpD.plainD (.str (facText t u)) && (RpD.plainD (.str (facRepr t u)) && true))))) = true
    rw [p1, p2, p3, q1, q2]
    rfl
  · have := Fm.ddep t
    have := Fm.ddep u
    have := strD_depth ts
    simp only [oneFD, PyData.depth, PyData.depthAll]
    omega
  · show (RpD.wide t.dat + 2 + (RpD.wide u.dat + 2 + 0) + 3) + 2 + (RpD.wideAll (strD ts) + 3 + 2 + (5 + 2 + (10 * (facText t u).length + 2 + 2 + (10 * (facRepr t u).length + 2 + 2 + 0)))) + 3 ≤ 16000000
    omega
end K1

namespace K1
open PySem PySem.Spec
open PyProof.Rows L2 EnT StX SmX TxS DuX ClX
structure AtO0 (C : Addr) (σ : L2.St) (H : Hp) (En : Ends) : Prop where
  ex : ∃ (d b g p : Addr) (v1 v2 : V) (t u : Fm) (rs : List Rw3) (N G : List Str), σ = [some v1, some v2, some (.ref d), some (.ref b), some (.ref g), none, none, none, none, none, none, none, none, none, none] ∧ OneI C d b g p v1 v2 t u rs N G H ∧ ∀ H', Same H H' → En.rt (.bl true) H'
structure AtO1 (CE C D : Addr) (σ : L2.St) (H : Hp) (En : Ends) : Prop where
  ex : ∃ (d b g p fa ea eb wl tl : Addr) (v1 v2 : V) (t u : Fm) (rs : List Rw3) (N G ts : List Str) (x9 x10 x11 x12 x13 x14 : Option V), σ = [some v1, some v2, some (.ref d), some (.ref b), some (.ref g), some (.ref fa), some (.ref wl), some (.ref tl), some (.str (facText t u)), x9, x10, x11, x12, x13, x14] ∧
    OneI C d b g p v1 v2 t u rs N G H ∧ FacAt CE D H fa ea eb t u ∧ H wl = some (.lst ((t.lvs ++ u.lvs).map V.str)) ∧ H tl = some (.lst (ts.map V.str)) ∧ Fs2 t u ts ∧ ∀ H', Same H H' → En.rt (.bl true) H'
/-- behind what is told and what is due of a fact -/
structure AtO3 (CE C D : Addr) (σ : L2.St) (H : Hp) (En : Ends) : Prop where
  ex : ∃ (d b g p fa ea eb : Addr) (v1 v2 : V) (t u : Fm) (rs : List Rw3) (N G : List Str) (x6 x7 x9 x10 x11 x12 x13 x14 : Option V), σ = [some v1, some v2, some (.ref d), some (.ref b), some (.ref g), some (.ref fa), x6, x7, some (.str (facText t u)), x9, x10, x11, x12, x13, x14] ∧
    OneI C d b g p v1 v2 t u rs N G H ∧ FacAt CE D H fa ea eb t u ∧ ∀ H', Same H H' → En.rt (.bl true) H'
section
variable {w : World} {P : Program} {base : Heap} {mg : Str → Option Value} {K : PySem.W.Frag} {CE C CN CM CS CU D : Addr} {mc : Value}
variable {f : Addr} {cdv : Value} {A : Around} {outer : List Env} {s : Shared} {H0 : Hp}
theorem so2 (W : Fk P w K mg base CE C CN CM CS CU D mc) (hgd : A.guards = some []) (hr : Room 24 (A.deeper (envOfC "_law_one_right" (defScope s_L_one_right) s.heap.objs.size f cdv)))
    (h5 : PSs (cxO P w K mg base f cdv A outer s H0) (oRest 5) (fun En σ H => AtO3 CE C D σ H En)) :
    PSs (cxO P w K mg base f cdv A outer s H0) (oRest 3) (fun En σ H => AtO1 CE C D σ H En) := by
  have T := W.T
  have hun := hr.un
  obtain ⟨g1, m1, F1⟩ := W.strF
  obtain ⟨g2, m2, F2⟩ := W.repF
  obtain ⟨p3, g3, fd3, pr3, F3, b3⟩ := W.pFo
  obtain ⟨p4, g4, fd4, pr4, F4, b4⟩ := W.pFi
  obtain ⟨p5, g5, fd5, pr5, F5, b5⟩ := W.pGi
  have hu : (cxO P w K mg base f cdv A outer s H0).A.units + 100 < cLine := by
    show (A.deeper (envOfC "_law_one_right" (defScope s_L_one_right) s.heap.objs.size f cdv)).units + 100 < cLine
    omega
  refine pss_of fun En σ H hyp => ?_
  obtain ⟨d, b, g, p, fa, ea, eb, wl, tl, v1, v2, t, u, rs, N, G, ts, x9, x10, x11, x12, x13, x14, eσ, k, mF, hw, ht, fs, fin⟩ := hyp.ex
  refine ⟨_, pss_cons (ps_set (i := 9) scO.nd rfl (.inl rfl) (pe_lst (pa_cons (pe_prop (pv 5) W.F.cl pr3 F3 (hr.mono (by decide)) b3 .nil pass0 rfl) (pa_cons (pe_prop (pv 5) W.F.cl pr4 F4 (hr.mono (by decide)) b4 .nil pass0 rfl) (pa_cons (pe_prop (pv 5) W.F.cl pr5 F5 (hr.mono (by decide)) b5 .nil pass0 rfl)
        (pa_cons (pe_callTy (call_strO m1 F1 (hr.mono (by decide)) pass0) (by rfl) T.str (by decide +kernel) (pa_cons (pv 5) pa_nil)) (pa_cons (pe_callB (call_reprO m2 F2 (hr.mono (by decide)) pass0) (by rfl) T.repr (by decide +kernel) (pa_cons (pv 5) pa_nil)) pa_nil)))))))
    (pss_cons (ps_if (pt_cmpR op_ne (pe_callB (RpD.call_reprD (by exact hgd) hu) (by rfl) T.repr (by decide +kernel) (pa_cons (pv 9) pa_nil))
        (pe_callB (RpD.call_reprD (by exact hgd) hu) (by rfl) T.repr (by decide +kernel) (pa_cons (pe_lst (pa_cons (pe_tup (pa_cons (pv 0) (pa_cons (pv 1) pa_nil))) (pa_cons (pe_callTy call_tuple_of (by rfl) T.tuple (by decide +kernel) (pa_cons (pv 7) pa_nil))
          (pa_cons (pe_cmpR op_in_seq pe_str (pv 6) (by rfl)) (pa_cons (pv 8) (pa_cons (pe_op op_add_str (pe_op op_add_str pe_str (pv 8)) pe_str) pa_nil)))))) pa_nil)) (nomark _)) pss_never pss_nil) h5), ?_⟩
  subst eσ
  obtain ⟨dx, hf⟩ := mF.at_
  have n1 := mF.l.n
  have n2 := mF.r.n
  have nm : ∀ z ∈ ts, nameB z = true := fun z hz => by
    rcases ((fs.mem z).mp hz).1 with q | q
    · exact k.ok1.names z q
    · exact k.ok2.names z q
  have lts : ts.length ≤ 200 := by
    have e1 : ts.length ≤ (t.lvs ++ u.lvs).length := len_sub fs.nd fun z hz => List.mem_append.mpr ((fs.mem z).mp hz).1
    rw [List.length_append] at e1
    have e2 : t.lvs.length ≤ 100 := n1
    have e3 : u.lvs.length ≤ 100 := n2
    omega
  have lx := fac_len k.ok1 k.ok2
  have e1 : ("Fact(" : Str).length = 5 := by decide +kernel
  have e2 : (")" : Str).length = 1 := by decide +kernel
  refine ⟨_, rfl, fa, dx, _, rfl, hf, fa, ea, eb, t, u, rfl, mF, fun q1 w1 w2 H1 s1 h1 f1 f2 => ?_⟩
  refine ⟨_, rfl, fa, dx, _, rfl, s1 _ _ hf, fa, ea, eb, t, u, rfl, mF.same s1, fun q2 ys H2 s2 h2 fs2 => ?_⟩
  have ey := fs2.uniq fs
  subst ey
  have s12 := s1.trans s2
  have mF2 := mF.same s12
  refine ⟨_, rfl, fa, dx, _, rfl, s12 _ _ hf, fa, ea, eb, t, u, rfl, mF2, ?_⟩
  refine ⟨_, rfl, fa, dx, _, rfl, s12 _ _ hf, fa, ea, eb, t, u, rfl, mF2, _, rfl, ?_⟩
  refine ⟨_, rfl, fa, dx, _, rfl, s12 _ _ hf, fa, ea, eb, t, u, rfl, mF2, _, rfl, ?_⟩
  refine ⟨(by show 5 ≤ sizeLine; decide), fun L nL => ?_⟩
  have s3 := same_upd (o := .lst [.ref q1, .ref q2, .bl (decide (tGiven ∈ t.lvs) || decide (tGiven ∈ u.lvs)), .str (facText t u), .str (facRepr t u)]) nL
  have h3 : (upd H2 L (.lst [.ref q1, .ref q2, .bl (decide (tGiven ∈ t.lvs) || decide (tGiven ∈ u.lvs)), .str (facText t u), .str (facRepr t u)])) L = some (.lst [.ref q1, .ref q2, .bl (decide (tGiven ∈ t.lvs) || decide (tGiven ∈ u.lvs)), .str (facText t u), .str (facRepr t u)]) := upd_same
  generalize upd H2 L (.lst [.ref q1, .ref q2, .bl (decide (tGiven ∈ t.lvs) || decide (tGiven ∈ u.lvs)), .str (facText t u), .str (facRepr t u)]) = H3 at s3 h3 ⊢
  have S := oneF_shows (ts := ys) k.ok1 k.ok2 k.d1 k.d2 n1 n2 nm lts
  have s23 := s2.trans s3
  have s13 := s1.trans s23
  have D1 : Dp K H3 (.ref L) (oneFD t u ys) := .lst (SqL.of h3) (.cons (.tup (SqT.of (s23 _ _ h1)) (.cons (f1.same s23).dp (.cons (f2.same s23).dp .nil))) (.cons (.tup (SqT.of (s3 _ _ h2)) (dpAll_str ys)) (.cons (.bl _) (.cons (.str _) (.cons (.str _) .nil)))))
  refine ⟨_, rfl, .ref L, oneFD t u ys, rfl, D1, S, ?_⟩
  refine ⟨_, rfl, _, rfl, (by show 2 ≤ sizeLine; decide), fun q4 n4 => ?_⟩
  have s4 := same_upd (o := .tup [v1, v2]) n4
  have h4 : (upd H3 q4 (.tup [v1, v2])) q4 = some (.tup [v1, v2]) := upd_same
  generalize upd H3 q4 (.tup [v1, v2]) = H4 at s4 h4 ⊢
  have s14 := s13.trans s4
  refine ⟨_, rfl, tl, _, rfl, .inl ⟨SqL.of (s14 _ _ ht), fun q5 n5 => ?_⟩⟩
  have s5 := same_upd (o := .tup (ys.map V.str)) n5
  have h5 : (upd H4 q5 (.tup (ys.map V.str))) q5 = some (.tup (ys.map V.str)) := upd_same
  generalize upd H4 q5 (.tup (ys.map V.str)) = H5 at s5 h5 ⊢
  have s15 := s14.trans s5
  refine ⟨_, rfl, wl, _, rfl, .inl (SqL.of (s15 _ _ hw)), rfl, strs_flat _, ?_⟩
  rw [if_neg (show ¬ (false = true) by decide), inV_mem]
  refine ⟨_, rfl, _, rfl, _, _, rfl, rfl, (by rw [e1, sizeLine_eq]; omega), _, _, rfl, rfl, (by rw [strLen_append, e1, e2, sizeLine_eq]; omega), (by show 5 ≤ sizeLine; decide), fun q6 n6 => ?_⟩
  have s6 := same_upd (o := .lst [.ref q4, .ref q5, .bl (decide (tGiven ∈ t.lvs ++ u.lvs)), .str (facText t u), .str (("Fact(" : Str) ++ facText t u ++ (")" : Str))]) n6
  have h6 : (upd H5 q6 (.lst [.ref q4, .ref q5, .bl (decide (tGiven ∈ t.lvs ++ u.lvs)), .str (facText t u), .str (("Fact(" : Str) ++ facText t u ++ (")" : Str))])) q6 = some (.lst [.ref q4, .ref q5, .bl (decide (tGiven ∈ t.lvs ++ u.lvs)), .str (facText t u), .str (("Fact(" : Str) ++ facText t u ++ (")" : Str))]) := upd_same
  generalize upd H5 q6 (.lst [.ref q4, .ref q5, .bl (decide (tGiven ∈ t.lvs ++ u.lvs)), .str (facText t u), .str (("Fact(" : Str) ++ facText t u ++ (")" : Str))]) = H6 at s6 h6 ⊢
  have s56 := s5.trans s6
  have eg : decide (tGiven ∈ t.lvs ++ u.lvs) = gvB t u := by
    unfold gvB
    by_cases a : tGiven ∈ t.lvs <;> by_cases b : tGiven ∈ u.lvs <;> simp [a, b]
  rw [eg, ← facRepr_eq] at h6
  have s16 := s15.trans s6
  have D2 : Dp K H6 (.ref q6) (oneFD t u ys) := .lst (SqL.of h6) (.cons (.tup (SqT.of (s56 _ _ h4)) (.cons (k.m1.same s16).dp (.cons (k.m2.same s16).dp .nil))) (.cons (.tup (SqT.of (s6 _ _ h5)) (dpAll_str ys)) (.cons (.bl _) (.cons (.str _) (.cons (.str _) .nil)))))
  refine ⟨.ref q6, oneFD t u ys, rfl, D2, S, rfl, _, rfl, ?_⟩
  rw [decide_eq_true rfl]
  refine iteF ?_
  exact ⟨d, b, g, p, fa, ea, eb, v1, v2, t, u, rs, N, G, _, _, _, x10, x11, x12, x13, x14, rfl, k.same s16, mF.same s16, fun H' s' => fin H' (s16.trans s')⟩
end
end K1

namespace K1
open PySem PySem.Spec
open PyProof.Rows L2 EnT StX SmX TxS DuX ClX
section
variable {w : World} {P : Program} {base : Heap} {mg : Str → Option Value} {K : PySem.W.Frag} {CE C CN CM CS CU D : Addr} {mc : Value}
variable {f : Addr} {cdv : Value} {A : Around} {outer : List Env} {s : Shared} {H0 : Hp}
/-- the last row -/
theorem so6 (W : Fk P w K mg base CE C CN CM CS CU D mc) (hr : Room 24 (A.deeper (envOfC "_law_one_right" (defScope s_L_one_right) s.heap.objs.size f cdv))) :
    PSs (cxO P w K mg base f cdv A outer s H0) (oRest 11) (fun En σ H => AtO3 CE C D σ H En) := by
  have hun := hr.un
  obtain ⟨fF, MKF, FF⟩ := W.mkF
  obtain ⟨gQ, mQ, FQ⟩ := W.eqF
  have hu : (cxO P w K mg base f cdv A outer s H0).A.units + 64 < cLine := by
    show (A.deeper (envOfC "_law_one_right" (defScope s_L_one_right) s.heap.objs.size f cdv)).units + 64 < cLine
    omega
  refine pss_of fun En σ H hyp => ?_
  obtain ⟨d, b, g, p, fa, ea, eb, v1, v2, t, u, rs, N, G, x6, x7, x9, x10, x11, x12, x13, x14, eσ, k, mF, fin⟩ := hyp.ex
  refine ⟨_, pss_one (ps_ret (pe_or (pe_cmpR (op_neX mQ W.neD FQ (hr.mono (by decide))) (pv 5) (pe_makeR MKF FF (hr.mono (by decide)) (by rfl) W.F.g pass0 (pa_cons (pe_pp W.pRi (pv 5) (hr.mono (by decide)) rfl) (pa_cons (pe_pp W.pLe (pv 5) (hr.mono (by decide)) rfl) pa_nil))) (nomark _))
    (pe_one (pe_cmpR (op_eqD (by exact hu)) (pv 0) (pv 1) (nomark _))))), ?_⟩
  subst eσ
  obtain ⟨dx, hf⟩ := mF.at_
  refine ⟨_, rfl, _, rfl, fa, dx, _, rfl, hf, fa, dx, _, _, rfl, hf, ff_right ea eb, _, rfl, fa, dx, _, rfl, hf, fa, dx, _, _, rfl, hf, ff_left ea eb, fun r xr nr nxr ner => makeF_at mF.r mF.l nr nxr ner fun H1 s1 mG => ⟨rfl, ?_⟩⟩
  refine ⟨fa, dx, _, _, rfl, s1 _ _ hf, fac_ty W.F W.J mG, W.nfF, fa, r, ea, eb, eb, ea, t, u, u, t, rfl, mF.same s1, mG, _, rfl, _, rfl, ?_⟩
  rcases eqv_dec (u := u) k.ok1 with ⟨e, _⟩ | ⟨e, _⟩
  · have q : ∃ x, ([some v1, some v2, some (V.ref d), some (V.ref b), some (V.ref g), some (V.ref fa), x6, x7, some (V.str (facText t u)), x9, x10, x11, x12, x13, x14] : L2.St)[0]? = some (some x) ∧ ∃ y, ([some v1, some v2, some (V.ref d), some (V.ref b), some (V.ref g), some (V.ref fa), x6, x7, some (V.str (facText t u)), x9, x10, x11, x12, x13, x14] : L2.St)[1]? = some (some y) ∧ rEqD K x y H1 fun z H' => En.rt z H' := by
      refine ⟨_, rfl, _, rfl, t.dat, u.dat, (k.m1.same s1).dp, (k.m2.same s1).dp, Fm.shaped k.ok1 (by have := k.d1; omega), Fm.shaped k.ok2 (by have := k.d2; omega), ?_⟩
      rw [e]
      exact fin H1 s1
    rw [e]
    cases PyData.eqv u.dat t.dat with
    | true => exact iteF q
    | false => exact iteT (fin H1 s1)
  · rw [e]
    exact iteT (fin H1 s1)
/-- read again -/
theorem so3 (W : Fk P w K mg base CE C CN CM CS CU D mc) (hr : Room 24 (A.deeper (envOfC "_law_one_right" (defScope s_L_one_right) s.heap.objs.size f cdv)))
    (h6 : PSs (cxO P w K mg base f cdv A outer s H0) (oRest 6) (fun En σ H => AtO3 CE C D σ H En)) :
    PSs (cxO P w K mg base f cdv A outer s H0) (oRest 5) (fun En σ H => AtO3 CE C D σ H En) := by
  have T := W.T
  have M := W.M
  obtain ⟨fI, MK, FI⟩ := W.mkE
  obtain ⟨gQ, mQ, FQ⟩ := W.eqF
  obtain ⟨gE, mE, FE⟩ := W.eqE
  obtain ⟨g1, m1, F1⟩ := W.strF
  obtain ⟨pR, gR, fdR, ggR, sm, FR, bR, kR⟩ := W.read
  refine pss_of fun En σ H hyp => ?_
  obtain ⟨d, b, g, p, fa, ea, eb, v1, v2, t, u, rs, N, G, x6, x7, x9, x10, x11, x12, x13, x14, eσ, k, mF, fin⟩ := hyp.ex
  refine ⟨_, pss_cons (ps_if (PW.pt (pw_or (pt_cmpR (op_neX mQ W.neD FQ (hr.mono (by decide))) (TkX.pe_smT (pe_glob (v := .ref D) (by rfl) W.F.g rfl) W.crD sm FR bR (hr.mono (by decide)) (pa_cons (pv 8) pa_nil)) (pv 5) (nomark _))
      (pw_or (pt_cmpR (op_neX mE W.neE FE (hr.mono (by decide))) (pe_pp W.pLe (TkX.pe_smKT (pe_glob (v := .ref D) (by rfl) W.F.g rfl) W.crD sm FR kR (hr.mono (by decide)) (pk_cons (pe_callTy (call_strO m1 F1 (hr.mono (by decide)) pass0) (by rfl) T.str (by decide +kernel) (pa_cons (pv 5) pa_nil)) pk_nil)) (hr.mono (by decide)) rfl) (pe_pp W.pLe (pv 5) (hr.mono (by decide)) rfl) (nomark _))
      (pw_or1 (pt_cmpR (op_neX mE W.neE FE (hr.mono (by decide))) (pe_pp W.pRi (pv 5) (hr.mono (by decide)) rfl) (pe_makeR MK FI (hr.mono (by decide)) (by rfl) M.g pass0 (pa_cons (pv 1) pa_nil)) (nomark _)))))) pss_never pss_nil) h6, ?_⟩
  subst eσ
  obtain ⟨dx, hf⟩ := mF.at_
  have n1 := mF.l.n
  have n2 := mF.r.n
  have d1 := mF.l.d
  have d2 := mF.r.d
  refine ⟨rfl, _, rfl, t, u, rfl, k.ok1, k.ok2, d1, d2, n1, n2, fun r a' b' H1 s1 mG => ?_⟩
  obtain ⟨dy, hg⟩ := mG.at_
  have mF1 := mF.same s1
  refine ⟨_, rfl, r, dy, _, _, rfl, hg, fac_ty W.F W.J mF1, W.nfF, r, fa, a', b', ea, eb, t, u, t, u, rfl, mG, mF1, _, rfl, _, rfl, ?_⟩
  rw [Fm.eqv_self k.ok1, Fm.eqv_self k.ok2]
  refine iteF ?_
  refine ⟨rfl, _, rfl, fa, dx, _, rfl, s1 _ _ hf, fa, ea, eb, t, u, rfl, mF1, _, rfl, rfl, t, u, rfl, k.ok1, k.ok2, d1, d2, n1, n2, fun r2 a2 b2 H2 s2 mG2 => ?_⟩
  obtain ⟨dz, hg2⟩ := mG2.at_
  have s12 := s1.trans s2
  have mF2 := mF.same s12
  obtain ⟨da, va, fla, ysa, ha, _⟩ := mG2.l.at_
  obtain ⟨db, vb, flb, ysb, hb, _⟩ := mF2.r.at_
  refine ⟨r2, dz, _, rfl, hg2, r2, dz, _, _, rfl, hg2, ff_left a2 b2, _, rfl, fa, dx, _, rfl, s12 _ _ hf, fa, dx, _, _, rfl, s12 _ _ hf, ff_left ea eb, a2, da, _, _, rfl, ha, exp_ty M W.I mF2.l, W.nf, a2, t, _, rfl, mG2.l, .inl ⟨ea, t, rfl, mF2.l, _, rfl, _, rfl, ?_⟩⟩
  rw [Fm.eqv_self k.ok1]
  refine iteF ?_
  refine ⟨_, rfl, fa, dx, _, rfl, s12 _ _ hf, fa, dx, _, _, rfl, s12 _ _ hf, ff_right ea eb, _, rfl, fun e xe ne nxe nee => makeE_at (k.m2.same s12) k.ok2 (by have := k.d2; omega) n2 ne nxe nee fun H3 s3 mE3 => ⟨rfl, ?_⟩⟩
  have s13 := s12.trans s3
  refine ⟨eb, db, _, _, rfl, s3 _ _ hb, exp_ty M W.I mE3, W.nf, eb, u, _, rfl, mF2.r.same s3, .inl ⟨e, u, rfl, mE3, _, rfl, _, rfl, ?_⟩⟩
  rw [Fm.eqv_self k.ok2]
  refine iteF ?_
  exact ⟨d, b, g, p, fa, ea, eb, v1, v2, t, u, rs, N, G, _, _, _, x10, x11, x12, x13, x14, rfl, k.same s13, mF.same s13, fun H' s' => fin H' (s13.trans s')⟩
end
end K1

namespace K1
open PySem PySem.Spec
open PyProof.Rows L2 EnT StX SmX TxS DuX ClX
/-! ### the sets as pairs, made in a tuple -/
theorem tup_prs {K : PySem.W.Frag} {C CN d p : Addr} {ik jf : Nat} {σ : L2.St} {ti : TE} {rs : List Rw3} {N : List Str} {H : Hp} {Q : VK} (kn : KnownAt H d p rs N) (lr : rs.length ≤ 100) (lN : N.length ≤ 100) (nN : ∀ z ∈ N, nameB z = true) (nf : ∀ r ∈ rs, nameB r.1 = true ∧ fieldB r.1 = true) (nd : (rs.map (·.1)).Nodup)
    (hw : ∀ x, wipe ((wipe σ [jf]).set jf (some x)) [jf] = wipe σ [jf]) (hd : ∀ x, ((wipe σ [jf]).set jf (some x))[ik]? = some (some (.ref d))) (hj : ∀ x, ((wipe σ [jf]).set jf (some x))[jf]? = some (some x))
    (hi : ∀ R : VK, (∀ (kq : Addr) (HK : Hp), Same H HK → HK kq = some (.lst (rs.map fun r => V.str r.1)) → R (.ref kq) HK) → ti σ H R)
    (q : ∀ (a : Addr) (xs : List V) (es : List (Str × Addr)) (H' : Hp), H a = none → Same H H' → H' a = some (.tup xs) → PairsAt C H' xs es → es.length = xs.length → PairR C H' es rs → Q (.ref a) H') :
    tCB (rTupOf K) (tCons (tLc (iList K ti) (gName jf) tYes (tTup (tCons (tVar jf) (tCons (tSMeth C (spFromT C CN) E0 (tC (.ref C)) (tCons (tCB (rTupOf K) (tCons (tDGet (tVar ik) (tVar jf)) tNil)) tNil)) tNil))) [jf]) tNil) σ H Q := by
  unfold tCB
  refine hi _ fun kq HK sk hk => ?_
  refine ⟨kq, rfl, ⟨_, SqL.of hk⟩, fun D nD => ?_⟩
  have nD0 : H D = none := same_free sk nD
  have Dk : D ≠ kq := fun e => by rw [e, hk] at nD; cases nD
  refine lc_it (walk_list (xs := rs.map fun r => V.str r.1)) (fun i H' => Same HK H' ∧ ∃ (es : List (Str × Addr)) (ts : List Addr), H' D = some (.lst (ts.map V.ref)) ∧ Paired (fun t e => H' t = some (.tup [.str e.1, .ref e.2])) ts es ∧ PairR C H' es (rs.take i)) ?_ ?_ ?_ ?_
  · exact ⟨same_upd nD, [], [], upd_same, .nil, .nil⟩
  · rintro i H' _ ⟨sm, _⟩
    exact SqL.of (sm _ _ hk)
  · rintro i x H1 H2 hi ⟨sm, es, ts, hD, hT, hE⟩ ⟨rfl, ey⟩
    obtain ⟨r, er, rfl⟩ : ∃ r, rs[i]? = some r ∧ x = V.str r.1 := by
      rw [List.getElem?_map] at ey
      cases e : rs[i]? with
      | none => rw [e] at ey; cases ey
      | some r => rw [e] at ey; exact ⟨r, rfl, (Option.some.inj ey).symm⟩
    have et : rs.take (i + 1) = rs.take i ++ [r] := by rw [List.take_add_one, er]; rfl
    have hr1 := List.mem_of_getElem? er
    obtain ⟨hL, sbL, _⟩ := kn.l r hr1
    have s2 := sk.trans sm
    refine ⟨hw _, ?_⟩
    unfold tYes
    show (if true = true then _ else _)
    rw [if_pos rfl]
    have dg : DGet H2 d (.str r.1) (some (.ref r.2.1)) := by
      have z := DGet.k (k := (Sum.inr r.1 : Key)) (s2 _ _ kn.d)
      rw [entsR_at nd er] at z
      exact z
    refine ⟨_, hj _, rfl, _, hd _, _, hj _, d, _, rfl, dg, r.2.1, r.2.2.map V.str, rfl, .inl ⟨SqL.of (s2 _ _ hL), fun l nl => ?_⟩⟩
    have s3 : Same H2 (upd H2 l (.tup (r.2.2.map V.str))) := same_upd nl
    have hl3 : (upd H2 l (.tup (r.2.2.map V.str))) l = some (.tup (r.2.2.map V.str)) := upd_same
    generalize upd H2 l (.tup (r.2.2.map V.str)) = H3 at s3 hl3 ⊢
    refine ⟨l, _, rfl, hl3, mk_names (fun z hz => nN z (sbL.subset hz)) (by have := sbL.length_le; omega) fun b ys H4 nb s4 em M => ?_⟩
    refine ⟨(by show 2 ≤ sizeLine; decide), fun c nc => ?_⟩
    have s24 := s3.trans s4
    have hD4 := s24 _ _ hD
    have s5 : Same H4 (upd H4 c (.tup [.str r.1, .ref b])) := same_upd nc
    have hD5 := s5 _ _ hD4
    have cD : c ≠ D := fun e => by rw [e, hD4] at nc; cases nc
    refine ⟨ts.map V.ref, hD5, ?_, same_set ((sm.trans s24).trans s5) nD, es ++ [(r.1, b)], ts ++ [c], ?_, ?_, ?_⟩
    · have e1 := hT.length
      have e2 := hE.length
      rw [List.length_take] at e2
      rw [List.length_map, sizeLine_eq]
      omega
    · rw [upd_same, List.map_append]
      rfl
    · refine Paired.snoc (hT.mono fun u e hu => ?_) ?_
      · have uD : u ≠ D := fun k => by rw [k, hD] at hu; cases hu
        rw [upd_ne uD]
        exact s5 _ _ (s24 _ _ hu)
      · rw [upd_ne cD, upd_same]
    · rw [et]
      refine Paired.snoc (hE.mono fun e r' hr' => ⟨hr'.1, (hr'.2.same (s24.trans s5)).set hD5⟩) ⟨rfl, ?_⟩
      have ml : MemL C H4 b r.2.2 := ⟨ys, M, em⟩
      exact (ml.same s5).set hD5
  · rintro H' ⟨sm, es, ts, hD, hT, hE⟩
    rw [List.length_map, List.take_length] at hE
    refine ⟨D, _, rfl, .inl ⟨SqL.of hD, fun a na => ?_⟩⟩
    have s5 : Same H' (upd H' a (.tup (ts.map V.ref))) := same_upd na
    have sT := (sk.trans sm).trans s5
    refine q a _ es _ (same_free (sk.trans sm) na) sT upd_same (fun i z m e => ?_) (by rw [List.length_map, hT.length]) (hE.mono fun e r' hr' => ⟨hr'.1, hr'.2.same s5⟩)
    obtain ⟨u, e1, e2⟩ := paired_gr hT e
    obtain ⟨r, e3, e4, ys, M, _⟩ := paired_gl hE e
    have hz := nf r (List.mem_of_getElem? e3)
    have e4 : z = r.1 := e4
    refine ⟨u, ys, by rw [List.getElem?_map, e1]; rfl, s5 _ _ e2, ?_, ?_, M.same s5⟩
    · rw [e4]; exact hz.1
    · rw [e4]; exact hz.2
/-- the keys of a dict of rows -/
theorem keys_go {d p : Addr} {ik : Nat} {σ : L2.St} {rs : List Rw3} {N : List Str} {H : Hp} (kn : KnownAt H d p rs N) (hk : σ[ik]? = some (some (.ref d))) : ∀ R : VK, (∀ (kq : Addr) (HK : Hp), Same H HK → HK kq = some (.lst (rs.map fun r => V.str r.1)) → R (.ref kq) HK) → tListKeys (tVar ik) σ H R := fun R h => by
  refine ⟨_, hk, d, entsR rs, rfl, kn.d, fun kq nk => ?_⟩
  have ek : (entsR rs).map (fun kv => kV kv.1) = rs.map fun r => V.str r.1 := by
    unfold entsR
    rw [List.map_map]
    rfl
  rw [ek]
  exact h kq _ (same_upd nk) upd_same
theorem PairR.keys {C : Addr} {H : Hp} : ∀ {es : List (Str × Addr)} {rs : List Rw3}, PairR C H es rs → es.map (·.1) = rs.map (·.1)
  | _, _, .nil => rfl
  | _, _, .cons r t => by
    rw [List.map_cons, List.map_cons, r.1, PairR.keys t]
/-- whether it is kept, by drawn pairs -/
theorem kept_go {K : PySem.W.Frag} {CE D C CS CM CU fa ea eb pr : Addr} {gv : V} {t u : Fm} {rs : List Rw3} {N G : List Str} {xs : List V} {es : List (Str × Addr)} {H : Hp} {Q : VK} {E : XK} (mF : FacAt CE D H fa ea eb t u) (hpr : H pr = some (.tup xs)) (pa : PairsAt C H xs es) (el : es.length = xs.length) (pR : PairR C H es rs)
    (lr : rs.length ≤ 20) (rn : rs ≠ []) (nd : (rs.map (·.1)).Nodup) (rf : ∀ r ∈ rs, nameB r.1 = true ∧ fieldB r.1 = true) (sub : ∀ r ∈ rs, r.2.2.Sublist N) (lN : N.length ≤ 60) (cov : ∀ z, z ∈ t.lvs ∨ z ∈ u.lvs → fieldB z = true → z ∈ rs.map (·.1))
    (gN : ∀ z ∈ G, z ∈ N) (hg : (gv = .non ∧ G = []) ∨ ∃ m, gv = .ref m ∧ MemL C H m G) (q : ∀ H', Same H H' → Q (.bl (N.all (keptP rs G t u))) H') : spKept K CE D C CS CM CU [.ref fa, .ref pr, gv] H Q E := by
  have ek := pR.keys
  have le : es.length = rs.length := by
    have z := congrArg List.length ek
    rw [List.length_map, List.length_map] at z
    exact z
  have tab : ∀ z m, (z, m) ∈ es → MemV C H m N (fgR rs z) := fun z m h => by
    obtain ⟨i, hi⟩ := List.mem_iff_getElem?.mp h
    obtain ⟨r, hr, e1, ys, M, e2⟩ := paired_gl pR hi
    have e1 : z = r.1 := e1
    subst e1
    refine ⟨ys, M, fun x => ?_, fun x hx => (sub r (List.mem_of_getElem? hr)).subset ((e2 x).mp hx)⟩
    rw [e2 x, ← amF_at nd hr x]
    exact ⟨fun h => decide_eq_true h, fun h => of_decide_eq_true h⟩
  have ef : keptB N t u (lkG (fun x => decide (x ∈ G)) (fgR rs)) = N.all (keptP rs G t u) := by
    unfold keptB keptP
    congr 1
    funext x
    rw [wants_of rf t x, wants_of rf u x]
  have qq : ∀ H', Same H H' → Q (.bl (keptB N t u (lkG (fun x => decide (x ∈ G)) (fgR rs)))) H' := fun H' s => by
    rw [ef]
    exact q H' s
  have cv : ∀ z, z ∈ t.lvs ∨ z ∈ u.lvs → fieldB z = true → z ∈ es.map (·.1) := fun z h1 h2 => by
    rw [ek]
    exact cov z h1 h2
  rcases hg with ⟨rfl, rfl⟩ | ⟨m, rfl, ys, M, em⟩
  · exact ⟨fa, ea, eb, _, _, t, u, es, none, rfl, mF, .non, .inr ⟨pr, xs, rfl, hpr, pa, by rw [ek]; exact nd, by omega, .inl ⟨el, .inr (.inr ⟨(by intro h; cases h), cv, N, _, fgR rs, by omega, tab, (fun h => by cases h), fun _ => (funext fun x => decide_eq_false (fun h => by cases h)), qq⟩)⟩⟩⟩
  · exact ⟨fa, ea, eb, _, _, t, u, es, some true, rfl, mF, .mem M, .inr ⟨pr, xs, rfl, hpr, pa, by rw [ek]; exact nd, by omega, .inl ⟨el, .inr (.inr ⟨(by intro h; cases h), cv, N, _, fgR rs, by omega, tab, fun _ => ⟨m, rfl, ys, M, fun x => (em x).trans ⟨fun h => decide_eq_true h, fun h => of_decide_eq_true h⟩, fun x hx => gN x ((em x).mp hx)⟩, (fun h => by cases h), qq⟩)⟩⟩⟩
end K1

namespace K1
open PySem PySem.Spec
open PyProof.Rows L2 EnT StX SmX TxS DuX ClX
/-- with pairs and those given -/
structure AtO8 (CE C D : Addr) (σ : L2.St) (H : Hp) (En : Ends) : Prop where
  ex : ∃ (d b g p fa ea eb pr gt : Addr) (v1 v2 : V) (t u : Fm) (rs : List Rw3) (N G : List Str) (xs : List V) (es : List (Str × Addr)) (x6 x7 x9 x12 x13 x14 : Option V), σ = [some v1, some v2, some (.ref d), some (.ref b), some (.ref g), some (.ref fa), x6, x7, some (.str (facText t u)), x9, some (.ref pr), some (.ref gt), x12, x13, x14] ∧
    OneI C d b g p v1 v2 t u rs N G H ∧ FacAt CE D H fa ea eb t u ∧ H pr = some (.tup xs) ∧ PairsAt C H xs es ∧ es.length = xs.length ∧ PairR C H es rs ∧ MemL C H gt G ∧ ∀ H', Same H H' → En.rt (.bl true) H'
theorem ff_kept (a b : Addr) : (ffl a b).lookup ("is_kept" : Str) = none := by
  unfold ffl
  rw [lookup_putF, if_neg (by decide +kernel), lookup_putF, if_neg (by decide +kernel)]
  rfl
theorem PairR.same {C : Addr} {H H' : Hp} {es : List (Str × Addr)} {rs : List Rw3} (s : Same H H') (h : PairR C H es rs) : PairR C H' es rs := h.mono fun _ _ k => ⟨k.1, k.2.same s⟩
section
variable {w : World} {P : Program} {base : Heap} {mg : Str → Option Value} {K : PySem.W.Frag} {CE C CN CM CS CU D : Addr} {mc : Value}
variable {f : Addr} {cdv : Value} {A : Around} {outer : List Env} {s : Shared} {H0 : Hp}
theorem so4 (W : Fk P w K mg base CE C CN CM CS CU D mc) (hr : Room 24 (A.deeper (envOfC "_law_one_right" (defScope s_L_one_right) s.heap.objs.size f cdv)))
    (h8 : PSs (cxO P w K mg base f cdv A outer s H0) (oRest 8) (fun En σ H => AtO8 CE C D σ H En)) :
    PSs (cxO P w K mg base f cdv A outer s H0) (oRest 6) (fun En σ H => AtO3 CE C D σ H En) := by
  have T := W.T
  have B := W.B
  obtain ⟨pF, gF, mF', FF⟩ := B.fromT
  refine pss_of fun En σ H hyp => ?_
  obtain ⟨d, b, g, p, fa, ea, eb, v1, v2, t, u, rs, N, G, x6, x7, x9, x10, x11, x12, x13, x14, eσ, k, mF, fin⟩ := hyp.ex
  refine ⟨_, pss_cons (ps_set (i := 10) scO.nd rfl (.inl rfl) (pe_callTy call_tupK (by rfl) T.tuple (by decide +kernel) (pa_cons (pe_lc (own := [("_law_field", 14)]) (g := gName 14) (tt := tYes)
      (te := tTup (tCons (tVar 14) (tCons (tSMeth C (spFromT C CN) E0 (tC (.ref C)) (tCons (tCB (rTupOf K) (tCons (tDGet (tVar 2) (tVar 14)) tNil)) tNil)) tNil))) rfl scO.nd (pi_list (pe_listKeys rfl (pv 2) (by rfl) T.list rfl))
      (blkOk_by (own := [("_law_field", 14)]) (N := nmO) (sc := defScope s_L_one_right) (by decide +kernel)) (fun _ _ _ _ _ => pg_name (i := 14) scO.nd rfl (Or.inl rfl)) (fun _ _ _ _ _ => pts_nil)
      (fun _ _ _ _ _ => pe_tup (pa_cons (pv 14) (pa_cons (pe_smeth (pe_glob (v := .ref C) (by rfl) B.M.g rfl) B.cr mF' FF (hr.mono (by decide)) passL (pa_cons (pe_callTy call_tupK (by rfl) T.tuple (by decide +kernel) (pa_cons (pe_dget (hu_of hr) (pv 2) (pv 14) (fun _ _ => rfl)) pa_nil)) pa_nil)) pa_nil)))) pa_nil)))
    (pss_cons (ps_set (i := 11) scO.nd rfl (.inl rfl) (pe_smeth (pe_glob (v := .ref C) (by rfl) B.M.g rfl) B.cr mF' FF (hr.mono (by decide)) passL (pa_cons (pe_callTy call_tupK (by rfl) T.tuple (by decide +kernel) (pa_cons (pv 4) pa_nil)) pa_nil))) h8), ?_⟩
  subst eσ
  refine tup_prs (N := N) k.kn (by have := k.lr; omega) (by have := k.lN; omega) k.nN k.rf k.nd (fun _ => rfl) (fun _ => rfl) (fun _ => rfl) (keys_go k.kn rfl) fun pr xs es H1 npr s1 hpr pa el pR => ?_
  refine ⟨rfl, _, rfl, g, G.map V.str, rfl, .inl ⟨SqL.of (s1 _ _ k.hg), fun l nl => ?_⟩⟩
  have s2 : Same H1 (upd H1 l (.tup (G.map V.str))) := same_upd nl
  have hl2 : (upd H1 l (.tup (G.map V.str))) l = some (.tup (G.map V.str)) := upd_same
  generalize upd H1 l (.tup (G.map V.str)) = H2 at s2 hl2 ⊢
  refine ⟨l, _, rfl, hl2, mk_names (fun z hz => k.nN z (k.gN z hz)) (by have := k.lG; omega) fun gt ys H3 ng s3 em M => ?_⟩
  have s13 := s2.trans s3
  have s03 := s1.trans s13
  exact ⟨d, b, g, p, fa, ea, eb, pr, gt, v1, v2, t, u, rs, N, G, xs, es, _, _, _, _, _, _, rfl, k.same s03, mF.same s03, s13 _ _ hpr, pa.same s13, el, pR.same s13, ⟨ys, M, em⟩, fun H' s' => fin H' (s03.trans s')⟩
def bools3 (a b : Bool) : PyData := .list [.bool a, .bool b, .bool b]
theorem bools3_shows (a b : Bool) : RpD.Shows (bools3 a b) := by cases a <;> cases b <;> exact RpD.Shows.of rfl (by decide +kernel) (by decide +kernel)
theorem so5 (W : Fk P w K mg base CE C CN CM CS CU D mc) (hgd : A.guards = some []) (hr : Room 24 (A.deeper (envOfC "_law_one_right" (defScope s_L_one_right) s.heap.objs.size f cdv)))
    (h11 : PSs (cxO P w K mg base f cdv A outer s H0) (oRest 11) (fun En σ H => AtO3 CE C D σ H En)) :
    PSs (cxO P w K mg base f cdv A outer s H0) (oRest 8) (fun En σ H => AtO8 CE C D σ H En) := by
  have T := W.T
  have hun := hr.un
  have hu : (cxO P w K mg base f cdv A outer s H0).A.units + 100 < cLine := by
    show (A.deeper (envOfC "_law_one_right" (defScope s_L_one_right) s.heap.objs.size f cdv)).units + 100 < cLine
    omega
  obtain ⟨gk, fdk, hm, FD, FK⟩ := W.kept
  obtain ⟨mv2, kb2⟩ := kb_kept2 FD
  obtain ⟨mv3, kb3⟩ := kb_kept3 FD
  obtain ⟨fL, hK⟩ := W.keptL
  refine pss_of fun En σ H hyp => ?_
  obtain ⟨d, b, g, p, fa, ea, eb, pr, gt, v1, v2, t, u, rs, N, G, xs, es, x6, x7, x9, x12, x13, x14, eσ, k, mF, hpr, pa, el, pR, ml, fin⟩ := hyp.ex
  refine ⟨_, pss_cons (ps_set (i := 9) scO.nd rfl (.inl rfl) (pe_lst (pa_cons (pe_methK (ks := ["given"]) (pv 5) W.F.cl hm FK (hr.mono (by decide)) kb2 passL (pa_cons (pv 10) pa_nil) (pk_cons (pv 11) pk_nil))
        (pa_cons (pe_methK0 (ks := ["sets"]) (pv 5) W.F.cl hm FK (hr.mono (by decide)) kb3 passL (pk_cons (pv 10) pk_nil))
        (pa_cons (pe_methK (ks := ["given"]) (pv 5) W.F.cl hm FK (hr.mono (by decide)) kb2 passL (pa_cons (pv 10) pa_nil) (pk_cons pe_non pk_nil)) pa_nil)))))
    (pss_cons (ps_set (i := 12) scO.nd rfl (.inl rfl) (pe_lst (pa_cons (pe_has hK (hr.mono (by decide)) (by rfl) pass0 (pa_cons (pv 0) (pa_cons (pv 1) (pa_cons (pv 2) (pa_cons (pv 3) (pa_cons (pv 4) pa_nil))))))
        (pa_cons (pe_has hK (hr.mono (by decide)) (by rfl) pass0 (pa_cons (pv 0) (pa_cons (pv 1) (pa_cons (pv 2) (pa_cons (pv 3) (pa_cons (pe_lst pa_nil) pa_nil)))))) pa_nil))))
    (pss_cons (ps_if (pt_cmpR op_ne (pe_callB (RpD.call_reprD (by exact hgd) hu) (by rfl) T.repr (by decide +kernel) (pa_cons (pv 9) pa_nil))
        (pe_callB (RpD.call_reprD (by exact hgd) hu) (by rfl) T.repr (by decide +kernel) (pa_cons (pe_op op_cat (pv 12) (pe_slice sl_list (pv 12) (po_some pe_int) po_none)) pa_nil)) (nomark _)) pss_never pss_nil) h11)), ?_⟩
  subst eσ
  obtain ⟨dx, hf⟩ := mF.at_
  have sub : ∀ r ∈ rs, r.2.2.Sublist N := fun r hr => (k.kn.l r hr).2.1
  refine ⟨_, rfl, fa, dx, _, rfl, hf, ff_kept ea eb, _, rfl, _, rfl, rfl, rfl, kept_go mF hpr pa el pR k.lr k.rn k.nd k.rf sub k.lN k.cov k.gN (.inr ⟨gt, rfl, ml⟩) fun H1 s1 => ?_⟩
  refine ⟨_, rfl, fa, dx, _, rfl, s1 _ _ hf, ff_kept ea eb, _, rfl, rfl, rfl, kept_go (G := []) (mF.same s1) (s1 _ _ hpr) (pa.same s1) el (pR.same s1) k.lr k.rn k.nd k.rf sub k.lN k.cov (fun z hz => by cases hz) (.inl ⟨rfl, rfl⟩) fun H2 s2 => ?_⟩
  have s12 := s1.trans s2
  refine ⟨_, rfl, fa, dx, _, rfl, s12 _ _ hf, ff_kept ea eb, _, rfl, rfl, rfl, kept_go (G := []) (mF.same s12) (s12 _ _ hpr) (pa.same s12) el (pR.same s12) k.lr k.rn k.nd k.rf sub k.lN k.cov (fun z hz => by cases hz) (.inl ⟨rfl, rfl⟩) fun H3 s3 => ?_⟩
  have s13 := s12.trans s3
  refine ⟨(by show 3 ≤ sizeLine; decide), fun L nL => ?_⟩
  generalize ea' : N.all (keptP rs G t u) = ba
  generalize eb' : N.all (keptP rs [] t u) = bb
  have s4 := same_upd (o := .lst [.bl ba, .bl bb, .bl bb]) nL
  have h4 : (upd H3 L (.lst [.bl ba, .bl bb, .bl bb])) L = some (.lst [.bl ba, .bl bb, .bl bb]) := upd_same
  generalize upd H3 L (.lst [.bl ba, .bl bb, .bl bb]) = H4 at s4 h4 ⊢
  have s14 := s13.trans s4
  have k4 := k.same s14
  refine ⟨_, rfl, _, rfl, _, rfl, _, rfl, _, rfl, v1, v2, t, u, d, b, g, p, rs, N, N, G, rfl, k4.m1, k4.ok1, by have := k4.d1; omega, k4.m2, k4.ok2, by have := k4.d2; omega, k4.kn, by have := k4.lr; omega, k4.nd, k4.hb, k4.hg, fun H5 s5 => ?_⟩
  have k5 := k4.same s5
  refine ⟨_, rfl, _, rfl, _, rfl, _, rfl, (by show 0 ≤ sizeLine; decide), fun q0 n0 => ?_⟩
  have s6 := same_upd (o := .lst ([] : List V)) n0
  have h6 : (upd H5 q0 (.lst ([] : List V))) q0 = some (.lst ([] : List V)) := upd_same
  generalize upd H5 q0 (.lst ([] : List V)) = H6 at s6 h6 ⊢
  have k6 := k5.same s6
  refine ⟨v1, v2, t, u, d, b, q0, p, rs, N, N, [], rfl, k6.m1, k6.ok1, by have := k6.d1; omega, k6.m2, k6.ok2, by have := k6.d2; omega, k6.kn, by have := k6.lr; omega, k6.nd, k6.hb, h6, fun H7 s7 => ?_⟩
  rw [ea', eb']
  refine ⟨(by show 2 ≤ sizeLine; decide), fun q1 n1 => ?_⟩
  have s8 := same_upd (o := .lst [.bl ba, .bl bb]) n1
  have h8 : (upd H7 q1 (.lst [.bl ba, .bl bb])) q1 = some (.lst [.bl ba, .bl bb]) := upd_same
  generalize upd H7 q1 (.lst [.bl ba, .bl bb]) = H8 at s8 h8 ⊢
  have s48 := ((s5.trans s6).trans s7).trans s8
  have D1 : Dp K H8 (.ref L) (bools3 ba bb) := .lst (SqL.of (s48 _ _ h4)) (.cons (.bl _) (.cons (.bl _) (.cons (.bl _) .nil)))
  refine ⟨_, rfl, .ref L, bools3 ba bb, rfl, D1, bools3_shows ba bb, ?_⟩
  refine ⟨_, rfl, _, rfl, _, rfl, q1, _, rfl, SqL.of h8, fun q2 n2 => ?_⟩
  have ec : cutV [V.bl ba, V.bl bb] (some 1) none = [V.bl bb] := rfl
  rw [ec]
  have s9 := same_upd (o := .lst [.bl bb]) n2
  have h9 : (upd H8 q2 (.lst [.bl bb])) q2 = some (.lst [.bl bb]) := upd_same
  generalize upd H8 q2 (.lst [.bl bb]) = H9 at s9 h9 ⊢
  refine ⟨q1, q2, _, _, rfl, rfl, s9 _ _ h8, h9, (by show 2 + 1 ≤ sizeLine; decide), fun q3 n3 => ?_⟩
  have s10 := same_upd (o := .lst ([.bl ba, .bl bb] ++ [.bl bb])) n3
  have h10 : (upd H9 q3 (.lst ([.bl ba, .bl bb] ++ [.bl bb]))) q3 = some (.lst ([.bl ba, .bl bb] ++ [.bl bb])) := upd_same
  generalize upd H9 q3 (.lst ([.bl ba, .bl bb] ++ [.bl bb])) = H10 at s10 h10 ⊢
  have D2 : Dp K H10 (.ref q3) (bools3 ba bb) := .lst (SqL.of h10) (.cons (.bl _) (.cons (.bl _) (.cons (.bl _) .nil)))
  refine ⟨.ref q3, bools3 ba bb, rfl, D2, bools3_shows ba bb, rfl, _, rfl, ?_⟩
  rw [decide_eq_true rfl]
  refine iteF ?_
  have sA := s14.trans (s48.trans (s9.trans s10))
  exact ⟨d, b, g, p, fa, ea, eb, v1, v2, t, u, rs, N, G, _, _, _, _, _, _, _, _, rfl, k.same sA, mF.same sA, fun H' s' => fin H' (sA.trans s')⟩
end
end K1

namespace K1
open PySem PySem.Spec
open PyProof.Rows L2 EnT StX SmX TxS DuX ClX
theorem nl_six {t : Fm} (h : t.dep ≤ 6) : t.nl ≤ 32 := Nat.le_trans (Fm.nl_dep t) (Nat.le_trans (Nat.pow_le_pow_right (by decide) (show t.dep - 1 ≤ 5 by omega)) (by decide))
section
variable {w : World} {P : Program} {base : Heap} {mg : Str → Option Value} {K : PySem.W.Frag} {CE C CN CM CS CU D : Addr} {mc : Value}
variable {f : Addr} {cdv : Value} {A : Around} {outer : List Env} {s : Shared} {H0 : Hp}
theorem so1 (W : Fk P w K mg base CE C CN CM CS CU D mc) (hr : Room 24 (A.deeper (envOfC "_law_one_right" (defScope s_L_one_right) s.heap.objs.size f cdv)))
    (h3 : PSs (cxO P w K mg base f cdv A outer s H0) (oRest 3) (fun En σ H => AtO1 CE C D σ H En)) :
    PSs (cxO P w K mg base f cdv A outer s H0) (oRest 0) (fun En σ H => AtO0 C σ H En) := by
  have T := W.T
  have M := W.M
  obtain ⟨fI, MK, FI⟩ := W.mkE
  obtain ⟨fF, MKF, FF⟩ := W.mkF
  obtain ⟨gS, mS, FS⟩ := W.strE
  obtain ⟨fW, hW⟩ := W.words
  refine pss_of fun En σ H hyp => ?_
  obtain ⟨d, b, g, p, v1, v2, t, u, rs, N, G, eσ, k, fin⟩ := hyp.ex
  refine ⟨_, pss_cons (ps_par (i := 5) (j := 6) rfl scO.nd rfl rfl (by decide) rfl rfl (pa_cons (pe_makeR MKF FF (hr.mono (by decide)) (by rfl) W.F.g pass0 (pa_cons (pe_makeR MK FI (hr.mono (by decide)) (by rfl) M.g pass0 (pa_cons (pv 0) pa_nil)) (pa_cons (pe_makeR MK FI (hr.mono (by decide)) (by rfl) M.g pass0 (pa_cons (pv 1) pa_nil)) pa_nil)))
        (pa_cons (pe_op op_cat (pe_has hW (hr.mono (by decide)) (by rfl) pass0 (pa_cons (pv 0) pa_nil)) (pe_has hW (hr.mono (by decide)) (by rfl) pass0 (pa_cons (pv 1) pa_nil))) pa_nil)) (by rfl))
      (pss_cons (ps_set (i := 7) scO.nd rfl (.inl rfl) (pe_sortSet rfl (by rfl) T.sorted (by rfl) T.set (pe_lc (own := [("_law_word", 13)]) (g := gName 13) (tt := tTest (tOp (rIn K true) (tVar 13) (tLst (tCons (tC (.str tGiven)) (tCons (tC (.str tNone)) tNil))))) rfl scO.nd (pi_list (pv 6))
            (blkOk_by (own := [("_law_word", 13)]) (N := nmO) (sc := defScope s_L_one_right) (by decide +kernel)) (fun _ _ _ _ _ => pg_name (i := 13) scO.nd rfl (Or.inl rfl))
            (fun _ _ _ _ _ => pts_one (pt_cmpR op_notIn_seq (pv 13) (pe_lst (pa_cons pe_str (pa_cons pe_str pa_nil))) (by rfl))) (fun _ _ _ _ _ => pe_callTy SkE.call_str_str (by rfl) T.str (by decide +kernel) (pa_cons (pv 13) pa_nil)))))
      (pss_cons (ps_set (i := 8) scO.nd rfl (.inl rfl) (pe_op op_add_str (pe_op op_add_str (pe_callTy (call_strO mS FS (hr.mono (by decide)) pass0) (by rfl) T.str (by decide +kernel) (pa_cons (pe_makeR MK FI (hr.mono (by decide)) (by rfl) M.g pass0 (pa_cons (pv 0) pa_nil)) pa_nil)) pe_str)
          (pe_callTy (call_strO mS FS (hr.mono (by decide)) pass0) (by rfl) T.str (by decide +kernel) (pa_cons (pe_makeR MK FI (hr.mono (by decide)) (by rfl) M.g pass0 (pa_cons (pv 1) pa_nil)) pa_nil)))) h3)), ?_⟩
  subst eσ
  have n1 := nl_six k.d1
  have n2 := nl_six k.d2
  have l1 : t.lvs.length ≤ 32 := n1
  have l2 : u.lvs.length ≤ 32 := n2
  have d1 := k.d1
  have d2 := k.d2
  refine ⟨_, rfl, fun ea xa na nxa nea => makeE_at k.m1 k.ok1 (by omega) (by omega) na nxa nea fun H1 s1 e1 => ⟨rfl, ?_⟩⟩
  refine ⟨_, rfl, fun eb xb nb nxb neb => makeE_at (k.m2.same s1) k.ok2 (by omega) (by omega) nb nxb neb fun H2 s2 e2 => ⟨rfl, ?_⟩⟩
  refine fun fa xf nf nxf nef => makeF_at (e1.same s2) e2 nf nxf nef fun H3 s3 mF => ⟨rfl, ?_⟩
  have s13 := (s1.trans s2).trans s3
  refine ⟨_, rfl, v1, t, rfl, k.m1.same s13, by omega, by omega, fun w1 H4 nw1 s4 hw1 => ?_⟩
  have s14 := s13.trans s4
  refine ⟨_, rfl, v2, u, rfl, k.m2.same s14, by omega, by omega, fun w2 H5 nw2 s5 hw2 => ?_⟩
  refine ⟨w1, w2, _, _, rfl, rfl, s5 _ _ hw1, hw2, by rw [List.length_map, List.length_map, sizeLine_eq]; omega, fun wl nwl => ?_⟩
  rw [← List.map_append]
  have s6 := same_upd (o := .lst ((t.lvs ++ u.lvs).map V.str)) nwl
  have h6 : (upd H5 wl (.lst ((t.lvs ++ u.lvs).map V.str))) wl = some (.lst ((t.lvs ++ u.lvs).map V.str)) := upd_same
  generalize upd H5 wl (.lst ((t.lvs ++ u.lvs).map V.str)) = H6 at s6 h6 ⊢
  refine ⟨_, _, rfl, ?_⟩
  have s36 := (s4.trans s5).trans s6
  have s16 := s13.trans s36
  have lw : (t.lvs ++ u.lvs).length ≤ 64 := by rw [List.length_append]; omega
  -- the names of fields
  refine ⟨_, rfl, wl, rfl, ⟨_, SqL.of h6⟩, fun D1 nD => lc_grow (K := K) (a := wl) (xs := (t.lvs ++ u.lvs).map V.str) (outF (t.lvs ++ u.lvs) fieldB) (fun H' e => SqL.of (e _ _ h6)) nD rfl (fun i x H' hx e1 e2 => ?_) (fun x H' R R' h hh => h _ _ hh) (fun s h R R' k hh => ?_) (fun s h R R' k hh => ?_) fun H7 s7 h7 => ?_⟩
  · obtain ⟨z, hz, rfl⟩ := str_at hx
    refine ⟨rfl, _, rfl, (by show 2 ≤ sizeLine; decide), fun a na => ⟨a, _, rfl, .inl (SqL.of upd_same), rfl, rfl, _, rfl, ?_⟩⟩
    have s9 : Same H' (upd H' a (.lst [.str tGiven, .str tNone])) := same_upd na
    have z2 : (if true = true then !inV (.str z) [V.str tGiven, V.str tNone] else inV (.str z) [V.str tGiven, V.str tNone]) = fieldB z := by
      have := inV_mem z [tGiven, tNone]
      show (!inV (.str z) ([tGiven, tNone].map V.str)) = _
      rw [this]
      unfold fieldB
      by_cases h1 : z = tGiven <;> by_cases h2 : z = tNone <;> simp [h1, h2]
    rw [z2]
    cases hf : fieldB z with
    | true => exact iteT ⟨_, rfl, z, rfl, e1.trans s9, s9 _ _ e2, outF_len (by omega), outF_yes hz hf⟩
    | false => exact iteF ⟨e1.trans s9, by rw [outF_no hz hf]; exact s9 _ _ e2⟩
  · obtain ⟨v', e, l2, q⟩ := hh
    exact ⟨v', e, l2, fun a na => by
      obtain ⟨p', xs, e1, hq, f1, f2, k1, e2, r⟩ := q a na
      exact ⟨p', xs, e1, hq, f1, f2, k1, e2, k _ _ r⟩⟩
  · obtain ⟨v', e, a, e2, r⟩ := hh
    exact ⟨v', e, a, e2, k _ _ r⟩
  rw [outF_end (List.length_map ..)] at h7
  have lF := List.length_filter_le fieldB (t.lvs ++ u.lvs)
  refine ⟨D1, (t.lvs ++ u.lvs).filter fieldB, rfl, .inl (SqL.of h7), by omega, fun ts tl srt nd mem lts ntl => ?_⟩
  have s8 := same_upd (o := .lst (ts.map V.str)) ntl
  have h8 : (upd H7 tl (.lst (ts.map V.str))) tl = some (.lst (ts.map V.str)) := upd_same
  generalize (upd H7 tl (.lst (ts.map V.str))) = H8 at s8 h8 ⊢
  have s68 := s7.trans s8
  have s18 := s16.trans s68
  have fs : Fs2 t u ts := ⟨srt, nd, fun z => by rw [mem z, List.mem_filter, List.mem_append]⟩
  -- the line
  have x1 := txt_len false t k.ok1
  have x2 := txt_len false u k.ok2
  have e4 : tLe.length = 4 := by decide +kernel
  refine ⟨_, rfl, fun a xa na nxa nea => makeE_at (k.m1.same s18) k.ok1 (by omega) (by omega) na nxa nea fun H9 s9 g1 => ⟨rfl, ?_⟩⟩
  obtain ⟨dx1, _, _, _, k1, _⟩ := g1.at_
  refine ⟨a, dx1, _, rfl, k1, a, t, rfl, g1, _, rfl, ?_⟩
  refine ⟨_, _, rfl, rfl, (by show _ + tLe.length ≤ _; rw [sizeLine_eq]; omega), ?_⟩
  refine ⟨_, rfl, fun a2 xa2 na2 nxa2 nea2 => makeE_at ((k.m2.same s18).same s9) k.ok2 (by omega) (by omega) na2 nxa2 nea2 fun H10 s10 g2 => ⟨rfl, ?_⟩⟩
  obtain ⟨dx2, _, _, _, k2, _⟩ := g2.at_
  refine ⟨a2, dx2, _, rfl, k2, a2, u, rfl, g2, _, rfl, ?_⟩
  refine ⟨_, _, rfl, rfl, (by rw [strLen_append, sizeLine_eq]; show _ + tLe.length + _ ≤ _; omega), ?_⟩
  have s810 := s9.trans s10
  have sA := s18.trans s810
  exact ⟨d, b, g, p, fa, ea, eb, wl, tl, v1, v2, t, u, rs, N, G, ts, _, _, _, _, _, _, rfl, k.same sA, mF.same (s36.trans (s68.trans s810)), (s68.trans s810) _ _ h6, s810 _ _ h8, fs, fun H' s' => fin H' (sA.trans s')⟩
end
section
variable {w : World} {P : Program} {base : Heap} {mg : Str → Option Value} {K : PySem.W.Frag} {CE C CN CM CS CU D : Addr} {mc : Value}
theorem ok_oneF {f c : Addr} (F : FunC K "_law_one_right" "_law_one_right" s_L_one_right f c) (W : Fk P w K mg base CE C CN CM CS CU D mc) : FnG P w K mg base CX0 25 f (spOneF C) := by
  refine fnG_of F scO (fun kV doc pm an ct => .all fun us hl => match us, hl with | [_, _, _, _, _], _ => rfl) (fun vs H Q E h => ?_) fun A outer s H vs Q E hgd hr h => ?_
  · obtain ⟨d, b, g, p, v1, v2, t, u, rs, N, G, rfl, _⟩ := h
    rfl
  · obtain ⟨d, b, g, p, v1, v2, t, u, rs, N, G, rfl, k, q⟩ := h
    exact ⟨_, so1 W hr (so2 W hgd hr (so3 W hr (so4 W hr (so5 W hgd hr (so6 W hr))))), d, b, g, p, v1, v2, t, u, rs, N, G, rfl, k, q⟩
end
end K1

namespace K1
open PySem PySem.Spec
open PyProof.Rows L2 L2H EnT StX SmX TxS DuX XdI Tr3 CnB ClX
/-! ### the list of what is told grows -/
def Fin (p : Addr) (Tb : List (Addr × Str)) (H : Hp) (D : Ends) : Prop := ∀ H', Mv p Tb H H' → D.rt (.bl true) H'
theorem Fin.mv {p : Addr} {Tb : List (Addr × Str)} {H H1 : Hp} {D : Ends} (f : Fin p Tb H D) (m : Mv p Tb H H1) : Fin p Tb H1 D := fun H' m' => f H' (m.trans m')
/-- told stands at t: not there when the def began -/
structure Fin0 (p : Addr) (Tb : List (Addr × Str)) (t : Addr) (H : Hp) (D : Ends) : Prop where
  ex : ∃ H00, Mv p Tb H00 H ∧ (∀ o, H00 t = some o → ∃ ps, o = .tbl ps) ∧ Fin p Tb H00 D
theorem Fin0.mv {p t : Addr} {Tb : List (Addr × Str)} {H H1 : Hp} {D : Ends} (f : Fin0 p Tb t H D) (m : Mv p Tb H H1) : Fin0 p Tb t H1 D := by
  obtain ⟨H00, a, b, c⟩ := f.ex
  exact ⟨H00, a.trans m, b, c⟩
theorem Fin0.new {p t : Addr} {Tb : List (Addr × Str)} {H : Hp} {D : Ends} (f : Fin p Tb H D) (hp : PoolAt H p) (T : LamX.Tabs Tb H) (n : H t = none) : Fin0 p Tb t H D := ⟨H, .refl hp T, fun o e => (by rw [n] at e; cases e), f⟩
theorem Fin0.fin {p t : Addr} {Tb : List (Addr × Str)} {H : Hp} {D : Ends} (f : Fin0 p Tb t H D) : Fin p Tb H D := by
  obtain ⟨H00, a, b, c⟩ := f.ex
  exact c.mv a
theorem Fin0.set {p t : Addr} {Tb : List (Addr × Str)} {H : Hp} {D : Ends} {as : List Addr} {o : HO} (f : Fin0 p Tb t H D) (h : H t = some (.lst (as.map V.ref))) : Fin0 p Tb t (upd H t o) D := by
  obtain ⟨H00, a, b, c⟩ := f.ex
  have tp : p ≠ t := fun e => by
    obtain ⟨x, y, z, hz⟩ := a.rx.pool
    rw [e, h] at hz
    exact refs_nopool x y z (Option.some.inj hz)
  refine ⟨H00, ⟨⟨?_, fun d q n e nt => ?_⟩, tabs_upd h a.tabs⟩, b, c⟩
  · obtain ⟨x, y, z, hz⟩ := a.rx.pool
    exact ⟨x, y, z, by rw [upd_ne tp]; exact hz⟩
  · rw [upd_ne (fun z => by
      rw [z] at e
      obtain ⟨ps, hps⟩ := b q e
      exact nt ps hps)]
    exact a.rx.keep d q n e nt
/-! ### moves -/
section
variable {p : Addr} {Tb : List (Addr × Str)} {H H' : Hp}
theorem Mv.tup {a : Addr} {xs : List V} (m : Mv p Tb H H') (hp : PoolAt H p) (h : H a = some (.tup xs)) : H' a = some (.tup xs) := m.at hp h (fun _ _ _ e => by cases e) (fun _ e => by cases e)
theorem Mv.lst {a : Addr} {xs : List V} (m : Mv p Tb H H') (h : H a = some (.lst xs)) : ∃ ys, H' a = some (.lst ys) := by
  by_cases e : a = p
  · obtain ⟨x, y, z, hz⟩ := m.rx.pool
    exact ⟨_, by rw [e]; exact hz⟩
  · exact ⟨xs, m.rx.keep a _ e h (fun _ e => by cases e)⟩
theorem Mv.vokL {v : V} (m : Mv p Tb H H') (hp : PoolAt H p) (h : VOk H v) : VOk H' v := by
  rcases h with h | h
  · exact .inl h
  · refine .inr ?_
    cases h with
    | non => exact .non
    | bl b => exact .bl b
    | int i => exact .int i
    | lst e =>
      obtain ⟨ys, hy⟩ := m.lst e
      exact .lst hy
    | tup e => exact .tup (m.tup hp e)
    | dK e => exact .dK (m.at hp e (fun _ _ _ e => by cases e) (fun _ e => by cases e))
theorem Mv.fsv {K : PySem.W.Frag} {C : Addr} {v : V} {b : Bool} (m : Mv p Tb H H') (hp : PoolAt H p) (h : FsV K C H v b) : FsV K C H' v b := by
  cases h with
  | yes h nz fz M => exact .yes (m.tup hp h) nz fz (m.mem hp M)
  | non => exact .non
  | one h => exact .one (m.tup hp h)
  | lst h =>
    obtain ⟨ys, hy⟩ := m.lst h
    exact .lst hy
  | notF h nz fz => exact .notF (m.tup hp h) nz fz
  | notM h nz fz nx => exact .notM (m.tup hp h) nz fz (m.vokL hp nx)
theorem Mv.pairs {C : Addr} {xs : List V} {es : List (Str × Addr)} (m : Mv p Tb H H') (hp : PoolAt H p) (h : PairsAt C H xs es) : PairsAt C H' xs es := fun i z q e => by
  obtain ⟨b, ys, a1, a2, a3, a4, a5⟩ := h i z q e
  exact ⟨b, ys, a1, m.tup hp a2, a3, a4, m.mem hp a5⟩
theorem Mv.bad {K : PySem.W.Frag} {C : Addr} {v : V} {es : List (Str × Addr)} (m : Mv p Tb H H') (hp : PoolAt H p) (h : BadAt K C H v es) : BadAt K C H' v es := by
  rcases h with h | ⟨b, q, z, ys, h1, h2, h3, h4, h5, h6⟩
  · exact .inl (m.fsv hp h)
  · exact .inr ⟨b, q, z, ys, h1, m.tup hp h2, h3, h4, m.mem hp h5, h6⟩
theorem Mv.exp {CE a : Addr} {t : Fm} (m : Mv p Tb H H') (hp : PoolAt H p) (h : ExpAt CE H a t) : ExpAt CE H' a t := by
  obtain ⟨⟨dx, v, fl, ys, h1, h2, h3, h4⟩, b, c, d⟩ := h
  exact ⟨⟨dx, v, fl, ys, m.at hp h1 (fun _ _ _ e => by cases e) (fun _ e => by cases e), h2.keep (fun a xs e => m.tup hp e), m.tup hp h3, h4⟩, b, c, d⟩
end
end K1

namespace K1
open PySem PySem.Spec
open PyProof.Rows L2 L2H EnT StX SmX TxS DuX XdI Tr3 CnB ClX
/-! ### what is asked of a lambda -/
def SVd (K : PySem.W.Frag) (H : Hp) (v : V) (x : Str) : Prop := ∃ d, RpD.ShD K H v d ∧ x = d.shown
theorem SVd.same {K : PySem.W.Frag} {H H' : Hp} {v : V} {x : Str} (s : Same H H') (h : SVd K H v x) : SVd K H' v x := by
  obtain ⟨d, a, b⟩ := h
  exact ⟨d, a.same (dp_same s) s, b⟩
theorem call_reprS {X : Cx} (hg : X.A.guards = some []) (hu : X.A.units + 100 < cLine) : CallR X (.builtin "repr") (rSV (SVd X.K)) := by
  intro pins s σ H xs us Q Iv r h
  obtain ⟨x, txt, rfl, ⟨d, sd, rfl⟩, q⟩ := h
  exact RpD.call_reprE hg hu pins s σ H _ us Q Iv r ⟨x, d, rfl, sd, q⟩
abbrev nmEr : List Str := ["_law_pool_here", "_law_fact", "_law_pairs", "_law_odd", "_law_told", "_law_due", "_law_at", "_law_gone", "_law_pair"]
abbrev psEr : List Str := ["_law_pool_here", "_law_fact", "_law_pairs"]
theorem scEr : FnScope nmEr psEr (defScope s_L_errors_right) := ⟨rfl, rfl, rfl, by decide +kernel, rfl, by decide +kernel, by decide +kernel⟩
abbrev cxE (P : Program) (w : World) (K : PySem.W.Frag) (mg : Str → Option Value) (base : Heap) (f : Addr) (cdv : Value) (A : Around) (outer : List Env) (s : Shared) (H : Hp) : Cx := (cxOf CX0 P w K mg base nmEr "_law_errors_right" (defScope s_L_errors_right) f cdv A outer s H E0).nox
def erRest (i : Nat) : List Stmt := (defBody s_L_errors_right).drop i
/-- the qualified name of the lambdas -/
def lamQ : Str := (envOfC "_law_errors_right" (defScope s_L_errors_right) 0 0 .none).qual ++ "<lambda>"
abbrev TbO (Pt : Addr) : List (Addr × Str) := [(Pt, lamQ)]
/-- what is known of the ask that catches, and of the lambdas' code -/
structure Asks (K : PySem.W.Frag) (mg : Str → Option Value) (base : Heap) (c Pt : Addr) : Prop where
  ex : ∃ g fd, mg "_law_caught" = some (.ref g) ∧ Fun K "_law_caught" "_law_caught" sCaught g fd
  tb : LamX.TabB base mg c Pt
abbrev nmIS : Str := "InvalidSets"
abbrev nmNM : Str := "NotMembers"
abbrev nmUF : Str := "UnknownField"
/-- what is due, in its order -/
abbrev YY (t1 t2 : Str) : List (List Str) := [[nmIS, "None"], [nmIS, t1], [nmNM, t2]]
/-- what is known of the program, the errors too -/
structure We (P : Program) (w : World) (K : PySem.W.Frag) (mg : Str → Option Value) (base : Heap) (CE C CN CM CS CU D S1 S2 S3 : Addr) (mc : Value) : Prop where
  k : Fk P w K mg base CE C CN CM CS CU D mc
  EK : ErrK K mg S1 S2 S3 CS CM CU
section
variable {w : World} {P : Program} {base : Heap} {mg : Str → Option Value} {K : PySem.W.Frag} {CE C CN CM CS CU D S1 S2 S3 : Addr} {mc : Value}
variable {f c Pt : Addr} {A : Around} {outer : List Env} {s : Shared} {H0 : Hp} {p : Addr}
theorem pe_ask (W : We P w K mg base CE C CN CM CS CU D S1 S2 S3 mc) (AK : Asks K mg base c Pt) (hgd : A.guards = some []) (hr : Room 24 (A.deeper (envOfC "_law_errors_right" (defScope s_L_errors_right) s.heap.objs.size f (.ref c)))) {params : Arguments} {body : Expr} {scope : Scope} {t : XK → TE} {np lpos pos : Pos}
    (L : LamX.LamS (defScope s_L_errors_right) scope)
    (hbody : ∀ (A' : Around) (outer' : List Env) (s' : Shared) (H' : Hp) (E : XK) (f' c' : Addr), Room 22 (A'.deeper (LamX.lamEnv (cxE P w K mg base f (.ref c) A outer s H0) scope s'.heap.objs.size f' c')) → PE (LamX.lamCx (cxE P w K mg base f (.ref c) A outer s H0) A' outer' s' H' E scope f' c') body (t E))
    (hdef : defaultsOf params (cxE P w K mg base f (.ref c) A outer s H0).env = ([], []) := by rfl)
    (hbind : ∀ (q : Str) (cl : List (Str × Addr)) (pm cv ctv : Value), bindArgs (PySem.W.kla_fn "<lambda>" q params body scope cl pm cv ctv) ⟨[], []⟩ = pure [] := by intros; rfl) :
    PE (cxE P w K mg base f (.ref c) A outer s H0) (.Call (.Name "_law_caught" np) [.Lambda params body scope lpos] [] pos) (LamX.tLam (TbO Pt) (TTc (SVd K) CS CM CU) t) := by
  obtain ⟨g, fd, mgC, FC⟩ := AK.ex
  obtain ⟨oc, od, kV, doc, pm, an, cdv', ct, osl, efd, lk, hcd⟩ := FC.ex
  subst efd
  have hun := hr.un
  have hdp := hr.dp
  have bC : L2.Binds K (PySem.W.fnOf "_law_caught" "_law_caught" (defArgs sCaught) (defBody sCaught) (defScope sCaught) .none kV doc pm an cdv' ct) ["_law_ask"] [] := FC.binds (ps := ["_law_ask"]) fun _ _ _ _ _ _ us hl => match us, hl with | [_], _ => rfl
  exact LamX.pe_lamcall (X := cxE P w K mg base f (.ref c) A outer s H0) (T := TbO Pt) (TT := TTc (SVd K) CS CM CU) (k := 22) (Ng := nmCaught) (a := "_law_ask") (c := c) (P := Pt) (by rfl) mgC FC.kp lk hcd bC scCaught (by rfl) (.inl rfl)
    (caught_gives (X := cxE P w K mg base f (.ref c) A outer s H0) (by exact hgd) (by show (A.deeper (envOfC "_law_errors_right" (defScope s_L_errors_right) s.heap.objs.size f (.ref c))).units + 300 < cLine; omega) W.k.T W.EK (fun H H' v x s h => h.same s)
      (fun s' H' a oe pn => call_reprS (by exact hgd) (by
        show (A.deeper (envOfC "_law_errors_right" (defScope s_L_errors_right) s.heap.objs.size f (.ref c))).units + 3 + 100 < cLine
        omega)))
    AK.tb (by rfl) List.mem_cons_self (fun q hq _ => by rw [List.mem_singleton.mp hq]; rfl) hr L hdef hbind hbody
/-- what an ask tells of an error -/
theorem ask_err {t : XK → TE} {σ : L2.St} {H : Hp} {Q : VK} {v : V} {x nm attr : Str} {CX' : Addr} (hp : PoolAt H p) (hT : LamX.Tabs (TbO Pt) H) (hs : ∀ H', Mv p (TbO Pt) H H' → SVd K H' v x)
    (hc : (CX' = CS ∧ nm = nmIS ∧ attr = "index") ∨ (CX' = CM ∧ nm = nmNM ∧ attr = "value") ∨ (CX' = CU ∧ nm = nmUF ∧ attr = "value"))
    (ht : ∀ (H1 : Hp) (Q' : VK) (E : XK), Mv p (TbO Pt) H H1 → ErrAt CX' attr v H1 E → t E σ H1 Q')
    (q : ∀ (r : Addr) (H' : Hp), Mv p (TbO Pt) H H' → H' r = some (.lst ([nm, x].map V.str)) → Q (.ref r) H') :
    LamX.tLam (TbO Pt) (TTc (SVd K) CS CM CU) t σ H Q := by
  refine ⟨hT, fun H1 eN T1 Q' => ?_⟩
  have m1 : Mv p (TbO Pt) H H1 := .lam eN hp T1
  refine ht H1 _ _ m1 fun e H2 s2 ne => ?_
  have m2 : Mv p (TbO Pt) H (upd H2 e (.xd [(attr, v)])) := m1.trans (.same (s2.trans (same_upd ne)) m1.rx.pool m1.tabs)
  refine .inl ⟨e, v, x, nm, rfl, hs _ m2, ?_, fun r H3 nr s3 hr => q r H3 (m2.trans (.same s3 m2.rx.pool m2.tabs)) hr⟩
  rcases hc with ⟨rfl, rfl, rfl⟩ | ⟨rfl, rfl, rfl⟩ | ⟨rfl, rfl, rfl⟩
  · exact .inl ⟨rfl, rfl, upd_same⟩
  · exact .inr (.inl ⟨rfl, rfl, upd_same⟩)
  · exact .inr (.inr ⟨rfl, rfl, upd_same⟩)
end
end K1

namespace K1
open PySem PySem.Spec
open PyProof.Rows L2 L2H EnT StX SmX TxS DuX XdI Tr3 CnB ClX
theorem quote_low (x : Str) : reprQuote x = 39 ∨ reprQuote x = 34 := by
  unfold reprQuote
  split
  · exact .inr rfl
  · exact .inl rfl
theorem char_low : ∀ c : _root_.Fin 128, (∀ y ∈ PySem.Builtin.Str.reprChar 39 c.val, y < 128) ∧ ∀ y ∈ PySem.Builtin.Str.reprChar 34 c.val, y < 128 := by decide +kernel
theorem fold_low {q : Nat} (hq : q = 39 ∨ q = 34) : ∀ (l : List Nat) (acc : Array Nat), (∀ c ∈ l, c < 128) → (∀ c ∈ acc.toList, c < 128) → ∀ c ∈ (l.foldl (fun out c => out ++ (PySem.Builtin.Str.reprChar q c).toArray) acc).toList, c < 128
  | [], acc, _, ha => ha
  | c :: r, acc, hl, ha => by
    rw [List.foldl_cons]
    refine fold_low hq r _ (fun x hx => hl x (List.mem_cons_of_mem _ hx)) fun x hx => ?_
    rw [Array.toList_append, List.mem_append] at hx
    rcases hx with hx | hx
    · exact ha x hx
    · have hc := hl c List.mem_cons_self
      have k := char_low ⟨c, hc⟩
      rcases hq with rfl | rfl
      · exact k.1 x (by simpa using hx)
      · exact k.2 x (by simpa using hx)
theorem repr_ok {z : Str} (h : nameB z = true) : PyData.strOk (PyData.str z).shown = true := by
  have hz := name_low h
  refine strOk_low fun c hc => ?_
  have e : (PyData.str z).shown = reprText z := rfl
  rw [e] at hc
  unfold reprText at hc
  have q := quote_low z
  have q128 : reprQuote z < 128 := by rcases q with e | e <;> rw [e] <;> decide
  simp only [Array.toList_push, List.mem_append, List.mem_singleton] at hc
  rcases hc with hc | hc
  · rw [← Array.foldl_toList] at hc
    exact fold_low q _ _ hz (fun c hc => by
      have : c = reprQuote z := by simpa using hc
      rw [this]
      exact q128) c hc
  · rw [hc]
    exact q128
theorem tupS_shaped {ys : List Str} (h : OkS ys) : SeqAt.shaped (.tuple (strD ys)) = true := by
  show (PyData.canLay0 (.tuple (strD ys)) && decide (PyData.depth (.tuple (strD ys)) ≤ 64)) = true
  rw [Bool.and_eq_true]
  refine ⟨by simp only [PyData.canLay0]; exact strD_lay ys h, decide_eq_true ?_⟩
  simp only [PyData.depth]
  have := strD_depth ys
  omega
theorem lstS_shaped {ys : List Str} (h : OkS ys) : SeqAt.shaped (.list (strD ys)) = true := by
  show (PyData.canLay0 (.list (strD ys)) && decide (PyData.depth (.list (strD ys)) ≤ 64)) = true
  rw [Bool.and_eq_true]
  refine ⟨by simp only [PyData.canLay0]; exact strD_lay ys h, decide_eq_true ?_⟩
  simp only [PyData.depth]
  have := strD_depth ys
  omega
theorem lstS_eqv {ys : List Str} (h : OkS ys) : PyData.eqv (.list (strD ys)) (.list (strD ys)) = true := SeqAt.eqv_refl _ (by simp only [PyData.canLay0]; exact strD_lay ys h)
/-! ### pairs left out -/
abbrev Px : Type := V × (Str × Addr)
def keptF (xs : List V) (es : List (Str × Addr)) (F : List Str) (i : Nat) : List Px := ((xs.zip es).take i).filter fun q => decide (¬ q.2.1 ∈ F)
theorem kept_pairs {C : Addr} {H : Hp} {xs : List V} {es : List (Str × Addr)} {F : List Str} {n : Nat} (h : PairsAt C H xs es) : PairsAt C H ((keptF xs es F n).map (·.1)) ((keptF xs es F n).map (·.2)) := fun i z m e => by
  rw [List.getElem?_map] at e
  cases hq : (keptF xs es F n)[i]? with
  | none => rw [hq] at e; cases e
  | some q =>
    rw [hq] at e
    have e : q.2 = (z, m) := Option.some.inj e
    have hm := List.mem_of_getElem? hq
    have hm2 := List.mem_of_mem_take ((List.mem_filter.mp hm).1)
    obtain ⟨j, hj⟩ := List.mem_iff_getElem?.mp hm2
    rw [List.getElem?_zip_eq_some] at hj
    obtain ⟨b, ys, a1, a2⟩ := h j z m (by rw [hj.2, e])
    refine ⟨b, ys, ?_, a2⟩
    rw [List.getElem?_map, hq]
    rw [hj.1] at a1
    exact a1
theorem kept_nodup {xs : List V} {es : List (Str × Addr)} {F : List Str} {n : Nat} (l : es.length = xs.length) (h : (es.map (·.1)).Nodup) : (((keptF xs es F n).map (·.2)).map (·.1)).Nodup := by
  have s1 : (keptF xs es F n).Sublist (xs.zip es) := (List.filter_sublist).trans (List.take_sublist _ _)
  have s2 := (s1.map (·.2)).map (·.1)
  have e : (xs.zip es).map (·.2) = es := by
    rw [List.map_snd_zip]
    omega
  rw [e] at s2
  exact h.sublist s2
theorem kept_mem {xs : List V} {es : List (Str × Addr)} {F : List Str} (l : es.length = xs.length) (z : Str) : z ∈ ((keptF xs es F xs.length).map (·.2)).map (·.1) ↔ z ∈ es.map (·.1) ∧ ¬ z ∈ F := by
  have e : (xs.zip es).map (·.2) = es := by
    rw [List.map_snd_zip]
    omega
  have et : (xs.zip es).take xs.length = xs.zip es := List.take_of_length_le (by rw [List.length_zip]; omega)
  constructor
  · intro h
    obtain ⟨e1, h1, h2⟩ := List.mem_map.mp h
    obtain ⟨q, h3, h4⟩ := List.mem_map.mp h1
    unfold keptF at h3
    rw [et, List.mem_filter] at h3
    refine ⟨?_, ?_⟩
    · rw [← e]
      exact List.mem_map.mpr ⟨e1, List.mem_map.mpr ⟨q, h3.1, h4⟩, h2⟩
    · have h5 := of_decide_eq_true h3.2
      rw [h4, h2] at h5
      exact h5
  · rintro ⟨h, hF⟩
    rw [← e] at h
    obtain ⟨e1, h1, h2⟩ := List.mem_map.mp h
    obtain ⟨q, h3, h4⟩ := List.mem_map.mp h1
    refine List.mem_map.mpr ⟨e1, List.mem_map.mpr ⟨q, ?_, h4⟩, h2⟩
    unfold keptF
    rw [et, List.mem_filter]
    refine ⟨h3, decide_eq_true ?_⟩
    rw [h4, h2]
    exact hF
theorem shows_name {z : Str} (h : nameB z = true) : RpD.Shows (.str z) := by
  have hz := name_low h
  have hl := name_short h
  have hc : ∀ c ∈ z.cps.toList, c < 16 ^ 8 := fun c hc => Nat.lt_trans (hz c hc) (by decide)
  refine ⟨rfl, rfl, by simp [PyData.depth], ?_⟩
  have := StrLaws.reprText_len z hc
  show (reprText z).length ≤ sizeLine
  rw [sizeLine_eq]
  omega
theorem svd_name {K : PySem.W.Frag} {H : Hp} {z : Str} (h : nameB z = true) : SVd K H (.str z) (PyData.str z).shown := ⟨.str z, .inl ⟨.str z, shows_name h⟩, rfl⟩
theorem kept_nopool {C : Addr} {H : Hp} {xs : List V} {es : List (Str × Addr)} {F : List Str} {n : Nat} (h : PairsAt C H xs es) : ∀ x y z : Int, HO.lst ((keptF xs es F n).map (·.1)) ≠ .lst [.int x, .int y, .int z] := fun x y z e => by
  have e := HO.lst.inj e
  cases hk : keptF xs es F n with
  | nil => rw [hk] at e; cases e
  | cons q r =>
    have kp := kept_pairs (F := F) (n := n) h
    rw [hk] at e kp
    obtain ⟨b, us, a1, _⟩ := kp 0 q.2.1 q.2.2 rfl
    have a1 : some q.1 = some (V.ref b) := a1
    have e1 : q.1 = V.int x := (List.cons.inj e).1
    rw [e1] at a1
    cases Option.some.inj a1
end K1

namespace K1
open PySem PySem.Spec
open PyProof.Rows L2 L2H EnT StX SmX TxS DuX XdI Tr3 CnB ClX
/-! ### the asks of one fact -/
theorem Mv.upd {p t : Addr} {Tb : List (Addr × Str)} {HS H : Hp} {as : List Addr} {o : HO} (m : Mv p Tb HS H) (n : HS t = none) (ht : H t = some (.lst (as.map V.ref))) : Mv p Tb HS (upd H t o) := by
  refine ⟨⟨?_, fun b o' nb e nt => ?_⟩, tabs_upd ht m.tabs⟩
  · obtain ⟨x, y, z, e⟩ := m.rx.pool
    exact ⟨x, y, z, upd_keep ht e fun q => refs_nopool x y z q.symm⟩
  · rw [upd_ne (fun k => by rw [k, n] at e; cases e)]
    exact m.rx.keep b o' nb e nt
theorem Mv.facs {CE D fa ea eb p : Addr} {Tb : List (Addr × Str)} {H H' : Hp} {t u : Fm} (m : Mv p Tb H H') (hp : PoolAt H p) (h : FacAt CE D H fa ea eb t u) : FacAt CE D H' fa ea eb t u := by
  obtain ⟨⟨dx, e⟩, l, r⟩ := h
  exact ⟨⟨dx, m.at hp e (fun _ _ _ e => by cases e) (fun _ e => by cases e)⟩, m.exp hp l, m.exp hp r⟩
theorem FacAt.set {CE D fa ea eb a : Addr} {H : Hp} {t u : Fm} {xs : List V} {o : HO} (h : H a = some (.lst xs)) (m : FacAt CE D H fa ea eb t u) : FacAt CE D (upd H a o) fa ea eb t u := by
  obtain ⟨⟨dx, e⟩, l, r⟩ := m
  exact ⟨⟨dx, by rw [upd_ne (fun z => by rw [z, h] at e; cases e)]; exact e⟩, l.set h, r.set h⟩
theorem PairsAt.set {C tl : Addr} {H : Hp} {xs ys : List V} {es : List (Str × Addr)} {o : HO} (ht : H tl = some (.lst ys)) (h : PairsAt C H xs es) : PairsAt C (upd H tl o) xs es := fun i z q e => by
  obtain ⟨b, us, a1, a2, a3, a4, a5⟩ := h i z q e
  exact ⟨b, us, a1, by rw [upd_ne (fun k => by rw [k, ht] at a2; cases a2)]; exact a2, a3, a4, a5.set ht⟩
/-- what the asks lean on -/
structure ErC (CE D C p Pt fa ea eb pr : Addr) (t u : Fm) (xs : List V) (es : List (Str × Addr)) (v : V) (d : PyData) (H : Hp) : Prop where
  hp : PoolAt H p
  T : LamX.Tabs (TbO Pt) H
  e : FacAt CE D H fa ea eb t u
  h : H pr = some (.tup xs)
  pa : PairsAt C H xs es
  el : es.length = xs.length
  l : xs.length ≤ 50
  l2 : 2 ≤ xs.length
  nd : (es.map (·.1)).Nodup
  o : OddD H v d
  nv : v ≠ .non
  cov : ∀ z, z ∈ t.lvs ∨ z ∈ u.lvs → fieldB z = true → z ∈ es.map (·.1)
section
variable {CE D C p Pt fa ea eb pr : Addr} {t u : Fm} {xs : List V} {es : List (Str × Addr)} {v : V} {d : PyData} {H H' : Hp}
theorem ErC.mv (m : Mv p (TbO Pt) H H') (k : ErC CE D C p Pt fa ea eb pr t u xs es v d H) : ErC CE D C p Pt fa ea eb pr t u xs es v d H' :=
  ⟨m.rx.pool, m.tabs, m.facs k.hp k.e, m.tup k.hp k.h, m.pairs k.hp k.pa, k.el, k.l, k.l2, k.nd, k.o.mv m k.hp, k.nv, k.cov⟩
theorem ErC.set {tl : Addr} {as : List Addr} {o : HO} (ht : H tl = some (.lst (as.map V.ref))) (hn : as ≠ []) (k : ErC CE D C p Pt fa ea eb pr t u xs es v d H) : ErC CE D C p Pt fa ea eb pr t u xs es v d (upd H tl o) := by
  refine ⟨?_, tabs_upd ht k.T, k.e.set ht, by rw [upd_ne (fun z => by have := k.h; rw [z, ht] at this; cases this)]; exact k.h, k.pa.set ht, k.el, k.l, k.l2, k.nd, k.o.set ht hn, k.nv, k.cov⟩
  obtain ⟨x, y, z, e⟩ := k.hp
  exact ⟨x, y, z, upd_keep ht e fun q => refs_nopool x y z q.symm⟩
end
def lenT (xs : List V) : Str := toString ((xs.length : Nat) : Int)
/-- before the n-th ask -/
structure AtAsk (CE D C p Pt : Addr) (n : Nat) (σ : L2.St) (H : Hp) (En : Ends) : Prop where
  ex : ∃ (fa ea eb pr tl : Addr) (as : List Addr) (t u : Fm) (xs : List V) (es : List (Str × Addr)) (v : V) (d : PyData) (HS : Hp) (x5 x6 x7 x8 : Option V),
    σ = [some (.ref p), some (.ref fa), some (.ref pr), some v, some (.ref tl), x5, x6, x7, x8] ∧ ErC CE D C p Pt fa ea eb pr t u xs es v d H ∧
    H tl = some (.lst (as.map V.ref)) ∧ 1 ≤ n ∧ n ≤ 3 ∧ Lists H as ((YY (lenT xs) d.shown).take n) ∧ Mv p (TbO Pt) HS H ∧ HS tl = none ∧ Fin p (TbO Pt) HS En
section
variable {w : World} {P : Program} {base : Heap} {mg : Str → Option Value} {K : PySem.W.Frag} {CE C CN CM CS CU D S1 S2 S3 : Addr} {mc : Value}
variable {f c Pt : Addr} {A : Around} {outer : List Env} {s : Shared} {H0 : Hp} {p : Addr}
/-- an ask that appends what it is told -/
theorem ask_seg {n : Nat} {t : XK → TE} {params : Arguments} {body : Expr} {scope : Scope} {np lpos pos : Pos} {rest : List Stmt} {p1 p2 p3 p4 : Pos} (hn : n + 1 ≤ 3) (he : PE (cxE P w K mg base f (.ref c) A outer s H0) (.Call (.Name "_law_caught" np) [.Lambda params body scope lpos] [] pos) (LamX.tLam (TbO Pt) (TTc (SVd K) CS CM CU) t))
    (hrest : PSs (cxE P w K mg base f (.ref c) A outer s H0) rest (fun En σ H => AtAsk CE D C p Pt (n + 1) σ H En))
    (told : ∀ (fa ea eb pr tl : Addr) (ft fu : Fm) (xs : List V) (es : List (Str × Addr)) (v : V) (d : PyData) (x5 x6 x7 x8 : Option V) (H : Hp) (Q : VK) (y : List Str), ErC CE D C p Pt fa ea eb pr ft fu xs es v d H → (YY (lenT xs) d.shown)[n]? = some y →
      (∀ (r : Addr) (H' : Hp), Mv p (TbO Pt) H H' → H' r = some (.lst (y.map V.str)) → Q (.ref r) H') →
      LamX.tLam (TbO Pt) (TTc (SVd K) CS CM CU) t [some (.ref p), some (.ref fa), some (.ref pr), some v, some (.ref tl), x5, x6, x7, x8] H Q)
    (hline : (p2.endLine == p3.line) = true := by rfl) :
    PSs (cxE P w K mg base f (.ref c) A outer s H0) (.Expr (.Call (.Attribute (.Name "_law_told" p1) "append" p2) [(.Call (.Name "_law_caught" np) [.Lambda params body scope lpos] [] pos)] [] p3) p4 :: rest) (fun En σ H => AtAsk CE D C p Pt n σ H En) := by
  refine pss_of fun En σ H hyp => ?_
  obtain ⟨fa, ea, eb, pr, tl, as, ft, fu, xs, es, v, d, HS, x5, x6, x7, x8, eσ, k, ht, h1, h3, ll, mS, nS, fin⟩ := hyp.ex
  refine ⟨_, pss_cons (ps_expr (pe_bm PySem.F.plainAttrs_list PySem.F.slot_list_append PySem.F.type_list_append mt_append (pv 4) (pa_cons he pa_nil) (hline := hline))) hrest, ?_⟩
  subst eσ
  have hl : as.length = n := by
    rw [ll.len, List.length_take]
    show min n 3 = n
    omega
  obtain ⟨y, hy⟩ : ∃ y, (YY (lenT xs) d.shown)[n]? = some y := ⟨(YY (lenT xs) d.shown)[n]'(by show n < 3; omega), List.getElem?_eq_getElem _⟩
  refine ⟨_, rfl, .inl ⟨rfl, _, SqL.of ht⟩, told fa ea eb pr tl ft fu xs es v d x5 x6 x7 x8 H _ y k hy fun r H3 m3 hr => ?_⟩
  have t3 : H3 tl = some (.lst (as.map V.ref)) := m3.at k.hp ht refs_nopool (fun _ e => by cases e)
  have hne : as ≠ [] := fun e => by rw [e] at hl; simp at hl; omega
  refine ⟨tl, _, _, rfl, rfl, t3, by rw [List.length_map, hl, sizeLine_eq]; omega, ?_⟩
  refine ⟨fa, ea, eb, pr, tl, as ++ [r], ft, fu, xs, es, v, d, HS, x5, x6, x7, x8, rfl, (k.mv m3).set t3 hne, by rw [upd_same, List.map_append]; rfl, by omega, hn, ?_, (mS.trans m3).upd nS t3, nS, fin⟩
  rw [List.take_add_one, hy]
  exact ((ll.mv m3 k.hp).set t3 hne).snoc (upd_keep t3 hr (strs_refs hne))
/-- is_kept(pairs, given=odd) -/
theorem er3 (W : We P w K mg base CE C CN CM CS CU D S1 S2 S3 mc) (AK : Asks K mg base c Pt) (hgd : A.guards = some []) (hr : Room 24 (A.deeper (envOfC "_law_errors_right" (defScope s_L_errors_right) s.heap.objs.size f (.ref c))))
    (h4 : PSs (cxE P w K mg base f (.ref c) A outer s H0) (erRest 4) (fun En σ H => AtAsk CE D C p Pt 3 σ H En)) :
    PSs (cxE P w K mg base f (.ref c) A outer s H0) (erRest 3) (fun En σ H => AtAsk CE D C p Pt 2 σ H En) := by
  obtain ⟨g, fd, hm, FD, F⟩ := W.k.kept
  obtain ⟨mv, kb⟩ := kb_kept2 FD
  refine ask_seg (by decide) (pe_ask W AK hgd hr (t := fun E => tMethK D "is_kept" 2 1 (spKept K CE D C CS CM CU) (fun vs zs => vs ++ zs) E (tVar 1) (tCons (tVar 2) tNil) (tCons (tVar 3) tNil)) (LamX.lamS_by (by decide +kernel))
    (fun A' outer' s' H' E f' c' hr' => ?he)) h4 ?_
  case he =>
    exact pe_methK (ks := ["given"]) (pv 1) W.k.F.cl hm F (hr'.mono (by decide)) kb (passes_call (takes_of rfl rfl rfl rfl) fun _ _ _ _ h => h) (pa_cons (pv 2) pa_nil) (pk_cons (pv 3) pk_nil)
  intro fa ea eb pr tl t u xs es v d x5 x6 x7 x8 H Q y k hy q
  cases hy
  refine ask_err k.hp k.T (v := v) (x := d.shown) (fun H' m => ⟨d, (k.o.mv m k.hp).shd, rfl⟩) (.inr (.inl ⟨rfl, rfl, rfl⟩)) (fun H1 Q' E m1 eE => ?_) q
  have k1 := k.mv m1
  obtain ⟨dx, e1⟩ := k1.e.at_
  refine ⟨_, rfl, fa, dx, _, rfl, e1, ff_kept ea eb, _, rfl, _, rfl, rfl, rfl, fa, ea, eb, _, _, t, u, es, some false, rfl, k1.e, .odd k1.nv k1.o.vok, ?_⟩
  exact .inr ⟨pr, xs, rfl, k1.h, k1.pa, k1.nd, by have := k1.l; omega, .inl ⟨k1.el, .inl ⟨rfl, eE⟩⟩⟩
/-- is_kept(pairs + pairs[:1], given=odd) -/
theorem er2 (W : We P w K mg base CE C CN CM CS CU D S1 S2 S3 mc) (AK : Asks K mg base c Pt) (hgd : A.guards = some []) (hr : Room 24 (A.deeper (envOfC "_law_errors_right" (defScope s_L_errors_right) s.heap.objs.size f (.ref c))))
    (h3 : PSs (cxE P w K mg base f (.ref c) A outer s H0) (erRest 3) (fun En σ H => AtAsk CE D C p Pt 2 σ H En)) :
    PSs (cxE P w K mg base f (.ref c) A outer s H0) (erRest 2) (fun En σ H => AtAsk CE D C p Pt 1 σ H En) := by
  obtain ⟨g, fd, hm, FD, F⟩ := W.k.kept
  obtain ⟨mv, kb⟩ := kb_kept2 FD
  refine ask_seg (by decide) (pe_ask W AK hgd hr (t := fun E => tMethK D "is_kept" 2 1 (spKept K CE D C CS CM CU) (fun vs zs => vs ++ zs) E (tVar 1) (tCons (tOp (rCatA K) (tVar 2) (tSl (rSlA K) (tVar 2) tNoPart (tPart (tC (.int 1))))) tNil) (tCons (tVar 3) tNil)) (LamX.lamS_by (by decide +kernel))
    (fun A' outer' s' H' E f' c' hr' => ?he)) h3 ?_
  case he =>
    exact pe_methK (ks := ["given"]) (pv 1) W.k.F.cl hm F (hr'.mono (by decide)) kb (passes_call (takes_of rfl rfl rfl rfl) fun _ _ _ _ h => h) (pa_cons (pe_op op_catA (pv 2) (pe_slice sl_tupA (pv 2) po_none (po_some pe_int))) pa_nil) (pk_cons (pv 3) pk_nil)
  intro fa ea eb pr tl t u xs es v d x5 x6 x7 x8 H Q y k hy q
  cases hy
  have l2 := k.l2
  have l50 := k.l
  have el := k.el
  refine ask_err k.hp k.T (v := .int es.length) (x := lenT xs) (fun H' _ => ⟨.int es.length, .inl ⟨.int _, .of (decide_eq_true ⟨by omega, by omega⟩) (by simp [PyData.depth]) (by simp [RpD.wide])⟩, by unfold lenT; rw [← el]; rfl⟩) (.inl ⟨rfl, rfl, rfl⟩) (fun H1 Q' E m1 eE => ?_) q
  have k1 := k.mv m1
  obtain ⟨dx, e1⟩ := k1.e.at_
  obtain ⟨x0, hx0⟩ : ∃ x0, xs[0]? = some x0 := ⟨xs[0]'(by omega), List.getElem?_eq_getElem _⟩
  obtain ⟨z, m, ez⟩ : ∃ z m, es[0]? = some (z, m) := ⟨(es[0]'(by omega)).1, (es[0]'(by omega)).2, List.getElem?_eq_getElem _⟩
  refine ⟨_, rfl, fa, dx, _, rfl, e1, ff_kept ea eb, _, rfl, _, rfl, ?_⟩
  unfold tNoPart
  have ei : cutV xs none (some 1) = [x0] := by
    unfold cutV
    rw [HT.sIx_none]
    have e1 : HT.sIx xs.length xs.length (some ((1 : Nat) : Int)) = 1 := by rw [HT.sIx_nat]; omega
    have e1 : HT.sIx xs.length xs.length (some 1) = 1 := e1
    rw [e1]
    cases xs with
    | nil => cases hx0
    | cons a r =>
      cases Option.some.inj hx0
      rfl
  have ni : ¬ (HT.sIx xs.length 0 none = 0 ∧ HT.sIx xs.length xs.length (some 1) = xs.length) := fun e => by
    have e1 : HT.sIx xs.length xs.length (some ((1 : Nat) : Int)) = 1 := by rw [HT.sIx_nat]; omega
    have e2 : HT.sIx xs.length xs.length (some ((1 : Nat) : Int)) = xs.length := e.2
    omega
  refine ⟨_, rfl, pr, xs, rfl, SqT.of k1.h, fun e => absurd e ni, fun _ q1 n1 => ?_⟩
  rw [ei]
  have s1 := same_upd (o := .tup [x0]) n1
  have h1 : (upd H1 q1 (.tup [x0])) q1 = some (.tup [x0]) := upd_same
  generalize upd H1 q1 (.tup [x0]) = H2 at s1 h1 ⊢
  refine ⟨pr, q1, xs, [x0], rfl, rfl, SqT.of (s1 _ _ k1.h), SqT.of h1, by rw [sizeLine_eq]; show xs.length + 1 ≤ _; omega, (fun e => by rw [e] at l2; simp at l2), (fun _ e => by cases e), fun _ _ q2 n2 => ?_⟩
  have s2 := same_upd (o := .tup (xs ++ [x0])) n2
  have h2 : (upd H2 q2 (.tup (xs ++ [x0]))) q2 = some (.tup (xs ++ [x0])) := upd_same
  generalize upd H2 q2 (.tup (xs ++ [x0])) = H3 at s2 h2 ⊢
  have s12 := s1.trans s2
  have pa3 := k1.pa.same s12
  obtain ⟨b, ys, b1, b2, b3, b4, b5⟩ := pa3 0 z m ez
  rw [hx0] at b1
  cases Option.some.inj b1
  refine ⟨_, rfl, rfl, rfl, fa, ea, eb, _, _, t, u, es, some false, rfl, k1.e.same s12, (.odd k1.nv k1.o.vok : GvV C H1 v (some false)).same s12, ?_⟩
  refine .inr ⟨q2, xs ++ [.ref b], rfl, h2, fun i z' m' e => ?_, k1.nd, by rw [List.length_append]; show _ + 1 ≤ _; omega, .inr ⟨.ref b, ?_, .inr ⟨b, m, z, ys, rfl, b2, b3, b4, b5, ?_⟩, eE.same s12⟩⟩
  · obtain ⟨b', ys', a1, a2⟩ := pa3 i z' m' e
    refine ⟨b', ys', ?_, a2⟩
    rw [List.getElem?_append_left (List.getElem?_eq_some_iff.mp a1).1]
    exact a1
  · rw [el, List.getElem?_append_right (Nat.le_refl _), Nat.sub_self]
    rfl
  · exact List.mem_map.mpr ⟨(z, m), List.mem_of_getElem? ez, rfl⟩
end
end K1

namespace K1
open PySem PySem.Spec
open PyProof.Rows L2 L2H EnT StX SmX TxS DuX XdI Tr3 CnB ClX
/-! ### what is due of one fact's errors -/
theorem pool_ne {H : Hp} {p b : Addr} {o : HO} (hp : PoolAt H p) (h : H b = some o) (n : ∀ xs, o ≠ .lst xs) : b ≠ p := fun e => by
  obtain ⟨x, y, z, q⟩ := hp
  rw [e, q] at h
  exact n _ (Option.some.inj h).symm
theorem slA_go {K : PySem.W.Frag} {a : Addr} {zs : List V} {k : Nat} {H : Hp} {Q : VK} (ha : H a = some (.tup zs)) (hk : k ≤ zs.length) (q : ∀ c H', Same H H' → H' c = some (.tup (zs.drop k)) → Q (.ref c) H') : rSlA K (.ref a) (some (k : Int)) none H Q := by
  refine ⟨a, zs, rfl, SqT.of ha, fun e => ?_, fun _ c nc => ?_⟩
  · have e2 := e.1
    rw [HT.sIx_nat] at e2
    have k0 : k = 0 := by
      have h2 := e.2
      omega
    subst k0
    exact q a H (Same.refl H) ha
  · refine q c _ (same_upd nc) ?_
    rw [upd_same]
    unfold cutV
    rw [HT.sIx_none, HT.sIx_nat, Nat.min_eq_left hk]
    rw [List.take_of_length_le (by rw [List.length_drop]; exact Nat.le_refl _)]
/-- what ends well from before two lists were made -/
structure Fin2 (p : Addr) (Tb : List (Addr × Str)) (a b : Addr) (H : Hp) (D : Ends) : Prop where
  ex : ∃ HS, Mv p Tb HS H ∧ HS a = none ∧ HS b = none ∧ Fin p Tb HS D
theorem Fin2.mv {p a b : Addr} {Tb : List (Addr × Str)} {H H' : Hp} {D : Ends} (f : Fin2 p Tb a b H D) (m : Mv p Tb H H') : Fin2 p Tb a b H' D := by
  obtain ⟨HS, k, n1, n2, fin⟩ := f.ex
  exact ⟨HS, k.trans m, n1, n2, fin⟩
theorem Fin2.set1 {p a b : Addr} {Tb : List (Addr × Str)} {H : Hp} {D : Ends} {as : List Addr} {o : HO} (f : Fin2 p Tb a b H D) (h : H a = some (.lst (as.map V.ref))) : Fin2 p Tb a b (upd H a o) D := by
  obtain ⟨HS, k, n1, n2, fin⟩ := f.ex
  exact ⟨HS, k.upd n1 h, n1, n2, fin⟩
theorem Fin2.set2 {p a b : Addr} {Tb : List (Addr × Str)} {H : Hp} {D : Ends} {as : List Addr} {o : HO} (f : Fin2 p Tb a b H D) (h : H b = some (.lst (as.map V.ref))) : Fin2 p Tb a b (upd H b o) D := by
  obtain ⟨HS, k, n1, n2, fin⟩ := f.ex
  exact ⟨HS, k.upd n2 h, n1, n2, fin⟩
theorem Fin2.fin {p a b : Addr} {Tb : List (Addr × Str)} {H : Hp} {D : Ends} (f : Fin2 p Tb a b H D) : Fin p Tb H D := by
  obtain ⟨HS, k, _, _, fin⟩ := f.ex
  exact fin.mv k
theorem fin2_new {p tl : Addr} {Tb : List (Addr × Str)} {HS H : Hp} {D : Ends} {as : List Addr} (hp : PoolAt H p) (ht : H tl = some (.lst (as.map V.ref))) (m : Mv p Tb HS H) (n : HS tl = none) (fin : Fin p Tb HS D) {dl : Addr} (nd : H dl = none) : Fin2 p Tb tl dl H D := by
  have tp : tl ≠ p := fun e => by
    obtain ⟨x, y, z, q⟩ := hp
    rw [e, q] at ht
    exact refs_nopool x y z (Option.some.inj ht).symm
  have dt : dl ≠ tl := fun e => by rw [e, ht] at nd; cases nd
  refine ⟨L2.del H tl, ⟨⟨hp, fun b o nb e nt => ?_⟩, m.tabs⟩, L2.del_same, by rw [L2.del_ne dt]; exact nd, fun H' m' => fin H' ⟨⟨m'.rx.pool, fun b o nb e nt => ?_⟩, m'.tabs⟩⟩
  · by_cases k : b = tl
    · rw [k, L2.del_same] at e
      cases e
    · rw [L2.del_ne k] at e
      exact e
  · have k : b ≠ tl := fun k => by rw [k, n] at e; cases e
    refine m'.rx.keep b o nb ?_ nt
    rw [L2.del_ne k]
    exact m.rx.keep b o nb e nt
/-- behind all asks -/
structure AtFin (p Pt : Addr) (σ : L2.St) (H : Hp) (En : Ends) : Prop where
  ex : ∃ (tl dl : Addr) (as bs : List Addr) (Y : List (List Str)) (x1 x2 x3 x6 x7 x8 : Option V), σ = [some (.ref p), x1, x2, x3, some (.ref tl), some (.ref dl), x6, x7, x8] ∧ PoolAt H p ∧ LamX.Tabs (TbO Pt) H ∧ H tl = some (.lst (as.map V.ref)) ∧ H dl = some (.lst (bs.map V.ref)) ∧ Lists H as Y ∧ Lists H bs Y ∧ (∀ y ∈ Y, OkS y) ∧ Fin p (TbO Pt) H En
/-- three asks and what is due of them -/
structure AtDue (CE D C p Pt : Addr) (σ : L2.St) (H : Hp) (En : Ends) : Prop where
  ex : ∃ (fa ea eb pr tl dl : Addr) (as bs : List Addr) (t u : Fm) (xs : List V) (es : List (Str × Addr)) (v : V) (d : PyData) (x6 x7 x8 : Option V), σ = [some (.ref p), some (.ref fa), some (.ref pr), some v, some (.ref tl), some (.ref dl), x6, x7, x8] ∧
    ErC CE D C p Pt fa ea eb pr t u xs es v d H ∧ H tl = some (.lst (as.map V.ref)) ∧ H dl = some (.lst (bs.map V.ref)) ∧ tl ≠ dl ∧ Lists H as (YY (lenT xs) d.shown) ∧ Lists H bs (YY (lenT xs) d.shown) ∧ (∀ y ∈ YY (lenT xs) d.shown, OkS y) ∧ Fin2 p (TbO Pt) tl dl H En
theorem int_ok : ∀ i : _root_.Fin 101, PyData.strOk (toString ((i.val : Nat) : Int)) = true := by decide +kernel
section
variable {w : World} {P : Program} {base : Heap} {mg : Str → Option Value} {K : PySem.W.Frag} {CE C CN CM CS CU D S1 S2 S3 : Addr} {mc : Value}
variable {f c Pt : Addr} {A : Around} {outer : List Env} {s : Shared} {H0 : Hp} {p : Addr}
theorem er6 (hr : Room 24 (A.deeper (envOfC "_law_errors_right" (defScope s_L_errors_right) s.heap.objs.size f (.ref c)))) :
    PSs (cxE P w K mg base f (.ref c) A outer s H0) (erRest 6) (fun En σ H => AtFin p Pt σ H En) := by
  refine pss_of fun En σ H hyp => ?_
  obtain ⟨tl, dl, as, bs, Y, x1, x2, x3, x6, x7, x8, eσ, hp, T, ht, hd, la, lb, oks, fin⟩ := hyp.ex
  refine ⟨_, pss_one (ps_ret (pe_cmpR (op_eqD hr.units) (pv 4) (pv 5) (nomark _))), ?_⟩
  subst eσ
  refine ⟨_, rfl, _, rfl, _, _, .lst (SqL.of ht) (la.dp (K := K)), .lst (SqL.of hd) (lb.dp (K := K)), lsD_shaped oks, lsD_shaped oks, ?_⟩
  rw [lsD_eqv oks]
  exact fin H (.refl hp T)
theorem er4 (W : We P w K mg base CE C CN CM CS CU D S1 S2 S3 mc) (hgd : A.guards = some []) (hr : Room 24 (A.deeper (envOfC "_law_errors_right" (defScope s_L_errors_right) s.heap.objs.size f (.ref c))))
    (h5 : PSs (cxE P w K mg base f (.ref c) A outer s H0) (erRest 5) (fun En σ H => AtDue CE D C p Pt σ H En)) :
    PSs (cxE P w K mg base f (.ref c) A outer s H0) (erRest 4) (fun En σ H => AtAsk CE D C p Pt 3 σ H En) := by
  have hun := hr.un
  have T := W.k.T
  refine pss_of fun En σ H hyp => ?_
  obtain ⟨fa, ea, eb, pr, tl, as, t, u, xs, es, v, d, HS, x5, x6, x7, x8, eσ, k, ht, h1, h3, ll, mS, nS, fin⟩ := hyp.ex
  refine ⟨_, pss_cons (ps_set (i := 5) scEr.nd rfl (.inl rfl) (pe_lst (pa_cons (pe_lst (pa_cons pe_str (pa_cons pe_str pa_nil))) (pa_cons (pe_lst (pa_cons pe_str (pa_cons (pe_callTy call_str_int (by rfl) T.str (by decide +kernel) (pa_cons (pe_callB call_len_seq (by rfl) T.len PySem.boot_len (pa_cons (pv 2) pa_nil)) pa_nil)) pa_nil)))
      (pa_cons (pe_lst (pa_cons pe_str (pa_cons (pe_callB (call_reprS (by exact hgd) (by show (A.deeper (envOfC "_law_errors_right" (defScope s_L_errors_right) s.heap.objs.size f (.ref c))).units + 100 < cLine; omega)) (by rfl) T.repr (by decide +kernel) (pa_cons (pv 3) pa_nil)) pa_nil))) pa_nil))))) h5, ?_⟩
  subst eσ
  have l50 := k.l
  have l2 := k.l2
  refine ⟨(by decide), fun p1 n1 => ?_⟩
  have s1 := same_upd (o := .lst ([nmIS, ("None" : Str)].map V.str)) n1
  have g1 : (upd H p1 (.lst ([nmIS, ("None" : Str)].map V.str))) p1 = some (.lst ([nmIS, ("None" : Str)].map V.str)) := upd_same
  generalize eG1 : upd H p1 (.lst ([nmIS, ("None" : Str)].map V.str)) = G1 at s1 g1
  have eG1' : upd H p1 (.lst [V.str "InvalidSets", V.str "None"]) = G1 := eG1
  rw [eG1']
  refine ⟨_, rfl, pr, _, rfl, .inr (SqT.of (s1 _ _ k.h)), ?_⟩
  refine ⟨_, rfl, RpD.log_small (i := (xs.length : Nat)) (by omega), (by show 2 ≤ sizeLine; decide), fun p2 n2 => ?_⟩
  have s2 := same_upd (o := .lst ([nmIS, lenT xs].map V.str)) n2
  have g2 : (upd G1 p2 (.lst ([nmIS, lenT xs].map V.str))) p2 = some (.lst ([nmIS, lenT xs].map V.str)) := upd_same
  generalize eG2 : upd G1 p2 (.lst ([nmIS, lenT xs].map V.str)) = G2 at s2 g2
  have eG2' : upd G1 p2 (.lst [V.str "InvalidSets", V.str (toString ((xs.length : Nat) : Int))]) = G2 := eG2
  rw [eG2']
  have s12 := s1.trans s2
  refine ⟨_, rfl, v, d.shown, rfl, ⟨d, (k.o.keep fun a o e _ _ _ => s12 a o e).shd, rfl⟩, (by show 2 ≤ sizeLine; decide), fun p3 n3 => ?_⟩
  have s3 := same_upd (o := .lst ([nmNM, d.shown].map V.str)) n3
  have g3 : (upd G2 p3 (.lst ([nmNM, d.shown].map V.str))) p3 = some (.lst ([nmNM, d.shown].map V.str)) := upd_same
  generalize eG3 : upd G2 p3 (.lst ([nmNM, d.shown].map V.str)) = G3 at s3 g3
  have eG3' : upd G2 p3 (.lst [V.str "NotMembers", V.str d.shown]) = G3 := eG3
  rw [eG3']
  refine ⟨(by show 3 ≤ sizeLine; decide), fun dl nd => ?_⟩
  have s13 := s12.trans s3
  have m3 : Mv p (TbO Pt) H G3 := .same s13 k.hp k.T
  have s4 := same_upd (o := .lst ([p1, p2, p3].map V.ref)) nd
  have m4 : Mv p (TbO Pt) G3 (upd G3 dl (.lst ([p1, p2, p3].map V.ref))) := .same s4 m3.rx.pool m3.tabs
  have L2' : Lists (upd G3 dl (.lst ([p1, p2, p3].map V.ref))) [p1, p2, p3] (YY (lenT xs) d.shown) := ⟨rfl, fun j q y a b => by
    match j, a, b with
    | 0, a, b => cases a; cases b; exact s4 _ _ (s3 _ _ (s2 _ _ g1))
    | 1, a, b => cases a; cases b; exact s4 _ _ (s3 _ _ g2)
    | 2, a, b => cases a; cases b; exact s4 _ _ g3
    | n + 3, a, b => cases a⟩
  have od := k.o.ok
  have ol : PyData.strOk (lenT xs) = true := int_ok ⟨xs.length, by omega⟩
  have oks : ∀ y ∈ YY (lenT xs) d.shown, OkS y := fun y hy z hz => by
    have nI : ∀ z ∈ [nmIS, nmNM, "None"], PyData.strOk z = true := by decide +kernel
    have i1 := nI nmIS (by simp)
    have i2 := nI nmNM (by simp)
    have i4 := nI "None" (by simp)
    simp only [List.mem_cons, List.not_mem_nil, or_false] at hy
    rcases hy with rfl | rfl | rfl <;> simp only [List.mem_cons, List.not_mem_nil, or_false] at hz
    · rcases hz with rfl | rfl <;> assumption
    · rcases hz with rfl | rfl <;> assumption
    · rcases hz with rfl | rfl <;> assumption
  have t3 := s13 _ _ ht
  have dt : tl ≠ dl := fun e => by rw [e, nd] at t3; cases t3
  exact ⟨fa, ea, eb, pr, tl, dl, as, [p1, p2, p3], t, u, xs, es, v, d, _, _, _, rfl, (k.mv m3).mv m4, s4 _ _ t3, upd_same, dt, (ll.mv m3 k.hp).mv m4 m3.rx.pool, L2', oks, (fin2_new m3.rx.pool t3 (mS.trans m3) nS fin nd).mv m4⟩
end
end K1

namespace K1
open PySem PySem.Spec
open PyProof.Rows L2 L2H EnT StX SmX TxS DuX XdI Tr3 CnB ClX
section
variable {w : World} {P : Program} {base : Heap} {mg : Str → Option Value} {K : PySem.W.Frag} {CE C CN CM CS CU D S1 S2 S3 : Addr} {mc : Value}
variable {f c Pt : Addr} {A : Around} {outer : List Env} {s : Shared} {H0 : Hp} {p : Addr}
theorem er5 {fD : Addr} (W : We P w K mg base CE C CN CM CS CU D S1 S2 S3 mc) (AK : Asks K mg base c Pt) (hD : Has P w K mg base CX0 1 "_law_draw" fD ["_law_pool_here", "_law_many"] spDraw) (hgd : A.guards = some []) (hr : Room 24 (A.deeper (envOfC "_law_errors_right" (defScope s_L_errors_right) s.heap.objs.size f (.ref c)))) :
    PSs (cxE P w K mg base f (.ref c) A outer s H0) (erRest 5) (fun En σ H => AtDue CE D C p Pt σ H En) := by
  have hun := hr.un
  have T := W.k.T
  obtain ⟨prS, gS, fdS, pS, GS, bS⟩ := W.k.pFi
  obtain ⟨g, fd, hm, FD, F⟩ := W.k.kept
  obtain ⟨mv, kb⟩ := kb_kept1 FD
  have Fc := W.k.F.cl
  refine pss_of fun En σ H hyp => ?_
  obtain ⟨fa, ea, eb, pr, tl, dl, as, bs, t, u, xs, es, v, d, x6, x7, x8, eσ, k, ht, hd, tdl, la, lb, oks, fin⟩ := hyp.ex
  refine ⟨_, pss_cons (ps_if (pt_cmpR (op_neD hr.units) (pe_prop (pv 1) Fc pS GS (hr.mono (by decide)) bS .nil pass0 rfl) (pe_tup pa_nil) (nomark _))
      (pss_cons (ps_set (i := 6) scEr.nd rfl (.inr rfl) (pe_has hD (hr.mono (by decide)) (by rfl) pass0 (pa_cons (pv 0) (pa_cons (pe_callB call_len_seq (by rfl) T.len PySem.boot_len (pa_cons (pe_prop (pv 1) Fc pS GS (hr.mono (by decide)) bS .nil pass0 rfl) pa_nil)) pa_nil))))
      (pss_cons (ps_set (i := 7) scEr.nd rfl (.inr rfl) (pe_callTy call_tupK (by rfl) T.tuple (by decide +kernel) (pa_cons (pe_lc (own := [("_law_pair", 8)]) (g := gName 8) (tt := tTest (tOp (rIn K true) (tOp (rIxT K) (tVar 8) (tC (.int 0))) (tSl (rSlA K) (tProp D (spFieldsFa CE D) [] E0 (tVar 1)) (tPart (tVar 6)) tNoPart))) (te := tVar 8) rfl scEr.nd (pi_tup (pv 2))
        (blkOk_by (own := [("_law_pair", 8)]) (N := nmEr) (sc := defScope s_L_errors_right) (by decide +kernel)) (fun _ _ _ _ _ => pg_name (i := 8) scEr.nd rfl (Or.inl rfl))
        (fun _ _ _ _ _ => pts_one (pt_cmpR op_notIn_seq (pe_ix ix_tup (pv 8) pe_int (fun _ _ => rfl)) (pe_slice sl_tupA (pe_prop (pv 1) Fc pS GS (hr.mono (by decide)) bS .nil pass0 rfl) (po_some (pv 6)) po_none) (by rfl))) (fun _ _ _ _ _ => pv 8)) pa_nil)))
      (pss_cons (ps_expr (pe_bm PySem.F.plainAttrs_list PySem.F.slot_list_append PySem.F.type_list_append mt_append (pv 4) (pa_cons (pe_ask W AK hgd hr (t := fun E => tMethK D "is_kept" 2 0 (spKept K CE D C CS CM CU) (fun vs zs => vs ++ [.non]) E (tVar 1) (tCons (tVar 7) tNil) tNil) (LamX.lamS_by (by decide +kernel))
        (fun A' outer' s' H' E f' c' hr' => ?he)) pa_nil)))
      (pss_one (ps_expr (pe_bm PySem.F.plainAttrs_list PySem.F.slot_list_append PySem.F.type_list_append mt_append (pv 5) (pa_cons (pe_lst (pa_cons pe_str (pa_cons (pe_callB (call_reprS (by exact hgd) (by show (A.deeper (envOfC "_law_errors_right" (defScope s_L_errors_right) s.heap.objs.size f (.ref c))).units + 100 < cLine; omega)) (by rfl) T.repr (by decide +kernel) (pa_cons (pe_ix ix_tup (pe_prop (pv 1) Fc pS GS (hr.mono (by decide)) bS .nil pass0 rfl) (pv 6) (fun _ _ => rfl)) pa_nil)) pa_nil))) pa_nil)))))))
      pss_nil) (er6 (p := p) (Pt := Pt) hr), ?_⟩
  case he =>
    exact pe_methK (ks := []) (pv 1) W.k.F.cl hm F (hr'.mono (by decide)) kb (passes_call (takes_of rfl rfl rfl rfl) fun _ _ _ _ h => h) (pa_cons (pv 7) pa_nil) pk_nil
  subst eσ
  obtain ⟨dx, e1⟩ := k.e.at_
  have lz1 := la.len
  have lz2 := lb.len
  have na : as ≠ [] := fun e => by rw [e] at lz1; cases lz1
  have nb : bs ≠ [] := fun e => by rw [e] at lz2; cases lz2
  refine ⟨_, rfl, fa, dx, _, rfl, e1, fa, ea, eb, t, u, rfl, k.e, fun fl ys H1 s1 hfl fs => ?_⟩
  have nm : ∀ z ∈ ys, nameB z = true := fun z hz => by
    rcases ((fs.mem z).mp hz).1 with q | q
    · exact k.e.l.ok.names z q
    · exact k.e.r.ok.names z q
  have oksy : OkS ys := okS_names nm
  refine ⟨(by decide), fun p1 n1 => ?_⟩
  have s2 := same_upd (o := .tup []) n1
  have d1 : (upd H1 p1 (.tup [])) p1 = some (.tup []) := upd_same
  generalize upd H1 p1 (.tup []) = H2 at s2 d1 ⊢
  have s12 := s1.trans s2
  have m2 : Mv p (TbO Pt) H H2 := .same s12 k.hp k.T
  have k2 := k.mv m2
  refine ⟨_, _, .tup (SqT.of (s2 _ _ hfl)) (dpAll_str ys), .tup (SqT.of d1) .nil, tupS_shaped oksy, rfl, ?_⟩
  cases hys : ys with
  | nil => exact ⟨_, rfl, iteF ⟨tl, dl, as, bs, _, _, _, _, _, _, _, rfl, k2.hp, k2.T, s12 _ _ ht, s12 _ _ hd, la.mv m2 k.hp, lb.mv m2 k.hp, oks, (fin.mv m2).fin⟩⟩
  | cons z0 zs0 =>
    have eN : PyData.eqv (.tuple (strD (z0 :: zs0))) (.tuple []) = false := rfl
    rw [eN]
    refine ⟨_, rfl, iteT ?_⟩
    have lpos : 0 < ys.length := by rw [hys]; simp
    have l200 : ys.length ≤ 200 := by
      have e1 : ys.length ≤ (t.lvs ++ u.lvs).length := len_sub fs.nd fun z hz => List.mem_append.mpr ((fs.mem z).mp hz).1
      rw [List.length_append] at e1
      have e2 : t.lvs.length ≤ 100 := k.e.l.n
      have e3 : u.lvs.length ≤ 100 := k.e.r.n
      omega
    have f1 := s12 _ _ e1
    refine ⟨_, rfl, _, rfl, fa, dx, _, rfl, f1, fa, ea, eb, t, u, rfl, k2.e, fun fl3 ys3 H3 s3 hfl3 fs3 => ?_⟩
    have ey := fs3.uniq fs
    subst ey
    have m3 : Mv p (TbO Pt) H H3 := m2.trans (.same s3 k2.hp k2.T)
    have k3 := k.mv m3
    refine ⟨fl3, _, rfl, .inr (SqT.of hfl3), p, _, rfl, k3.hp, by rw [List.length_map]; omega, by rw [List.length_map]; omega, fun i H4 x4 i0 i1 => ?_⟩
    rw [List.length_map] at i1
    obtain ⟨at', rfl⟩ : ∃ k : Nat, i = (k : Int) := ⟨i.toNat, by omega⟩
    have hat : at' < ys3.length := by omega
    have m4 : Mv p (TbO Pt) H H4 := m3.trans (.ext x4 k3.hp k3.T)
    have k4 := k.mv m4
    obtain ⟨dx4, g1⟩ := k4.e.at_
    refine ⟨_, rfl, pr, rfl, ⟨_, SqT.of k4.h⟩, fun DD nD => ?_⟩
    refine lc_it (walk_tup (xs := xs)) (fun i H' => Same H4 H' ∧ H' DD = some (.lst ((keptF xs es (ys3.drop at') i).map (·.1)))) ?_ ?_ ?_ ?_
    · exact ⟨same_upd nD, upd_same⟩
    · rintro i H' _ ⟨sm, _⟩
      exact SqT.of (sm _ _ k4.h)
    · rintro i x H5 H6 hi ⟨sm, hD'⟩ ⟨rfl, ey⟩
      have ey : xs[i]? = some x := ey
      have hie : i < es.length := by rw [k.el]; exact hi
      obtain ⟨z, q1, ez⟩ : ∃ z q, es[i]? = some (z, q) := ⟨(es[i]).1, (es[i]).2, by rw [List.getElem?_eq_getElem hie]⟩
      obtain ⟨b, us, b1, b2, b3, b4, b5⟩ := k4.pa i z q1 ez
      rw [b1] at ey
      cases ey
      have hb := sm _ _ b2
      have hg1 := sm _ _ g1
      refine ⟨rfl, _, rfl, _, _, _, _, rfl, rfl, (SqT.of hb), rfl, _, rfl, fa, dx4, _, rfl, hg1, fa, ea, eb, t, u, rfl, k4.e.same sm, fun fl5 ys5 H7 s7 hfl5 fs5 => ?_⟩
      have ey5 := fs5.uniq fs
      subst ey5
      refine ⟨_, rfl, _, rfl, ?_⟩
      unfold tNoPart
      refine slA_go (k := at') hfl5 (by rw [List.length_map]; omega) fun c2 H8 s8 h8 => ?_
      rw [← List.map_drop] at h8
      have s78 := s7.trans s8
      have hD8 := s78 _ _ hD'
      have et : (xs.zip es).take (i + 1) = (xs.zip es).take i ++ [(V.ref b, (z, q1))] := by
        rw [List.take_add_one, show (xs.zip es)[i]? = some (V.ref b, (z, q1)) from List.getElem?_zip_eq_some.mpr ⟨b1, ez⟩]
        rfl
      have ln : (keptF xs es (ys5.drop at') i).length ≤ 50 := by
        unfold keptF
        have a1 := List.length_filter_le (fun q : Px => decide (¬ q.2.1 ∈ ys5.drop at')) ((xs.zip es).take i)
        have a2 := k.l
        rw [List.length_take, List.length_zip] at a1
        omega
      refine ⟨c2, _, rfl, .inr (SqT.of h8), rfl, strs_flat _, ?_⟩
      have ei : (if true = true then !inV (V.str z) ((ys5.drop at').map V.str) else inV (V.str z) ((ys5.drop at').map V.str)) = decide (¬ z ∈ ys5.drop at') := by
        rw [if_pos rfl, inV_mem, decide_not]
      refine ⟨_, rfl, ?_⟩
      rw [ei]
      by_cases hz : z ∈ ys5.drop at'
      · rw [decide_eq_false (fun h => h hz)]
        refine iteF ⟨sm.trans s78, ?_⟩
        have e2 : keptF xs es (ys5.drop at') (i + 1) = keptF xs es (ys5.drop at') i := by
          unfold keptF
          rw [et, List.filter_append]
          simp [hz]
        rw [e2]
        exact hD8
      · rw [decide_eq_true hz]
        refine iteT ⟨_, rfl, _, hD8, by rw [List.length_map, sizeLine_eq]; omega, same_set (sm.trans s78) nD, ?_⟩
        have e2 : keptF xs es (ys5.drop at') (i + 1) = keptF xs es (ys5.drop at') i ++ [(V.ref b, (z, q1))] := by
          unfold keptF
          rw [et, List.filter_append]
          simp [hz]
        rw [e2, upd_same, List.map_append]
        rfl
    · rintro H5 ⟨sm, hD'⟩
      refine ⟨DD, _, rfl, .inl ⟨SqL.of hD', fun ga nga => ?_⟩⟩
      have s6 := same_upd (o := .tup ((keptF xs es (ys3.drop at') xs.length).map (·.1))) nga
      have hga : (upd H5 ga (.tup ((keptF xs es (ys3.drop at') xs.length).map (·.1)))) ga = some (.tup ((keptF xs es (ys3.drop at') xs.length).map (·.1))) := upd_same
      generalize upd H5 ga (.tup ((keptF xs es (ys3.drop at') xs.length).map (·.1))) = H6 at s6 hga ⊢
      have m6 : Mv p (TbO Pt) H H6 := m4.trans (.same (sm.trans s6) k4.hp k4.T)
      have k6 := k.mv m6
      have hz : ys3[at']? = some (ys3[at']) := List.getElem?_eq_getElem hat
      generalize ys3[at'] = z at hz
      have nz : nameB z = true := nm z (List.mem_of_getElem? hz)
      have t6 : H6 tl = some (.lst (as.map V.ref)) := m6.at k.hp ht refs_nopool (fun _ e => by cases e)
      refine ⟨_, rfl, .inl ⟨rfl, _, SqL.of t6⟩, ?_⟩
      refine ask_err k6.hp k6.T (v := .str z) (x := (PyData.str z).shown) (fun H' _ => svd_name nz) (.inr (.inr ⟨rfl, rfl, rfl⟩)) (fun H7 Q' E m7 eE => ?_) fun r H7 m7 hr7 => ?_
      · have k7 := k6.mv m7
        obtain ⟨dx7, q1⟩ := k7.e.at_
        have hga7 := m7.tup k6.hp hga
        refine ⟨_, rfl, fa, dx7, _, rfl, q1, ff_kept ea eb, _, rfl, rfl, rfl, fa, ea, eb, .ref ga, .non, t, u, (keptF xs es (ys3.drop at') xs.length).map (·.2), none, rfl, k7.e, .non, .inr ⟨ga, _, rfl, hga7, kept_pairs k7.pa, kept_nodup k.el k.nd, ?_, .inl ⟨by rw [List.length_map, List.length_map], .inr (.inl ⟨by simp, fun ys2 fs2 => ?_⟩)⟩⟩⟩
        · have a1 := List.length_filter_le (fun q : Px => decide (¬ q.2.1 ∈ ys3.drop at')) ((xs.zip es).take xs.length)
          have a2 := k.l
          rw [List.length_take, List.length_zip] at a1
          rw [List.length_map]
          unfold keptF
          omega
        · have ey := fs2.uniq fs
          subst ey
          have hzd : z ∈ ys2.drop at' := by
            rw [List.mem_iff_getElem?]
            exact ⟨0, by rw [List.getElem?_drop]; exact hz⟩
          refine ⟨z, at', hz, fun y hy => ?_, fun hm => ?_, eE⟩
          · refine (kept_mem k.el y).mpr ⟨?_, fun hd' => ?_⟩
            · have hm := (fs2.mem y).mp (List.mem_of_mem_take hy)
              exact k.cov y hm.1 hm.2
            · have nd3 := fs2.nd
              rw [← List.take_append_drop at' ys2, List.nodup_append] at nd3
              exact nd3.2.2 y hy y hd' rfl
          · exact ((kept_mem k.el z).mp hm).2 hzd
      · have m67 := m6.trans m7
        have k7 := k.mv m67
        have t7 : H7 tl = some (.lst (as.map V.ref)) := m7.at k6.hp t6 refs_nopool (fun _ e => by cases e)
        have d7 : H7 dl = some (.lst (bs.map V.ref)) := m67.at k.hp hd refs_nopool (fun _ e => by cases e)
        have ln1 : as.length = 3 := lz1
        have ln2 : bs.length = 3 := lz2
        refine ⟨tl, _, _, rfl, rfl, t7, by rw [List.length_map, ln1, sizeLine_eq]; omega, ?_⟩
        have e8 : (upd H7 tl (.lst (as.map V.ref ++ [V.ref r]))) tl = some (.lst ((as ++ [r]).map V.ref)) := by rw [upd_same, List.map_append]; rfl
        have k8 := k7.set t7 na (o := .lst (as.map V.ref ++ [V.ref r]))
        have d8 : (upd H7 tl (.lst (as.map V.ref ++ [V.ref r]))) dl = some (.lst (bs.map V.ref)) := by rw [upd_ne (Ne.symm tdl)]; exact d7
        have r8 := upd_keep (o := .lst (as.map V.ref ++ [V.ref r])) t7 hr7 (strs_refs na)
        have la8 := ((la.mv m67 k.hp).set t7 na (o := .lst (as.map V.ref ++ [V.ref r]))).snoc r8
        have lb8 := (lb.mv m67 k.hp).set t7 na (o := .lst (as.map V.ref ++ [V.ref r]))
        have fin8 := (fin.mv m67).set1 t7 (o := .lst (as.map V.ref ++ [V.ref r]))
        generalize upd H7 tl (.lst (as.map V.ref ++ [V.ref r])) = H8 at e8 k8 d8 la8 lb8 fin8 ⊢
        obtain ⟨dx8, h5⟩ := k8.e.at_
        refine ⟨_, rfl, .inl ⟨rfl, _, SqL.of d8⟩, _, rfl, fa, dx8, _, rfl, h5, fa, ea, eb, t, u, rfl, k8.e, fun fl9 ys9 H9 s9 hfl9 fs9 => ?_⟩
        have ey9 := fs9.uniq fs
        subst ey9
        have ax : atI (ys9.map V.str) ((at' : Nat) : Int) = some (.str z) := atI_nat (by rw [List.getElem?_map, hz]; rfl)
        refine ⟨_, rfl, fl9, _, _, _, rfl, rfl, SqT.of hfl9, ax, ?_⟩
        refine ⟨.str z, _, rfl, svd_name nz, (by show 2 ≤ sizeLine; decide), fun q4 n4 => ?_⟩
        have s10 := same_upd (o := .lst ([nmUF, (PyData.str z).shown].map V.str)) n4
        have r10 : (upd H9 q4 (.lst ([nmUF, (PyData.str z).shown].map V.str))) q4 = some (.lst ([nmUF, (PyData.str z).shown].map V.str)) := upd_same
        generalize eG : upd H9 q4 (.lst ([nmUF, (PyData.str z).shown].map V.str)) = H10 at s10 r10
        have eG' : upd H9 q4 (.lst [V.str "UnknownField", V.str (PyData.str z).shown]) = H10 := eG
        rw [eG']
        have s810 := s9.trans s10
        have m10 : Mv p (TbO Pt) H8 H10 := .same s810 k8.hp k8.T
        have d10 := s810 _ _ d8
        refine ⟨dl, _, _, rfl, rfl, d10, by rw [List.length_map, ln2, sizeLine_eq]; omega, ?_⟩
        have k10 := (k8.mv m10).set d10 nb (o := .lst (bs.map V.ref ++ [V.ref q4]))
        have nas : as ++ [r] ≠ [] := by simp
        have oks2 : ∀ y ∈ YY (lenT xs) d.shown ++ [[nmUF, (PyData.str z).shown]], OkS y := fun y hy => by
          rcases List.mem_append.mp hy with h | h
          · exact oks y h
          · rw [List.mem_singleton.mp h]
            intro y hy
            simp only [List.mem_cons, List.not_mem_nil, or_false] at hy
            rcases hy with rfl | rfl
            · decide +kernel
            · exact repr_ok nz
        exact ⟨tl, dl, as ++ [r], bs ++ [q4], _, _, _, _, _, _, _, rfl, k10.hp, k10.T, by rw [upd_ne tdl]; exact s810 _ _ e8, by rw [upd_same, List.map_append]; rfl, (la8.mv m10 k8.hp).set d10 nb, ((lb8.mv m10 k8.hp).set d10 nb).snoc (upd_keep d10 r10 (strs_refs nb)), oks2, ((fin8.mv m10).set2 d10).fin⟩
end
end K1

namespace K1
open PySem PySem.Spec
open PyProof.Rows L2 L2H EnT StX SmX TxS DuX XdI Tr3 CnB ClX
/-- before the def begins -/
structure AtEr (CE D C p Pt : Addr) (σ : L2.St) (H : Hp) (En : Ends) : Prop where
  ex : ∃ (fa ea eb pr : Addr) (t u : Fm) (xs : List V) (es : List (Str × Addr)),
    σ = [some (.ref p), some (.ref fa), some (.ref pr), none, none, none, none, none, none] ∧ ErC CE D C p Pt fa ea eb pr t u xs es (.int 0) (.int 0) H ∧ Fin p (TbO Pt) H En
def spErrR (CE D C Pt : Addr) : Sp := fun vs H Q _ => ∃ (p fa ea eb pr : Addr) (t u : Fm) (xs : List V) (es : List (Str × Addr)), vs = [.ref p, .ref fa, .ref pr] ∧ ErC CE D C p Pt fa ea eb pr t u xs es (.int 0) (.int 0) H ∧ ∀ H', Mv p (TbO Pt) H H' → Q (.bl true) H'
section
variable {w : World} {P : Program} {base : Heap} {mg : Str → Option Value} {K : PySem.W.Frag} {CE C CN CM CS CU D S1 S2 S3 : Addr} {mc : Value}
variable {f c Pt : Addr} {A : Around} {outer : List Env} {s : Shared} {H0 : Hp} {p : Addr}
theorem er0 {fD : Addr} (W : We P w K mg base CE C CN CM CS CU D S1 S2 S3 mc) (AK : Asks K mg base c Pt) (hD : Has P w K mg base CX0 1 "_law_draw" fD ["_law_pool_here", "_law_many"] spDraw) (hgd : A.guards = some []) (hr : Room 24 (A.deeper (envOfC "_law_errors_right" (defScope s_L_errors_right) s.heap.objs.size f (.ref c)))) :
    PSs (cxE P w K mg base f (.ref c) A outer s H0) (defBody s_L_errors_right) (fun En σ H => AtEr CE D C p Pt σ H En) := by
  have hun := hr.un
  have T := W.k.T
  obtain ⟨g, fd, hm, FD, F⟩ := W.k.kept
  obtain ⟨mv, kb⟩ := kb_kept2 FD
  refine pss_of fun En σ H hyp => ?_
  obtain ⟨fa, ea, eb, pr, t, u, xs, es, eσ, k, fin⟩ := hyp.ex
  refine ⟨_, pss_cons (ps_set (i := 3) scEr.nd rfl (.inr rfl) (pe_ix ix_list (pe_lst (pa_cons pe_int (pa_cons pe_str (pa_cons (pe_tup pa_nil) (pa_cons (pe_tup (pa_cons pe_str pa_nil)) (pa_cons pe_bl (pa_cons (pe_lst pa_nil) pa_nil))))))) (pe_has hD (hr.mono (by decide)) (by rfl) pass0 (pa_cons (pv 0) (pa_cons pe_int pa_nil))) (fun _ _ => rfl)))
    (pss_cons (ps_set (i := 4) scEr.nd rfl (.inl rfl) (pe_lst (pa_cons (pe_ask W AK hgd hr (t := fun E => tMethK D "is_kept" 2 1 (spKept K CE D C CS CM CU) (fun vs zs => vs ++ zs) E (tVar 1) (tCons (tCB (rListOf K) (tCons (tVar 2) tNil)) tNil) (tCons (tVar 3) tNil)) (LamX.lamS_by (by decide +kernel)) (fun A' outer' s' H' E f' c' hr' => ?he)) pa_nil)))
    (er2 (p := p) W AK hgd hr (er3 W AK hgd hr (er4 W hgd hr (er5 W AK hD hgd hr))))), ?_⟩
  case he =>
    exact pe_methK (ks := ["given"]) (pv 1) W.k.F.cl hm F (hr'.mono (by decide)) kb (passes_call (takes_of rfl rfl rfl rfl) fun _ _ _ _ h => h) (pa_cons (pe_callTy call_listK (by rfl) T.list (by decide +kernel) (pa_cons (pv 2) pa_nil)) pa_nil) (pk_cons (pv 3) pk_nil)
  subst eσ
  refine ⟨(by decide), fun p1 => fun n1 => ⟨(by decide), fun p2 => fun n2 => ⟨(by decide), fun p3 => fun n3 => ⟨(Nat.le_of_ble_eq_true rfl), fun p4 => fun n4 => ⟨_, rfl, _, _, rfl, ?_⟩⟩⟩⟩⟩
  have s1 := same_upd (o := .tup []) n1
  have s2 := same_upd (o := .tup [V.str sa]) n2
  have s3 := same_upd (o := .lst []) n3
  have s4 := same_upd (o := .lst [.int 0, .str sa, .ref p1, .ref p2, .bl true, .ref p3]) n4
  have g1 := s4 p1 _ (s3 p1 _ (s2 p1 _ upd_same))
  have g2 := s4 p2 _ (s3 p2 _ upd_same)
  have g3 := s4 p3 _ upd_same
  have sA := ((s1.trans s2).trans s3).trans s4
  have gB := upd_same (H := upd (upd (upd H p1 (.tup [])) p2 (.tup [V.str sa])) p3 (.lst [])) (a := p4) (o := HO.lst [.int 0, .str sa, .ref p1, .ref p2, .bl true, .ref p3])
  clear n1 n2 n3 n4 s1 s2 s3 s4
  generalize upd (upd (upd (upd H p1 (.tup [])) p2 (.tup [V.str sa])) p3 (.lst [])) p4 (.lst [.int 0, .str sa, .ref p1, .ref p2, .bl true, .ref p3]) = G at g1 g2 g3 gB sA ⊢
  have m2 : Mv p (TbO Pt) H G := .same sA k.hp k.T
  have k2 := k.mv m2
  refine ⟨k2.hp, by decide, by decide, fun dd H2 x2 d0 d1 => ?_⟩
  have m3 : Mv p (TbO Pt) G H2 := .ext x2 k2.hp k2.T
  have k3 := k2.mv m3
  have h1 := m3.tup k2.hp g1
  have h2 := m3.tup k2.hp g2
  have h3 := m3.at k2.hp g3 (fun _ _ _ e => by cases e) (fun _ e => by cases e)
  have h4 := m3.at k2.hp gB (fun _ _ _ e => by cases e) (fun _ e => by cases e)
  obtain ⟨j, rfl⟩ : ∃ j : Nat, dd = (j : Int) := ⟨dd.toNat, by omega⟩
  have all : ∀ (j : Nat) (y : V), ([.int 0, .str sa, .ref p1, .ref p2, .bl true, .ref p3] : List V)[j]? = some y → ∃ d, OddD H2 y d ∧ y ≠ .non := fun j y hy => by
    match j, hy with
    | 0, hy => cases hy; exact ⟨_, .int, fun e => by cases e⟩
    | 1, hy => cases hy; exact ⟨_, .str, fun e => by cases e⟩
    | 2, hy => cases hy; exact ⟨_, .tup0 h1, fun e => by cases e⟩
    | 3, hy => cases hy; exact ⟨_, .tup1 h2, fun e => by cases e⟩
    | 4, hy => cases hy; exact ⟨_, .bl, fun e => by cases e⟩
    | 5, hy => cases hy; exact ⟨_, .lst h3, fun e => by cases e⟩
    | n + 6, hy => cases hy
  obtain ⟨y, hy⟩ : ∃ y, ([.int 0, .str sa, .ref p1, .ref p2, .bl true, .ref p3] : List V)[j]? = some y := ⟨_, List.getElem?_eq_getElem (show j < 6 by omega)⟩
  obtain ⟨d, od, nv⟩ := all j y hy
  have k4 : ErC CE D C p Pt fa ea eb pr t u xs es y d H2 := ⟨k3.hp, k3.T, k3.e, k3.h, k3.pa, k3.el, k3.l, k3.l2, k3.nd, od, nv, k3.cov⟩
  have m23 := m2.trans m3
  have fin4 := fin.mv m23
  clear all
  refine ⟨p4, _, _, y, rfl, rfl, SqL.of h4, atI_nat hy, ?_⟩
  unfold gName tSeq tAsg tLst tCons
  refine ask_err k4.hp k4.T (v := .non) (x := "None") (fun H' _ => ⟨.none, .inl ⟨.non, .of rfl (by decide) (by decide)⟩, rfl⟩) (.inl ⟨rfl, rfl, rfl⟩) (fun H3 Q' E m4 eE => ?_) fun r H3 m4 hr => ?_
  · have k5 := k4.mv m4
    obtain ⟨dx, e1⟩ := k5.e.at_
    refine ⟨_, rfl, fa, dx, _, rfl, e1, ff_kept ea eb, _, rfl, pr, xs, rfl, .inr (SqT.of k5.h), fun l nl => ?_⟩
    have s5 := same_upd (o := .lst xs) nl
    refine ⟨_, rfl, rfl, rfl, fa, ea, eb, .ref l, y, t, u, es, some false, rfl, k5.e.same s5, (.odd k5.nv k5.o.vok : GvV C H3 y (some false)).same s5, ?_⟩
    exact .inl ⟨l, _, rfl, upd_same, eE.same s5⟩
  · refine ⟨by show 1 ≤ sizeLine; decide, fun tl nt => ?_⟩
    have k5 := k4.mv m4
    have s5 := same_upd (o := .lst ([r].map V.ref)) nt
    have m5 : Mv p (TbO Pt) H3 (upd H3 tl (.lst ([r].map V.ref))) := .same s5 k5.hp k5.T
    refine ⟨fa, ea, eb, pr, tl, [r], t, u, xs, es, y, d, L2.del (upd H3 tl (.lst ([r].map V.ref))) tl, _, _, _, _, rfl, k5.mv m5, upd_same, by decide, by decide, ⟨rfl, fun j d' y' a b => ?_⟩, ⟨⟨m5.rx.pool, fun b o nb e nt' => ?_⟩, m5.tabs⟩, L2.del_same, fun H' m' => fin4 H' ⟨⟨m'.rx.pool, fun b o nb e nt' => ?_⟩, m'.tabs⟩⟩
    · match j, a, b with
      | 0, a, b => cases a; cases b; exact s5 _ _ hr
      | n + 1, a, b => cases a
    · by_cases k : b = tl
      · rw [k, L2.del_same] at e
        cases e
      · rw [L2.del_ne k] at e
        exact e
    · have e3 := m4.rx.keep b o nb e nt'
      have nb2 : b ≠ tl := fun q => by rw [q, nt] at e3; cases e3
      exact m'.rx.keep b o nb (by rw [L2.del_ne nb2]; exact s5 _ _ e3) nt'
theorem ok_errR {fD : Addr} (W : We P w K mg base CE C CN CM CS CU D S1 S2 S3 mc) (AK : Asks K mg base c Pt) (hD : Has P w K mg base CX0 1 "_law_draw" fD ["_law_pool_here", "_law_many"] spDraw) (FR : FunC K "_law_errors_right" "_law_errors_right" s_L_errors_right f c) : FnG P w K mg base CX0 25 f (spErrR CE D C Pt) := by
  intro A outer st H us vs Q E hgd hr e0 r hyp
  obtain ⟨p, fa, ea, eb, pr, t, u, xs, es, rfl, k, q⟩ := hyp
  obtain ⟨oc, od, kV, doc, pm, an, ct, osl, lk, hcd⟩ := FR.ex
  refine LamX.run_ofS (N := nmEr) (ps := psEr) (us := us) (vs := [.ref p, .ref fa, .ref pr]) lk hcd scEr hr e0 ?_ r rfl fun hr' => ⟨_, (er0 (p := p) (Pt := Pt) W AK hD hgd hr').nox, ?_⟩
  · have b : L2.Binds K (PySem.W.fnOf "_law_errors_right" "_law_errors_right" (defArgs s_L_errors_right) (defBody s_L_errors_right) (defScope s_L_errors_right) .none kV doc pm an (.ref c) ct) psEr [] := .all fun us hl => match us, hl with | [_, _, _], _ => rfl
    have hl : us.length = 3 := by rw [← r.length]; rfl
    have z := b st us (e0.mod.kin.keeps fun b o e => (e0.bs b o e).1) (by rw [List.append_nil]; exact hl)
    rw [List.append_nil] at z
    exact z
  · exact ⟨fa, ea, eb, pr, t, u, xs, es, rfl, k, fun H' m' => q H' m'⟩
end
end K1

namespace K1
open PySem PySem.Spec
open PyProof.Rows L2 L2H EnT StX SmX TxS DuX XdI Tr3 CnB ClX
/-! ### right: its names, a turn's asks -/
abbrev nmRt : List Str := ["_law_pool_here", "_law_fields", "_law_people", "_law_known", "_law_some", "_law_words_here", "_law_turn", "_law_low", "_law_high", "_law_pairs", "_law_name", "_law_field"]
theorem scRt : FnScope nmRt ["_law_pool_here"] (defScope sRight) := ⟨rfl, rfl, rfl, by decide +kernel, rfl, by decide +kernel, by decide +kernel⟩
abbrev cxR (P : Program) (w : World) (K : PySem.W.Frag) (mg : Str → Option Value) (base : Heap) (f : Addr) (cdv : Value) (A : Around) (outer : List Env) (s : Shared) (H : Hp) : Cx := (cxOf CX0 P w K mg base nmRt "_law_right" (defScope sRight) f cdv A outer s H E0).nox
def rtRest (i : Nat) : List Stmt := (defBody sRight).drop i
def tuB : List Stmt := match (defBody sRight).drop 3 with
  | (.For _ _ b _ _) :: _ => b
  | _ => []
theorem Mv.fm {p : Addr} {Tb : List (Addr × Str)} {H H' : Hp} {v : V} {t : Fm} (x : Mv p Tb H H') (hp : PoolAt H p) (h : FmAt H v t) : FmAt H' v t := h.keep (fun a xs e => x.tup hp e)
theorem Mv.lst' {p a : Addr} {Tb : List (Addr × Str)} {H H' : Hp} {xs : List V} (m : Mv p Tb H H') (n : a ≠ p) (h : H a = some (.lst xs)) : H' a = some (.lst xs) := m.rx.keep a _ n h (fun _ e => by cases e)
theorem Mv.known {d p : Addr} {Tb : List (Addr × Str)} {H H' : Hp} {rs : List Rw3} {N : List Str} (m : Mv p Tb H H') (hp : PoolAt H p) (k : KnownAt H d p rs N) : KnownAt H' d p rs N :=
  ⟨m.at hp k.d (fun _ _ _ e => by cases e) (fun _ e => by cases e), fun r hr => ⟨m.lst' (k.l r hr).2.2 (k.l r hr).1, (k.l r hr).2⟩⟩
/-- what the right has drawn -/
structure RtK (p Pt fs pe kn sm wd : Addr) (F N G : List Str) (rs : List Rw3) (H : Hp) : Prop where
  hp : PoolAt H p
  T : LamX.Tabs (TbO Pt) H
  hfs : H fs = some (.lst (F.map V.str))
  fp : fs ≠ p
  hpe : H pe = some (.lst (N.map V.str))
  pep : pe ≠ p
  kn : KnownAt H kn p rs N
  kF : rs.map (·.1) = F
  l4 : F.length = 4
  l7 : N.length = 7
  nd : F.Nodup
  tF : ∀ z ∈ F, nameB z = true ∧ fieldB z = true
  tN : ∀ z ∈ N, nameB z = true
  hsm : H sm = some (.lst (G.map V.str))
  smp : sm ≠ p
  gN : ∀ z ∈ G, z ∈ N
  lG : G.length ≤ 60
  hwd : H wd = some (.lst ((F ++ [tGiven, tNone]).map V.str))
  wdp : wd ≠ p
section
variable {p Pt fs pe kn sm wd : Addr} {F N G : List Str} {rs : List Rw3} {H H' : Hp}
theorem RtK.mv (m : Mv p (TbO Pt) H H') (k : RtK p Pt fs pe kn sm wd F N G rs H) : RtK p Pt fs pe kn sm wd F N G rs H' :=
  { k with hp := m.rx.pool, T := m.tabs, hfs := m.lst' k.fp k.hfs, hpe := m.lst' k.pep k.hpe, kn := m.known k.hp k.kn, hsm := m.lst' k.smp k.hsm, hwd := m.lst' k.wdp k.hwd }
theorem RtK.lr (k : RtK p Pt fs pe kn sm wd F N G rs H) : rs.length = 4 := by
  have z := congrArg List.length k.kF
  rw [List.length_map, k.l4] at z
  exact z
theorem RtK.rf (k : RtK p Pt fs pe kn sm wd F N G rs H) : ∀ r ∈ rs, nameB r.1 = true ∧ fieldB r.1 = true := fun r hr => k.tF r.1 (by rw [← k.kF]; exact List.mem_map.mpr ⟨r, hr, rfl⟩)
theorem RtK.ndr (k : RtK p Pt fs pe kn sm wd F N G rs H) : (rs.map (·.1)).Nodup := by rw [k.kF]; exact k.nd
theorem RtK.cov {t : Fm} (k : RtK p Pt fs pe kn sm wd F N G rs H) (lv : ∀ z ∈ t.lvs, z ∈ F ++ [tGiven, tNone]) : ∀ z ∈ t.lvs, fieldB z = true → z ∈ rs.map (·.1) := fun z hz fz => by
  rw [k.kF]
  rcases List.mem_append.mp (lv z hz) with h | h
  · exact h
  · exfalso
    rcases List.mem_cons.mp h with h | h
    · rw [h] at fz
      exact absurd fz (by decide +kernel)
    · rw [List.mem_singleton.mp h] at fz
      exact absurd fz (by decide +kernel)
theorem RtK.one {C : Addr} {v1 v2 : V} {t u : Fm} (k : RtK p Pt fs pe kn sm wd F N G rs H) (m1 : FmAt H v1 t) (m2 : FmAt H v2 u) (ok1 : t.Ok) (ok2 : u.Ok) (d1 : t.dep ≤ 6) (d2 : u.dep ≤ 6) (lv1 : ∀ z ∈ t.lvs, z ∈ F ++ [tGiven, tNone]) (lv2 : ∀ z ∈ u.lvs, z ∈ F ++ [tGiven, tNone]) :
    OneI C kn pe sm p v1 v2 t u rs N G H :=
  ⟨m1, m2, ok1, ok2, d1, d2, k.kn, (by rw [k.lr]; decide), (fun e => by have := k.lr; rw [e] at this; cases this), k.ndr, k.rf, k.hpe, (by rw [k.l7]; decide), k.tN, k.hsm, k.lG, k.gN, fun z h fz => h.elim (fun h => k.cov lv1 z h fz) fun h => k.cov lv2 z h fz⟩
end
/-- a turn's two forms -/
structure AtTw (p Pt : Addr) (σ : L2.St) (H : Hp) (En : Ends) : Prop where
  ex : ∃ (fs pe kn sm wd : Addr) (F N G : List Str) (rs : List Rw3) (v1 v2 : V) (t u : Fm) (x6 x9 x10 x11 : Option V), σ = [some (.ref p), some (.ref fs), some (.ref pe), some (.ref kn), some (.ref sm), some (.ref wd), x6, some v1, some v2, x9, x10, x11] ∧
    RtK p Pt fs pe kn sm wd F N G rs H ∧ FmAt H v1 t ∧ FmAt H v2 u ∧ t.Ok ∧ u.Ok ∧ t.dep ≤ 4 ∧ u.dep ≤ 4 ∧ (∀ z ∈ t.lvs, z ∈ F ++ [tGiven, tNone]) ∧ (∀ z ∈ u.lvs, z ∈ F ++ [tGiven, tNone]) ∧
    ∀ σ' H', (∃ y6 y7 y8 y9 y10 y11, σ' = [some (.ref p), some (.ref fs), some (.ref pe), some (.ref kn), some (.ref sm), some (.ref wd), y6, y7, y8, y9, y10, y11]) → Mv p (TbO Pt) H H' → En.nx σ' H'
/-- what the right calls -/
structure Rk (P : Program) (w : World) (K : PySem.W.Frag) (mg : Str → Option Value) (base : Heap) (CE C D Pt : Addr) : Prop where
  one : ∃ f, mg "_law_one_right" = some (.ref f) ∧ PySem.W.keepIn K (.ref f) = true ∧ FnG P w K mg base CX0 25 f (spOneF C)
  err : ∃ f, mg "_law_errors_right" = some (.ref f) ∧ PySem.W.keepIn K (.ref f) = true ∧ FnG P w K mg base CX0 25 f (spErrR CE D C Pt)
  hn : ∃ f, Has P w K mg base CX0 2 "_law_names" f ["_law_pool_here", "_law_many"] spNames
  hd : ∃ f, Has P w K mg base CX0 1 "_law_draw" f ["_law_pool_here", "_law_many"] spDraw
  hs : ∃ f, Has P w K mg base CX0 2 "_law_sets" f ["_law_pool_here", "_law_fields", "_law_people"] spSetsL
  hf : ∃ f, Has P w K mg base CX0 5 "_law_form" f ["_law_pool_here", "_law_words_here", "_law_deep"] (spFormL 3)
  wi : ∃ g fd gg, Meth K CE "within" g ∧ FnOk P w K mg base CX0 4 g fd ["self", "other"] (spWithin CE D) ∧ KBn K fd ["self", "other"] 1 ["other"] gg fun vs zs => vs ++ zs
theorem node_lv {F : List Str} {s : Str} {t u : Fm} (h1 : ∀ z ∈ t.lvs, z ∈ F) (h2 : ∀ z ∈ u.lvs, z ∈ F) : ∀ z ∈ (Fm.node s t u).lvs, z ∈ F := fun z hz => (List.mem_append.mp hz).elim (h1 z) (h2 z)
section
variable {w : World} {P : Program} {base : Heap} {mg : Str → Option Value} {K : PySem.W.Frag} {CE C CN CM CS CU D S1 S2 S3 : Addr} {mc : Value}
variable {f c Pt : Addr} {A : Around} {outer : List Env} {s : Shared} {H0 : Hp} {p : Addr}
/-- two joined pairs are asked -/
theorem bd4 (R : Rk P w K mg base CE C D Pt) (hgd : A.guards = some []) (hr : Room 25 (A.deeper (envOfC "_law_right" (defScope sRight) s.heap.objs.size f (.ref c)))) :
    PSs (cxR P w K mg base f (.ref c) A outer s H0) (tuB.drop 4) (fun En σ H => AtTw p Pt σ H En) := by
  obtain ⟨f1, mg1, kp1, G1⟩ := R.one
  refine pss_of fun En σ H hyp => ?_
  obtain ⟨fs, pe, kn, sm, wd, F, N, G, rs, v1, v2, t, u, x6, x9, x10, x11, eσ, k, m1, m2, ok1, ok2, d1, d2, lv1, lv2, nx⟩ := hyp.ex
  refine ⟨_, pss_cons (ps_if (pt_not (pt_val (pe_callG (x := "_law_one_right") G1 (by exact hgd) hr (by rfl) mg1 kp1 (pa_cons (pe_tup (pa_cons pe_str (pa_cons (pv 7) (pa_cons (pv 8) pa_nil)))) (pa_cons (pe_tup (pa_cons pe_str (pa_cons (pv 8) (pa_cons (pv 7) pa_nil)))) (pa_cons (pv 3) (pa_cons (pv 2) (pa_cons (pv 4) pa_nil)))))))) (pss_one (ps_ret pe_bl)) pss_nil)
    (pss_one (ps_if (pt_not (pt_val (pe_callG (x := "_law_one_right") G1 (by exact hgd) hr (by rfl) mg1 kp1 (pa_cons (pe_tup (pa_cons pe_str (pa_cons (pv 7) (pa_cons (pv 8) pa_nil)))) (pa_cons (pe_tup (pa_cons pe_str (pa_cons (pv 7) (pa_cons (pv 8) pa_nil)))) (pa_cons (pv 3) (pa_cons (pv 2) (pa_cons (pv 4) pa_nil)))))))) (pss_one (ps_ret pe_bl)) pss_nil)), ?_⟩
  subst eσ
  have dd : ∀ (s : Str), (Fm.node s t u).dep ≤ 6 ∧ (Fm.node s u t).dep ≤ 6 := fun s => by
    rw [Fm.dep_node, Fm.dep_node]
    omega
  have sg : ∀ s ∈ signs, (Fm.node s t u).Ok ∧ (Fm.node s u t).Ok := fun s hs => ⟨⟨hs, ok1, ok2⟩, ⟨hs, ok2, ok1⟩⟩
  refine ⟨_, rfl, _, rfl, (by show 3 ≤ sizeLine; decide), fun q1 n1 => ⟨_, rfl, _, rfl, (by show 3 ≤ sizeLine; decide), fun q2 n2 => ?_⟩⟩
  have s1 := same_upd (o := .tup [.str "&", v1, v2]) n1
  have h1 : (upd H q1 (.tup [.str "&", v1, v2])) q1 = some (.tup [.str "&", v1, v2]) := upd_same
  generalize upd H q1 (.tup [.str "&", v1, v2]) = H1 at s1 h1 n2 ⊢
  have s2 := same_upd (o := .tup [.str "|", v2, v1]) n2
  have h2 : (upd H1 q2 (.tup [.str "|", v2, v1])) q2 = some (.tup [.str "|", v2, v1]) := upd_same
  generalize upd H1 q2 (.tup [.str "|", v2, v1]) = H2 at s2 h2 ⊢
  have s12 := s1.trans s2
  have mm2 : Mv p (TbO Pt) H H2 := .same s12 k.hp k.T
  have k2 := k.mv mm2
  refine ⟨_, rfl, _, rfl, _, rfl, kn, pe, sm, p, _, _, .node "&" t u, .node "|" u t, rs, N, G, rfl, k2.one (.node (s2 _ _ h1) (m1.same s12) (m2.same s12)) (.node h2 (m2.same s12) (m1.same s12)) (sg _ (by decide)).1 (sg _ (by decide)).2 (dd _).1 (dd _).2 (node_lv lv1 lv2) (node_lv lv2 lv1), fun H3 s3 => ?_⟩
  have s13 := s12.trans s3
  refine ⟨_, rfl, iteF ?_⟩
  refine ⟨_, rfl, _, rfl, (by show 3 ≤ sizeLine; decide), fun q3 n3 => ⟨_, rfl, _, rfl, (by show 3 ≤ sizeLine; decide), fun q4 n4 => ?_⟩⟩
  have s4 := same_upd (o := .tup [.str "-", v1, v2]) n3
  have h4 : (upd H3 q3 (.tup [.str "-", v1, v2])) q3 = some (.tup [.str "-", v1, v2]) := upd_same
  generalize upd H3 q3 (.tup [.str "-", v1, v2]) = H4 at s4 h4 n4 ⊢
  have s5 := same_upd (o := .tup [.str "^", v1, v2]) n4
  have h5 : (upd H4 q4 (.tup [.str "^", v1, v2])) q4 = some (.tup [.str "^", v1, v2]) := upd_same
  generalize upd H4 q4 (.tup [.str "^", v1, v2]) = H5 at s5 h5 ⊢
  have s15 := s13.trans (s4.trans s5)
  have mm5 : Mv p (TbO Pt) H H5 := .same s15 k.hp k.T
  have k5 := k.mv mm5
  refine ⟨_, rfl, _, rfl, _, rfl, kn, pe, sm, p, _, _, .node "-" t u, .node "^" t u, rs, N, G, rfl, k5.one (.node (s5 _ _ h4) (m1.same s15) (m2.same s15)) (.node h5 (m1.same s15) (m2.same s15)) (sg _ (by decide)).1 (sg _ (by decide)).1 (dd _).1 (dd _).1 (node_lv lv1 lv2) (node_lv lv1 lv2), fun H6 s6 => ?_⟩
  exact ⟨_, rfl, iteF (nx _ H6 ⟨_, _, _, _, _, _, rfl⟩ (.same (s15.trans s6) k.hp k.T))⟩
end
end K1

namespace K1
open PySem PySem.Spec
open PyProof.Rows L2 L2H EnT StX SmX TxS DuX XdI Tr3 CnB ClX
section
variable {w : World} {P : Program} {base : Heap} {mg : Str → Option Value} {K : PySem.W.Frag} {CE C CN CM CS CU D S1 S2 S3 : Addr} {mc : Value}
variable {f c Pt : Addr} {A : Around} {outer : List Env} {s : Shared} {H0 : Hp} {p : Addr}
/-- the errors of one fact -/
theorem bd2 (W : Fk P w K mg base CE C CN CM CS CU D mc) (R : Rk P w K mg base CE C D Pt) (hgd : A.guards = some []) (hr : Room 25 (A.deeper (envOfC "_law_right" (defScope sRight) s.heap.objs.size f (.ref c)))) :
    PSs (cxR P w K mg base f (.ref c) A outer s H0) (tuB.drop 2) (fun En σ H => AtTw p Pt σ H En) := by
  obtain ⟨f2, mg2, kp2, G2⟩ := R.err
  have T := W.T
  have B := W.B
  obtain ⟨pF, gF, mF', FF⟩ := B.fromT
  obtain ⟨fI, MK, FI⟩ := W.mkE
  obtain ⟨fF, MKF, FFa⟩ := W.mkF
  refine pss_of fun En σ H hyp => ?_
  obtain ⟨fs, pe, kn, sm, wd, F, N, G, rs, v1, v2, t, u, x6, x9, x10, x11, eσ, k, m1, m2, ok1, ok2, d1, d2, lv1, lv2, nx⟩ := hyp.ex
  refine ⟨_, pss_cons (ps_set (i := 9) scRt.nd rfl (.inl rfl) (pe_callTy call_tupK (by rfl) T.tuple (by decide +kernel) (pa_cons (pe_lc (own := [("_law_field", 11)]) (g := gName 11) (tt := tYes)
      (te := tTup (tCons (tVar 11) (tCons (tSMeth C (spFromT C CN) E0 (tC (.ref C)) (tCons (tCB (rTupOf K) (tCons (tDGet (tVar 3) (tVar 11)) tNil)) tNil)) tNil))) rfl scRt.nd (pi_list (pv 1))
      (blkOk_by (own := [("_law_field", 11)]) (N := nmRt) (sc := defScope sRight) (by decide +kernel)) (fun _ _ _ _ _ => pg_name (i := 11) scRt.nd rfl (Or.inl rfl)) (fun _ _ _ _ _ => pts_nil)
      (fun _ _ _ _ _ => pe_tup (pa_cons (pv 11) (pa_cons (pe_smeth (pe_glob (v := .ref C) (by rfl) B.M.g rfl) B.cr mF' FF (hr.mono (by decide)) passL (pa_cons (pe_callTy call_tupK (by rfl) T.tuple (by decide +kernel) (pa_cons (pe_dget (hu_of hr) (pv 3) (pv 11) (fun _ _ => rfl)) pa_nil)) pa_nil)) pa_nil)))) pa_nil)))
    (pss_cons (ps_if (pt_not (pt_val (pe_callG (x := "_law_errors_right") G2 (by exact hgd) hr (by rfl) mg2 kp2 (pa_cons (pv 0) (pa_cons (pe_makeR MKF FFa (hr.mono (by decide)) (by rfl) W.F.g pass0 (pa_cons (pe_makeR MK FI (hr.mono (by decide)) (by rfl) W.M.g pass0 (pa_cons (pv 7) pa_nil)) (pa_cons (pe_makeR MK FI (hr.mono (by decide)) (by rfl) W.M.g pass0 (pa_cons (pv 8) pa_nil)) pa_nil)))
        (pa_cons (pv 9) pa_nil)))))) (pss_one (ps_ret pe_bl)) pss_nil)
    (bd4 (p := p) (Pt := Pt) R hgd hr)), ?_⟩
  subst eσ
  refine tup_prs (N := N) k.kn (by have := k.lr; omega) (by have := k.l7; omega) k.tN k.rf k.ndr (fun _ => rfl) (fun _ => rfl) (fun _ => rfl) (fun R' h => ⟨_, rfl, h fs H (Same.refl H) ?_⟩) fun pr xs es H2 npr s2 hpr pa el pR => ?_
  · have e : F.map V.str = rs.map fun r => V.str r.1 := by
      rw [← k.kF, List.map_map]
      rfl
    rw [← e]
    exact k.hfs
  have s12 := s2
  have n1 : t.nl ≤ 100 := by have := nl_six (t := t) (by omega); omega
  have n2 : u.nl ≤ 100 := by have := nl_six (t := u) (by omega); omega
  refine ⟨_, rfl, _, rfl, fun a xa na nxa nea => makeE_at (m1.same s12) ok1 (by omega) n1 na nxa nea fun H3 s3 e1 => ⟨rfl, ?_⟩⟩
  refine ⟨_, rfl, fun b xb nb nxb neb => makeE_at ((m2.same s12).same s3) ok2 (by omega) n2 nb nxb neb fun H4 s4 e2 => ⟨rfl, ?_⟩⟩
  refine fun fa xf nf nxf nef => makeF_at (e1.same s4) e2 nf nxf nef fun H5 s5 mF => ⟨rfl, ?_⟩
  have s25 := (s3.trans s4).trans s5
  have mm5 : Mv p (TbO Pt) H H5 := .same (s12.trans s25) k.hp k.T
  have k5 := k.mv mm5
  have ek := pR.keys
  have le : es.length = 4 := by
    have z := congrArg List.length ek
    rw [List.length_map, List.length_map, k.lr] at z
    exact z
  refine ⟨_, rfl, p, fa, a, b, pr, t, u, xs, es, rfl, ⟨k5.hp, k5.T, mF, s25 _ _ hpr, pa.same s25, el, by omega, by omega, by rw [ek]; exact k.ndr, .int, (fun e => by cases e), fun z h fz => ?_⟩, fun H6 m6 => ⟨_, rfl, iteF ?_⟩⟩
  · rw [ek]
    exact h.elim (fun h => k.cov lv1 z h fz) fun h => k.cov lv2 z h fz
  have mm6 := mm5.trans m6
  exact ⟨fs, pe, kn, sm, wd, F, N, G, rs, v1, v2, t, u, _, _, _, _, rfl, k.mv mm6, mm6.fm k.hp m1, mm6.fm k.hp m2, ok1, ok2, d1, d2, lv1, lv2, fun σ' H' h m => nx σ' H' h (mm6.trans m)⟩
/-- one fact, and its errors -/
theorem bd1 (W : Fk P w K mg base CE C CN CM CS CU D mc) (R : Rk P w K mg base CE C D Pt) (hgd : A.guards = some []) (hr : Room 25 (A.deeper (envOfC "_law_right" (defScope sRight) s.heap.objs.size f (.ref c)))) :
    PSs (cxR P w K mg base f (.ref c) A outer s H0) (tuB.drop 1) (fun En σ H => AtTw p Pt σ H En) := by
  obtain ⟨f1, mg1, kp1, G1⟩ := R.one
  refine pss_of fun En σ H hyp => ?_
  obtain ⟨fs, pe, kn, sm, wd, F, N, G, rs, v1, v2, t, u, x6, x9, x10, x11, eσ, k, m1, m2, ok1, ok2, d1, d2, lv1, lv2, nx⟩ := hyp.ex
  refine ⟨_, pss_cons (ps_if (pt_not (pt_val (pe_callG (x := "_law_one_right") G1 (by exact hgd) hr (by rfl) mg1 kp1 (pa_cons (pv 7) (pa_cons (pv 8) (pa_cons (pv 3) (pa_cons (pv 2) (pa_cons (pv 4) pa_nil)))))))) (pss_one (ps_ret pe_bl)) pss_nil)
    (bd2 (p := p) (Pt := Pt) W R hgd hr), ?_⟩
  subst eσ
  refine ⟨_, rfl, _, rfl, _, rfl, _, rfl, _, rfl, kn, pe, sm, p, v1, v2, t, u, rs, N, G, rfl, k.one m1 m2 ok1 ok2 (by omega) (by omega) lv1 lv2, fun H1 s1 => ⟨_, rfl, iteF ?_⟩⟩
  have mm1 : Mv p (TbO Pt) H H1 := .same s1 k.hp k.T
  exact ⟨fs, pe, kn, sm, wd, F, N, G, rs, v1, v2, t, u, _, _, _, _, rfl, k.mv mm1, m1.same s1, m2.same s1, ok1, ok2, d1, d2, lv1, lv2, fun σ' H' h m => nx σ' H' h (mm1.trans m)⟩
/-- before the turns -/
structure AtR3 (p Pt : Addr) (σ : L2.St) (H : Hp) (En : Ends) : Prop where
  ex : ∃ (fs pe kn sm wd : Addr) (F N G : List Str) (rs : List Rw3) (x6 x7 x8 x9 x10 x11 : Option V), σ = [some (.ref p), some (.ref fs), some (.ref pe), some (.ref kn), some (.ref sm), some (.ref wd), x6, x7, x8, x9, x10, x11] ∧ RtK p Pt fs pe kn sm wd F N G rs H ∧ Fin p (TbO Pt) H En
abbrev tbA : Str := "b"
theorem leaf_ok {z : Str} (h : nameB z = true) : (Fm.leaf z).Ok := h
theorem rt4 (W : Fk P w K mg base CE C CN CM CS CU D mc) (R : Rk P w K mg base CE C D Pt) (hr : Room 25 (A.deeper (envOfC "_law_right" (defScope sRight) s.heap.objs.size f (.ref c)))) :
    PSs (cxR P w K mg base f (.ref c) A outer s H0) (rtRest 4) (fun En σ H => AtR3 p Pt σ H En) := by
  have M := W.M
  obtain ⟨fI, MK, FI⟩ := W.mkE
  obtain ⟨gQ, mQ, FQ⟩ := W.eqF
  obtain ⟨pR, gR, fdR, ggR, sm', FR, bR, kR⟩ := W.read
  obtain ⟨gW, fdW, ggW, mW, FW, kW⟩ := R.wi
  refine pss_of fun En σ H hyp => ?_
  obtain ⟨fs, pe, kn, sm, wd, F, N, G, rs, x6, x7, x8, x9, x10, x11, eσ, k, fin⟩ := hyp.ex
  refine ⟨_, pss_one (ps_ret (pe_cmpR (op_eqX mQ FQ (hr.mono (by decide))) (TkX.pe_smT (pe_glob (v := .ref D) (by rfl) W.F.g rfl) W.crD sm' FR bR (hr.mono (by decide)) (pa_cons pe_str pa_nil))
    (pe_methK0 (ks := ["other"]) (pe_makeR MK FI (hr.mono (by decide)) (by rfl) M.g pass0 (pa_cons pe_str pa_nil)) M.cl mW FW (hr.mono (by decide)) kW pass0 (pk_cons (pe_makeR MK FI (hr.mono (by decide)) (by rfl) M.g pass0 (pa_cons pe_str pa_nil)) pk_nil)) (nomark _))), ?_⟩
  subst eσ
  have oa : (Fm.leaf sa).Ok := leaf_ok (by decide +kernel)
  have ob : (Fm.leaf tbA).Ok := leaf_ok (by decide +kernel)
  have el : ("a <= b" : Str) = facText (.leaf sa) (.leaf tbA) := by decide +kernel
  refine ⟨rfl, .leaf sa, .leaf tbA, by rw [← el], oa, ob, by decide, by decide, by decide, by decide, fun r a1 b1 H1 s1 mF => ?_⟩
  refine fun a xa na nxa nea => makeE_at (.leaf sa) oa (by decide) (by decide) na nxa nea fun H2 s2 e1 => ⟨rfl, ?_⟩
  obtain ⟨dx, v, fl, ys, h1, _⟩ := e1.at_
  refine ⟨a, dx, _, rfl, h1, ?_, fun b xb nb nxb neb => makeE_at (.leaf tbA) ob (by decide) (by decide) nb nxb neb fun H3 s3 e2 => ⟨rfl, rfl, rfl, a, b, .leaf sa, .leaf tbA, rfl, e1.same s3, e2, fun q H4 nq s4 mG => ?_⟩⟩
  · exact ef_within v _ fl
  have s14 := (s2.trans s3).trans s4
  have mF4 := mF.same s14
  obtain ⟨dr, hr4⟩ := mF4.at_
  refine ⟨r, dr, _, _, rfl, hr4, fac_ty W.F W.J mG, W.nfF, r, q, a1, b1, a, b, _, _, _, _, rfl, mF4, mG, _, rfl, ?_⟩
  rw [Fm.eqv_self oa, Fm.eqv_self ob]
  exact fin H4 (.same (s1.trans s14) k.hp k.T)
end
end K1

namespace K1
open PySem PySem.Spec
open PyProof.Rows L2 L2H EnT StX SmX TxS DuX XdI Tr3 CnB ClX
/-! ### right, whole -/
theorem nm_given : nameB tGiven = true := by decide +kernel
theorem nm_none : nameB tNone = true := by decide +kernel
structure AtR0 (p Pt : Addr) (σ : L2.St) (H : Hp) (En : Ends) : Prop where
  e : σ = [some (.ref p), none, none, none, none, none, none, none, none, none, none, none]
  hp : PoolAt H p
  T : LamX.Tabs (TbO Pt) H
  fin : Fin p (TbO Pt) H En
section
variable {w : World} {P : Program} {base : Heap} {mg : Str → Option Value} {K : PySem.W.Frag} {CE C CN CM CS CU D S1 S2 S3 : Addr} {mc : Value}
variable {f c Pt : Addr} {A : Around} {outer : List Env} {s : Shared} {H0 : Hp} {p : Addr}
theorem rt3 (W : Fk P w K mg base CE C CN CM CS CU D mc) (R : Rk P w K mg base CE C D Pt) (hgd : A.guards = some []) (hr : Room 25 (A.deeper (envOfC "_law_right" (defScope sRight) s.heap.objs.size f (.ref c)))) :
    PSs (cxR P w K mg base f (.ref c) A outer s H0) (rtRest 3) (fun En σ H => AtR3 p Pt σ H En) := by
  obtain ⟨fF, hF⟩ := R.hf
  have T := W.T
  refine pss_of fun En σ H hyp => ?_
  obtain ⟨fs, pe, kn, sm, wd, F, N, G, rs, x6, x7, x8, x9, x10, x11, eσ, k, fin⟩ := hyp.ex
  refine ⟨_, pss_cons (ps_for PassesOwn.never rfl (pi_range1 rfl T.range (pa_cons pe_int pa_nil)) (pg_name (i := 6) scRt.nd rfl (.inl rfl))
      (pss_cons (ps_par (i := 7) (j := 8) rfl scRt.nd rfl rfl (by decide) rfl rfl (pa_cons (pe_has hF (hr.mono (by decide)) (by rfl) pass0 (pa_cons (pv 0) (pa_cons (pv 5) (pa_cons pe_int pa_nil)))) (pa_cons (pe_has hF (hr.mono (by decide)) (by rfl) pass0 (pa_cons (pv 0) (pa_cons (pv 5) (pa_cons pe_int pa_nil)))) pa_nil)) (by rfl))
        (bd1 (p := p) (Pt := Pt) W R hgd hr)))
    (rt4 (p := p) (Pt := Pt) W R hr), ?_⟩
  subst eσ
  have nmW : ∀ z ∈ F ++ [tGiven, tNone], nameB z = true := fun z hz => by
    rcases List.mem_append.mp hz with h | h
    · exact (k.tF z h).1
    · rcases List.mem_cons.mp h with h | h
      · rw [h]; exact nm_given
      · rw [List.mem_singleton.mp h]; exact nm_none
  have lW : (F ++ [tGiven, tNone]).length = 6 := by rw [List.length_append, k.l4]; rfl
  refine ⟨_, rfl, by decide, by decide, for_range (n := 4) (fun i σ H' => (∃ y6 y7 y8 y9 y10 y11, σ = [some (.ref p), some (.ref fs), some (.ref pe), some (.ref kn), some (.ref sm), some (.ref wd), y6, y7, y8, y9, y10, y11]) ∧ Mv p (TbO Pt) H H') ⟨⟨_, _, _, _, _, _, rfl⟩, .refl k.hp k.T⟩ ?_ ?_⟩
  · rintro i σ H1 hi ⟨⟨y6, y7, y8, y9, y10, y11, rfl⟩, m1⟩
    have k1 := k.mv m1
    refine ⟨_, rfl, _, rfl, p, wd, F ++ [tGiven, tNone], 3, rfl, k1.hp, k1.wdp, k1.hwd, by rw [lW]; decide, by rw [lW]; decide, nmW, by decide, fun v1 t H2 x2 fm1 ok1 d1 lv1 => ?_⟩
    have m2 : Mv p (TbO Pt) H1 H2 := .ext x2 k1.hp k1.T
    have k2 := k1.mv m2
    refine ⟨_, rfl, _, rfl, p, wd, F ++ [tGiven, tNone], 2, rfl, k2.hp, k2.wdp, k2.hwd, by rw [lW]; decide, by rw [lW]; decide, nmW, by decide, fun v2 u H3 x3 fm2 ok2 d2 lv2 => ?_⟩
    have m3 : Mv p (TbO Pt) H2 H3 := .ext x3 k2.hp k2.T
    have k3 := k2.mv m3
    refine ⟨_, _, rfl, ?_⟩
    exact ⟨fs, pe, kn, sm, wd, F, N, G, rs, v1, v2, t, u, _, _, _, _, rfl, k3, m3.fm k2.hp fm1, fm2, ok1, ok2, d1, by omega, lv1, lv2, fun σ' H' h m => ⟨h, ((m1.trans m2).trans m3).trans m⟩⟩
  · rintro σ H1 ⟨⟨y6, y7, y8, y9, y10, y11, rfl⟩, m1⟩
    exact ⟨fs, pe, kn, sm, wd, F, N, G, rs, _, _, _, _, _, _, rfl, k.mv m1, fin.mv m1⟩
theorem rt0 (W : Fk P w K mg base CE C CN CM CS CU D mc) (R : Rk P w K mg base CE C D Pt) (hgd : A.guards = some []) (hr : Room 25 (A.deeper (envOfC "_law_right" (defScope sRight) s.heap.objs.size f (.ref c)))) :
    PSs (cxR P w K mg base f (.ref c) A outer s H0) (defBody sRight) (fun En σ H => AtR0 p Pt σ H En) := by
  obtain ⟨fN, hN⟩ := R.hn
  obtain ⟨fD, hD⟩ := R.hd
  obtain ⟨fS, hS⟩ := R.hs
  have T := W.T
  refine pss_of fun En σ H hyp => ?_
  obtain ⟨eσ, hp, hT, fin⟩ := hyp
  refine ⟨_, pss_cons (ps_par (i := 1) (j := 2) rfl scRt.nd rfl rfl (by decide) rfl rfl (pa_cons (pe_has hN (hr.mono (by decide)) (by rfl) pass0 (pa_cons (pv 0) (pa_cons pe_int pa_nil))) (pa_cons (pe_has hN (hr.mono (by decide)) (by rfl) pass0 (pa_cons (pv 0) (pa_cons pe_int pa_nil))) pa_nil)) (by rfl))
    (pss_cons (ps_asg (pe_tup (pa_cons (pe_has hS (hr.mono (by decide)) (by rfl) pass0 (pa_cons (pv 0) (pa_cons (pv 1) (pa_cons (pv 2) pa_nil))))
        (pa_cons (pe_lc (own := [("_law_name", 10)]) (g := gName 10) (tt := tTest (tOp rEq (tCall spDraw [] E0 (tCons (tVar 0) (tCons (tC (.int 3)) tNil))) (tC (.int 0)))) (te := tVar 10) rfl scRt.nd (pi_list (pv 2))
          (blkOk_by (own := [("_law_name", 10)]) (N := nmRt) (sc := defScope sRight) (by decide +kernel)) (fun _ _ _ _ _ => pg_name (i := 10) scRt.nd rfl (Or.inl rfl))
          (fun _ _ _ _ _ => pts_one (pt_cmpR op_eq (pe_has hD (hr.mono (by decide)) (by rfl) pass0 (pa_cons (pv 0) (pa_cons pe_int pa_nil))) pe_int (nomark _))) (fun _ _ _ _ _ => pv 10)) pa_nil)))
      (pg_tup rfl (pgs_cons (pg_name (i := 3) scRt.nd rfl (.inr rfl)) (pgs_cons (pg_name (i := 4) scRt.nd rfl (.inl rfl)) pgs_nil))))
    (pss_cons (ps_set (i := 5) scRt.nd rfl (.inl rfl) (pe_op op_cat (pv 1) (pe_lst (pa_cons pe_str (pa_cons pe_str pa_nil)))))
    (rt3 (p := p) (Pt := Pt) W R hgd hr))), ?_⟩
  subst eσ
  refine ⟨_, rfl, p, 4, rfl, hp, by decide, fun fs F H1 x1 n1 h1 l1 tg1 nd1 => ?_⟩
  refine ⟨_, rfl, p, 7, rfl, x1.pool, by decide, fun pe N H2 x2 n2 h2 l2 tg2 nd2 => ?_⟩
  have fp : fs ≠ p := hp.ne n1
  have pep : pe ≠ p := x1.pool.ne n2
  have x12 := x1.trans x2
  refine ⟨_, _, rfl, ?_⟩
  refine ⟨_, rfl, _, rfl, _, rfl, p, fs, pe, F, N, rfl, x12.pool, fp, pep, x2.at fp h1, h2, by omega, by omega, nd1, fun kn H6 rs nkn x6 KN kF => ?_⟩
  have y6 := x12.trans x6
  have h6a := x6.at fp (x2.at fp h1)
  have h6b := x6.at pep h2
  refine ⟨_, rfl, pe, rfl, ⟨_, SqL.of h6b⟩, fun sm nsm => ?_⟩
  have smp : sm ≠ p := y6.pool.ne nsm
  refine lc_it (walk_list (xs := N.map V.str)) (fun i H' => K1.Ext p H6 H' ∧ ∃ ns : List Str, H' sm = some (.lst (ns.map V.str)) ∧ ns.Sublist (N.take i)) ?_ ?_ ?_ ?_
  · exact ⟨(K1.Ext.refl y6.pool).same (same_upd nsm), [], upd_same, List.Sublist.refl _⟩
  · rintro i H' _ ⟨x, _⟩
    exact SqL.of (x.at pep h6b)
  · rintro i x H1 H2 hi ⟨xx, ns, hD, sb⟩ ⟨rfl, ey⟩
    obtain ⟨z, ez, rfl⟩ : ∃ z, N[i]? = some z ∧ x = V.str z := by
      rw [List.getElem?_map] at ey
      cases e : N[i]? with
      | none => rw [e] at ey; cases ey
      | some z => rw [e] at ey; exact ⟨z, rfl, (Option.some.inj ey).symm⟩
    refine ⟨rfl, _, rfl, p, 3, rfl, xx.pool, by decide, by decide, fun d H3 x3' d0 d1 => ⟨rfl, _, rfl, ?_⟩⟩
    have x13 := xx.trans x3'
    have hD3 := x3'.at smp hD
    have et : N.take (i + 1) = N.take i ++ [z] := by rw [List.take_add_one, ez]; rfl
    refine ite2 (fun _ => ?_) (fun _ => ?_)
    · refine ⟨_, rfl, ns.map V.str, hD3, ?_, ext_set x13 nsm smp, ns ++ [z], ?_, ?_⟩
      · have := sb.length_le
        rw [List.length_map, sizeLine_eq]
        rw [List.length_take] at this
        omega
      · rw [upd_same, List.map_append]
        rfl
      · rw [et]
        exact sb.append (List.Sublist.refl _)
    · refine ⟨x13, ns, hD3, ?_⟩
      rw [et]
      exact sb.trans (List.sublist_append_left _ _)
  rintro H8 ⟨x8', G, h8, sG⟩
  rw [List.length_map, List.take_length] at sG
  have x8 := y6.trans x8'
  refine ⟨(by show 2 ≤ sizeLine; decide), fun tp2 ntp2 => ?_⟩
  have s9 : Same H8 (upd H8 tp2 (.tup [.ref kn, .ref sm])) := same_upd ntp2
  refine ⟨tp2, _, rfl, SqT.of upd_same, rfl, _, _, rfl, _, _, rfl, rfl, ?_⟩
  generalize upd H8 tp2 (.tup [.ref kn, .ref sm]) = H9 at s9 ⊢
  have x9 := x8.same s9
  have h9a := s9 _ _ (x8'.at fp h6a)
  have h9b := s9 _ _ (x8'.at pep h6b)
  have knp : kn ≠ p := x12.pool.ne nkn
  refine ⟨_, rfl, (by show 2 ≤ sizeLine; decide), fun a na => ?_⟩
  have s1 : Same H9 (upd H9 a (.lst [.str tGiven, .str tNone])) := same_upd na
  have ga : (upd H9 a (.lst [V.str tGiven, .str tNone])) a = some (.lst [.str tGiven, .str tNone]) := upd_same
  have x10 := x9.same s1
  generalize upd H9 a (.lst [V.str tGiven, .str tNone]) = H10 at s1 ga x10 ⊢
  refine ⟨fs, a, _, _, rfl, rfl, s1 _ _ h9a, ga, (by rw [List.length_map, l1]; decide), fun wd nwd => ?_⟩
  have s2 : Same H10 (upd H10 wd (.lst (F.map V.str ++ [.str tGiven, .str tNone]))) := same_upd nwd
  have gb : (upd H10 wd (.lst (F.map V.str ++ [V.str tGiven, .str tNone]))) wd = some (.lst ((F ++ [tGiven, tNone]).map V.str)) := by rw [upd_same, List.map_append]; rfl
  have x11 := x10.same s2
  have wdp : wd ≠ p := x10.pool.ne nwd
  generalize upd H10 wd (.lst (F.map V.str ++ [V.str tGiven, .str tNone])) = H11 at s2 gb x11 ⊢
  have mm : Mv p (TbO Pt) H H11 := .ext x11 hp hT
  have s911 := s9.trans (s1.trans s2)
  have KN8 : KnownAt H11 kn p rs N := ⟨s911 _ _ (x8'.at knp KN.d), fun r hr => ⟨s911 _ _ (x8'.at (KN.l r hr).2.2 (KN.l r hr).1), (KN.l r hr).2⟩⟩
  exact ⟨fs, pe, kn, sm, wd, F, N, G, rs, _, _, _, _, _, _, rfl, ⟨mm.rx.pool, mm.tabs, s2 _ _ (s1 _ _ h9a), fp, s2 _ _ (s1 _ _ h9b), pep, KN8, kF, l1, l2, nd1, fun z hz => ⟨tag_name (tg1 z hz), tag_fld (tg1 z hz)⟩, fun z hz => tag_name (tg2 z hz), s911 _ _ h8, smp, fun z hz => sG.subset hz, by have := sG.length_le; omega, gb, wdp⟩, fin.mv mm⟩
def spRight (Pt : Addr) : Sp := fun vs H Q _ => ∃ p : Addr, vs = [.ref p] ∧ PoolAt H p ∧ LamX.Tabs (TbO Pt) H ∧ ∀ H', Mv p (TbO Pt) H H' → Q (.bl true) H'
theorem ok_right (W : Fk P w K mg base CE C CN CM CS CU D mc) (R : Rk P w K mg base CE C D Pt) (FR : FunC K "_law_right" "_law_right" sRight f c) : FnG P w K mg base CX0 26 f (spRight Pt) := by
  intro A outer st H us vs Q E hgd hr e0 r hyp
  obtain ⟨p, rfl, hp, hT, q⟩ := hyp
  obtain ⟨oc, od, kV, doc, pm, an, ct, osl, lk, hcd⟩ := FR.ex
  refine LamX.run_ofS (N := nmRt) (ps := ["_law_pool_here"]) (us := us) (vs := [.ref p]) lk hcd scRt hr e0 ?_ r rfl fun hr' => ⟨_, (rt0 (p := p) (Pt := Pt) W R hgd hr').nox, ?_⟩
  · have b : L2.Binds K (PySem.W.fnOf "_law_right" "_law_right" (defArgs sRight) (defBody sRight) (defScope sRight) .none kV doc pm an (.ref c) ct) ["_law_pool_here"] [] := .all fun us hl => match us, hl with | [_], _ => rfl
    have hl : us.length = 1 := by rw [← r.length]; rfl
    have z := b st us (e0.mod.kin.keeps fun b o e => (e0.bs b o e).1) (by rw [List.append_nil]; exact hl)
    rw [List.append_nil] at z
    exact z
  · exact ⟨rfl, hp, hT, fun H' m' => q H' m'⟩
end
end K1

namespace K1
open PySem PySem.Spec
open PyProof.Rows L2 L2H EnT StX SmX TxS DuX XdI Tr3 CnB ClX
abbrev nmLaw : List Str := ["_law_cells", "_law_k"]
theorem scLaw : FnScope nmLaw ["_law_cells"] (defScope sLaw) := ⟨rfl, rfl, rfl, by decide +kernel, rfl, by decide +kernel, by decide +kernel⟩
/-- the law's promise: it tells True -/
def spLaw (K : PySem.W.Frag) (Pt : Addr) : Sp := fun vs H Q _ => ∃ (a : Addr) (ns : List Int), vs = [.ref a] ∧ SqL K H a (ns.map V.int) ∧ ns.length < 2 ^ 60 ∧ LamX.Tabs (TbO Pt) H ∧ ∀ H', Q (.bl true) H'
/-- all but the tables stays -/
structure LX (Pt : Addr) (H H' : Hp) : Prop where
  keep : ∀ b o, H b = some o → (∀ ps, o ≠ .tbl ps) → H' b = some o
  tabs : LamX.Tabs (TbO Pt) H'
theorem LX.seq {K : PySem.W.Frag} {Pt a : Addr} {H H' : Hp} {xs : List V} (x : LX Pt H H') (h : SqL K H a xs) : SqL K H' a xs := by
  rcases h with h | h
  · rcases h with h | ⟨o, h⟩
    · exact .inl (.inl (x.keep _ _ h (fun _ e => by cases e)))
    · exact .inl (.inr ⟨o, x.keep _ _ h (fun _ e => by cases e)⟩)
  · exact .inr h
section
variable {w : World} {P : Program} {base : Heap} {mg : Str → Option Value} {K : PySem.W.Frag} {fL Pt : Addr}
/-- what the law itself calls -/
structure Top (P : Program) (w : World) (K : PySem.W.Frag) (mg : Str → Option Value) (base : Heap) (Pt : Addr) : Prop where
  cell : ∃ f, Has P w K mg base CX0 1 "_law_cell" f ["_law_cells", "_law_k"] (spCell K)
  pool : ∃ f, Has P w K mg base CX0 1 "_law_pool" f ["_law_cell_here"] spPool
  right : ∃ f, mg "_law_right" = some (.ref f) ∧ PySem.W.keepIn K (.ref f) = true ∧ FnG P w K mg base CX0 26 f (spRight Pt)
theorem ok_law (T : Free mg) (TP : Top P w K mg base Pt) {cL : Addr} (FL : FunC K "law" "law" sLaw fL cL) : FnG P w K mg base CX0 27 fL (spLaw K Pt) := by
  intro A outer s H us vs Q E hgd hr e0 r h
  obtain ⟨a, ns, rfl, hS, hlen, hT, q⟩ := h
  obtain ⟨oc, od, kV, doc, pm, an, ct, osl, lk, hcd⟩ := FL.ex
  obtain ⟨fC, hC⟩ := TP.cell
  obtain ⟨fP, hP⟩ := TP.pool
  obtain ⟨fR, mgR, kpR, GR⟩ := TP.right
  have body : ∀ hr' : Room 26 (A.deeper (envOfC "law" (defScope sLaw) s.heap.objs.size fL (.ref cL))), ∃ t, PSs (cxOf CX0 P w K mg base nmLaw "law" (defScope sLaw) fL (.ref cL) A outer s H E).nox (defBody sLaw) t ∧ t { nx := fun _ H' => Q .non H', rt := Q } (L2.start nmLaw [.ref a]) H := fun hr' => by
    refine ⟨_, pss_one (ps_ret (pe_callB (cr_all rfl) (by rfl) T.all (by decide +kernel) (pa_cons (pe_lc (own := [("_law_k", 1)]) (g := gName 1) (tt := tYes) (te := tCall (spRight Pt) [] E0 (tCons (tCall spPool [] E0 (tCons (tCall (spCell K) [] E0 (tCons (tVar 0) (tCons (tVar 1) tNil))) tNil)) tNil)) rfl scLaw.nd
        (pi_range1 rfl T.range (pa_cons (pe_callB (call_max2 rfl) (by rfl) T.max (by decide +kernel) (pa_cons pe_int (pa_cons (pe_callB (call_min2 rfl) (by rfl) T.min (by decide +kernel) (pa_cons (pe_callB call_len_seq (by rfl) T.len PySem.boot_len (pa_cons (pv 0) pa_nil)) (pa_cons pe_int pa_nil))) pa_nil))) pa_nil))
        (blkOk_by (own := [("_law_k", 1)]) (N := nmLaw) (sc := defScope sLaw) (by decide +kernel)) (fun _ _ _ _ _ => pg_name (i := 1) scLaw.nd rfl (Or.inl rfl)) (fun _ _ _ _ _ => pts_nil)
        (fun _ _ _ _ _ => pe_callG (x := "_law_right") GR (by exact hgd) hr' (by rfl) mgR kpR (pa_cons (pe_has (x := "_law_pool") (sp := spPool) hP (hr'.mono (by decide)) (by rfl) pass0 (pa_cons (pe_has (x := "_law_cell") (sp := spCell K) hC (hr'.mono (by decide)) (by rfl) pass0 (pa_cons (pv 0) (pa_cons (pv 1) pa_nil))) pa_nil)) pa_nil))) pa_nil))), ?_⟩
    refine ⟨_, rfl, a, _, rfl, .inl hS, _, _, rfl, ?_⟩
    rw [List.length_map]
    generalize eN : (if (6 : Int) < ((ns.length : Nat) : Int) then (6 : Int) else ((ns.length : Nat) : Int)) = n6
    have b6 : n6 ≤ 6 := by
      rw [← eN]
      split <;> omega
    refine ⟨_, _, rfl, ?_⟩
    generalize eM : (if n6 > (2 : Int) then n6 else (2 : Int)) = m
    have m0 : 0 ≤ m ∧ m ≤ 6 := by
      rw [← eM]
      split <;> omega
    obtain ⟨n, rfl⟩ := Int.eq_ofNat_of_zero_le m0.1
    refine ⟨n, rfl, by omega, by omega, fun L nL => ?_⟩
    refine lc_range (lo := 0) (n := ((n : Nat) : Int).toNat) (fun i H' => LX Pt H H' ∧ H' L = some (.lst ((List.replicate i true).map V.bl))) ?_ ?_ ?_
    · exact ⟨⟨fun b o e _ => (same_upd nL) b o e, hT.ext (same_upd nL)⟩, upd_same⟩
    · rintro i H' hi ⟨x, hL⟩
      refine ⟨rfl, ?_⟩
      refine ⟨_, rfl, _, rfl, a, ns, i, (by rw [Int.zero_add]; rfl), x.seq hS, fun z => ?_⟩
      refine ⟨z, rfl, fun p np d1 d2 d3 => ?_⟩
      have s1 : Same H' (upd H' p (.lst [.int d1, .int d2, .int d3])) := same_upd np
      refine ⟨p, rfl, ⟨d1, d2, d3, upd_same⟩, x.tabs.ext s1, fun H2 m2 => ?_⟩
      have hL2 : H2 L = some (.lst ((List.replicate i true).map V.bl)) := m2.rx.keep _ _ (fun e => by rw [e, np] at hL; cases hL) (s1 _ _ hL) (fun _ e => by cases e)
      refine ⟨_, hL2, by rw [List.length_map, List.length_replicate, sizeLine_eq]; omega, ?_⟩
      refine ⟨⟨fun b o e nt => ?_, tabs_upd hL2 m2.tabs⟩, by rw [upd_same, List.replicate_succ', List.map_append]; rfl⟩
      have hb := x.keep b o e nt
      rw [upd_ne (fun z => by rw [z, nL] at e; cases e)]
      exact m2.rx.keep b o (fun z => by rw [z, np] at hb; cases hb) (s1 _ _ hb) nt
    · rintro H2 ⟨x, hL⟩
      refine ⟨L, _, rfl, SqL.of hL, ?_⟩
      have e3 : (List.replicate (((n : Nat) : Int).toNat) true).all id = true := by
        rw [List.all_eq_true]
        intro b hb
        rw [List.eq_of_mem_replicate hb]
        rfl
      rw [e3]
      exact q H2
  refine LamX.run_ofS (N := nmLaw) (ps := ["_law_cells"]) (us := us) (vs := [.ref a]) lk hcd scLaw hr e0 ?_ r rfl fun hr' => ?_
  · have b : L2.Binds K (PySem.W.fnOf "law" "law" (defArgs sLaw) (defBody sLaw) (defScope sLaw) .none kV doc pm an (.ref cL) ct) ["_law_cells"] [] := .all fun us hl => match us, hl with | [_], _ => rfl
    have hl : us.length = 1 := by rw [← r.length]; rfl
    have z := b s us (e0.mod.kin.keeps fun b o e => (e0.bs b o e).1) (by rw [List.append_nil]; exact hl)
    rw [List.append_nil] at z
    exact z
  · obtain ⟨t, ht, hq⟩ := body hr'
    exact ⟨t, ht.nox, hq⟩
end
end K1

/-! the end, for a law that makes texts of what it holds -/
namespace EnG
open PySem PySem.Spec
open PyProof.Rows L2 LamX
theorem call_tabs {P : Program} {w : World} {K : PySem.W.Frag} {mg mb : Str → Option Value} {k : Nat} {fa a : Addr} {cs : List (Addr × Addr)} {sp : Sp} {s₁ : Shared} {vs : List Value} {ns : List Int}
    (kInS : K.In s₁.heap) (nsG : s₁.heap.Ns mainGlobals mg) (nsB : s₁.heap.Ns builtinsNs mb) (bltB : ∀ x : Str, x ≠ "__name__" → mb x = bootBuiltins x) (noLim : s₁.heap.NoLimit) (gen0 : s₁.gens = #[])
    (tabE : ∀ p ∈ cs, s₁.heap.get? p.2 = some { cls := .none, data := .fields #[] }) (tabN : ∀ p ∈ cs, K.lookup p.2 = none) (C : ∀ p ∈ cs, PySem.W.CodeHd s₁.heap p.1 p.2)
    (modB : ∃ (bm : Addr) (ob : Obj), mg "__builtins__" = some (.ref bm) ∧ bm ≠ builtinsNs ∧ s₁.heap.get? bm = some ob ∧ ob.cls = .type "module" ∧ ob.dict = some builtinsNs ∧ ob.data = .plain)
    (lstA : s₁.heap.get? a = some { cls := .type "list", data := .seq vs.toArray }) (intA : IntsAre vs ns) (lenA : ns.length ≤ sizeLine) (roomA : Room k callerA)
    (F : ∀ base : Heap, K.In base → base.Ns mainGlobals mg → (∀ p ∈ cs, TabB base mg p.1 p.2) → K1.FnG P w K mg base CX0 k fa sp)
    (askS : ∀ H : Hp, (∀ p ∈ cs, H p.2 = some (.tbl #[])) → SqL K H a (ns.map V.int) → sp [.ref a] H (fun v _ => v = .bl true) fun _ _ _ => False) :
    codeAny (model P w) callerA (.call (.ref fa) ⟨[.ref a], []⟩) (fun r s' => r
        = .ok (.ret (.bool true)) ∧ OldK s₁.heap s'.heap ∧ s'.os = s₁.os ∧ AllBare s'.gens) s₁ := by
  have relA := vals_ints intA
  have lenI := intA.length
  have isTab : ∀ b : Addr, b ∈ cs.map (·.2) → s₁.heap.get? b = some { cls := .none, data := .fields #[] } := fun b nsB => by
    obtain ⟨p, hp, e⟩ := List.mem_map.mp nsB
    rw [← e]
    exact tabE p hp
  have aNot : a ∉ cs.map (·.2) := fun z => by
    have q := isTab a z
    rw [lstA] at q
    have z' : Data.seq vs.toArray _ = Data.fields
        #[] := congrArg Obj.data (Option.some.inj q)
    cases z'
  have memTab : ∀ p ∈ cs, p.2 ∈ cs.map (·.2) := fun p hp => List.mem_map.mpr ⟨p, hp, rfl⟩
  have coreH : ∀ H : Hp, (∀ p ∈ cs, H p.2 = some (.tbl #[])) → (∀ b, H b = none ∨ b ∈ cs.map (·.2) ∨ ∃ o xs, H b = some (.frz o (.lst xs))) → SqL K H a (ns.map V.int) → HOk P w H s₁.heap → (∀ b, H b ≠ none → b = a ∨ b ∈ cs.map (·.2)) → (H a ≠ none → K.lookup a = none) →
      codeAny (model P w) callerA (.call (.ref fa) ⟨[.ref a], []⟩) (fun r s' => r
          = .ok (.ret (.bool true)) ∧ OldK s₁.heap s'.heap ∧ s'.os = s₁.os ∧ AllBare s'.gens) s₁ := by
    intro H tabH onlyH seqH okH hasH keyH
    have baseOf : ∀ {b : Addr} {o : Obj}, s₁.heap.get? b = some o → H b = none → (hidT s₁.heap H).get? b = some o := fun e n => hidT_get e n
    have noDat : ∀ {b : Addr} {o : Obj}, s₁.heap.get? b = some o → (∀ vs n, o.data ≠ .seq vs n) → o.data ≠ .fields #[] → H b = none := fun {b o} e h1 h2 => by
      cases q : H b with
      | none => rfl
      | some u =>
        rcases hasH b (by rw [q]; simp) with e' | e'
        · rw [e', lstA] at e
          cases e
          exact (h1 _ _ rfl).elim
        · rw [isTab b e'] at e
          cases e
          exact (h2 rfl).elim
    have noDic : ∀ {b : Addr} {o : Obj} {es : Array DictEntry} {ep : Nat}, s₁.heap.get? b = some o → o.data = .dict es ep → H b = none := fun {b o es ep} e d => by
      refine noDat e (fun vs n z => ?_) fun z => ?_
      · rw [d] at z
        cases z
      · rw [d] at z
        cases z
    have nsKeep : ∀ {b : Addr} {m : Str → Option Value}, s₁.heap.Ns b m → (hidT s₁.heap H).Ns b m := fun {b m} ⟨o, es, ep, e, d, r⟩ => ⟨o, es, ep, baseOf e (noDic e d), d, r⟩
    have kInB : K.In (hidT s₁.heap H) := fun b o e => baseOf (kInS b o e) (by
      cases q : H b with
      | none => rfl
      | some u =>
        rcases hasH b (by rw [q]; simp) with e' | e'
        · rw [e'] at e q
          rw [keyH (by rw [q]; simp)] at e
          cases e
        · obtain ⟨p, hp, ep⟩
              := List.mem_map.mp e'
          rw [← ep, tabN p hp] at e
          cases e)
    have modM : L2.Mod K mg (hidT s₁.heap H) := ⟨kInB, nsKeep nsG, ⟨mb, nsKeep nsB, bltB⟩, let ⟨mc, h1, h2⟩ := noLim; ⟨mc, nsKeep h1, h2⟩⟩
    have tabB : ∀ p ∈ cs, TabB (hidT s₁.heap H) mg p.1 p.2 := fun p hp => by
      have hTp := tabE p hp
      refine ⟨?_, ?_, fun z => ?_⟩
      · obtain ⟨o, us, file, tf, flags, tg, inF, text,
            tt, e1, r1, r2, r3, r4, r5, r6, r7, r8, hne⟩ := C p hp
        refine ⟨o, us, file, tf, flags, tg, inF, text, tt, baseOf e1 (noDat e1 (fun vs n z => ?_) fun z => ?_), r1, r2, r3, r4, r5, r6, r7, r8, hne⟩
        · rw [r2] at z
          cases z
        · rw [r2] at z
          cases z
          simp at r3
      · obtain ⟨bm, ob, b1, b2, b3, b4, b5, b6⟩ := modB
        have nG : bm ≠ mainGlobals
            := fun q => by
          obtain ⟨o, es, ep, e, hd, _⟩ := nsG
          rw [q, e] at b3
          cases b3
          rw [hd] at b6
          cases b6
        have nP : bm ≠
            p.2 := fun q => by
          rw [q, hTp] at b3
          cases b3
          cases b6
        refine ⟨bm, ob, b1, b2, nG, nP, baseOf b3 (noDat b3 (fun vs n z => ?_) fun z => ?_), b4, b5, b6⟩
        · rw [b6] at z
          cases z
        · rw [b6] at z
          cases z
      · obtain ⟨o, es, ep, e, hd, _⟩ := nsG
        rw [z, hTp] at e
        cases e
        cases hd
    have env0 : Env0 P w K mg (hidT s₁.heap H) callerA [] s₁ H := ⟨rfl, modM, fun b o e => of_hidT e, Nat.le_of_eq (hidT_size _ _), trivial, fun b nsB => absurd (show b ∈ ([] : List Addr) from nsB) (by simp), okH, .of_eq gen0⟩
    refine codeAny_mono (F _ kInB (nsKeep nsG) tabB callerA [] s₁ H [.ref a] [.ref a] _ _ rfl roomA env0 (.cons rfl .nil) (askS H tabH seqH)) fun r s' h => ?_
    cases r with
    | error e => exact (show False from h).elim
    | ok fl =>
      cases fl with
      | next => exact False.elim h
      | brk => exact False.elim h
      | cont => exact False.elim h
      | ret u =>
        obtain ⟨v, H', osA, barA, unA, hok', r', q⟩ := h
        have q' : v = .bl true := q
        subst q'
        obtain rfl : u = Value.bool
            true := r'
        have keyB : ∀ b o, b ∉ cs.map (·.2) → s₁.heap.get? b = some o → s'.heap.get? b = some o := fun b o nb e => by
          cases q : H b with
          | none => exact unA.keep b o e q (by intro z; exact absurd (show b ∈ ([] : List Addr) from z) (by simp)) (by simp)
          | some u =>
            rcases onlyH b with z | z | ⟨ob, xs, z⟩
            · rw [q] at z; cases z
            · exact absurd z nb
            · have z2 := unA.frzs b ob _ z
              obtain ⟨e1, _⟩ := okH b _ z
              obtain ⟨e2, _⟩ := hok' b _ z2
              rw [e] at e1; cases e1
              exact e2
        have grewT : ∀ p ∈ cs, ∃ more : Array Value, s'.heap.get? p.2 = some { cls := .none, data := .fields more } := fun p hp => by
          obtain ⟨more, z⟩ := unA.tbls p.2 #[] (tabH p hp)
          exact ⟨_, hok' p.2 _ z⟩
        refine ⟨rfl, ⟨fun b o e => ?_, fun b o e => ?_⟩, osA, barA⟩
        · by_cases nsB : b ∈ cs.map (·.2)
          · obtain ⟨p, hp, ep⟩ := List.mem_map.mp nsB
            obtain ⟨more, hm⟩ := grewT p hp
            rw [← ep] at e ⊢
            rw [tabE p hp] at e
            cases e
            exact .inr (.inl ⟨((C p hp).tab (tabE p hp)).isCodeTable, rfl, #[], more, rfl, by rw [Array.empty_append]; exact hm⟩)
          · exact .inl (keyB b o nsB e)
        · by_cases nsB : b ∈ cs.map (·.2)
          · obtain ⟨p, hp, ep⟩ := List.mem_map.mp nsB
            obtain ⟨more, hm⟩ := grewT p hp
            rw [← ep]
            exact ⟨_, hm⟩
          · exact ⟨o, keyB b o nsB e⟩
  cases hk : K.lookup a with
  | some o =>
    have e := kInS a o hk
    rw [lstA] at e
    cases e
    refine coreH (fun b => if b ∈ cs.map (·.2) then some (.tbl #[]) else none) (fun p hp => if_pos (memTab p hp)) (fun b => ?_) (.inr ⟨_, vs.toArray, _, hk, rfl, rfl, rfl, by rw [List.size_toArray, lenI]; exact lenA, by simpa using relA⟩) (fun b u z => ?_) (fun b z => ?_) fun z => absurd (show (if a ∈ cs.map (·.2) then some (HO.tbl #[]) else none) = none from if_neg aNot) z
    · by_cases nsB : b ∈ cs.map (·.2)
      · exact .inr (.inl nsB)
      · exact .inl (if_neg nsB)
    · by_cases nsB : b ∈ cs.map (·.2)
      · have z' := (if_pos nsB).symm.trans z
        cases z'
        exact isTab b nsB
      · have z' := (if_neg nsB).symm.trans z
        cases z'
    · by_cases nsB : b ∈ cs.map (·.2)
      · exact .inr nsB
      · exact absurd (if_neg nsB) z
  | none =>
    refine coreH (fun b => if b = a then some (.frz { cls := .type "list", data := .seq vs.toArray } (.lst (ns.map V.int))) else if b ∈ cs.map (·.2) then some (.tbl #[]) else none) (fun p hp => (if_neg (show ¬ p.2 = a from fun z => aNot (by rw [← z]; exact memTab p hp))).trans (if_pos (memTab p hp))) (fun b => ?_)
      (.inl (.inr ⟨{ cls := .type "list", data := .seq vs.toArray
          }, if_pos rfl⟩)) (fun b u z => ?_) (fun b z => ?_) fun _ => hk
    · by_cases nsB : b = a
      · exact .inr (.inr ⟨_, _, if_pos nsB⟩)
      · by_cases hb2
            : b ∈ cs.map (·.2)
        · exact .inr (.inl hb2)
        · exact .inl ((if_neg nsB).trans (if_neg hb2))
    · by_cases nsB : b = a
      · have z' := (if_pos nsB).symm.trans z
        cases z'
        rw [nsB]
        exact ⟨lstA, by rw [List.length_map]; exact lenA, vs, _, relA, lstA⟩
      · have z1 := (if_neg nsB).symm.trans z
        by_cases hb2 :
            b ∈ cs.map (·.2)
        · have z' := (if_pos
              hb2).symm.trans z1
          cases z'
          exact isTab b hb2
        · have z' := (if_neg
              hb2).symm.trans z1
          cases z'
    · by_cases nsB : b = a
      · exact .inl nsB
      · by_cases hb2
            : b ∈ cs.map (·.2)
        · exact .inr hb2
        · exact absurd ((if_neg nsB).trans (if_neg hb2)) z
end EnG

namespace EnG
open PySem PySem.Spec
open PyProof.Rows L2 LamX
/-- the defs of the top as the head leaves them -/
def TabsAt (q : Program) (mg : Str → Option Value) (h : Heap) : Prop := ∀ d ∈ recsOf q, ∃ a o fd c P, mg d.name = some (.ref a) ∧ h.get? a = some o ∧ o.data = .func fd ∧ fd.code = .ref c ∧ h.IsCode c P #[] ∧ h.TableAt c P #[]
structure LawG (l : PySem.W.OpenLaw) (w : World) (k n : Nat) (mg : Str → Option Value) (fa : Addr) (h : Heap) : Prop where
  ex : ∃ (K : PySem.W.Frag) (cs : List (Addr × Addr)) (sp : Sp), K.In h ∧ (∀ p ∈ cs, h.get? p.2 = some { cls := .none, data := .fields #[] }) ∧ (∀ p ∈ cs, K.lookup p.2 = none) ∧ (∀ p ∈ cs, PySem.W.CodeHd h p.1 p.2) ∧
    (∀ (H : Hp) (a : Addr) (ns : List Int), ns.length ≤ n → (∀ p ∈ cs, H p.2 = some (.tbl #[])) → SqL K H a (ns.map V.int) → sp [.ref a] H (fun v _ => v = .bl true) fun _ _ _ => False) ∧
    ∀ base : Heap, K.In base → base.Ns mainGlobals mg → (∀ p ∈ cs, TabB base mg p.1 p.2) → K1.FnG l.prog w K mg base CX0 k fa sp
theorem walk_G {l : PySem.W.OpenLaw} {n k : Nat} {q : Program} {loose : List Str} {XP : (Str → Option Value) → Heap → Prop} {YP : World → Heap → Prop} {d : DefRec}
    (hn : l.most = some n) (hn2 : n ≤ sizeLine)
        (hdf : d.params.defaults = []) (hr : Room k callerA)
    (F : ∀ (w : World) (mg : Str → Option Value) (fa : Addr) (h : Heap), YP w h → h.Ns mainGlobals mg → mg d.name = some (.ref fa) → TabsAt q mg h → LawG l w k n mg fa h) :
    PySem.W.WalkO q loose XP YP l.row.toRowW
        d [] (fun f vs => PySem.call f vs) := by
  refine Att.attach_callB hn hdf fun w s₀ s₁ mg mb fa o
      pm cd doc a vs ns G Y ho hd hcd hmg hobj hints hlen hbits hg => ?_
  obtain ⟨K, cs, sp, KX, hT, nT, C, hsp, hF⟩ := (F w mg fa _ Y G.T.g hmg G.T.tab).ex
  exact call_tabs KX G.T.g G.T.b G.T.builtins G.T.nolimit hg hT nT C G.T.bmain hobj hints (Nat.le_trans hlen hn2) hr hF (fun H hH hS => hsp H a ns hlen hH hS)
/-- the table of a def's code object -/
theorem tab_of {K : PySem.W.Frag} {q : Program} {mg : Str → Option Value} {h : Heap} {f c P : Addr} {x : Str} {o : Obj} {fd : FuncData} {ec : Value} {dc : Option Addr} {vc : Array Value} {slc : Array (Option Value)} (KX : K.In h) (T : TabsAt q mg h) (hrec : ((recsOf q).any fun e => e.name == x) = true)
    (hx : mg x = some (.ref f)) (lk : K.lookup f = some o) (hd : o.data = .func fd) (hc : fd.code = .ref c) (lc : K.lookup c = some ⟨ec, dc, .fields vc, slc⟩) (h11 : vc[11]? = some (.ref P)) :
    h.get? P = some { cls := .none, data := .fields #[] } ∧ PySem.W.CodeHd h c P := by
  obtain ⟨d, hm, hn⟩ := List.any_eq_true.mp hrec
  have hn : d.name = x := beq_iff_eq.mp hn
  obtain ⟨a', o', fd', c', P', h1, h2, h3, h4, h5, h6⟩ := T d hm
  rw [hn, hx] at h1
  cases h1
  have g1 := KX _ _ lk
  rw [g1] at h2
  cases h2
  rw [hd] at h3
  cases h3
  rw [hc] at h4
  cases h4
  have h6' := h6
  obtain ⟨⟨oc, us, e1, _, e3, e4⟩, hP⟩ := h6
  have g2 := KX _ _ lc
  rw [g2] at e1
  cases e1
  cases e3
  rw [h11] at e4
  cases e4
  exact ⟨hP, PySem.W.CodeHd.of h5 h6'⟩
end EnG

namespace K1
open PySem PySem.Spec
open PyProof.Rows L2 EnT StX SmX TxS DuX XdI Tr3 CnB ClX
section
variable {K : PySem.W.Frag}
/-- a def where it stands -/
structure DefR (K : PySem.W.Frag) (x qual : Str) (st : Stmt) (f : Addr) : Prop where
  ex : ∃ (oc : Value) (od : Option Addr) (kV doc pm : Value) (an : Option Addr) (cdv ct : Value) (osl : Array (Option Value)), K.lookup f = some ⟨oc, od, .func (PySem.W.fnOf x qual (defArgs st) (defBody st) (defScope st) .none kV doc pm an cdv ct), osl⟩ ∧ PySem.W.codeIn K cdv qual = true
  kp : PySem.W.keepIn
      K (.ref f) = true
theorem DefR.fun_ {x qual : Str} {st : Stmt} {f : Addr} (d : DefR K x qual st f) : ∃ fd, Fun K x qual st f fd := by
  obtain ⟨oc, od, kV, doc, pm, an, cdv, ct, osl, l, c⟩ := d.ex
  exact ⟨_, fun_mk l c d.kp⟩
/-- a def of the top -/
def GloD (K : PySem.W.Frag) (x : Str) (st : Stmt) : Prop := ∃ f, PySem.W.nsIn K mainGlobals x = some (some (.ref f)) ∧ DefR K x x st f
theorem gloD_mk {x : Str} {st : Stmt} {f : Addr} {oc kV doc pm cdv ct : Value} {od an : Option Addr} {osl : Array (Option Value)} (a : PySem.W.nsIn K mainGlobals x = some (some (.ref f)))
    (l : K.lookup f = some ⟨oc, od, .func (PySem.W.fnOf x x (defArgs st) (defBody st) (defScope st) .none kV doc pm an cdv ct), osl⟩) (c : PySem.W.codeIn K cdv x = true) (k : PySem.W.keepIn K (.ref f) = true) : GloD K x st := ⟨f, a, ⟨oc, od, kV, doc, pm, an, cdv, ct, osl, l, c⟩, k⟩
/-- a method of
    the class at C -/
def MethD (K : PySem.W.Frag) (C : Addr) (x qual : Str) (st : Stmt) : Prop := ∃ f, PySem.W.findIn K (.ref C) x = some (some (.ref f)) ∧ PySem.W.isFn K (.ref f) = true ∧ DefR K x qual st f
theorem methD_mk {C : Addr} {x qual : Str} {st : Stmt} {f : Addr} {oc kV doc pm cdv ct : Value} {od an : Option Addr} {osl : Array (Option Value)} (a : PySem.W.findIn K (.ref C) x = some (some (.ref f))) (i : PySem.W.isFn K (.ref f) = true)
    (l : K.lookup f = some ⟨oc, od, .func (PySem.W.fnOf x qual (defArgs st) (defBody st) (defScope st) .none kV doc pm an cdv ct), osl⟩) (c : PySem.W.codeIn K cdv qual = true) (k : PySem.W.keepIn K (.ref f) = true) : MethD K C x qual st := ⟨f, a, i, ⟨oc, od, kV, doc, pm, an, cdv, ct, osl, l, c⟩, k⟩
/-- a property -/
def PropD (K : PySem.W.Frag) (C : Addr) (x qual : Str) (st : Stmt) : Prop := ∃ p g, PropOf K C x p g ∧ DefR K x qual st g
theorem propD_mk {C : Addr} {x qual : Str} {st : Stmt} {p f : Addr} {rest : List Value} {oc kV doc pm cdv ct : Value} {od an : Option Addr} {osl : Array (Option Value)} (a : PySem.W.findIn K (.ref C) x = some (some (.ref p))) (g : PySem.W.specialIn K (.ref p) "__get__" = some (some (.builtin "property.__get__")))
    (t : PySem.W.takesIn K (.ref p) = some true) (r : PySem.W.recIn K p "property" = some (.ref f :: rest))
    (l : K.lookup f = some ⟨oc, od, .func (PySem.W.fnOf x qual (defArgs st) (defBody st) (defScope st) .none kV doc pm an cdv ct), osl⟩) (c : PySem.W.codeIn K cdv qual = true) (k : PySem.W.keepIn K (.ref f) = true) : PropD K C x qual st := ⟨p, f, ⟨a, g, t, rest, r⟩, ⟨oc, od, kV, doc, pm, an, cdv, ct, osl, l, c⟩, k⟩
/-- a static method -/
def StatD (K : PySem.W.Frag) (C : Addr) (mc : Value) (x qual : Str) (st : Stmt) : Prop := ∃ p g, SMet K C mc x p g ∧ DefR K x qual st g
theorem statD_mk {C : Addr} {mc : Value} {x qual : Str} {st : Stmt} {p f : Addr} {rest : List Value} {oc kV doc pm cdv ct : Value} {od an : Option Addr} {osl : Array (Option Value)} (a : PySem.W.findCls K (.ref C) mc x = some (.get (.builtin "staticmethod.__get__") (.ref p) .none (.ref C)))
    (r : PySem.W.recIn K p "staticmethod" = some (.ref f :: rest))
    (l : K.lookup f = some ⟨oc, od, .func (PySem.W.fnOf x qual (defArgs st) (defBody st) (defScope st) .none kV doc pm an cdv ct), osl⟩) (c : PySem.W.codeIn K cdv qual = true) (k : PySem.W.keepIn K (.ref f) = true) : StatD K C mc x qual st := ⟨p, f, ⟨a, ⟨rest, r⟩, k⟩, ⟨oc, od, kV, doc, pm, an, cdv, ct, osl, l, c⟩, k⟩
/-- an error's class -/
structure ErrD (K : PySem.W.Frag) (x fld qual : Str) (st : Stmt) (D S1 S2 S3 : Addr) : Prop where
  g : PySem.W.nsIn K mainGlobals x = some (some (.ref D))
  ox : OexC K D
  no : PySem.W.findIn K (.ref D) fld = some none
  ini : ∃ f, PySem.W.findIn K (.ref D) "__init__" = some (some (.ref f)) ∧ PySem.W.typeIn K (.ref f) = some (.type "function") ∧ DefR K "__init__" qual st f
  xc : ExcC K D
  xf : XfC K D
  k1 : PySem.W.kitOne K (.ref D) (.ref S1) = some true
  k2 : PySem.W.kitOne K (.ref D) (.ref S2) = some false
  k3 : PySem.W.kitOne K (.ref D) (.ref S3) = some false
  kV : PySem.W.kitOne K (.ref D) (.type "ValueError") = some true
  kL : PySem.W.kitOne K (.ref D) (.type "LookupError") = some false
  kA : PySem.W.kitOne K (.ref D) (.type "ArithmeticError") = some false
  kx : PySem.W.exmAny K (.ref D) [.ref S1, .ref S2, .ref S3] = some true
theorem errD_mk {x fld qual : Str} {st : Stmt} {D S1 S2 S3 f : Addr} {oc kV doc pm cdv ct : Value} {od an : Option Addr} {osl : Array (Option Value)} {oD : Obj} (g : PySem.W.nsIn K mainGlobals x = some (some (.ref D)))
    (lD : K.lookup D = some oD) (sh : ∃ nm q N bs bm sn sub ab col dd k0 k1 k2 k3 k5, oD = PySem.excClassObj nm q D N bs bm true sn sub ab col dd k0 k1 k2 k3 k5 "ValueError.__new__" ∧ PySem.HandSPX.refsVE bm = true)
    (sa : PySem.W.findIn K (.ref D) "__setattr__" = some (some (.builtin "object.__setattr__"))) (exC : PySem.W.subIn K (.ref D) (.type "BaseException") = some true) (tyC : PySem.W.typeIn K (.ref D) = some (.type "type")) (kC : PySem.W.keepIn K (.ref D) = true)
    (no : PySem.W.findIn K (.ref D) fld = some none) (a : PySem.W.findIn K (.ref D) "__init__" = some (some (.ref f))) (ty : PySem.W.typeIn K (.ref f) = some (.type "function"))
    (l : K.lookup f = some ⟨oc, od, .func (PySem.W.fnOf "__init__" qual (defArgs st) (defBody st) (defScope st) .none kV doc pm an cdv ct), osl⟩) (c : PySem.W.codeIn K cdv qual = true) (k : PySem.W.keepIn K (.ref f) = true)
    (hg : PySem.W.findIn K (.ref D) "__getattribute__" = some (some (.builtin "BaseException.__getattribute__"))) (hk : PySem.W.findIn K (.ref D) "__getattr__" = some none) (hd : PySem.W.hasDictIn K D = true)
    (ha : PySem.W.findIn K (.ref D) "__class__" = some (some (.builtin "object.__class__"))) (hn : PySem.W.specialIn K (.builtin "object.__class__") "__get__" = some (some (.builtin "getset_descriptor.__get__"))) (ht : PySem.W.takesIn K (.builtin "object.__class__") = some true) (hm : PySem.W.mroIn K D (.type "object") = some true)
    (k1 : PySem.W.kitOne K (.ref D) (.ref S1) = some true) (k2 : PySem.W.kitOne K (.ref D) (.ref S2) = some false) (k3 : PySem.W.kitOne K (.ref D) (.ref S3) = some false) (kV' : PySem.W.kitOne K (.ref D) (.type "ValueError") = some true) (kL : PySem.W.kitOne K (.ref D) (.type "LookupError") = some false) (kA : PySem.W.kitOne K (.ref D) (.type "ArithmeticError") = some false)
    (kx : PySem.W.exmAny K (.ref D) [.ref S1, .ref S2, .ref S3] = some true) : ErrD K x fld qual st D S1 S2 S3 := by
  refine ⟨g, ⟨?_, sa, exC, tyC, kC⟩, no, ⟨f, a, ty, ⟨oc, od, kV, doc, pm, an, cdv, ct, osl, l, c⟩, k⟩, ⟨hg, hk, exC, hd, ha, hn, ht, hm⟩, ⟨hg, hk, exC, hd⟩, k1, k2, k3, kV', kL, kA, kx⟩
  obtain ⟨nm, q, N, bs, bm, sn, sub, ab, col, dd, k0, k1', k2', k3', k5, e, r⟩ := sh
  exact ⟨nm, q, N, bs, bm, sn, sub, ab, col, dd, k0, k1', k2', k3', k5, by rw [lD, e], r⟩
/-- the class Members -/
structure MemD (K : PySem.W.Frag) (C : Addr) : Prop where
  g : PySem.W.nsIn K mainGlobals "Members" = some (some (.ref C))
  cl : Cls K C
  nN : PySem.W.findIn K (.ref C) "_names" = some none
  nT : PySem.W.findIn K (.ref C) "_table" = some none
  mk' : PySem.W.makesIn K C = true
  kC : PySem.W.keepIn
      K (.ref C) = true
  is : MemIs K C
  ne : NeM K C
  nb : PySem.W.findIn K (.ref C) "__bool__" = some none
  cr : CRead K C (.type "type")
theorem memD_mk {C : Addr} (g : PySem.W.nsIn K mainGlobals "Members" = some (some (.ref C))) (pg : PySem.W.plainGet K C Str.empty = true) (hd : PySem.W.hasDictIn K C = true) (po : PySem.W.plainOver K C = true) (sa : PySem.W.findIn K (.ref C) "__setattr__" = some (some (.builtin "object.__setattr__")))
    (nN : PySem.W.findIn K (.ref C) "_names" = some none) (nT : PySem.W.findIn K (.ref C) "_table" = some none) (mk' : PySem.W.makesIn K C = true) (kC : PySem.W.keepIn K (.ref C) = true)
    (ha : PySem.W.findIn K (.ref C) "__class__" = some (some (.builtin "object.__class__"))) (hn : PySem.W.specialIn K (.builtin "object.__class__") "__get__" = some (some (.builtin "getset_descriptor.__get__"))) (ht : PySem.W.takesIn K (.builtin "object.__class__") = some true) (hm : PySem.W.mroIn K C (.type "object") = some true)
    (yes : PySem.W.kitOne K (.ref C) (.ref C) = some true) (o1 : PySem.W.kitOne K (.type "NoneType") (.ref C) = some false) (o2 : PySem.W.kitOne K (.type "bool") (.ref C) = some false) (o3 : PySem.W.kitOne K (.type "int") (.ref C) = some false) (o4 : PySem.W.kitOne K (.type "str") (.ref C) = some false) (o5 : PySem.W.kitOne K (.type "list") (.ref C) = some false) (o6 : PySem.W.kitOne K (.type "tuple") (.ref C) = some false) (o7 : PySem.W.kitOne K (.type "dict") (.ref C) = some false)
    (f1 : PySem.W.notFirst K C (.type "NoneType") = true) (f2 : PySem.W.notFirst K C (.type "bool") = true) (f3 : PySem.W.notFirst K C (.type "int") = true) (f4 : PySem.W.notFirst K C (.type "str") = true) (f5 : PySem.W.notFirst K C (.type "list") = true) (f6 : PySem.W.notFirst K C (.type "tuple") = true) (f7 : PySem.W.notFirst K C (.type "dict") = true) (fC : PySem.W.notFirst K C (.ref C) = true)
    (ne : PySem.W.findIn K (.ref C) "__ne__" = some (some (.builtin "object.__ne__"))) (nb : PySem.W.findIn K (.ref C) "__bool__" = some none) (rd : PySem.W.readsIn K C (.type "type") = true) (ga : PySem.W.specialIn K (.ref C) "__getattribute__" = some (some (.builtin "type.__getattribute__"))) : MemD K C := by
  refine ⟨g, ⟨pg, hd, po, sa⟩, nN, nT, mk', kC, ⟨ha, hn, ht, hm, yes, fun t h => ?_, fun t h => ?_, fC⟩, ⟨ne, hm⟩, nb, ⟨rd, ga⟩⟩
  · simp only [baseTys, List.mem_cons, List.not_mem_nil, or_false] at h
    rcases h with rfl | rfl | rfl | rfl | rfl | rfl | rfl
    · exact o1
    · exact o2
    · exact o3
    · exact o4
    · exact o5
    · exact o6
    · exact o7
  · simp only [baseTys, List.mem_cons, List.not_mem_nil, or_false] at h
    rcases h with rfl | rfl | rfl | rfl | rfl | rfl | rfl
    · exact f1
    · exact f2
    · exact f3
    · exact f4
    · exact f5
    · exact f6
    · exact f7
end
/-- a class with fields -/
structure ClsD (K : PySem.W.Frag) (x : Str) (C : Addr) : Prop where
  g : PySem.W.nsIn K mainGlobals x = some (some (.ref C))
  cl : Cls K C
  mk' : PySem.W.makesIn K C = true
  kC : PySem.W.keepIn K (.ref C) = true
  is : IsC K C
  ne : NeM K C
  cr : CRead K C (.type "type")
  nf : PySem.W.notFirst K C (.ref C) = true
  nB : ∀ t ∈ baseTys, PySem.W.notFirst K C (.type t) = true
theorem clsD_mk {K : PySem.W.Frag} {x : Str} {C : Addr} (g : PySem.W.nsIn K mainGlobals x = some (some (.ref C))) (hd : PySem.W.hasDictIn K C = true) (pg : PySem.W.plainGet K C Str.empty = true) (sa : PySem.W.findIn K (.ref C) "__setattr__" = some (some (.builtin "object.__setattr__"))) (po : PySem.W.plainOver K C = true)
    (kC : PySem.W.keepIn K (.ref C) = true) (mk' : PySem.W.makesIn K C = true)
    (hm : PySem.W.mroIn K C (.type "object") = some true) (ht : PySem.W.takesIn K (.builtin "object.__class__") = some true) (hn : PySem.W.specialIn K (.builtin "object.__class__") "__get__" = some (some (.builtin "getset_descriptor.__get__"))) (ha : PySem.W.findIn K (.ref C) "__class__" = some (some (.builtin "object.__class__")))
    (yes : PySem.W.kitOne K (.ref C) (.ref C) = some true) (o1 : PySem.W.kitOne K (.type "NoneType") (.ref C) = some false) (o2 : PySem.W.kitOne K (.type "bool") (.ref C) = some false) (o3 : PySem.W.kitOne K (.type "int") (.ref C) = some false) (o4 : PySem.W.kitOne K (.type "str") (.ref C) = some false) (o5 : PySem.W.kitOne K (.type "list") (.ref C) = some false) (o6 : PySem.W.kitOne K (.type "tuple") (.ref C) = some false) (o7 : PySem.W.kitOne K (.type "dict") (.ref C) = some false)
    (f1 : PySem.W.notFirst K C (.type "NoneType") = true) (f2 : PySem.W.notFirst K C (.type "bool") = true) (f3 : PySem.W.notFirst K C (.type "int") = true) (f4 : PySem.W.notFirst K C (.type "str") = true) (f5 : PySem.W.notFirst K C (.type "list") = true) (f6 : PySem.W.notFirst K C (.type "tuple") = true) (f7 : PySem.W.notFirst K C (.type "dict") = true) (fC : PySem.W.notFirst K C (.ref C) = true)
    (ne : PySem.W.findIn K (.ref C) "__ne__" = some (some (.builtin "object.__ne__"))) (rd : PySem.W.readsIn K C (.type "type") = true) (ga : PySem.W.specialIn K (.ref C) "__getattribute__" = some (some (.builtin "type.__getattribute__"))) : ClsD K x C := by
  refine ⟨g, ⟨pg, hd, po, sa⟩, mk', kC, ⟨yes, fun t h => ?_, hm, ht, hn, ha⟩, ⟨ne, hm⟩, ⟨rd, ga⟩, fC, fun t h => ?_⟩
  · simp only [baseTys, List.mem_cons, List.not_mem_nil, or_false] at h
    rcases h with rfl | rfl | rfl | rfl | rfl | rfl | rfl
    · exact o1
    · exact o2
    · exact o3
    · exact o4
    · exact o5
    · exact o6
    · exact o7
  · simp only [baseTys, List.mem_cons, List.not_mem_nil, or_false] at h
    rcases h with rfl | rfl | rfl | rfl | rfl | rfl | rfl
    · exact f1
    · exact f2
    · exact f3
    · exact f4
    · exact f5
    · exact f6
    · exact f7
/-- the def at f, its code object at c -/
structure CodD (K : PySem.W.Frag) (x : Str) (st : Stmt) (f c : Addr) : Prop where
  g : PySem.W.nsIn K mainGlobals x = some (some (.ref f))
  fn : FunC K x x st f c
  kp : PySem.W.keepIn K (.ref f) = true
theorem codD_mk {K : PySem.W.Frag} {x : Str} {st : Stmt} {f c : Addr} {oc kV doc pm ct : Value} {od an : Option Addr} {osl : Array (Option Value)} (a : PySem.W.nsIn K mainGlobals x = some (some (.ref f)))
    (l : K.lookup f = some ⟨oc, od, .func (PySem.W.fnOf x x (defArgs st) (defBody st) (defScope st) .none kV doc pm an (.ref c) ct), osl⟩) (cc : PySem.W.codeIn K (.ref c) x = true) (k : PySem.W.keepIn K (.ref f) = true) : CodD K x st f c :=
  ⟨a, ⟨oc, od, kV, doc, pm, an, ct, osl, l, cc⟩, k⟩
theorem raw_2 {P : Program} {w : World} {K : PySem.W.Frag} {mg : Str → Option Value} {base : Heap} {CX : CXT} {k : Nat} {f : Addr} {fd : FuncData} {ps : List Str} {sp : Sp} (B : L2.Binds K fd ps []) (G : FnOk P w K mg base CX k f fd ps sp) : FnR P w K mg base CX k f sp :=
  (G.raw B .nil).imp fun vs H Q E h => by rw [List.append_nil]; exact h
/-- the def at f, its code object at c, the table at P -/
structure CodeD (K : PySem.W.Frag) (x : Str) (st : Stmt) (f c P : Addr) : Prop where
  g : PySem.W.nsIn K mainGlobals x = some (some (.ref f))
  fn : FunC K x x st f c
  kp : PySem.W.keepIn
      K (.ref f) = true
  cd : ∃ ec dc vc slc, K.lookup c = some ⟨ec, dc, .fields vc, slc⟩ ∧ vc[11]? = some (.ref P)
  no : K.lookup P = none
theorem codeD_mk {K : PySem.W.Frag} {x : Str} {st : Stmt} {f c P : Addr} {oc kV doc pm ct ec : Value} {od an dc : Option Addr} {osl slc : Array (Option Value)} {vc : Array Value} (a : PySem.W.nsIn K mainGlobals x = some (some (.ref f)))
    (l : K.lookup f = some ⟨oc, od, .func (PySem.W.fnOf x x (defArgs st) (defBody st) (defScope st) .none kV doc pm an (.ref c) ct), osl⟩) (cc : PySem.W.codeIn K (.ref c) x = true) (k : PySem.W.keepIn K (.ref f) = true)
    (lc : K.lookup c = some ⟨ec, dc, .fields vc, slc⟩) (h : vc[11]? = some (.ref P)) (no : K.lookup P = none) : CodeD K x st f c P :=
  ⟨a, ⟨oc, od, kV, doc, pm, an, ct, osl, l, cc⟩, k, ⟨ec, dc, vc, slc, lc, h⟩, no⟩
/-- a method with one default by keyword -/
def MethK (K : PySem.W.Frag) (C : Addr) (x qual : Str) (st : Stmt) (k : Str) (v : V) : Prop := ∃ (f : Addr) (fd : FuncData), Meth K C x f ∧ FunD K x qual (defArgs st) (defBody st) (defScope st) [] [(k, v)] f fd
theorem methK_mk {K : PySem.W.Frag} {C : Addr} {x qual k : Str} {st : Stmt} {v : V} {f D : Addr} {u oc doc pm cdv ct : Value} {od an : Option Addr} {osl : Array (Option Value)} (m : Meth K C x f)
    (l : K.lookup f = some ⟨oc, od, .func (PySem.W.fnOf x qual (defArgs st) (defBody st) (defScope st) .none (.ref D) doc pm an cdv ct), osl⟩) (c : PySem.W.codeIn K cdv qual = true) (kp : PySem.W.keepIn K (.ref f) = true) (n : PySem.W.nsIn K D k = some (some u)) (r : RelV v u) : MethK K C x qual st k v :=
  ⟨f, _, m, ⟨oc, od, .none, .ref D, doc, pm, an, cdv, ct, osl, rfl, l, c, .inl ⟨rfl, rfl⟩, .inr ⟨D, rfl, fun q hq => by
    rw [List.mem_singleton.mp hq]
    exact ⟨u, n, r⟩⟩⟩, kp⟩
end K1

namespace K1
open PySem PySem.Spec
open PyProof.Rows L2 L2H EnT StX SmX TxS DuX XdI Tr3 CnB ClX
/-! ### what is known of Members -/
structure RawM (K : PySem.W.Frag) (C CN CM S1 S2 S3 : Addr) : Prop where
  mem : MemD K C
  sf : PySem.W.selfFirst K C = true
  ini : MethD K C "__init__" "Members.__init__" sInit
  len : MethD K C "__len__" "Members.__len__" sLenM
  has : MethD K C "__contains__" "Members.__contains__" sHasM
  eq : MethD K C "__eq__" "Members.__eq__" sEqM
  m1 : MethD K C "__or__" "Members.__or__" sOrM
  m2 : MethD K C "__and__" "Members.__and__" sAndM
  m3 : MethD K C "__sub__" "Members.__sub__" sSubM
  m4 : MethD K C "__xor__" "Members.__xor__" sXorM
  prop : PropD K C "names" "Members.names" sNamesP
  frm : StatD K C (.type "type") "from_names" "Members.from_names" sFromN
  eN : ErrD K "InvalidNames" "index" "InvalidNames.__init__" sErrNames CN S1 S2 S3
  eM : ErrD K "NotMembers" "value" "NotMembers.__init__" sErrMem CM S1 S2 S3
  isn : GloD K "is_name" sIsName
  wrg : GloD K "wrong_at" sWrong
  chkM : GloD K "check_members" sChkM
  ln : ∃ t, PySem.W.nsIn K mainGlobals "LONGEST_NAME" = some (some (.int 8 t))
section
variable {w : World} {P : Program} {base : Heap} {mg : Str → Option Value} {K : PySem.W.Frag} {C CN CM S1 S2 S3 : Addr}
theorem u_orM : sgO = ("__or__" : Str) := by decide +kernel
theorem u_andM : sgA = ("__and__" : Str) := by decide +kernel
theorem u_subM : sgS = ("__sub__" : Str) := by decide +kernel
theorem u_xorM : sgX = ("__xor__" : Str) := by decide +kernel
theorem mb_of {h : Heap} (T : Free mg) (R : RawM K C CN CM S1 S2 S3) (X : K.In h) (G : h.Ns mainGlobals mg) : Mb P w K mg base C CN CM (.type "type") ∧ (∃ f0, MakeC P w K mg base C CN f0) ∧ ∃ g fd, OwnM K C "__eq__" g ∧ FnOk P w K mg base CX0 3 g fd ["self", "other"] (spEqM C) ∧ L2.Binds K fd ["self", "other"] [] := by
  have MC : MemC K mg C := ⟨PySem.W.mg_of X G R.mem.g, R.mem.cl, R.mem.nN, R.mem.nT⟩
  have II := R.mem.is
  obtain ⟨fN, iN1, iN2, dN⟩ := R.eN.ini
  obtain ⟨fM, iM1, iM2, dM⟩ := R.eM.ini
  obtain ⟨fdN, FN⟩ := dN.fun_
  obtain ⟨fdM, FM⟩ := dM.fun_
  have EN : ErrC K mg "InvalidNames" "index" CN fN := ⟨PySem.W.mg_of X G R.eN.g, R.eN.ox, R.eN.no, iN1, iN2⟩
  have EM : ErrC K mg "NotMembers" "value" CM fM := ⟨PySem.W.mg_of X G R.eM.g, R.eM.ox, R.eM.no, iM1, iM2⟩
  obtain ⟨fI, aI, dI⟩ := R.isn
  obtain ⟨fdI, FI⟩ := dI.fun_
  obtain ⟨tL, lL⟩ := R.ln
  have GI := ok_isname (P := P) (w := w) (base := base) FI T ⟨tL, PySem.W.mg_of X G lL⟩
  obtain ⟨fW, aW, dW⟩ := R.wrg
  obtain ⟨fdW, FW⟩ := dW.fun_
  have mgI := PySem.W.mg_of X G aI
  have mgW := PySem.W.mg_of X G aW
  have GWT := ok_wrongT FW T GI FI mgI
  obtain ⟨f0, a0, i0, d0⟩ := R.ini
  obtain ⟨fd0, F0⟩ := d0.fun_
  have MM : MakeC P w K mg base C CN f0 := ⟨⟨R.mem.mk', a0, i0, R.mem.kC⟩, ok_init F0 T MC GWT FW mgW EN FN⟩
  obtain ⟨fL, aL, iL, dL⟩ := R.len
  obtain ⟨fdL, FL⟩ := dL.fun_
  have bL : L2.Binds K fdL ["self"] [] := FL.binds (ps := ["self"]) fun _ _ _ _ _ _ us hl => match us, hl with | [_], _ => rfl
  have RL : FnR P w K mg base CX0 1 fL (spLenM C) := raw_2 bL (ok_lenM FL T MC)
  obtain ⟨fH, aH, iH, dH⟩ := R.has
  obtain ⟨fdH, FH⟩ := dH.fun_
  have bH : L2.Binds K fdH ["self", "value"] [] := FH.binds (ps := ["self", "value"]) fun _ _ _ _ _ _ us hl => match us, hl with | [_, _], _ => rfl
  have RH : FnR P w K mg base CX0 1 fH (spHasM C) := raw_2 bH (ok_hasM FH T MC)
  obtain ⟨pP, fP, prP, dP⟩ := R.prop
  obtain ⟨fdP, FP⟩ := dP.fun_
  have bP : L2.Binds K fdP ["self"] [] := FP.binds (ps := ["self"]) fun _ _ _ _ _ _ us hl => match us, hl with | [_], _ => rfl
  have GP := ok_namesP (P := P) (w := w) (base := base) FP MC
  obtain ⟨fE, aE, iE, dE⟩ := R.eq
  obtain ⟨fdE, FE⟩ := dE.fun_
  have bE : L2.Binds K fdE ["self", "other"] [] := FE.binds (ps := ["self", "other"]) fun _ _ _ _ _ _ us hl => match us, hl with | [_, _], _ => rfl
  have RE := ok_eqM (P := P) (w := w) (base := base) FE T MC II prP GP FP
  obtain ⟨pF, fF, mF, dF⟩ := R.frm
  obtain ⟨ocF, odF, kVF, docF, pmF, anF, cdF, ctF, oslF, lF, cF⟩ := dF.ex
  have FF := fun_mk (st := sFromN) lF cF dF.kp
  have bF : L2.Binds K _ ["names"] [] := FF.binds (ps := ["names"]) fun _ _ _ _ _ _ us hl => match us, hl with | [_], _ => rfl
  have GF1 : FnR P w K mg base (L2.CX P w) 6 fF (spFromT C CN) := raw_2 bF (ok_fromT FF T MC MM EN FN)
  obtain ⟨fC, aC, dC⟩ := R.chkM
  obtain ⟨fdC, FC⟩ := dC.fun_
  have bC : L2.Binds K fdC ["value"] [] := FC.binds (ps := ["value"]) fun _ _ _ _ _ _ us hl => match us, hl with | [_], _ => rfl
  have mgC := PySem.W.mg_of X G aC
  exact ⟨{
    T := T
    M := MC
    I := II
    sf := R.sf
    chkY := ⟨fC, mgC, FC.kp, fdC, ok_chkY FC T MC II EM FM, bC⟩
    chkN := ⟨fC, mgC, FC.kp, fdC, ok_chkN FC T MC II EM FM, bC⟩
    fromT := ⟨pF, fF, mF, GF1⟩
    hasM := ⟨fH, ⟨aH, iH⟩, RH⟩
    lenM := ⟨fL, ⟨aL, iL⟩, RL⟩
    prop := ⟨pP, fP, fdP, prP, GP, bP⟩
    cr := R.mem.cr }, ⟨f0, MM⟩, ⟨fE, fdE, ⟨aE, iE⟩, RE, bE⟩⟩
end
end K1

namespace K1
open PySem PySem.Spec
open PyProof.Rows L2 L2H EnT StX SmX TxS DuX XdI Tr3 CnB ClX
section
variable {w : World} {P : Program} {base : Heap} {mg : Str → Option Value} {K : PySem.W.Frag} {C CN CM S1 S2 S3 : Addr} {mc : Value}
theorem scXorM : FnScope nmSO nmSO (defScope sXorM) := ⟨rfl, rfl, rfl, by decide +kernel, rfl, by decide +kernel, by decide +kernel⟩
theorem ok_xorM {f : Addr} {fd : FuncData} (F : Fun K "__xor__" "Members.__xor__" sXorM f fd) (B : Mb P w K mg base C CN CM mc) (or : ∃ g, OwnM K C sgO g ∧ FnR P w K mg base (L2.CX P w) 7 g (spBinM C rOr)) (sub : ∃ g, OwnM K C sgS g ∧ FnR P w K mg base (L2.CX P w) 7 g (spBinM C rSub)) : FnOk P w K mg base (L2.CX P w) 8 f fd nmSO (spBinM C rXor) := by
  obtain ⟨gO, mO, FO⟩ := or
  obtain ⟨gS, mS, FS⟩ := sub
  have sf := B.sf
  refine F.okX scXorM (fun vs H Q E h => ?_) (fun cdv A outer s H vs Q E hr h => ?_)
  · obtain ⟨a, b, zs, ws, rfl, _⟩ := h
    rfl
  · obtain ⟨a, b, zs, ws, rfl, m1, m2, hl, q⟩ := h
    obtain ⟨dx, t, d, h1, _, _⟩ := m1.at_
    obtain ⟨dy, t2, d2, k1, _, _⟩ := m2.at_
    refine ⟨_, pss_one (ps_ret (pe_op (op_binO mO sf FO hr (passes_call (takes_of rfl rfl rfl rfl) fun _ _ _ _ h => h)) (pe_op (op_binO mS sf FS hr (passes_call (takes_of rfl rfl rfl rfl) fun _ _ _ _ h => h)) (pv 0) (pv 1)) (pe_op (op_binO mS sf FS hr (passes_call (takes_of rfl rfl rfl rfl) fun _ _ _ _ h => h)) (pv 1) (pv 0)))), ?_⟩
    refine ⟨_, rfl, _, rfl, a, dx, _, b, dy, _, rfl, rfl, h1, k1, a, b, zs, ws, rfl, m1, m2, hl, fun p1 y1 H1 n1 s1 e1 M1 => ?_⟩
    have m1' := m1.same s1
    have m2' := m2.same s1
    refine ⟨_, rfl, _, rfl, b, dy, _, a, dx, _, rfl, rfl, s1 _ _ k1, s1 _ _ h1, b, a, ws, zs, rfl, m2', m1', by omega, fun p2 y2 H2 n2 s2 e2 M2 => ?_⟩
    obtain ⟨dz, t3, d3, j1, _, _⟩ := (M1.same s2).at_
    obtain ⟨dv, t4, d4, j2, _, _⟩ := M2.at_
    have l1 : y1.length ≤ zs.length := len_sub M1.nd fun z hz => ((e1 z).mp hz).1
    have l2 : y2.length ≤ ws.length := len_sub M2.nd fun z hz => ((e2 z).mp hz).1
    refine ⟨p1, dz, _, p2, dv, _, rfl, rfl, j1, j2, p1, p2, y1, y2, rfl, M1.same s2, M2, by omega, q.imp (s1.trans s2) (fun z => ?_) fun _ _ h => h⟩
    have a1 := e1 z
    have a2 := e2 z
    show z ∈ y1 ∨ z ∈ y2 ↔ rXor (z ∈ zs) (z ∈ ws)
    rw [a1, a2]
theorem mo_of (B : Mb P w K mg base C CN CM (.type "type")) (R : RawM K C CN CM S1 S2 S3) : Mo P w K mg base C CN CM (.type "type") := by
  obtain ⟨g1, a1, j1, d1⟩ := R.m1
  obtain ⟨fd1, F1⟩ := d1.fun_
  have b1 : L2.Binds K fd1 nmSO [] := F1.binds (ps := nmSO) fun _ _ _ _ _ _ us hl => match us, hl with | [_, _], _ => rfl
  obtain ⟨g2, a2, j2, d2⟩ := R.m2
  obtain ⟨fd2, F2⟩ := d2.fun_
  have b2 : L2.Binds K fd2 nmSO [] := F2.binds (ps := nmSO) fun _ _ _ _ _ _ us hl => match us, hl with | [_, _], _ => rfl
  obtain ⟨g3, a3, j3, d3⟩ := R.m3
  obtain ⟨fd3, F3⟩ := d3.fun_
  have b3 : L2.Binds K fd3 nmSO [] := F3.binds (ps := nmSO) fun _ _ _ _ _ _ us hl => match us, hl with | [_, _], _ => rfl
  obtain ⟨g4, a4, j4, d4⟩ := R.m4
  obtain ⟨fd4, F4⟩ := d4.fun_
  have b4 : L2.Binds K fd4 nmSO [] := F4.binds (ps := nmSO) fun _ _ _ _ _ _ us hl => match us, hl with | [_, _], _ => rfl
  have O : ∃ g, OwnM K C sgO g ∧ FnR P w K mg base (L2.CX P w) 7 g (spBinM C rOr) := ⟨g1, ⟨by rw [u_orM]; exact a1, j1⟩, raw_2 b1 (ok_orM F1 B)⟩
  have S : ∃ g, OwnM K C sgS g ∧ FnR P w K mg base (L2.CX P w) 7 g (spBinM C rSub) := ⟨g3, ⟨by rw [u_subM]; exact a3, j3⟩, raw_2 b3 (ok_subM F3 B)⟩
  exact ⟨B, O, ⟨g2, ⟨by rw [u_andM]; exact a2, j2⟩, raw_2 b2 (ok_andM F2 B)⟩, S, ⟨g4, ⟨by rw [u_xorM]; exact a4, j4⟩, raw_2 b4 (ok_xorM F4 B O S)⟩⟩
end
end K1

namespace K1
open PySem PySem.Spec
open PyProof.Rows L2 L2H EnT StX SmX TxS DuX XdI Tr3 CnB ClX
/-! ### what is known of Expression -/
/-- the tuple of the signs -/
def SgD (K : PySem.W.Frag) (aS : Addr) : Prop := PySem.W.nsIn K mainGlobals "SIGNS" = some (some (.ref aS)) ∧ ∃ (dd : Option Addr) (t1 t2 t3 t4 : Tok) (n : Nat) (sl : Array (Option Value)), K.lookup aS = some ⟨.type "tuple", dd, .seq #[.str "|" t1, .str "&" t2, .str "-" t3, .str "^" t4] n, sl⟩
theorem sgD_mk {K : PySem.W.Frag} {aS : Addr} {dd : Option Addr} {t1 t2 t3 t4 : Tok} {n : Nat} {sl : Array (Option Value)} (a : PySem.W.nsIn K mainGlobals "SIGNS" = some (some (.ref aS))) (l : K.lookup aS = some ⟨.type "tuple", dd, .seq #[.str "|" t1, .str "&" t2, .str "-" t3, .str "^" t4] n, sl⟩) : SgD K aS := ⟨a, dd, t1, t2, t3, t4, n, sl, l⟩
structure RawE (K : PySem.W.Frag) (CE aS : Addr) : Prop where
  exp : ClsD K "Expression" CE
  n1 : PySem.W.findIn K (.ref CE) "_form" = some none
  n2 : PySem.W.findIn K (.ref CE) "_leaves" = some none
  n3 : PySem.W.findIn K (.ref CE) "_depth" = some none
  n4 : PySem.W.findIn K (.ref CE) "_fields" = some none
  n5 : PySem.W.findIn K (.ref CE) "_has_given" = some none
  sf : PySem.W.selfFirst K CE = true
  ini : MethD K CE "__init__" "Expression.__init__" sInitE
  m1 : MethD K CE "__or__" "Expression.__or__" sOrE
  m2 : MethD K CE "__and__" "Expression.__and__" sAndE
  m3 : MethD K CE "__sub__" "Expression.__sub__" sSubE
  m4 : MethD K CE "__xor__" "Expression.__xor__" sXorE
  p1 : PropD K CE "form" "Expression.form" sFormP
  p4 : PropD K CE "fields" "Expression.fields" sFieldsP
  p5 : PropD K CE "has_given" "Expression.has_given" sGivenP
  str : MethD K CE "__str__" "Expression.__str__" sStrE
  eq : MethD K CE "__eq__" "Expression.__eq__" sEqE
  g7 : GloD K "form_text" sText
  g8 : GloD K "side_text" sSide
  g1 : GloD K "is_name" sIsName
  g2 : GloD K "is_field" sIsField
  g3 : GloD K "form_size" sSize
  g4 : GloD K "is_triple" sTriple
  g5 : GloD K "check_leaves" sChkL
  g6 : GloD K "check_depth" sChkD
  g12 : GloD K "form_leaves" sLeavesF
  g13 : GloD K "form_fields" sFieldsF
  g14 : GloD K "check_expression" sChkE
  g15 : GloD K "with_sign" sSign
  sg : SgD K aS
  rd : StatD K CE (.type "type") "read" "Expression.read" sReadE
  rc : GloD K "read_counted" sReadC
  tw : GloD K "take_word" sTake
  jo : GloD K "joined" sJoined
  c1 : ∃ t, PySem.W.nsIn K mainGlobals "LONGEST_NAME" = some (some (.int 8 t))
  c2 : ∃ t, PySem.W.nsIn K mainGlobals "GIVEN" = some (some (.str tGiven t))
  c3 : ∃ t, PySem.W.nsIn K mainGlobals "NONE" = some (some (.str tNone t))
  c4 : ∃ t, PySem.W.nsIn K mainGlobals "MOST_LEAVES" = some (some (.int 200 t))
  c5 : ∃ t, PySem.W.nsIn K mainGlobals "MOST_DEPTH" = some (some (.int 20 t))
/-- what follows of it -/
structure ExE (P : Program) (w : World) (K : PySem.W.Frag) (mg : Str → Option Value) (base : Heap) (CE aS : Addr) : Prop where
  G : Gf K mg aS
  M : ExpC K mg CE
  nm : ∃ f, Has P w K mg base CX0 1 "is_name" f ["value"] spIsName
  fld : ∃ f, Has P w K mg base CX0 2 "is_field" f ["value"] spIsField
  make : ∃ fI, Mk K CE fI ∧ FnR P w K mg base CX0 11 fI (spInitE CE)
  pS : Pp P w K mg base CE "fields" "_fields"
  pG : Pp P w K mg base CE "has_given" "_has_given"
  str : ∃ g, OwnM K CE "__str__" g ∧ FnR P w K mg base CX0 19 g (spStrE CE)
  eq : ∃ g, OwnM K CE "__eq__" g ∧ FnR P w K mg base CX0 3 g (spEqE K CE)
  rc : ∃ f, TkX.HasT P w K mg base 3 "read_counted" f ["text"] spReadC
  cl : ∃ f, Has P w K mg base CX0 1 "check_leaves" f ["leaves"] (spChk 200)
  ce : ∃ f, Has P w K mg base CX0 1 "check_expression" f ["value"] (spChkE CE)
  pF : Pp P w K mg base CE "form" "_form"
  read : ∃ p g fd, SMet K CE (.type "type") "read" p g ∧ TkX.FnT P w K mg base 13 g fd ["text"] (spReadE CE) ∧ L2.Binds K fd ["text"] []
  orE : ∃ g, OwnM K CE sgO g ∧ FnR P w K mg base CX0 14 g (spOp CE "|")
  andE : ∃ g, OwnM K CE sgA g ∧ FnR P w K mg base CX0 14 g (spOp CE "&")
  subE : ∃ g, OwnM K CE sgS g ∧ FnR P w K mg base CX0 14 g (spOp CE "-")
  xorE : ∃ g, OwnM K CE sgX g ∧ FnR P w K mg base CX0 14 g (spOp CE "^")
section
variable {w : World} {P : Program} {base : Heap} {mg : Str → Option Value} {K : PySem.W.Frag} {CE C aS : Addr} {h : Heap}
theorem has_of {k : Nat} {x : Str} {st : Stmt} {ps : List Str} {sp : Sp} (d : GloD K x st) (X : K.In h) (G : h.Ns mainGlobals mg) (B : ∀ f fd, Fun K x x st f fd → L2.Binds K fd ps []) (ok : ∀ f fd, mg x = some (.ref f) → Fun K x x st f fd → FnOk P w K mg base CX0 k f fd ps sp) : ∃ f, Has P w K mg base CX0 k x f ps sp := by
  obtain ⟨f, a, d⟩ := d
  obtain ⟨fd, F⟩ := d.fun_
  have m := PySem.W.mg_of X G a
  exact ⟨f, m, F.kp, fd, ok f fd m F, B f fd F⟩
theorem pp_of {D : Addr} {x y qual : Str} {st : Stmt} (c : Cls K D) (d : PropD K D x qual st) (B : ∀ f fd, Fun K x qual st f fd → L2.Binds K fd ["self"] []) (ok : ∀ f fd, Fun K x qual st f fd → FnOk P w K mg base CX0 1 f fd ["self"] (getSp D y)) : Pp P w K mg base D x y := by
  obtain ⟨p, g, pr, d⟩ := d
  obtain ⟨fd, F⟩ := d.fun_
  exact ⟨c, p, g, fd, pr, ok g fd F, B g fd F⟩
theorem own_of {D : Addr} {x qual : Str} {st : Stmt} {k : Nat} {ps : List Str} {sp : Sp} (d : MethD K D x qual st) (B : ∀ f fd, Fun K x qual st f fd → L2.Binds K fd ps []) (ok : ∀ f fd, Fun K x qual st f fd → FnOk P w K mg base CX0 k f fd ps sp) : ∃ g, OwnM K D x g ∧ FnR P w K mg base CX0 k g sp := by
  obtain ⟨f, a, i, d⟩ := d
  obtain ⟨fd, F⟩ := d.fun_
  exact ⟨f, ⟨a, i⟩, raw_2 (B f fd F) (ok f fd F)⟩
theorem exe_of (T : Free mg) (R : RawE K CE aS) (X : K.In h) (G : h.Ns mainGlobals mg) : ExE P w K mg base CE aS := by
  obtain ⟨a, dd, t1, t2, t3, t4, n, sl, l⟩ := R.sg
  obtain ⟨u2, e2⟩ := R.c2
  obtain ⟨u3, e3⟩ := R.c3
  obtain ⟨u4, e4⟩ := R.c4
  obtain ⟨u5, e5⟩ := R.c5
  have GF : Gf K mg aS := ⟨T, PySem.W.mg_of X G a, fun H => .inr ⟨_, _, _, l, rfl, rfl, (by show 4 ≤ sizeLine; decide), .cons ⟨_, rfl⟩ (.cons ⟨_, rfl⟩ (.cons ⟨_, rfl⟩ (.cons ⟨_, rfl⟩ .nil)))⟩, ⟨u2, PySem.W.mg_of X G e2⟩, ⟨u3, PySem.W.mg_of X G e3⟩, ⟨u4, PySem.W.mg_of X G e4⟩, ⟨u5, PySem.W.mg_of X G e5⟩⟩
  have M : ExpC K mg CE := ⟨PySem.W.mg_of X G R.exp.g, R.exp.cl, R.n1, R.n2, R.n3, R.n4, R.n5⟩
  obtain ⟨tL, lL⟩ := R.c1
  obtain ⟨f1, h1⟩ := has_of (P := P) (w := w) (base := base) (k := 1) (ps := ["value"]) (sp := spIsName) R.g1 X G (fun f fd F => F.binds (ps := ["value"]) fun _ _ _ _ _ _ us hl => match us, hl with | [_], _ => rfl) fun f fd m F => ok_isname F T ⟨tL, PySem.W.mg_of X G lL⟩
  obtain ⟨f2, h2⟩ := has_of (P := P) (w := w) (base := base) (k := 2) (ps := ["value"]) (sp := spIsField) R.g2 X G (fun f fd F => F.binds (ps := ["value"]) fun _ _ _ _ _ _ us hl => match us, hl with | [_], _ => rfl) fun f fd m F => ok_isfield F GF h1
  obtain ⟨f4, h4⟩ := has_of (P := P) (w := w) (base := base) (k := 1) (ps := ["value"]) (sp := spTriple) R.g4 X G (fun f fd F => F.binds (ps := ["value"]) fun _ _ _ _ _ _ us hl => match us, hl with | [_], _ => rfl) fun f fd m F => ok_triple F GF
  obtain ⟨f3, h3⟩ := has_of (P := P) (w := w) (base := base) (k := 2) (ps := ["value"]) (sp := spSize) R.g3 X G (fun f fd F => F.binds (ps := ["value"]) fun _ _ _ _ _ _ us hl => match us, hl with | [_], _ => rfl) fun f fd m F => ok_size F T h1 h4
  obtain ⟨f5, h5⟩ := has_of (P := P) (w := w) (base := base) (k := 1) (ps := ["leaves"]) (sp := spChk 200) R.g5 X G (fun f fd F => F.binds (ps := ["leaves"]) fun _ _ _ _ _ _ us hl => match us, hl with | [_], _ => rfl) fun f fd m F => ok_chkL F GF
  obtain ⟨f6, h6⟩ := has_of (P := P) (w := w) (base := base) (k := 1) (ps := ["depth"]) (sp := spChk 20) R.g6 X G (fun f fd F => F.binds (ps := ["depth"]) fun _ _ _ _ _ _ us hl => match us, hl with | [_], _ => rfl) fun f fd m F => ok_chkD F GF
  obtain ⟨f12, h12⟩ := has_of (P := P) (w := w) (base := base) (k := 9) (ps := ["form"]) (sp := spLeaves 9) R.g12 X G (fun f fd F => F.binds (ps := ["form"]) fun _ _ _ _ _ _ us hl => match us, hl with | [_], _ => rfl) fun f fd m F => ok_leavesF F T m 8
  obtain ⟨f13, h13⟩ := has_of (P := P) (w := w) (base := base) (k := 10) (ps := ["form"]) (sp := spFields 9) R.g13 X G (fun f fd F => F.binds (ps := ["form"]) fun _ _ _ _ _ _ us hl => match us, hl with | [_], _ => rfl) fun f fd m F => ok_fieldsF (n := 6) F T h12 h2
  obtain ⟨f14, h14⟩ := has_of (P := P) (w := w) (base := base) (k := 1) (ps := ["value"]) (sp := spChkE CE) R.g14 X G (fun f fd F => F.binds (ps := ["value"]) fun _ _ _ _ _ _ us hl => match us, hl with | [_], _ => rfl) fun f fd m F => ok_chkE F T M R.exp.is
  obtain ⟨fI, aI, iI, dI⟩ := R.ini
  obtain ⟨ocI, odI, kVI, docI, pmI, anI, cdI, ctI, oslI, lI, cI⟩ := dI.ex
  have FI := fun_mk (st := sInitE) lI cI dI.kp
  have bI : L2.Binds K _ ["self", "form"] [] := FI.binds (ps := ["self", "form"]) fun _ _ _ _ _ _ us hl => match us, hl with | [_, _], _ => rfl
  have OI : FnOk P w K mg base CX0 11 fI _ ["self", "form"] (spInitE CE) := ok_initE FI GF M h3 h5 h6 h13 h12
  have MK : Mk K CE fI := ⟨R.exp.mk', aI, iI, R.exp.kC⟩
  have pF : Pp P w K mg base CE "form" "_form" := pp_of R.exp.cl R.p1 (fun f fd F => F.binds (ps := ["self"]) fun _ _ _ _ _ _ us hl => match us, hl with | [_], _ => rfl) fun f fd F => ok_formP F M
  obtain ⟨f15, h15⟩ := has_of (P := P) (w := w) (base := base) (k := 13) (ps := ["sign", "one", "other"]) (sp := spSign CE) R.g15 X G (fun f fd F => F.binds (ps := ["sign", "one", "other"]) fun _ _ _ _ _ _ us hl => match us, hl with | [_, _, _], _ => rfl) fun f fd m F => ok_sign F M MK (raw_2 bI OI) h14 pF
  obtain ⟨fJ, hJ⟩ := has_of (P := P) (w := w) (base := base) (k := 1) (ps := ["parts"]) (sp := spJoined) R.jo X G (fun f fd F => F.binds (ps := ["parts"]) fun _ _ _ _ _ _ us hl => match us, hl with | [_], _ => rfl) fun f fd m F => ok_joined F
  obtain ⟨fK, hK⟩ := has_of (P := P) (w := w) (base := base) (k := 2) (ps := ["opened", "word"]) (sp := spTakeX) R.tw X G (fun f fd F => F.binds (ps := ["opened", "word"]) fun _ _ _ _ _ _ us hl => match us, hl with | [_, _], _ => rfl) fun f fd m F => ok_takeX F GF hJ h1
  obtain ⟨f9, a9, d9⟩ := R.rc
  obtain ⟨fd9, F9⟩ := d9.fun_
  have b9 : L2.Binds K fd9 ["text"] [] := F9.binds (ps := ["text"]) fun _ _ _ _ _ _ us hl => match us, hl with | [_], _ => rfl
  have h9 : TkX.HasT P w K mg base 3 "read_counted" f9 ["text"] spReadC := ⟨PySem.W.mg_of X G a9, F9.kp, fd9, ok_readC F9 T hK hJ, b9⟩
  obtain ⟨pR, gR, mR, dR⟩ := R.rd
  obtain ⟨ocR, odR, kVR, docR, pmR, anR, cdR, ctR, oslR, lR, cR⟩ := dR.ex
  have FR := fun_mk (st := sReadE) lR cR dR.kp
  have bR : L2.Binds K _ ["text"] [] := FR.binds (ps := ["text"]) fun _ _ _ _ _ _ us hl => match us, hl with | [_], _ => rfl
  obtain ⟨f8, a8, d8⟩ := R.g8
  obtain ⟨fd8, F8⟩ := d8.fun_
  have mg8 := PySem.W.mg_of X G a8
  obtain ⟨f7, h7⟩ := has_of (P := P) (w := w) (base := base) (k := 18) (ps := ["form"]) (sp := spTextF 9) R.g7 X G (fun f fd F => F.binds (ps := ["form"]) fun _ _ _ _ _ _ us hl => match us, hl with | [_], _ => rfl) fun f fd m F => (ok_texts F F8 T m mg8 8).1
  exact {
    G := GF
    M := M
    nm := ⟨f1, h1⟩
    fld := ⟨f2, h2⟩
    make := ⟨fI, MK, raw_2 bI OI⟩
    pG := pp_of R.exp.cl R.p5 (fun f fd F => F.binds (ps := ["self"]) fun _ _ _ _ _ _ us hl => match us, hl with | [_], _ => rfl) fun f fd F => ok_givenP F M
    str := own_of R.str (fun f fd F => F.binds (ps := ["self"]) fun _ _ _ _ _ _ us hl => match us, hl with | [_], _ => rfl) fun f fd F => ok_strE F T M h7
    eq := own_of R.eq (fun f fd F => F.binds (ps := ["self", "other"]) fun _ _ _ _ _ _ us hl => match us, hl with | [_, _], _ => rfl) fun f fd F => ok_eqE F T M R.exp.is pF
    rc := ⟨f9, h9⟩
    cl := ⟨f5, h5⟩
    ce := ⟨f14, h14⟩
    pF := pF
    read := ⟨pR, gR, _, mR, ok_readE FR M MK (raw_2 bI OI) h9 h5, bR⟩
    pS := pp_of R.exp.cl R.p4 (fun f fd F => F.binds (ps := ["self"]) fun _ _ _ _ _ _ us hl => match us, hl with | [_], _ => rfl) fun f fd F => ok_fieldsP F M
    orE := by rw [u_orM]; exact own_of R.m1 (fun f fd F => F.binds (ps := ["self", "other"]) fun _ _ _ _ _ _ us hl => match us, hl with | [_, _], _ => rfl) fun f fd F => ok_orE F h15
    andE := by rw [u_andM]; exact own_of R.m2 (fun f fd F => F.binds (ps := ["self", "other"]) fun _ _ _ _ _ _ us hl => match us, hl with | [_, _], _ => rfl) fun f fd F => ok_andE F h15
    subE := by rw [u_subM]; exact own_of R.m3 (fun f fd F => F.binds (ps := ["self", "other"]) fun _ _ _ _ _ _ us hl => match us, hl with | [_, _], _ => rfl) fun f fd F => ok_subE F h15
    xorE := by rw [u_xorM]; exact own_of R.m4 (fun f fd F => F.binds (ps := ["self", "other"]) fun _ _ _ _ _ _ us hl => match us, hl with | [_, _], _ => rfl) fun f fd F => ok_xorE F h15 }
end
end K1

namespace K1
open PySem PySem.Spec
open PyProof.Rows L2 L2H EnT StX SmX TxS DuX XdI Tr3 CnB ClX
/-! ### facts, and what the law's asks catch -/
structure RawF (K : PySem.W.Frag) (CE D : Addr) : Prop where
  fac : ClsD K "Fact" D
  n6 : PySem.W.findIn K (.ref D) "_left" = some none
  n7 : PySem.W.findIn K (.ref D) "_right" = some none
  ini : MethD K D "__init__" "Fact.__init__" sInitF
  str : MethD K D "__str__" "Fact.__str__" sStrF
  rep : MethD K D "__repr__" "Fact.__repr__" sReprF
  eq : MethD K D "__eq__" "Fact.__eq__" sEqF
  p6 : PropD K D "left" "Fact.left" sLeftP
  p7 : PropD K D "right" "Fact.right" sRightP
  p8 : PropD K D "form" "Fact.form" sFormF
  p9 : PropD K D "fields" "Fact.fields" sFieldsFa
  p0 : PropD K D "has_given" "Fact.has_given" sGivenF
  rd : StatD K D (.type "type") "read" "Fact.read" sReadF
  kp : MethK K D "is_kept" "Fact.is_kept" sKept "given" .non
  wi : MethD K CE "within" "Expression.within" sWithin
  fm : PySem.W.findIn K (.ref CE) "__format__" = some (some (.builtin "object.__format__"))
  f2 : GloD K "fields_of_two" s_fields_of_two
structure RawW (K : PySem.W.Frag) (C CM CS CU S1 S2 S3 : Addr) : Prop where
  s1 : PySem.W.nsIn K mainGlobals "SetError" = some (some (.ref S1))
  s2 : PySem.W.nsIn K mainGlobals "StateError" = some (some (.ref S2))
  s3 : PySem.W.nsIn K mainGlobals "LimitError" = some (some (.ref S3))
  eS : ErrD K "InvalidSets" "index" "InvalidSets.__init__" s_InvalidSets___init__ CS S1 S2 S3
  eU : ErrD K "UnknownField" "value" "UnknownField.__init__" s_UnknownField___init__ CU S1 S2 S3
  q11 : PySem.W.kitOne K (.ref CS) (.ref CS) = some true
  q12 : PySem.W.kitOne K (.ref CS) (.ref CM) = some false
  q13 : PySem.W.kitOne K (.ref CS) (.ref CU) = some false
  q21 : PySem.W.kitOne K (.ref CM) (.ref CS) = some false
  q22 : PySem.W.kitOne K (.ref CM) (.ref CM) = some true
  q23 : PySem.W.kitOne K (.ref CM) (.ref CU) = some false
  q31 : PySem.W.kitOne K (.ref CU) (.ref CS) = some false
  q32 : PySem.W.kitOne K (.ref CU) (.ref CM) = some false
  q33 : PySem.W.kitOne K (.ref CU) (.ref CU) = some true
  r1 : GloD K "is_field_set" s_is_field_set
  r2 : GloD K "field_sets" s_field_sets
  r3 : GloD K "all_sets" s_all_sets
  r4 : GloD K "form_value" s_form_value
  le : MethD K C "__le__" "Members.__le__" sLeM
  l1 : GloD K "_law_words" sWords
  l2 : GloD K "_law_in" s_L_in
  l3 : GloD K "_law_kept" s_L_kept
  fV : PySem.W.nsIn K mainGlobals "ValueError" = some none
  fL : PySem.W.nsIn K mainGlobals "LookupError" = some none
  fA : PySem.W.nsIn K mainGlobals "ArithmeticError" = some none
theorem ErrD.errF {K : PySem.W.Frag} {x fld qual : Str} {st : Stmt} {D S1 S2 S3 : Addr} (e : ErrD K x fld qual st D S1 S2 S3) : ErrF K S1 S2 S3 D 0 := ⟨e.xc, e.k1, e.k2, e.k3, e.kV, e.kL, e.kA, e.kx, e.xf⟩
theorem u_leM : uLe = ("__le__" : Str) := by decide +kernel
section
variable {w : World} {P : Program} {base : Heap} {mg : Str → Option Value} {K : PySem.W.Frag} {CE C CN CM CS CU D S1 S2 S3 aS : Addr} {h : Heap}
theorem hasX_of {CX : CXT} {k : Nat} {x : Str} {st : Stmt} {ps : List Str} {sp : Sp} (d : GloD K x st) (X : K.In h) (G : h.Ns mainGlobals mg) (B : ∀ f fd, Fun K x x st f fd → L2.Binds K fd ps []) (ok : ∀ f fd, mg x = some (.ref f) → Fun K x x st f fd → FnOk P w K mg base CX k f fd ps sp) : ∃ f, Has P w K mg base CX k x f ps sp := by
  obtain ⟨f, a, d⟩ := d
  obtain ⟨fd, F⟩ := d.fun_
  have m := PySem.W.mg_of X G a
  exact ⟨f, m, F.kp, fd, ok f fd m F, B f fd F⟩
theorem prop_of {D : Addr} {x qual : Str} {st : Stmt} {k : Nat} {sp : Sp} (d : PropD K D x qual st) (B : ∀ f fd, Fun K x qual st f fd → L2.Binds K fd ["self"] []) (ok : ∀ f fd, Fun K x qual st f fd → FnOk P w K mg base CX0 k f fd ["self"] sp) : ∃ p g fd, PropOf K D x p g ∧ FnOk P w K mg base CX0 k g fd ["self"] sp ∧ L2.Binds K fd ["self"] [] := by
  obtain ⟨p, g, pr, d⟩ := d
  obtain ⟨fd, F⟩ := d.fun_
  exact ⟨p, g, fd, pr, ok g fd F, B g fd F⟩
theorem we_of (T : Free mg) (RM : RawM K C CN CM S1 S2 S3) (RE : RawE K CE aS) (RF : RawF K CE D) (R : RawW K C CM CS CU S1 S2 S3) (X : K.In h) (G : h.Ns mainGlobals mg) : We P w K mg base CE C CN CM CS CU D S1 S2 S3 (.type "type") ∧ ∃ g fd gg, Meth K CE "within" g ∧ FnOk P w K mg base CX0 4 g fd ["self", "other"] (spWithin CE D) ∧ KBn K fd ["self", "other"] 1 ["other"] gg fun vs zs => vs ++ zs := by
  obtain ⟨B, ⟨f0, MM⟩, _⟩ := mb_of (P := P) (w := w) (base := base) T RM X G
  have O := mo_of B RM
  have E := exe_of (P := P) (w := w) (base := base) T RE X G
  have MC := B.M
  have II := B.I
  obtain ⟨fM, iM1, iM2, dM⟩ := RM.eM.ini
  obtain ⟨fS, iS1, iS2, dS⟩ := R.eS.ini
  obtain ⟨fU, iU1, iU2, dU⟩ := R.eU.ini
  obtain ⟨fdM, FM⟩ := dM.fun_
  obtain ⟨fdS, FS⟩ := dS.fun_
  obtain ⟨fdU, FU⟩ := dU.fun_
  have EM : ErrC K mg "NotMembers" "value" CM fM := ⟨PySem.W.mg_of X G RM.eM.g, RM.eM.ox, RM.eM.no, iM1, iM2⟩
  have ES : ErrC K mg "InvalidSets" "index" CS fS := ⟨PySem.W.mg_of X G R.eS.g, R.eS.ox, R.eS.no, iS1, iS2⟩
  have EU : ErrC K mg "UnknownField" "value" CU fU := ⟨PySem.W.mg_of X G R.eU.g, R.eU.ox, R.eU.no, iU1, iU2⟩
  obtain ⟨f2, h2⟩ := E.fld
  obtain ⟨f3, h3⟩ := hasX_of (P := P) (w := w) (base := base) (CX := CX0) (k := 3) (ps := ["value"]) (sp := spFSet K C) R.r1 X G (fun f fd F => F.binds (ps := ["value"]) fun _ _ _ _ _ _ us hl => match us, hl with | [_], _ => rfl) fun f fd m F => ok_fset F T MC II h2
  obtain ⟨f4, h4⟩ := hasX_of (P := P) (w := w) (base := base) (CX := L2.CX P w) (k := 5) (ps := ["sets"]) (sp := spOr (spFSets K C CS) (spFSetsL CS)) R.r2 X G (fun f fd F => F.binds (ps := ["sets"]) fun _ _ _ _ _ _ us hl => match us, hl with | [_], _ => rfl) fun f fd m F => K1.FnOk.or (ok_fsets F T h3 ES FS) (ok_fsetsL F T h3 ES FS)
  obtain ⟨f5, h5⟩ := hasX_of (P := P) (w := w) (base := base) (CX := L2.CX P w) (k := 3) (ps := ["value"]) (sp := spChkG C CM) RM.chkM X G (fun f fd F => F.binds (ps := ["value"]) fun _ _ _ _ _ _ us hl => match us, hl with | [_], _ => rfl) fun f fd m F => K1.FnOk.or (ok_chkY F T MC II EM FM) (ok_chkN F T MC II EM FM)
  obtain ⟨f6, h6⟩ := hasX_of (P := P) (w := w) (base := base) (CX := L2.CX P w) (k := 7) (ps := ["fields", "sets", "given"]) (sp := spAll K C CS CM CU) R.r3 X G (fun f fd F => F.binds (ps := ["fields", "sets", "given"]) fun _ _ _ _ _ _ us hl => match us, hl with | [_, _, _], _ => rfl) fun f fd m F => ok_allsets F E.G h4 h5 MC MM.M MM.F EU FU
  obtain ⟨f7, h7⟩ := hasX_of (P := P) (w := w) (base := base) (CX := L2.CX P w) (k := 18) (ps := ["form", "table"]) (sp := spValue C 9) R.r4 X G (fun f fd F => F.binds (ps := ["form", "table"]) fun _ _ _ _ _ _ us hl => match us, hl with | [_, _], _ => rfl) fun f fd m F => ok_value F O m 8
  obtain ⟨f11, h11⟩ := hasX_of (P := P) (w := w) (base := base) (CX := CX0) (k := 3) (ps := ["one", "other"]) (sp := spF2 CE) RF.f2 X G (fun f fd F => F.binds (ps := ["one", "other"]) fun _ _ _ _ _ _ us hl => match us, hl with | [_, _], _ => rfl) fun f fd m F => ok_f2 F T E.pS
  obtain ⟨f12, h12⟩ := hasX_of (P := P) (w := w) (base := base) (CX := CX0) (k := 8) (ps := ["_law_shape", "_law_among", "_law_gotten"]) (sp := spIn 7) R.l2 X G (fun f fd F => F.binds (ps := ["_law_shape", "_law_among", "_law_gotten"]) fun _ _ _ _ _ _ us hl => match us, hl with | [_, _, _], _ => rfl) fun f fd m F => ok_in F T m 7
  -- facts
  have MF : FacC K mg D := ⟨PySem.W.mg_of X G RF.fac.g, RF.fac.cl, RF.n6, RF.n7⟩
  have fc : FmtC K CE := ⟨RF.fm, RE.exp.is.hm⟩
  obtain ⟨fI, MK, RI⟩ := E.make
  obtain ⟨fR, hR⟩ := E.rc
  obtain ⟨fCl, hCl⟩ := E.cl
  obtain ⟨fCe, hCe⟩ := E.ce
  obtain ⟨gS, mS, RS⟩ := E.str
  obtain ⟨gE, mE, FE⟩ := E.eq
  obtain ⟨fJ, aJ, iJ, dJ⟩ := RF.ini
  obtain ⟨fdJ, FJ⟩ := dJ.fun_
  have bJ : L2.Binds K fdJ ["self", "left", "right"] [] := FJ.binds (ps := ["self", "left", "right"]) fun _ _ _ _ _ _ us hl => match us, hl with | [_, _, _], _ => rfl
  have MJ : Mk K D fJ := ⟨RF.fac.mk', aJ, iJ, RF.fac.kC⟩
  have RJ : FnR P w K mg base CX0 2 fJ (spInitF CE D) := raw_2 bJ (ok_initF FJ MF hCe)
  obtain ⟨pR, gR, mR, dR⟩ := RF.rd
  obtain ⟨ocR, odR, kVR, docR, pmR, anR, cdR, ctR, oslR, lR, cR⟩ := dR.ex
  have FR := fun_mk (st := sReadF) lR cR dR.kp
  have bR : L2.Binds K _ ["text"] [] := FR.binds (ps := ["text"]) fun _ _ _ _ _ _ us hl => match us, hl with | [_], _ => rfl
  have pLe : Pp P w K mg base D "left" "_left" := pp_of RF.fac.cl RF.p6 (fun f fd F => F.binds (ps := ["self"]) fun _ _ _ _ _ _ us hl => match us, hl with | [_], _ => rfl) fun f fd F => ok_leftP F MF
  have pRi : Pp P w K mg base D "right" "_right" := pp_of RF.fac.cl RF.p7 (fun f fd F => F.binds (ps := ["self"]) fun _ _ _ _ _ _ us hl => match us, hl with | [_], _ => rfl) fun f fd F => ok_rightP F MF
  have pFi : ∃ p g fd, PropOf K D "fields" p g ∧ FnOk P w K mg base CX0 4 g fd ["self"] (spFieldsFa CE D) ∧ L2.Binds K fd ["self"] [] := prop_of RF.p9 (fun f fd F => F.binds (ps := ["self"]) fun _ _ _ _ _ _ us hl => match us, hl with | [_], _ => rfl) fun f fd F => ok_fieldsFa F MF h11
  obtain ⟨fLe, aLe, iLe, dLe⟩ := R.le
  obtain ⟨fdLe, FLe⟩ := dLe.fun_
  have bLe : L2.Binds K fdLe ["self", "other"] [] := FLe.binds (ps := ["self", "other"]) fun _ _ _ _ _ _ us hl => match us, hl with | [_, _], _ => rfl
  have mLe : OwnM K C uLe fLe := ⟨by rw [u_leM]; exact aLe, iLe⟩
  have RLe : FnR P w K mg base (L2.CX P w) 5 fLe (spCmpM C inB) := raw_2 bLe (ok_leM FLe B)
  obtain ⟨gK, fdK, mK, FK⟩ := RF.kp
  obtain ⟨gW, aW, iW, dW⟩ := RF.wi
  obtain ⟨ocW, odW, kVW, docW, pmW, anW, cdW, ctW, oslW, lW, cW⟩ := dW.ex
  have FW := fun_mk (st := sWithin) lW cW dW.kp
  refine ⟨⟨{
    T := T
    M := E.M
    I := RE.exp.is
    crD := RF.fac.cr
    mkE := ⟨fI, MK, RI⟩
    read := ⟨pR, gR, _, _, mR, ok_readF FR T E.M MK RI MF MJ RJ hR hCl, bR, ⟨fun s us ws X hu hw => match us, ws, hu, hw with | [], [_], _, _ => .of_eq rfl, fun _ r => r⟩⟩
    pS := E.pS
    strE := ⟨gS, mS, RS⟩
    eqE := ⟨gE, mE, FE⟩
    nf := RE.exp.nf
    neE := RE.exp.ne
    F := MF
    J := RF.fac.is
    nfF := RF.fac.nf
    neD := RF.fac.ne
    mkF := ⟨fJ, MJ, RJ⟩
    strF := own_of RF.str (fun f fd F => F.binds (ps := ["self"]) fun _ _ _ _ _ _ us hl => match us, hl with | [_], _ => rfl) fun f fd F => ok_strF F MF fc mS RS
    repF := own_of RF.rep (fun f fd F => F.binds (ps := ["self"]) fun _ _ _ _ _ _ us hl => match us, hl with | [_], _ => rfl) fun f fd F => ok_reprF F MF fc mS RS
    eqF := own_of RF.eq (fun f fd F => F.binds (ps := ["self", "other"]) fun _ _ _ _ _ _ us hl => match us, hl with | [_, _], _ => rfl) fun f fd F => ok_eqF F T E.M RE.exp.is MF RF.fac.is RE.exp.nf mE FE pLe pRi
    pLe := pLe
    pRi := pRi
    pFo := prop_of RF.p8 (fun f fd F => F.binds (ps := ["self"]) fun _ _ _ _ _ _ us hl => match us, hl with | [_], _ => rfl) fun f fd F => ok_formF F MF E.pF
    pFi := pFi
    pGi := prop_of RF.p0 (fun f fd F => F.binds (ps := ["self"]) fun _ _ _ _ _ _ us hl => match us, hl with | [_], _ => rfl) fun f fd F => ok_givenF F MF E.pG
    kept := ⟨gK, fdK, mK, FK, ok_kept FK MF E.pF pFi B II.nfC mLe RLe h7 h6⟩
    B := B
    words := hasX_of (P := P) (w := w) (base := base) (CX := CX0) R.l1 X G (fun f fd F => F.binds (ps := ["_law_shape"]) fun _ _ _ _ _ _ us hl => match us, hl with | [_], _ => rfl) fun f fd m F => ok_words F T m 6
    keptL := hasX_of (P := P) (w := w) (base := base) (CX := CX0) R.l3 X G (fun f fd F => F.binds (ps := ["_law_low", "_law_high", "_law_known", "_law_people", "_law_some"]) fun _ _ _ _ _ _ us hl => match us, hl with | [_, _, _, _, _], _ => rfl) fun f fd m F => ok_keptL F T h12 },
    ⟨PySem.W.mg_of X G R.s1, PySem.W.mg_of X G R.s2, PySem.W.mg_of X G R.s3, PySem.W.mg_none_of X G R.fV, PySem.W.mg_none_of X G R.fL, PySem.W.mg_none_of X G R.fA,
      PySem.W.mg_of X G R.eS.g, R.eS.errF, R.eS.no, R.q11, R.q12, R.q13, PySem.W.mg_of X G RM.eM.g, RM.eM.errF, RM.eM.no, R.q21, R.q22, R.q23,
      PySem.W.mg_of X G R.eU.g, R.eU.errF, R.eU.no, R.q31, R.q32, R.q33⟩⟩, gW, _, _, ⟨aW, iW, dW.kp⟩, ok_within FW MF MJ RJ, ⟨fun s us ws X hu hw => match us, ws, hu, hw with | [_], [_], _, _ => .of_eq rfl, fun r1 r2 => r1.append r2⟩⟩
end
end K1

namespace K1
open PySem PySem.Spec
open PyProof.Rows L2 L2H EnT StX SmX TxS DuX XdI Tr3 CnB ClX
/-! ### the law's own defs, and the end -/
abbrev frees : List Str := ["len", "int", "abs", "range", "list", "str", "set", "sorted", "tuple", "isinstance", "enumerate", "repr", "bool", "any", "all", "max", "min"]
structure RawL (K : PySem.W.Frag) : Prop where
  nm : GloD K "_law_names" sNames
  dr : GloD K "_law_draw" sDraw
  fo : GloD K "_law_form" sForm
  st : GloD K "_law_sets" s_L_sets
  ce : GloD K "_law_cell" sCell
  po : GloD K "_law_pool" sPool
  ca : GloD K "_law_caught" sCaught
  dict : PySem.W.nsIn K mainGlobals "dict" = some none
  free : ∀ x ∈ frees, PySem.W.nsIn K mainGlobals x = some none
theorem free_of {h : Heap} {K : PySem.W.Frag} {mg : Str → Option Value} (R : RawL K) (X : K.In h) (G : h.Ns mainGlobals mg) : Free mg := by
  have z : ∀ x ∈ frees, mg x = none := fun x hx => PySem.W.mg_none_of X G (R.free x hx)
  exact ⟨z _ (by simp), z _ (by simp), z _ (by simp), z _ (by simp), z _ (by simp), z _ (by simp), z _ (by simp), z _ (by simp), z _ (by simp), z _ (by simp), z _ (by simp), z _ (by simp), z _ (by simp), z _ (by simp), z _ (by simp), z _ (by simp), z _ (by simp)⟩
theorem law_end {l : PySem.W.OpenLaw} {q : Program} {w : World} {mg : Str → Option Value} {fa : Addr} {h : Heap} {K : PySem.W.Frag} {CE C CN CM CS CU D S1 S2 S3 : Addr} {aS fO cO PO f1 c1 fR cR fL cL : Addr} (RM : RawM K C CN CM S1 S2 S3) (RE : RawE K CE aS) (RF : RawF K CE D) (RW : RawW K C CM CS CU S1 S2 S3) (RL : RawL K) (DO : CodeD K "_law_errors_right" s_L_errors_right fO cO PO) (D1 : CodD K "_law_one_right" s_L_one_right f1 c1)
    (DR : CodD K "_law_right" sRight fR cR) (DL : CodD K "law" sLaw fL cL)
    (X : K.In h) (G : h.Ns mainGlobals mg) (hmg : mg "law" = some (.ref fa)) (TB : EnG.TabsAt q mg h) (hrec : ((recsOf q).any fun e => e.name == ("_law_errors_right" : Str)) = true) : EnG.LawG l w 27 63 mg fa h := by
  have e := hmg.symm.trans (PySem.W.mg_of X G DL.g)
  cases e
  have mgO := PySem.W.mg_of X G DO.g
  obtain ⟨oc, od, kV, doc, pm, an, ct, osl, lk, hcd⟩ := DO.fn.ex
  obtain ⟨ec, dc, vc, slc, lc, h11⟩ := DO.cd
  obtain ⟨tabP, codP⟩ := EnG.tab_of X TB hrec mgO lk rfl rfl lc h11
  refine ⟨K, [(cO, PO)], spLaw K PO, X, fun p hp => ?_, fun p hp => ?_, fun p hp => ?_, fun H a ns hl hH hS => ?_, fun base hb hG hT => ?_⟩
  · rw [List.mem_singleton.mp
        hp]
    exact tabP
  · rw [List.mem_singleton.mp
        hp]
    exact DO.no
  · rw [List.mem_singleton.mp
        hp]
    exact codP
  · refine ⟨a, ns, rfl, hS, by omega, fun p hp => ?_, fun _ => rfl⟩
    rw [List.mem_singleton.mp hp]
    exact LamX.TabS.nil (hH (cO, PO) List.mem_cons_self)
  · have T : Free mg := free_of RL X G
    obtain ⟨W, WI⟩ := we_of (P := l.prog) (w := w) (base := base) T RM RE RF RW X G
    have tb := hT (cO, PO) List.mem_cons_self
    obtain ⟨fC, aC, dC⟩ := RL.ca
    obtain ⟨fdC, FC⟩ := dC.fun_
    have AK : Asks K mg base cO PO := ⟨⟨fC, fdC, PySem.W.mg_of X G aC, FC⟩, tb⟩
    obtain ⟨fD, hD⟩ := hasX_of (P := l.prog) (w := w) (base := base) (CX := CX0) (k := 1) (ps := ["_law_pool_here", "_law_many"]) (sp := spDraw) RL.dr X G (fun f fd F => F.binds (ps := ["_law_pool_here", "_law_many"]) fun _ _ _ _ _ _ us hl => match us, hl with | [_, _], _ => rfl) fun f fd m F => ok_draw F T
    obtain ⟨gD, aD, dD⟩ := RL.dr
    obtain ⟨fdD, FD⟩ := dD.fun_
    have R : Rk l.prog w K mg base CE C D PO := {
      one := ⟨f1, PySem.W.mg_of X G D1.g, D1.kp, ok_oneF D1.fn W.k⟩
      err := ⟨fO, mgO, DO.kp, ok_errR W AK hD DO.fn⟩
      hn := hasX_of (P := l.prog) (w := w) (base := base) (CX := CX0) (k := 2) (ps := ["_law_pool_here", "_law_many"]) (sp := spNames) RL.nm X G (fun f fd F => F.binds (ps := ["_law_pool_here", "_law_many"]) fun _ _ _ _ _ _ us hl => match us, hl with | [_, _], _ => rfl) fun f fd m F => ok_names F T FD (PySem.W.mg_of X G aD)
      hd := ⟨fD, hD⟩
      hs := hasX_of (P := l.prog) (w := w) (base := base) (CX := CX0) (k := 2) (ps := ["_law_pool_here", "_law_fields", "_law_people"]) (sp := spSetsL) RL.st X G (fun f fd F => F.binds (ps := ["_law_pool_here", "_law_fields", "_law_people"]) fun _ _ _ _ _ _ us hl => match us, hl with | [_, _, _], _ => rfl) fun f fd m F => ok_sets F T (PySem.W.mg_none_of X G RL.dict) hD
      hf := hasX_of (P := l.prog) (w := w) (base := base) (CX := CX0) (k := 5) (ps := ["_law_pool_here", "_law_words_here", "_law_deep"]) (sp := spFormL 3) RL.fo X G (fun f fd F => F.binds (ps := ["_law_pool_here", "_law_words_here", "_law_deep"]) fun _ _ _ _ _ _ us hl => match us, hl with | [_, _, _], _ => rfl) fun f fd m F => ok_form F T m hD 3
      wi := WI }
    have GR : FnG l.prog w K mg base CX0 26 fR (spRight PO) := ok_right W.k R DR.fn
    obtain ⟨fE, aE, dE⟩ := RL.ce
    obtain ⟨fdE, FE⟩ := dE.fun_
    have bE : L2.Binds K fdE ["_law_cells", "_law_k"] [] := FE.binds (ps := ["_law_cells", "_law_k"]) fun _ _ _ _ _ _ us hl => match us, hl with | [_, _], _ => rfl
    obtain ⟨fQ, aQ, dQ⟩ := RL.po
    obtain ⟨fdQ, FQ⟩ := dQ.fun_
    have bQ : L2.Binds K fdQ ["_law_cell_here"] [] := FQ.binds (ps := ["_law_cell_here"]) fun _ _ _ _ _ _ us hl => match us, hl with | [_], _ => rfl
    exact ok_law T ⟨⟨fE, PySem.W.mg_of X G aE, FE.kp, fdE, ok_cell FE T, bE⟩, ⟨fQ, PySem.W.mg_of X G aQ, FQ.kp, fdQ, ok_pool FQ T, bQ⟩, ⟨fR, PySem.W.mg_of X G DR.g, DR.kp, GR⟩⟩ DL.fn
end K1
theorem K1.ex1 {α : Sort _} {p : α → Prop} {a : α} (h : p a) : ∃ x, p x := ⟨a, h⟩
set_option maxHeartbeats 0
section
open PySem PySem.W PySem.Calls PyProof.Rows HeadRun
theorem K1.gate5 {p q : Program} {loose mods : List PySem.Str} {Xt : Shared → Bool} {h0 : Heap} {o : Option SharedT}
    (h1 : o.map (fun s => (looksF p h0 s.abs, (seenQ q loose mods Xt s.abs).2.1, (seenQ q loose mods Xt s.abs).2.2.2.2.1, (seenQ q loose mods Xt s.abs).2.2.2.2.2.2.1, (seenQ q loose mods Xt s.abs).2.2.2.2.2.2.2.2)) = some (true, bltViewBooted, pinGoodD (drecsOf q), plainGoodD q loose, clsGoodW q loose))
    (h2 : o.map (fun s => (seenQ q loose mods Xt s.abs).1) = some (expectedOf q))
    (h3 : o.map (fun s => ((seenQ q loose mods Xt s.abs).2.2.1, (seenQ q loose mods Xt s.abs).2.2.2.1)) = some (true, true))
    (h4 : o.map (fun s => (seenQ q loose mods Xt s.abs).2.2.2.2.2.1) = some (plainGoodE q (looseW q loose)))
    (h5 : o.map (fun s => (seenQ q loose mods Xt s.abs).2.2.2.2.2.2.2.1) = some (wideGood q)) :
    o.map (fun s => (looksF p h0 s.abs, seenQ q loose mods Xt s.abs)) = some (true, openGood q loose) := by
  cases o with
  | none => cases h2
  | some s =>
    simp only [Option.map_some, Option.some.injEq, Prod.mk.injEq] at h1 h2 h3 h4 h5 ⊢
    obtain ⟨a1, a2, a3, a4, a5⟩ := h1
    obtain ⟨b1, b2⟩ := h3
    exact ⟨a1, Prod.ext h2 (Prod.ext a2 (Prod.ext b1 (Prod.ext b2 (Prod.ext a3 (Prod.ext h4 (Prod.ext a4 (Prod.ext h5 a5)))))))⟩
theorem K1.gate2 {p p' q q' : Program} {loose loose' mods mods' : List PySem.Str} {Xt Xt' : Shared → Bool} {M M' : Nat} {as : List Addr} {v : List (Option Obj)}
    (pre : ∀ (w : World) (os : OsState), (endF (stepQ (denQ tabQ) p' w) M' p' w os).map (fun s => (looksF p' (boot_heap w.params) s.abs, seenQ q' loose' mods' Xt' s.abs)) = some (true, openGood q' loose'))
    {w : World} {os : OsState}
    (h : (endF (stepQ (denQ tabQ) p w) M p w os).map (fun s => as.map (getT s)) = some v)
    (e1 : (endF (stepQ (denQ tabQ) p w) M p w os).map (fun s => (looksF p (boot_heap w.params) s.abs, seenQ q loose mods Xt s.abs)) = (endF (stepQ (denQ tabQ) p' w) M' p' w os).map (fun s => (looksF p' (boot_heap w.params) s.abs, seenQ q' loose' mods' Xt' s.abs)))
    (e2 : (some (true, openGood q' loose') : Option (Bool × _)) = some (true, openGood q loose)) :
    (endF (stepQ (denQ tabQ) p w) M p w os).map (fun s => (looksF p (boot_heap w.params) s.abs, seenQ q loose mods Xt s.abs, as.map (getT s))) = some (true, openGood q loose, v) := by
  have z := e1.trans ((pre w os).trans e2)
  cases ho : endF (stepQ (denQ tabQ) p w) M p w os with
  | none => rw [ho] at z; cases z
  | some s =>
    rw [ho] at z h
    simp only [Option.map_some, Option.some.injEq, Prod.mk.injEq] at z h ⊢
    exact ⟨z.1, z.2, h⟩
end
namespace K1.Hd
open PySem PySem.W PySem.Calls PyProof.Rows HeadRun
abbrev RR : OpenRow := OpenLaw.row PySem.Challenge.rw_onemember_k07_facts
def qW : Program := view RR.prog [0, 2, 3, 4, 5, 6, 7, 8, 9, 10, 11, 12, 13, 14, 15, 16, 17, 19, 20, 21, 23, 24, 25, 26, 27, 28, 29, 30, 31, 32, 33, 34, 35, 36, 37, 38, 40, 41, 42, 43, 45, 46, 47, 48, 49, 50, 51, 52, 54, 55, 56, 57, 58, 59, 60, 61, 62, 63, 64, 65, 66, 67]
def lW : List PySem.Str := [PySem.Str.ofString "Members", PySem.Str.ofString "Change", PySem.Str.ofString "Expression", PySem.Str.ofString "Fact"]
def xW : Shared → Bool := fun s => xlAt qW [] s && recOk RR.toRowW.records s
theorem r1 (w : World) (os : OsState) : (endF (stepQ (denQ tabQ) RR.prog w) 17362 RR.prog w os).map (fun s => (looksF RR.prog (boot_heap w.params) s.abs, (seenQ qW lW (importedModules RR.prog.main.body) xW s.abs).2.1, (seenQ qW lW (importedModules RR.prog.main.body) xW s.abs).2.2.2.2.1, (seenQ qW lW (importedModules RR.prog.main.body) xW s.abs).2.2.2.2.2.2.1, (seenQ qW lW (importedModules RR.prog.main.body) xW s.abs).2.2.2.2.2.2.2.2)) = some (true, bltViewBooted, pinGoodD (drecsOf qW), plainGoodD qW lW, clsGoodW qW lW) := by kernel_rfl
theorem r2 (w : World) (os : OsState) : (endF (stepQ (denQ tabQ) RR.prog w) 17362 RR.prog w os).map (fun s => (seenQ qW lW (importedModules RR.prog.main.body) xW s.abs).1) = some (expectedOf qW) := by kernel_rfl
theorem r3 (w : World) (os : OsState) : (endF (stepQ (denQ tabQ) RR.prog w) 17362 RR.prog w os).map (fun s => ((seenQ qW lW (importedModules RR.prog.main.body) xW s.abs).2.2.1, (seenQ qW lW (importedModules RR.prog.main.body) xW s.abs).2.2.2.1)) = some (true, true) := by kernel_rfl
theorem r4 (w : World) (os : OsState) : (endF (stepQ (denQ tabQ) RR.prog w) 17362 RR.prog w os).map (fun s => (seenQ qW lW (importedModules RR.prog.main.body) xW s.abs).2.2.2.2.2.1) = some (plainGoodE qW (looseW qW lW)) := by kernel_rfl
theorem r5 (w : World) (os : OsState) : (endF (stepQ (denQ tabQ) RR.prog w) 17362 RR.prog w os).map (fun s => (seenQ qW lW (importedModules RR.prog.main.body) xW s.abs).2.2.2.2.2.2.2.1) = some (wideGood qW) := by kernel_rfl
theorem pre (w : World) (os : OsState) : (endF (stepQ (denQ tabQ) RR.prog w) 17362 RR.prog w os).map (fun s => (looksF RR.prog (boot_heap w.params) s.abs, (seenQ qW lW (importedModules RR.prog.main.body) xW s.abs))) = some (true, openGood qW lW) := K1.gate5 (r1 w os) (r2 w os) (r3 w os) (r4 w os) (r5 w os)
end K1.Hd
local macro_rules
  | `(tactic| kernel_rfl) => `(tactic| (with_reducible refine K1.gate2 K1.Hd.pre ?_ ?_ ?_) <;> kernel_rfl)

open PySem PySem.W PyProof.Rows
theorem PySem.Challenge.cw_onemember_k07_facts_holds : PySem.Challenge.rw_onemember_k07_facts.Holds := by
  w_on; o_law; k_headL
  (case hw => w_witness2)
  k_fill
  refine EnG.walk_G (l := PySem.Challenge.rw_onemember_k07_facts) (n := 63) (k := 27) rfl (by decide) rfl ⟨rfl, by decide, by decide⟩ ?F
  intro w mg fa h Y G hmg TB
  have KX := kIn_of Y
  refine' K1.law_end { mem := ?rm_mem, sf := ?rm_sf, ini := ?rm_ini, len := ?rm_len, has := ?rm_has, eq := ?rm_eq, m1 := ?rm_m1, m2 := ?rm_m2, m3 := ?rm_m3, m4 := ?rm_m4, prop := ?rm_prop, frm := ?rm_frm, eN := ?rm_eN, eM := ?rm_eM, isn := ?rm_isn, wrg := ?rm_wrg, chkM := ?rm_chkM, ln := ?rm_ln } { exp := ?re_exp, n1 := ?re_n1, n2 := ?re_n2, n3 := ?re_n3, n4 := ?re_n4, n5 := ?re_n5, sf := ?re_sf, ini := ?re_ini, m1 := ?re_m1, m2 := ?re_m2, m3 := ?re_m3, m4 := ?re_m4, p1 := ?re_p1, p4 := ?re_p4, p5 := ?re_p5, str := ?re_str, eq := ?re_eq, g7 := ?re_g7, g8 := ?re_g8, g1 := ?re_g1, g2 := ?re_g2, g3 := ?re_g3, g4 := ?re_g4, g5 := ?re_g5, g6 := ?re_g6, g12 := ?re_g12, g13 := ?re_g13, g14 := ?re_g14, g15 := ?re_g15, sg := ?re_sg, rd := ?re_rd, rc := ?re_rc, tw := ?re_tw, jo := ?re_jo, c1 := ?re_c1, c2 := ?re_c2, c3 := ?re_c3, c4 := ?re_c4, c5 := ?re_c5 } { fac := ?rf_fac, n6 := ?rf_n6, n7 := ?rf_n7, ini := ?rf_ini, str := ?rf_str, rep := ?rf_rep, eq := ?rf_eq, p6 := ?rf_p6, p7 := ?rf_p7, p8 := ?rf_p8, p9 := ?rf_p9, p0 := ?rf_p0, rd := ?rf_rd, kp := ?rf_kp, wi := ?rf_wi, fm := ?rf_fm, f2 := ?rf_f2 } { s1 := ?rw_s1, s2 := ?rw_s2, s3 := ?rw_s3, eS := ?rw_eS, eU := ?rw_eU, q11 := ?rw_q11, q12 := ?rw_q12, q13 := ?rw_q13, q21 := ?rw_q21, q22 := ?rw_q22, q23 := ?rw_q23, q31 := ?rw_q31, q32 := ?rw_q32, q33 := ?rw_q33, r1 := ?rw_r1, r2 := ?rw_r2, r3 := ?rw_r3, r4 := ?rw_r4, le := ?rw_le, l1 := ?rw_l1, l2 := ?rw_l2, l3 := ?rw_l3, fV := ?rw_fV, fL := ?rw_fL, fA := ?rw_fA } { nm := ?rl_nm, dr := ?rl_dr, fo := ?rl_fo, st := ?rl_st, ce := ?rl_ce, po := ?rl_po, ca := ?rl_ca, dict := ?rl_dict, free := ?rl_free } ?DO ?D1 ?DR ?DL KX G hmg TB ?hrec
  (case hrec => decide +kernel)
  case DO =>
    refine' K1.codeD_mk ?a ?l ?c ?k ?lc ?h ?no
    (case a => k_is)
    (case l => k_is)
    (case c => k_is)
    (case k => k_is)
    (case lc => k_is)
    (case h => exact rfl)
    (case no => exact rfl)
  case D1 =>
    refine' K1.codD_mk ?a ?l ?c ?k
    (case a => k_is)
    (case l => k_is)
    (case c => k_is)
    (case k => k_is)
  case DR =>
    refine' K1.codD_mk ?a ?l ?c ?k
    (case a => k_is)
    (case l => k_is)
    (case c => k_is)
    (case k => k_is)
  case DL =>
    refine' K1.codD_mk ?a ?l ?c ?k
    (case a => k_is)
    (case l => k_is)
    (case c => k_is)
    (case k => k_is)
  (case rw_s1 => k_is)
  (case rw_s2 => k_is)
  (case rw_s3 => k_is)
  case rm_mem =>
    refine' K1.memD_mk ?g ?pg ?hd ?po ?sa ?nN ?nT ?mk ?kC ?ha ?hn ?ht ?hm ?yes ?o1 ?o2 ?o3 ?o4 ?o5 ?o6 ?o7 ?f1 ?f2 ?f3 ?f4 ?f5 ?f6 ?f7 ?fC ?ne ?nb ?rd ?ga
    (case g => k_is)
    (case pg => k_is)
    (case hd => k_is)
    (case po => k_is)
    (case sa => k_is)
    (case nN => k_is)
    (case nT => k_is)
    (case mk => k_is)
    (case kC => k_is)
    (case ha => k_is)
    (case hn => k_is)
    (case ht => k_is)
    (case hm => k_is)
    (case yes => kit_is)
    (case o1 => kit_is)
    (case o2 => kit_is)
    (case o3 => kit_is)
    (case o4 => kit_is)
    (case o5 => kit_is)
    (case o6 => kit_is)
    (case o7 => kit_is)
    (case f1 => k_is)
    (case f2 => k_is)
    (case f3 => k_is)
    (case f4 => k_is)
    (case f5 => k_is)
    (case f6 => k_is)
    (case f7 => k_is)
    (case fC => k_is)
    (case ne => k_is)
    (case nb => k_is)
    (case rd => k_is)
    (case ga => k_is)
  (case rm_sf => k_is)
  case rm_ini =>
    refine' K1.methD_mk ?a ?i ?l ?c ?k
    (case a => k_is)
    (case i => k_is)
    (case l => k_is)
    (case c => k_is)
    (case k => k_is)
  case rm_len =>
    refine' K1.methD_mk ?a ?i ?l ?c ?k
    (case a => k_is)
    (case i => k_is)
    (case l => k_is)
    (case c => k_is)
    (case k => k_is)
  case rm_has =>
    refine' K1.methD_mk ?a ?i ?l ?c ?k
    (case a => k_is)
    (case i => k_is)
    (case l => k_is)
    (case c => k_is)
    (case k => k_is)
  case rm_eq =>
    refine' K1.methD_mk ?a ?i ?l ?c ?k
    (case a => k_is)
    (case i => k_is)
    (case l => k_is)
    (case c => k_is)
    (case k => k_is)
  case rm_m1 =>
    refine' K1.methD_mk ?a ?i ?l ?c ?k
    (case a => k_is)
    (case i => k_is)
    (case l => k_is)
    (case c => k_is)
    (case k => k_is)
  case rm_m2 =>
    refine' K1.methD_mk ?a ?i ?l ?c ?k
    (case a => k_is)
    (case i => k_is)
    (case l => k_is)
    (case c => k_is)
    (case k => k_is)
  case rm_m3 =>
    refine' K1.methD_mk ?a ?i ?l ?c ?k
    (case a => k_is)
    (case i => k_is)
    (case l => k_is)
    (case c => k_is)
    (case k => k_is)
  case rm_m4 =>
    refine' K1.methD_mk ?a ?i ?l ?c ?k
    (case a => k_is)
    (case i => k_is)
    (case l => k_is)
    (case c => k_is)
    (case k => k_is)
  case rm_prop =>
    refine' K1.propD_mk ?a ?g ?t ?r ?l ?c ?k
    (case a => k_is)
    (case g => k_is)
    (case t => k_is)
    (case r => k_is)
    (case l => k_is)
    (case c => k_is)
    (case k => k_is)
  case rm_frm =>
    refine' K1.statD_mk ?a ?r ?l ?c ?k
    (case a => k_is)
    (case r => k_is)
    (case l => k_is)
    (case c => k_is)
    (case k => k_is)
  case rm_eN =>
    refine' K1.errD_mk ?g ?lD ?sh ?sa ?exC ?tyC ?kC ?no ?a ?ty ?l ?c ?k ?hg ?hk ?hd ?ha ?hn ?ht ?hm ?k1 ?k2 ?k3 ?kV ?kL ?kA ?kx
    (case g => k_is)
    (case lD => k_is)
    (case sh => exact ⟨_, _, _, _, _, _, _, _, _, _, _, _, _, _, _, rfl, by decide⟩)
    (case sa => k_is)
    (case exC => k_is)
    (case tyC => k_is)
    (case kC => k_is)
    (case no => k_is)
    (case a => k_is)
    (case ty => k_is)
    (case l => k_is)
    (case c => k_is)
    (case k => k_is)
    (case hg => k_is)
    (case hk => k_is)
    (case hd => k_is)
    (case ha => k_is)
    (case hn => k_is)
    (case ht => k_is)
    (case hm => k_is)
    (case k1 => kit_is)
    (case k2 => kit_is)
    (case k3 => kit_is)
    (case kV => kit_is)
    (case kL => kit_is)
    (case kA => kit_is)
    (case kx => kts_exm)
  case rm_eM =>
    refine' K1.errD_mk ?g ?lD ?sh ?sa ?exC ?tyC ?kC ?no ?a ?ty ?l ?c ?k ?hg ?hk ?hd ?ha ?hn ?ht ?hm ?k1 ?k2 ?k3 ?kV ?kL ?kA ?kx
    (case g => k_is)
    (case lD => k_is)
    (case sh => exact ⟨_, _, _, _, _, _, _, _, _, _, _, _, _, _, _, rfl, by decide⟩)
    (case sa => k_is)
    (case exC => k_is)
    (case tyC => k_is)
    (case kC => k_is)
    (case no => k_is)
    (case a => k_is)
    (case ty => k_is)
    (case l => k_is)
    (case c => k_is)
    (case k => k_is)
    (case hg => k_is)
    (case hk => k_is)
    (case hd => k_is)
    (case ha => k_is)
    (case hn => k_is)
    (case ht => k_is)
    (case hm => k_is)
    (case k1 => kit_is)
    (case k2 => kit_is)
    (case k3 => kit_is)
    (case kV => kit_is)
    (case kL => kit_is)
    (case kA => kit_is)
    (case kx => kts_exm)
  case rm_isn =>
    refine' K1.gloD_mk ?a ?l ?c ?k
    (case a => k_is)
    (case l => k_is)
    (case c => k_is)
    (case k => k_is)
  case rm_wrg =>
    refine' K1.gloD_mk ?a ?l ?c ?k
    (case a => k_is)
    (case l => k_is)
    (case c => k_is)
    (case k => k_is)
  case rm_chkM =>
    refine' K1.gloD_mk ?a ?l ?c ?k
    (case a => k_is)
    (case l => k_is)
    (case c => k_is)
    (case k => k_is)
  (case rm_ln => refine' K1.ex1 ?a; (case a => k_is))
  case re_exp =>
    refine' K1.clsD_mk ?g ?hd ?pg ?sa ?po ?kC ?mk ?hm ?ht ?hn ?ha ?yes ?o1 ?o2 ?o3 ?o4 ?o5 ?o6 ?o7 ?f1 ?f2 ?f3 ?f4 ?f5 ?f6 ?f7 ?fC ?ne ?rd ?ga
    (case g => k_is)
    (case hd => k_is)
    (case pg => k_is)
    (case sa => k_is)
    (case po => k_is)
    (case kC => k_is)
    (case mk => k_is)
    (case hm => k_is)
    (case ht => k_is)
    (case hn => k_is)
    (case ha => k_is)
    (case yes => kit_is)
    (case o1 => kit_is)
    (case o2 => kit_is)
    (case o3 => kit_is)
    (case o4 => kit_is)
    (case o5 => kit_is)
    (case o6 => kit_is)
    (case o7 => kit_is)
    (case f1 => k_is)
    (case f2 => k_is)
    (case f3 => k_is)
    (case f4 => k_is)
    (case f5 => k_is)
    (case f6 => k_is)
    (case f7 => k_is)
    (case fC => k_is)
    (case ne => k_is)
    (case rd => k_is)
    (case ga => k_is)
  (case re_n1 => k_is)
  (case re_n2 => k_is)
  (case re_n3 => k_is)
  (case re_n4 => k_is)
  (case re_n5 => k_is)
  (case re_sf => k_is)
  case re_ini =>
    refine' K1.methD_mk ?a ?i ?l ?c ?k
    (case a => k_is)
    (case i => k_is)
    (case l => k_is)
    (case c => k_is)
    (case k => k_is)
  case re_m1 =>
    refine' K1.methD_mk ?a ?i ?l ?c ?k
    (case a => k_is)
    (case i => k_is)
    (case l => k_is)
    (case c => k_is)
    (case k => k_is)
  case re_m2 =>
    refine' K1.methD_mk ?a ?i ?l ?c ?k
    (case a => k_is)
    (case i => k_is)
    (case l => k_is)
    (case c => k_is)
    (case k => k_is)
  case re_m3 =>
    refine' K1.methD_mk ?a ?i ?l ?c ?k
    (case a => k_is)
    (case i => k_is)
    (case l => k_is)
    (case c => k_is)
    (case k => k_is)
  case re_m4 =>
    refine' K1.methD_mk ?a ?i ?l ?c ?k
    (case a => k_is)
    (case i => k_is)
    (case l => k_is)
    (case c => k_is)
    (case k => k_is)
  case re_p1 =>
    refine' K1.propD_mk ?a ?g ?t ?r ?l ?c ?k
    (case a => k_is)
    (case g => k_is)
    (case t => k_is)
    (case r => k_is)
    (case l => k_is)
    (case c => k_is)
    (case k => k_is)
  case re_p4 =>
    refine' K1.propD_mk ?a ?g ?t ?r ?l ?c ?k
    (case a => k_is)
    (case g => k_is)
    (case t => k_is)
    (case r => k_is)
    (case l => k_is)
    (case c => k_is)
    (case k => k_is)
  case re_p5 =>
    refine' K1.propD_mk ?a ?g ?t ?r ?l ?c ?k
    (case a => k_is)
    (case g => k_is)
    (case t => k_is)
    (case r => k_is)
    (case l => k_is)
    (case c => k_is)
    (case k => k_is)
  case re_str =>
    refine' K1.methD_mk ?a ?i ?l ?c ?k
    (case a => k_is)
    (case i => k_is)
    (case l => k_is)
    (case c => k_is)
    (case k => k_is)
  case re_eq =>
    refine' K1.methD_mk ?a ?i ?l ?c ?k
    (case a => k_is)
    (case i => k_is)
    (case l => k_is)
    (case c => k_is)
    (case k => k_is)
  case re_g7 =>
    refine' K1.gloD_mk ?a ?l ?c ?k
    (case a => k_is)
    (case l => k_is)
    (case c => k_is)
    (case k => k_is)
  case re_g8 =>
    refine' K1.gloD_mk ?a ?l ?c ?k
    (case a => k_is)
    (case l => k_is)
    (case c => k_is)
    (case k => k_is)
  case re_g1 =>
    refine' K1.gloD_mk ?a ?l ?c ?k
    (case a => k_is)
    (case l => k_is)
    (case c => k_is)
    (case k => k_is)
  case re_g2 =>
    refine' K1.gloD_mk ?a ?l ?c ?k
    (case a => k_is)
    (case l => k_is)
    (case c => k_is)
    (case k => k_is)
  case re_g3 =>
    refine' K1.gloD_mk ?a ?l ?c ?k
    (case a => k_is)
    (case l => k_is)
    (case c => k_is)
    (case k => k_is)
  case re_g4 =>
    refine' K1.gloD_mk ?a ?l ?c ?k
    (case a => k_is)
    (case l => k_is)
    (case c => k_is)
    (case k => k_is)
  case re_g5 =>
    refine' K1.gloD_mk ?a ?l ?c ?k
    (case a => k_is)
    (case l => k_is)
    (case c => k_is)
    (case k => k_is)
  case re_g6 =>
    refine' K1.gloD_mk ?a ?l ?c ?k
    (case a => k_is)
    (case l => k_is)
    (case c => k_is)
    (case k => k_is)
  case re_g12 =>
    refine' K1.gloD_mk ?a ?l ?c ?k
    (case a => k_is)
    (case l => k_is)
    (case c => k_is)
    (case k => k_is)
  case re_g13 =>
    refine' K1.gloD_mk ?a ?l ?c ?k
    (case a => k_is)
    (case l => k_is)
    (case c => k_is)
    (case k => k_is)
  case re_g14 =>
    refine' K1.gloD_mk ?a ?l ?c ?k
    (case a => k_is)
    (case l => k_is)
    (case c => k_is)
    (case k => k_is)
  case re_g15 =>
    refine' K1.gloD_mk ?a ?l ?c ?k
    (case a => k_is)
    (case l => k_is)
    (case c => k_is)
    (case k => k_is)
  case re_sg =>
    refine' K1.sgD_mk ?a ?l
    (case a => k_is)
    (case l => k_is)
  case re_rd =>
    refine' K1.statD_mk ?a ?r ?l ?c ?k
    (case a => k_is)
    (case r => k_is)
    (case l => k_is)
    (case c => k_is)
    (case k => k_is)
  case re_rc =>
    refine' K1.gloD_mk ?a ?l ?c ?k
    (case a => k_is)
    (case l => k_is)
    (case c => k_is)
    (case k => k_is)
  case re_tw =>
    refine' K1.gloD_mk ?a ?l ?c ?k
    (case a => k_is)
    (case l => k_is)
    (case c => k_is)
    (case k => k_is)
  case re_jo =>
    refine' K1.gloD_mk ?a ?l ?c ?k
    (case a => k_is)
    (case l => k_is)
    (case c => k_is)
    (case k => k_is)
  (case re_c1 => refine' K1.ex1 ?a; (case a => k_is))
  (case re_c2 => refine' K1.ex1 ?a; (case a => k_is))
  (case re_c3 => refine' K1.ex1 ?a; (case a => k_is))
  (case re_c4 => refine' K1.ex1 ?a; (case a => k_is))
  (case re_c5 => refine' K1.ex1 ?a; (case a => k_is))
  case rf_fac =>
    refine' K1.clsD_mk ?g ?hd ?pg ?sa ?po ?kC ?mk ?hm ?ht ?hn ?ha ?yes ?o1 ?o2 ?o3 ?o4 ?o5 ?o6 ?o7 ?f1 ?f2 ?f3 ?f4 ?f5 ?f6 ?f7 ?fC ?ne ?rd ?ga
    (case g => k_is)
    (case hd => k_is)
    (case pg => k_is)
    (case sa => k_is)
    (case po => k_is)
    (case kC => k_is)
    (case mk => k_is)
    (case hm => k_is)
    (case ht => k_is)
    (case hn => k_is)
    (case ha => k_is)
    (case yes => kit_is)
    (case o1 => kit_is)
    (case o2 => kit_is)
    (case o3 => kit_is)
    (case o4 => kit_is)
    (case o5 => kit_is)
    (case o6 => kit_is)
    (case o7 => kit_is)
    (case f1 => k_is)
    (case f2 => k_is)
    (case f3 => k_is)
    (case f4 => k_is)
    (case f5 => k_is)
    (case f6 => k_is)
    (case f7 => k_is)
    (case fC => k_is)
    (case ne => k_is)
    (case rd => k_is)
    (case ga => k_is)
  (case rf_n6 => k_is)
  (case rf_n7 => k_is)
  case rf_ini =>
    refine' K1.methD_mk ?a ?i ?l ?c ?k
    (case a => k_is)
    (case i => k_is)
    (case l => k_is)
    (case c => k_is)
    (case k => k_is)
  case rf_str =>
    refine' K1.methD_mk ?a ?i ?l ?c ?k
    (case a => k_is)
    (case i => k_is)
    (case l => k_is)
    (case c => k_is)
    (case k => k_is)
  case rf_rep =>
    refine' K1.methD_mk ?a ?i ?l ?c ?k
    (case a => k_is)
    (case i => k_is)
    (case l => k_is)
    (case c => k_is)
    (case k => k_is)
  case rf_eq =>
    refine' K1.methD_mk ?a ?i ?l ?c ?k
    (case a => k_is)
    (case i => k_is)
    (case l => k_is)
    (case c => k_is)
    (case k => k_is)
  case rf_p6 =>
    refine' K1.propD_mk ?a ?g ?t ?r ?l ?c ?k
    (case a => k_is)
    (case g => k_is)
    (case t => k_is)
    (case r => k_is)
    (case l => k_is)
    (case c => k_is)
    (case k => k_is)
  case rf_p7 =>
    refine' K1.propD_mk ?a ?g ?t ?r ?l ?c ?k
    (case a => k_is)
    (case g => k_is)
    (case t => k_is)
    (case r => k_is)
    (case l => k_is)
    (case c => k_is)
    (case k => k_is)
  case rf_p8 =>
    refine' K1.propD_mk ?a ?g ?t ?r ?l ?c ?k
    (case a => k_is)
    (case g => k_is)
    (case t => k_is)
    (case r => k_is)
    (case l => k_is)
    (case c => k_is)
    (case k => k_is)
  case rf_p9 =>
    refine' K1.propD_mk ?a ?g ?t ?r ?l ?c ?k
    (case a => k_is)
    (case g => k_is)
    (case t => k_is)
    (case r => k_is)
    (case l => k_is)
    (case c => k_is)
    (case k => k_is)
  case rf_p0 =>
    refine' K1.propD_mk ?a ?g ?t ?r ?l ?c ?k
    (case a => k_is)
    (case g => k_is)
    (case t => k_is)
    (case r => k_is)
    (case l => k_is)
    (case c => k_is)
    (case k => k_is)
  case rf_rd =>
    refine' K1.statD_mk ?a ?r ?l ?c ?k
    (case a => k_is)
    (case r => k_is)
    (case l => k_is)
    (case c => k_is)
    (case k => k_is)
  case rf_kp =>
    refine' K1.methK_mk ⟨?a, ?i, ?j⟩ ?l ?c ?k ?n ?r
    (case a => k_is)
    (case i => k_is)
    (case j => k_is)
    (case l => k_is)
    (case c => k_is)
    (case k => k_is)
    (case n => k_is)
    (case r => exact rfl)
  case rf_wi =>
    refine' K1.methD_mk ?a ?i ?l ?c ?k
    (case a => k_is)
    (case i => k_is)
    (case l => k_is)
    (case c => k_is)
    (case k => k_is)
  (case rf_fm => k_is)
  case rf_f2 =>
    refine' K1.gloD_mk ?a ?l ?c ?k
    (case a => k_is)
    (case l => k_is)
    (case c => k_is)
    (case k => k_is)
  case rw_eS =>
    refine' K1.errD_mk ?g ?lD ?sh ?sa ?exC ?tyC ?kC ?no ?a ?ty ?l ?c ?k ?hg ?hk ?hd ?ha ?hn ?ht ?hm ?k1 ?k2 ?k3 ?kV ?kL ?kA ?kx
    (case g => k_is)
    (case lD => k_is)
    (case sh => exact ⟨_, _, _, _, _, _, _, _, _, _, _, _, _, _, _, rfl, by decide⟩)
    (case sa => k_is)
    (case exC => k_is)
    (case tyC => k_is)
    (case kC => k_is)
    (case no => k_is)
    (case a => k_is)
    (case ty => k_is)
    (case l => k_is)
    (case c => k_is)
    (case k => k_is)
    (case hg => k_is)
    (case hk => k_is)
    (case hd => k_is)
    (case ha => k_is)
    (case hn => k_is)
    (case ht => k_is)
    (case hm => k_is)
    (case k1 => kit_is)
    (case k2 => kit_is)
    (case k3 => kit_is)
    (case kV => kit_is)
    (case kL => kit_is)
    (case kA => kit_is)
    (case kx => kts_exm)
  case rw_eU =>
    refine' K1.errD_mk ?g ?lD ?sh ?sa ?exC ?tyC ?kC ?no ?a ?ty ?l ?c ?k ?hg ?hk ?hd ?ha ?hn ?ht ?hm ?k1 ?k2 ?k3 ?kV ?kL ?kA ?kx
    (case g => k_is)
    (case lD => k_is)
    (case sh => exact ⟨_, _, _, _, _, _, _, _, _, _, _, _, _, _, _, rfl, by decide⟩)
    (case sa => k_is)
    (case exC => k_is)
    (case tyC => k_is)
    (case kC => k_is)
    (case no => k_is)
    (case a => k_is)
    (case ty => k_is)
    (case l => k_is)
    (case c => k_is)
    (case k => k_is)
    (case hg => k_is)
    (case hk => k_is)
    (case hd => k_is)
    (case ha => k_is)
    (case hn => k_is)
    (case ht => k_is)
    (case hm => k_is)
    (case k1 => kit_is)
    (case k2 => kit_is)
    (case k3 => kit_is)
    (case kV => kit_is)
    (case kL => kit_is)
    (case kA => kit_is)
    (case kx => kts_exm)
  (case rw_q11 => kit_is)
  (case rw_q12 => kit_is)
  (case rw_q13 => kit_is)
  (case rw_q21 => kit_is)
  (case rw_q22 => kit_is)
  (case rw_q23 => kit_is)
  (case rw_q31 => kit_is)
  (case rw_q32 => kit_is)
  (case rw_q33 => kit_is)
  case rw_r1 =>
    refine' K1.gloD_mk ?a ?l ?c ?k
    (case a => k_is)
    (case l => k_is)
    (case c => k_is)
    (case k => k_is)
  case rw_r2 =>
    refine' K1.gloD_mk ?a ?l ?c ?k
    (case a => k_is)
    (case l => k_is)
    (case c => k_is)
    (case k => k_is)
  case rw_r3 =>
    refine' K1.gloD_mk ?a ?l ?c ?k
    (case a => k_is)
    (case l => k_is)
    (case c => k_is)
    (case k => k_is)
  case rw_r4 =>
    refine' K1.gloD_mk ?a ?l ?c ?k
    (case a => k_is)
    (case l => k_is)
    (case c => k_is)
    (case k => k_is)
  case rw_le =>
    refine' K1.methD_mk ?a ?i ?l ?c ?k
    (case a => k_is)
    (case i => k_is)
    (case l => k_is)
    (case c => k_is)
    (case k => k_is)
  case rw_l1 =>
    refine' K1.gloD_mk ?a ?l ?c ?k
    (case a => k_is)
    (case l => k_is)
    (case c => k_is)
    (case k => k_is)
  case rw_l2 =>
    refine' K1.gloD_mk ?a ?l ?c ?k
    (case a => k_is)
    (case l => k_is)
    (case c => k_is)
    (case k => k_is)
  case rw_l3 =>
    refine' K1.gloD_mk ?a ?l ?c ?k
    (case a => k_is)
    (case l => k_is)
    (case c => k_is)
    (case k => k_is)
  (case rw_fV => k_is)
  (case rw_fL => k_is)
  (case rw_fA => k_is)
  case rl_nm =>
    refine' K1.gloD_mk ?a ?l ?c ?k
    (case a => k_is)
    (case l => k_is)
    (case c => k_is)
    (case k => k_is)
  case rl_dr =>
    refine' K1.gloD_mk ?a ?l ?c ?k
    (case a => k_is)
    (case l => k_is)
    (case c => k_is)
    (case k => k_is)
  case rl_fo =>
    refine' K1.gloD_mk ?a ?l ?c ?k
    (case a => k_is)
    (case l => k_is)
    (case c => k_is)
    (case k => k_is)
  case rl_st =>
    refine' K1.gloD_mk ?a ?l ?c ?k
    (case a => k_is)
    (case l => k_is)
    (case c => k_is)
    (case k => k_is)
  case rl_ce =>
    refine' K1.gloD_mk ?a ?l ?c ?k
    (case a => k_is)
    (case l => k_is)
    (case c => k_is)
    (case k => k_is)
  case rl_po =>
    refine' K1.gloD_mk ?a ?l ?c ?k
    (case a => k_is)
    (case l => k_is)
    (case c => k_is)
    (case k => k_is)
  case rl_ca =>
    refine' K1.gloD_mk ?a ?l ?c ?k
    (case a => k_is)
    (case l => k_is)
    (case c => k_is)
    (case k => k_is)
  (case rl_dict => k_is)
  case rl_free =>
    intro x hx
    simp only [K1.frees, List.mem_cons, List.not_mem_nil,
        or_false] at hx
    rcases hx with rfl | rfl | rfl | rfl | rfl | rfl | rfl | rfl | rfl | rfl | rfl | rfl | rfl | rfl | rfl | rfl | rfl <;> k_is
