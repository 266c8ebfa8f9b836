import PyProof.Rows.All
import Wide.All
import OpenK.AllK
import Wide.FinOn
import HandS.ForMost
import HandS.ForExc
import HandS.Walk
import KE.GoesMore
import KE.GoesEnum
import HandS.StrMore
import HandS.IsInst
import KE.KxStill
import HandS.Star
import HandS.ClsMeth
import HandS.MakeKwOnly
import HandS.Set
import HandS.Strs
import HandS.SetFor
import HandS.ExcInit
import HandS.DictComp
import HandS.OwnEq
import KE.KCallOwn
import PyProof.InstEq
import PyProof.ListTruth
import PyProof.Conv_bool
import PyProof.ListNew
import HandS.Deep
import HandS.RaiseMore
import PyProof.ReprRoads
import KE.DatumIndex
import PyProof.ReprLen
import PyProof.StrLawsRepr
import HandS.FStr
import HandS.Property
import HandS.Small
import HandS.WordsExc
import PyProof.Rows.StrMeet
import KE.KOpsOwn
import HandS.SlotsOwn
import HandS.TupAny
import PyProof.Rows.FactsN_abs
import PyProof.ExcBaseAll.LookupError
import PyProof.NeKinds
import HandS.ExcIs
import KE.KTryMore
import HandS.Dict
import HandS.Lambda
import HandS.ExcField
import HandS.HotCalls
import HandS.NoneIn
import HandS.EndTab
import KE.KSortAny
import PySem.Challenge.RW_onemember_k03_changes
set_option Elab.async false
set_option linter.all false
set_option maxRecDepth 100000
set_option maxHeartbeats 4000000
namespace K1
open PySem PySem.Spec
open PyProof.Rows L2
/-! ### the text by places -/
def top (i : Nat) : Stmt := PySem.Challenge.pw_onemember_k03_changes.main.body.getD i (.Pass ⟨0, 0, 0, 0⟩)
abbrev sErrMem : Stmt := inClass (top 4) 0
abbrev sErrChg : Stmt := inClass (top 5) 0
abbrev sErrText : Stmt := inClass (top 6) 0
abbrev sErrNames : Stmt := inClass (top 7) 0
abbrev sIsName : Stmt := top 11
abbrev sWrong : Stmt := top 12
abbrev sInit : Stmt := inClass (top 14) 0
abbrev sFromN : Stmt := inClass (top 14) 1
abbrev sReadM : Stmt := inClass (top 14) 2
abbrev sNamesP : Stmt := inClass (top 14) 3
abbrev sStrM : Stmt := inClass (top 14) 4
abbrev sReprM : Stmt := inClass (top 14) 5
abbrev sLenM : Stmt := inClass (top 14) 6
abbrev sIterM : Stmt := inClass (top 14) 7
abbrev sHasM : Stmt := inClass (top 14) 8
abbrev sEqM : Stmt := inClass (top 14) 9
abbrev sOrM : Stmt := inClass (top 14) 10
abbrev sAndM : Stmt := inClass (top 14) 11
abbrev sSubM : Stmt := inClass (top 14) 12
abbrev sXorM : Stmt := inClass (top 14) 13
abbrev sIorM : Stmt := inClass (top 14) 14
abbrev sIandM : Stmt := inClass (top 14) 15
abbrev sIsubM : Stmt := inClass (top 14) 16
abbrev sIxorM : Stmt := inClass (top 14) 17
abbrev sLeM : Stmt := inClass (top 14) 18
abbrev sLtM : Stmt := inClass (top 14) 19
abbrev sGeM : Stmt := inClass (top 14) 20
abbrev sGtM : Stmt := inClass (top 14) 21
abbrev sAddM : Stmt := inClass (top 14) 22
abbrev sInitC : Stmt := inClass (top 15) 0
abbrev sBetC : Stmt := inClass (top 15) 1
abbrev sCameP : Stmt := inClass (top 15) 2
abbrev sWentP : Stmt := inClass (top 15) 3
abbrev sReprC : Stmt := inClass (top 15) 4
abbrev sBoolC : Stmt := inClass (top 15) 5
abbrev sAbsC : Stmt := inClass (top 15) 6
abbrev sEqC : Stmt := inClass (top 15) 7
abbrev sNegC : Stmt := inClass (top 15) 8
abbrev sAddC : Stmt := inClass (top 15) 9
abbrev sChkM : Stmt := top 16
abbrev sChkC : Stmt := top 17
abbrev sCell : Stmt := top 19
abbrev sPool : Stmt := top 20
abbrev sDraw : Stmt := top 21
abbrev sNames : Stmt := top 22
abbrev sCaught : Stmt := top 23
abbrev s_L_drawn : Stmt := top 24
abbrev s_L_apart : Stmt := top 25
abbrev s_L_one_right : Stmt := top 26
abbrev s_L_odd_right : Stmt := top 27
abbrev sRight : Stmt := top 28
abbrev sLaw : Stmt := top 29
end K1
namespace K1
open PySem PySem.Spec
open PyProof.Rows L2
/-! ### which names are the built-ins' -/
structure Free (mg : Str → Option Value) : Prop where
  len : mg "len" = none
  int : mg "int" = none
  abs : mg "abs" = none
  range : mg "range" = none
  list : mg "list" = none
  str : mg "str" = none
  set : mg "set" = none
  sorted : mg "sorted" = none
  tuple : mg "tuple" = none
  isinstance : mg "isinstance" = none
  enumerate : mg "enumerate" = none
  repr : mg "repr" = none
  bool : mg "bool" = none
  any : mg "any" = none
  all : mg "all" = none
  max : mg "max" = none
  min : mg "min" = none
/-! ### the pool: a list of three ints -/
def PoolAt (H : Hp) (p : Addr) : Prop := ∃ a b c : Int, H p = some (.lst [.int a, .int b, .int c])
def spCell (K : PySem.W.Frag) : Sp := fun vs H Q _ => ∃ (a : Addr) (ns : List Int) (k : Nat), vs = [.ref a, .int k] ∧ SqL K H a (ns.map V.int) ∧ ∀ z : Int, Q (.int z) H
def spPool : Sp := fun vs H Q _ => ∃ z : Int, vs = [.int z] ∧ ∀ p, H p = none → ∀ a b c : Int, Q (.ref p) (upd H p (.lst [.int a, .int b, .int c]))
/-- all but the pool stays, the pool is a pool -/
structure Ext (p : Addr) (H H' : Hp) : Prop where
  pool : PoolAt H' p
  keep : ∀ b o, b ≠ p → H b = some o → H' b = some o
theorem PoolAt.ne {H : Hp} {p q : Addr} (h : PoolAt H p) (n : H q = none) : q ≠ p := fun e => by
  obtain ⟨a, b, c, h⟩ := h
  rw [e, h] at n
  cases n
theorem Ext.refl {p : Addr} {H : Hp} (h : PoolAt H p) : Ext p H H := ⟨h, fun _ _ _ e => e⟩
theorem Ext.trans {p : Addr} {H H1 H2 : Hp} (a : Ext p H H1) (b : Ext p H1 H2) : Ext p H H2 := ⟨b.pool, fun c o n e => b.keep c o n (a.keep c o n e)⟩
theorem Ext.free {p q : Addr} {H H' : Hp} (e : Ext p H H') (n : H' q = none) : H q = none := by
  have n2 := e.pool.ne n
  cases h : H q with
  | none => rfl
  | some o =>
    rw [e.keep q o n2 h] at n
    cases n
theorem Ext.same {p : Addr} {H H1 H2 : Hp} (a : Ext p H H1) (s : Same H1 H2) : Ext p H H2 := ⟨by
  obtain ⟨x, y, z, h⟩ := a.pool
  exact ⟨x, y, z, s _ _ h⟩, fun c o n e => s c o (a.keep c o n e)⟩
theorem same_upd {H : Hp} {p : Addr} {o : HO} (h : H p = none) : Same H (upd H p o) := fun b x e => by
  rw [upd_ne (ne_of_none e h)]
  exact e
theorem Ext.of {p : Addr} {H : Hp} (a b c : Int) : Ext p H (upd H p (.lst [.int a, .int b, .int c])) := ⟨⟨a, b, c, upd_same⟩, fun d o n e => by
  rw [upd_ne n]
  exact e⟩
theorem Ext.at {p q : Addr} {H H' : Hp} {o : HO} (e : Ext p H H') (n : q ≠ p) (h : H q = some o) : H' q = some o := e.keep q o n h
def spDraw : Sp := fun vs H Q _ => ∃ (p : Addr) (m : Int), vs = [.ref p, .int m] ∧ PoolAt H p ∧ 0 < m ∧ m < 1000 ∧ ∀ (d : Int) (H' : Hp), Ext p H H' → 0 ≤ d → d < m → Q (.int d) H'
section
variable {w : World} {P : Program}
variable {base : Heap} {mg : Str → Option Value} {K : PySem.W.Frag}
theorem scCell : FnScope ["_law_cells", "_law_k", "_law_mixed", "_law_cell_here"] ["_law_cells", "_law_k"] (defScope sCell) := ⟨rfl, rfl, rfl, by decide +kernel, rfl, by decide +kernel, by decide +kernel⟩
theorem ok_cell {f : Addr} {fd : FuncData} (F : Fun K "_law_cell" "_law_cell" sCell f fd) (T : Free mg) : FnOk P w K mg base CX0 1 f fd ["_law_cells", "_law_k"] (spCell K) := by
  refine F.ok scCell (fun vs H Q E h => ?_) (fun cdv A outer s H vs Q E hr h => ?_)
  · obtain ⟨a, ns, k, rfl, _⟩ := h
    rfl
  · obtain ⟨a, ns, k, rfl, hS, q⟩ := h
    refine ⟨_, pss_cons (ps_if (pt_cmpR op_lt (pv 1) (pe_callB call_len_seq (by rfl) T.len PySem.boot_len (pa_cons (pv 0) pa_nil)) (nomark _)) (pss_one (ps_ret (pe_ix ix_list (pv 0) (pv 1) (fun _ _ => rfl)))) pss_nil)
      (pss_cons (ps_set (i := 2) scCell.nd rfl (.inl rfl) (pe_op op_add pe_int (pe_op op_mul pe_int (pv 1))))
      (pss_cons (ps_for PassesOwn.never rfl (pi_list (pv 0)) (pg_name (i := 3) scCell.nd rfl (.inl rfl))
        (pss_one (ps_set (i := 2) scCell.nd rfl (.inl rfl) (pe_op op_mod (pe_callTy call_int1 (by rfl) T.int (by decide +kernel) (pa_cons (pe_op op_add (pe_op op_mul (pv 2) pe_int) (pe_callB call_abs (by rfl) T.abs (by decide +kernel) (pa_cons (pv 3) pa_nil))) pa_nil)) pe_int))))
      (pss_one (ps_ret (pe_op op_add (pe_op op_mul (pv 2) pe_int) (pv 1)))))), ?_⟩
    refine ⟨_, rfl, _, rfl, a, _, rfl, .inl hS, _, _, rfl, rfl, _, rfl, ?_⟩
    by_cases hk : (k : Int) < ((ns.map V.int).length : Nat)
    · rw [decide_eq_true hk]
      refine iteT ⟨_, rfl, _, rfl, a, _, _, V.int (ns.getD k 0), rfl, rfl, hS, ?_, q _⟩
      have hk2 : k < ns.length := by
        rw [List.length_map] at hk
        omega
      exact atI_nat (by rw [List.getElem?_map, List.getElem?_eq_getElem hk2, List.getD_eq_getElem?_getD, List.getElem?_eq_getElem hk2]; rfl)
    · rw [decide_eq_false hk]
      refine iteF ?_
      refine ⟨_, rfl, _, _, rfl, rfl, .inl (by decide), _, _, rfl, rfl, ?_⟩
      refine ⟨_, rfl, a, rfl, ⟨_, hS⟩, ?_⟩
      refine for_list (xs := ns.map V.int) (K := K) (a := a) (fun i σ H' => H' = H ∧ ∃ (z : Int) (o : Option V), σ = [some (.ref a), some (.int k), some (.int z), o]) ?_ ?_ ?_ ?_
      · exact ⟨rfl, _, none, rfl⟩
      · rintro i σ H' hi ⟨rfl, _⟩
        exact hS
      · rintro i x σ H' hx ⟨rfl, z, o, rfl⟩
        rw [List.getElem?_map] at hx
        obtain ⟨n, _, rfl⟩ := Option.map_eq_some_iff.mp hx
        refine ⟨_, rfl, _, _, rfl, rfl, .inr (by decide), ?_⟩
        refine ⟨_, rfl, n, rfl, _, _, rfl, rfl, ?_⟩
        refine .inl ⟨_, rfl, _, _, rfl, rfl, (by show (0 : Int) < 2147483629; decide), ?_⟩
        exact ⟨rfl, _, _, rfl⟩
      · rintro σ H' ⟨rfl, z, o, rfl⟩
        refine ⟨_, rfl, _, _, rfl, rfl, .inr (by decide), _, rfl, _, _, rfl, rfl, q _⟩
theorem scPool : FnScope ["_law_cell_here"] ["_law_cell_here"] (defScope sPool) := ⟨rfl, rfl, rfl, by decide +kernel, rfl, by decide +kernel, by decide +kernel⟩
theorem ok_pool {f : Addr} {fd : FuncData} (F : Fun K "_law_pool" "_law_pool" sPool f fd) (T : Free mg) : FnOk P w K mg base CX0 1 f fd ["_law_cell_here"] spPool := by
  refine F.ok scPool (fun vs H Q E h => ?_) (fun cdv A outer s H vs Q E hr h => ?_)
  · obtain ⟨z, rfl, _⟩ := h
    rfl
  · obtain ⟨z, rfl, q⟩ := h
    refine ⟨_, pss_one (ps_ret (pe_lst (pa_cons (pe_op op_mod (pe_callTy call_int1 (by rfl) T.int (by decide +kernel) (pa_cons (pv 0) pa_nil)) pe_int)
      (pa_cons (pe_ifExp (PW.pt (pw_or (pt_cmpR op_lt (pv 0) pe_int (nomark _)) (pw_or1 (pt_cmpR op_ge (pv 0) (pe_op op_pow pe_int pe_int) (nomark _))))) (pe_callB call_abs (by rfl) T.abs (by decide +kernel) (pa_cons (pv 0) pa_nil)) pe_int)
      (pa_cons pe_int pa_nil))))), ?_⟩
    refine ⟨_, rfl, .inl ⟨_, rfl, _, _, rfl, rfl, (by show (0 : Int) < 2147483629; decide), ?_⟩⟩
    have fin : ∀ b : Int, ([V.int (z % 2147483629), V.int b, V.int 0] : List V).length ≤ sizeLine ∧ ∀ p, H p = none → Q (.ref p) (upd H p (.lst [V.int (z % 2147483629), V.int b, V.int 0])) := fun b => ⟨by show 3 ≤ sizeLine; decide, fun p hp => q p hp _ _ _⟩
    refine ⟨_, rfl, _, _, rfl, rfl, _, rfl, ?_⟩
    refine ite2 (fun _ => ?_) (fun _ => ?_)
    · refine iteT ⟨_, rfl, _, rfl, fin _⟩
    · refine ⟨_, rfl, _, _, rfl, rfl, ⟨by decide, by decide, by decide⟩, _, _, rfl, rfl, _, rfl, ?_⟩
      refine ite2 (fun _ => ?_) (fun _ => ?_)
      · exact ⟨_, rfl, _, rfl, fin _⟩
      · exact fin 0
theorem scDraw : FnScope ["_law_pool_here", "_law_many", "_law_mixed", "_law_digit"] ["_law_pool_here", "_law_many"] (defScope sDraw) := ⟨rfl, rfl, rfl, by decide +kernel, rfl, by decide +kernel, by decide +kernel⟩
theorem at3 {a b c : V} {j : Nat} {v : V} (h : [a, b, c][j]? = some v) : atI [a, b, c] (j : Int) = some v := atI_nat h
theorem ok_draw {f : Addr} {fd : FuncData} (F : Fun K "_law_draw" "_law_draw" sDraw f fd) (T : Free mg) : FnOk P w K mg base CX0 1 f fd ["_law_pool_here", "_law_many"] spDraw := by
  refine F.ok scDraw (fun vs H Q E h => ?_) (fun cdv A outer s H vs Q E hr h => ?_)
  · obtain ⟨p, m, rfl, _⟩ := h
    rfl
  · obtain ⟨p, m, rfl, ⟨a, b, c, hp⟩, hm, hm2, q⟩ := h
    refine ⟨_, pss_cons (ps_asg (pe_op op_add (pe_ix ix_list (pv 0) pe_int (fun _ _ => rfl)) pe_int) (pg_sub (pv 0) pe_int set_list))
      (pss_cons (ps_set (i := 2) scDraw.nd rfl (.inl rfl) (pe_op op_mod (pe_callTy call_int1 (by rfl) T.int (by decide +kernel) (pa_cons (pe_op op_add (pe_op op_mul (pe_ix ix_list (pv 0) pe_int (fun _ _ => rfl)) pe_int) (pe_op op_mul (pe_ix ix_list (pv 0) pe_int (fun _ _ => rfl)) pe_int)) pa_nil)) pe_int))
      (pss_cons (ps_asg (pe_op op_mod (pe_callTy call_int1 (by rfl) T.int (by decide +kernel) (pa_cons (pe_op op_add (pe_op op_mul (pv 2) (pe_op op_add (pe_op op_fdiv (pv 2) pe_int) pe_int)) pe_int) pa_nil)) pe_int) (pg_sub (pv 0) pe_int set_list))
      (pss_cons (ps_if (pt_cmpR op_gt (pe_ix ix_list (pv 0) pe_int (fun _ _ => rfl)) pe_int (nomark _))
          (pss_cons (ps_set (i := 3) scDraw.nd rfl (.inl rfl) (pe_op op_modN (pe_callTy call_int1 (by rfl) T.int (by decide +kernel) (pa_cons (pe_ix ix_list (pv 0) pe_int (fun _ _ => rfl)) pa_nil)) (pv 1)))
          (pss_cons (ps_asg (pe_op op_fdivN (pe_callTy call_int1 (by rfl) T.int (by decide +kernel) (pa_cons (pe_ix ix_list (pv 0) pe_int (fun _ _ => rfl)) pa_nil)) (pv 1)) (pg_sub (pv 0) pe_int set_list))
          (pss_one (ps_ret (pv 3))))) pss_nil)
      (pss_one (ps_ret (pe_op op_modN (pe_callTy call_int1 (by rfl) T.int (by decide +kernel) (pa_cons (pe_op op_fdiv (pe_ix ix_list (pv 0) pe_int (fun _ _ => rfl)) pe_int) pa_nil)) (pv 1))))))), ?_⟩
    -- pool[2] = pool[2] + 1
    refine ⟨_, rfl, p, _, _, _, rfl, rfl, SqL.of hp, at3 (j := 2) rfl, _, _, rfl, rfl, _, rfl, p, _, _, 2, rfl, rfl, hp, rfl, ?_⟩
    generalize e1 : upd H p _ = H1
    have h1 : H1 p = some (.lst [.int a, .int b, .int (c + 1)]) := by rw [← e1]; exact upd_same
    have x1 : Ext p H H1 := by rw [← e1]; exact Ext.of a b (c + 1)
    clear e1
    -- mixed
    refine ⟨_, rfl, p, _, _, _, rfl, rfl, SqL.of h1, at3 (j := 0) rfl, _, _, rfl, rfl, .inr (by decide), ?_⟩
    refine ⟨_, rfl, p, _, _, _, rfl, rfl, SqL.of h1, at3 (j := 2) rfl, _, _, rfl, rfl, .inr (by decide), ?_⟩
    refine ⟨_, _, rfl, rfl, .inl ⟨_, rfl, _, _, rfl, rfl, (by show (0 : Int) < 2147483629; decide), ?_⟩⟩
    have hx : ∃ x : Int, x = (a * 48271 + (c + 1) * 69997) % 2147483629 ∧ 0 ≤ x ∧ x < 2147483629 := ⟨_, rfl, by omega, by omega⟩
    obtain ⟨x, ex, x0, xl⟩ := hx
    show tSeq _ _ _ (List.set _ _ (some (V.int ((a * 48271 + (c + 1) * 69997) % 2147483629)))) H1
    rw [← ex]
    -- pool[0]
    refine ⟨_, rfl, _, rfl, _, _, rfl, rfl, ⟨by decide, by decide⟩, _, _, rfl, rfl, _, _, rfl, rfl, .inl ⟨by omega, by omega⟩, _, _, rfl, rfl, .inl ⟨_, rfl, _, _, rfl, rfl, (by show (0 : Int) < 2147483629; decide), ?_⟩⟩
    refine ⟨_, rfl, p, _, _, 0, rfl, rfl, h1, rfl, ?_⟩
    generalize e2 : upd H1 p _ = H2
    obtain ⟨a2, h2, x2⟩ : ∃ a2 : Int, H2 p = some (.lst [.int a2, .int b, .int (c + 1)]) ∧ Ext p H H2 := ⟨(x * (x / 7 + 30011) + 12345) % 2147483629, by rw [← e2]; exact upd_same, x1.trans (by rw [← e2]; exact Ext.of _ b (c + 1))⟩
    clear e2
    -- the digits
    refine ⟨_, rfl, p, _, _, _, rfl, rfl, SqL.of h2, at3 (j := 1) rfl, _, _, rfl, rfl, _, rfl, ?_⟩
    have md : ∀ y : Int, 0 ≤ y.fmod m ∧ y.fmod m < m := fun y => ⟨Int.fmod_nonneg_of_pos _ hm, Int.fmod_lt_of_pos _ hm⟩
    refine ite2 (fun _ => ?_) (fun _ => ?_)
    · refine ⟨_, rfl, p, _, _, _, rfl, rfl, SqL.of h2, at3 (j := 1) rfl, .inl ⟨_, rfl, _, rfl, _, _, rfl, rfl, (by omega), ?_⟩⟩
      refine ⟨_, rfl, p, _, _, _, rfl, rfl, SqL.of h2, at3 (j := 1) rfl, .inl ⟨_, rfl, _, rfl, _, _, rfl, rfl, ⟨by omega, by omega⟩, ?_⟩⟩
      refine ⟨_, rfl, p, _, _, 1, rfl, rfl, h2, rfl, _, rfl, ?_⟩
      exact q _ _ (x2.trans (Ext.of a2 _ (c + 1))) (md _).1 (md _).2
    · refine ⟨_, rfl, p, _, _, _, rfl, rfl, SqL.of h2, at3 (j := 0) rfl, _, _, rfl, rfl, ⟨by decide, by decide⟩, .inl ⟨_, rfl, _, rfl, _, _, rfl, rfl, (by omega), ?_⟩⟩
      exact q _ _ x2 (md _).1 (md _).2
end
end K1
namespace K1
open PySem PySem.Spec PyProof.Rows L2 TL
/-! ### tags: texts of one to three lower-case letters -/
def Low (z : Str) : Prop := ∀ c ∈ tl z, 97 ≤ c ∧ c ≤ 122
structure Tag (z : Str) : Prop where
  lo : 1 ≤ (tl z).length
  hi : (tl z).length ≤ 3
  low : Low z
/-- a sign's text -/
abbrev sg (c : Nat) : Str := ⟨#[c]⟩
theorem len_tl (z : Str) : z.length = (tl z).length := by simp [Str.length]
theorem joinL_sg : ∀ cs : List Nat, joinL [] (cs.map fun c => [c]) = cs
  | [] => rfl
  | [c] => rfl
  | c :: d :: r => by
    show [c] ++ ([] ++ joinL [] ((d :: r).map fun c => [c])) = c :: d :: r
    rw [joinL_sg (d :: r)]
    rfl
theorem join_sg (cs : List Nat) : tl (Txt.join (Str.ofString "") (cs.map sg)) = cs := by
  rw [join_eq, tl_join, List.map_map]
  have e : tl (Str.ofString "") = [] := by decide +kernel
  rw [e]
  exact joinL_sg cs
abbrev letters : Str := Str.ofString "abcdefghijklmnopqrstuvwxyz"
theorem letters_len : letters.length = 26 := by decide +kernel
theorem letters_cps : letters.cps = (((List.range 26).map fun i => 97 + i).toArray) := by decide +kernel
theorem letters_at {i : Nat} (h : i < 26) : letters.cps[i]? = some (97 + i) := by
  rw [letters_cps]
  simp [h]
theorem sum_sg : ∀ cs : List Nat, ((cs.map sg).map (·.length)).sum = cs.length
  | [] => rfl
  | c :: r => by
    have ih := sum_sg r
    rw [List.map_cons, List.map_cons, List.sum_cons, ih, List.length_cons]
    show 1 + r.length
        = r.length + 1
    omega
theorem nodup_at {zs : List Str} {t : Nat} {b : Int} (hl : zs.length ≤ 26) (h : ∀ (k : Nat) (z : Str), zs[k]? = some z → (tl z)[t]? = some (97 + ((b + (0 + (k : Int))) % 26).toNat)) : zs.Nodup := by
  refine List.pairwise_iff_getElem.mpr fun i j hi hj hij e => ?_
  have a := h i _ (List.getElem?_eq_getElem hi)
  have b := h j _ (List.getElem?_eq_getElem hj)
  rw [e] at a
  have c := Option.some.inj (a.symm.trans b)
  omega
def spNames : Sp := fun vs H Q _ => ∃ (p : Addr) (m : Nat), vs = [.ref p, .int m] ∧ PoolAt H p ∧ m ≤ 26 ∧ ∀ (q : Addr) (zs : List Str) (H' : Hp), Ext p H H' → H q = none → H' q = some (.lst (zs.map V.str)) → zs.length = m → (∀ z ∈ zs, Tag z) → zs.Nodup → Q (.ref q) H'
section
variable {w : World} {P : Program}
variable {base : Heap} {mg : Str → Option Value} {K : PySem.W.Frag}
abbrev nmNames : List Str := ["_law_pool_here", "_law_many", "_law_letters", "_law_found", "_law_k", "_law_stem", "_law_at", "_law_base", "_law_own"]
theorem scNames : FnScope nmNames ["_law_pool_here", "_law_many"] (defScope sNames) := ⟨rfl, rfl, rfl, by decide +kernel, rfl, by decide +kernel, by decide +kernel⟩
theorem ok_names {f fD : Addr} {fd fdD : FuncData} (F : Fun K "_law_names" "_law_names" sNames f fd) (T : Free mg) (FD : Fun K "_law_draw" "_law_draw" sDraw fD fdD) (mgD : mg "_law_draw" = some (.ref fD)) :
    FnOk P w K mg base CX0 2 f fd ["_law_pool_here", "_law_many"] spNames := by
  have GD : FnOk P w K mg base CX0 1 fD fdD ["_law_pool_here", "_law_many"] spDraw := ok_draw FD T
  have bD : Binds K fdD ["_law_pool_here", "_law_many"] [] := FD.binds (ps := ["_law_pool_here", "_law_many"]) fun _ _ _ _ _ _ us hl => match us, hl with | [_, _], _ => rfl
  refine F.ok scNames (fun vs H Q E h => ?_) (fun cdv A outer s H vs Q E hr h => ?_)
  · obtain ⟨p, m, rfl, _⟩ := h
    rfl
  · obtain ⟨p, m, rfl, hp, hm, q⟩ := h
    refine ⟨_, pss_cons (ps_asg (pe_tup (pa_cons pe_str (pa_cons (pe_lst pa_nil) pa_nil))) (pg_tup rfl (pgs_cons (pg_name (i := 2) scNames.nd rfl (.inr rfl)) (pgs_cons (pg_name (i := 3) scNames.nd rfl (.inl rfl)) pgs_nil))))
      (pss_cons (ps_setLc (i := 5) (own := [("_law_k", 4)]) (g := gName 4) rfl scNames.nd rfl rfl (sw_true rfl rfl rfl (by decide +kernel))
          (pi_range1 rfl T.range (pa_cons (pe_op op_add pe_int (pe_call GD hr rfl mgD FD.kp bD .nil pass0 (pa_cons (pv 0) (pa_cons pe_int pa_nil)))) pa_nil))
          (blkOk_by (own := [("_law_k", 4)]) (N := nmNames) (sc := defScope sNames) (by decide +kernel)) (fun _ _ _ _ _ => pg_name (i := 4) scNames.nd rfl (Or.inl rfl)) (fun _ _ _ _ _ => pts_nil)
          (fun _ _ _ _ _ => pe_item_str (pv 2) (pe_call GD hr rfl mgD FD.kp bD .nil pass0 (pa_cons (pv 0) (pa_cons pe_int pa_nil))) (fun _ _ => rfl)))
      (pss_cons (ps_par (i := 6) (j := 7) rfl scNames.nd rfl rfl (by decide) rfl rfl (pa_cons (pe_call GD hr rfl mgD FD.kp bD .nil pass0 (pa_cons (pv 0) (pa_cons (pe_callB call_len_seq (by rfl) T.len PySem.boot_len (pa_cons (pv 5) pa_nil)) pa_nil))) (pa_cons (pe_call GD hr rfl mgD FD.kp bD .nil pass0 (pa_cons (pv 0) (pa_cons pe_int pa_nil))) pa_nil)) (by rfl))
      (pss_cons (ps_for PassesOwn.never rfl (pi_range1 rfl T.range (pa_cons (pv 1) pa_nil)) (pg_name (i := 4) scNames.nd rfl (.inl rfl))
          (pss_cons (ps_set (i := 8) scNames.nd rfl (.inl rfl) (pe_callTy call_list_of (by rfl) T.list (by decide +kernel) (pa_cons (pv 5) pa_nil)))
          (pss_cons (ps_asg (pe_item_str (pv 2) (pe_op op_mod (pe_callTy call_int1 (by rfl) T.int (by decide +kernel) (pa_cons (pe_op op_add (pv 7) (pv 4)) pa_nil)) pe_int) (fun _ _ => rfl)) (pg_sub (pv 8) (pv 6) set_list))
          (pss_one (ps_expr (pe_bm PySem.F.plainAttrs_list PySem.F.slot_list_append PySem.F.type_list_append mt_append (pv 3) (pa_cons (pe_join pe_str (pv 8)) pa_nil)))))))
      (pss_one (ps_ret (pv 3)))))), ?_⟩
    -- letters, found
    refine ⟨(by show 0 ≤ sizeLine; decide), fun F nF => ⟨(by show 2 ≤ sizeLine; decide), fun t nt => ?_⟩⟩
    refine ⟨t, _, rfl, SqT.of upd_same, rfl, ?_⟩
    have nFp : F ≠ p := hp.ne nF
    have ntF : t ≠ F := fun e => by
      rw [e, upd_same] at nt
      cases nt
    have s1 : Same H (upd H F (.lst [])) := same_upd nF
    have s2 : Same (upd H F (.lst [])) (upd (upd H F (.lst [])) t (.tup [.str letters, .ref F])) := same_upd nt
    have hF : (upd (upd H F (.lst [])) t (.tup [.str letters, .ref F])) F = some (.lst []) := by rw [upd_ne (Ne.symm ntF), upd_same]
    have x1 : Ext p H (upd (upd H F (.lst [])) t (.tup [.str letters, .ref F])) := ((Ext.refl hp).same s1).same s2
    generalize (upd (upd H F (.lst [])) t (.tup [.str letters, .ref F])) = H1 at hF x1 ⊢
    -- stem
    refine ⟨_, _, rfl, _, _, rfl, rfl, ?_⟩
    refine ⟨_, rfl, p, 3, rfl, x1.pool, by decide, by decide, fun d H2 x2 d0 d1 => ?_⟩
    refine ⟨_, _, rfl, rfl, _, rfl, by omega, by omega, fun S nS => ?_⟩
    have hF2 : H2 F = some (.lst []) := x2.at nFp hF
    have nSF : S ≠ F := fun e => by
      rw [e, hF2] at nS
      cases nS
    have nSp : S ≠ p := x2.pool.ne nS
    have xx : Ext p H H2 := x1.trans x2
    refine lc_range (lo := 0) (n := (1 + d).toNat) (fun i H' => Ext p H2 H' ∧ ∃ cs : List Nat, H' S = some (.lst ((cs.map sg).map V.str)) ∧ cs.length = i ∧ ∀ c ∈ cs, 97 ≤ c ∧ c ≤ 122) ?_ ?_ ?_
    · exact ⟨(Ext.refl x2.pool).same (same_upd nS), [], upd_same, rfl, fun c z => by cases z⟩
    · rintro i H' hi ⟨xe, cs, hS, hl, hc⟩
      refine ⟨rfl, ?_⟩
      refine ⟨_, rfl, _, rfl, p, 26, rfl, xe.pool, by decide, by decide, fun e H3 x3 e0 e1 => ?_⟩
      refine ⟨letters, e, 97 + e.toNat, rfl, rfl, e0, by omega, ?_, letters_at (by omega), (cs.map sg).map V.str, x3.at nSp hS, ?_, ?_⟩
      · rw [letters_len]
        exact e1
      · rw [List.length_map, List.length_map, hl]
        exact small1000 (by omega)
      · have hS3 : (H3 S) = some (.lst ((cs.map sg).map V.str)) := x3.at nSp hS
        refine ⟨⟨?_, fun b o n z => ?_⟩, cs ++ [97 + e.toNat], ?_, ?_, ?_⟩
        · obtain ⟨a, b, c, z⟩ := x3.pool
          exact ⟨a, b, c, by rw [upd_ne (Ne.symm nSp)]; exact z⟩
        · have nb : b ≠ S := ne_of_none z nS
          rw [upd_ne nb]
          exact x3.keep b o n (xe.keep b o n z)
        · rw [upd_same, List.map_append, List.map_append]
          rfl
        · rw [List.length_append, hl]
          rfl
        · intro c hc2
          rcases List.mem_append.mp hc2 with z | z
          · exact hc c z
          · have z2 : c = 97 + e.toNat := List.mem_singleton.mp z
            omega
    · rintro H3 ⟨xe, cs, hS, hl, hc⟩
      have hF3 : H3 F = some (.lst []) := xe.at nFp hF2
      -- at, base
      have hS2 : SqL K H3 S ((cs.map sg).map V.str) := SqL.of hS
      have hlS : (((cs.map sg).map V.str).length : Nat) = (1 + d).toNat := by rw [List.length_map, List.length_map, hl]
      refine ⟨_, rfl, _, rfl, S, _, rfl, .inl hS2, p, _, rfl, xe.pool, by omega, by omega, fun t1 H4 x4 t0 t2 => ?_⟩
      refine ⟨_, rfl, p, 26, rfl, x4.pool, by decide, by decide, fun b1 H5 x5 b0 b2 => ?_⟩
      refine ⟨_, _, rfl, ?_⟩
      have x45 : Ext p H3 H5 := x4.trans x5
      have xa : Ext p H H5 := xx.trans (xe.trans x45)
      -- the loop
      refine ⟨_, rfl, m, rfl, by omega, by omega, ?_⟩
      refine for_range (lo := 0) (n := ((m : Nat) : Int).toNat) (fun i σ H' => Ext p H H' ∧ H' S = some (.lst ((cs.map sg).map V.str)) ∧ (∃ zs : List Str, H' F = some (.lst (zs.map V.str)) ∧ zs.length = i ∧ (∀ z ∈ zs, Tag z) ∧ ∀ (k : Nat) (z : Str), zs[k]? = some z → (tl z)[t1.toNat]? = some (97 + ((b1 + (0 + (k : Int))) % 26).toNat)) ∧
        ∃ o1 o2 : Option V, σ = [some (.ref p), some (.int m), some (.str letters), some (.ref F), o1, some (.ref S), some (.int t1), some (.int b1), o2]) ?_ ?_ ?_
      · exact ⟨xa, x45.at nSp hS, ⟨[], x45.at nFp hF3, rfl, fun z hz => (by cases hz), fun k z hk => by cases hk⟩, none, none, rfl⟩
      · rintro i σ H' hi ⟨xf, hS', ⟨zs, hF', hz, ht, hk⟩, o1, o2, rfl⟩
        -- own = list(stem)
        refine ⟨_, rfl, S, _, rfl, .inl (SqL.of hS'), fun W nW => ?_⟩
        have nWp : W ≠ p := xf.pool.ne nW
        have nWF : W ≠ F := fun e => by
          rw [e, hF'] at nW
          cases nW
        refine ⟨_, rfl, _, rfl, _, rfl, _, _, rfl, rfl, .inl ⟨_, rfl, _, _, rfl, rfl, (by show (0 : Int) < 26; decide), ?_⟩⟩
        have r0 : 0 ≤ (b1 + (0 + (i : Int))) % 26 := by omega
        have r1 : (b1 + (0 + (i : Int))) % 26 < 26 := by omega
        refine ⟨letters, _, 97 + ((b1 + (0 + (i : Int))) % 26).toNat, rfl, rfl, r0, by omega, ?_, letters_at (by omega), ?_⟩
        · rw [letters_len]
          exact r1
        have ht1 : t1.toNat < cs.length := by
          rw [hl]
          omega
        refine ⟨_, rfl, _, rfl, W, _, _, t1.toNat, rfl, rfl, upd_same, ?_, ?_⟩
        · rw [List.length_map, List.length_map]
          unfold ixN
          rw [if_pos t0, if_pos (by omega)]
        have eset : ((cs.map sg).map V.str).set t1.toNat (V.str (sg (97 + ((b1 + (0 + (i : Int))) % 26).toNat))) = ((cs.set t1.toNat (97 + ((b1 + (0 + (i : Int))) % 26).toNat)).map sg).map V.str := by
          rw [List.map_set, List.map_set]
        have hcs : ∀ c ∈ cs.set t1.toNat (97 + ((b1 + (0 + (i : Int))) % 26).toNat), 97 ≤ c ∧ c ≤ 122 := fun c z => by
          rcases List.mem_or_eq_of_mem_set z with z | z
          · exact hc c z
          · omega
        have hln : (cs.set t1.toNat (97 + ((b1 + (0 + (i : Int))) % 26).toNat)).length = cs.length := List.length_set
        have hat : (cs.set t1.toNat (97 + ((b1 + (0 + (i : Int))) % 26).toNat))[t1.toNat]? = some (97 + ((b1 + (0 + (i : Int))) % 26).toNat) := List.getElem?_set_self ht1
        generalize cs.set t1.toNat (97 + ((b1 + (0 + (i : Int))) % 26).toNat) = cs2 at eset hcs hln hat
        generalize eW : upd (upd H' W _) W _ = H6
        have hW : H6 W = some (.lst ((cs2.map sg).map V.str)) := by
          rw [← eW, ← eset]
          exact upd_same
        have sm : Same H' H6 := fun b o z => by
          have nb : b ≠ W := ne_of_none z nW
          rw [← eW, upd_ne nb, upd_ne nb]
          exact z
        clear eW
        refine ⟨_, rfl, .inl ⟨rfl, _, SqL.of (sm _ _ hF')⟩, ⟨_, rfl⟩, _, rfl, _, W, cs2.map sg, rfl, rfl, .inl (SqL.of hW), ?_, ?_⟩
        · have e0 := sum_sg cs2
          have e2 : (Str.ofString "").length = 0 := by decide +kernel
          rw [e0, e2]
          omega
        refine ⟨F, _, _, rfl, rfl, sm _ _ hF', ?_, ?_⟩
        · rw [List.length_map, hz]
          exact small1000 (by omega)
        refine ⟨⟨?_, fun b o n z => ?_⟩, ?_, ⟨zs ++ [Txt.join (Str.ofString "") (cs2.map sg)], ?_, ?_, ?_, ?_⟩, _, _, rfl⟩
        · obtain ⟨a, b, c, z⟩ := xf.pool
          exact ⟨a, b, c, by rw [upd_ne (Ne.symm nFp)]; exact sm _ _ z⟩
        · rw [upd_ne (ne_of_none z nF)]
          exact sm _ _ (xf.keep b o n z)
        · rw [upd_ne nSF]
          exact sm _ _ hS'
        · rw [upd_same, List.map_append]
          rfl
        · rw [List.length_append, hz]
          rfl
        · intro z hz2
          rcases List.mem_append.mp hz2 with y | y
          · exact ht z y
          · have y2 : z = Txt.join (Str.ofString "") (cs2.map sg) := List.mem_singleton.mp y
            subst y2
            have ej := join_sg cs2
            refine ⟨?_, ?_, fun c hc2 => ?_⟩
            · rw [ej]
              omega
            · rw [ej]
              omega
            · rw [ej] at hc2
              exact hcs c hc2
        · intro k z hz2
          by_cases hlt : k < zs.length
          · rw [List.getElem?_append_left hlt] at hz2
            exact hk k z hz2
          · rw [List.getElem?_append_right (by omega)] at hz2
            have e3 : k - zs.length = 0 := by
              have := (List.getElem?_eq_some_iff.mp hz2).1
              simp at this
              omega
            rw [e3] at hz2
            cases hz2
            have e4 : k = i := by omega
            subst e4
            rw [join_sg cs2]
            exact hat
      · rintro σ H' ⟨xf, hS', ⟨zs, hF', hz, ht, hk⟩, o1, o2, rfl⟩
        exact ⟨_, rfl, q F zs H' xf nF hF' (by omega) ht (nodup_at (by omega) hk)⟩
end
end K1
/-! enumerate over a tuple -/
namespace EnT
open PySem PySem.Spec
open PyProof.Rows L2
open Builtin
set_option maxHeartbeats
    4000000 in
theorem meets_enumerate_newB1 {v : Value} {o : Obj} {H : Heap → Prop} (B : Begins v o H) :
    Meets (Builtin.«enumerate.__new__» ⟨[.type "enumerate", v], []⟩) (fun _ R s => H s.heap ∧
      R (.ok (.ret (.ref (s.heap.push o).objs.size))) { s with heap := (s.heap.push o).push { cls := .type "enumerate", data := .fields #[.none, .bool false, .ref s.heap.objs.size, rawInt 0, .none, .none] } }) :=
  .of_wp fun prog w A R s hyp => by
    obtain ⟨hp, g, d, tk, os⟩ := s; obtain ⟨h1, hyp⟩ := hyp
    have hsub := sub_enumerate
    have q1 : ∀ {A' : Around} {E : Value → Shared → Prop} {Q : Value → Shared → Prop}, Q (.ref
        hp.objs.size) ⟨hp.push o, g, d, tk, os⟩ → wpAny (model prog w) A' (pyIter v) Q E ⟨hp, g, d, tk, os⟩ :=
      fun q => B.iter prog w _
          _ ⟨hp, g, d, tk, os⟩ _ h1 q
    wp_walk using q1
    refine wpAny_stack_any fun stA => wpAny_pure ?_
    split
    · rename_i c _ _ _ _ _
      cases (c == Value.type
          "enumerate")
      · wp_walk using q1
        exact ⟨_, rfl, hyp⟩
      · wp_walk using q1
        exact ⟨_, rfl, hyp⟩
    · wp_walk using q1
      exact ⟨_, rfl, hyp⟩
section
variable {prog : Program} {w : World} {A
    : Around} {E : Value → Shared → Prop} {s : Shared}
theorem enum_begins1 {v : Value} {o : Obj} {H : Heap → Prop} {Q : Value → Shared → Prop} (B : Begins v o H) (h1 : H s.heap)
    (hyp : ∀ h', IsEnum h' (s.heap.objs.size + 1) s.heap.objs.size 0 .none → h'.get? s.heap.objs.size = some o → h'.objs.size = s.heap.objs.size + 2 →
      (∀ b o, s.heap.get? b = some o → h'.get? b = some
          o) → Q (.ref (s.heap.objs.size + 1)) { s with heap := h' }) :
    wpAny (model prog w) A (call (.type "enumerate") [v]) Q E s := by
  refine callType_new F.called_enumerate (by decide) (F.typeCall_enumerate_1
      _) (F.newCall_enumerate_1 _) (fun obj => F.args_object_init_2 obj _) F.entry_enumerate_new
    (meets_enumerate_newB1 B) ⟨h1, ?_⟩
  have szA : (s.heap.push o).objs.size = s.heap.objs.size + 1 := Heap.size_push ..
  show _ ∧ _
  rw [szA]
  have enA : IsEnum ((s.heap.push o).push { cls := .type "enumerate", data := .fields #[.none, .bool false, .ref s.heap.objs.size, rawInt 0, .none, .none] }) (s.heap.objs.size + 1) s.heap.objs.size 0 .none := by
    have := Heap.get?_push_size (s.heap.push o) (o := { cls := .type "enumerate", data := .fields #[.none, .bool false, .ref s.heap.objs.size, rawInt 0, .none, .none] }) rfl
    rw [szA] at this; exact this
  refine ⟨⟨_, enA, rfl⟩, hyp _ enA (Heap.get?_push_of_some _ (Heap.get?_push_size _ B.free)) (by rw [Heap.size_push, szA]) fun b o x => Heap.get?_push_of_some _ (Heap.get?_push_of_some _ x)⟩
end
/-- the tuple at a, each item in a new pair -/
def Itet (K : PySem.W.Frag) (a : Addr) : It :=
  ⟨fun i H => ∃ (xs : List V) (x : V), SqT K H a xs ∧ xs[i]? = some x, fun i H v H' => ∃ T x, v = .ref T ∧ H T = none ∧ H' = upd H T (.tup [.int (i : Nat), x]) ∧ ∀ xs, SqT K H a xs → xs[i]? = some x, fun i H => ∃ xs : List V, SqT K H a xs ∧ xs.length ≤ i⟩
theorem turn_enumT {P : Program} {w : World} {K : PySem.W.Frag} {elts : List Expr} {kk : Nat} {tpos : Pos} (a e it : Addr) (hai : a ≠ it) (hae : e ≠ a) :
    Turn P w K (.Tuple elts kk tpos) (Itet K a) [e, it] e (fun i hyp => (∃ old, IsEnum hyp e it ((i : Nat) : Int) old) ∧ hyp.IsTupleIter it a i ∧ e ≠ it) where
  mem := by simp
  obj := fun i hyp stA b memB => by
    obtain ⟨⟨old, enA⟩, ⟨o, obA, clA, dtA⟩, _⟩ := stA
    have eqB : b = e ∨ b = it := by simpa using memB
    rcases eqB with zA | zA
    · rw [zA]; exact ⟨_, enA, fun v q => nomatch q⟩
    · rw [zA]; exact ⟨o, obA, fun v q => by rw [dtA] at q; cases q⟩
  keep := fun i hyp h' stA k => let ⟨⟨old, enA⟩, hi, neA⟩ := stA; ⟨⟨old, k e (by simp) _ enA⟩, hi.at fun o q => k it (by simp) o q, neA⟩
  item := by
    intro X hP hw hK clA i pins s σ H E Iv fpA stA hg
    subst hP hw hK
    obtain ⟨⟨old, enA⟩, itA, neA⟩ := stA
    obtain ⟨xs, x, seqA, hx⟩ := hg
    obtain ⟨vsA, relA, p, szA⟩ := Iv.tuple seqA
    obtain ⟨u, getA, rlA⟩ := relA.get hx
    have ltE : e < s.heap.objs.size := Heap.lt_size enA
    have ltI : it < s.heap.objs.size := by obtain ⟨_, q, _⟩ := itA; exact Heap.lt_size q
    have hlt : i < vsA.toArray.size := by
      have := (List.getElem?_eq_some_iff.mp getA).1
      simpa using this
    refine wpAny_pyNext_enum_itemD (Draws.tuple (A := X.A.in1) (prog := X.prog) (w := X.w) (show X.A.in1.handled = none from Iv.ok.hd clA) it a hai vsA.toArray) enA ⟨itA, p⟩ hlt neA (by simp [neA, hae]) fun x' h' tk hx' obA st' tyA hsz kpA => ?_
    have ex : x' = u := by
      have : vsA[i]? = some x' := by simpa using hx'
      rw [getA] at this
      exact (Option.some.inj
          this).symm
    subst ex
    refine ⟨_, rfl, wpAny_letOwnedTupleGo_enum (s := { s with heap := h', toks := tk + 1 }) obA fun h'' he' sameB => ?_⟩
    have hT2 : h''.get? s.heap.objs.size = some { cls := .type "tuple", data := .seq #[.int i tk, x'] } := (sameB.2 _ (Nat.ne_of_gt ltE)).trans tyA
    have new : ObjOk X.prog X.w (upd H s.heap.objs.size (.tup [.int
        (i : Nat), x])) h'' s.heap.objs.size (.tup [.int (i : Nat), x]) :=
      ⟨by show 2 ≤ sizeLine; decide, [.int i tk, x'], .cons ⟨_, rfl⟩ (.cons rlA .nil), ⟨_, hT2, rfl, _, rfl⟩⟩
    have Iv1 : Inv X pins σ (upd H s.heap.objs.size (.tup [.int (i : Nat), x])) { s with heap := h'', toks := tk + 1 } :=
      Iv.turnedNew (ch := [e, it]) (fun b ob memB q => (sameB.2 b (fun zA => memB (by simp [zA]))).trans (kpA b ob (fun zA => memB (by simp [zA])) (fun zA => memB (by simp [zA])) q)) fpA (Nat.le_refl _) new
    refine ⟨.ref s.heap.objs.size, _, Iv1, rfl, ⟨_, x, rfl, Iv.hok.fresh (Nat.le_refl _), rfl, fun ys hy => by rw [Iv.tuple_inj hy seqA]; exact hx⟩, ⟨⟨x', ?_⟩, st'.1.at fun o q => (sameB.2 it (Ne.symm neA)).trans q, neA⟩, fun b memB => ?_⟩
    · have eqA : ((i + 1 : Nat) : Int) = (i : Int) + 1 := by omega
      rw [eqA]; exact he'
    · have ltB : b < s.heap.objs.size := by
        have eqB : b = e ∨ b = it := by simpa using memB
        rcases eqB with zA | zA
        · rw [zA]; exact ltE
        · rw [zA]; exact ltI
      rw [upd_ne (Nat.ne_of_lt ltB)]
      exact (fpA b memB).1
  done := by
    intro X hP hw hK clA i pins s σ H E Iv fpA stA hg
    subst hP hw hK
    obtain ⟨⟨old, enA⟩, itA, neA⟩ := stA
    obtain ⟨xs, seqA, hx⟩ := hg
    obtain ⟨vsA, relA, p, szA⟩ := Iv.tuple seqA
    obtain ⟨f0, f1, f2, f3, f4, f5⟩ := fpA it (by simp)
    have hl := relA.length
    have tyA : s.TypeIs (.ref e) "enumerate" := ⟨_, enA, rfl⟩
    unfold pyNext
    refine wpAny_bind (wpAny_attempt (wpAny_callSpecial?_slot (name := Str.ofString "__next__") tyA F.slot_enumerate_next
      (wpAny_call_entry F.slot_enumerate_next tyA F.entry_enumerate_next ?_ (F.args_enumerate_next_1 _))))
    show wpAny _ _ (field
        (.ref e) 2 >>= _) _ _ _
    refine wpAny_bind (wpAny_field enA rfl (x := .ref it) rfl ?_)
    refine wpAny_bind (wpAny_nextOf_tuple_end (A := X.A.in1) (show X.A.in1.handled = none from Iv.ok.hd clA) itA p (by simp; omega) fun h' x he' hx' => ?_)
    obtain ⟨o, obA, hcl⟩ := hx'
    refine wpAny_bind (wpAny_isInstance (T := "StopIteration") (b := true) ⟨o, obA, hcl⟩ isSubtype_stop ?_)
    exact wpAny_pure ⟨rfl, Iv.turned (t' := s.toks) (fun b o memB q => he' b o memB q) f0 f1 f3 f4 f5⟩
  self := fun A i s Q E stA hyp => let ⟨⟨_, enA⟩, _⟩ := stA; wpAny_pyIter_enum enA hyp
def iEnumT (K : PySem.W.Frag) (ta : TA) : TI := fun σ H R => ta σ H fun vs H1 => ∃ a xs, vs = [.ref a] ∧ SqT K H1 a xs ∧ R (Itet K a) H1
theorem pi_enumT {X : Cx} {e : Expr} {ta : TA} {p pos tpos : Pos} {elts : List Expr} {kk : Nat} (hg : Gl X "enumerate") (hm : X.mg "enumerate" = none) (ha : PA X [e] ta) (hs : starEach [e] X.env = [(false, eval e X.env)] := by rfl) :
    PI X (.Tuple elts kk tpos) (.Call (.Name "enumerate" p) [e] [] pos) (iEnumT X.K ta) := by
  refine ⟨fun pins s σ H R Iv hyp => ?_⟩
  refine Call_ (ld_blt Iv hg hm boot_enumerate (PyProof.Rows.callWith_type1 (thn (ha.run pos pins s σ H _ Iv hyp) fun us s1 ⟨vs, H1, Iv1, r1, q1⟩ => ?_) hs rfl))
  obtain ⟨a, xs, ex, seqA, q⟩ := q1
  subst ex
  cases r1 with
  | cons r rr =>
    cases rr
    cases r
    obtain ⟨vsA, relA, p', szA⟩ := Iv1.tuple seqA
    have hal : a < s1.heap.objs.size := by
      obtain ⟨_, q, _⟩ := p'
      exact Heap.lt_size q
    refine enum_begins1 (begins_tuple a vsA.toArray) p' fun h' enA itA hsz kpA => wpAny_pyIter_enum enA ?_
    have Iv2 : Inv X pins σ H1 { s1 with heap := h' } := Iv1.kept (t' := s1.toks) kpA
    refine ⟨s1.heap.objs.size + 1, [s1.heap.objs.size + 1, s1.heap.objs.size], _, _, H1, rfl, Iv2, turn_enumT a (s1.heap.objs.size + 1) s1.heap.objs.size (Nat.ne_of_lt hal) (Nat.ne_of_gt (Nat.lt_succ_of_lt hal)), ⟨⟨.none, enA⟩, ⟨_, itA, rfl, rfl⟩, Nat.succ_ne_self _⟩, fun b memB => ?_, q⟩
    have eqB : b = s1.heap.objs.size + 1 ∨ b = s1.heap.objs.size := by simpa using memB
    have leB : s1.heap.objs.size ≤ b := by
      rcases eqB with zA | zA
      · rw [zA]; exact Nat.le_add_right _ _
      · rw [zA]; exact Nat.le_refl _
    exact Iv1.fpOk leB (Iv1.hok.fresh leB)
theorem walk_enumT {K : PySem.W.Frag} {a : Addr} {xs : List V} : Walk (Itet K a) xs.length (fun H => SqT K H a xs) (YPair (fun i => some (.int (i : Nat))) (fun i => xs[i]?)) := by
  refine ⟨fun i _ hi q => ⟨xs, xs[i], q, by simp [hi]⟩,
      fun _ q => ⟨xs, q, Nat.le_refl _⟩, fun i H v H' _ q y => ?_⟩
  obtain ⟨T, x, h1,
      h2, h3, h4⟩ := y
  exact ⟨T, .int (i : Nat),
      x, h1, h2, h3, rfl, h4 xs q⟩
end EnT
namespace K1
open PySem PySem.Spec
open PyProof.Rows L2
open TL hiding len_tl
/-! ### what a name is -/
def nameB (z : Str) : Bool := if 8 < z.length then false else if Txt.isascii z = false then false else if Txt.isalnum z = false then false else if Txt.isalpha (sg (z.cps.getD 0 0)) = false then false else decide (z = Txt.lower z)
theorem alnum_all : ((List.range 128).all fun c => !((97 ≤ c && c ≤ 122) || (48 ≤ c && c ≤ 57)) || Unicode.isAlnum c) = true := by decide +kernel
theorem alpha_all : ((List.range 128).all fun c => !(97 ≤ c && c ≤ 122) || Unicode.isAlpha c) = true := by decide +kernel
theorem lo1_all : ((List.range 128).all fun c => !((97 ≤ c && c ≤ 122) || (48 ≤ c && c ≤ 57)) || PyProof.Rows.lo1 c == c) = true := by decide +kernel
theorem small_at {p : Nat → Bool} (h : ((List.range 128).all p) = true) {c : Nat} (hc : c < 128) : p c = true := (List.all_eq_true.mp h) c (List.mem_range.mpr hc)
def NameCh (c : Nat) : Prop := (97 ≤ c ∧ c ≤ 122) ∨ (48 ≤ c ∧ c ≤ 57)
theorem name_of {z : Str} (h1 : 1 ≤ (tl z).length) (h8 : (tl z).length ≤ 8) (ha : ∀ c ∈ tl z, NameCh c) (hf : ∀ c r, tl z = c :: r → 97 ≤ c ∧ c ≤ 122) : nameB z = true := by
  have hl : z.length = (tl z).length := TL.len_tl z
  have h128 : ∀ c ∈ tl z, c < 128 := fun c hc => by
    rcases ha c hc with q | q <;> omega
  have e1 : Txt.isascii z = true := by
    show z.cps.all (· < 128) = true
    rw [← Array.all_toList]
    exact List.all_eq_true.mpr fun c hc => decide_eq_true (h128 c hc)
  have e2 : Txt.isalnum z = true := by
    show (decide (z.length > 0) && z.cps.all Unicode.isAlnum) = true
    rw [decide_eq_true (by omega), ← Array.all_toList, Bool.true_and]
    refine List.all_eq_true.mpr fun c hc => ?_
    have q := small_at alnum_all (h128 c hc)
    rcases ha c hc with y | y
    · simpa [y.1, y.2] using q
    · simpa [y.1, y.2] using q
  obtain ⟨c, r, er⟩ : ∃ c r, tl z = c :: r := by
    cases e : tl z with
    | nil =>
      rw [e] at h1
      cases h1
    | cons c r => exact ⟨c, r, rfl⟩
  have e0 : z.cps.getD 0 0 = c := by
    have q : z.cps.getD 0 0 = (tl z).getD 0 0 := by simp [Array.getD_eq_getD_getElem?]
    rw [q, er]
    rfl
  have e3 : Txt.isalpha (sg c) = true := by
    have hc := hf c r er
    have q := small_at alpha_all (h128 c (by rw [er]; exact List.mem_cons_self))
    have q2 : Unicode.isAlpha c = true := by simpa [hc.1, hc.2] using q
    show (decide ((sg c).length > 0) && (sg c).cps.all Unicode.isAlpha) = true
    have e : (sg c).cps.all Unicode.isAlpha = true := by simp [q2]
    rw [e]
    rfl
  have e4 : Txt.lower z = z := by
    rw [lower_ascii h128]
    refine ext_tl ?_
    show (z.cps.map lo1).toList = tl z
    rw [Array.toList_map]
    have q : ∀ l : List Nat, (∀ c ∈ l, NameCh c) → l.map lo1 = l := fun l => by
      induction l with
      | nil => exact fun _ => rfl
      | cons a t ih =>
        intro h
        rw [List.map_cons, ih fun c hc => h c (List.mem_cons_of_mem _ hc)]
        have hn := h a List.mem_cons_self
        have h128 : a < 128 := by rcases hn with y | y <;> omega
        have q := small_at lo1_all h128
        have q2 : lo1 a = a := by
          rcases hn with y | y
          · simpa [y.1, y.2] using q
          · simpa [y.1, y.2] using q
        rw [q2]
    exact q _ ha
  unfold nameB
  rw [if_neg (by omega), e1, if_neg (by decide), e2, if_neg (by decide), e0, e3, if_neg (by decide), e4]
  exact decide_eq_true rfl
theorem tag_name {z : Str} (h : Tag z) : nameB z = true := name_of h.lo (Nat.le_trans h.hi (by decide)) (fun c hc => .inl (h.low c hc)) fun c r e => h.low c (by rw [e]; exact List.mem_cons_self)
/-! ### is_name -/
/-! ### values that are no texts -/
inductive NoStr (H : Hp) : V → Prop where
  | non : NoStr H .non
  | bl (b : Bool) : NoStr H (.bl b)
  | int (i : Int) : NoStr H (.int i)
  | lst {a : Addr} {xs : List V} (e : H a = some (.lst xs)) : NoStr H (.ref a)
  | tup {a : Addr} {xs : List V} (e : H a = some (.tup xs)) : NoStr H (.ref a)
  | dK {a : Addr} {kvs : List (Key × V)} (e : H a = some (.dK kvs)) : NoStr H (.ref a)
theorem NoStr.same {H H' : Hp} {v : V} (s : Same H H') (h : NoStr H v) : NoStr H' v := by
  cases h with
  | non => exact .non
  | bl b => exact .bl b
  | int i => exact .int i
  | lst e => exact .lst (s _ _ e)
  | tup e => exact .tup (s _ _ e)
  | dK e => exact .dK (s _ _ e)
theorem NoStr.ty {K : PySem.W.Frag} {H : Hp} {v : V} (h : NoStr H v) : ∃ t, TyX K H v t ∧ PySem.W.kitOne K t (.type "str") = some false := by
  cases h with
  | non => exact ⟨_, .base .non, kit_ty (by decide +kernel)⟩
  | bl b => exact ⟨_, .base (.bl b), kit_ty (by decide +kernel)⟩
  | int i => exact ⟨_, .base (.int i), kit_ty (by decide +kernel)⟩
  | lst e => exact ⟨_, .base (.lst e), kit_ty (by decide +kernel)⟩
  | tup e => exact ⟨_, .base (.tup e), kit_ty (by decide +kernel)⟩
  | dK e => exact ⟨_, .base (.dK e), kit_ty (by decide +kernel)⟩
def nameV : V → Bool
  | .str z => nameB z
  | _ => false
theorem NoStr.name {H : Hp} {v : V} (h : NoStr H v) : nameV v = false := by
  cases h <;> rfl
/-- a value that is_name may be asked of -/
def VOk (H : Hp) (v : V) : Prop := (∃ z, v = .str z ∧ z.length ≤ sizeLine) ∨ NoStr H v
theorem VOk.same {H H' : Hp} {v : V} (s : Same H H') (h : VOk H v) : VOk H' v := h.elim .inl fun n => .inr (n.same s)
def spIsName : Sp := fun vs H Q _ => ∃ v, vs = [v] ∧ VOk H v ∧ Q (.bl (nameV v)) H
section
variable {w : World} {P : Program}
variable {base : Heap} {mg : Str → Option Value} {K : PySem.W.Frag}
theorem scIsName : FnScope ["value"] ["value"] (defScope sIsName) := ⟨rfl, rfl, rfl, by decide +kernel, rfl, by decide +kernel, by decide +kernel⟩
theorem ok_isname {f : Addr} {fd : FuncData} (F : Fun K "is_name" "is_name" sIsName f fd) (T : Free mg) (mgL : ∃ t, mg "LONGEST_NAME" = some (.int 8 t)) : FnOk P w K mg base CX0 1 f fd ["value"] spIsName := by
  obtain ⟨tL, mgL⟩ := mgL
  refine F.ok scIsName (fun vs H Q E h => ?_) (fun cdv A outer s H vs Q E hr h => ?_)
  · obtain ⟨v, rfl, _⟩ := h
    rfl
  · obtain ⟨v, rfl, h⟩ := h
    refine ⟨_, pss_cons (ps_if (PW.pt (pw_or (pt_not (pt_val (pe_callB call_isi (by rfl) T.isinstance (by decide +kernel) (pa_cons (pv 0) (pa_cons (pe_bltn (v := .ty "str") (u := .type "str") (by rfl) T.str (by decide +kernel) rfl) pa_nil)))))
          (pw_or1 (pt_cmpR op_gt (pe_callB call_len_str (by rfl) T.len PySem.boot_len (pa_cons (pv 0) pa_nil)) (pe_glob (v := .int 8) rfl mgL ⟨_, rfl⟩) (nomark _))))) (pss_one (ps_ret pe_bl)) pss_nil)
      (pss_cons (ps_if (PW.pt (pw_or (pt_not (pt_val (pe_m0 PySem.F.slot_str_isascii PySem.F.type_str_isascii mt_isascii (pv 0)))) (pw_or1 (pt_not (pt_val (pe_m0 PySem.F.slot_str_isalnum PySem.F.type_str_isalnum mt_isalnum (pv 0))))))) (pss_one (ps_ret pe_bl)) pss_nil)
      (pss_one (ps_ret (pe_and (pe_m0 PySem.F.slot_str_isalpha PySem.F.type_str_isalpha mt_isalpha (pe_item_str (pv 0) pe_int (fun _ _ => rfl))) (pe_one (pe_cmpR op_eq (pv 0) (pe_lower (pv 0)) (nomark _))))))), ?_⟩
    obtain ⟨hv, q⟩ := h
    rcases hv with ⟨z, rfl, hz⟩ | n
    · refine ⟨_, rfl, _, _, _, _, true, rfl, .ty _, .base (.str z), kit_ty (by decide +kernel), true, rfl, ?_⟩
      refine iteF ?_
      refine ⟨_, rfl, z, rfl, hz, _, _, rfl, rfl, _, rfl, ?_⟩
      have q : Q (.bl (nameB z)) H := q
      unfold nameB at q
      by_cases h8 : 8 < z.length
      · rw [decide_eq_true (by omega)]
        rw [if_pos h8] at q
        exact iteT q
      rw [decide_eq_false
          (by omega)]
      rw [if_neg h8] at q
      refine iteF ?_
      refine ⟨_, rfl, ⟨_, rfl⟩, _, rfl, rfl, True.intro, _, rfl, ?_⟩
      cases ea : Txt.isascii z with
      | false =>
        rw [ea, if_pos rfl] at q
        exact iteT (iteT q)
      | true =>
        rw [ea, if_neg (by decide)] at q
        refine iteF ?_
        refine ⟨_, rfl, ⟨_, rfl⟩, _, rfl, rfl, True.intro, _, rfl, ?_⟩
        cases en : Txt.isalnum z with
        | false =>
          rw [en, if_pos rfl] at q
          exact iteT q
        | true =>
          rw [en, if_neg (by decide)] at q
          refine iteF ?_
          have hpos : 0 < z.length := by
            have e : (decide (z.length > 0) && z.cps.all Unicode.isAlnum) = true := en
            simp only [Bool.and_eq_true, decide_eq_true_eq] at e
            exact e.1
          have hcp : z.cps[(0 : Int).toNat]? = some (z.cps.getD 0 0) := by
            have h0 : 0 < z.cps.size := hpos
            show z.cps[0]? = _
            rw [Array.getD_eq_getD_getElem?, Array.getElem?_eq_getElem h0]
            rfl
          refine ⟨_, rfl, z, 0, z.cps.getD 0 0, rfl, rfl, by decide, by decide, by omega, hcp, ⟨_, rfl⟩, _, rfl, rfl, True.intro, _, rfl, ?_⟩
          cases el : Txt.isalpha (sg (z.cps.getD 0 0)) with
          | false =>
            rw [el, if_pos rfl] at q
            exact iteF q
          | true =>
            rw [el, if_neg (by decide)] at q
            refine iteT ?_
            refine ⟨_, rfl, _, rfl, ⟨_, rfl⟩, _, rfl, rfl, by omega, rfl, ?_⟩
            have e : decide (V.str z = V.str (Txt.lower z)) = decide (z = Txt.lower z) := by
              by_cases h : z = Txt.lower z
              · rw [decide_eq_true h, decide_eq_true (congrArg V.str h)]
              · rw [decide_eq_false h, decide_eq_false fun y => h (V.str.inj y)]
            show Q (V.bl (decide (V.str z = V.str (Txt.lower z)))) H
            rw [e]
            exact q
    · obtain ⟨t, ty, kt⟩ := n.ty (K := K)
      rw [n.name] at q
      refine ⟨_, rfl, _, _, _, _, false, rfl, .ty _, ty, kt, false, rfl, ?_⟩
      exact iteT (iteT q)
end
end K1
namespace K1
open PySem PySem.Spec PyProof.Rows L2 EnT
/-! ### wrong_at -/
def wrongIx (xs : List V) : Option Nat := xs.findIdx? fun v => !nameV v
def optInt : Option Nat → V
  | some i => .int i
  | none => .non
theorem wrong_some {xs : List V} {i : Nat} {v : V} (hv : xs[i]? = some v) (hn : nameV v = false) (h : (xs.take i).all nameV = true) : wrongIx xs = some i := by
  unfold wrongIx
  rw [List.findIdx?_eq_some_iff_getElem]
  obtain ⟨hi, e⟩ := List.getElem?_eq_some_iff.mp hv
  refine ⟨hi, by rw [e, hn]; rfl, fun j hj => ?_⟩
  have q := (List.all_eq_true.mp h) (xs[j]'(Nat.lt_trans hj hi)) (List.mem_iff_getElem.mpr ⟨j, by rw [List.length_take]; omega, by rw [List.getElem_take]⟩)
  rw [q]
  decide
theorem wrong_none {xs : List V} (h : xs.all nameV = true) : wrongIx xs = none := by
  unfold wrongIx
  rw [List.findIdx?_eq_none_iff]
  intro x hx
  rw [(List.all_eq_true.mp h) x hx]
  rfl
theorem take_all_succ {xs : List V} {i : Nat} {v : V} (hv : xs[i]? = some v) (hn : nameV v = true) (h : (xs.take i).all nameV = true) : (xs.take (i + 1)).all nameV = true := by
  rw [List.take_succ, hv, List.all_append, h]
  simp [hn]
def spWrongT (K : PySem.W.Frag) : Sp := fun vs H Q _ => ∃ (a : Addr) (xs : List V), vs = [.ref a] ∧ SqT K H a xs ∧ (∀ v ∈ xs, VOk H v) ∧ ∀ H', Same H H' → Q (optInt (wrongIx xs)) H'
def spWrongL (K : PySem.W.Frag) : Sp := fun vs H Q _ => ∃ (a : Addr) (xs : List V), vs = [.ref a] ∧ SqL K H a xs ∧ (∀ v ∈ xs, VOk H v) ∧ ∀ H', Same H H' → Q (optInt (wrongIx xs)) H'
theorem sameT {K : PySem.W.Frag} {H H' : Hp} {a : Addr} {xs : List V} (e : Same H H') (h : SqT K H a xs) : SqT K H' a xs := by
  rcases h with h | h
  · rcases h with h | ⟨o, h⟩
    · exact .inl (.inl (e _ _ h))
    · exact .inl (.inr
          ⟨o, e _ _ h⟩)
  · exact .inr h
section
variable {w : World} {P : Program}
variable {base : Heap} {mg : Str → Option Value} {K : PySem.W.Frag}
theorem scWrong : FnScope ["values", "at", "value"] ["values"] (defScope sWrong) := ⟨rfl, rfl, rfl, by decide +kernel, rfl, by decide +kernel, by decide +kernel⟩
theorem ok_wrongT {f fN : Addr} {fd fdN : FuncData} (F : Fun K "wrong_at" "wrong_at" sWrong f fd) (T : Free mg) (GN : FnOk P w K mg base CX0 1 fN fdN ["value"] spIsName) (FN : Fun K "is_name" "is_name" sIsName fN fdN) (mgN : mg "is_name" = some (.ref fN)) :
    FnOk P w K mg base CX0 2 f fd ["values"] (spWrongT K) := by
  have bN : Binds K fdN ["value"] [] := FN.binds (ps := ["value"]) fun _ _ _ _ _ _ us hl => match us, hl with | [_], _ => rfl
  refine F.ok scWrong (fun vs H Q E h => ?_) (fun cdv A outer s H vs Q E hr h => ?_)
  · obtain ⟨a, xs, rfl, _⟩ := h
    rfl
  · obtain ⟨a, xs, rfl, hS, hv, q⟩ := h
    refine ⟨_, pss_cons (ps_for PassesOwn.never rfl (pi_enumT (by rfl) T.enumerate (pa_cons (pv 0) pa_nil)) (pg_tup rfl (pgs_cons (pg_name (i := 1) scWrong.nd rfl (.inl rfl)) (pgs_cons (pg_name (i := 2) scWrong.nd rfl (.inl rfl)) pgs_nil)))
        (pss_one (ps_if (pt_not (pt_val (pe_call GN hr rfl mgN FN.kp bN .nil pass0 (pa_cons (pv 2) pa_nil)))) (pss_one (ps_ret (pv 1))) pss_nil)))
      (pss_one (ps_ret pe_non)), ?_⟩
    refine ⟨_, rfl, a, xs, rfl, hS, ?_⟩
    refine for_it (walk_enumT (xs := xs)) (fun i σ H' => Same H H' ∧ (xs.take i).all nameV = true ∧ ∃ o1 o2 : Option V, σ = [some (.ref a), o1, o2]) ?_ ?_ ?_ ?_
    · exact ⟨Same.refl H, rfl, none, none, rfl⟩
    · rintro i σ H' hi ⟨sm, _⟩
      exact sameT sm hS
    · rintro i x σ H1 H2 hi ⟨sm, ha, o1, o2, rfl⟩ ⟨t, y1, y2, rfl, nt, rfl, e1, e2⟩
      cases e1
      refine ⟨t, _, rfl, SqT.of upd_same, rfl, _, _, rfl, _, _, rfl, rfl, ?_⟩
      have sm2 : Same H (upd H1 t (.tup [.int (i : Nat), y2])) := sm.trans (same_upd nt)
      have hm : y2 ∈ xs := List.mem_of_getElem? e2
      refine ⟨_, rfl, _, rfl, (hv y2 hm).same sm2, _, rfl, ?_⟩
      cases en : nameV y2 with
      | false =>
        refine iteT ⟨_, rfl, ?_⟩
        have z := q _ sm2
        rw [wrong_some e2 en ha] at z
        exact z
      | true =>
        refine iteF ⟨sm2, take_all_succ e2 en ha, _, _, rfl⟩
    · rintro σ H' ⟨sm, ha, o1, o2, rfl⟩
      have z := q _ sm
      rw [List.take_length] at ha
      rw [wrong_none ha] at z
      exact z
theorem ok_wrongL {f fN : Addr} {fd fdN : FuncData} (F : Fun K "wrong_at" "wrong_at" sWrong f fd) (T : Free mg) (GN : FnOk P w K mg base CX0 1 fN fdN ["value"] spIsName) (FN : Fun K "is_name" "is_name" sIsName fN fdN) (mgN : mg "is_name" = some (.ref fN)) :
    FnOk P w K mg base CX0 2 f fd ["values"] (spWrongL K) := by
  have bN : Binds K fdN ["value"] [] := FN.binds (ps := ["value"]) fun _ _ _ _ _ _ us hl => match us, hl with | [_], _ => rfl
  refine F.ok scWrong (fun vs H Q E h => ?_) (fun cdv A outer s H vs Q E hr h => ?_)
  · obtain ⟨a, xs, rfl, _⟩ := h
    rfl
  · obtain ⟨a, xs, rfl, hS, hv, q⟩ := h
    refine ⟨_, pss_cons (ps_for PassesOwn.never rfl (pi_enum (by rfl) T.enumerate (pa_cons (pv 0) pa_nil)) (pg_tup rfl (pgs_cons (pg_name (i := 1) scWrong.nd rfl (.inl rfl)) (pgs_cons (pg_name (i := 2) scWrong.nd rfl (.inl rfl)) pgs_nil)))
        (pss_one (ps_if (pt_not (pt_val (pe_call GN hr rfl mgN FN.kp bN .nil pass0 (pa_cons (pv 2) pa_nil)))) (pss_one (ps_ret (pv 1))) pss_nil)))
      (pss_one (ps_ret pe_non)), ?_⟩
    refine ⟨_, rfl, a, xs, rfl, hS, ?_⟩
    refine for_it (walk_enum (xs := xs)) (fun i σ H' => Same H H' ∧ (xs.take i).all nameV = true ∧ ∃ o1 o2 : Option V, σ = [some (.ref a), o1, o2]) ?_ ?_ ?_ ?_
    · exact ⟨Same.refl H, rfl, none, none, rfl⟩
    · rintro i σ H' hi ⟨sm, _⟩
      exact sm.seq hS
    · rintro i x σ H1 H2 hi ⟨sm, ha, o1, o2, rfl⟩ ⟨t, y1, y2, rfl, nt, rfl, e1, e2⟩
      cases e1
      refine ⟨t, _, rfl, SqT.of upd_same, rfl, _, _, rfl, _, _, rfl, rfl, ?_⟩
      have sm2 : Same H (upd H1 t (.tup [.int (i : Nat), y2])) := sm.trans (same_upd nt)
      have hm : y2 ∈ xs := List.mem_of_getElem? e2
      refine ⟨_, rfl, _, rfl, (hv y2 hm).same sm2, _, rfl, ?_⟩
      cases en : nameV y2 with
      | false =>
        refine iteT ⟨_, rfl, ?_⟩
        have z := q _ sm2
        rw [wrong_some e2 en ha] at z
        exact z
      | true =>
        refine iteF ⟨sm2, take_all_succ e2 en ha, _, _, rfl⟩
    · rintro σ H' ⟨sm, ha, o1, o2, rfl⟩
      have z := q _ sm
      rw [List.take_length] at ha
      rw [wrong_none ha] at z
      exact z
end
end K1
/-! static methods called through their class; instances made by a starred or an empty argument list -/
namespace SmX
open PySem PySem.Spec PyProof.Rows L2 StX ClX
section
variable {X : Cx} {CX : CXT} {k i : Nat} {f C : Addr} {sp : Sp} {E : XK}
    {x m : Str} {e o : Expr} {es : List Expr} {te ta : TE} {t : TA} {p sp_ pos apos : Pos}
/-- C(*y) -/
theorem pe_makeS1 (M : Mk X.K C f) (F : FnR X.prog X.w X.K X.mg X.base CX k f sp) (hr : Room (k + 1) X.A) (hg : Gl X x) (hm : X.mg x = some (.ref C)) (hx : Passes CX X E) (he : PE X e te) (hd : (x == ("__debug__" : Str)) = false := by decide)
    (hst : starEach [.Starred e sp_] X.env
        = [(true, eval e X.env)] := by rfl) :
    PE X (.Call (.Name x p) [.Starred e sp_] [] pos) (fun σ H Q => te σ H fun y H1 => ∃ a xs, y = V.ref a ∧ (SqT X.K H1 a xs ∨ SqL X.K H1 a xs) ∧ ∀ x dx, H1 x = Option.none → H1 dx = Option.none → dx ≠ x →
      sp (V.ref x :: xs) (upd (upd H1 dx (.own x)) x (.ins C dx [])) (fun v H2 => v = .non ∧ Q (.ref x) H2) E) := by
  refine ⟨fun pins s σ H Q Iv hyp => ?_⟩
  refine wpAny_Call_Name_kw (ld_glob Iv hg hm ?_ hd)
  refine PySem.W.callWith_S (h₀ := X.base) Iv.ok.mod.kin M.kp (thn (he.run pins s σ H _ Iv hyp) fun v st1 ⟨y, H1, Iv1, relY, a, xs, ey, hxs, cont⟩ => ?_) hst
  subst ey
  obtain rfl : v = Value.ref a := relY
  exact star_any Iv1 hxs fun us st2 Iv2 rv => ⟨Iv2.kIn, run_makeR M F hr hx Iv2 rv cont⟩
/-- C() -/
theorem pe_makeR0 (M : Mk X.K C f) (F : FnR X.prog X.w X.K X.mg X.base CX k f sp) (hr : Room (k + 1) X.A) (hg : Gl X x) (hm : X.mg x = some (.ref C)) (hx : Passes CX X E) (hd : (x == ("__debug__" : Str)) = false := by decide) :
    PE X (.Call (.Name x p) [] [] pos) (tMakeR C sp E tNil) := by
  refine ⟨fun pins s σ H Q Iv hyp => ?_⟩
  refine wpAny_Call_Name_kw (ld_glob Iv hg hm ?_ hd)
  exact PySem.W.callWith_K0 Iv.kIn M.kp (run_makeR (us := []) (vs := []) M F hr hx Iv .nil hyp)
end
/-- C.m is a staticmethod: its record at p, its def at g -/
structure SMet (K : PySem.W.Frag) (C : Addr) (mc : Value) (m : Str) (p g : Addr) : Prop where
  at_ : PySem.W.findCls K (.ref C) mc m = some (.get (.builtin "staticmethod.__get__") (.ref p) .none (.ref C))
  rc : ∃ rest, PySem.W.recIn K p "staticmethod" = some (.ref g :: rest)
  kp : PySem.W.keepIn K (.ref g) = true
def tSMeth (C : Addr) (sp : Sp) (E : XK) (ta : TE) (t : TA) : TE := fun σ H Q => ta σ H fun x H1 => x = .ref C ∧ t σ H1 fun vs H2 => sp vs H2 Q E
def tSMethK (C : Addr) (m : Nat) (sp : Sp) (gV : List V → List V → List V) (E : XK) (ta : TE) (tk : TA) : TE := fun σ H Q => ta σ H fun x H1 => x = .ref C ∧ tk σ H1 fun zs H2 => zs.length = m ∧ sp (gV [] zs) H2 Q E
section
variable {X : Cx} {CX : CXT} {k : Nat} {C p g : Addr} {mc : Value} {sp : Sp} {E : XK} {o e : Expr} {es : List Expr} {f m : Str} {pos apos : Pos} {ta : TE} {t tk : TA} {pl : Sem Bool} {pins : List (Addr × Obj)} {σ : L2.St} {H : Hp} {s : Shared} {A : Around} {E' : Value → Shared → Prop}
theorem getmethsm_ok {Q : Value × List Value → Shared → Prop} (Iv : Inv X pins σ H s) (r : CRead X.K C mc) (k : SMet X.K C mc m p g) (hyp : ∀ s', Inv X pins σ H s' → Q (.ref g, []) s') : wpAny (model X.prog X.w) A (getMethod (.ref C) m pl) Q E' s := by
  obtain ⟨rest, hp⟩ := k.rc
  refine PySem.W.method_cls Iv.kIn r.ga (PySem.W.cls_bind Iv.kIn r.rd k.at_ ?_)
  exact wpAny_call (PySem.W.sm_get (s := { s with toks := s.toks + 1 }) Iv.kIn hp (PySem.W.handed_on rfl (hyp _ (Iv.tok _))))
theorem pe_smeth (he : PE X o ta) (r : CRead X.K C mc) (c : SMet X.K C mc m p g) (F : FnR X.prog X.w X.K X.mg X.base CX k g sp) (hr : Room k X.A) (hx : Passes CX X E) (ha : PA X (e :: es) t)
    (hst : starEach (e :: es) X.env = (false, eval e X.env) :: starEach es
        X.env := by rfl) (hpl : (backTo pos (starEach es X.env)).any (·.1) = false := by rfl)
    (ht : eval (.Call (.Attribute o
        m apos) (e :: es) [] pos) X.env = (do
      let ov ← eval o X.env
      standAt apos.atName
      let (f, first) ← holding
          [ov] (getMethod ov m pl)
      callWith pos f first (backTo pos (starEach (e :: es)
          X.env)) (backToKw pos (keywordEach [] X.env))) := by rfl) :
    PE X (.Call (.Attribute o m apos) (e :: es) [] pos) (tSMeth C sp E ta t) := by
  refine ⟨fun pins s σ H Q Iv hyp => ?_⟩
  refine PySem.W.methodCall_KW (pl := pl) (thn (he.run pins s σ H _ Iv hyp) fun usV st1 ⟨x, H1, Iv1, relX, ex, cont⟩ => ?_) ht
  subst ex
  obtain rfl : usV = Value.ref C := relX
  refine getmethsm_ok Iv1 r c fun st2 Iv2 => ?_
  refine PySem.W.callWith_K (h₀ := X.base) Iv.ok.mod.kin c.kp (thn (ha.run pos pins st2 σ H1 _ Iv2 cont) fun us st3 ⟨vs, H2, Iv3, rv, q2⟩ => ⟨Iv3.kIn, ?_⟩) hst hpl
  exact wpAny_call (run_fnR F hr hx Iv3 rv q2)
theorem pe_smethK {fd : FuncData} {ps ks : List Str} {kws : List Keyword} {gg : List Value → List Value → List Value} {gV : List V → List V → List V} (he : PE X o ta) (r : CRead X.K C mc) (c : SMet X.K C mc m p g) (F : FnOk X.prog X.w X.K X.mg X.base CX k g fd ps sp) (hb : KBn X.K fd ps 0 ks gg gV) (hr : Room k X.A) (hx : Passes CX X E) (hkw : PK X kws tk)
    (hall : (backToKw pos (keywordEach kws X.env)).all (·.1.isSome) = true := by rfl) (hks : (backToKw pos (keywordEach kws X.env)).filterMap (·.1) = ks := by rfl)
    (hpl : ((backTo pos (starEach [] X.env)).any (·.1) || (backToKw pos (keywordEach kws X.env)).any (·.1.isNone)) = false := by rfl)
    (ht : eval (.Call (.Attribute o m apos) [] kws pos) X.env = (do
      let ov ← eval o X.env
      standAt apos.atName
      let (f, first) ← holding
          [ov] (getMethod ov m pl)
      callWith pos f first (backTo pos (starEach [] X.env)) (backToKw pos (keywordEach kws X.env))) := by rfl) :
    PE X (.Call (.Attribute o m apos) [] kws pos) (tSMethK C ks.length sp gV E ta tk) := by
  refine ⟨fun pins s σ H Q Iv hyp => ?_⟩
  refine PySem.W.methodCall_KW (pl := pl) (thn (he.run pins s σ H _ Iv hyp) fun usV st1 ⟨x, H1, Iv1, relX, ex, cont⟩ => ?_) ht
  subst ex
  obtain rfl : usV = Value.ref C := relX
  refine getmethsm_ok Iv1 r c fun st2 Iv2 => ?_
  refine PySem.W.callWith_KW0 (h₀ := X.base) Iv.ok.mod.kin c.kp hall ?_ hpl
  refine thn (hkw.run pos pins st2 σ H1 _ Iv2 cont) fun ws st3 ⟨zs, H2, Iv3, rz, l2, q2⟩ => ⟨Iv3.kIn, ?_⟩
  rw [hks]
  exact run_fnN (us := []) (vs := []) (n := 0) F hr hb hx Iv3 .nil rz rfl l2 q2
end
end SmX
/-! sorted(set(texts)) -/
namespace TxS
open PySem PySem.Spec
open PyProof.Rows L2
/-- a set whose table can be walked; its members and their hashes are ms -/
def Tbl (w : World) (hp : Heap) (S : Addr) (ms : Array (Int × Value)) : Prop :=
  ∃ (ob : Obj) (ep : Nat) (tb : SetTable), hp.get? S = some ob ∧ ob.ExactSet ∧ ob.data = .set ms ep tb ∧ ms.size < scanBound ∧ tb.fits ms.size = true ∧ Ris tb.place.toList ∧ (w.params.followText "set-order" = true ∨ tb.led = true)
theorem Tbl.moved {w : World} {hp hp' : Heap} {S : Addr} {ms : Array (Int × Value)} (T : Tbl w hp S ms) (kp : ∀ ob, hp.get? S = some ob → hp'.get? S = some ob) : Tbl w hp' S ms := by
  obtain ⟨ob, ep, tb, h0, rest⟩ := T
  exact ⟨ob, ep, tb, kp ob h0, rest⟩
section
variable {P : Program} {w : World} {A : Around} {Er : Value → Shared → Prop} {st : Shared} {S : Addr}
theorem gave_ok {Q1 : Unit → Shared → Prop} {s1 : Shared} (gv : Bool) (cont : Q1 () s1) : wpAny (model P w) A (match gv with | true => rule "set.scan.the-table-gave-way" | false => pure ()) Q1 Er s1 := by
  cases gv with
  | true => exact wpAny_rule cont
  | false => exact wpAny_pure cont
/-- the table laid, and laid anew where it is too full -/
theorem tail_ok {ms ms1 : Array (Int × Value)} {ob : Obj} {ep : Nat} {tb t1 : SetTable} (h0 : st.heap.get? S = some ob) (hx : ob.ExactSet) (hd : ob.data = .set ms ep tb) (b1 : ms1.size < scanBound) (f1 : t1.fits ms1.size = true) (r1 : Ris t1.place.toList)
    (l1 : w.params.followText "set-order" = true ∨ t1.led = true) (wd : Bool) {R : Option Bool → Shared → Prop}
    (hR : ∀ hp' ms', Heap.SameBut S st.heap hp' → Tbl w hp' S ms' → ms'.toList.Perm ms1.toList → R (some true) { st with heap := hp' }) :
    wpAny (model P w) A (do
      storeSet S ms1 t1
      if (!wd && t1.tooFull) = true then do
        (match (relayAll t1 ms1 (SetTable.grown ms1.size)).2.2 with | true => rule "set.scan.the-table-gave-way" | false => pure ())
        storeSet S (relayAll t1 ms1 (SetTable.grown ms1.size)).1 (relayAll t1 ms1 (SetTable.grown ms1.size)).2.1
        pure (some true)
      else pure (some true)) R Er st := by
  refine wpAny_bind (wpAny_storeSet_of h0 hd ?_ (fits_of_scanBound b1))
  have a1 := store_at (es' := ms1) (t' := t1) h0 hd
  have k1 := Heap.SameBut.update st.heap S (Obj.putSet ms1 t1)
  by_cases full : (!wd && t1.tooFull) = true
  · rw [if_pos full]
    have p2 := relayAll_perm t1 ms1 (SetTable.grown ms1.size)
    have n2 : (relayAll t1 ms1 (SetTable.grown ms1.size)).1.size = ms1.size := by
      have cont := p2.length_eq
      simpa using cont
    refine wpAny_bind (gave_ok _ ?_)
    refine wpAny_bind (wpAny_storeSet_of a1 rfl ?_ (fits_of_scanBound (by rw [n2]; exact b1)))
    have a2 := store_at (es' := (relayAll t1 ms1 (SetTable.grown ms1.size)).1) (t' := (relayAll t1 ms1 (SetTable.grown ms1.size)).2.1) a1 rfl
    refine wpAny_pure (hR _ _ (k1.trans (Heap.SameBut.update _ S _)) ⟨_, _, _, a2, hx, rfl, by rw [n2]; exact b1, relayAll_fits t1 ms1 _, relayAll_ris t1 ms1 _, ?_⟩ p2)
    rw [relayAll_led t1 ms1 _]
    exact l1
  · rw [if_neg full]
    exact wpAny_pure (hR _ _ k1 ⟨_, _, _, a1, hx, rfl, b1, f1, r1, l1⟩ .rfl)
variable {κ : Type} [DecidableEq κ] [BEq κ] [LawfulBEq κ] {knd : KeyKind P w κ}
theorem add_ok {ms : Array (Int × Value)} {k : κ} {v : Value} {Q : Bool → Shared → Prop} (T : Tbl w st.heap S ms) (el : ElemsOf knd ms.toList) (hk : knd.is k v = true) (sc : v.scannable = true) (room : ms.size + 1 < scanBound)
    (old : (∃ e ∈ ms.toList, knd.is k e.2 = true) → Q false st)
    (new : (∀ e ∈ ms.toList, knd.is k e.2 = false) → ∀ hp' ms', Heap.SameBut S st.heap hp' → Tbl w hp' S ms' → ms'.toList.Perm ((knd.hash k, v) :: ms.toList) → Q true { st with heap := hp' }) :
    wpAny (model P w) A (setAddHashed S v (knd.hash k)) Q Er st := by
  obtain ⟨ob, ep, tb, h0, hx, hd, b0, f0, r0, l0⟩ := T
  unfold setAddHashed
      setAddHashedIn
  refine wpAny_holding (wpAny_bind (wpAny_setState_of h0 hd f0 ?_))
  dsimp only
  rw [byScan_of sc b0 el]
  simp only [↓reduceIte]
  unfold setAddByScan
  refine wpAny_bind (wpAny_bind (wpAny_rule (wpAny_bind (wpAny_setScan_of hk h0 hd f0 el ?_))))
  cases fdA : List.findIdx? (fun e => knd.is k e.2) ms.toList with
  | some j =>
    obtain ⟨jA, pA, _⟩ := List.findIdx?_eq_some_iff_getElem.mp fdA
    exact wpAny_pure (wpAny_pure (old ⟨_, List.getElem_mem jA, pA⟩))
  | none =>
    have none_ : ∀ e ∈ ms.toList, knd.is k e.2 = false := fun e he => List.findIdx?_eq_none_iff.mp fdA e he
    dsimp only
    have pm := layNew_perm tb ms (knd.hash k) v
    have hf1 := layNew_fits tb ms (knd.hash k) v
    have hr1 := layNew_ris tb ms (knd.hash k) v r0
    have hl1 := layNew_led tb ms (knd.hash k) v
    generalize layNew tb ms (knd.hash k) v = Z at pm hf1 hr1 hl1 ⊢
    obtain ⟨ms1, t1, wd, gv⟩ := Z
    dsimp only at pm hl1 hr1 hf1 ⊢
    have pc : ms1.toList.Perm ((knd.hash k, v) :: ms.toList) := by
      rw [Array.toList_push] at pm
      exact pm.trans (List.perm_append_singleton _ _)
    have n1 : ms1.size = ms.size + 1 := by
      have cont := pc.length_eq
      simpa using cont
    have fin : ∀ hp' ms', Heap.SameBut S st.heap hp' → Tbl w hp' S ms' → ms'.toList.Perm ms1.toList → Q true { st with heap := hp' } := fun hp' ms' sb T' pp => new none_ hp' ms' sb T' (pp.trans pc)
    have led1 : w.params.followText "set-order" = true ∨ t1.led = true := by
      rw [hl1]
      exact l0
    refine wpAny_bind (gave_ok _ ?_)
    by_cases pl : t1.plain = true
    · rw [if_pos pl, hashByValue_scannable 8 sc]
      refine wpAny_bind
          (wpAny_pure ?_)
      by_cases pk : plainKind v = true
      · rw [pk]
        exact tail_ok h0 hx hd (by rw [n1]; exact room) hf1 hr1 led1 wd fun hp' ms' sb T' pp => wpAny_pure (fin hp' ms' sb T' pp)
      · have pk' : plainKind v = false := by simpa using pk
        rw [pk']
        exact tail_ok (t1 := { t1 with plain := false }) h0 hx hd (by rw [n1]; exact room) (SetTable.fits_plain_off hf1) hr1 led1 wd fun hp' ms' sb T' pp => wpAny_pure (fin hp' ms' sb T' pp)
    · rw [if_neg pl]
      refine wpAny_bind
          (wpAny_pure ?_)
      exact tail_ok h0 hx hd (by rw [n1]; exact room) hf1 hr1 led1 wd fun hp' ms' sb T' pp => wpAny_pure (fin hp' ms' sb T' pp)
end
/-! ### texts -/
def txt (e : Int × Value) : Str := match e.2 with
  | .str z _ => z
  | _ => Str.empty
def Txts (P : Program) (w : World) (ms : List (Int × Value)) : Prop := ∀ e ∈ ms, ∃ z t, e.2 = Value.str z t ∧ e.1 = (PySem.strKind P w).hash z
theorem Txts.el {P : Program} {w : World} {ms : List (Int × Value)} (g : Txts P w ms) : ElemsOf (PySem.strKind P w) ms := fun e he => by
  obtain ⟨z, t, e1, e2⟩ := g e he
  exact ⟨⟨z, by rw [e1]; exact strKind_is P w z t, e2⟩, by rw [e1]; rfl⟩
theorem is_txt {P : Program} {w : World} {e : Int × Value} {z y : Str} {t : Tok} (e1 : e.2 = Value.str z t) : (PySem.strKind P w).is y e.2 = true ↔ txt e = y := by
  have cont : txt e = z := by
    unfold txt
    rw [e1]
  rw [cont]
  constructor
  · intro hyp
    have h2 := strKind_is P w z t
    rw [← e1] at h2
    exact (PySem.strKind P w).inj _ _ _ h2 hyp
  · rintro rfl
    rw [e1]
    exact strKind_is P w z t
/-- the set at S holds just the texts in zs -/
def SetTx (P : Program) (w : World) (hp : Heap) (S : Addr) (zs : List Str) (n : Nat) : Prop :=
  ∃ ms, Tbl w hp S ms ∧ Txts P w ms.toList ∧ (ms.toList.map txt).Nodup ∧ (∀ z, z ∈ ms.toList.map txt ↔ z ∈ zs) ∧ ms.size ≤ n
theorem SetTx.moved {P : Program} {w : World} {hp hp' : Heap} {S : Addr} {zs : List Str} {n : Nat} (T : SetTx P w hp S zs n) (kp : ∀ ob, hp.get? S = some ob → hp'.get? S = some ob) : SetTx P w hp' S zs n := by
  obtain ⟨ms, T0, rest⟩ := T
  exact ⟨ms, T0.moved kp, rest⟩
section
variable {P : Program} {w : World} {A : Around} {Er : Value → Shared → Prop} {st : Shared} {S : Addr}
theorem add_text {zs : List Str} {n : Nat} {y : Str} {t : Tok} {Q : Bool → Shared → Prop} (T : SetTx P w st.heap S zs n) (room : n + 1 < scanBound)
    (cont : ∀ b hp', Heap.SameBut S st.heap hp' → SetTx P w hp' S (zs ++ [y]) (n + 1) → Q b { st with heap := hp' }) :
    wpAny (model P w) A (setAddHashed S (.str y t) ((PySem.strKind P w).hash y)) Q Er st := by
  obtain ⟨ms, T0, g, nd, hm, hn⟩ := T
  refine add_ok (knd := PySem.strKind P w) T0 g.el (strKind_is P w y t) rfl (by omega) (fun ⟨e, he, hy⟩ => ?_) (fun no hp' ms' sb T' pp => ?_)
  · obtain ⟨z, t', e1, _⟩ := g e he
    have ey := (is_txt (P := P) (w := w) e1).mp hy
    refine cont false st.heap (Heap.SameBut.refl S st.heap) ⟨ms, T0, g, nd, fun x => ?_, by omega⟩
    rw [hm x, List.mem_append, List.mem_singleton]
    refine ⟨.inl, fun hyp => hyp.elim id fun h2 => ?_⟩
    rw [h2, ← ey]
    exact (hm _).mp (List.mem_map.mpr ⟨e, he, rfl⟩)
  · have nin : y ∉ ms.toList.map txt := fun hyp => by
      obtain ⟨e, he, ey⟩ := List.mem_map.mp hyp
      obtain ⟨z, t', e1, _⟩ := g e he
      have b := (is_txt (P := P) (w := w) (y := y) e1).mpr ey
      rw [no e he] at b
      cases b
    have pk : (ms'.toList.map txt).Perm (y :: ms.toList.map txt) := pp.map txt
    refine cont true hp' sb ⟨ms', T', fun e he => ?_, pk.nodup_iff.mpr (List.nodup_cons.mpr ⟨nin, nd⟩), fun x => ?_, ?_⟩
    · rcases List.mem_cons.mp (pp.mem_iff.mp he) with hyp | hyp
      · rw [hyp]
        exact ⟨y, t, rfl, rfl⟩
      · exact g e hyp
    · rw [pk.mem_iff, List.mem_cons, hm x, List.mem_append, List.mem_singleton]
      exact Or.comm
    · have cont := pp.length_eq
      rw [Array.length_toList, List.length_cons, Array.length_toList] at cont
      omega
/-- all that is walked is added -/
theorem loop_texts {Iv : Addr} {fp wr : List Addr} {G : Array GenState → Array GenState → Prop} {n : Nat} {Pv : Nat → Value → Prop} {Sv : Nat → Shared → Prop} {R : Result → Shared → Prop} (Wk : WalksS P w A.in1 Iv fp wr G n Pv Sv) (far : S ∉ fp)
    (zs : List Str) (hz : zs.length = n) (room : n + 1 < scanBound) (val : ∀ i v, Pv i v → ∃ z t, zs[i]? = some z ∧ v = Value.str z t)
    (fin : ∀ s1, Moved (S :: wr) G st s1 → SetTx P w s1.heap S zs n → R (.ok (.ret .none)) s1) :
    ∀ (left i : Nat) (s1 : Shared), i + left = n → Sv i s1 → Moved (S :: wr) G st s1 → SetTx P w s1.heap S (zs.take i) i → codeAny (model P w) A (.builtin "set.update.loop" ⟨[.ref S, .ref Iv], []⟩) R s1 := by
  have farw : S ∉ wr := fun hyp => far (Wk.sub _ hyp)
  have inc : ∀ b ∈ wr, b ∈ S :: wr := fun b hb => List.mem_cons_of_mem _ hb
  intro left
  induction left with
  | zero =>
    intro i s1 e hs mv T
    have ei : i = n := by omega
    subst ei
    refine codeAny_builtin
        F.entry_set_update_loop ?_
    rw [Around.under_plainId
        F.plain_set_update_loop _]
    show wpAny _ A.in1 (pyNext (.ref Iv) >>= _) _ _ s1
    refine wpAny_bind (Wk.done s1 _ _ hs fun s2 m2 => ?_)
    rw [List.take_of_length_le (by omega)] at T
    exact wpAny_pure (fin s2 (Moved.trans Wk.gtrans mv (m2.mono inc)) (T.moved fun ob hb => m2.heap S ob farw hb))
  | succ left ih =>
    intro i s1 e hs mv T
    refine codeAny_builtin
        F.entry_set_update_loop ?_
    rw [Around.under_plainId
        F.plain_set_update_loop _]
    show wpAny _ A.in1 (pyNext (.ref Iv) >>= _) _ _ s1
    refine wpAny_bind (Wk.item i s1 _ _ (by omega) hs fun v s2 hv hs2 m2 => ?_)
    obtain ⟨z, t, ez, rfl⟩ := val i v hv
    show wpAny _ A.in1 (holding [Value.str z t] (setAdd S (.str z t)) >>= _) _ _ s2
    refine wpAny_bind
        (wpAny_holding ?_)
    unfold setAdd
    refine wpAny_holding (wpAny_bind ((PySem.strKind P w).pyHash (k := z) (strKind_is P w z t) ?_))
    refine add_text (st := { s2 with toks := s2.toks + 1 }) (T.moved fun ob hb => m2.heap S ob farw hb) (by omega) fun b hp' sb T' => ?_
    have et : zs.take i ++ [z] = zs.take (i + 1) := by
      rw [List.take_add_one, ez]
      rfl
    rw [et] at T'
    have apart : ∀ b ∈ fp, b ≠ S := fun b hb hyp => far (hyp ▸ hb)
    refine wpAny_pure ⟨plainId_quiet F.plain_set_update_loop _, ih (i + 1) _ (by omega) (Wk.frame _ s2 _ _ hs2 (Nat.le_succ _) fun b hb ob eb => (sb.2 b (apart b hb)).trans eb) ?_ T'⟩
    exact Moved.trans Wk.gtrans mv ((m2.mono inc).then_heap (Nat.le_succ _) fun b ob hb eb => (sb.2 b fun hyp => hb (hyp ▸ List.mem_cons_self)).trans eb)
/-- a set as it is made -/
abbrev fresh0 (w : World) : Obj := { cls := .type "set", dict := none, data := .set #[] 0 (.fresh 0 0 (!w.params.followText "set-order")) }
theorem fresh_tx {hp : Heap} {zs : List Str} (hyp : hp.get? S = some (fresh0 w)) : SetTx P w hp S (zs.take 0) 0 := by
  refine ⟨#[], ⟨_, 0, _, hyp, ⟨rfl, rfl, rfl⟩, rfl, by decide, rfl, List.Pairwise.nil, ?_⟩, fun e he => by simp at he, by simp, fun z => by simp, Nat.le_refl _⟩
  show _ ∨ (!w.params.followText
      "set-order") = true
  cases w.params.followText "set-order" with
  | false => exact .inr rfl
  | true => exact .inl rfl
/-- what a list and a tuple have alike, to be made a set of -/
structure Src (P : Program) (w : World) (l : Addr) (items : Array Value) (T : String) (it : Obj) (Sv : Addr → Nat → Heap → Prop) (Is : Heap → Prop) : Prop where
  s1 : isSubtype (.type T) (.type "set") = pure false
  s2 : isSubtype (.type T) (.type "frozenset") = pure false
  nd : (Value.type T == Value.type "dict") = false
  beg : Begins (.ref l) it Is
  walk : ∀ (A' : Around) (Iv : Addr), A'.handled = none → l ≠ Iv → Walks P w A' Iv [Iv, l] [Iv] items.size (fun i v => items[i]? = some v) (Sv Iv)
  st0 : ∀ (Iv : Addr) (hp : Heap), Is hp → hp.get? Iv = some it → Sv Iv 0 hp
set_option maxHeartbeats 6400000 in
theorem call_set_any {l : Addr} {items : Array Value} {T : String} {it : Obj} {Sv : Addr → Nat → Heap → Prop} {Is : Heap → Prop} {zs : List Str} {Q : Value → Shared → Prop} {od : Option Addr} {dt : Data} {sl : Array (Option Value)} (src : Src P w l items T it Sv Is) (hh : A.handled = none)
    (hol : st.heap.get? l = some { cls := .type T, dict := od, data := dt, slots := sl }) (is0 : Is st.heap) (val : ∀ (i : Nat) (v : Value), items[i]? = some v → ∃ (z : Str) (t : Tok), zs[i]? = some z ∧ v = Value.str z t) (hz : zs.length = items.size) (room : items.size + 1 < scanBound)
    (cont : ∀ (hp' : Heap) (tk : Nat), SetTx P w hp' st.heap.objs.size zs items.size → (∀ b ob, st.heap.get? b = some ob → hp'.get? b = some ob) → Q (.ref st.heap.objs.size) { st with heap := hp', toks := tk }) :
    wpAny (model P w) A (call (.type "set") [.ref l]) Q Er st := by
  obtain ⟨c, tl, hmro⟩
      := F.called_set.mro
  have hmade :=
      F.called_set.made
  have hsub := F.called_set.sub
  refine wpAny_call
      (codeAny_of_tree ?_)
  show wpAny _ _ (callAny
      (.type "set") _) _ _ _
  refine wpAny_pure ⟨Code.quiet_builtin _ (by decide +kernel),
      codeAny_builtin F.entry_type_call ?_⟩
  rw [Around.under_plain (weight_type_call_type
      "set" [.ref l] []) rfl]
  have nt := F.called_set.notType
  have cc := F.called_set.canCreate
  have tc := F.typeCall_set_1 (.ref l)
  repeat (any_goals (first
      | assumption | wp_step))
  refine codeAny_mono (code_set_led1 (.ref l) (E := Er) (Q₁ := fun obj sx => obj = .ref st.heap.objs.size ∧ sx = { st with heap := st.heap.push (fresh0 w) }) ⟨rfl, rfl⟩) fun r sx hr => ?_
  cases r with
  | error e => exact hr
  | ok fl =>
    cases fl with
    | ret obj =>
      obtain ⟨rfl, rfl⟩ := hr
      have hS : (st.heap.push (fresh0 w)).get? st.heap.objs.size = some (fresh0 w) := Heap.get?_push_size _ rfl
      have hT : Shared.TypeIs { st with heap := st.heap.push (fresh0 w) } (.ref st.heap.objs.size) "set" := ⟨_, hS, rfl⟩
      have li := F.called_set.init.lookup
      have bi := F.called_set.init.bind (.ref st.heap.objs.size)
      repeat (any_goals (first
          | assumption | wp_step))
      refine codeAny_mono (codeAny_call_builtin (R := wants (fun r s₂ => r = .none ∧ ∃ hp' tk, s₂ = { st with heap := hp', toks := tk } ∧ SetTx P w hp' st.heap.objs.size zs items.size ∧ (∀ b ob, st.heap.get? b = some ob → hp'.get? b = some ob)) Er)
        F.called_set.init.plain F.entry_set_init (check_set_init_1 hT ?_)) fun r₂ s₂ hr₂ => ?_
      · have hol2 : (st.heap.push (fresh0 w)).get? l = some { cls := .type T, dict := od, data := dt, slots := sl } := Heap.get?_push_of_some _ hol
        have e1 := src.s1
        have e2 := src.s2
        have e3 := src.nd
        have is1 : Is (st.heap.push (fresh0 w)) := src.beg.keeps _ _ is0 fun b ob e => Heap.get?_push_of_some _ e
        unfold Builtin.«set.__init__» noKeywords
            Builtin.Frozenset.updateFrom
        generalize hPI : pyIter = PI
        wp_walk
        subst hPI
        refine src.beg.iter P w _ _ _ _ is1 ?_
        refine wpAny_bind
            (wpAny_runValue ?_)
        have ls : l < st.heap.objs.size := Heap.lt_size hol
        have z1 : (st.heap.push (fresh0 w)).objs.size = st.heap.objs.size + 1 := Heap.size_push ..
        have hget : ((st.heap.push (fresh0 w)).push it).get? st.heap.objs.size = some (fresh0 w) := Heap.get?_push_of_some _ hS
        have lI : l ≠ (st.heap.push (fresh0 w)).objs.size := by
          rw [z1]
          exact Nat.ne_of_lt (Nat.lt_succ_of_lt ls)
        refine loop_texts (st := { st with heap := (st.heap.push (fresh0 w)).push it }) ((src.walk _ _ (by simp [hh]) lI).toS) ?_ zs hz room val (fun s1 mv T' => ?_) items.size 0 _ (by omega) ?_ ⟨fun _ _ _ e => e, rfl, rfl, rfl, Nat.le_refl _⟩ (fresh_tx hget)
        · rw [z1]
          intro hm
          rcases List.mem_cons.mp hm with hyp | hyp
          · exact Nat.ne_of_lt (Nat.lt_succ_self _) hyp
          · exact Nat.ne_of_gt ls (List.mem_singleton.mp hyp)
        · obtain ⟨hp', g', d', tk', os'⟩ := s1
          obtain rfl : g' = st.gens := mv.gens
          obtain rfl : d' = st.drawn := mv.drawn
          obtain rfl : os' = st.os := mv.os
          show wpAny _ _ _ _ _ _
          refine wpAny_pure ?_
          show wpAny _ _ (ret
              Value.none) _ _ _
          refine wpAny_pure ⟨rfl, hp', tk', rfl, T', fun b ob e => ?_⟩
          have bl := Heap.lt_size e
          refine mv.heap b ob ?_ (Heap.get?_push_of_some _ (Heap.get?_push_of_some _ e))
          rw [z1]
          intro hm
          rcases List.mem_cons.mp hm with hyp | hyp
          · exact Nat.ne_of_lt bl hyp
          · exact Nat.ne_of_lt (Nat.lt_succ_of_lt bl) (List.mem_singleton.mp hyp)
        · exact src.st0 _ _ (src.beg.keeps _ _ is1 fun b ob e => Heap.get?_push_of_some _ e) (Heap.get?_push_size _ src.beg.free)
      · cases r₂ with
        | error e => exact hr₂
        | ok fl₂ =>
          cases fl₂ with
          | ret r =>
            obtain ⟨rfl, hp', tk, rfl, T', kp⟩ := hr₂
            repeat (any_goals (first
                | assumption | wp_step))
            exact cont hp' tk T' kp
          | _ => exact hr₂.elim
    | _ => exact hr.elim
theorem src_list (l : Addr) (items : Array Value) : Src P w l items "list" { cls := .type "list_iterator", data := .fields #[.ref l, .int 0 0] } (fun Iv i hp => hp.IsListIter Iv l i ∧ hp.IsList l items) (fun hp => hp.IsList l items) :=
  ⟨F.sub_list_set, F.sub_list_frozenset, by decide, begins_list l items, fun A' Iv hh hne => Walks.list hh Iv l hne items, fun Iv hp h1 h2 => ⟨⟨_, h2, rfl, rfl⟩, h1⟩⟩
theorem src_tuple (l : Addr) (items : Array Value) : Src P w l items "tuple" { cls := .type "tuple_iterator", data := .fields #[.ref l, .int 0 0] } (fun Iv i hp => hp.IsTupleIter Iv l i ∧ hp.IsTuple l items) (fun hp => hp.IsTuple l items) :=
  ⟨F.sub_tuple_set, F.sub_tuple_frozenset, by decide, begins_tuple l items, fun A' Iv hh hne => Walks.tuple hh Iv l hne items, fun Iv hp h1 h2 => ⟨⟨_, h2, rfl, rfl⟩, h1⟩⟩
theorem strs_of_txts : ∀ (l : List (Int × Value)), Txts P w l → StrsAre (l.map (·.2)) (l.map txt)
  | [], _ => .nil
  | e :: l, g => by
    obtain ⟨z, t, e1, _⟩ := g e List.mem_cons_self
    have cont : txt e = z := by
      unfold txt
      rw [e1]
    rw [List.map_cons, List.map_cons, e1, cont]
    exact .cons z t (strs_of_txts l fun x hx => g x (List.mem_cons_of_mem _ hx))
theorem sorted_setTx {zs : List Str} {n : Nat} {Q : Value → Shared → Prop} (T : SetTx P w st.heap S zs n) (hh : A.handled = none)
    (cont : ∀ s1 p (out : Array Value) (c : Nat) (ys : List Str), (∀ b ob, st.heap.get? b = some ob → s1.heap.get? b = some ob) → s1.gens = st.gens → s1.os = st.os → st.heap.objs.size ≤ p → s1.heap.get? p = some (seqObj "list" out c) →
      StrsAre out.toList ys → sortedS ys = true → ys.Nodup → (∀ z, z ∈ ys ↔ z ∈ zs) → ys.length ≤ n → Q (.ref p) s1) :
    wpAny (model P w) A (call (.builtin "sorted") [.ref S]) Q Er st := by
  obtain ⟨ms, ⟨ob, ep, tb, h0, hx, hd, b0, f0, r0, l0⟩, g, nd, hm, hn⟩ := T
  refine Calls.call_function_entry kind_sorted
      plain_sorted entry_sorted (args_sorted1 _) ?_
  unfold Builtin.«sorted»
  refine wpAny_bind (m := checkCount "sorted" 1 1 _) (wpAny_pure (wpAny_bind (collect_set (A := A.in1) hh ⟨ob, h0, hx.1, hd⟩ f0 b0 r0 l0 fun s1 vs k1 z1 g1 o1 pm => ?_)))
  have lv : vs.length ≤ n := by
    rw [pm.length_eq, List.length_map, Array.length_toList]
    exact hn
  have lv2 : vs.length ≤ sizeLine := by
    rw [pm.length_eq, List.length_map, Array.length_toList]
    exact fits_of_scanBound b0
  have hS : StrsAre vs (vs.map strOf) := strsAre_map vs fun v hv => by
    obtain ⟨e, he, ev⟩ := List.mem_map.mp (pm.mem_iff.mp hv)
    obtain ⟨z, t, e1, _⟩ := g e he
    exact ⟨z, t, by rw [← ev, e1]⟩
  have pk : (vs.map strOf).Perm (ms.toList.map txt) := by
    have q1 := pm.map strOf
    rw [(strs_of_txts ms.toList g).strs] at q1
    exact q1
  refine wpAny_bind (wpAny_newList ?_ lv2)
  have hL : (s1.heap.push (seqObj "list" vs.toArray 0)).get? s1.heap.objs.size = some (seqObj "list" vs.toArray 0) := Heap.get?_push_size _ rfl
  refine wpAny_bind (wpAny_holding (wpAny_call_entry PyProof.Rows.slot_list_sort ⟨_, hL, rfl⟩ PyProof.Rows.entry_list_sort
    (list_sort_treeKAny strKind_oneLt hL hS.keysOf (fun v₁ v₂ rest e => keyKind_strs (by rw [← e]; exact hS)) lv2 fun sx hp hs => ⟨_, rfl, ?_⟩) (PyProof.Rows.args_list_sort _)))
  obtain ⟨ys, y1, y2, y3⟩ := sorted_out_str hS hp hs
  obtain ⟨c, hc⟩ := sortedHeap_at (vs := vs) (out := (arrOf sx).map (·.2)) hL
  have py := y2.trans pk
  refine wpAny_pure ⟨_, rfl, cont _ s1.heap.objs.size _ c ys (fun b u e => ?_) g1 o1 z1 hc y1 y3 (py.nodup_iff.mpr nd) (fun z => by rw [py.mem_iff, hm z]) ?_⟩
  · have e1 := k1 b u e
    have lt := Heap.lt_size e1
    show (sortedHeap (s1.heap.push (seqObj "list" vs.toArray 0)) s1.heap.objs.size vs ((arrOf sx).map (·.2))).get? b = some u
    rw [sortedHeap_old (Nat.ne_of_lt lt) (by rw [size_push']; exact Nat.lt_succ_of_lt lt)]
    exact Heap.get?_push_of_some _ e1
  · rw [y2.length_eq, List.length_map]
    exact lv
end
/-! ### the rule -/
/-- sorted(set(a)), a list or a tuple of texts -/
def tSortSet (K : PySem.W.Frag) (ta : TE) : TE := fun σ H Q => ta σ H fun x H1 => ∃ (l : Addr) (zs : List Str), x = .ref l ∧ (SqL K H1 l (zs.map V.str) ∨ SqT K H1 l (zs.map V.str)) ∧ zs.length ≤ 1000 ∧
  ∀ (ys : List Str) (p : Addr), sortedS ys = true → ys.Nodup → (∀ z, z ∈ ys ↔ z ∈ zs) → ys.length ≤ zs.length → H1 p = none → Q (.ref p) (upd H1 p (.lst (ys.map V.str)))
section
variable {X : Cx}
theorem vals_get {zs : List Str} {its : List Value} (r : Vals (zs.map V.str) its) (i : Nat) (v : Value) (hyp : its[i]? = some v) : ∃ (z : Str) (t : Tok), zs[i]? = some z ∧ v = Value.str z t := by
  have hl := r.length
  rw [List.length_map] at hl
  have hi : i < zs.length := by
    rw [hl]
    exact (List.getElem?_eq_some_iff.mp hyp).1
  obtain ⟨u, hu, ru⟩ := r.get (i := i) (x := V.str zs[i]) (by rw [List.getElem?_map, List.getElem?_eq_getElem hi]; rfl)
  rw [hyp] at hu
  obtain rfl : v = u := Option.some.inj hu
  obtain ⟨t, et⟩ := ru
  exact ⟨zs[i], t, List.getElem?_eq_getElem hi, et⟩
theorem len_of {zs : List Str} {its : List Value} (r : Vals (zs.map V.str) its) : zs.length = its.toArray.size := by
  have cont := r.length
  rw [List.length_map] at cont
  rw [List.size_toArray, cont]
theorem room_of {zs : List Str} {its : List Value} (r : Vals (zs.map V.str) its) (hyp : zs.length ≤ 1000) : its.toArray.size + 1 < scanBound := by
  rw [← len_of r]
  unfold scanBound
  omega
theorem pe_sortSet {a : Expr} {ta : TE} {p p2 q2 pos : Pos} (hc : X.calm = true) (hg : Gl X "sorted") (hm : X.mg "sorted" = none) (hg2 : Gl X "set") (hm2 : X.mg "set" = none) (ha : PE X a ta) (na : starEach [a] X.env = (false, eval a X.env) :: starEach [] X.env := by rfl) :
    PE X (.Call (.Name "sorted" p) [.Call (.Name "set" p2) [a] [] q2] [] pos) (tSortSet X.K ta) := by
  refine ⟨fun pins s σ H Q Iv hyp => ?_⟩
  refine Call_ (ld_blt Iv hg hm (show bootBuiltins "sorted" = some (.builtin "sorted") by decide +kernel) (PyProof.Rows.callWith_builtin1 (PyProof.Rows.args_cons ?_ rfl) rfl rfl))
  refine Call_ (ld_blt Iv hg2 hm2 boot_set (PyProof.Rows.callWith_type1 (PyProof.Rows.args_cons (thn (ha.run pins s σ H _ Iv hyp) fun v s1 ⟨x, H1, Iv1, r1, q1⟩ => PyProof.Rows.args_nil ?_) na) na rfl))
  obtain ⟨l, zs, rfl, hq, h1, q1⟩ := q1
  cases r1
  have fin : ∀ (its : List Value), Vals (zs.map V.str) its → ∀ (hp' : Heap) (tk : Nat), SetTx X.prog X.w hp' s1.heap.objs.size zs its.toArray.size → (∀ b ob, s1.heap.get? b = some ob → hp'.get? b = some ob) →
      wpAny (model X.prog X.w) X.A (spliced (backTo pos (starEach [] X.env))) (fun vs s₂ => wpAny (model X.prog X.w) X.A (call (.builtin "sorted") (Value.ref s1.heap.objs.size :: vs)) (EP X pins σ Q) X.xe s₂) X.xe { s1 with heap := hp', toks := tk } := fun its r hp' tk T kp => by
    refine PyProof.Rows.args_nil
        ?_
    have Iv2 : Inv X pins σ H1 { s1 with heap := hp', toks := tk } := Iv1.kept kp
    have n1 : its.toArray.size = zs.length := by
      have cont := r.length
      rw [List.length_map] at cont
      rw [List.size_toArray, cont]
    rw [n1] at T
    refine sorted_setTx T (Iv1.ok.hd hc) fun s3 p' out c ys k3 g3 o3 z3 hp3 y1 y2 y3 y4 y5 => ?_
    have Iv3 := Iv2.tok tk
    have hn : H1 p' = none := Iv2.hok.fresh z3
    have big : (ys.map V.str).length ≤ sizeLine := by
      rw [List.length_map,
          sizeLine_eq]
      omega
    obtain ⟨hp4, g4, d4, t4, o4⟩ := s3
    obtain rfl : o4 = s1.os := o3
    have bare4 : AllBare g4 := by
      rw [show g4 = s1.gens from g3]
      exact Iv2.bare
    have un : Un X.fs [] H1 (upd H1 p' (.lst (ys.map V.str))) hp' hp4 := Un.laid k3 z3 hn
    have ok4 : HOk X.prog X.w (upd H1 p' (.lst (ys.map V.str))) hp4 := Iv2.hok.laid k3 z3 ⟨big, out.toList, c, vals_of_strs y1, hp3⟩
    exact ⟨.ref p', _, L2.Inv.call (s := { s1 with heap := hp', toks := tk }) Iv2 (ch := []) (Un.laid k3 z3 hn) ok4 bare4 (fun _ z => nomatch z), rfl, q1 ys p' y2 y3 y4 y5 hn⟩
  rcases hq with hq | hq
  · obtain ⟨its, r, pl, hz⟩ := Iv1.list hq
    obtain ⟨⟨c0, d0, dt0, sl0⟩, ho, hc0, n0, hd0⟩ := pl.isList
    obtain rfl : c0 = Value.type "list" := hc0
    exact call_set_any (src_list l its.toArray) (Iv1.ok.hd hc) ho pl.isList (fun i v hv => vals_get r i v (by simpa using hv)) (len_of r) (room_of r h1) fun hp' tk T kp => fin its r hp' tk T kp
  · obtain ⟨its, r, pl, hz⟩ := Iv1.tuple hq
    obtain ⟨⟨c0, d0, dt0, sl0⟩, ho, hc0, n0, hd0⟩ := id pl
    obtain rfl : c0 = Value.type "tuple" := hc0
    exact call_set_any (src_tuple l its.toArray) (Iv1.ok.hd hc) ho pl (fun i v hv => vals_get r i v (by simpa using hv)) (len_of r) (room_of r h1) fun hp' tk T kp => fin its r hp' tk T kp
end
end TxS
namespace K1
open PySem PySem.Spec PyProof.Rows L2 EnT StX SmX TxS
/-! ### errors of the program -/
structure ErrC (K : PySem.W.Frag) (mg : Str → Option Value) (x f : Str) (C fI : Addr) : Prop where
  g : mg x = some (.ref C)
  ox : OexC K C
  no : PySem.W.findIn K (.ref C) f = some none
  ini : PySem.W.findIn K (.ref C) "__init__" = some (some (.ref fI))
  ty : PySem.W.typeIn K (.ref fI) = some (.type "function")
/-- an error of the class at C with one field, let go from the heap H -/
def ErrAt (C : Addr) (f : Str) (v : V) (H : Hp) (E : XK) : Prop := ∀ (d : Addr) (H' : Hp), Same H H' → H' d = none → E (.ref C) (some d) (upd H' d (.xd [(f, v)]))
def spErr (C : Addr) (f : Str) : Sp := fun vs H Q _ => ∃ (a : Addr) (v : V), vs = [.ref a, v] ∧ H a = some (exo a C none) ∧ ∀ d, H d = none → d ≠ a → Q .non (upd (upd H d (exd d [(f, v)])) a (exo a C (some d)))
theorem raise_heap {H : Hp} {a d : Addr} {o1 o2 o3 o4 : HO} (n : H a = none) (hd : d ≠ a) : upd (del (upd (upd (upd H a o1) d o2) a o3) a) d o4 = upd H d o4 := by
  funext b
  by_cases h1 : b = d
  · rw [h1, upd_same, upd_same]
  · rw [upd_ne h1, upd_ne h1]
    by_cases h2 : b = a
    · rw [h2, del_same, n]
    · rw [del_ne h2, upd_ne h2, upd_ne h1, upd_ne h2]
section
variable {w : World} {P : Program}
variable {base : Heap} {mg : Str → Option Value} {K : PySem.W.Frag}
theorem scErrN : FnScope ["self", "index"] ["self", "index"] (defScope sErrNames) := ⟨rfl, rfl, rfl, by decide +kernel, rfl, by decide +kernel, by decide +kernel⟩
theorem scErrT : FnScope ["self", "value"] ["self", "value"] (defScope sErrText) := ⟨rfl, rfl, rfl, by decide +kernel, rfl, by decide +kernel, by decide +kernel⟩
theorem ok_errN {f C fI : Addr} {fd : FuncData} (F : Fun K "__init__" "InvalidNames.__init__" sErrNames f fd) (T : ErrC K mg "InvalidNames" "index" C fI) : FnOk P w K mg base CX0 1 f fd ["self", "index"] (spErr C "index") := by
  refine F.ok scErrN (fun vs H Q E h => ?_) (fun cdv A outer s H vs Q E hr h => ?_)
  · obtain ⟨a, v, rfl, _⟩ := h
    rfl
  · obtain ⟨a, v, rfl, ha, q⟩ := h
    exact ⟨_, pss_one (ps_ost (pv 0) (pv 1)), _, rfl, _, rfl, a, C, rfl, T.ox, T.no, .inl ⟨ha, fun d nd ne => q d nd ne⟩⟩
theorem ok_errT {f C fI : Addr} {fd : FuncData} (F : Fun K "__init__" "InvalidText.__init__" sErrText f fd) (T : ErrC K mg "InvalidText" "value" C fI) : FnOk P w K mg base CX0 1 f fd ["self", "value"] (spErr C "value") := by
  refine F.ok scErrT (fun vs H Q E h => ?_) (fun cdv A outer s H vs Q E hr h => ?_)
  · obtain ⟨a, v, rfl, _⟩ := h
    rfl
  · obtain ⟨a, v, rfl, ha, q⟩ := h
    exact ⟨_, pss_one (ps_ost (pv 0) (pv 1)), _, rfl, _, rfl, a, C, rfl, T.ox, T.no, .inl ⟨ha, fun d nd ne => q d nd ne⟩⟩
end
/-! ### Members -/
def flds (t d : Addr) : List (Str × V) := putF "_table" (.ref d) (putF "_names" (.ref t) [])
def tabOf (zs : List Str) : List (Key × V) := zs.map fun z => (Sum.inr z, V.bl true)
structure MemAt (C : Addr) (H : Hp) (p : Addr) (zs : List Str) : Prop where
  at_ : ∃ dx t d, H p = some (.ins C dx (flds t d)) ∧ H t = some (.tup (zs.map V.str)) ∧ H d = some (.dK (tabOf zs))
  srt : sortedS zs = true
  nd : zs.Nodup
  few : zs.length ≤ 1000
  nm : ∀ z ∈ zs, nameB z = true
theorem MemAt.same {C : Addr} {H H' : Hp} {p : Addr} {zs : List Str} (s : Same H H') (m : MemAt C H p zs) : MemAt C H' p zs := by
  obtain ⟨⟨dx, t, d, h1, h2, h3⟩, a, b, c, e⟩ := m
  exact ⟨⟨dx, t, d, s _ _ h1, s _ _ h2, s _ _ h3⟩, a, b, c, e⟩
/-- what Members(..) gives: new Members of these texts -/
def Makes (C : Addr) (zs : List Str) (H : Hp) (Q : VK) : Prop := ∀ (p : Addr) (ys : List Str) (H' : Hp), H p = none → Same H H' → (∀ z, z ∈ ys ↔ z ∈ zs) → MemAt C H' p ys → Q (.ref p) H'
structure MemC (K : PySem.W.Frag) (mg : Str → Option Value) (C : Addr) : Prop where
  g : mg "Members" = some (.ref C)
  cl : Cls K C
  nN : NoAttr K C "_names"
  nT : NoAttr K C "_table"
/-- __init__, its names a tuple at t -/
def spInit0 (K : PySem.W.Frag) (C CN : Addr) : Sp := fun vs H Q E => ∃ (p t dx : Addr) (xs : List V), vs = [.ref p, .ref t] ∧ H p = some (.ins C dx []) ∧ SqT K H t xs ∧ (∀ v ∈ xs, VOk H v) ∧ xs.length ≤ 1000 ∧
  (∀ i, wrongIx xs = some i → ErrAt CN "index" (.int i) H E) ∧ (wrongIx xs = none → ∀ zs : List Str, xs = zs.map V.str → ∀ (ys : List Str) (H' : Hp), (∀ b o, b ≠ p → H b = some o → H' b = some o) → (∀ z, z ∈ ys ↔ z ∈ zs) → MemAt C H' p ys → Q .non H')
theorem all_texts : ∀ {xs : List V}, wrongIx xs = none → ∃ zs : List Str, xs = zs.map V.str
  | [], _ => ⟨[], rfl⟩
  | x :: r, h => by
    unfold wrongIx at h
    rw [List.findIdx?_eq_none_iff] at h
    have hr : wrongIx r = none := by
      unfold wrongIx
      rw [List.findIdx?_eq_none_iff]
      exact fun y hy => h y (List.mem_cons_of_mem _ hy)
    obtain ⟨zs, e⟩ := all_texts hr
    have hx := h x List.mem_cons_self
    cases x with
    | str z => exact ⟨z :: zs, by rw [e]; rfl⟩
    | _ => simp [nameV] at hx
theorem names_ok {zs : List Str} (h : wrongIx (zs.map V.str) = none) : ∀ z ∈ zs, nameB z = true := fun z hz => by
  unfold wrongIx at h
  rw [List.findIdx?_eq_none_iff] at h
  simpa [nameV] using h (V.str z) (List.mem_map.mpr ⟨z, hz, rfl⟩)
section
variable {w : World} {P : Program}
variable {base : Heap} {mg : Str → Option Value} {K : PySem.W.Frag}
theorem kNT : ¬ (("_names" : Str) = "_table") := by decide +kernel
theorem look_names (u : Addr) : (putF "_names" (V.ref u) []).lookup ("_names" : Str) = some (.ref u) := by
  rw [lookup_putF, if_pos rfl]
theorem tab_none {zs : List Str} {z : Str} (h : z ∉ zs) : valV (tabOf zs) (Sum.inr z : Key) = none := by
  induction zs with
  | nil => rfl
  | cons a r ih =>
    have ha : ¬ a = z := fun e => h (e ▸ List.mem_cons_self)
    show valV ((Sum.inr a, V.bl true) :: tabOf r) (Sum.inr z : Key) = none
    rw [valV_neg (fun e => ha (Sum.inr.inj e))]
    exact ih fun m => h (List.mem_cons_of_mem _ m)
theorem take_nodup_none {ys : List Str} {i : Nat} {z : Str} (nd : ys.Nodup) (h : ys[i]? = some z) : z ∉ ys.take i := by
  intro m
  obtain ⟨ltX, e⟩ := List.getElem?_eq_some_iff.mp h
  obtain ⟨j, hj, ej⟩ := List.mem_iff_getElem.mp m
  rw [List.length_take] at hj
  rw [List.getElem_take] at ej
  have := (List.getElem_inj nd).mp (ej.trans e.symm)
  omega
abbrev nmInit : List Str := ["self", "names", "at", "name"]
theorem scInit : FnScope nmInit ((["self"] : List Str) ++ (["names"] : List Str)) (defScope sInit) := ⟨rfl, rfl, rfl, by decide +kernel, rfl, by decide +kernel, by decide +kernel⟩
theorem ok_init {f fW fE C CN : Addr} {fd fdW fdE : FuncData} (F : Fun K "__init__" "Members.__init__" sInit f fd) (T : Free mg) (M : MemC K mg C) (GW : FnOk P w K mg base CX0 2 fW fdW ["values"] (spWrongT K)) (FW : Fun K "wrong_at" "wrong_at" sWrong fW fdW) (mgW : mg "wrong_at" = some (.ref fW))
    (EN : ErrC K mg "InvalidNames" "index" CN fE) (FE : Fun K "__init__" "InvalidNames.__init__" sErrNames fE fdE) :
    FnR P w K mg base (L2.CX P w) 4 f (fun vs H Q E => ∃ ws rest, vs = ws ++ rest ∧ ws.length = (["self"] : List Str).length ∧ rest.length ≤ sizeLine ∧ ∀ p, H p = Option.none → spInit0 K C CN (ws ++ [V.ref p]) (upd H p (.tup rest)) Q E) := by
  have bW : Binds K fdW ["values"] [] := FW.binds (ps := ["values"]) fun _ _ _ _ _ _ us hl => match us, hl with | [_], _ => rfl
  have bE : Binds K fdE ["self", "index"] [] := FE.binds (ps := ["self", "index"]) fun _ _ _ _ _ _ us hl => match us, hl with | [_, _], _ => rfl
  have GE : FnOk P w K mg base CX0 1 fE fdE ["self", "index"] (spErr CN "index") := ok_errN FE EN
  obtain ⟨oc, oD, kV, doc, pm, an, cdv, ct, osl, rfl, lk, hcd⟩ := F.ex
  refine fn_star (ps := ["self"]) (pv := "names") (sp := spInit0 K C CN) lk hcd scInit cxUp (bind_star1 (B := fun us => bindArgs (PySem.W.fnOf "__init__" "Members.__init__" (defArgs sInit) (defBody sInit) (defScope sInit) .none kV doc pm an cdv ct) ⟨us, []⟩) (p1 := "self") (pv := "names") (fun a => rfl) fun a r rs => rfl) fun A outer s H vs Q E hr h => ?_
  obtain ⟨p, t, dx, xs, rfl, hp, hS, hv, hl, qE, q⟩ := h
  refine ⟨_, pss_cons (ps_set (i := 2) scInit.nd rfl (.inl rfl) (pe_call GW (hr.mono (by decide)) rfl mgW FW.kp bW .nil pass0 (pa_cons (pv 1) pa_nil)))
    (pss_cons (ps_if (pt_cmp (pc_notN (pv 2))) (pss_one (ps_raise rfl (takes_of rfl rfl rfl rfl) (pmk_oex EN.ox EN.ini EN.ty GE (hr.mono (by decide)) bE .nil pass0 rfl EN.g (pa_cons (pv 2) pa_nil)))) pss_nil)
    (pss_cons (ps_fld (pv 0) (pe_callTy call_tuple_of (by rfl) T.tuple (by decide +kernel) (pa_cons (pe_sortSet rfl (by rfl) T.sorted (by rfl) T.set (pv 1)) pa_nil)) rfl)
    (pss_one (ps_fld (pv 0) (pe_dc (own := [("name", 3)]) (g := gName 3) (tt := tYes) rfl scInit.nd (pi_tup (pe_fld (pv 0) rfl)) (blkOk_by (own := [("name", 3)]) (N := nmInit) (sc := defScope sInit) (by decide +kernel)) (fun _ _ _ _ _ => pg_name (i := 3) scInit.nd rfl (Or.inl rfl)) (fun _ _ _ _ _ => pts_nil) (fun _ _ _ _ _ => pv 3) (fun _ _ _ _ _ => pe_bl)) rfl)))), ?_⟩
  refine ⟨_, rfl, t, xs, rfl, hS, hv, fun H1 sm => ?_⟩
  refine ⟨_, rfl, _, rfl, ?_⟩
  cases hw : wrongIx xs with
  | some i =>
    refine iteT ?_
    refine ⟨_, rfl, (by show 1 ≤ 1000; decide), fun a na => ⟨a, _, rfl, upd_same, fun d nd ne => ⟨rfl, d, [("index", .int i)], upd_same, ?_, ?_, ?_⟩⟩⟩
    · rw [upd_ne ne, upd_same]
      rfl
    · rw [upd_ne ne] at nd
      exact nd
    · rw [raise_heap na ne]
      rw [upd_ne ne] at nd
      exact qE i hw d H1 sm nd
  | none =>
    refine iteF ?_
    obtain ⟨zs, rfl⟩ := all_texts hw
    have hS1 : SqT K H1 t (zs.map V.str) := sameT sm hS
    have hp1 := sm _ _ hp
    refine ⟨_, rfl, t, zs, rfl, .inr hS1, by rw [List.length_map] at hl; exact hl, fun ys l y1 y2 y3 y4 nl => ?_⟩
    refine ⟨l, _, rfl, .inl ⟨SqL.of upd_same, fun u nu => ?_⟩⟩
    have nu1 : H1 u = none := by
      by_cases e : u = l
      · rw [e, upd_same] at nu
        cases nu
      · rw [upd_ne e] at nu
        exact nu
    have pu : p ≠ u := ne_of_none hp1 nu1
    have pl : p ≠ l := ne_of_none hp1 nl
    have s1 : Same H1 (upd H1 l (.lst (ys.map V.str))) := same_upd nl
    have s2 : Same (upd H1 l (.lst (ys.map V.str))) (upd (upd H1 l (.lst (ys.map V.str))) u (.tup (ys.map V.str))) := same_upd nu
    refine ⟨_, rfl, p, C, dx, [], rfl, s2 _ _ (s1 _ _ hp1), M.cl, M.nN, (by show 0 < 1000; decide), ?_⟩
    generalize e4 : upd (upd (upd H1 l _) u _) p _ = H4
    have h4p : H4 p = some (.ins C dx (putF "_names" (.ref u) [])) := by
      rw [← e4]
      exact upd_same
    have h4u : H4 u = some (.tup (ys.map V.str)) := by
      rw [← e4, upd_ne (Ne.symm pu)]
      exact upd_same
    have kp : ∀ b o, b ≠ p → H b = some o → H4 b = some o := fun b o n z => by
      rw [← e4, upd_ne n]
      exact s2 _ _ (s1 _ _ (sm _ _ z))
    clear e4
    refine ⟨_, rfl, p, C, dx, _, _, rfl, h4p, M.cl, M.nN, look_names u, u, rfl, ⟨_, SqT.of h4u⟩, fun D nD => ?_⟩
    have Dp : D ≠ p := fun e => by
      rw [e, h4p] at nD
      cases nD
    have Du : D ≠ u := fun e => by
      rw [e, h4u] at nD
      cases nD
    have few : ys.length ≤ 1000 := Nat.le_trans y4 (by rw [List.length_map] at hl; exact hl)
    refine dc_tup (K := K) (a := u) (xs := ys.map V.str) (fun i H' => (∀ b o, b ≠ D → H4 b = some o → H' b = some o) ∧ H' D = some (.dK (tabOf (ys.take i)))) ?_ ?_ ?_ ?_
    · exact ⟨fun b o n z => by rw [upd_ne n]; exact z, upd_same⟩
    · rintro i H' ltX ⟨k, hD⟩
      exact SqT.of (k _ _ (Ne.symm Du) h4u)
    · rintro i x H' hx ⟨k, hD⟩
      rw [List.getElem?_map] at hx
      obtain ⟨z, ez, rfl⟩ := Option.map_eq_some_iff.mp hx
      have ltX : i < ys.length := (List.getElem?_eq_some_iff.mp ez).1
      refine ⟨rfl, ?_⟩
      refine ⟨_, rfl, tabOf (ys.take i), Sum.inr z, rfl, hD, ?_, ?_, ?_⟩
      · unfold tabOf
        rw [List.length_map, List.length_take]
        exact small1000 (by omega)
      · intro b o n q2
        rw [upd_ne n]
        exact k b o n q2
      · rw [upd_same, putK_new _ (tab_none (take_nodup_none y2 ez))]
        unfold tabOf
        rw [List.take_add_one, ez, List.map_append]
        rfl
    · rintro H' ⟨k, hD⟩
      rw [List.length_map, List.take_length] at hD
      refine ⟨_, rfl, p, C, dx, _, rfl, k _ _ (Ne.symm Dp) h4p, M.cl, M.nT, (by rw [show (putF "_names" (V.ref u) []).length = 1 from rfl]; decide), ?_⟩
      refine q hw zs rfl ys _ (fun b o n z => ?_) y3 ⟨⟨dx, u, D, upd_same, ?_, ?_⟩, y1, y2, few, fun z hz => names_ok hw z ((y3 z).mp hz)⟩
      · rw [upd_ne n]
        exact k b o (fun e => by rw [e] at z; have := kp D o (e ▸ n) z; rw [nD] at this; cases this) (kp b o n z)
      · rw [upd_ne (Ne.symm pu)]
        exact k _ _ (Ne.symm Du) h4u
      · rw [upd_ne Dp]
        exact hD
end
end K1
/-! str(o), repr(o), len(o), bool(o), v in o, o == v, o != v by an own class's methods -/
namespace DuX
open PySem PySem.Spec
open PyProof.Rows L2
section
variable {X : Cx} {CX : CXT} {k : Nat} {g C : Addr} {sp : Sp} {Ek : XK} {pins : List (Addr × Obj)} {σ : L2.St} {H : Hp} {s : Shared}
/-- a method is run somewhere below the body that runs -/
theorem run_below {A : Around} {valsU : List Value} {vs : List V} {Q : VK} (F : FnR X.prog X.w X.K X.mg X.base CX k g sp) (hr : Room k A) (hf : A.frames = X.A.frames) (hx : Passes CX X Ek) (Iv : Inv X pins σ H s) (r : Vals vs valsU) (hyp : sp vs H Q Ek) :
    wpAny (model X.prog X.w) A (call (.ref g) valsU) (EP X pins σ Q) X.xe s := by
  have e0 : Env0 X.prog X.w X.K
      X.mg X.base A X.stack s H := by
    obtain ⟨a1, a2, a3, a4, a5, a6, a7, a8⟩ := Iv.env0
    exact ⟨by rw [hf]; exact a1, a2, a3, a4, a5, a6, a7, a8⟩
  refine wpAny_call (codeAny_mono (F A X.stack s H valsU vs Q Ek hr e0 r hyp) fun res s1 hq => ?_)
  match res, hq with
  | .error e, hq => exact hx pins σ H s e s1 Iv hq
  | .ok (.ret u), hq => exact Iv.after hq
  | .ok .next, hq => exact False.elim hq
  | .ok .brk, hq => exact False.elim hq
  | .ok .cont, hq => exact False.elim hq
/-- the class at C has the method m, at g -/
structure OwnM (K : PySem.W.Frag) (C : Addr) (m : Str) (g : Addr) : Prop where
  at_ : PySem.W.findIn K (.ref C) m = some (some (.ref g))
  fn : PySem.W.isFn
      K (.ref g) = true
theorem inst_of {a dx : Addr} {fs : List (Str × V)} (Iv : Inv X pins σ H s) (hyp : H a = some (.ins C dx fs)) : ∃ ox od, PySem.W.InstAt s.heap a ox C (some od) := by
  obtain ⟨mA, O, _⟩ := ins_get Iv.hok hyp
  obtain ⟨od, J, _⟩ := O.look
  exact ⟨_, od, J⟩
/-- str(o) -/
theorem call_strO (m : OwnM X.K C "__str__" g) (F : FnR X.prog X.w X.K X.mg X.base CX k g sp) (hr : Room (k + 2) X.A) (hx : Passes CX X Ek) :
    CallR X (.type "str") (fun xs H Q => ∃ a dx fs, xs = [.ref a] ∧ H a = some (.ins C dx fs) ∧ sp [.ref a] H (fun v H' => ∃ z, v = .str z ∧ Q (.str z) H') Ek) := by
  intro pins s σ H xs valsU Q Iv r hyp
  obtain ⟨a, dx, fs, rfl, atA, cont⟩ := hyp
  rw [Vals.ref1 r]
  obtain ⟨ox, od, J⟩ := inst_of Iv atA
  refine PySem.W.kso_call hr.in1.in1.units0 Iv.kIn J m.at_ m.fn ?_
  refine wpAny_mono (run_below F hr.in1.in1 rfl hx Iv (vs := [V.ref a]) (.cons rfl .nil) cont) (fun u s1 hu => ?_) fun _ _ e => e
  obtain ⟨v, H1, Iv1, rv, z, rfl, q1⟩ := hu
  obtain ⟨t, rfl⟩ := rv
  exact ⟨.str z, H1, Iv1, ⟨t, rfl⟩, q1⟩
/-- repr(o) -/
theorem call_reprO (m : OwnM X.K C "__repr__" g) (F : FnR X.prog X.w X.K X.mg X.base CX k g sp) (hr : Room (k + 1) X.A) (hx : Passes CX X Ek) :
    CallR X (.builtin "repr") (fun xs H Q => ∃ a dx fs, xs = [.ref a] ∧ H a = some (.ins C dx fs) ∧ sp [.ref a] H (fun v H' => ∃ z, v = .str z ∧ Q (.str z) H') Ek) := by
  intro pins s σ H xs valsU Q Iv r hyp
  obtain ⟨a, dx, fs, rfl, atA, cont⟩ := hyp
  rw [Vals.ref1 r]
  obtain ⟨ox, od, J⟩ := inst_of Iv atA
  obtain ⟨mm, hF⟩ := Iv.fr
  refine PySem.W.repr_K hr.in1.units0 hF Iv.ok.mod.kin J m.at_ m.fn ?_
  refine wpAny_mono (run_below F hr.in1 rfl hx Iv (vs := [V.ref a]) (.cons rfl .nil) cont) (fun u s1 hu => ?_) fun _ _ e => e
  obtain ⟨v, H1, Iv1, rv, z, rfl, q1⟩ := hu
  obtain ⟨t, rfl⟩ := rv
  exact ⟨.str z, H1, Iv1, ⟨t, rfl⟩, q1⟩
/-- len(o) -/
theorem call_lenO (m : OwnM X.K C "__len__" g) (F : FnR X.prog X.w X.K X.mg X.base CX k g sp) (hr : Room (k + 1) X.A) (hx : Passes CX X Ek) :
    CallR X (.builtin "len") (fun xs H Q => ∃ a dx fs, xs = [.ref a] ∧ H a = some (.ins C dx fs) ∧ sp [.ref a] H (fun v H' => ∃ n : Nat, v = .int n ∧ n < 2 ^ 62 ∧ Q (.int n) H') Ek) := by
  intro pins s σ H xs valsU Q Iv r hyp
  obtain ⟨a, dx, fs, rfl, atA, cont⟩ := hyp
  rw [Vals.ref1 r]
  obtain ⟨ox, od, J⟩ := inst_of Iv atA
  obtain ⟨mm, hF⟩ := Iv.fr
  refine PySem.W.len_K hF Iv.ok.mod.kin J m.at_ m.fn ?_
  refine wpAny_mono (run_below F hr.in1 rfl hx Iv (vs := [V.ref a]) (.cons rfl .nil) cont) (fun u s1 hu => ?_) fun _ _ e => e
  obtain ⟨v, H1, Iv1, rv, n, rfl, hn, q1⟩ := hu
  obtain ⟨t, rfl⟩ := rv
  exact ⟨⟨by omega, by omega⟩, .int n, H1, Iv1.tok _, ⟨_, rfl⟩, q1⟩
/-- v in o -/
theorem op_inO (m : OwnM X.K C "__contains__" g) (F : FnR X.prog X.w X.K X.mg X.base CX k g sp) (hr : Room k X.A) (hx : Passes CX X Ek) :
    OpR X (compareOp .In) (fun x y H Q => ∃ a dx fs, y = .ref a ∧ H a = some (.ins C dx fs) ∧ sp [.ref a, x] H (fun v H' => ∃ b, v = .bl b ∧ Q (.bl b) H') Ek) := by
  intro pins s σ H x y u v Q Iv rx ry hyp
  obtain ⟨a, dx, fs, rfl, atA, cont⟩ := hyp
  cases ry
  obtain ⟨ox, od, J⟩ := inst_of Iv atA
  obtain ⟨mm, hF⟩ := Iv.fr
  refine PySem.W.in_K hF Iv.ok.mod.kin J m.at_ m.fn ?_
  refine wpAny_mono (run_below F hr rfl hx Iv (vs := [V.ref a, x]) (.cons rfl (.cons rx .nil)) cont) (fun u' s1 hu => ?_) fun _ _ e => e
  obtain ⟨v', H1, Iv1, rv, b, rfl, q1⟩ := hu
  cases rv
  exact wpAny_truthy_bool ⟨.bl b, H1, Iv1, rfl, q1⟩
/-- o == v: the own method answers with a truth value -/
theorem rc_eq {A : Around} {a dx : Addr} {fs : List (Str × V)} {y : V} {u t : Value} {Q : Bool → Hp → Prop} (m : OwnM X.K C "__eq__" g) (F : FnR X.prog X.w X.K X.mg X.base CX k g sp) (hr : Room k A) (hf : A.frames = X.A.frames) (hx : Passes CX X Ek) (Iv : Inv X pins σ H s) (atA : H a = some (.ins C dx fs))
    (ry : RelV y u) (ty : ∀ M : Model, PySem.W.Looks M s.heap (typeOf u) t) (nf : PySem.W.notFirst X.K C t = true) (cont : sp [.ref a, y] H (fun v H' => ∃ b, v = .bl b ∧ Q b H') Ek) :
    wpAny (model X.prog X.w) A (richCompare .Eq (.ref a) u) (fun r s1 => ∃ b, r = .bool b ∧ ∃ H', Inv X pins σ H' s1 ∧ Q b H') X.xe s := by
  obtain ⟨ox, od, J⟩ := inst_of Iv atA
  obtain ⟨mm, hF⟩ := Iv.fr
  refine PySem.W.cmp_K (op := .Eq) hr.units0 hF Iv.ok.mod.kin J (ty _) nf m.at_ m.fn ?_
  refine wpAny_mono (run_below F hr hf hx Iv (vs := [V.ref a, y]) (.cons rfl (.cons ry .nil)) cont) (fun w s1 hu => ?_) fun _ _ e => e
  obtain ⟨v, H1, Iv1, rv, b, rfl, q1⟩ := hu
  cases rv
  exact ⟨b, rfl, H1, Iv1, q1⟩
theorem op_eqO (m : OwnM X.K C "__eq__" g) (F : FnR X.prog X.w X.K X.mg X.base CX k g sp) (hr : Room k X.A) (hx : Passes CX X Ek) :
    OpR X (compareOp .Eq) (fun x y H Q => ∃ a dx fs t, x = .ref a ∧ H a = some (.ins C dx fs) ∧ (∀ pins σ s u, Inv X pins σ H s → RelV y u → ∀ M : Model, PySem.W.Looks M s.heap (typeOf u) t) ∧ PySem.W.notFirst X.K C t = true ∧ sp [.ref a, y] H (fun v H' => ∃ b, v = .bl b ∧ Q (.bl b) H') Ek) := by
  intro pins s σ H x y u v Q Iv rx ry hyp
  obtain ⟨a, dx, fs, t, rfl, atA, ty, nf, cont⟩ := hyp
  cases rx
  refine wpAny_mono (rc_eq (Q := fun b H' => Q (.bl b) H') m F hr rfl hx Iv atA ry (ty pins σ s _ Iv ry) nf cont) (fun r s1 z => ?_) fun _ _ e => e
  obtain ⟨b, rfl, H1, Iv1, q1⟩ := z
  exact ⟨.bl b, H1, Iv1, rfl, q1⟩
/-- a special method that is a built-in's -/
theorem bound_bi {M : Model} {A : Around} {E : Value → Shared → Prop} {a : Addr} {ox : Obj} {od : Option Obj} {name : Str} {id : String} {args : List Value} {Q : Option Value → Shared → Prop} {Kf : PySem.W.Frag} (kin : Kf.In s.heap) (J : PySem.W.InstAt s.heap a ox C od) (hs : PySem.W.findIn Kf (.ref C) name = some (some (.builtin id)))
    (hb : ∀ self, bindSpecial (.builtin id) self = pure (.builtin id, [self])) (hyp : wpAny M A (call (.builtin id) (.ref a :: args)) (fun v => Q (some v)) E s) : wpAny M A (callSpecialIfBound? (.ref a) name args) Q E s := by
  simp only [callSpecialIfBound?,
      bindSpecialIfBound?]
  refine wpAny_holding (wpAny_bind (wpAny_bind (wpAny_bind (J.type.here ((PySem.W.looks_findIn kin hs).here ?_)))))
  have go : wpAny M A (call (.builtin id) ([.ref a] ++ args) >>= fun v => pure (some v)) Q E s := wpAny_bind (wpAny_mono hyp (fun v s1 z => wpAny_pure z) fun _ _ z => z)
  refine wpAny_bind (wpAny_askSetting
      (wpAny_ite ?_))
  split
  · exact wpAny_bind ((PySem.W.Looks.of_pure (hb _)).here (wpAny_pure go))
  · exact wpAny_tryCatch (wpAny_bind ((PySem.W.Looks.of_pure (hb _)).here (wpAny_pure go)))
/-- object.__ne__(o, v), where o's class has its own == -/
theorem one_ne {A : Around} {a dx : Addr} {fs : List (Str × V)} {y : V} {u : Value} {Q : Bool → Hp → Prop} (m : OwnM X.K C "__eq__" g) (hm : PySem.W.mroIn X.K C (.type "object") = some true) (F : FnR X.prog X.w X.K X.mg X.base CX k g sp) (hr : Room (k + 1) A) (hf : A.frames = X.A.frames) (hx : Passes CX X Ek) (Iv : Inv X pins σ H s) (atA : H a = some (.ins C dx fs))
    (ry : RelV y u) (cont : sp [.ref a, y] H (fun v H' => ∃ b, v = .bl b ∧ Q b H') Ek) :
    wpAny (model X.prog X.w) A (call (.builtin "object.__ne__") [.ref a, u]) (fun r s1 => ∃ b, r = .bool (!b) ∧ ∃ H', Inv X pins σ H' s1 ∧ Q b H') X.xe s := by
  obtain ⟨ox, od, J⟩ := inst_of Iv atA
  refine wpAny_call (codeAny_call_builtin PySem.F.slot_object_ne.plain PySem.F.cmpEntry_ne (PySem.W.check_slot (i := "object.__ne__") (owner := "object") (n := "__ne__") (by decide +kernel) (by decide +kernel) (J.type.andThen (PySem.W.looks_mroIn Iv.kIn hm)) (PySem.F.cmpArgs_ne _ _) ?_))
  unfold
    Builtin.«object.__ne__»
  refine wpAny_bind (m := slotArgs "__ne__" 1 _) (wpAny_pure ?_)
  refine wpAny_bind (m := cRoomFor _ _) (wpAny_cRoomFor hr.in1.units0 ?_)
  refine wpAny_bind (m := callSpecialIfBound? (.ref a) (Str.ofString "__eq__") _) (PySem.W.ifBound_K Iv.kIn J m.at_ m.fn ?_)
  refine wpAny_mono (run_below F hr.in1 hf hx Iv (vs := [V.ref a, y]) (.cons rfl (.cons ry .nil)) cont) (fun w s1 hu => ?_) fun _ _ e => e
  obtain ⟨v, H1, Iv1, rv, b, rfl, q1⟩ := hu
  cases rv
  refine wpAny_bind (wpAny_truthy_bool ?_)
  exact wpAny_pure ⟨_, rfl, H1, Iv1, q1⟩
theorem rc_ne {A : Around} {a dx : Addr} {fs : List (Str × V)} {y : V} {u t : Value} {Q : Bool → Hp → Prop} (m : OwnM X.K C "__eq__" g) (hn : PySem.W.findIn X.K (.ref C) "__ne__" = some (some (.builtin "object.__ne__"))) (hm : PySem.W.mroIn X.K C (.type "object") = some true) (F : FnR X.prog X.w X.K X.mg X.base CX k g sp) (hr : Room (k + 1) A) (hf : A.frames = X.A.frames)
    (hx : Passes CX X Ek) (Iv : Inv X pins σ H s) (atA : H a = some (.ins C dx fs)) (ry : RelV y u) (ty : ∀ M : Model, PySem.W.Looks M s.heap (typeOf u) t) (nf : PySem.W.notFirst X.K C t = true) (cont : sp [.ref a, y] H (fun v H' => ∃ b, v = .bl b ∧ Q b H') Ek) :
    wpAny (model X.prog X.w) A (richCompare .NotEq (.ref a) u) (fun r s1 => ∃ b, r = .bool (!b) ∧ ∃ H', Inv X pins σ H' s1 ∧ Q b H') X.xe s := by
  obtain ⟨ox, od, J⟩ := inst_of Iv atA
  have one : wpAny (model X.prog X.w) A (tryCompare (.ref a) (cmpInfo .NotEq).2.1 u) (fun r s1 => ∃ b, r = some (.bool (!b)) ∧ ∃ H', Inv X pins σ H' s1 ∧ Q b H') X.xe s := by
    unfold tryCompare
    refine wpAny_bind (bound_bi Iv.kIn J hn PySem.F.slot_object_ne.bind (wpAny_mono (one_ne m hm F hr hf hx Iv atA ry cont) (fun r s1 z => ?_) fun _ _ e => e))
    obtain ⟨b, rfl, z⟩ := z
    exact wpAny_pure ⟨b, rfl, z⟩
  unfold richCompare
  simp only [oneThing_ref]
  refine wpAny_holding (wpAny_bind (wpAny_cRoomFor hr.units0 ?_))
  refine wpAny_bind (J.type.here (wpAny_bind ((ty _).here ?_)))
  split
  · rename_i z
    have e : PySem.W.subIn X.K t (.ref C) = some false := by
      rcases Bool.or_eq_true_iff.mp nf with e | e
      · rw [beq_iff_eq.mp e] at z
        simp at z
      · exact beq_iff_eq.mp e
    refine wpAny_bind ((PySem.W.looks_subIn Iv.kIn e).here ?_)
    simp only [Bool.false_eq_true,
        if_false]
    refine wpAny_bind (wpAny_mono one (fun r s1 zz => ?_) fun _ _ e => e)
    obtain ⟨b, rfl, zz⟩ := zz
    exact wpAny_pure ⟨b, rfl, zz⟩
  · refine wpAny_bind
        (wpAny_pure ?_)
    simp only [Bool.false_eq_true,
        if_false]
    refine wpAny_bind (wpAny_mono one (fun r s1 zz => ?_) fun _ _ e => e)
    obtain ⟨b, rfl, zz⟩ := zz
    exact wpAny_pure ⟨b, rfl, zz⟩
end
end DuX
/-! o != v; bool(o) by the own __len__ -/
namespace DuX
open PySem PySem.Spec
open PyProof.Rows L2
section
variable {X : Cx} {CX : CXT} {k : Nat} {g C : Addr} {sp : Sp} {Ek : XK} {pins : List (Addr × Obj)} {σ : L2.St} {H : Hp} {s : Shared}
/-- what the class at C has from object: its != -/
structure NeM (K : PySem.W.Frag) (C : Addr) : Prop where
  ne : PySem.W.findIn K (.ref C) "__ne__" = some (some (.builtin "object.__ne__"))
  mro : PySem.W.mroIn K C (.type "object") = some true
theorem op_neO (m : OwnM X.K C "__eq__" g) (n : NeM X.K C) (F : FnR X.prog X.w X.K X.mg X.base CX k g sp) (hr : Room (k + 1) X.A) (hx : Passes CX X Ek) :
    OpR X (compareOp .NotEq) (fun x y H Q => ∃ a dx fs t, x = .ref a ∧ H a = some (.ins C dx fs) ∧ (∀ pins σ s u, Inv X pins σ H s → RelV y u → ∀ M : Model, PySem.W.Looks M s.heap (typeOf u) t) ∧ PySem.W.notFirst X.K C t = true ∧ sp [.ref a, y] H (fun v H' => ∃ b, v = .bl b ∧ Q (.bl (!b)) H') Ek) := by
  intro pins s σ H x y u v Q Iv rx ry h
  obtain ⟨a, dx, fs, t, rfl, ha, ty, nf, q⟩ := h
  cases rx
  refine wpAny_mono (rc_ne (Q := fun b H' => Q (.bl (!b)) H') m n.ne n.mro F hr rfl hx Iv ha ry (ty pins σ s _ Iv ry) nf q) (fun r s1 z => ?_) fun _ _ e => e
  obtain ⟨b, rfl, H1, I1, q1⟩ := z
  exact ⟨.bl (!b), H1, I1, rfl, q1⟩
/-- the truth of o, by its __len__ -/
theorem truthy_lenO {A : Around} {a dx : Addr} {fs : List (Str × V)} {Q : Bool → Hp → Prop} (m : OwnM X.K C "__len__" g) (nb : PySem.W.findIn X.K (.ref C) "__bool__" = some none) (F : FnR X.prog X.w X.K X.mg X.base CX k g sp) (hr : Room (k + 1) A) (hf : A.frames = X.A.frames) (hx : Passes CX X Ek) (Iv : Inv X pins σ H s) (ha : H a = some (.ins C dx fs))
    (q : sp [.ref a] H (fun v H' => ∃ n : Nat, v = .int n ∧ n < 2 ^ 62 ∧ Q (n != 0) H') Ek) :
    wpAny (model X.prog X.w) A (truthy (.ref a)) (fun b s1 => ∃ H', Inv X pins σ H' s1 ∧ Q b H') X.xe s := by
  obtain ⟨ox, od, J⟩ := inst_of Iv ha
  have len : wpAny (model X.prog X.w) A (runValue (.builtin "len" ⟨[.ref a], []⟩)) (fun r s1 => ∃ (n : Nat) (t : Tok), r = .int n t ∧ ∃ H', Inv X pins σ H' s1 ∧ Q (n != 0) H') X.xe s := by
    refine wpAny_runValue (codeAny_builtin
        entry_len ?_)
    rw [Around.under_plainId
        plain_len _]
    unfold Builtin.«len»
    refine wpAny_bind (m := oneArg
        "len" _) (wpAny_pure ?_)
    refine wpAny_bind (m := callSpecial? (.ref a) (Str.ofString "__len__")) (PySem.W.special_fn Iv.kIn J m.at_ (beq_iff_eq.mp m.fn) (wpAny_mono (run_below F hr.in1 hf hx Iv (vs := [V.ref a]) (.cons rfl .nil) q) (fun r s' z => ?_) fun _ _ y => y))
    obtain ⟨v, H1, I1, rv, n, rfl, hn, q1⟩ := z
    obtain ⟨t, rfl⟩ := rv
    refine wpAny_bind (wpAny_holding
        (wpAny_pure ?_))
    refine wpAny_bind
        (wpAny_letGo ?_)
    show wpAny _ _ (if ((n : Nat) : Int) < 0 then _ else _) _ _ _
    rw [if_neg (by omega)]
    show wpAny _ _ (if ((n : Nat) : Int) ≥ 2 ^ 63 then _ else _) _ _ _
    rw [if_neg (by omega)]
    exact wpAny_bind (wpAny_mkInt (wpAny_pure ⟨n, _, rfl, H1, I1.tok _, q1⟩))
  unfold truthy
  refine wpAny_bind (m := callSpecial? (.ref a) (Str.ofString "__bool__")) (wpAny_bind (wpAny_bind (J.type.here ((PySem.W.looks_findIn Iv.kIn nb).here (wpAny_pure ?_)))))
  refine wpAny_bind (wpAny_bind (J.type.here ((PySem.W.looks_findIn Iv.kIn m.at_).here ?_)))
  refine wpAny_bind (wpAny_mono len (fun r s1 z => ?_) fun _ _ e => e)
  obtain ⟨n, t, rfl, H1, I1, q1⟩ := z
  have e : ((n : Int) != 0) = (n != 0) := by
    cases n with
    | zero => rfl
    | succ n => rfl
  show wpAny _ _ (pure ((n : Int) != 0)) _ _ _
  rw [e]
  exact wpAny_pure ⟨H1, I1, q1⟩
/-- bool(o) -/
theorem call_boolO (m : OwnM X.K C "__len__" g) (nb : PySem.W.findIn X.K (.ref C) "__bool__" = some none) (F : FnR X.prog X.w X.K X.mg X.base CX k g sp) (hr : Room (k + 3) X.A) (hx : Passes CX X Ek) :
    CallR X (.type "bool") (fun xs H Q => ∃ a dx fs, xs = [.ref a] ∧ H a = some (.ins C dx fs) ∧ sp [.ref a] H (fun v H' => ∃ n : Nat, v = .int n ∧ n < 2 ^ 62 ∧ Q (.bl (n != 0)) H') Ek) := by
  intro pins s σ H xs us Q Iv r h
  obtain ⟨a, dx, fs,
      rfl, ha, q⟩ := h
  rw [Vals.ref1 r]
  have f1 := PySem.F.conv_sub_bool
  refine callType_codes (T := "bool") (Bi := Builtin.«object.__init__») (Q₁ := fun r s₁ => ∃ b, r = .bool b ∧ ∃ H', Inv X pins σ H' s₁ ∧ Q (.bl b) H') PySem.F.called_bool (PySem.F.typeCall_bool_1 _) PySem.F.entry_object_init ?_ ?_
  · refine codeAny_of_tree ?_
    show wpAny _ X.A.in1.in1 (do checkBuiltinCall "bool.__new__" ⟨[.type "bool", .ref a], []⟩; again (.builtin "bool.__new__" ⟨[.type "bool", .ref a], []⟩)) _ _ s
    refine wpAny_bind (wpAny_of_eq (PySem.F.newCall_bool_1 _) (wpAny_pure ⟨plainId_quiet (by decide +kernel) _, codeAny_builtin PySem.F.entry_bool_new ?_⟩))
    rw [Around.under_plainId
        (by decide +kernel) _]
    unfold Builtin.«bool.__new__»
    refine wpAny_bind (m := isType (.type "bool")) (wpAny_pure ?_)
    simp only [Bool.not_true,
        Bool.false_eq_true, if_false]
    refine wpAny_bind (wpAny_of_eq f1 ?_)
    simp only [Bool.not_true,
        Bool.false_eq_true, if_false]
    refine wpAny_bind (m := someArgs "bool" 0 1 _) (wpAny_pure ?_)
    refine wpAny_bind (wpAny_mono (truthy_lenO (Q := fun b H' => Q (.bl b) H') m nb F hr.in1.in1 rfl hx Iv ha q) (fun b s1 z => ?_) fun _ _ e => e)
    exact wpAny_pure ⟨b, rfl, z⟩
  · rintro obj s₁ ⟨b, rfl, H1, I1, q1⟩
    exact ⟨rfl, PySem.F.args_object_init_2 _ _, object_init_meets PySem.F.called_bool.init.lookup PySem.F.called_bool.made (by decide) X.prog X.w X.A.in1 _ s₁ ⟨rfl, rfl, .bl b, H1, I1, rfl, q1⟩⟩
end
end DuX
/-! repr of data of any depth -/
namespace RpD
open PySem PySem.Spec
open PyProof.Rows L2
section
variable {X : Cx}
structure Shows (d : PyData) : Prop where
  sh : d.showable = true
  nd : d.hasDict = false
  dp : d.depth ≤ 20
  sz : d.shown.length ≤ sizeLine
/-- repr(x) -/
theorem call_reprD (hg : X.A.guards = some []) (hu : X.A.units + 100 < cLine) : CallR X (.builtin "repr") (fun xs H Q => ∃ x d, xs = [x] ∧ Dp X.K H x d ∧ Shows d ∧ Q (.str d.shown) H) := by
  intro pins s σ H xs us Q Iv r h
  obtain ⟨x, d, rfl, hd, S, q⟩ := h
  cases r with
  | cons r rr =>
    cases rr
    rename_i u
    obtain ⟨as, R⟩ := Dp.reads Iv d x u hd r
    have dp := S.dp
    have go : ∀ {a : Addr}, u = .ref a → wpAny (model X.prog X.w) X.A (call (.builtin "repr") [u]) (EP X pins σ Q) X.xe s := fun {a} e => by
      subst e
      refine repr_of_reads' R S.sh (fun e => by rw [S.nd] at e; cases e) hg (by omega) (fun _ _ e => e) (fun h' t tk kp => ⟨.str d.shown, H, Iv.kept kp, ⟨t, rfl⟩, q⟩) S.sz
    cases hd with
    | non =>
      cases r
      exact P.repr_of_none ⟨.str _, H, Iv.tok _, ⟨_, rfl⟩, q⟩
    | bl b =>
      cases r
      exact P.repr_of_bool ⟨.str _, H, Iv.tok _, ⟨_, rfl⟩, q⟩
    | int i =>
      obtain ⟨t, rfl⟩ := r
      have e : i.natAbs.log2 < 1920 := by simpa [PyData.showable] using S.sh
      exact P.repr_of_int e ⟨.str _, H, Iv.tok _, ⟨_, rfl⟩, q⟩
    | str z =>
      obtain ⟨t, rfl⟩ := r
      exact P.repr_of_str ⟨.str _, H, Iv.tok _, ⟨_, rfl⟩, q⟩ S.sz
    | lst h1 h2 =>
      cases r
      exact go rfl
    | tup h1 h2 =>
      cases r
      exact go rfl
end
/-! ### how long a text of data is -/
mutual
def wide : PyData → Nat
  | .none => 5
  | .bool _ => 5
  | .int _ => 5
  | .str x => 10 * x.length + 2
  | .list xs => wideAll xs + 3
  | .tuple xs => wideAll xs + 3
  | .dict _ => 0
def wideAll : List PyData → Nat
  | [] => 0
  | x :: xs => wide x + 2 + wideAll xs
end
mutual
def plainD : PyData → Bool
  | .none => true
  | .bool _ => true
  | .int i => decide (0 ≤ i ∧ i < 1000)
  | .str x => x.cps.toList.all
      fun c => decide (c < 16 ^ 8)
  | .list xs => plainAll xs
  | .tuple xs => plainAll xs
  | .dict _ => false
def plainAll :
    List PyData → Bool
  | [] => true
  | x :: xs => plainD x && plainAll xs
end
theorem dec1000 : ((List.range 1000).all fun n => decide ((toString (n : Int) : Str).length ≤ 5)) = true := by decide +kernel
theorem shown_int {i : Int} (h : 0 ≤ i ∧ i < 1000) : (toString i : Str).length ≤ 5 := by
  have q := (List.all_eq_true.mp dec1000) i.toNat (List.mem_range.mpr (by omega))
  have e : ((i.toNat : Nat) : Int) = i := by omega
  rw [e] at q
  exact of_decide_eq_true q
theorem log_small {i : Int} (h : 0 ≤ i ∧ i < 1024) : i.natAbs.log2 < 1920 := by
  by_cases h0 : i.natAbs = 0
  · rw [h0]
    decide
  · refine (Nat.log2_lt h0).mpr ?_
    refine Nat.lt_of_lt_of_le (show i.natAbs < 2 ^ 10 by omega) (Nat.pow_le_pow_right (by decide) (by decide))
mutual
theorem shown_le : ∀ d : PyData, plainD d = true → d.shown.length ≤ wide d ∧ d.showable = true ∧ d.hasDict = false
  | .none, _ => ⟨by decide +kernel, rfl, rfl⟩
  | .bool b, _ => ⟨by cases b <;> decide +kernel, rfl, rfl⟩
  | .int i, h => by
    have q : 0 ≤ i ∧ i < 1000 := of_decide_eq_true h
    exact ⟨shown_int q, decide_eq_true (log_small ⟨q.1, by omega⟩), rfl⟩
  | .str x, h => by
    refine ⟨StrLaws.reprText_len x fun c hc => of_decide_eq_true ((List.all_eq_true.mp h) c hc), rfl, rfl⟩
  | .list xs, h => by
    obtain ⟨a, b, c⟩ := shown_all xs h
    refine ⟨?_, b, c⟩
    show (listText (PyData.shownAll xs)).length ≤ wideAll xs + 3
    have := listText_len_le (PyData.shownAll xs)
    omega
  | .tuple xs, h => by
    obtain ⟨a, b, c⟩ := shown_all xs h
    refine ⟨?_, b, c⟩
    show (tupleText (PyData.shownAll xs)).length ≤ wideAll xs + 3
    have := tupleText_len_le (PyData.shownAll xs)
    omega
  | .dict _, h => by cases h
theorem shown_all : ∀ xs : List PyData, plainAll xs = true → ((PyData.shownAll xs).map (·.length)).sum + 2 * (PyData.shownAll xs).length ≤ wideAll xs ∧ PyData.showableAll xs = true ∧ PyData.hasDictAll xs = false
  | [], _ => ⟨Nat.le_refl _, rfl, rfl⟩
  | x :: xs, h => by
    have h : (plainD x && plainAll xs) = true := h
    rw [Bool.and_eq_true] at h
    obtain ⟨a, b, c⟩ := shown_le x h.1
    obtain ⟨a2, b2, c2⟩ := shown_all xs h.2
    refine ⟨?_, ?_, ?_⟩
    · show ((x.shown :: PyData.shownAll xs).map (·.length)).sum + 2 * (x.shown :: PyData.shownAll xs).length ≤ wide x + 2 + wideAll xs
      rw [List.map_cons, List.sum_cons, List.length_cons]
      omega
    · show (x.showable && PyData.showableAll xs) = true
      rw [b, b2]
      rfl
    · show (x.hasDict || PyData.hasDictAll xs) = false
      rw [c, c2]
      rfl
end
theorem Shows.of {d : PyData} (h : plainD d = true) (hd : d.depth ≤ 20) (hw : wide d ≤ 16000000) : Shows d := by
  obtain ⟨a, b, c⟩ := shown_le d h
  exact ⟨b, c, hd, by rw [sizeLine_eq]; omega⟩
end RpD
namespace K1
open PySem PySem.Spec
open PyProof.Rows L2 EnT StX SmX TxS DuX
/-! ### which class a value is of -/
def baseTys : List String := ["NoneType", "bool", "int", "str", "list", "tuple", "dict"]
structure MemIs (K : PySem.W.Frag) (C : Addr) : Prop where
  ha : PySem.W.findIn K (.ref C) "__class__"
      = some (some (.builtin "object.__class__"))
  hn : PySem.W.specialIn K (.builtin "object.__class__")
      "__get__" = some (some (.builtin "getset_descriptor.__get__"))
  htk : PySem.W.takesIn K (.builtin
      "object.__class__") = some true
  hm : PySem.W.mroIn K C
      (.type "object") = some true
  yes : PySem.W.kitOne K (.ref C) (.ref C) = some true
  no : ∀ t ∈ baseTys, PySem.W.kitOne K (.type t) (.ref C) = some false
  nf : ∀ t ∈ baseTys, PySem.W.notFirst K C (.type t) = true
  nfC : PySem.W.notFirst K C (.ref C) = true
theorem VOk.ty {K : PySem.W.Frag} {H : Hp} {v : V} (h : VOk H v) : ∃ t, t ∈ baseTys ∧ TyX K H v (.type t) := by
  rcases h with ⟨z, rfl, _⟩ | h
  · exact ⟨"str", by decide, .base (.str z)⟩
  cases h with
  | non => exact ⟨"NoneType", by decide, .base .non⟩
  | bl b => exact ⟨"bool", by decide, .base (.bl b)⟩
  | int i => exact ⟨"int", by decide, .base (.int i)⟩
  | lst e => exact ⟨"list", by decide, .base (.lst e)⟩
  | tup e => exact ⟨"tuple", by decide, .base (.tup e)⟩
  | dK e => exact ⟨"dict", by decide, .base (.dK e)⟩
theorem VOk.isStr {K : PySem.W.Frag} {H : Hp} {v : V} (h : VOk H v) : ∃ t b, TyX K H v (.type t) ∧ PySem.W.kitOne K (.type t) (.type "str") = some b ∧ (b = true → ∃ z, v = .str z) ∧ (b = false → NoStr H v) := by
  rcases h with ⟨z, rfl, _⟩ | h
  · exact ⟨"str", true, .base (.str z), kit_ty (by decide +kernel), fun _ => ⟨z, rfl⟩, fun e => by cases e⟩
  have h0 := h
  cases h with
  | non => exact ⟨"NoneType", false, .base .non, kit_ty (by decide +kernel), fun e => (by cases e), fun _ => h0⟩
  | bl b => exact ⟨"bool", false, .base (.bl b), kit_ty (by decide +kernel), fun e => (by cases e), fun _ => h0⟩
  | int i => exact ⟨"int", false, .base (.int i), kit_ty (by decide +kernel), fun e => (by cases e), fun _ => h0⟩
  | lst e => exact ⟨"list", false, .base (.lst e), kit_ty (by decide +kernel), fun e => (by cases e), fun _ => h0⟩
  | tup e => exact ⟨"tuple", false, .base (.tup e), kit_ty (by decide +kernel), fun e => (by cases e), fun _ => h0⟩
  | dK e => exact ⟨"dict", false, .base (.dK e), kit_ty (by decide +kernel), fun e => (by cases e), fun _ => h0⟩
/-! ### facts of names -/
theorem name_short {z : Str} (h : nameB z = true) : z.length ≤ 8 := by
  unfold nameB at h
  by_cases h8 : 8 < z.length
  · rw [if_pos h8] at h
    cases h
  · omega
def sp1 : Str := Str.ofString " "
def joinSp (zs : List Str) : Str := Txt.join sp1 zs
theorem sum_short : ∀ zs : List Str, (∀ z ∈ zs, z.length ≤ 8) → (zs.map (·.length)).sum ≤ zs.length * 8
  | [], _ => Nat.le_refl _
  | z :: r, h => by
    have a := h z List.mem_cons_self
    have b := sum_short r fun y hy => h y (List.mem_cons_of_mem _ hy)
    rw [List.map_cons, List.sum_cons, List.length_cons]
    omega
theorem join_fits {zs : List Str} (h : ∀ z ∈ zs, z.length ≤ 8) (hl : zs.length ≤ 1000) : (zs.map (·.length)).sum + zs.length * (sp1).length ≤ 16777216 := by
  have a := sum_short zs h
  have e : (sp1).length = 1 := by decide +kernel
  rw [e]
  omega
theorem flds_names (t d : Addr) : (flds t d).lookup ("_names" : Str) = some (.ref t) := by
  unfold flds
  rw [lookup_putF, lookup_putF, if_pos rfl, if_neg (by decide +kernel)]
theorem flds_table (t d : Addr) : (flds t d).lookup ("_table" : Str) = some (.ref d) := by
  unfold flds
  rw [lookup_putF, if_pos rfl]
theorem flds_str (t d : Addr) : (flds t d).lookup ("names" : Str) = none := by
  unfold flds
  rw [lookup_putF, lookup_putF, if_neg (by decide +kernel), if_neg (by decide +kernel)]
  rfl
theorem valV_tab {zs : List Str} {z : Str} : (valV (tabOf zs) (Sum.inr z : Key)).isSome = decide (z ∈ zs) := by
  induction zs with
  | nil => rfl
  | cons a r ih =>
    show (valV ((Sum.inr a, V.bl true) :: tabOf r) (Sum.inr z : Key)).isSome = _
    by_cases h : a = z
    · subst h
      have e : valV ((Sum.inr a, V.bl true) :: tabOf r) (Sum.inr a : Key) = some (V.bl true) := by
        unfold valV
        rw [List.find?_cons, decide_eq_true rfl]
        rfl
      rw [e, decide_eq_true List.mem_cons_self]
      rfl
    · rw [valV_neg (fun e => h (Sum.inr.inj e)), ih]
      by_cases m : z ∈ r
      · rw [decide_eq_true m, decide_eq_true (List.mem_cons_of_mem _ m)]
      · rw [decide_eq_false m, decide_eq_false fun q => by
          rcases List.mem_cons.mp q with q | q
          · exact h q.symm
          · exact m q]
/-! ### texts as data -/
def strD (zs : List Str) : List PyData := zs.map PyData.str
theorem dpAll_str {K : PySem.W.Frag} {H : Hp} : ∀ zs : List Str, DpAll K H (zs.map V.str) (strD zs)
  | [] => .nil
  | z :: r => .cons (.str z) (dpAll_str r)
def OkS (zs : List Str) : Prop := ∀ z ∈ zs, PyData.strOk z = true
theorem strD_lay : ∀ zs : List Str, OkS zs → PyData.canLayAll0 (strD zs) = true
  | [], _ => by simp [strD, PyData.canLayAll0]
  | z :: zs, h => by
    have := strD_lay zs fun y hy => h y (List.mem_cons_of_mem _ hy)
    have h1 := h z List.mem_cons_self
    simp only [strD] at this
    simp [strD, PyData.canLayAll0, PyData.canLay0, this, h1]
theorem name_low {z : Str} (h : nameB z = true) : ∀ c ∈ z.cps.toList, c < 128 := by
  unfold nameB at h
  split at h
  · cases h
  split at h
  · cases h
  · rename_i h2
    have e : z.cps.all (· < 128) = true := by
      cases q : Txt.isascii z with
      | true => exact q
      | false => exact absurd q h2
    rw [← Array.all_toList] at e
    exact fun c hc => of_decide_eq_true ((List.all_eq_true.mp e) c hc)
theorem strOk_low {z : Str} (h : ∀ c ∈ z.cps.toList, c < 128) : PyData.strOk z = true := by
  show z.cps.all (· < 0x110000) = true
  rw [← Array.all_toList]
  exact List.all_eq_true.mpr fun c hc => decide_eq_true (Nat.lt_trans (h c hc) (by decide))
theorem okS_names {zs : List Str} (h : ∀ z ∈ zs, nameB z = true) : OkS zs := fun z hz => strOk_low (name_low (h z hz))
theorem strD_depth : ∀ zs : List Str, PyData.depthAll (strD zs) = 0
  | [] => by simp [strD, PyData.depthAll]
  | z :: zs => by
    have := strD_depth zs
    simp only [strD] at this
    simp [strD, PyData.depthAll, PyData.depth, this]
theorem tupD_shaped {zs : List Str} (h : OkS zs) : SeqAt.shaped (.tuple (strD zs)) = true := by
  show (PyData.canLay0 (.tuple (strD zs)) && decide (PyData.depth (.tuple (strD zs)) ≤ 64)) = true
  rw [Bool.and_eq_true]
  refine ⟨by simp only [PyData.canLay0]; exact strD_lay zs h, decide_eq_true ?_⟩
  simp only [PyData.depth]
  rw [strD_depth]
  omega
theorem lstD_shaped {zs : List Str} (h : OkS zs) : SeqAt.shaped (.list (strD zs)) = true := by
  show (PyData.canLay0 (.list (strD zs)) && decide (PyData.depth (.list (strD zs)) ≤ 64)) = true
  rw [Bool.and_eq_true]
  refine ⟨by simp only [PyData.canLay0]; exact strD_lay zs h, decide_eq_true ?_⟩
  simp only [PyData.depth]
  rw [strD_depth]
  omega
theorem strD_eqv : ∀ zs ws : List Str, PyData.eqvAll (strD zs) (strD ws) = decide (zs = ws)
  | [], [] => by simp [strD, PyData.eqvAll]
  | [], w :: ws => by simp [strD, PyData.eqvAll]
  | z :: zs, [] => by simp [strD, PyData.eqvAll]
  | z :: zs, w :: ws => by
    have ih := strD_eqv zs ws
    simp only [strD] at ih
    simp only [strD, List.map_cons, PyData.eqvAll, PyData.eqv, ih]
    by_cases h : z = w
    · subst h
      simp
    · have : (z == w) = false := beq_eq_false_iff_ne.mpr h
      rw [this]
      simp [h]
/-! ### promises -/
def spNamesP (C : Addr) : Sp := fun vs H Q _ => ∃ a zs, vs = [.ref a] ∧ MemAt C H a zs ∧ ∀ t, H t = some (.tup (zs.map V.str)) → Q (.ref t) H
def spStrM (C : Addr) : Sp := fun vs H Q _ => ∃ a zs, vs = [.ref a] ∧ MemAt C H a zs ∧ (∀ z ∈ zs, z.length ≤ 8) ∧ Q (.str (joinSp zs)) H
def spReprM (C : Addr) : Sp := fun vs H Q _ => ∃ a zs, vs = [.ref a] ∧ MemAt C H a zs ∧ Q (.str (Str.empty ++ ("Members(" : Str) ++ (toString (zs.length : Int) : Str) ++ (")" : Str))) H
def spLenM (C : Addr) : Sp := fun vs H Q _ => ∃ a zs, vs = [.ref a] ∧ MemAt C H a zs ∧ Q (.int (zs.length : Nat)) H
def hasV (zs : List Str) : V → Bool
  | .str z => decide (z ∈ zs)
  | _ => false
def spHasM (C : Addr) : Sp := fun vs H Q _ => ∃ a zs v, vs = [.ref a, v] ∧ MemAt C H a zs ∧ VOk H v ∧ Q (.bl (hasV zs v)) H
def spEqM (C : Addr) : Sp := fun vs H Q _ => ∃ a zs y, vs = [.ref a, y] ∧ MemAt C H a zs ∧ ((∃ b ws, y = .ref b ∧ MemAt C H b ws ∧ Q (.bl (decide (zs = ws))) H) ∨ (VOk H y ∧ Q (.bl false) H))
section
variable {w : World} {P : Program} {base : Heap} {mg : Str → Option Value} {K : PySem.W.Frag}
theorem scStrM : FnScope ["self"] ["self"] (defScope sStrM) := ⟨rfl, rfl, rfl, by decide +kernel, rfl, by decide +kernel, by decide +kernel⟩
theorem scReprM : FnScope ["self"] ["self"] (defScope sReprM) := ⟨rfl, rfl, rfl, by decide +kernel, rfl, by decide +kernel, by decide +kernel⟩
theorem scLenM : FnScope ["self"] ["self"] (defScope sLenM) := ⟨rfl, rfl, rfl, by decide +kernel, rfl, by decide +kernel, by decide +kernel⟩
theorem scNamesP : FnScope ["self"] ["self"] (defScope sNamesP) := ⟨rfl, rfl, rfl, by decide +kernel, rfl, by decide +kernel, by decide +kernel⟩
theorem scHasM : FnScope ["self", "value"] ["self", "value"] (defScope sHasM) := ⟨rfl, rfl, rfl, by decide +kernel, rfl, by decide +kernel, by decide +kernel⟩
theorem scEqM : FnScope ["self", "other"] ["self", "other"] (defScope sEqM) := ⟨rfl, rfl, rfl, by decide +kernel, rfl, by decide +kernel, by decide +kernel⟩
theorem ok_namesP {f C : Addr} {fd : FuncData} (F : Fun K "names" "Members.names" sNamesP f fd) (M : MemC K mg C) : FnOk P w K mg base CX0 1 f fd ["self"] (getSp C "_names") := by
  refine F.ok scNamesP (fun vs H Q E h => ?_) (fun cdv A outer s H vs Q E hr h => ?_)
  · obtain ⟨a, dx, fs, v, rfl, _⟩ := h
    rfl
  · obtain ⟨a, dx, fs, v, rfl, ha, l, q⟩ := h
    exact ⟨_, pss_one (ps_ret (pe_fld (pv 0) rfl)), _, rfl, a, C, dx, fs, v, rfl, ha, M.cl, M.nN, l, q⟩
theorem ok_strM {f C : Addr} {fd : FuncData} (F : Fun K "__str__" "Members.__str__" sStrM f fd) (M : MemC K mg C) : FnOk P w K mg base CX0 1 f fd ["self"] (spStrM C) := by
  refine F.ok scStrM (fun vs H Q E h => ?_) (fun cdv A outer s H vs Q E hr h => ?_)
  · obtain ⟨a, zs, rfl, _⟩ := h
    rfl
  · obtain ⟨a, zs, rfl, m, hl, q⟩ := h
    obtain ⟨dx, t, d, h1, h2, h3⟩ := m.at_
    exact ⟨_, pss_one (ps_ret (pe_join pe_str (pe_fld (pv 0) rfl))), ⟨_, rfl⟩, _, rfl, a, C, dx, _, _, rfl, h1, M.cl, M.nN, flds_names t d, _, t, zs, rfl, rfl, .inr (SqT.of h2), join_fits hl m.few, q⟩
theorem ok_lenM {f C : Addr} {fd : FuncData} (F : Fun K "__len__" "Members.__len__" sLenM f fd) (T : Free mg) (M : MemC K mg C) : FnOk P w K mg base CX0 1 f fd ["self"] (spLenM C) := by
  refine F.ok scLenM (fun vs H Q E h => ?_) (fun cdv A outer s H vs Q E hr h => ?_)
  · obtain ⟨a, zs, rfl, _⟩ := h
    rfl
  · obtain ⟨a, zs, rfl, m, q⟩ := h
    obtain ⟨dx, t, d, h1, h2, h3⟩ := m.at_
    refine ⟨_, pss_one (ps_ret (pe_callB call_len_seq (by rfl) T.len PySem.boot_len (pa_cons (pe_fld (pv 0) rfl) pa_nil))), _, rfl, a, C, dx, _, _, rfl, h1, M.cl, M.nN, flds_names t d, t, zs.map V.str, rfl, .inr (SqT.of h2), ?_⟩
    rw [List.length_map]
    exact q
theorem str_short {n : Nat} (h : n ≤ 1000) : (toString (n : Int) : Str).length ≤ 5 := by
  by_cases e : n = 1000
  · subst e
    decide +kernel
  · exact RpD.shown_int (by omega)
theorem ok_reprM {f C : Addr} {fd : FuncData} (F : Fun K "__repr__" "Members.__repr__" sReprM f fd) (T : Free mg) (M : MemC K mg C) : FnOk P w K mg base CX0 1 f fd ["self"] (spReprM C) := by
  refine F.ok scReprM (fun vs H Q E h => ?_) (fun cdv A outer s H vs Q E hr h => ?_)
  · obtain ⟨a, zs, rfl, _⟩ := h
    rfl
  · obtain ⟨a, zs, rfl, m, q⟩ := h
    obtain ⟨dx, t, d, h1, h2, h3⟩ := m.at_
    have few := str_short m.few
    have e0 : (Str.empty ++ ("Members(" : Str)).length = 8 := by decide +kernel
    refine ⟨_, pss_one (ps_ret (pe_joined (.cons pe_str (.cons (pe_fmt (pe_callB call_len_seq (by rfl) T.len PySem.boot_len (pa_cons (pe_fld (pv 0) rfl) pa_nil))) (.cons pe_str .nil))))), ?_⟩
    have e8 : (8 : Nat) ≤ sizeLine := by rw [sizeLine_eq]; decide
    refine ⟨_, rfl, e0 ▸ e8, _, rfl, a, C, dx, _, _, rfl, h1, M.cl, M.nN, flds_names t d, t, zs.map V.str, rfl, .inr (SqT.of h2), .inr ⟨_, rfl, ?_, ?_⟩⟩
    · rw [List.length_map]
      have := m.few
      exact RpD.log_small (i := (zs.length : Nat)) (by omega)
    · rw [List.length_map]
      refine ⟨_, rfl, ?_, _, rfl, ?_, q⟩
      · rw [strLen_append, e0, sizeLine_eq]
        omega
      · rw [strLen_append, strLen_append, e0, sizeLine_eq]
        have : ((")" : Str)).length = 1 := by decide +kernel
        omega
theorem ok_hasM {f C : Addr} {fd : FuncData} (F : Fun K "__contains__" "Members.__contains__" sHasM f fd) (T : Free mg) (M : MemC K mg C) : FnOk P w K mg base CX0 1 f fd ["self", "value"] (spHasM C) := by
  refine F.ok scHasM (fun vs H Q E h => ?_) (fun cdv A outer s H vs Q E hr h => ?_)
  · obtain ⟨a, zs, v, rfl, _⟩ := h
    rfl
  · obtain ⟨a, zs, v, rfl, m, hv, q⟩ := h
    obtain ⟨dx, t, d, h1, h2, h3⟩ := m.at_
    obtain ⟨ty, b, e1, e2, e3, e4⟩ := hv.isStr (K := K)
    refine ⟨_, pss_one (ps_ret (pe_and (pe_callB call_isi (by rfl) T.isinstance (by decide +kernel) (pa_cons (pv 1) (pa_cons (pe_bltn (v := .ty "str") (u := .type "str") (by rfl) T.str (by decide +kernel) rfl) pa_nil))) (pe_one (pe_cmp (pc_din (by have := hr.un; show A.units + 3 + 1 < cLine; have e : (A.deeper (envOfC "Members.__contains__" (defScope sHasM) s.heap.objs.size f cdv)).units = A.units + 3 := rfl; omega) (pv 1) (pe_fld (pv 0) rfl)))))), ?_⟩
    refine ⟨_, rfl, _, _, _, _, b, rfl, .ty _, e1, e2, b, rfl, ?_⟩
    cases b with
    | true =>
      obtain ⟨z, rfl⟩ := e3 rfl
      rw [if_pos rfl]
      refine ⟨_, rfl, _, rfl, a, C, dx, _, _, rfl, h1, M.cl, M.nT, flds_table t d, d, _, rfl, .k (k := Sum.inr z) h3, ?_⟩
      rw [valV_tab]
      exact q
    | false =>
      rw [if_neg (by decide)]
      have n := e4 rfl
      have e : hasV zs v = false := by cases n <;> rfl
      rw [e] at q
      exact q
theorem ok_eqM {f C pN gN : Addr} {fd fdN : FuncData} (F : Fun K "__eq__" "Members.__eq__" sEqM f fd) (T : Free mg) (M : MemC K mg C) (I : MemIs K C) (pr : PropOf K C "names" pN gN) (GN : FnOk P w K mg base CX0 1 gN fdN ["self"] (getSp C "_names")) (FN : Fun K "names" "Members.names" sNamesP gN fdN) :
    FnOk P w K mg base CX0 3 f fd ["self", "other"] (spEqM C) := by
  have bN : Binds K fdN ["self"] [] := FN.binds (ps := ["self"]) fun _ _ _ _ _ _ us hl => match us, hl with | [_], _ => rfl
  refine F.ok scEqM (fun vs H Q E h => ?_) (fun cdv A outer s H vs Q E hr h => ?_)
  · obtain ⟨a, zs, y, rfl, _⟩ := h
    rfl
  · obtain ⟨a, zs, y, rfl, m, h⟩ := h
    obtain ⟨dx, t, d, h1, h2, h3⟩ := m.at_
    refine ⟨_, pss_one (ps_ret (pe_and (pe_callB call_isi (by rfl) T.isinstance (by decide +kernel) (pa_cons (pv 1) (pa_cons (pe_glob (v := .ref C) (by rfl) M.g rfl) pa_nil))) (pe_one (pe_cmpR (op_eqD (by have := hr.un; have e : (A.deeper (envOfC "Members.__eq__" (defScope sEqM) s.heap.objs.size f cdv)).units = A.units + 3 := rfl; show A.units + 3 + 64 < cLine; omega)) (pe_fld (pv 0) rfl) (pe_prop (pv 1) M.cl pr GN hr bN .nil pass0 rfl) (nomark _))))), ?_⟩
    rcases h with ⟨b, ws, rfl, m2, q⟩ | ⟨hv, q⟩
    · obtain ⟨dx2, t2, d2, k1, k2, k3⟩ := m2.at_
      refine ⟨_, rfl, _, _, _, _, true, rfl, .own C, .base (.ins k1 M.cl I.ha I.hn I.htk I.hm), I.yes, true, rfl, ?_⟩
      refine iteT ⟨_, rfl, a, C, dx, _, _, rfl, h1, M.cl, M.nN, flds_names t d, _, rfl, b, dx2, _, rfl, k1, b, dx2, _, _, rfl, k1, flds_names t2 d2, ?_⟩
      refine ⟨.tuple (strD zs), .tuple (strD ws), .tup (SqT.of h2) (dpAll_str zs), .tup (SqT.of k2) (dpAll_str ws), tupD_shaped (okS_names m.nm), tupD_shaped (okS_names m2.nm), ?_⟩
      have e : PyData.eqv (.tuple (strD zs)) (.tuple (strD ws)) = decide (zs = ws) := by
        simp only [PyData.eqv]
        exact strD_eqv zs ws
      rw [e]
      exact q
    · obtain ⟨ty, ht, tx⟩ := hv.ty (K := K)
      refine ⟨_, rfl, _, _, _, _, false, rfl, .own C, tx, I.no ty ht, false, rfl, ?_⟩
      exact iteF q
end
end K1
/-! joined and sorted texts -/
namespace K1
open PySem PySem.Spec
open PyProof.Rows L2
def NotLt (a b : Str) : Prop := ¬ (b.cps.toList < a.cps.toList)
theorem notLt_of {a b : Str} (h : (!ltCps b.cps.toList a.cps.toList) = true) : NotLt a b := by
  rw [ltCps_eq] at h
  simpa [NotLt] using h
theorem notLt_trans {a b c : Str} (h1 : NotLt a b) (h2 : NotLt b c) : NotLt a c := by
  have h1 : a.cps.toList ≤ b.cps.toList := List.not_lt.mp h1
  have h2 : b.cps.toList ≤ c.cps.toList := List.not_lt.mp h2
  exact List.not_lt.mpr (List.le_trans h1 h2)
theorem notLt_anti {a b : Str} (h1 : NotLt a b) (h2 : NotLt b a) : a = b := by
  have h1 : a.cps.toList ≤ b.cps.toList := List.not_lt.mp h1
  have h2 : b.cps.toList ≤ a.cps.toList := List.not_lt.mp h2
  exact TL.ext_tl (List.le_antisymm h1 h2)
theorem rising_pw : ∀ (r : List Str) (p : Str), risingS p r = true → (p :: r).Pairwise NotLt
  | [], p, _ => List.pairwise_cons.mpr ⟨fun _ h => (by cases h), List.Pairwise.nil⟩
  | x :: r, p, h => by
    have h : (!ltCps x.cps.toList p.cps.toList && risingS x r) = true := h
    rw [Bool.and_eq_true] at h
    have ih := rising_pw r x h.2
    have h1 := notLt_of h.1
    refine List.pairwise_cons.mpr ⟨fun y hy => ?_, ih⟩
    rcases List.mem_cons.mp
        hy with e | e
    · rw [e]
      exact h1
    · exact notLt_trans h1 ((List.pairwise_cons.mp ih).1 y e)
theorem sorted_pw {xs : List Str} (h : sortedS xs = true) : xs.Pairwise NotLt := by
  cases xs with
  | nil => exact List.Pairwise.nil
  | cons x r => exact rising_pw r x h
theorem sorted_uniq {xs ys : List Str} (hx : sortedS xs = true) (hy : sortedS ys = true) (nx : xs.Nodup) (ny : ys.Nodup) (m : ∀ z, z ∈ xs ↔ z ∈ ys) : xs = ys :=
  List.Perm.eq_of_pairwise (le := NotLt) (fun a b _ _ h1 h2 => notLt_anti h1 h2) (sorted_pw hx) (sorted_pw hy) ((List.perm_ext_iff_of_nodup nx ny).mpr m)
end K1
namespace K1
open PySem PySem.Spec
open PyProof.Rows L2 EnT StX SmX TxS DuX
/-- Members(*xs): what is asked, what is told -/
def spMk (C CN : Addr) : Sp := fun xs H Q E => (∀ v ∈ xs, VOk H v) ∧ xs.length ≤ 1000 ∧ (∀ i, wrongIx xs = some i → ErrAt CN "index" (.int i) H E) ∧ (wrongIx xs = none → ∀ zs : List Str, xs = zs.map V.str → Makes C zs H Q)
theorem ErrAt.same {C : Addr} {f : Str} {v : V} {H H' : Hp} {E : XK} (s : Same H H') (h : ErrAt C f v H E) : ErrAt C f v H' E := fun d H2 s2 n => h d H2 (s.trans s2) n
/-- what __init__ of Members promises, its names starred -/
def spInitR (K : PySem.W.Frag) (C CN : Addr) : Sp := fun vs H Q E => ∃ ws rest, vs = ws ++ rest ∧ ws.length = (["self"] : List Str).length ∧ rest.length ≤ sizeLine ∧ ∀ p, H p = Option.none → spInit0 K C CN (ws ++ [V.ref p]) (upd H p (.tup rest)) Q E
theorem make_of {K : PySem.W.Frag} {C CN : Addr} {xs : List V} {H : Hp} {Q : VK} {E : XK} (h : spMk C CN xs H Q E) :
    ∀ x dx, H x = Option.none → H dx = Option.none → dx ≠ x → spInitR K C CN (V.ref x :: xs) (upd (upd H dx (.own x)) x (.ins C dx [])) (fun v H2 => v = .non ∧ Q (.ref x) H2) E := by
  obtain ⟨hv, hl, he, hq⟩ := h
  intro x dx nx nd ne
  refine ⟨[.ref x], xs, rfl, rfl, by rw [sizeLine_eq]; omega, fun p np => ?_⟩
  have px : p ≠ x := fun e => by
    rw [e, upd_same] at np
    cases np
  have s1 : Same H (upd H dx (.own x)) := same_upd nd
  have s2 : Same (upd H dx (.own x)) (upd (upd H dx (.own x)) x (.ins C dx [])) := same_upd (by rw [upd_ne (Ne.symm ne)]; exact nx)
  have s3 : Same (upd (upd H dx (.own x)) x (.ins C dx [])) (upd (upd (upd H dx (.own x)) x (.ins C dx [])) p (.tup xs)) := same_upd np
  have s : Same H (upd (upd (upd H dx (.own x)) x (.ins C dx [])) p (.tup xs)) := (s1.trans s2).trans s3
  refine ⟨x, p, dx, xs, rfl, by rw [upd_ne (Ne.symm px), upd_same], SqT.of upd_same, fun v hm => (hv v hm).same s, hl, fun i hi => (he i hi).same s, fun hw zs ez ys H' k m M => ⟨rfl, ?_⟩⟩
  exact hq hw zs ez x ys H' nx (fun b o e => k b o (ne_of_none e nx) (s b o e)) m M
/-- the same, what follows told of the place -/
theorem make_at {K : PySem.W.Frag} {C CN : Addr} {xs : List V} {H : Hp} {QA : Addr → Hp → Prop} {E : XK} (h : spMk C CN xs H (fun v H2 => ∃ p, v = .ref p ∧ QA p H2) E) :
    ∀ x dx, H x = Option.none → H dx = Option.none → dx ≠ x → spInitR K C CN (V.ref x :: xs) (upd (upd H dx (.own x)) x (.ins C dx [])) (fun v H2 => v = .non ∧ QA x H2) E := fun x dx nx nd ne => by
  obtain ⟨ws, rest, e1, e2, e3, e4⟩ := make_of (K := K) h x dx nx nd ne
  refine ⟨ws, rest, e1, e2, e3, fun p np => ?_⟩
  obtain ⟨a1, a2, a3, a4, b1, b2, b3, b4, b5, b6, b7⟩ := e4 p np
  refine ⟨a1, a2, a3, a4, b1, b2, b3, b4, b5, b6, fun hw zs ez ys H' k m M => ?_⟩
  obtain ⟨c1, p', c2, c3⟩ := b7 hw zs ez ys H' k m M
  cases c2
  exact ⟨c1, c3⟩
def spFromT (C CN : Addr) : Sp := fun vs H Q E => ∃ a xs, vs = [.ref a] ∧ H a = some (.tup xs) ∧ spMk C CN xs H Q E
def spFromL (CN : Addr) : Sp := fun vs H Q E => ∃ a xs, vs = [.ref a] ∧ H a = some (.lst xs) ∧ ErrAt CN "index" .non H E
/-- what is known of the class that makes Members -/
structure MakeC (P : Program) (w : World) (K : PySem.W.Frag) (mg : Str → Option Value) (base : Heap) (C CN fI : Addr) : Prop where
  M : Mk K C fI
  F : FnR P w K mg base (L2.CX P w) 4 fI (spInitR K C CN)
section
variable {w : World} {P : Program} {base : Heap} {mg : Str → Option Value} {K : PySem.W.Frag}
theorem scFromN : FnScope ["names"] ["names"] (defScope sFromN) := ⟨rfl, rfl, rfl, by decide +kernel, rfl, by decide +kernel, by decide +kernel⟩
theorem ok_fromT {f fI fE C CN : Addr} {fd fdE : FuncData} (F : Fun K "from_names" "Members.from_names" sFromN f fd) (T : Free mg) (M : MemC K mg C) (MM : MakeC P w K mg base C CN fI) (EN : ErrC K mg "InvalidNames" "index" CN fE) (FE : Fun K "__init__" "InvalidNames.__init__" sErrNames fE fdE) :
    FnOk P w K mg base (L2.CX P w) 6 f fd ["names"] (spFromT C CN) := by
  have bE : Binds K fdE ["self", "index"] [] := FE.binds (ps := ["self", "index"]) fun _ _ _ _ _ _ us hl => match us, hl with | [_, _], _ => rfl
  have GE : FnOk P w K mg base CX0 1 fE fdE ["self", "index"] (spErr CN "index") := ok_errN FE EN
  refine F.okX scFromN (fun vs H Q E h => ?_) (fun cdv A outer s H vs Q E hr h => ?_)
  · obtain ⟨a, xs, rfl, _⟩ := h
    rfl
  · obtain ⟨a, xs, rfl, ha, q⟩ := h
    refine ⟨_, pss_cons (ps_if (pt_not (pt_val (pe_callB call_isi (by rfl) T.isinstance (by decide +kernel) (pa_cons (pv 0) (pa_cons (pe_bltn (v := .ty "tuple") (u := .type "tuple") (by rfl) T.tuple (by decide +kernel) rfl) pa_nil)))))
        (pss_one (ps_raise rfl (takes_of rfl rfl rfl rfl) (pmk_oex EN.ox EN.ini EN.ty GE (hr.mono (by decide)) bE .nil pass0 rfl EN.g (pa_cons pe_non pa_nil)))) pss_nil)
      (pss_one (ps_ret (pe_makeS1 MM.M MM.F hr (by rfl) M.g (passes_call (takes_of rfl rfl rfl rfl) fun _ _ _ _ h => h) (pv 0)))), ?_⟩
    refine ⟨_, rfl, _, _, _, _, true, rfl, .ty _, .base (.tup ha), kit_ty (by decide +kernel), true, rfl, ?_⟩
    refine iteF ?_
    exact ⟨_, rfl, a, xs, rfl, .inl (SqT.of ha), make_of q⟩
theorem ok_fromL {f fI fE C CN : Addr} {fd fdE : FuncData} (F : Fun K "from_names" "Members.from_names" sFromN f fd) (T : Free mg) (M : MemC K mg C) (MM : MakeC P w K mg base C CN fI) (EN : ErrC K mg "InvalidNames" "index" CN fE) (FE : Fun K "__init__" "InvalidNames.__init__" sErrNames fE fdE) :
    FnOk P w K mg base (L2.CX P w) 6 f fd ["names"] (spFromL CN) := by
  have bE : Binds K fdE ["self", "index"] [] := FE.binds (ps := ["self", "index"]) fun _ _ _ _ _ _ us hl => match us, hl with | [_, _], _ => rfl
  have GE : FnOk P w K mg base CX0 1 fE fdE ["self", "index"] (spErr CN "index") := ok_errN FE EN
  refine F.okX scFromN (fun vs H Q E h => ?_) (fun cdv A outer s H vs Q E hr h => ?_)
  · obtain ⟨a, xs, rfl, _⟩ := h
    rfl
  · obtain ⟨a, xs, rfl, ha, qE⟩ := h
    refine ⟨_, pss_cons (ps_if (pt_not (pt_val (pe_callB call_isi (by rfl) T.isinstance (by decide +kernel) (pa_cons (pv 0) (pa_cons (pe_bltn (v := .ty "tuple") (u := .type "tuple") (by rfl) T.tuple (by decide +kernel) rfl) pa_nil)))))
        (pss_one (ps_raise rfl (takes_of rfl rfl rfl rfl) (pmk_oex EN.ox EN.ini EN.ty GE (hr.mono (by decide)) bE .nil pass0 rfl EN.g (pa_cons pe_non pa_nil)))) pss_nil)
      (pss_one (ps_ret (pe_makeS1 MM.M MM.F hr (by rfl) M.g (passes_call (takes_of rfl rfl rfl rfl) fun _ _ _ _ h => h) (pv 0)))), ?_⟩
    refine ⟨_, rfl, _, _, _, _, false, rfl, .ty _, .base (.lst ha), kit_ty (by decide +kernel), false, rfl, ?_⟩
    refine iteT ?_
    refine ⟨(by show 1 ≤ 1000; decide), fun x nx => ⟨x, _, rfl, upd_same, fun d nd ne => ⟨rfl, d, [("index", .non)], upd_same, ?_, ?_, ?_⟩⟩⟩
    · rw [upd_ne ne, upd_same]
    · rw [upd_ne ne] at nd
      exact nd
    · rw [raise_heap nx ne]
      rw [upd_ne ne] at nd
      exact qE d H (Same.refl H) nd
end
end K1
/-! a | b, a |= b, a <= b by an own class's methods -/
namespace DuX
open PySem PySem.Spec
open PyProof.Rows L2
section
variable {X : Cx} {CX : CXT} {k : Nat} {g C : Addr} {sp : Sp} {Ek : XK}
/-- both are of the class at C -/
def rBinO (C : Addr) (sp : Sp) (Ek : XK) : R2 := fun x y H Q => ∃ a dx fs b dy gs, x = .ref a ∧ y = .ref b ∧ H a = some (.ins C dx fs) ∧ H b = some (.ins C dy gs) ∧ sp [.ref a, .ref b] H Q Ek
theorem op_binO {op : Operator} (m : OwnM X.K C (PySem.dunder op.info.2) g) (hc : PySem.W.selfFirst X.K C = true) (F : FnR X.prog X.w X.K X.mg X.base CX k g sp) (hr : Room k X.A) (hx : Passes CX X Ek) : OpR X (binaryOp op) (rBinO C sp Ek) := by
  intro pins s σ H x y v u Q Iv rx ry h
  obtain ⟨a, dx, fs, b, dy, gs, rfl, rfl, ha, hb, q⟩ := h
  cases rx
  cases ry
  obtain ⟨ox, od, J⟩ := inst_of Iv ha
  obtain ⟨oy, oe, J2⟩ := inst_of Iv hb
  obtain ⟨mm, hF⟩ := Iv.fr
  refine PySem.W.binop_K hF Iv.ok.mod.kin J J2.type hc m.at_ m.fn ?_
  refine wpAny_mono (run_below F hr rfl hx Iv (vs := [V.ref a, V.ref b]) (.cons rfl (.cons rfl .nil)) q) (fun z s1 hz => ?_) fun _ _ e => e
  obtain ⟨z', H1, I1, rz, qz⟩ := hz
  exact SlX.cmpback rz ⟨z', H1, I1, rz, qz⟩
/-- a op= b -/
def rInO (C : Addr) (sp : Sp) (Ek : XK) : TIp := fun x y H Q => ∃ a dx fs, x = .ref a ∧ H a = some (.ins C dx fs) ∧ sp [.ref a, y] H Q Ek
theorem ip_O {op : Operator} (m : OwnM X.K C (PySem.dunderI op.info.2) g) (hc : PySem.W.selfFirst X.K C = true) (F : FnR X.prog X.w X.K X.mg X.base CX k g sp) (hr : Room k X.A) (hx : Passes CX X Ek) : PIp X op (rInO C sp Ek) := by
  intro pins s σ H x y v u Q Iv rx ry h
  obtain ⟨a, dx, fs, rfl, ha, q⟩ := h
  cases rx
  obtain ⟨ox, od, J⟩ := inst_of Iv ha
  obtain ⟨mm, hF⟩ := Iv.fr
  refine PySem.W.ksp_inplace hF Iv.ok.mod.kin J hc m.at_ m.fn ?_
  refine wpAny_mono (run_below F hr rfl hx Iv (vs := [V.ref a, y]) (.cons rfl (.cons ry .nil)) q) (fun z s1 hz => ?_) fun _ _ e => e
  obtain ⟨z', H1, I1, rz, qz⟩ := hz
  exact SlX.cmpback rz ⟨z', H1, I1, rz, qz⟩
/-- an order by an own method -/
def rCmpO (K : PySem.W.Frag) (C : Addr) (sp : Sp) (Ek : XK) : R2 := fun x y H Q => ∃ a dx fs t, x = .ref a ∧ H a = some (.ins C dx fs) ∧ TyX K H y t ∧ PySem.W.notFirst K C t = true ∧ sp [.ref a, y] H Q Ek
theorem op_cmpO {op : CmpOp} (hop : ∀ a b, compareOp op a b = richCompare op a b) (m : OwnM X.K C (cmpInfo op).2.1 g) (F : FnR X.prog X.w X.K X.mg X.base CX k g sp) (hr : Room k X.A) (hx : Passes CX X Ek) : OpR X (compareOp op) (rCmpO X.K C sp Ek) := by
  intro pins s σ H x y v u Q Iv rx ry h
  obtain ⟨a, dx, fs, t, rfl, ha, ty, nf, q⟩ := h
  cases rx
  obtain ⟨ox, od, J⟩ := inst_of Iv ha
  obtain ⟨mm, hF⟩ := Iv.fr
  obtain ⟨Pz, Z, pz, _⟩ := kit_of Iv ry ty
  rw [hop]
  refine PySem.W.cmp_K (op := op) hr.units0 hF Iv.ok.mod.kin J (Z.ty _ _ Iv.kIn pz) nf m.at_ m.fn ?_
  refine wpAny_mono (run_below F hr rfl hx Iv (vs := [V.ref a, y]) (.cons rfl (.cons ry .nil)) q) (fun z s1 hz => ?_) fun _ _ e => e
  obtain ⟨z', H1, I1, rz, qz⟩ := hz
  exact SlX.cmpback rz ⟨z', H1, I1, rz, qz⟩
end
/-- what a built-in class has for an operator, and that it is not below C -/
structure OthT (K : PySem.W.Frag) (C : Addr) (nm T : String) : Prop where
  h1 : ∃ fo, PySem.W.findIn K (.type T) (PySem.dunder nm) = some fo
  h2 : ∃ ro, PySem.W.findIn K (.type T) (dunderR nm) = some ro
  hs : PySem.W.subIn K (.type T) (.ref C) = some false
section
variable {M : Model} {prog : Program} {w : World} {A : Around} {E : Value → Shared → Prop} {s : Shared} {K : PySem.W.Frag} {x C f : Addr} {ox : Obj} {od : Option Obj} {T : String}
open PySem.W in
theorem bin_other {op : Operator} {b : Value} {Q : Value → Shared → Prop} (X : K.In s.heap) (J : InstAt s.heap x ox C od) (hb : ∀ M : Model, Looks M s.heap (typeOf b) (.type T)) (hc : selfFirst K C = true) (hs : findIn K (.ref C) (PySem.dunder op.info.2) = some (some (.ref f))) (hf : isFn K (.ref f) = true)
    (hr : findIn K (.ref C) (dunderR op.info.2) = some none) (O : OthT K C op.info.2 T)
    (h : wpAny (model prog w) A (call (.ref f) [.ref x, b]) (PySem.W.CmpBack Q) E s) : wpAny (model prog w) A (binaryOp op (.ref x) b) Q E s := by
  obtain ⟨cd, more, hcd, hm⟩ := ksp_first hc
  obtain ⟨⟨fo, h1⟩, ⟨ro, h2⟩, hsub⟩ := O
  have one := ksp_try X J hs hf h
  rcases hi : op.info with ⟨sym, nm⟩
  rw [hi] at hs hr h1 h2 one
  dsimp only at hs hr h1 h2 one
  obtain ⟨hp, g, d, tk, os⟩ := s
  have la := J.type (M := model prog w)
  have lb := hb (model prog w)
  have lc := fills_K (M := model prog w) X hcd hm hs
  have ld := ksp_fillsT (M := model prog w) X h1 h2
  have le := looks_subIn (M := model prog w) X hsub
  have lf := ksp_inPy (M := model prog w) X hs hr (.inl rfl)
  have lg : Looks (model prog w) hp (numberSlotInPython (.type T) nm) false := .of_pure rfl
  have lh := looks_findIn (M := model prog w) X h2
  generalize ((fo.isSome && !isSeqSlot fo) || (ro.isSome && !isSeqSlot ro)) = right at ld
  have ne : (Value.ref C == Value.type T) = false := Bool.eq_false_iff.mpr fun q => by cases beq_iff_eq.mp q
  simp only [binaryOp, hi]
  refine wpAny_holding (wpAny_bind ?_)
  unfold binaryOp1
  refine wpAny_bind (la.at (wpAny_bind (lb.at (wpAny_bind (lc.at ?_)))))
  simp only [ne, if_false, Bool.false_eq_true]
  cases right <;>
  · ksp_lk
    refine wpAny_mono one (fun r s1 hz => ?_) fun _ _ e => e
    obtain ⟨v, rfl, q⟩ := hz
    ksp_lk
    exact q
end
section
variable {X : Cx} {CX : CXT} {k : Nat} {g C : Addr} {sp : Sp} {Ek : XK}
/-- the other one is of a built-in class -/
def rBinT (K : PySem.W.Frag) (C : Addr) (Ts : List String) (sp : Sp) (Ek : XK) : R2 := fun x y H Q => ∃ a dx fs t, x = .ref a ∧ H a = some (.ins C dx fs) ∧ t ∈ Ts ∧ TyX K H y (.type t) ∧ sp [.ref a, y] H Q Ek
theorem op_binT {op : Operator} {Ts : List String} (m : OwnM X.K C (PySem.dunder op.info.2) g) (hc : PySem.W.selfFirst X.K C = true) (hR : PySem.W.findIn X.K (.ref C) (dunderR op.info.2) = some none) (O : ∀ t ∈ Ts, OthT X.K C op.info.2 t) (F : FnR X.prog X.w X.K X.mg X.base CX k g sp) (hr : Room k X.A) (hx : Passes CX X Ek) :
    OpR X (binaryOp op) (rBinT X.K C Ts sp Ek) := by
  intro pins s σ H x y v u Q Iv rx ry h
  obtain ⟨a, dx, fs, t, rfl, ha, ht, ty, q⟩ := h
  cases rx
  obtain ⟨ox, od, J⟩ := inst_of Iv ha
  obtain ⟨Pz, Z, pz, _⟩ := kit_of Iv ry ty
  refine bin_other Iv.kIn J (fun M => Z.ty M _ Iv.kIn pz) hc m.at_ m.fn hR (O t ht) ?_
  refine wpAny_mono (run_below F hr rfl hx Iv (vs := [V.ref a, y]) (.cons rfl (.cons ry .nil)) q) (fun z s1 hz => ?_) fun _ _ e => e
  obtain ⟨z', H1, I1, rz, qz⟩ := hz
  exact SlX.cmpback rz ⟨z', H1, I1, rz, qz⟩
end
end DuX
/-! in, not in, ==, != of an own class's instances, told without the context -/
namespace DuX
open PySem PySem.Spec
open PyProof.Rows L2
section
variable {X : Cx} {CX : CXT} {k : Nat} {g C : Addr} {sp : Sp} {Ek : XK}
theorem op_ninO (m : OwnM X.K C "__contains__" g) (F : FnR X.prog X.w X.K X.mg X.base CX k g sp) (hr : Room k X.A) (hx : Passes CX X Ek) :
    OpR X (compareOp .NotIn) (fun x y H Q => ∃ a dx fs, y = .ref a ∧ H a = some (.ins C dx fs) ∧ sp [.ref a, x] H (fun v H' => ∃ b, v = .bl b ∧ Q (.bl (!b)) H') Ek) := by
  intro pins s σ H x y u v Q Iv rx ry hyp
  obtain ⟨a, dx, fs, rfl, atA, cont⟩ := hyp
  cases ry
  obtain ⟨ox, od, J⟩ := inst_of Iv atA
  obtain ⟨mm, hF⟩ := Iv.fr
  refine PySem.W.notIn_K hF Iv.ok.mod.kin J m.at_ m.fn ?_
  refine wpAny_mono (run_below F hr rfl hx Iv (vs := [V.ref a, x]) (.cons rfl (.cons rx .nil)) cont) (fun u' s1 hu => ?_) fun _ _ e => e
  obtain ⟨v', H1, Iv1, rv, b, rfl, q1⟩ := hu
  cases rv
  exact wpAny_truthy_bool ⟨.bl (!b), H1, Iv1, rfl, q1⟩
def rEqO (K : PySem.W.Frag) (C : Addr) (sp : Sp) : R2 := fun x y H Q => ∃ a dx fs t, x = .ref a ∧ H a = some (.ins C dx fs) ∧ TyX K H y t ∧ PySem.W.notFirst K C t = true ∧ sp [.ref a, y] H (fun v H' => ∃ b, v = .bl b ∧ Q (.bl b) H') E0
def rNeO (K : PySem.W.Frag) (C : Addr) (sp : Sp) : R2 := fun x y H Q => ∃ a dx fs t, x = .ref a ∧ H a = some (.ins C dx fs) ∧ TyX K H y t ∧ PySem.W.notFirst K C t = true ∧ sp [.ref a, y] H (fun v H' => ∃ b, v = .bl b ∧ Q (.bl (!b)) H') E0
def rHasO (C : Addr) (sp : Sp) : R2 := fun x y H Q => ∃ a dx fs, y = .ref a ∧ H a = some (.ins C dx fs) ∧ sp [.ref a, x] H (fun v H' => ∃ b, v = .bl b ∧ Q (.bl b) H') E0
def rNinO (C : Addr) (sp : Sp) : R2 := fun x y H Q => ∃ a dx fs, y = .ref a ∧ H a = some (.ins C dx fs) ∧ sp [.ref a, x] H (fun v H' => ∃ b, v = .bl b ∧ Q (.bl (!b)) H') E0
theorem op_eqX (m : OwnM X.K C "__eq__" g) (F : FnR X.prog X.w X.K X.mg X.base CX0 k g sp) (hr : Room k X.A) : OpR X (compareOp .Eq) (rEqO X.K C sp) := by
  intro pins s σ H x y u v Q I rx ry h
  obtain ⟨a, dx, fs, t, h1, h2, h3, h4, q⟩ := h
  exact op_eqO m F hr pass0 pins s σ H x y u v Q I rx ry ⟨a, dx, fs, t, h1, h2, fun pins σ s u Iv r M => by
    obtain ⟨Pz, Z, pz, _⟩ := kit_of Iv r h3
    exact Z.ty M s.heap Iv.kIn pz, h4, q⟩
theorem op_neX (m : OwnM X.K C "__eq__" g) (n : NeM X.K C) (F : FnR X.prog X.w X.K X.mg X.base CX0 k g sp) (hr : Room (k + 1) X.A) : OpR X (compareOp .NotEq) (rNeO X.K C sp) := by
  intro pins s σ H x y u v Q I rx ry h
  obtain ⟨a, dx, fs, t, h1, h2, h3, h4, q⟩ := h
  exact op_neO m n F hr pass0 pins s σ H x y u v Q I rx ry ⟨a, dx, fs, t, h1, h2, fun pins σ s u Iv r M => by
    obtain ⟨Pz, Z, pz, _⟩ := kit_of Iv r h3
    exact Z.ty M s.heap Iv.kIn pz, h4, q⟩
theorem op_inX (m : OwnM X.K C "__contains__" g) (F : FnR X.prog X.w X.K X.mg X.base CX0 k g sp) (hr : Room k X.A) : OpR X (compareOp .In) (rHasO C sp) := op_inO m F hr pass0
theorem op_ninX (m : OwnM X.K C "__contains__" g) (F : FnR X.prog X.w X.K X.mg X.base CX0 k g sp) (hr : Room k X.A) : OpR X (compareOp .NotIn) (rNinO C sp) := op_ninO m F hr pass0
end
/-! ### what is known of a def -/
structure Has (P : Program) (w : World) (K : PySem.W.Frag) (mg : Str → Option Value) (base : Heap) (CX : CXT) (k : Nat) (x : Str) (f : Addr) (ps : List Str) (sp : Sp) : Prop where
  gm : mg x = some (.ref f)
  kp : PySem.W.keepIn K (.ref f) = true
  ex : ∃ fd, FnOk P w K mg base CX k f fd ps sp ∧ L2.Binds K fd ps []
section
variable {X : Cx} {CX : CXT} {k : Nat} {x : Str} {f : Addr} {ps : List Str} {sp : Sp} {E : XK}
/-- x(e, ..) -/
theorem pe_has {e : Expr} {es : List Expr} {t : TA} {p pos : Pos} (F : Has X.prog X.w X.K X.mg X.base CX k x f ps sp) (hr : Room k X.A) (hg : Gl X x) (hx : Passes CX X E) (ha : PA X (e :: es) t) (hd : (x == ("__debug__" : Str)) = false := by decide)
    (hst : starEach (e :: es) X.env = (false, eval e X.env) :: starEach es X.env := by rfl) (hpl : (backTo pos (starEach es X.env)).any (·.1) = false := by rfl) :
    PE X (.Call (.Name x p) (e :: es) [] pos) (tCall sp [] E t) := by
  obtain ⟨gm, kp, fd, F, B⟩ := F
  exact pe_call F hr hg gm kp B .nil hx ha hd hst hpl
end
end DuX

namespace K1
open PySem PySem.Spec
open PyProof.Rows L2 EnT StX SmX TxS DuX ClX
/-! ### the signs of Members -/
theorem mk_names {C CN : Addr} {zs : List Str} {H : Hp} {Q : VK} {E : XK} (nm : ∀ z ∈ zs, nameB z = true) (hl : zs.length ≤ 1000)
    (q : ∀ b ys H', H b = none → Same H H' → (∀ z, z ∈ ys ↔ z ∈ zs) → MemAt C H' b ys → Q (.ref b) H') : spMk C CN (zs.map V.str) H Q E := by
  have hw : wrongIx (zs.map V.str) = none := wrong_none (List.all_eq_true.mpr fun v hv => by
    obtain ⟨z, hz, rfl⟩ := List.mem_map.mp hv
    exact nm z hz)
  refine ⟨fun v hv => ?_, by rw [List.length_map]; exact hl, fun i hi => (by rw [hw] at hi; cases hi), fun _ us eu b ws H' nb s m MA => ?_⟩
  · obtain ⟨z, hz, rfl⟩ := List.mem_map.mp hv
    exact .inl ⟨z, rfl, by have := name_short (nm z hz); rw [sizeLine_eq]; omega⟩
  · have eu2 : us = zs := (List.map_inj_right (fun _ _ h => V.str.inj h)).mp eu.symm
    subst eu2
    exact q b ws H' nb s m MA
/-- new Members of those that p tells -/
def MakesP (C : Addr) (p : Str → Prop) (H : Hp) (Q : VK) : Prop := ∀ (a : Addr) (ys : List Str) (H' : Hp), H a = none → Same H H' → (∀ z, z ∈ ys ↔ p z) → MemAt C H' a ys → Q (.ref a) H'
theorem MakesP.imp {C : Addr} {p p' : Str → Prop} {H H1 : Hp} {Q Q' : VK} (h : MakesP C p H Q) (s : Same H H1) (e : ∀ z, p' z ↔ p z) (q : ∀ a H', Q (.ref a) H' → Q' (.ref a) H') : MakesP C p' H1 Q' := fun a ys H' n s' m MA => q a H' (h a ys H' (by
  cases hh : H a with
  | none => rfl
  | some o =>
    rw [s _ _ hh] at n
    cases n) (s.trans s') (fun z => (m z).trans (e z)) MA)
abbrev rOr : Prop → Prop → Prop := fun a b => a ∨ b
abbrev rAnd : Prop → Prop → Prop := fun a b => a ∧ b
abbrev rSub : Prop → Prop → Prop := fun a b => a ∧ ¬ b
abbrev rXor : Prop → Prop → Prop := fun a b => (a ∧ ¬ b) ∨ (b ∧ ¬ a)
def spBinM (C : Addr) (r : Prop → Prop → Prop) : Sp := fun vs H Q _ => ∃ a b zs ws, vs = [.ref a, .ref b] ∧ MemAt C H a zs ∧ MemAt C H b ws ∧ zs.length + ws.length ≤ 1000 ∧ MakesP C (fun z => r (z ∈ zs) (z ∈ ws)) H Q
def spBadM (C CM : Addr) : Sp := fun vs H _ E => ∃ a zs v, vs = [.ref a, v] ∧ MemAt C H a zs ∧ VOk H v ∧ ErrAt CM "value" v H E
def spChkY (C : Addr) : Sp := fun vs H Q _ => ∃ b ws, vs = [.ref b] ∧ MemAt C H b ws ∧ Q .non H
def spChkN (CM : Addr) : Sp := fun vs H _ E => ∃ v, vs = [v] ∧ VOk H v ∧ ErrAt CM "value" v H E
/-- what the signs of Members lean on -/
structure Mb (P : Program) (w : World) (K : PySem.W.Frag) (mg : Str → Option Value) (base : Heap) (C CN CM : Addr) (mc : Value) : Prop where
  T : Free mg
  M : MemC K mg C
  I : MemIs K C
  sf : PySem.W.selfFirst K C = true
  chkY : ∃ f, Has P w K mg base (L2.CX P w) 3 "check_members" f ["value"] (spChkY C)
  chkN : ∃ f, Has P w K mg base (L2.CX P w) 3 "check_members" f ["value"] (spChkN CM)
  fromT : ∃ p g, SMet K C mc "from_names" p g ∧ FnR P w K mg base (L2.CX P w) 6 g (spFromT C CN)
  hasM : ∃ g, OwnM K C "__contains__" g ∧ FnR P w K mg base CX0 1 g (spHasM C)
  lenM : ∃ g, OwnM K C "__len__" g ∧ FnR P w K mg base CX0 1 g (spLenM C)
  prop : ∃ pN gN fdN, PropOf K C "names" pN gN ∧ FnOk P w K mg base CX0 1 gN fdN ["self"] (getSp C "_names") ∧ L2.Binds K fdN ["self"] []
  cr : CRead K C mc
section
variable {w : World} {P : Program} {base : Heap} {mg : Str → Option Value} {K : PySem.W.Frag} {C CN CM : Addr} {mc : Value}
theorem scErrM : FnScope ["self", "value"] ["self", "value"] (defScope sErrMem) := ⟨rfl, rfl, rfl, by decide +kernel, rfl, by decide +kernel, by decide +kernel⟩
theorem ok_errM {f C fI : Addr} {fd : FuncData} (F : Fun K "__init__" "NotMembers.__init__" sErrMem f fd) (T : ErrC K mg "NotMembers" "value" C fI) : FnOk P w K mg base CX0 1 f fd ["self", "value"] (spErr C "value") := by
  refine F.ok scErrM (fun vs H Q E h => ?_) (fun cdv A outer s H vs Q E hr h => ?_)
  · obtain ⟨a, v, rfl, _⟩ := h
    rfl
  · obtain ⟨a, v, rfl, ha, q⟩ := h
    exact ⟨_, pss_one (ps_ost (pv 0) (pv 1)), _, rfl, _, rfl, a, C, rfl, T.ox, T.no, .inl ⟨ha, fun d nd ne => q d nd ne⟩⟩
theorem scChkM : FnScope ["value"] ["value"] (defScope sChkM) := ⟨rfl, rfl, rfl, by decide +kernel, rfl, by decide +kernel, by decide +kernel⟩
theorem ok_chkY {f fE : Addr} {fd fdE : FuncData} (F : Fun K "check_members" "check_members" sChkM f fd) (T : Free mg) (M : MemC K mg C) (I : MemIs K C) (EM : ErrC K mg "NotMembers" "value" CM fE) (FE : Fun K "__init__" "NotMembers.__init__" sErrMem fE fdE) :
    FnOk P w K mg base (L2.CX P w) 3 f fd ["value"] (spChkY C) := by
  have bE : Binds K fdE ["self", "value"] [] := FE.binds (ps := ["self", "value"]) fun _ _ _ _ _ _ us hl => match us, hl with | [_, _], _ => rfl
  have GE : FnOk P w K mg base CX0 1 fE fdE ["self", "value"] (spErr CM "value") := ok_errM FE EM
  refine F.okX scChkM (fun vs H Q E h => ?_) (fun cdv A outer s H vs Q E hr h => ?_)
  · obtain ⟨b, ws, rfl, _⟩ := h
    rfl
  · obtain ⟨b, ws, rfl, m2, q⟩ := h
    obtain ⟨dx2, t2, d2, k1, k2, k3⟩ := m2.at_
    refine ⟨_, pss_one (ps_if (pt_not (pt_val (pe_callB call_isi (by rfl) T.isinstance (by decide +kernel) (pa_cons (pv 0) (pa_cons (pe_glob (v := .ref C) (by rfl) M.g rfl) pa_nil)))))
        (pss_one (ps_raise rfl (takes_of rfl rfl rfl rfl) (pmk_oex EM.ox EM.ini EM.ty GE (hr.mono (by decide)) bE .nil pass0 rfl EM.g (pa_cons (pv 0) pa_nil)))) pss_nil), ?_⟩
    refine ⟨_, rfl, _, _, _, _, true, rfl, .own C, .base (.ins k1 M.cl I.ha I.hn I.htk I.hm), I.yes, true, rfl, ?_⟩
    exact iteF q
theorem ok_chkN {f fE : Addr} {fd fdE : FuncData} (F : Fun K "check_members" "check_members" sChkM f fd) (T : Free mg) (M : MemC K mg C) (I : MemIs K C) (EM : ErrC K mg "NotMembers" "value" CM fE) (FE : Fun K "__init__" "NotMembers.__init__" sErrMem fE fdE) :
    FnOk P w K mg base (L2.CX P w) 3 f fd ["value"] (spChkN CM) := by
  have bE : Binds K fdE ["self", "value"] [] := FE.binds (ps := ["self", "value"]) fun _ _ _ _ _ _ us hl => match us, hl with | [_, _], _ => rfl
  have GE : FnOk P w K mg base CX0 1 fE fdE ["self", "value"] (spErr CM "value") := ok_errM FE EM
  refine F.okX scChkM (fun vs H Q E h => ?_) (fun cdv A outer s H vs Q E hr h => ?_)
  · obtain ⟨v, rfl, _⟩ := h
    rfl
  · obtain ⟨v, rfl, hv, q⟩ := h
    obtain ⟨ty, ht, tx⟩ := hv.ty (K := K)
    refine ⟨_, pss_one (ps_if (pt_not (pt_val (pe_callB call_isi (by rfl) T.isinstance (by decide +kernel) (pa_cons (pv 0) (pa_cons (pe_glob (v := .ref C) (by rfl) M.g rfl) pa_nil)))))
        (pss_one (ps_raise rfl (takes_of rfl rfl rfl rfl) (pmk_oex EM.ox EM.ini EM.ty GE (hr.mono (by decide)) bE .nil pass0 rfl EM.g (pa_cons (pv 0) pa_nil)))) pss_nil), ?_⟩
    refine ⟨_, rfl, _, _, _, _, false, rfl, .own C, tx, I.no ty ht, false, rfl, ?_⟩
    refine iteT ?_
    refine ⟨_, rfl, (by show 1 ≤ 1000; decide), fun x nx => ⟨x, _, rfl, upd_same, fun d nd ne => ⟨rfl, d, [("value", v)], upd_same, ?_, ?_, ?_⟩⟩⟩
    · rw [upd_ne ne, upd_same]
    · rw [upd_ne ne] at nd
      exact nd
    · rw [raise_heap nx ne]
      rw [upd_ne ne] at nd
      exact q d H (Same.refl H) nd
abbrev nmSO : List Str := ["self", "other"]
theorem scOrM : FnScope nmSO nmSO (defScope sOrM) := ⟨rfl, rfl, rfl, by decide +kernel, rfl, by decide +kernel, by decide +kernel⟩
theorem ok_orM {f : Addr} {fd : FuncData} (F : Fun K "__or__" "Members.__or__" sOrM f fd) (B : Mb P w K mg base C CN CM mc) : FnOk P w K mg base (L2.CX P w) 7 f fd nmSO (spBinM C rOr) := by
  obtain ⟨fC, hC⟩ := B.chkY
  obtain ⟨pF, gF, mF, FF⟩ := B.fromT
  obtain ⟨pN, gN, fdN, pr, GN, bN⟩ := B.prop
  have M := B.M
  refine F.okX scOrM (fun vs H Q E h => ?_) (fun cdv A outer s H vs Q E hr h => ?_)
  · obtain ⟨a, b, zs, ws, rfl, _⟩ := h
    rfl
  · obtain ⟨a, b, zs, ws, rfl, m1, m2, hl, q⟩ := h
    obtain ⟨dx, t, d, h1, h2, h3⟩ := m1.at_
    obtain ⟨dy, t2, d2, k1, k2, k3⟩ := m2.at_
    refine ⟨_, pss_cons (ps_expr (pe_has hC (hr.mono (by decide)) (by rfl) (passes_call (takes_of rfl rfl rfl rfl) fun _ _ _ _ h => h) (pa_cons (pv 1) pa_nil)))
      (pss_one (ps_ret (pe_smeth (pe_glob (v := .ref C) (by rfl) M.g rfl) B.cr mF FF hr (passes_call (takes_of rfl rfl rfl rfl) fun _ _ _ _ h => h) (pa_cons (pe_op op_catA (pe_fld (pv 0) rfl) (pe_prop (pv 1) M.cl pr GN (hr.mono (by decide)) bN .nil pass0 rfl)) pa_nil)))), ?_⟩
    have nm : ∀ z ∈ zs ++ ws, nameB z = true := fun z hz => (List.mem_append.mp hz).elim (m1.nm z) (m2.nm z)
    have hl2 : (zs ++ ws).length ≤ 1000 := by rw [List.length_append]; exact hl
    have fin : ∀ (l : Addr) (H1 : Hp), Same H H1 → H1 l = some (.tup ((zs ++ ws).map V.str)) → spFromT C CN [.ref l] H1 Q E := fun l H1 s1 hl1 => ⟨l, _, rfl, hl1, mk_names nm hl2 (q.imp s1 (fun z => List.mem_append) fun _ _ h => h)⟩
    refine ⟨_, rfl, b, ws, rfl, m2, ?_⟩
    refine ⟨rfl, _, rfl, a, C, dx, _, _, rfl, h1, M.cl, M.nN, flds_names t d, _, rfl, b, dy, _, rfl, k1, b, dy, _, _, rfl, k1, flds_names t2 d2, ?_⟩
    refine ⟨t, t2, zs.map V.str, ws.map V.str, rfl, rfl, SqT.of h2, SqT.of k2, by rw [List.length_map, List.length_map, sizeLine_eq]; omega, fun e => ?_, fun n e => ?_, fun n n2 p np => ?_⟩
    · have e2 : zs = [] := List.map_eq_nil_iff.mp e
      exact fin t2 H (Same.refl H) (by rw [e2]; exact k2)
    · have e2 : ws = [] := List.map_eq_nil_iff.mp e
      exact fin t H (Same.refl H) (by rw [e2, List.append_nil]; exact h2)
    · exact fin p _ (same_upd np) (by rw [upd_same, List.map_append])
end
end K1

namespace K1
open PySem PySem.Spec
open PyProof.Rows L2 EnT StX SmX TxS DuX ClX
theorem len_sub : ∀ {ys zs : List Str}, ys.Nodup → (∀ z ∈ ys, z ∈ zs) → ys.length ≤ zs.length
  | [], _, _, _ => Nat.zero_le _
  | y :: r, zs, nd, s => by
    have nd' := List.nodup_cons.mp nd
    have hy := s y List.mem_cons_self
    have h := len_sub (zs := zs.erase y) nd'.2 fun z hz => (List.mem_erase_of_ne fun e => nd'.1 (by rw [← e]; exact hz)).mpr (s z (List.mem_cons_of_mem _ hz))
    rw [List.length_erase_of_mem hy] at h
    have := List.length_pos_of_mem hy
    rw [List.length_cons]
    omega
theorem upd_upd {H : Hp} {d : Addr} {x y : HO} : upd (upd H d x) d y = upd H d y := by
  funext b
  by_cases h : b = d
  · rw [h, upd_same, upd_same]
  · rw [upd_ne h, upd_ne h, upd_ne h]
theorem filt_succ {zs : List Str} {i : Nat} {z : Str} {p : Str → Bool} (h : zs[i]? = some z) : (zs.take (i + 1)).filter p = (zs.take i).filter p ++ if p z = true then [z] else [] := by
  rw [List.take_add_one, h, List.filter_append]
  congr 1
  by_cases e : p z = true
  · rw [if_pos e]
    simp [e]
  · rw [if_neg e]
    simp [e]
theorem map_succ {zs : List Str} {i : Nat} {z : Str} {g : Str → V} (h : zs[i]? = some z) : (zs.take (i + 1)).map g = (zs.take i).map g ++ [g z] := by
  rw [List.take_add_one, h, List.map_append]
  rfl
theorem filt_len {zs : List Str} {p : Str → Bool} {n : Nat} (h : zs.length ≤ n) : (zs.filter p).length ≤ n := Nat.le_trans (List.length_filter_le _ _) h
section
variable {w : World} {P : Program} {base : Heap} {mg : Str → Option Value} {K : PySem.W.Frag} {C CN CM : Addr} {mc : Value}
abbrev nmSON : List Str := ["self", "other", "name"]
theorem scAndM : FnScope nmSON nmSO (defScope sAndM) := ⟨rfl, rfl, rfl, by decide +kernel, rfl, by decide +kernel, by decide +kernel⟩
theorem scSubM : FnScope nmSON nmSO (defScope sSubM) := ⟨rfl, rfl, rfl, by decide +kernel, rfl, by decide +kernel, by decide +kernel⟩
theorem ok_andM {f : Addr} {fd : FuncData} (F : Fun K "__and__" "Members.__and__" sAndM f fd) (B : Mb P w K mg base C CN CM mc) : FnOk P w K mg base (L2.CX P w) 7 f fd nmSO (spBinM C rAnd) := by
  obtain ⟨fC, hC⟩ := B.chkY
  obtain ⟨pF, gF, mF, FF⟩ := B.fromT
  obtain ⟨gH, mH, FH⟩ := B.hasM
  have M := B.M
  refine F.okX scAndM (fun vs H Q E h => ?_) (fun cdv A outer s H vs Q E hr h => ?_)
  · obtain ⟨a, b, zs, ws, rfl, _⟩ := h
    rfl
  · obtain ⟨a, b, zs, ws, rfl, m1, m2, hl, q⟩ := h
    obtain ⟨dx, t, d, h1, h2, h3⟩ := m1.at_
    obtain ⟨dy, t2, d2, k1, k2, k3⟩ := m2.at_
    refine ⟨_, pss_cons (ps_expr (pe_has hC (hr.mono (by decide)) (by rfl) (passes_call (takes_of rfl rfl rfl rfl) fun _ _ _ _ h => h) (pa_cons (pv 1) pa_nil)))
      (pss_one (ps_ret (pe_smeth (pe_glob (v := .ref C) (by rfl) M.g rfl) B.cr mF FF hr (passes_call (takes_of rfl rfl rfl rfl) fun _ _ _ _ h => h) (pa_cons (pe_callTy call_tuple_of (by rfl) B.T.tuple (by decide +kernel) (pa_cons
        (pe_lc (own := [("name", 2)]) (g := gName 2) (tt := tTest (tOp (rHasO C (spHasM C)) (tVar 2) (tVar 1))) rfl scAndM.nd (pi_tup (pe_fld (pv 0) rfl)) (blkOk_by (own := [("name", 2)]) (N := nmSON) (sc := defScope sAndM) (by decide +kernel)) (fun _ _ _ _ _ => pg_name (i := 2) scAndM.nd rfl (Or.inl rfl))
          (fun _ _ _ _ _ => pts_one (pt_cmpR (op_inX mH FH (hr.mono (by decide))) (pv 2) (pv 1) (by rfl))) (fun _ _ _ _ _ => pv 2)) pa_nil)) pa_nil)))), ?_⟩
    refine ⟨_, rfl, b, ws, rfl, m2, rfl, ?_⟩
    refine ⟨_, rfl, a, C, dx, _, _, rfl, h1, M.cl, M.nN, flds_names t d, t, rfl, ⟨_, SqT.of h2⟩, fun D nD => ?_⟩
    refine lc_tup (K := K) (a := t) (xs := zs.map V.str) (fun i H' => H' = upd H D (.lst (((zs.take i).filter fun z => decide (z ∈ ws)).map V.str))) rfl (fun i H' hi e => ?_) (fun i x H' hx e => ?_) (fun H' e => ?_)
    · subst e
      exact SqT.of (same_upd nD _ _ h2)
    · subst e
      rw [List.getElem?_map] at hx
      obtain ⟨z, hz, rfl⟩ := Option.map_eq_some_iff.mp hx
      have s1 : Same H (upd H D (.lst (((zs.take i).filter fun z => decide (z ∈ ws)).map V.str))) := same_upd nD
      refine ⟨rfl, ?_⟩
      refine ⟨_, rfl, _, rfl, b, dy, _, rfl, s1 _ _ k1, b, ws, _, rfl, m2.same s1, .inl ⟨z, rfl, by have := name_short (m1.nm z (List.mem_of_getElem? hz)); rw [sizeLine_eq]; omega⟩, _, rfl, _, rfl, ?_⟩
      have e1 : hasV ws (V.str z) = decide (z ∈ ws) := rfl
      rw [e1, filt_succ hz]
      by_cases hm : z ∈ ws
      · rw [decide_eq_true hm, if_pos rfl]
        refine iteT ⟨_, rfl, _, upd_same, ?_, ?_⟩
        · have : (((zs.take i).filter fun z => decide (z ∈ ws))).length ≤ 1000 := filt_len (by rw [List.length_take]; omega)
          rw [List.length_map, sizeLine_eq]
          omega
        · rw [upd_upd, List.map_append]
          rfl
      · rw [decide_eq_false hm, if_neg (by decide), List.append_nil]
        exact iteF rfl
    · subst e
      rw [List.length_map, List.take_length]
      have s1 : Same H (upd H D (.lst ((zs.filter fun z => decide (z ∈ ws)).map V.str))) := same_upd nD
      refine ⟨D, _, rfl, .inl ⟨SqL.of upd_same, fun l nl => ?_⟩⟩
      have s2 := same_upd (o := .tup ((zs.filter fun z => decide (z ∈ ws)).map V.str)) nl
      exact ⟨l, _, rfl, upd_same, mk_names (fun z hz => m1.nm z (List.mem_filter.mp hz).1) (filt_len (by omega)) (q.imp (s1.trans s2) (fun z => by rw [List.mem_filter, decide_eq_true_iff]) fun _ _ h => h)⟩
theorem ok_subM {f : Addr} {fd : FuncData} (F : Fun K "__sub__" "Members.__sub__" sSubM f fd) (B : Mb P w K mg base C CN CM mc) : FnOk P w K mg base (L2.CX P w) 7 f fd nmSO (spBinM C rSub) := by
  obtain ⟨fC, hC⟩ := B.chkY
  obtain ⟨pF, gF, mF, FF⟩ := B.fromT
  obtain ⟨gH, mH, FH⟩ := B.hasM
  have M := B.M
  refine F.okX scSubM (fun vs H Q E h => ?_) (fun cdv A outer s H vs Q E hr h => ?_)
  · obtain ⟨a, b, zs, ws, rfl, _⟩ := h
    rfl
  · obtain ⟨a, b, zs, ws, rfl, m1, m2, hl, q⟩ := h
    obtain ⟨dx, t, d, h1, h2, h3⟩ := m1.at_
    obtain ⟨dy, t2, d2, k1, k2, k3⟩ := m2.at_
    refine ⟨_, pss_cons (ps_expr (pe_has hC (hr.mono (by decide)) (by rfl) (passes_call (takes_of rfl rfl rfl rfl) fun _ _ _ _ h => h) (pa_cons (pv 1) pa_nil)))
      (pss_one (ps_ret (pe_smeth (pe_glob (v := .ref C) (by rfl) M.g rfl) B.cr mF FF hr (passes_call (takes_of rfl rfl rfl rfl) fun _ _ _ _ h => h) (pa_cons (pe_callTy call_tuple_of (by rfl) B.T.tuple (by decide +kernel) (pa_cons
        (pe_lc (own := [("name", 2)]) (g := gName 2) (tt := tTest (tOp (rNinO C (spHasM C)) (tVar 2) (tVar 1))) rfl scSubM.nd (pi_tup (pe_fld (pv 0) rfl)) (blkOk_by (own := [("name", 2)]) (N := nmSON) (sc := defScope sSubM) (by decide +kernel)) (fun _ _ _ _ _ => pg_name (i := 2) scSubM.nd rfl (Or.inl rfl))
          (fun _ _ _ _ _ => pts_one (pt_cmpR (op_ninX mH FH (hr.mono (by decide))) (pv 2) (pv 1) (by rfl))) (fun _ _ _ _ _ => pv 2)) pa_nil)) pa_nil)))), ?_⟩
    refine ⟨_, rfl, b, ws, rfl, m2, rfl, ?_⟩
    refine ⟨_, rfl, a, C, dx, _, _, rfl, h1, M.cl, M.nN, flds_names t d, t, rfl, ⟨_, SqT.of h2⟩, fun D nD => ?_⟩
    refine lc_tup (K := K) (a := t) (xs := zs.map V.str) (fun i H' => H' = upd H D (.lst (((zs.take i).filter fun z => !decide (z ∈ ws)).map V.str))) rfl (fun i H' hi e => ?_) (fun i x H' hx e => ?_) (fun H' e => ?_)
    · subst e
      exact SqT.of (same_upd nD _ _ h2)
    · subst e
      rw [List.getElem?_map] at hx
      obtain ⟨z, hz, rfl⟩ := Option.map_eq_some_iff.mp hx
      have s1 : Same H (upd H D (.lst (((zs.take i).filter fun z => !decide (z ∈ ws)).map V.str))) := same_upd nD
      refine ⟨rfl, ?_⟩
      refine ⟨_, rfl, _, rfl, b, dy, _, rfl, s1 _ _ k1, b, ws, _, rfl, m2.same s1, .inl ⟨z, rfl, by have := name_short (m1.nm z (List.mem_of_getElem? hz)); rw [sizeLine_eq]; omega⟩, _, rfl, _, rfl, ?_⟩
      have e1 : hasV ws (V.str z) = decide (z ∈ ws) := rfl
      rw [e1, filt_succ hz]
      by_cases hm : z ∈ ws
      · rw [decide_eq_true hm, if_neg (by decide), List.append_nil]
        exact iteF rfl
      · rw [decide_eq_false hm, Bool.not_false, if_pos rfl]
        refine iteT ⟨_, rfl, _, upd_same, ?_, ?_⟩
        · have : (((zs.take i).filter fun z => !decide (z ∈ ws))).length ≤ 1000 := filt_len (by rw [List.length_take]; omega)
          rw [List.length_map, sizeLine_eq]
          omega
        · rw [upd_upd, List.map_append]
          rfl
    · subst e
      rw [List.length_map, List.take_length]
      have s1 : Same H (upd H D (.lst ((zs.filter fun z => !decide (z ∈ ws)).map V.str))) := same_upd nD
      refine ⟨D, _, rfl, .inl ⟨SqL.of upd_same, fun l nl => ?_⟩⟩
      have s2 := same_upd (o := .tup ((zs.filter fun z => !decide (z ∈ ws)).map V.str)) nl
      exact ⟨l, _, rfl, upd_same, mk_names (fun z hz => m1.nm z (List.mem_filter.mp hz).1) (filt_len (by omega)) (q.imp (s1.trans s2) (fun z => by rw [List.mem_filter]; simp) fun _ _ h => h)⟩
/-! a sign with what is no Members -/
theorem ok_orN {f : Addr} {fd : FuncData} (F : Fun K "__or__" "Members.__or__" sOrM f fd) (B : Mb P w K mg base C CN CM mc) : FnOk P w K mg base (L2.CX P w) 7 f fd nmSO (spBadM C CM) := by
  obtain ⟨fC, hC⟩ := B.chkN
  obtain ⟨pF, gF, mF, FF⟩ := B.fromT
  obtain ⟨pN, gN, fdN, pr, GN, bN⟩ := B.prop
  have M := B.M
  refine F.okX scOrM (fun vs H Q E h => ?_) (fun cdv A outer s H vs Q E hr h => ?_)
  · obtain ⟨a, zs, v, rfl, _⟩ := h
    rfl
  · obtain ⟨a, zs, v, rfl, m1, hv, qE⟩ := h
    exact ⟨_, pss_cons (ps_expr (pe_has hC (hr.mono (by decide)) (by rfl) (passes_call (takes_of rfl rfl rfl rfl) fun _ _ _ _ h => h) (pa_cons (pv 1) pa_nil)))
      (pss_one (ps_ret (pe_smeth (pe_glob (v := .ref C) (by rfl) M.g rfl) B.cr mF FF hr (passes_call (takes_of rfl rfl rfl rfl) fun _ _ _ _ h => h) (pa_cons (pe_op op_catA (pe_fld (pv 0) rfl) (pe_prop (pv 1) M.cl pr GN (hr.mono (by decide)) bN .nil pass0 rfl)) pa_nil)))), _, rfl, v, rfl, hv, qE⟩
theorem ok_andN {f : Addr} {fd : FuncData} (F : Fun K "__and__" "Members.__and__" sAndM f fd) (B : Mb P w K mg base C CN CM mc) : FnOk P w K mg base (L2.CX P w) 7 f fd nmSO (spBadM C CM) := by
  obtain ⟨fC, hC⟩ := B.chkN
  obtain ⟨pF, gF, mF, FF⟩ := B.fromT
  obtain ⟨gH, mH, FH⟩ := B.hasM
  have M := B.M
  refine F.okX scAndM (fun vs H Q E h => ?_) (fun cdv A outer s H vs Q E hr h => ?_)
  · obtain ⟨a, zs, v, rfl, _⟩ := h
    rfl
  · obtain ⟨a, zs, v, rfl, m1, hv, qE⟩ := h
    exact ⟨_, pss_cons (ps_expr (pe_has hC (hr.mono (by decide)) (by rfl) (passes_call (takes_of rfl rfl rfl rfl) fun _ _ _ _ h => h) (pa_cons (pv 1) pa_nil)))
      (pss_one (ps_ret (pe_smeth (pe_glob (v := .ref C) (by rfl) M.g rfl) B.cr mF FF hr (passes_call (takes_of rfl rfl rfl rfl) fun _ _ _ _ h => h) (pa_cons (pe_callTy call_tuple_of (by rfl) B.T.tuple (by decide +kernel) (pa_cons
        (pe_lc (own := [("name", 2)]) (g := gName 2) (tt := tTest (tOp (rHasO C (spHasM C)) (tVar 2) (tVar 1))) rfl scAndM.nd (pi_tup (pe_fld (pv 0) rfl)) (blkOk_by (own := [("name", 2)]) (N := nmSON) (sc := defScope sAndM) (by decide +kernel)) (fun _ _ _ _ _ => pg_name (i := 2) scAndM.nd rfl (Or.inl rfl))
          (fun _ _ _ _ _ => pts_one (pt_cmpR (op_inX mH FH (hr.mono (by decide))) (pv 2) (pv 1) (by rfl))) (fun _ _ _ _ _ => pv 2)) pa_nil)) pa_nil)))), _, rfl, v, rfl, hv, qE⟩
theorem ok_subN {f : Addr} {fd : FuncData} (F : Fun K "__sub__" "Members.__sub__" sSubM f fd) (B : Mb P w K mg base C CN CM mc) : FnOk P w K mg base (L2.CX P w) 7 f fd nmSO (spBadM C CM) := by
  obtain ⟨fC, hC⟩ := B.chkN
  obtain ⟨pF, gF, mF, FF⟩ := B.fromT
  obtain ⟨gH, mH, FH⟩ := B.hasM
  have M := B.M
  refine F.okX scSubM (fun vs H Q E h => ?_) (fun cdv A outer s H vs Q E hr h => ?_)
  · obtain ⟨a, zs, v, rfl, _⟩ := h
    rfl
  · obtain ⟨a, zs, v, rfl, m1, hv, qE⟩ := h
    exact ⟨_, pss_cons (ps_expr (pe_has hC (hr.mono (by decide)) (by rfl) (passes_call (takes_of rfl rfl rfl rfl) fun _ _ _ _ h => h) (pa_cons (pv 1) pa_nil)))
      (pss_one (ps_ret (pe_smeth (pe_glob (v := .ref C) (by rfl) M.g rfl) B.cr mF FF hr (passes_call (takes_of rfl rfl rfl rfl) fun _ _ _ _ h => h) (pa_cons (pe_callTy call_tuple_of (by rfl) B.T.tuple (by decide +kernel) (pa_cons
        (pe_lc (own := [("name", 2)]) (g := gName 2) (tt := tTest (tOp (rNinO C (spHasM C)) (tVar 2) (tVar 1))) rfl scSubM.nd (pi_tup (pe_fld (pv 0) rfl)) (blkOk_by (own := [("name", 2)]) (N := nmSON) (sc := defScope sSubM) (by decide +kernel)) (fun _ _ _ _ _ => pg_name (i := 2) scSubM.nd rfl (Or.inl rfl))
          (fun _ _ _ _ _ => pts_one (pt_cmpR (op_ninX mH FH (hr.mono (by decide))) (pv 2) (pv 1) (by rfl))) (fun _ _ _ _ _ => pv 2)) pa_nil)) pa_nil)))), _, rfl, v, rfl, hv, qE⟩
end
end K1
/-! two own classes at an operator; -o, abs(o), bool(o) by own methods; the truth of o in a test -/
namespace DuX
open PySem PySem.Spec
open PyProof.Rows L2
/-- the class at D has the operator too, and is not below C -/
structure OthC (K : PySem.W.Frag) (C D : Addr) (nm : String) : Prop where
  ne : C ≠ D
  sf : PySem.W.selfFirst K D = true
  f : ∃ f, PySem.W.findIn K (.ref D) (PySem.dunder nm) = some (some (.ref f))
  r : PySem.W.findIn K (.ref D) (dunderR nm) = some none
  hs : PySem.W.subIn K (.ref D) (.ref C) = some false
section
variable {M : Model} {prog : Program} {w : World} {A : Around} {E : Value → Shared → Prop} {s : Shared} {K : PySem.W.Frag} {x C D f : Addr} {ox : Obj} {od : Option Obj}
open PySem.W in
theorem bin_two {op : Operator} {b : Value} {Q : Value → Shared → Prop} (X : K.In s.heap) (J : InstAt s.heap x ox C od) (hb : ∀ M : Model, Looks M s.heap (typeOf b) (.ref D)) (hc : selfFirst K C = true) (hs : findIn K (.ref C) (PySem.dunder op.info.2) = some (some (.ref f))) (hf : isFn K (.ref f) = true)
    (hr : findIn K (.ref C) (dunderR op.info.2) = some none) (O : OthC K C D op.info.2)
    (h : wpAny (model prog w) A (call (.ref f) [.ref x, b]) (PySem.W.CmpBack Q) E s) : wpAny (model prog w) A (binaryOp op (.ref x) b) Q E s := by
  obtain ⟨cd, more, hcd, hm⟩ := ksp_first hc
  obtain ⟨ne, sf, ⟨g, h1⟩, h2, hsub⟩ := O
  obtain ⟨cd2, more2, hcd2, hm2⟩ := ksp_first sf
  have one := ksp_try X J hs hf h
  rcases hi : op.info with ⟨sym, nm⟩
  rw [hi] at hs hr h1 h2 one
  dsimp only at hs hr h1 h2 one
  obtain ⟨hp, g', d, tk, os⟩ := s
  have la := J.type (M := model prog w)
  have lb := hb (model prog w)
  have lc := fills_K (M := model prog w) X hcd hm hs
  have ld := fills_K (M := model prog w) X hcd2 hm2 h1
  have le := looks_subIn (M := model prog w) X hsub
  have lf := ksp_inPy (M := model prog w) X hs hr (.inl rfl)
  have lg := ksp_inPy (M := model prog w) X h1 h2 (.inl rfl)
  have ne : (Value.ref C == Value.ref D) = false := Bool.eq_false_iff.mpr fun q => ne (Value.ref.inj (beq_iff_eq.mp q))
  simp only [binaryOp, hi]
  refine wpAny_holding (wpAny_bind ?_)
  unfold binaryOp1
  refine wpAny_bind (la.at (wpAny_bind (lb.at (wpAny_bind (lc.at ?_)))))
  simp only [ne, if_false, Bool.false_eq_true]
  ksp_lk
  refine wpAny_mono one (fun r s1 hz => ?_) fun _ _ e => e
  obtain ⟨v, rfl, q⟩ := hz
  ksp_lk
  exact q
end
section
variable {X : Cx} {CX : CXT} {k : Nat} {g C D : Addr} {sp : Sp} {Ek : XK} {pins : List (Addr × Obj)} {σ : L2.St} {H : Hp} {s : Shared}
/-- the left one of the class at C, the right one of the class at D -/
def rBinD (K : PySem.W.Frag) (C D : Addr) (sp : Sp) (Ek : XK) : R2 := fun x y H Q => ∃ a dx fs, x = .ref a ∧ H a = some (.ins C dx fs) ∧ TyX K H y (.ref D) ∧ sp [.ref a, y] H Q Ek
theorem op_binD {op : Operator} (m : OwnM X.K C (PySem.dunder op.info.2) g) (hc : PySem.W.selfFirst X.K C = true) (hR : PySem.W.findIn X.K (.ref C) (dunderR op.info.2) = some none) (O : OthC X.K C D op.info.2) (F : FnR X.prog X.w X.K X.mg X.base CX k g sp) (hr : Room k X.A) (hx : Passes CX X Ek) :
    OpR X (binaryOp op) (rBinD X.K C D sp Ek) := by
  intro pins s σ H x y v u Q Iv rx ry h
  obtain ⟨a, dx, fs, rfl, ha, ty, q⟩ := h
  cases rx
  obtain ⟨ox, od, J⟩ := inst_of Iv ha
  obtain ⟨Pz, Z, pz, _⟩ := kit_of Iv ry ty
  refine bin_two Iv.kIn J (fun M => Z.ty M _ Iv.kIn pz) hc m.at_ m.fn hR O ?_
  refine wpAny_mono (run_below F hr rfl hx Iv (vs := [V.ref a, y]) (.cons rfl (.cons ry .nil)) q) (fun z s1 hz => ?_) fun _ _ e => e
  obtain ⟨z', H1, I1, rz, qz⟩ := hz
  exact SlX.cmpback rz ⟨z', H1, I1, rz, qz⟩
/-- -o -/
def rNegO (C : Addr) (sp : Sp) (Ek : XK) : V → Hp → VK → Prop := fun x H Q => ∃ a dx fs, x = .ref a ∧ H a = some (.ins C dx fs) ∧ sp [.ref a] H Q Ek
theorem un_negO (m : OwnM X.K C "__neg__" g) (F : FnR X.prog X.w X.K X.mg X.base CX k g sp) (hr : Room k X.A) (hx : Passes CX X Ek) : UnR X (unaryOp .USub) (rNegO C sp Ek) := by
  intro pins s σ H x v Q Iv rx h
  obtain ⟨a, dx, fs, rfl, ha, q⟩ := h
  cases rx
  obtain ⟨ox, od, J⟩ := inst_of Iv ha
  obtain ⟨mm, hF⟩ := Iv.fr
  exact PySem.W.ksp_neg hF Iv.ok.mod.kin J m.at_ m.fn (run_below F hr rfl hx Iv (vs := [V.ref a]) (.cons rfl .nil) q)
/-- abs(o) -/
theorem call_absO (m : OwnM X.K C "__abs__" g) (F : FnR X.prog X.w X.K X.mg X.base CX k g sp) (hr : Room (k + 1) X.A) (hx : Passes CX X Ek) :
    CallR X (.builtin "abs") (fun xs H Q => ∃ a dx fs, xs = [.ref a] ∧ H a = some (.ins C dx fs) ∧ sp [.ref a] H Q Ek) := by
  intro pins s σ H xs us Q Iv r h
  obtain ⟨a, dx, fs, rfl, ha, q⟩ := h
  rw [Vals.ref1 r]
  obtain ⟨ox, od, J⟩ := inst_of Iv ha
  refine Calls.call_function_entry kind_abs plain_abs entry_abs (args_abs _) ?_
  unfold Builtin.«abs»
  refine wpAny_bind (m := oneArg "abs" _) (wpAny_pure ?_)
  refine wpAny_bind (m := callSpecial? (.ref a) (Str.ofString "__abs__")) (PySem.W.special_fn Iv.kIn J m.at_ (beq_iff_eq.mp m.fn) (wpAny_mono (run_below F hr.in1 rfl hx Iv (vs := [V.ref a]) (.cons rfl .nil) q) (fun z s1 hz => ?_) fun _ _ e => e))
  exact wpAny_pure ⟨_, rfl, hz⟩
/-- the truth of o, by its __bool__ -/
theorem truthy_boolO {A : Around} {a dx : Addr} {fs : List (Str × V)} {Q : Bool → Hp → Prop} (m : OwnM X.K C "__bool__" g) (F : FnR X.prog X.w X.K X.mg X.base CX k g sp) (hr : Room k A) (hf : A.frames = X.A.frames) (hx : Passes CX X Ek) (Iv : Inv X pins σ H s) (ha : H a = some (.ins C dx fs))
    (q : sp [.ref a] H (fun v H' => ∃ b, v = .bl b ∧ Q b H') Ek) :
    wpAny (model X.prog X.w) A (truthy (.ref a)) (fun b s1 => ∃ H', Inv X pins σ H' s1 ∧ Q b H') X.xe s := by
  obtain ⟨ox, od, J⟩ := inst_of Iv ha
  obtain ⟨mm, hF⟩ := Iv.fr
  refine PySem.W.truthy_K hF Iv.ok.mod.kin J m.at_ m.fn (wpAny_mono (run_below F hr hf hx Iv (vs := [V.ref a]) (.cons rfl .nil) q) (fun z s1 hz => ?_) fun _ _ e => e)
  obtain ⟨v, H1, I1, rv, b, rfl, q1⟩ := hz
  cases rv
  exact ⟨H1, I1, q1⟩
/-- bool(o), by its __bool__ -/
theorem call_boolB (m : OwnM X.K C "__bool__" g) (F : FnR X.prog X.w X.K X.mg X.base CX k g sp) (hr : Room (k + 2) X.A) (hx : Passes CX X Ek) :
    CallR X (.type "bool") (fun xs H Q => ∃ a dx fs, xs = [.ref a] ∧ H a = some (.ins C dx fs) ∧ sp [.ref a] H (fun v H' => ∃ b, v = .bl b ∧ Q (.bl b) H') Ek) := by
  intro pins s σ H xs us Q Iv r h
  obtain ⟨a, dx, fs, rfl, ha, q⟩ := h
  rw [Vals.ref1 r]
  have f1 := PySem.F.conv_sub_bool
  refine callType_codes (T := "bool") (Bi := Builtin.«object.__init__») (Q₁ := fun r s₁ => ∃ b, r = .bool b ∧ ∃ H', Inv X pins σ H' s₁ ∧ Q (.bl b) H') PySem.F.called_bool (PySem.F.typeCall_bool_1 _) PySem.F.entry_object_init ?_ ?_
  · refine codeAny_of_tree ?_
    show wpAny _ X.A.in1.in1 (do checkBuiltinCall "bool.__new__" ⟨[.type "bool", .ref a], []⟩; again (.builtin "bool.__new__" ⟨[.type "bool", .ref a], []⟩)) _ _ s
    refine wpAny_bind (wpAny_of_eq (PySem.F.newCall_bool_1 _) (wpAny_pure ⟨plainId_quiet (by decide +kernel) _, codeAny_builtin PySem.F.entry_bool_new ?_⟩))
    rw [Around.under_plainId
        (by decide +kernel) _]
    unfold Builtin.«bool.__new__»
    refine wpAny_bind (m := isType (.type "bool")) (wpAny_pure ?_)
    simp only [Bool.not_true,
        Bool.false_eq_true, if_false]
    refine wpAny_bind (wpAny_of_eq f1 ?_)
    simp only [Bool.not_true,
        Bool.false_eq_true, if_false]
    refine wpAny_bind (m := someArgs "bool" 0 1 _) (wpAny_pure ?_)
    refine wpAny_bind (wpAny_mono (truthy_boolO (Q := fun b H' => Q (.bl b) H') m F hr.in1.in1 rfl hx Iv ha q) (fun b s1 z => ?_) fun _ _ e => e)
    exact wpAny_pure ⟨b, rfl, z⟩
  · rintro obj s₁ ⟨b, rfl, H1, I1, q1⟩
    exact ⟨rfl, PySem.F.args_object_init_2 _ _, object_init_meets PySem.F.called_bool.init.lookup PySem.F.called_bool.made (by decide) X.prog X.w X.A.in1 _ s₁ ⟨rfl, rfl, .bl b, H1, I1, rfl, q1⟩⟩
/-- o in a test, by its __len__ -/
theorem pt_lenO {e : Expr} {ta : TE} (m : OwnM X.K C "__len__" g) (nb : PySem.W.findIn X.K (.ref C) "__bool__" = some none) (F : FnR X.prog X.w X.K X.mg X.base CX k g sp) (hr : Room (k + 1) X.A) (hx : Passes CX X Ek) (ha : PE X e ta)
    (he : ∀ whole, isTrue e X.env whole = (do let v ← whole; standAt e.pos; holding [v] (truthy v)) := by intro _; rfl) :
    PT X e (fun σ H Q => ta σ H fun x H' => ∃ a dx fs, x = .ref a ∧ H' a = some (.ins C dx fs) ∧ sp [.ref a] H' (fun v H2 => ∃ n : Nat, v = .int n ∧ n < 2 ^ 62 ∧ Q (n != 0) H2) Ek) := by
  refine ⟨fun pins s σ H Q Iv h => ?_⟩
  refine isTrue_plain (thn (ha.run pins s σ H _ Iv h) fun v s1 ⟨x, H1, I1, r1, q1⟩ => ?_) (he _)
  obtain ⟨a, dx, fs, rfl, h1, q⟩ := q1
  cases r1
  exact truthy_lenO m nb F hr rfl hx I1 h1 q
end
end DuX

namespace K1
open PySem PySem.Spec
open PyProof.Rows L2 EnT StX SmX TxS DuX ClX
/-! ### changes -/
def cflds (a b : Addr) : List (Str × V) := putF "_went" (.ref b) (putF "_came" (.ref a) [])
theorem cflds_came (a b : Addr) : (cflds a b).lookup ("_came" : Str) = some (.ref a) := by
  unfold cflds
  rw [lookup_putF, lookup_putF, if_pos rfl, if_neg (by decide +kernel)]
theorem cflds_went (a b : Addr) : (cflds a b).lookup ("_went" : Str) = some (.ref b) := by
  unfold cflds
  rw [lookup_putF, if_pos rfl]
def Apart (cs gs : List Str) : Prop := ∀ z ∈ cs, z ∉ gs
theorem Apart.symm {cs gs : List Str} (h : Apart cs gs) : Apart gs cs := fun z hz hc => h z hc hz
structure ChgAt (C D : Addr) (H : Hp) (p : Addr) (cs gs : List Str) : Prop where
  at_ : ∃ dx a b, H p = some (.ins D dx (cflds a b)) ∧ MemAt C H a cs ∧ MemAt C H b gs
  apart : Apart cs gs
theorem ChgAt.same {C D : Addr} {H H' : Hp} {p : Addr} {cs gs : List Str} (s : Same H H') (m : ChgAt C D H p cs gs) : ChgAt C D H' p cs gs := by
  obtain ⟨⟨dx, a, b, h1, h2, h3⟩, h⟩ := m
  exact ⟨⟨dx, a, b, s _ _ h1, h2.same s, h3.same s⟩, h⟩
theorem MemAt.set {C a t : Addr} {H : Hp} {zs : List Str} {xs : List V} {o : HO} (h : H t = some (.lst xs)) (m : MemAt C H a zs) : MemAt C (upd H t o) a zs := by
  obtain ⟨⟨dx, t1, d, h1, h2, h3⟩, b, c, e, f⟩ := m
  exact ⟨⟨dx, t1, d, by rw [upd_ne (fun z => by rw [z, h] at h1; cases h1)]; exact h1, by rw [upd_ne (fun z => by rw [z, h] at h2; cases h2)]; exact h2, by rw [upd_ne (fun z => by rw [z, h] at h3; cases h3)]; exact h3⟩, b, c, e, f⟩
theorem ChgAt.set {C D p t : Addr} {H : Hp} {cs gs : List Str} {xs : List V} {o : HO} (h : H t = some (.lst xs)) (m : ChgAt C D H p cs gs) : ChgAt C D (upd H t o) p cs gs := by
  obtain ⟨⟨dx, a, b, h1, h2, h3⟩, e⟩ := m
  exact ⟨⟨dx, a, b, by rw [upd_ne (fun z => by rw [z, h] at h1; cases h1)]; exact h1, h2.set h, h3.set h⟩, e⟩
structure ChgC (K : PySem.W.Frag) (mg : Str → Option Value) (D : Addr) : Prop where
  g : mg "Change" = some (.ref D)
  cl : Cls K D
  nC : NoAttr K D "_came"
  nW : NoAttr K D "_went"
/-- a value that is none of the class at C -/
def NotC (K : PySem.W.Frag) (C : Addr) (H : Hp) (v : V) : Prop := ∃ t, TyX K H v t ∧ PySem.W.kitOne K t (.ref C) = some false
theorem VOk.notC {K : PySem.W.Frag} {C : Addr} {H : Hp} {v : V} (I : MemIs K C) (h : VOk H v) : NotC K C H v := by
  obtain ⟨t, ht, tx⟩ := h.ty (K := K)
  exact ⟨_, tx, I.no t ht⟩
theorem chg_ty {K : PySem.W.Frag} {mg : Str → Option Value} {C D b : Addr} {H : Hp} {cs gs : List Str} (M : ChgC K mg D) (I : MemIs K D) (m : ChgAt C D H b cs gs) : TyX K H (.ref b) (.ref D) := by
  obtain ⟨dy, t2, d2, k1, _, _⟩ := m.at_
  exact .base (.ins k1 M.cl I.ha I.hn I.htk I.hm)
theorem mem_ty {K : PySem.W.Frag} {mg : Str → Option Value} {C b : Addr} {H : Hp} {ws : List Str} (M : MemC K mg C) (I : MemIs K C) (m : MemAt C H b ws) : TyX K H (.ref b) (.ref C) := by
  obtain ⟨dy, t2, d2, k1, _, _⟩ := m.at_
  exact .base (.ins k1 M.cl I.ha I.hn I.htk I.hm)
def spNo (K : PySem.W.Frag) (C CE : Addr) : Sp := fun vs H _ E => ∃ v, vs = [v] ∧ NotC K C H v ∧ ErrAt CE "value" v H E
def spChkCY (C D : Addr) : Sp := fun vs H Q _ => ∃ b cs gs, vs = [.ref b] ∧ ChgAt C D H b cs gs ∧ Q .non H
section
variable {w : World} {P : Program} {base : Heap} {mg : Str → Option Value} {K : PySem.W.Frag} {C D CN CM CA : Addr} {mc : Value}
theorem scErrA : FnScope ["self", "value"] ["self", "value"] (defScope sErrChg) := ⟨rfl, rfl, rfl, by decide +kernel, rfl, by decide +kernel, by decide +kernel⟩
theorem ok_errA {f C fI : Addr} {fd : FuncData} (F : Fun K "__init__" "NotAChange.__init__" sErrChg f fd) (T : ErrC K mg "NotAChange" "value" C fI) : FnOk P w K mg base CX0 1 f fd ["self", "value"] (spErr C "value") := by
  refine F.ok scErrA (fun vs H Q E h => ?_) (fun cdv A outer s H vs Q E hr h => ?_)
  · obtain ⟨a, v, rfl, _⟩ := h
    rfl
  · obtain ⟨a, v, rfl, ha, q⟩ := h
    exact ⟨_, pss_one (ps_ost (pv 0) (pv 1)), _, rfl, _, rfl, a, C, rfl, T.ox, T.no, .inl ⟨ha, fun d nd ne => q d nd ne⟩⟩
theorem ok_chkMN {f fE : Addr} {fd fdE : FuncData} (F : Fun K "check_members" "check_members" sChkM f fd) (T : Free mg) (M : MemC K mg C) (EM : ErrC K mg "NotMembers" "value" CM fE) (FE : Fun K "__init__" "NotMembers.__init__" sErrMem fE fdE) :
    FnOk P w K mg base (L2.CX P w) 3 f fd ["value"] (spNo K C CM) := by
  have bE : Binds K fdE ["self", "value"] [] := FE.binds (ps := ["self", "value"]) fun _ _ _ _ _ _ us hl => match us, hl with | [_, _], _ => rfl
  have GE : FnOk P w K mg base CX0 1 fE fdE ["self", "value"] (spErr CM "value") := ok_errM FE EM
  refine F.okX scChkM (fun vs H Q E h => ?_) (fun cdv A outer s H vs Q E hr h => ?_)
  · obtain ⟨v, rfl, _⟩ := h
    rfl
  · obtain ⟨v, rfl, ⟨t, tx, tn⟩, q⟩ := h
    refine ⟨_, pss_one (ps_if (pt_not (pt_val (pe_callB call_isi (by rfl) T.isinstance (by decide +kernel) (pa_cons (pv 0) (pa_cons (pe_glob (v := .ref C) (by rfl) M.g rfl) pa_nil)))))
        (pss_one (ps_raise rfl (takes_of rfl rfl rfl rfl) (pmk_oex EM.ox EM.ini EM.ty GE (hr.mono (by decide)) bE .nil pass0 rfl EM.g (pa_cons (pv 0) pa_nil)))) pss_nil), ?_⟩
    refine ⟨_, rfl, _, _, _, _, false, rfl, .own C, tx, tn, false, rfl, ?_⟩
    refine iteT ?_
    refine ⟨_, rfl, (by show 1 ≤ 1000; decide), fun x nx => ⟨x, _, rfl, upd_same, fun d nd ne => ⟨rfl, d, [("value", v)], upd_same, ?_, ?_, ?_⟩⟩⟩
    · rw [upd_ne ne, upd_same]
    · rw [upd_ne ne] at nd
      exact nd
    · rw [raise_heap nx ne]
      rw [upd_ne ne] at nd
      exact q d H (Same.refl H) nd
theorem scChkC : FnScope ["value"] ["value"] (defScope sChkC) := ⟨rfl, rfl, rfl, by decide +kernel, rfl, by decide +kernel, by decide +kernel⟩
theorem ok_chkCN {f fE : Addr} {fd fdE : FuncData} (F : Fun K "check_change" "check_change" sChkC f fd) (T : Free mg) (M : ChgC K mg D) (EA : ErrC K mg "NotAChange" "value" CA fE) (FE : Fun K "__init__" "NotAChange.__init__" sErrChg fE fdE) :
    FnOk P w K mg base (L2.CX P w) 3 f fd ["value"] (spNo K D CA) := by
  have bE : Binds K fdE ["self", "value"] [] := FE.binds (ps := ["self", "value"]) fun _ _ _ _ _ _ us hl => match us, hl with | [_, _], _ => rfl
  have GE : FnOk P w K mg base CX0 1 fE fdE ["self", "value"] (spErr CA "value") := ok_errA FE EA
  refine F.okX scChkC (fun vs H Q E h => ?_) (fun cdv A outer s H vs Q E hr h => ?_)
  · obtain ⟨v, rfl, _⟩ := h
    rfl
  · obtain ⟨v, rfl, ⟨t, tx, tn⟩, q⟩ := h
    refine ⟨_, pss_one (ps_if (pt_not (pt_val (pe_callB call_isi (by rfl) T.isinstance (by decide +kernel) (pa_cons (pv 0) (pa_cons (pe_glob (v := .ref D) (by rfl) M.g rfl) pa_nil)))))
        (pss_one (ps_raise rfl (takes_of rfl rfl rfl rfl) (pmk_oex EA.ox EA.ini EA.ty GE (hr.mono (by decide)) bE .nil pass0 rfl EA.g (pa_cons (pv 0) pa_nil)))) pss_nil), ?_⟩
    refine ⟨_, rfl, _, _, _, _, false, rfl, .own D, tx, tn, false, rfl, ?_⟩
    refine iteT ?_
    refine ⟨_, rfl, (by show 1 ≤ 1000; decide), fun x nx => ⟨x, _, rfl, upd_same, fun d nd ne => ⟨rfl, d, [("value", v)], upd_same, ?_, ?_, ?_⟩⟩⟩
    · rw [upd_ne ne, upd_same]
    · rw [upd_ne ne] at nd
      exact nd
    · rw [raise_heap nx ne]
      rw [upd_ne ne] at nd
      exact q d H (Same.refl H) nd
theorem ok_chkCY {f fE : Addr} {fd fdE : FuncData} (F : Fun K "check_change" "check_change" sChkC f fd) (T : Free mg) (M : ChgC K mg D) (I : MemIs K D) (EA : ErrC K mg "NotAChange" "value" CA fE) (FE : Fun K "__init__" "NotAChange.__init__" sErrChg fE fdE) :
    FnOk P w K mg base (L2.CX P w) 3 f fd ["value"] (spChkCY C D) := by
  have bE : Binds K fdE ["self", "value"] [] := FE.binds (ps := ["self", "value"]) fun _ _ _ _ _ _ us hl => match us, hl with | [_, _], _ => rfl
  have GE : FnOk P w K mg base CX0 1 fE fdE ["self", "value"] (spErr CA "value") := ok_errA FE EA
  refine F.okX scChkC (fun vs H Q E h => ?_) (fun cdv A outer s H vs Q E hr h => ?_)
  · obtain ⟨b, cs, gs, rfl, _⟩ := h
    rfl
  · obtain ⟨b, cs, gs, rfl, m, q⟩ := h
    refine ⟨_, pss_one (ps_if (pt_not (pt_val (pe_callB call_isi (by rfl) T.isinstance (by decide +kernel) (pa_cons (pv 0) (pa_cons (pe_glob (v := .ref D) (by rfl) M.g rfl) pa_nil)))))
        (pss_one (ps_raise rfl (takes_of rfl rfl rfl rfl) (pmk_oex EA.ox EA.ini EA.ty GE (hr.mono (by decide)) bE .nil pass0 rfl EA.g (pa_cons (pv 0) pa_nil)))) pss_nil), ?_⟩
    refine ⟨_, rfl, _, _, _, _, true, rfl, .own D, chg_ty M I m, I.yes, true, rfl, ?_⟩
    exact iteF q
end
end K1

namespace K1
open PySem PySem.Spec
open PyProof.Rows L2 EnT StX SmX TxS DuX ClX
abbrev uOr : Str := PySem.dunder Operator.BitOr.info.2
abbrev uAnd : Str := PySem.dunder Operator.BitAnd.info.2
abbrev uSub : Str := PySem.dunder Operator.Sub.info.2
abbrev uAdd : Str := PySem.dunder Operator.Add.info.2
def SgN (P : Program) (w : World) (K : PySem.W.Frag) (mg : Str → Option Value) (base : Heap) (C : Addr) (k : Nat) (nm : Str) (sp : Sp) : Prop := ∃ g, OwnM K C nm g ∧ FnR P w K mg base (L2.CX P w) k g sp
abbrev bmL : List Value := [.type "LookupError", .type "Exception", .type "BaseException", .type "object"]
/-- the class of an error made with a text -/
structure TxtC (K : PySem.W.Frag) (mg : Str → Option Value) (x : Str) (CC : Addr) : Prop where
  g : mg x = some (.ref CC)
  ex : PySem.W.excIn K CC bmL "LookupError.__new__" = true
  kp : PySem.W.keepIn K (.ref CC) = true
  sb : PySem.W.subIn K (.ref CC) (.type "BaseException") = some true
  ty : PySem.W.typeIn K (.ref CC) = some (.type "type")
structure Cg (P : Program) (w : World) (K : PySem.W.Frag) (mg : Str → Option Value) (base : Heap) (C D CN CM CA CC : Addr) (mc : Value) : Prop where
  b : Mb P w K mg base C CN CM mc
  or : SgN P w K mg base C 7 uOr (spBinM C rOr)
  and : SgN P w K mg base C 7 uAnd (spBinM C rAnd)
  sub : SgN P w K mg base C 7 uSub (spBinM C rSub)
  chkMN : ∃ f, Has P w K mg base (L2.CX P w) 3 "check_members" f ["value"] (spNo K C CM)
  chkCY : ∃ f, Has P w K mg base (L2.CX P w) 3 "check_change" f ["value"] (spChkCY C D)
  chkCN : ∃ f, Has P w K mg base (L2.CX P w) 3 "check_change" f ["value"] (spNo K D CA)
  nb : PySem.W.findIn K (.ref C) "__bool__" = some none
  G : ChgC K mg D
  J : MemIs K D
  cc : TxtC K mg "NotComparable" CC
/-! ### operators at Members -/
theorem bin_go {C a b : Addr} {zs ws : List Str} {r : Prop → Prop → Prop} {H : Hp} {Q : VK} {E : XK} (m1 : MemAt C H a zs) (m2 : MemAt C H b ws) (hl : zs.length + ws.length ≤ 1000) (q : MakesP C (fun z => r (z ∈ zs) (z ∈ ws)) H Q) : rBinO C (spBinM C r) E (.ref a) (.ref b) H Q := by
  obtain ⟨dx, t, d, h1, _, _⟩ := m1.at_
  obtain ⟨dy, t2, d2, k1, _, _⟩ := m2.at_
  exact ⟨a, dx, _, b, dy, _, rfl, rfl, h1, k1, a, b, zs, ws, rfl, m1, m2, hl, q⟩
theorem eq_go {K : PySem.W.Frag} {mg : Str → Option Value} {C a b : Addr} {zs ws : List Str} {H : Hp} {Q : VK} (M : MemC K mg C) (I : MemIs K C) (m1 : MemAt C H a zs) (m2 : MemAt C H b ws) (q : Q (.bl (decide (zs = ws))) H) : rEqO K C (spEqM C) (.ref a) (.ref b) H Q := by
  obtain ⟨dx, t, d, h1, _, _⟩ := m1.at_
  exact ⟨a, dx, _, _, rfl, h1, mem_ty M I m2, I.nfC, a, zs, .ref b, rfl, m1, .inl ⟨b, ws, rfl, m2, _, rfl, q⟩⟩
theorem MemAt.upd_ins {C D a p dx : Addr} {H : Hp} {zs : List Str} {o : HO} (h : H p = some (.ins D dx [])) (m : MemAt C H a zs) : MemAt C (upd H p o) a zs := by
  obtain ⟨⟨dx', t1, d, h1, h2, h3⟩, b, c, e, f⟩ := m
  refine ⟨⟨dx', t1, d, ?_, by rw [upd_ne (fun z => by rw [z, h] at h2; cases h2)]; exact h2, by rw [upd_ne (fun z => by rw [z, h] at h3; cases h3)]; exact h3⟩, b, c, e, f⟩
  rw [upd_ne (fun z => by
    rw [z, h] at h1
    have e2 := HO.ins.inj (Option.some.inj h1)
    have e3 := e2.2.2
    have l := flds_names t1 d
    rw [← e3] at l
    cases l)]
  exact h1
def spInitY (C D : Addr) : Sp := fun vs H Q _ => ∃ p a b dx cs gs, vs = [.ref p, .ref a, .ref b] ∧ H p = some (.ins D dx []) ∧ MemAt C H a cs ∧ MemAt C H b gs ∧ cs.length + gs.length ≤ 1000 ∧ Apart cs gs ∧ ∀ H', (∀ x o, x ≠ p → H x = some o → H' x = some o) → ChgAt C D H' p cs gs → Q .non H'
def spInitX (C CC : Addr) : Sp := fun vs H _ E => ∃ p a b cs gs, vs = [.ref p, .ref a, .ref b] ∧ MemAt C H a cs ∧ MemAt C H b gs ∧ cs.length + gs.length ≤ 1000 ∧ ¬ Apart cs gs ∧ ∀ H', Same H H' → E (.ref CC) none H'
def spInit1 (K : PySem.W.Frag) (C CM : Addr) : Sp := fun vs H _ E => ∃ p v u, vs = [.ref p, v, u] ∧ NotC K C H v ∧ ErrAt CM "value" v H E
def spInit2 (K : PySem.W.Frag) (C CM : Addr) : Sp := fun vs H _ E => ∃ p a v cs, vs = [.ref p, .ref a, v] ∧ MemAt C H a cs ∧ NotC K C H v ∧ ErrAt CM "value" v H E
abbrev nmIC : List Str := ["self", "came", "went"]
section
variable {w : World} {P : Program} {base : Heap} {mg : Str → Option Value} {K : PySem.W.Frag} {C D CN CM CA CC : Addr} {mc : Value}
theorem scIC : FnScope nmIC nmIC (defScope sInitC) := ⟨rfl, rfl, rfl, by decide +kernel, rfl, by decide +kernel, by decide +kernel⟩
theorem both_nil {y cs gs : List Str} (e : ∀ z, z ∈ y ↔ z ∈ cs ∧ z ∈ gs) (h : Apart cs gs) : y = [] := List.eq_nil_iff_forall_not_mem.mpr fun z hz => h z ((e z).mp hz).1 ((e z).mp hz).2
theorem both_some {y cs gs : List Str} (e : ∀ z, z ∈ y ↔ z ∈ cs ∧ z ∈ gs) (h : ¬ Apart cs gs) : (y.length != 0) = true := by
  cases y with
  | nil =>
    refine absurd (fun z hc hg => ?_) h
    have := (e z).mpr ⟨hc, hg⟩
    cases this
  | cons a r => rfl
theorem ok_initC {f : Addr} {fd : FuncData} (F : Fun K "__init__" "Change.__init__" sInitC f fd) (B : Cg P w K mg base C D CN CM CA CC mc) : FnOk P w K mg base (L2.CX P w) 8 f fd nmIC (spInitY C D) := by
  obtain ⟨fC, hC⟩ := B.b.chkY
  obtain ⟨gA, mA, FA⟩ := B.and
  obtain ⟨gL, mL, FL⟩ := B.b.lenM
  refine F.okX scIC (fun vs H Q E h => ?_) (fun cdv A outer s H vs Q E hr h => ?_)
  · obtain ⟨p, a, b, dx, cs, gs, rfl, _⟩ := h
    rfl
  · obtain ⟨p, a, b, dx, cs, gs, rfl, hp, m1, m2, hl, ap, q⟩ := h
    refine ⟨_, pss_cons (ps_expr (pe_has hC (hr.mono (by decide)) (by rfl) (passes_call (takes_of rfl rfl rfl rfl) fun _ _ _ _ h => h) (pa_cons (pv 1) pa_nil)))
      (pss_cons (ps_expr (pe_has hC (hr.mono (by decide)) (by rfl) (passes_call (takes_of rfl rfl rfl rfl) fun _ _ _ _ h => h) (pa_cons (pv 2) pa_nil)))
      (pss_cons (ps_if (pt_lenO mL B.nb FL (hr.mono (by decide)) pass0 (pe_op (op_binO mA B.b.sf FA hr (passes_call (takes_of rfl rfl rfl rfl) fun _ _ _ _ h => h)) (pv 1) (pv 2))) (pss_one (ps_raise rfl (takes_of rfl rfl rfl rfl) (pmk_own PySem.F.excBase_LookupError B.cc.ex B.cc.g B.cc.kp (raises_own B.cc.sb B.cc.ty) rfl))) pss_nil)
      (pss_cons (ps_fld (pv 0) (pv 1) rfl) (pss_one (ps_fld (pv 0) (pv 2) rfl))))), ?_⟩
    refine ⟨_, rfl, a, cs, rfl, m1, _, rfl, b, gs, rfl, m2, _, rfl, _, rfl, bin_go m1 m2 hl fun r y H1 _ s1 e1 M1 => ?_⟩
    obtain ⟨dy, t, d, k1, _, _⟩ := M1.at_
    have ey := both_nil e1 ap
    subst ey
    refine ⟨r, dy, _, rfl, k1, r, [], rfl, M1, 0, rfl, by decide, iteF ?_⟩
    have hp1 := s1 _ _ hp
    refine ⟨_, rfl, _, rfl, p, D, dx, [], rfl, hp1, B.G.cl, B.G.nC, (by show 0 < 1000; decide), ?_⟩
    refine ⟨_, rfl, _, rfl, p, D, dx, _, rfl, upd_same, B.G.cl, B.G.nW, (by rw [show (putF "_came" (V.ref a) []).length = 1 from rfl]; decide), ?_⟩
    rw [upd_upd]
    refine q _ (fun x o n e => by rw [upd_ne n]; exact s1 _ _ e) ⟨⟨dx, a, b, upd_same, (m1.same s1).upd_ins hp1, (m2.same s1).upd_ins hp1⟩, ap⟩
theorem ok_initX {f : Addr} {fd : FuncData} (F : Fun K "__init__" "Change.__init__" sInitC f fd) (B : Cg P w K mg base C D CN CM CA CC mc) : FnOk P w K mg base (L2.CX P w) 8 f fd nmIC (spInitX C CC) := by
  obtain ⟨fC, hC⟩ := B.b.chkY
  obtain ⟨gA, mA, FA⟩ := B.and
  obtain ⟨gL, mL, FL⟩ := B.b.lenM
  refine F.okX scIC (fun vs H Q E h => ?_) (fun cdv A outer s H vs Q E hr h => ?_)
  · obtain ⟨p, a, b, cs, gs, rfl, _⟩ := h
    rfl
  · obtain ⟨p, a, b, cs, gs, rfl, m1, m2, hl, ap, q⟩ := h
    refine ⟨_, pss_cons (ps_expr (pe_has hC (hr.mono (by decide)) (by rfl) (passes_call (takes_of rfl rfl rfl rfl) fun _ _ _ _ h => h) (pa_cons (pv 1) pa_nil)))
      (pss_cons (ps_expr (pe_has hC (hr.mono (by decide)) (by rfl) (passes_call (takes_of rfl rfl rfl rfl) fun _ _ _ _ h => h) (pa_cons (pv 2) pa_nil)))
      (pss_cons (ps_if (pt_lenO mL B.nb FL (hr.mono (by decide)) pass0 (pe_op (op_binO mA B.b.sf FA hr (passes_call (takes_of rfl rfl rfl rfl) fun _ _ _ _ h => h)) (pv 1) (pv 2))) (pss_one (ps_raise rfl (takes_of rfl rfl rfl rfl) (pmk_own PySem.F.excBase_LookupError B.cc.ex B.cc.g B.cc.kp (raises_own B.cc.sb B.cc.ty) rfl))) pss_nil)
      (pss_cons (ps_fld (pv 0) (pv 1) rfl) (pss_one (ps_fld (pv 0) (pv 2) rfl))))), ?_⟩
    refine ⟨_, rfl, a, cs, rfl, m1, _, rfl, b, gs, rfl, m2, _, rfl, _, rfl, bin_go m1 m2 hl fun r y H1 _ s1 e1 M1 => ?_⟩
    obtain ⟨dy, t, d, k1, _, _⟩ := M1.at_
    have few := M1.few
    refine ⟨r, dy, _, rfl, k1, r, y, rfl, M1, y.length, rfl, by omega, ?_⟩
    rw [both_some e1 ap]
    exact iteT (q _ s1)
theorem ok_init1 {f : Addr} {fd : FuncData} (F : Fun K "__init__" "Change.__init__" sInitC f fd) (B : Cg P w K mg base C D CN CM CA CC mc) : FnOk P w K mg base (L2.CX P w) 8 f fd nmIC (spInit1 K C CM) := by
  obtain ⟨fC, hC⟩ := B.chkMN
  obtain ⟨gA, mA, FA⟩ := B.and
  obtain ⟨gL, mL, FL⟩ := B.b.lenM
  refine F.okX scIC (fun vs H Q E h => ?_) (fun cdv A outer s H vs Q E hr h => ?_)
  · obtain ⟨p, v, u, rfl, _⟩ := h
    rfl
  · obtain ⟨p, v, u, rfl, nc, q⟩ := h
    exact ⟨_, pss_cons (ps_expr (pe_has hC (hr.mono (by decide)) (by rfl) (passes_call (takes_of rfl rfl rfl rfl) fun _ _ _ _ h => h) (pa_cons (pv 1) pa_nil)))
      (pss_cons (ps_expr (pe_has hC (hr.mono (by decide)) (by rfl) (passes_call (takes_of rfl rfl rfl rfl) fun _ _ _ _ h => h) (pa_cons (pv 2) pa_nil)))
      (pss_cons (ps_if (pt_lenO mL B.nb FL (hr.mono (by decide)) pass0 (pe_op (op_binO mA B.b.sf FA hr (passes_call (takes_of rfl rfl rfl rfl) fun _ _ _ _ h => h)) (pv 1) (pv 2))) (pss_one (ps_raise rfl (takes_of rfl rfl rfl rfl) (pmk_own PySem.F.excBase_LookupError B.cc.ex B.cc.g B.cc.kp (raises_own B.cc.sb B.cc.ty) rfl))) pss_nil)
      (pss_cons (ps_fld (pv 0) (pv 1) rfl) (pss_one (ps_fld (pv 0) (pv 2) rfl))))), _, rfl, v, rfl, nc, q⟩
theorem ok_init2 {f : Addr} {fd : FuncData} (F : Fun K "__init__" "Change.__init__" sInitC f fd) (B : Cg P w K mg base C D CN CM CA CC mc) : FnOk P w K mg base (L2.CX P w) 8 f fd nmIC (spInit2 K C CM) := by
  obtain ⟨fC, hC⟩ := B.b.chkY
  obtain ⟨fN, hN⟩ := B.chkMN
  obtain ⟨gA, mA, FA⟩ := B.and
  obtain ⟨gL, mL, FL⟩ := B.b.lenM
  refine F.okX scIC (fun vs H Q E h => ?_) (fun cdv A outer s H vs Q E hr h => ?_)
  · obtain ⟨p, a, v, cs, rfl, _⟩ := h
    rfl
  · obtain ⟨p, a, v, cs, rfl, m1, nc, q⟩ := h
    exact ⟨_, pss_cons (ps_expr (pe_has hC (hr.mono (by decide)) (by rfl) (passes_call (takes_of rfl rfl rfl rfl) fun _ _ _ _ h => h) (pa_cons (pv 1) pa_nil)))
      (pss_cons (ps_expr (pe_has hN (hr.mono (by decide)) (by rfl) (passes_call (takes_of rfl rfl rfl rfl) fun _ _ _ _ h => h) (pa_cons (pv 2) pa_nil)))
      (pss_cons (ps_if (pt_lenO mL B.nb FL (hr.mono (by decide)) pass0 (pe_op (op_binO mA B.b.sf FA hr (passes_call (takes_of rfl rfl rfl rfl) fun _ _ _ _ h => h)) (pv 1) (pv 2))) (pss_one (ps_raise rfl (takes_of rfl rfl rfl rfl) (pmk_own PySem.F.excBase_LookupError B.cc.ex B.cc.g B.cc.kp (raises_own B.cc.sb B.cc.ty) rfl))) pss_nil)
      (pss_cons (ps_fld (pv 0) (pv 1) rfl) (pss_one (ps_fld (pv 0) (pv 2) rfl))))), _, rfl, a, cs, rfl, m1, _, rfl, v, rfl, nc, q⟩
end
end K1

namespace K1
open PySem PySem.Spec
open PyProof.Rows L2 EnT StX SmX TxS DuX ClX
/-- a new change -/
def MakesC (C D : Addr) (cs gs : List Str) (H : Hp) (Q : VK) : Prop := ∀ (p : Addr) (H' : Hp), H p = none → Same H H' → ChgAt C D H' p cs gs → Q (.ref p) H'
theorem mkc_same {D : Addr} {H : Hp} {x dx : Addr} (nx : H x = none) (nd : H dx = none) (ne : dx ≠ x) : Same H (upd (upd H dx (.own x)) x (.ins D dx [])) := by
  have s1 : Same H (upd H dx (.own x)) := same_upd nd
  exact s1.trans (same_upd (by rw [upd_ne (Ne.symm ne)]; exact nx))
theorem mkc_go {C D a b : Addr} {cs gs : List Str} {H : Hp} {Q : VK} {E : XK} (m1 : MemAt C H a cs) (m2 : MemAt C H b gs) (hl : cs.length + gs.length ≤ 1000) (ap : Apart cs gs) (q : MakesC C D cs gs H Q) :
    ∀ x dx, H x = Option.none → H dx = Option.none → dx ≠ x → spInitY C D (V.ref x :: [.ref a, .ref b]) (upd (upd H dx (.own x)) x (.ins D dx [])) (fun v H2 => v = .non ∧ Q (.ref x) H2) E := by
  intro x dx nx nd ne
  have s := mkc_same (D := D) nx nd ne
  refine ⟨x, a, b, dx, cs, gs, rfl, upd_same, m1.same s, m2.same s, hl, ap, fun H' k M => ⟨rfl, q x H' nx (fun y o e => k y o (ne_of_none e nx) (s y o e)) M⟩⟩
theorem mkc_bad {K : PySem.W.Frag} {C D CM : Addr} {v u : V} {H : Hp} {Q : VK} {E : XK} (nc : ∀ H', Same H H' → NotC K C H' v) (q : ErrAt CM "value" v H E) :
    ∀ x dx, H x = Option.none → H dx = Option.none → dx ≠ x → spInit1 K C CM (V.ref x :: [v, u]) (upd (upd H dx (.own x)) x (.ins D dx [])) (fun v H2 => v = .non ∧ Q (.ref x) H2) E := by
  intro x dx nx nd ne
  have s := mkc_same (D := D) nx nd ne
  exact ⟨x, v, u, rfl, nc _ s, q.same s⟩
theorem mkc_bad2 {K : PySem.W.Frag} {C D CM a : Addr} {v : V} {cs : List Str} {H : Hp} {Q : VK} {E : XK} (m : MemAt C H a cs) (nc : ∀ H', Same H H' → NotC K C H' v) (q : ErrAt CM "value" v H E) :
    ∀ x dx, H x = Option.none → H dx = Option.none → dx ≠ x → spInit2 K C CM (V.ref x :: [.ref a, v]) (upd (upd H dx (.own x)) x (.ins D dx [])) (fun v H2 => v = .non ∧ Q (.ref x) H2) E := by
  intro x dx nx nd ne
  have s := mkc_same (D := D) nx nd ne
  exact ⟨x, a, v, cs, rfl, m.same s, nc _ s, q.same s⟩
theorem mkc_x {C D CC a b : Addr} {cs gs : List Str} {H : Hp} {Q : VK} {E : XK} (m1 : MemAt C H a cs) (m2 : MemAt C H b gs) (hl : cs.length + gs.length ≤ 1000) (ap : ¬ Apart cs gs) (q : ∀ H', Same H H' → E (.ref CC) none H') :
    ∀ x dx, H x = Option.none → H dx = Option.none → dx ≠ x → spInitX C CC (V.ref x :: [.ref a, .ref b]) (upd (upd H dx (.own x)) x (.ins D dx [])) (fun v H2 => v = .non ∧ Q (.ref x) H2) E := by
  intro x dx nx nd ne
  have s := mkc_same (D := D) nx nd ne
  exact ⟨x, a, b, cs, gs, rfl, m1.same s, m2.same s, hl, ap, fun H' s' => q H' (s.trans s')⟩
/-- what makes a change -/
structure Mc (P : Program) (w : World) (K : PySem.W.Frag) (mg : Str → Option Value) (base : Heap) (C D CM CC : Addr) : Prop where
  ex : ∃ fI fd, Mk K D fI ∧ FnR P w K mg base (L2.CX P w) 8 fI (spInitY C D) ∧ FnR P w K mg base (L2.CX P w) 8 fI (spInitX C CC) ∧ FnR P w K mg base (L2.CX P w) 8 fI (spInit1 K C CM) ∧ FnR P w K mg base (L2.CX P w) 8 fI (spInit2 K C CM) ∧ FnOk P w K mg base (L2.CX P w) 8 fI fd nmIC (spInitY C D)
/-! ### promises -/
def spReprC (C D : Addr) : Sp := fun vs H Q _ => ∃ a cs gs, vs = [.ref a] ∧ ChgAt C D H a cs gs ∧ cs.length ≤ 900 ∧ gs.length ≤ 900 ∧ Q (.str (Str.empty ++ ("Change(+" : Str) ++ (toString (cs.length : Int) : Str) ++ (", -" : Str) ++ (toString (gs.length : Int) : Str) ++ (")" : Str))) H
def spBoolC (C D : Addr) : Sp := fun vs H Q _ => ∃ a cs gs, vs = [.ref a] ∧ ChgAt C D H a cs gs ∧ Q (.bl ((cs.length != 0) || (gs.length != 0))) H
def spAbsC (C D : Addr) : Sp := fun vs H Q _ => ∃ a cs gs, vs = [.ref a] ∧ ChgAt C D H a cs gs ∧ Q (.int ((cs.length : Nat) + (gs.length : Nat))) H
def spEqC (C D : Addr) : Sp := fun vs H Q _ => ∃ a b cs gs cs' gs', vs = [.ref a, .ref b] ∧ ChgAt C D H a cs gs ∧ ChgAt C D H b cs' gs' ∧ Q (.bl (decide (cs = cs') && decide (gs = gs'))) H
def spEqCN (K : PySem.W.Frag) (C D : Addr) : Sp := fun vs H Q _ => ∃ a cs gs v, vs = [.ref a, v] ∧ ChgAt C D H a cs gs ∧ NotC K D H v ∧ Q (.bl false) H
def spNegC (C D : Addr) : Sp := fun vs H Q _ => ∃ a cs gs, vs = [.ref a] ∧ ChgAt C D H a cs gs ∧ cs.length + gs.length ≤ 1000 ∧ MakesC C D gs cs H Q
abbrev aC (c1 g2 c2 : Prop) : Prop := (c1 ∧ ¬ g2) ∨ c2
def spAddC (C D : Addr) : Sp := fun vs H Q _ => ∃ a b c1 g1 c2 g2, vs = [.ref a, .ref b] ∧ ChgAt C D H a c1 g1 ∧ ChgAt C D H b c2 g2 ∧ c1.length + g1.length + c2.length + g2.length ≤ 400 ∧
  ∀ (p : Addr) (cs gs : List Str) (H' : Hp), H p = none → Same H H' → (∀ z, z ∈ cs ↔ aC (z ∈ c1) (z ∈ g2) (z ∈ c2)) → (∀ z, z ∈ gs ↔ aC (z ∈ g1) (z ∈ c2) (z ∈ g2)) → ChgAt C D H' p cs gs → Q (.ref p) H'
def spAddM (C D : Addr) : Sp := fun vs H Q _ => ∃ a b zs cs gs, vs = [.ref a, .ref b] ∧ MemAt C H a zs ∧ ChgAt C D H b cs gs ∧ zs.length + cs.length + gs.length ≤ 400 ∧ MakesP C (fun z => aC (z ∈ zs) (z ∈ gs) (z ∈ cs)) H Q
/-- a sum with what is no change -/
def spAddN (K : PySem.W.Frag) (D CA : Addr) : Sp := fun vs H _ E => ∃ a v, vs = [.ref a, v] ∧ NotC K D H v ∧ ErrAt CA "value" v H E
def spBet (C D : Addr) : Sp := fun vs H Q _ => ∃ a b zs ws, vs = [.ref a, .ref b] ∧ MemAt C H a zs ∧ MemAt C H b ws ∧ zs.length + ws.length ≤ 400 ∧
  ∀ (p : Addr) (cs gs : List Str) (H' : Hp), H p = none → Same H H' → (∀ z, z ∈ cs ↔ z ∈ ws ∧ ¬ z ∈ zs) → (∀ z, z ∈ gs ↔ z ∈ zs ∧ ¬ z ∈ ws) → ChgAt C D H' p cs gs → Q (.ref p) H'
def spBet1 (K : PySem.W.Frag) (C CM : Addr) : Sp := fun vs H _ E => ∃ v u, vs = [v, u] ∧ NotC K C H v ∧ ErrAt CM "value" v H E
def spBet2 (K : PySem.W.Frag) (C CM : Addr) : Sp := fun vs H _ E => ∃ a cs v, vs = [.ref a, v] ∧ MemAt C H a cs ∧ NotC K C H v ∧ ErrAt CM "value" v H E
theorem str_shortC {n : Nat} (h : n ≤ 900) : (toString (n : Int) : Str).length ≤ 5 := RpD.shown_int (by omega)
section
variable {w : World} {P : Program} {base : Heap} {mg : Str → Option Value} {K : PySem.W.Frag} {C D CN CM CA CC : Addr} {mc : Value}
theorem sc1 {st : Stmt} (h : FnScope ["self"] ["self"] (defScope st)) : FnScope ["self"] ["self"] (defScope st) := h
theorem scCame : FnScope ["self"] ["self"] (defScope sCameP) := ⟨rfl, rfl, rfl, by decide +kernel, rfl, by decide +kernel, by decide +kernel⟩
theorem scWent : FnScope ["self"] ["self"] (defScope sWentP) := ⟨rfl, rfl, rfl, by decide +kernel, rfl, by decide +kernel, by decide +kernel⟩
theorem scReprC : FnScope ["self"] ["self"] (defScope sReprC) := ⟨rfl, rfl, rfl, by decide +kernel, rfl, by decide +kernel, by decide +kernel⟩
theorem scBoolC : FnScope ["self"] ["self"] (defScope sBoolC) := ⟨rfl, rfl, rfl, by decide +kernel, rfl, by decide +kernel, by decide +kernel⟩
theorem scAbsC : FnScope ["self"] ["self"] (defScope sAbsC) := ⟨rfl, rfl, rfl, by decide +kernel, rfl, by decide +kernel, by decide +kernel⟩
theorem scNegC : FnScope ["self"] ["self"] (defScope sNegC) := ⟨rfl, rfl, rfl, by decide +kernel, rfl, by decide +kernel, by decide +kernel⟩
theorem scEqC : FnScope nmSO nmSO (defScope sEqC) := ⟨rfl, rfl, rfl, by decide +kernel, rfl, by decide +kernel, by decide +kernel⟩
theorem ok_cameP {f : Addr} {fd : FuncData} (F : Fun K "came" "Change.came" sCameP f fd) (M : ChgC K mg D) : FnOk P w K mg base CX0 1 f fd ["self"] (getSp D "_came") := by
  refine F.ok scCame (fun vs H Q E h => ?_) (fun cdv A outer s H vs Q E hr h => ?_)
  · obtain ⟨a, dx, fs, v, rfl, _⟩ := h
    rfl
  · obtain ⟨a, dx, fs, v, rfl, ha, l, q⟩ := h
    exact ⟨_, pss_one (ps_ret (pe_fld (pv 0) rfl)), _, rfl, a, D, dx, fs, v, rfl, ha, M.cl, M.nC, l, q⟩
theorem ok_wentP {f : Addr} {fd : FuncData} (F : Fun K "went" "Change.went" sWentP f fd) (M : ChgC K mg D) : FnOk P w K mg base CX0 1 f fd ["self"] (getSp D "_went") := by
  refine F.ok scWent (fun vs H Q E h => ?_) (fun cdv A outer s H vs Q E hr h => ?_)
  · obtain ⟨a, dx, fs, v, rfl, _⟩ := h
    rfl
  · obtain ⟨a, dx, fs, v, rfl, ha, l, q⟩ := h
    exact ⟨_, pss_one (ps_ret (pe_fld (pv 0) rfl)), _, rfl, a, D, dx, fs, v, rfl, ha, M.cl, M.nW, l, q⟩
theorem ok_absC {f : Addr} {fd : FuncData} (F : Fun K "__abs__" "Change.__abs__" sAbsC f fd) (B : Cg P w K mg base C D CN CM CA CC mc) : FnOk P w K mg base CX0 3 f fd ["self"] (spAbsC C D) := by
  obtain ⟨gL, mL, FL⟩ := B.b.lenM
  refine F.ok scAbsC (fun vs H Q E h => ?_) (fun cdv A outer s H vs Q E hr h => ?_)
  · obtain ⟨a, cs, gs, rfl, _⟩ := h
    rfl
  · obtain ⟨a, cs, gs, rfl, m, q⟩ := h
    obtain ⟨dx, x, y, h1, m1, m2⟩ := m.at_
    obtain ⟨dy, t, d, k1, _, _⟩ := m1.at_
    obtain ⟨dz, t', d', j1, _, _⟩ := m2.at_
    have f1 := m1.few
    have f2 := m2.few
    exact ⟨_, pss_one (ps_ret (pe_op op_add (pe_callB (call_lenO mL FL hr pass0) (by rfl) B.b.T.len PySem.boot_len (pa_cons (pe_fld (pv 0) rfl) pa_nil)) (pe_callB (call_lenO mL FL hr pass0) (by rfl) B.b.T.len PySem.boot_len (pa_cons (pe_fld (pv 0) rfl) pa_nil)))),
      _, rfl, a, D, dx, _, _, rfl, h1, B.G.cl, B.G.nC, cflds_came x y, x, dy, _, rfl, k1, x, cs, rfl, m1, cs.length, rfl, by omega, _, rfl, a, D, dx, _, _, rfl, h1, B.G.cl, B.G.nW, cflds_went x y, y, dz, _, rfl, j1, y, gs, rfl, m2, gs.length, rfl, by omega, _, _, rfl, rfl, q⟩
theorem ok_boolC {f : Addr} {fd : FuncData} (F : Fun K "__bool__" "Change.__bool__" sBoolC f fd) (B : Cg P w K mg base C D CN CM CA CC mc) : FnOk P w K mg base CX0 5 f fd ["self"] (spBoolC C D) := by
  obtain ⟨gL, mL, FL⟩ := B.b.lenM
  refine F.ok scBoolC (fun vs H Q E h => ?_) (fun cdv A outer s H vs Q E hr h => ?_)
  · obtain ⟨a, cs, gs, rfl, _⟩ := h
    rfl
  · obtain ⟨a, cs, gs, rfl, m, q⟩ := h
    obtain ⟨dx, x, y, h1, m1, m2⟩ := m.at_
    obtain ⟨dy, t, d, k1, _, _⟩ := m1.at_
    obtain ⟨dz, t', d', j1, _, _⟩ := m2.at_
    have f1 := m1.few
    have f2 := m2.few
    refine ⟨_, pss_one (ps_ret (pe_or (pe_callTy (call_boolO mL B.nb FL hr pass0) (by rfl) B.b.T.bool (by decide +kernel) (pa_cons (pe_fld (pv 0) rfl) pa_nil)) (pe_one (pe_callTy (call_boolO mL B.nb FL hr pass0) (by rfl) B.b.T.bool (by decide +kernel) (pa_cons (pe_fld (pv 0) rfl) pa_nil))))), ?_⟩
    refine ⟨_, rfl, a, D, dx, _, _, rfl, h1, B.G.cl, B.G.nC, cflds_came x y, x, dy, _, rfl, k1, x, cs, rfl, m1, cs.length, rfl, by omega, _, rfl, ?_⟩
    cases hc : (cs.length != 0) with
    | true =>
      rw [hc, Bool.true_or] at q
      exact iteT q
    | false =>
      rw [hc, Bool.false_or] at q
      exact iteF ⟨_, rfl, a, D, dx, _, _, rfl, h1, B.G.cl, B.G.nW, cflds_went x y, y, dz, _, rfl, j1, y, gs, rfl, m2, gs.length, rfl, by omega, q⟩
theorem ok_reprC {f : Addr} {fd : FuncData} (F : Fun K "__repr__" "Change.__repr__" sReprC f fd) (B : Cg P w K mg base C D CN CM CA CC mc) : FnOk P w K mg base CX0 3 f fd ["self"] (spReprC C D) := by
  obtain ⟨gL, mL, FL⟩ := B.b.lenM
  refine F.ok scReprC (fun vs H Q E h => ?_) (fun cdv A outer s H vs Q E hr h => ?_)
  · obtain ⟨a, cs, gs, rfl, _⟩ := h
    rfl
  · obtain ⟨a, cs, gs, rfl, m, l1, l2, q⟩ := h
    obtain ⟨dx, x, y, h1, m1, m2⟩ := m.at_
    obtain ⟨dy, t, d, k1, _, _⟩ := m1.at_
    obtain ⟨dz, t', d', j1, _, _⟩ := m2.at_
    have f1 := str_shortC l1
    have f2 := str_shortC l2
    have e0 : (Str.empty ++ ("Change(+" : Str)).length = 8 := by decide +kernel
    have e1 : ((", -" : Str)).length = 3 := by decide +kernel
    have e2 : ((")" : Str)).length = 1 := by decide +kernel
    refine ⟨_, pss_one (ps_ret (pe_joined (.cons pe_str (.cons (pe_fmt (pe_callB (call_lenO mL FL hr pass0) (by rfl) B.b.T.len PySem.boot_len (pa_cons (pe_fld (pv 0) rfl) pa_nil))) (.cons pe_str (.cons (pe_fmt (pe_callB (call_lenO mL FL hr pass0) (by rfl) B.b.T.len PySem.boot_len (pa_cons (pe_fld (pv 0) rfl) pa_nil))) (.cons pe_str .nil))))))), ?_⟩
    refine ⟨_, rfl, by rw [e0, sizeLine_eq]; decide, _, rfl, a, D, dx, _, _, rfl, h1, B.G.cl, B.G.nC, cflds_came x y, x, dy, _, rfl, k1, x, cs, rfl, m1, cs.length, rfl, by omega, .inr ⟨_, rfl, RpD.log_small (i := (cs.length : Nat)) (by omega), ?_⟩⟩
    refine ⟨_, rfl, by rw [strLen_append, e0, sizeLine_eq]; omega, _, rfl, by rw [strLen_append, strLen_append, e0, e1, sizeLine_eq]; omega, _, rfl, a, D, dx, _, _, rfl, h1, B.G.cl, B.G.nW, cflds_went x y, y, dz, _, rfl, j1, y, gs, rfl, m2, gs.length, rfl, by omega, .inr ⟨_, rfl, RpD.log_small (i := (gs.length : Nat)) (by omega), ?_⟩⟩
    exact ⟨_, rfl, by rw [strLen_append, strLen_append, strLen_append, e0, e1, sizeLine_eq]; omega, _, rfl, by rw [strLen_append, strLen_append, strLen_append, strLen_append, e0, e1, e2, sizeLine_eq]; omega, q⟩
end
end K1

namespace K1
open PySem PySem.Spec
open PyProof.Rows L2 EnT StX SmX TxS DuX ClX
/-- the properties, and == of Members -/
structure Cp (P : Program) (w : World) (K : PySem.W.Frag) (mg : Str → Option Value) (base : Heap) (C D CM CC : Addr) : Prop where
  came : ∃ p g fd, PropOf K D "came" p g ∧ FnOk P w K mg base CX0 1 g fd ["self"] (getSp D "_came") ∧ L2.Binds K fd ["self"] []
  went : ∃ p g fd, PropOf K D "went" p g ∧ FnOk P w K mg base CX0 1 g fd ["self"] (getSp D "_went") ∧ L2.Binds K fd ["self"] []
  eqM : ∃ g, OwnM K C "__eq__" g ∧ FnR P w K mg base CX0 3 g (spEqM C)
  mak : Mc P w K mg base C D CM CC
theorem apart_add {c1 g1 c2 g2 cs gs : List Str} (a1 : Apart c1 g1) (a2 : Apart c2 g2) (e1 : ∀ z, z ∈ cs ↔ aC (z ∈ c1) (z ∈ g2) (z ∈ c2)) (e2 : ∀ z, z ∈ gs ↔ aC (z ∈ g1) (z ∈ c2) (z ∈ g2)) : Apart cs gs := fun z hz hg => by
  rcases (e1 z).mp hz with ⟨p, q⟩ | p
  · rcases (e2 z).mp hg with ⟨r, s⟩ | r
    · exact a1 z p r
    · exact q r
  · rcases (e2 z).mp hg with ⟨r, s⟩ | r
    · exact s p
    · exact a2 z p r
section
variable {w : World} {P : Program} {base : Heap} {mg : Str → Option Value} {K : PySem.W.Frag} {C D CN CM CA CC : Addr} {mc : Value}
theorem ok_eqC {f : Addr} {fd : FuncData} (F : Fun K "__eq__" "Change.__eq__" sEqC f fd) (B : Cg P w K mg base C D CN CM CA CC mc) (R : Cp P w K mg base C D CM CC) : FnOk P w K mg base CX0 5 f fd nmSO (spEqC C D) := by
  obtain ⟨pC, gC, fdC, prC, GC, bC⟩ := R.came
  obtain ⟨pW, gW, fdW, prW, GW, bW⟩ := R.went
  obtain ⟨gE, mE, FE⟩ := R.eqM
  have M := B.b.M
  have T := B.b.T
  refine F.ok scEqC (fun vs H Q E h => ?_) (fun cdv A outer s H vs Q E hr h => ?_)
  · obtain ⟨a, b, cs, gs, cs', gs', rfl, _⟩ := h
    rfl
  · obtain ⟨a, b, cs, gs, cs', gs', rfl, m, m', q⟩ := h
    obtain ⟨dx, x, y, h1, m1, m2⟩ := m.at_
    obtain ⟨dy, x', y', k1, n1, n2⟩ := m'.at_
    refine ⟨_, pss_one (ps_ret (pe_and (pe_callB call_isi (by rfl) T.isinstance (by decide +kernel) (pa_cons (pv 1) (pa_cons (pe_glob (v := .ref D) (by rfl) B.G.g rfl) pa_nil))) (pe_and (pe_cmpR (op_eqX mE FE (hr.mono (by decide))) (pe_fld (pv 0) rfl) (pe_prop (pv 1) B.G.cl prC GC (hr.mono (by decide)) bC .nil pass0 rfl) (nomark _))
      (pe_one (pe_cmpR (op_eqX mE FE (hr.mono (by decide))) (pe_fld (pv 0) rfl) (pe_prop (pv 1) B.G.cl prW GW (hr.mono (by decide)) bW .nil pass0 rfl) (nomark _)))))), ?_⟩
    refine ⟨_, rfl, _, _, _, _, true, rfl, .own D, chg_ty B.G B.J m', B.J.yes, true, rfl, iteT ?_⟩
    refine ⟨_, rfl, a, D, dx, _, _, rfl, h1, B.G.cl, B.G.nC, cflds_came x y, _, rfl, b, dy, _, rfl, k1, b, dy, _, _, rfl, k1, cflds_came x' y', eq_go M B.b.I m1 n1 ⟨_, rfl, ?_⟩⟩
    cases hc : decide (cs = cs') with
    | false =>
      rw [hc, Bool.false_and] at q
      exact iteF q
    | true =>
      rw [hc, Bool.true_and] at q
      exact iteT ⟨_, rfl, a, D, dx, _, _, rfl, h1, B.G.cl, B.G.nW, cflds_went x y, _, rfl, b, dy, _, rfl, k1, b, dy, _, _, rfl, k1, cflds_went x' y', eq_go M B.b.I m2 n2 q⟩
theorem ok_eqCN {f : Addr} {fd : FuncData} (F : Fun K "__eq__" "Change.__eq__" sEqC f fd) (B : Cg P w K mg base C D CN CM CA CC mc) (R : Cp P w K mg base C D CM CC) : FnOk P w K mg base CX0 5 f fd nmSO (spEqCN K C D) := by
  obtain ⟨pC, gC, fdC, prC, GC, bC⟩ := R.came
  obtain ⟨pW, gW, fdW, prW, GW, bW⟩ := R.went
  obtain ⟨gE, mE, FE⟩ := R.eqM
  have M := B.b.M
  have T := B.b.T
  refine F.ok scEqC (fun vs H Q E h => ?_) (fun cdv A outer s H vs Q E hr h => ?_)
  · obtain ⟨a, cs, gs, v, rfl, _⟩ := h
    rfl
  · obtain ⟨a, cs, gs, v, rfl, m, ⟨t, tx, tn⟩, q⟩ := h
    refine ⟨_, pss_one (ps_ret (pe_and (pe_callB call_isi (by rfl) T.isinstance (by decide +kernel) (pa_cons (pv 1) (pa_cons (pe_glob (v := .ref D) (by rfl) B.G.g rfl) pa_nil))) (pe_and (pe_cmpR (op_eqX mE FE (hr.mono (by decide))) (pe_fld (pv 0) rfl) (pe_prop (pv 1) B.G.cl prC GC (hr.mono (by decide)) bC .nil pass0 rfl) (nomark _))
      (pe_one (pe_cmpR (op_eqX mE FE (hr.mono (by decide))) (pe_fld (pv 0) rfl) (pe_prop (pv 1) B.G.cl prW GW (hr.mono (by decide)) bW .nil pass0 rfl) (nomark _)))))), ?_⟩
    exact ⟨_, rfl, _, _, _, _, false, rfl, .own D, tx, tn, false, rfl, iteF q⟩
theorem ok_negC {f : Addr} {fd : FuncData} (F : Fun K "__neg__" "Change.__neg__" sNegC f fd) (B : Cg P w K mg base C D CN CM CA CC mc) (R : Cp P w K mg base C D CM CC) : FnOk P w K mg base (L2.CX P w) 10 f fd ["self"] (spNegC C D) := by
  obtain ⟨fI, fdI, MK, FY, _⟩ := R.mak
  refine F.okX scNegC (fun vs H Q E h => ?_) (fun cdv A outer s H vs Q E hr h => ?_)
  · obtain ⟨a, cs, gs, rfl, _⟩ := h
    rfl
  · obtain ⟨a, cs, gs, rfl, m, hl, q⟩ := h
    obtain ⟨dx, x, y, h1, m1, m2⟩ := m.at_
    exact ⟨_, pss_one (ps_ret (pe_makeR MK FY hr (by rfl) B.G.g (passes_call (takes_of rfl rfl rfl rfl) fun _ _ _ _ h => h) (pa_cons (pe_fld (pv 0) rfl) (pa_cons (pe_fld (pv 0) rfl) pa_nil)))),
      _, rfl, a, D, dx, _, _, rfl, h1, B.G.cl, B.G.nW, cflds_went x y, _, rfl, a, D, dx, _, _, rfl, h1, B.G.cl, B.G.nC, cflds_came x y, mkc_go m2 m1 (by omega) m.apart.symm q⟩
abbrev nmAC : List Str := ["self", "other", "came", "went"]
theorem scAddC : FnScope nmAC nmSO (defScope sAddC) := ⟨rfl, rfl, rfl, by decide +kernel, rfl, by decide +kernel, by decide +kernel⟩
theorem ok_addC {f : Addr} {fd : FuncData} (F : Fun K "__add__" "Change.__add__" sAddC f fd) (B : Cg P w K mg base C D CN CM CA CC mc) (R : Cp P w K mg base C D CM CC) : FnOk P w K mg base (L2.CX P w) 10 f fd nmSO (spAddC C D) := by
  obtain ⟨fI, fdI, MK, FY, _⟩ := R.mak
  obtain ⟨fC, hC⟩ := B.chkCY
  obtain ⟨gO, mO, FO⟩ := B.or
  obtain ⟨gS, mS, FS⟩ := B.sub
  obtain ⟨pC, gC, fdC, prC, GC, bC⟩ := R.came
  obtain ⟨pW, gW, fdW, prW, GW, bW⟩ := R.went
  have sf := B.b.sf
  refine F.okX scAddC (fun vs H Q E h => ?_) (fun cdv A outer s H vs Q E hr h => ?_)
  · obtain ⟨a, b, c1, g1, c2, g2, rfl, _⟩ := h
    rfl
  · obtain ⟨a, b, c1, g1, c2, g2, rfl, ma, mb, hl, q⟩ := h
    refine ⟨_, pss_cons (ps_expr (pe_has hC (hr.mono (by decide)) (by rfl) (passes_call (takes_of rfl rfl rfl rfl) fun _ _ _ _ h => h) (pa_cons (pv 1) pa_nil)))
      (pss_cons (ps_set (i := 2) scAddC.nd rfl (.inl rfl) (pe_op (op_binO mO sf FO (hr.mono (by decide)) (passes_call (takes_of rfl rfl rfl rfl) fun _ _ _ _ h => h)) (pe_op (op_binO mS sf FS (hr.mono (by decide)) (passes_call (takes_of rfl rfl rfl rfl) fun _ _ _ _ h => h)) (pe_fld (pv 0) rfl) (pe_prop (pv 1) B.G.cl prW GW (hr.mono (by decide)) bW .nil pass0 rfl)) (pe_prop (pv 1) B.G.cl prC GC (hr.mono (by decide)) bC .nil pass0 rfl)))
      (pss_cons (ps_set (i := 3) scAddC.nd rfl (.inl rfl) (pe_op (op_binO mO sf FO (hr.mono (by decide)) (passes_call (takes_of rfl rfl rfl rfl) fun _ _ _ _ h => h)) (pe_op (op_binO mS sf FS (hr.mono (by decide)) (passes_call (takes_of rfl rfl rfl rfl) fun _ _ _ _ h => h)) (pe_fld (pv 0) rfl) (pe_prop (pv 1) B.G.cl prC GC (hr.mono (by decide)) bC .nil pass0 rfl)) (pe_prop (pv 1) B.G.cl prW GW (hr.mono (by decide)) bW .nil pass0 rfl)))
      (pss_one (ps_ret (pe_makeR MK FY hr (by rfl) B.G.g (passes_call (takes_of rfl rfl rfl rfl) fun _ _ _ _ h => h) (pa_cons (pv 2) (pa_cons (pv 3) pa_nil))))))), ?_⟩
    refine ⟨_, rfl, b, c2, g2, rfl, mb, ?_⟩
    obtain ⟨dx, x, y, h1, m1, m2⟩ := ma.at_
    obtain ⟨dy, x', y', k1, n1, n2⟩ := mb.at_
    refine ⟨_, rfl, a, D, dx, _, _, rfl, h1, B.G.cl, B.G.nC, cflds_came x y, _, rfl, b, dy, _, rfl, k1, b, dy, _, _, rfl, k1, cflds_went x' y', bin_go m1 n2 (by omega) fun p1 y1 H1 _ s1 e1 M1 => ?_⟩
    have l1 : y1.length ≤ c1.length := len_sub M1.nd fun z hz => ((e1 z).mp hz).1
    refine ⟨_, rfl, b, dy, _, rfl, s1 _ _ k1, b, dy, _, _, rfl, s1 _ _ k1, cflds_came x' y', bin_go M1 (n1.same s1) (by omega) fun p2 y2 H2 _ s2 e2 M2 => ?_⟩
    have l2 : y2.length ≤ y1.length + c2.length := by
      have := len_sub (ys := y2) (zs := y1 ++ c2) M2.nd fun z hz => List.mem_append.mpr ((e2 z).mp hz)
      rw [List.length_append] at this
      exact this
    have s12 := s1.trans s2
    refine ⟨_, rfl, a, D, dx, _, _, rfl, s12 _ _ h1, B.G.cl, B.G.nW, cflds_went x y, _, rfl, b, dy, _, rfl, s12 _ _ k1, b, dy, _, _, rfl, s12 _ _ k1, cflds_came x' y', bin_go (m2.same s12) (n1.same s12) (by omega) fun p3 y3 H3 _ s3 e3 M3 => ?_⟩
    have l3 : y3.length ≤ g1.length := len_sub M3.nd fun z hz => ((e3 z).mp hz).1
    have s13 := s12.trans s3
    refine ⟨_, rfl, b, dy, _, rfl, s13 _ _ k1, b, dy, _, _, rfl, s13 _ _ k1, cflds_went x' y', bin_go M3 (n2.same s13) (by omega) fun p4 y4 H4 _ s4 e4 M4 => ?_⟩
    have l4 : y4.length ≤ y3.length + g2.length := by
      have := len_sub (ys := y4) (zs := y3 ++ g2) M4.nd fun z hz => List.mem_append.mpr ((e4 z).mp hz)
      rw [List.length_append] at this
      exact this
    have s14 := s13.trans s4
    have f2 : ∀ z, z ∈ y2 ↔ aC (z ∈ c1) (z ∈ g2) (z ∈ c2) := fun z => by
      have a1 := e1 z
      have a2 := e2 z
      exact a2.trans ⟨fun h => h.imp a1.mp id, fun h => h.imp a1.mpr id⟩
    have f4 : ∀ z, z ∈ y4 ↔ aC (z ∈ g1) (z ∈ c2) (z ∈ g2) := fun z => by
      have a1 := e3 z
      have a2 := e4 z
      exact a2.trans ⟨fun h => h.imp a1.mp id, fun h => h.imp a1.mpr id⟩
    refine ⟨_, rfl, _, rfl, mkc_go (M2.same (s3.trans s4)) M4 (by omega) (apart_add ma.apart mb.apart f2 f4) fun p H5 n5 s5 M5 => ?_⟩
    exact q p y2 y4 H5 (by
      cases hh : H p with
      | none => rfl
      | some o =>
        rw [s14 _ _ hh] at n5
        cases n5) (s14.trans s5) f2 f4 M5
theorem ok_addCN {f : Addr} {fd : FuncData} (F : Fun K "__add__" "Change.__add__" sAddC f fd) (B : Cg P w K mg base C D CN CM CA CC mc) (R : Cp P w K mg base C D CM CC) : FnOk P w K mg base (L2.CX P w) 10 f fd nmSO (spAddN K D CA) := by
  obtain ⟨fI, fdI, MK, FY, _⟩ := R.mak
  obtain ⟨fC, hC⟩ := B.chkCN
  obtain ⟨gO, mO, FO⟩ := B.or
  obtain ⟨gS, mS, FS⟩ := B.sub
  obtain ⟨pC, gC, fdC, prC, GC, bC⟩ := R.came
  obtain ⟨pW, gW, fdW, prW, GW, bW⟩ := R.went
  have sf := B.b.sf
  refine F.okX scAddC (fun vs H Q E h => ?_) (fun cdv A outer s H vs Q E hr h => ?_)
  · obtain ⟨a, v, rfl, _⟩ := h
    rfl
  · obtain ⟨a, v, rfl, nc, q⟩ := h
    exact ⟨_, pss_cons (ps_expr (pe_has hC (hr.mono (by decide)) (by rfl) (passes_call (takes_of rfl rfl rfl rfl) fun _ _ _ _ h => h) (pa_cons (pv 1) pa_nil)))
      (pss_cons (ps_set (i := 2) scAddC.nd rfl (.inl rfl) (pe_op (op_binO mO sf FO (hr.mono (by decide)) (passes_call (takes_of rfl rfl rfl rfl) fun _ _ _ _ h => h)) (pe_op (op_binO mS sf FS (hr.mono (by decide)) (passes_call (takes_of rfl rfl rfl rfl) fun _ _ _ _ h => h)) (pe_fld (pv 0) rfl) (pe_prop (pv 1) B.G.cl prW GW (hr.mono (by decide)) bW .nil pass0 rfl)) (pe_prop (pv 1) B.G.cl prC GC (hr.mono (by decide)) bC .nil pass0 rfl)))
      (pss_cons (ps_set (i := 3) scAddC.nd rfl (.inl rfl) (pe_op (op_binO mO sf FO (hr.mono (by decide)) (passes_call (takes_of rfl rfl rfl rfl) fun _ _ _ _ h => h)) (pe_op (op_binO mS sf FS (hr.mono (by decide)) (passes_call (takes_of rfl rfl rfl rfl) fun _ _ _ _ h => h)) (pe_fld (pv 0) rfl) (pe_prop (pv 1) B.G.cl prC GC (hr.mono (by decide)) bC .nil pass0 rfl)) (pe_prop (pv 1) B.G.cl prW GW (hr.mono (by decide)) bW .nil pass0 rfl)))
      (pss_one (ps_ret (pe_makeR MK FY hr (by rfl) B.G.g (passes_call (takes_of rfl rfl rfl rfl) fun _ _ _ _ h => h) (pa_cons (pv 2) (pa_cons (pv 3) pa_nil))))))), _, rfl, v, rfl, nc, q⟩
theorem scAddM : FnScope nmSO nmSO (defScope sAddM) := ⟨rfl, rfl, rfl, by decide +kernel, rfl, by decide +kernel, by decide +kernel⟩
theorem ok_addM {f : Addr} {fd : FuncData} (F : Fun K "__add__" "Members.__add__" sAddM f fd) (B : Cg P w K mg base C D CN CM CA CC mc) (R : Cp P w K mg base C D CM CC) : FnOk P w K mg base (L2.CX P w) 8 f fd nmSO (spAddM C D) := by
  obtain ⟨fC, hC⟩ := B.chkCY
  obtain ⟨gO, mO, FO⟩ := B.or
  obtain ⟨gS, mS, FS⟩ := B.sub
  obtain ⟨pC, gC, fdC, prC, GC, bC⟩ := R.came
  obtain ⟨pW, gW, fdW, prW, GW, bW⟩ := R.went
  have sf := B.b.sf
  refine F.okX scAddM (fun vs H Q E h => ?_) (fun cdv A outer s H vs Q E hr h => ?_)
  · obtain ⟨a, b, zs, cs, gs, rfl, _⟩ := h
    rfl
  · obtain ⟨a, b, zs, cs, gs, rfl, ma, mb, hl, q⟩ := h
    refine ⟨_, pss_cons (ps_expr (pe_has hC (hr.mono (by decide)) (by rfl) (passes_call (takes_of rfl rfl rfl rfl) fun _ _ _ _ h => h) (pa_cons (pv 1) pa_nil)))
      (pss_one (ps_ret (pe_op (op_binO mO sf FO (hr.mono (by decide)) (passes_call (takes_of rfl rfl rfl rfl) fun _ _ _ _ h => h)) (pe_op (op_binO mS sf FS (hr.mono (by decide)) (passes_call (takes_of rfl rfl rfl rfl) fun _ _ _ _ h => h)) (pv 0) (pe_prop (pv 1) B.G.cl prW GW (hr.mono (by decide)) bW .nil pass0 rfl)) (pe_prop (pv 1) B.G.cl prC GC (hr.mono (by decide)) bC .nil pass0 rfl)))), ?_⟩
    refine ⟨_, rfl, b, cs, gs, rfl, mb, ?_⟩
    obtain ⟨dy, x', y', k1, n1, n2⟩ := mb.at_
    refine ⟨_, rfl, _, rfl, b, dy, _, rfl, k1, b, dy, _, _, rfl, k1, cflds_went x' y', bin_go ma n2 (by omega) fun p1 y1 H1 _ s1 e1 M1 => ?_⟩
    have l1 : y1.length ≤ zs.length := len_sub M1.nd fun z hz => ((e1 z).mp hz).1
    refine ⟨_, rfl, b, dy, _, rfl, s1 _ _ k1, b, dy, _, _, rfl, s1 _ _ k1, cflds_came x' y', bin_go M1 (n1.same s1) (by omega) (q.imp s1 (fun z => ?_) fun _ _ h => h)⟩
    have a1 := e1 z
    show z ∈ y1 ∨ z ∈ cs ↔ aC (z ∈ zs) (z ∈ gs) (z ∈ cs)
    rw [a1]
theorem ok_addMN {f : Addr} {fd : FuncData} (F : Fun K "__add__" "Members.__add__" sAddM f fd) (B : Cg P w K mg base C D CN CM CA CC mc) (R : Cp P w K mg base C D CM CC) : FnOk P w K mg base (L2.CX P w) 8 f fd nmSO (spAddN K D CA) := by
  obtain ⟨fC, hC⟩ := B.chkCN
  obtain ⟨gO, mO, FO⟩ := B.or
  obtain ⟨gS, mS, FS⟩ := B.sub
  obtain ⟨pC, gC, fdC, prC, GC, bC⟩ := R.came
  obtain ⟨pW, gW, fdW, prW, GW, bW⟩ := R.went
  have sf := B.b.sf
  refine F.okX scAddM (fun vs H Q E h => ?_) (fun cdv A outer s H vs Q E hr h => ?_)
  · obtain ⟨a, v, rfl, _⟩ := h
    rfl
  · obtain ⟨a, v, rfl, nc, q⟩ := h
    exact ⟨_, pss_cons (ps_expr (pe_has hC (hr.mono (by decide)) (by rfl) (passes_call (takes_of rfl rfl rfl rfl) fun _ _ _ _ h => h) (pa_cons (pv 1) pa_nil)))
      (pss_one (ps_ret (pe_op (op_binO mO sf FO (hr.mono (by decide)) (passes_call (takes_of rfl rfl rfl rfl) fun _ _ _ _ h => h)) (pe_op (op_binO mS sf FS (hr.mono (by decide)) (passes_call (takes_of rfl rfl rfl rfl) fun _ _ _ _ h => h)) (pv 0) (pe_prop (pv 1) B.G.cl prW GW (hr.mono (by decide)) bW .nil pass0 rfl)) (pe_prop (pv 1) B.G.cl prC GC (hr.mono (by decide)) bC .nil pass0 rfl)))), _, rfl, v, rfl, nc, q⟩
abbrev nmBt : List Str := ["before", "after"]
theorem scBet : FnScope nmBt nmBt (defScope sBetC) := ⟨rfl, rfl, rfl, by decide +kernel, rfl, by decide +kernel, by decide +kernel⟩
theorem ok_bet {f : Addr} {fd : FuncData} (F : Fun K "between" "Change.between" sBetC f fd) (B : Cg P w K mg base C D CN CM CA CC mc) (R : Cp P w K mg base C D CM CC) : FnOk P w K mg base (L2.CX P w) 10 f fd nmBt (spBet C D) := by
  obtain ⟨fI, fdI, MK, FY, _⟩ := R.mak
  obtain ⟨fC, hC⟩ := B.b.chkY
  obtain ⟨gS, mS, FS⟩ := B.sub
  have sf := B.b.sf
  refine F.okX scBet (fun vs H Q E h => ?_) (fun cdv A outer s H vs Q E hr h => ?_)
  · obtain ⟨a, b, zs, ws, rfl, _⟩ := h
    rfl
  · obtain ⟨a, b, zs, ws, rfl, ma, mb, hl, q⟩ := h
    refine ⟨_, pss_cons (ps_expr (pe_has hC (hr.mono (by decide)) (by rfl) (passes_call (takes_of rfl rfl rfl rfl) fun _ _ _ _ h => h) (pa_cons (pv 0) pa_nil)))
      (pss_cons (ps_expr (pe_has hC (hr.mono (by decide)) (by rfl) (passes_call (takes_of rfl rfl rfl rfl) fun _ _ _ _ h => h) (pa_cons (pv 1) pa_nil)))
      (pss_one (ps_ret (pe_makeR MK FY hr (by rfl) B.G.g (passes_call (takes_of rfl rfl rfl rfl) fun _ _ _ _ h => h) (pa_cons (pe_op (op_binO mS sf FS (hr.mono (by decide)) (passes_call (takes_of rfl rfl rfl rfl) fun _ _ _ _ h => h)) (pv 1) (pv 0)) (pa_cons (pe_op (op_binO mS sf FS (hr.mono (by decide)) (passes_call (takes_of rfl rfl rfl rfl) fun _ _ _ _ h => h)) (pv 0) (pv 1)) pa_nil)))))), ?_⟩
    refine ⟨_, rfl, a, zs, rfl, ma, _, rfl, b, ws, rfl, mb, _, rfl, _, rfl, bin_go mb ma (by omega) fun p1 y1 H1 _ s1 e1 M1 => ?_⟩
    refine ⟨_, rfl, _, rfl, bin_go (ma.same s1) (mb.same s1) (by omega) fun p2 y2 H2 _ s2 e2 M2 => ?_⟩
    have l1 : y1.length ≤ ws.length := len_sub M1.nd fun z hz => ((e1 z).mp hz).1
    have l2 : y2.length ≤ zs.length := len_sub M2.nd fun z hz => ((e2 z).mp hz).1
    have ap : Apart y1 y2 := fun z h1 h2 => ((e2 z).mp h2).2 ((e1 z).mp h1).1
    have s12 := s1.trans s2
    exact mkc_go (M1.same s2) M2 (by omega) ap fun p H3 n3 s3 M3 => q p y1 y2 H3 (by
      cases hh : H p with
      | none => rfl
      | some o =>
        rw [s12 _ _ hh] at n3
        cases n3) (s12.trans s3) e1 e2 M3
theorem ok_bet1 {f : Addr} {fd : FuncData} (F : Fun K "between" "Change.between" sBetC f fd) (B : Cg P w K mg base C D CN CM CA CC mc) (R : Cp P w K mg base C D CM CC) : FnOk P w K mg base (L2.CX P w) 10 f fd nmBt (spBet1 K C CM) := by
  obtain ⟨fI, fdI, MK, FY, _⟩ := R.mak
  obtain ⟨fC, hC⟩ := B.chkMN
  obtain ⟨gS, mS, FS⟩ := B.sub
  have sf := B.b.sf
  refine F.okX scBet (fun vs H Q E h => ?_) (fun cdv A outer s H vs Q E hr h => ?_)
  · obtain ⟨v, u, rfl, _⟩ := h
    rfl
  · obtain ⟨v, u, rfl, nc, q⟩ := h
    exact ⟨_, pss_cons (ps_expr (pe_has hC (hr.mono (by decide)) (by rfl) (passes_call (takes_of rfl rfl rfl rfl) fun _ _ _ _ h => h) (pa_cons (pv 0) pa_nil)))
      (pss_cons (ps_expr (pe_has hC (hr.mono (by decide)) (by rfl) (passes_call (takes_of rfl rfl rfl rfl) fun _ _ _ _ h => h) (pa_cons (pv 1) pa_nil)))
      (pss_one (ps_ret (pe_makeR MK FY hr (by rfl) B.G.g (passes_call (takes_of rfl rfl rfl rfl) fun _ _ _ _ h => h) (pa_cons (pe_op (op_binO mS sf FS (hr.mono (by decide)) (passes_call (takes_of rfl rfl rfl rfl) fun _ _ _ _ h => h)) (pv 1) (pv 0)) (pa_cons (pe_op (op_binO mS sf FS (hr.mono (by decide)) (passes_call (takes_of rfl rfl rfl rfl) fun _ _ _ _ h => h)) (pv 0) (pv 1)) pa_nil)))))), _, rfl, v, rfl, nc, q⟩
theorem ok_bet2 {f : Addr} {fd : FuncData} (F : Fun K "between" "Change.between" sBetC f fd) (B : Cg P w K mg base C D CN CM CA CC mc) (R : Cp P w K mg base C D CM CC) : FnOk P w K mg base (L2.CX P w) 10 f fd nmBt (spBet2 K C CM) := by
  obtain ⟨fI, fdI, MK, FY, _⟩ := R.mak
  obtain ⟨fC, hC⟩ := B.b.chkY
  obtain ⟨fN, hN⟩ := B.chkMN
  obtain ⟨gS, mS, FS⟩ := B.sub
  have sf := B.b.sf
  refine F.okX scBet (fun vs H Q E h => ?_) (fun cdv A outer s H vs Q E hr h => ?_)
  · obtain ⟨a, cs, v, rfl, _⟩ := h
    rfl
  · obtain ⟨a, cs, v, rfl, m, nc, q⟩ := h
    exact ⟨_, pss_cons (ps_expr (pe_has hC (hr.mono (by decide)) (by rfl) (passes_call (takes_of rfl rfl rfl rfl) fun _ _ _ _ h => h) (pa_cons (pv 0) pa_nil)))
      (pss_cons (ps_expr (pe_has hN (hr.mono (by decide)) (by rfl) (passes_call (takes_of rfl rfl rfl rfl) fun _ _ _ _ h => h) (pa_cons (pv 1) pa_nil)))
      (pss_one (ps_ret (pe_makeR MK FY hr (by rfl) B.G.g (passes_call (takes_of rfl rfl rfl rfl) fun _ _ _ _ h => h) (pa_cons (pe_op (op_binO mS sf FS (hr.mono (by decide)) (passes_call (takes_of rfl rfl rfl rfl) fun _ _ _ _ h => h)) (pv 1) (pv 0)) (pa_cons (pe_op (op_binO mS sf FS (hr.mono (by decide)) (passes_call (takes_of rfl rfl rfl rfl) fun _ _ _ _ h => h)) (pv 0) (pv 1)) pa_nil)))))), _, rfl, a, cs, rfl, m, _, rfl, v, rfl, nc, q⟩
end
end K1
/-! l.count(True), l a list of truths -/
namespace CnB
open PySem PySem.Spec
open PyProof.Rows L2
def tru : Value → Bool
  | .bool b => b
  | _ => false
theorem tru_vals : ∀ {bs : List Bool} {its : List Value}, Vals (bs.map V.bl) its → its.countP tru = bs.count true ∧ ∀ u ∈ its, ∃ b, u = .bool b
  | [], _, h => by
    cases h
    exact ⟨rfl, fun u z => by cases z⟩
  | b :: r, _, h => by
    cases h with
    | cons h1 h2 =>
      cases h1
      obtain ⟨e1, e2⟩ := tru_vals h2
      refine ⟨?_, fun u hu => ?_⟩
      · rw [List.countP_cons, e1, List.count_cons]
        cases b <;> rfl
      · rcases List.mem_cons.mp hu with e | e
        · exact ⟨b, e⟩
        · exact e2 u e
def rCntB (K : PySem.W.Frag) : V → List V → Hp → VK → Prop := fun x xs H Q => ∃ (p : Addr) (bs : List Bool), x = .ref p ∧ xs = [.bl true] ∧ SqL K H p (bs.map V.bl) ∧ Q (.int (bs.count true : Nat)) H
section
variable {X : Cx}
theorem mt_lcountB : MtR X "list.count" (rCntB X.K) := by
  intro pins s σ H x xs v us Q Iv rx rxs h
  obtain ⟨p, bs, rfl, rfl, hs, q⟩ := h
  cases rx
  obtain ⟨u, rfl,
      ru⟩ := rxs.one
  cases ru
  obtain ⟨its, rv, ⟨⟨cls, dd, data, sl⟩, n, ho, hc, hdn, hd⟩, hlen⟩ := Iv.list hs
  simp only at hc hd
  subst hc hd
  obtain ⟨ec, eb⟩ := tru_vals rv
  refine call_meets PySem.F.slot_list_count ⟨_, ho,
      rfl⟩ PySem.F.entry_list_count (PySem.F.args_list_count_2 _ _)
    (SeqAt.list_countAt p its.toArray n dd sl (.bool true) tru) ⟨ho, fun y hy => ?_, ?_⟩
  · obtain ⟨b, rfl⟩ := eb y (by simpa using hy)
    have z := eqAt_V (A := X.A.in1) (s := s) (y := .bl b) (x := .bl true) rfl rfl rfl rfl
    have e : eqV (.bl b) (.bl true) = b := by cases b <;> rfl
    rw [e] at z
    exact z
  · have e2 : its.toArray.toList.countP tru = bs.count true := ec
    refine ⟨.int (bs.count true : Nat), H, Iv.tok _, ⟨s.toks, ?_⟩, q⟩
    show Value.int ((its.toArray.toList.countP tru : Nat) : Int) _ = Value.int ((bs.count true : Nat) : Int) _
    rw [e2]
end
end CnB
/-! != of two lists whose items are equal one by one, by the items' own == -/
namespace NeL
open PySem PySem.SeqAt
open AutoSeq1
    (wpAny_loadPart')
open MeetsSeq MeetsSeq2
open MeetsSeq3 SeqRoads2
section
variable {w : World} {prog : Program}
variable {R : Result → Shared → Prop} {A : Around}
theorem loop3 (l b : Addr) (N : Nat) (J : Nat → Shared → Prop) (hl : GQ.ListI prog w A (fun e s' => R (.error e) s') l b N J)
    (fin : ∀ s, J N s → R (.ok (.ret (.bool false))) s) (m : Nat) :
    ∀ i : Nat, N - i = m → i ≤ N → ∀ s, J i s →
      wpAny (model prog w) A.in1 (Builtin.«list.__eq__.loop» ⟨[.ref l, .ref b, rawInt i, rawInt 3], []⟩) (GQ.FinOf prog w A R) (fun e s' => R (.error e) s') s := by
  induction m with
  | zero =>
    intro i hm hi s hj
    obtain ⟨xs, ys, n, n2, atL, atB, szX, szY, _⟩ := hl _ _ hj
    have ei : i = N := by omega
    have done : R (.ok (.ret (.bool false))) s := fin s (ei ▸ hj)
    obtain ⟨hp, g,
        d, tk, os⟩ := s
    wp_walk using wpAny_loadPart' atL, wpAny_loadPart' atB
    have no1 : xs[((i : Nat) : Int).toNat]? = none := by simp; omega
    have no2 : ys[((i : Nat) : Int).toNat]? = none := by simp; omega
    rw [no1, no2]
    wp_walk using wpAny_loadPart' atL, wpAny_loadPart' atB
    show R (.ok (.ret (.bool (xs.size != ys.size)))) _
    rw [szX, szY]
    simpa using done
  | succ m ih =>
    intro i hm hi s hj
    obtain ⟨xs, ys, n, n2, atL, atB, szX, szY, turn⟩ := hl _ _ hj
    have l1 : i < xs.size := by omega
    have l2 : i < ys.size := by omega
    have tt := turn l1 l2
    obtain ⟨hp, g,
        d, tk, os⟩ := s
    wp_walk using wpAny_loadPart' atL, wpAny_loadPart' atB
    have is1 : xs[((i : Nat) : Int).toNat]? = some xs[i] := by simp [l1]
    have is2 : ys[((i : Nat) : Int).toNat]? = some ys[i] := by simp [l2]
    have next : ((i : Int) + 1) = ((i + 1 : Nat) : Int) := by omega
    rw [is1, is2]
    refine wpAny_bind (wpAny_mono tt (fun r s2 h2 => ?_) fun _ _ x => x)
    obtain ⟨er, h2⟩ := h2
    subst er
    have go := ih (i + 1) (by omega) (by omega) s2 h2
    obtain ⟨hp2, g2,
        d2, tk2, os2⟩ := s2
    wp_walk
    rw [next]
    exact ⟨plainId_quiet plain_eq_loop
        _, codeAny_builtin entry_eq_loop (by
      rw [Around.under_plainId plain_eq_loop _]; exact go)⟩
theorem list_neG (l b : Addr) (N : Nat) (J : Nat → Shared → Prop) (hl : GQ.ListI prog w A (fun e s' => R (.error e) s') l b N J)
    (fin : ∀ s, J N s → R (.ok (.ret (.bool false))) s) {s : Shared} (hj : J 0 s) :
    wpAny (model prog w) A.in1 (Builtin.«list.__ne__» ⟨[.ref l, .ref b], []⟩) (GQ.FinOf prog w A R) (fun e s' => R (.error e) s') s := by
  obtain ⟨xs, ys, n, n2, atL, atB, szX, szY, _⟩ := hl _ _ hj
  have go := loop3 (A := A) (R := R) l b N J hl fin _ 0 rfl (Nat.zero_le _) s hj
  obtain ⟨hp, g,
      d, tk, os⟩ := s
  have sub := AutoSeq1.sub_list_list
  have same : ¬ (xs.size != ys.size) = true := by simp [szX, szY]
  wp_walk using wpAny_loadPart' atL, wpAny_loadPart' atB
  exact ⟨plainId_quiet plain_eq_loop
      _, codeAny_builtin entry_eq_loop (by
    rw [Around.under_plainId plain_eq_loop _]; exact go)⟩
end
section
variable {w : World} {prog : Program}
variable {E : Value → Shared → Prop} {A : Around} {s : Shared}
theorem rc_neG {l b : Addr} {N : Nat} {Q : Value → Shared → Prop} (hu : A.units < cLine) (J : Nat → Shared → Prop) (hl : GQ.ListI prog w A E l b N J)
    (fin : ∀ s, J N s → Q (.bool false) s) (hj : J 0 s) : wpAny (model prog w) A (richCompare .NotEq (.ref l) (.ref b)) Q E s := by
  obtain ⟨xs, ys, n, n2, atL, atB, _, _, _⟩ := hl _ _ hj
  refine wpAny_richCompare_same_room (op := .NotEq) ⟨_, atL, rfl⟩ ⟨_, atB, rfl⟩ F.slot_list_ne (GQ.call_here F.slot_list_ne ⟨_, atL, rfl⟩ F.entry_list_ne (F.args_list_ne_2 _ _) ?_) hu
  exact list_neG (R := wants (fun v s' => v ≠ .notImplemented ∧ Q v s') E) l b N J hl (fun s' q => ⟨(fun x => nomatch x), fin s' q⟩) hj
end
open PySem.Spec PyProof.Rows L2
section
variable {X : Cx} {n : Nat} {D : Eqv}
/-- x != y as an expression: the lists' items are equal -/
theorem op_neG (hD : Mon D) (h : EqG X n D) (hr : Room (n + 1) X.A) : OpR X (compareOp .NotEq) (fun x y H Q => DList D x y H ∧ ∀ H', L2.Ext H H' → Q (.bl false) H') := by
  intro pins s σ H x y v u Q Iv rx ry hq
  obtain ⟨⟨a, b, xs, ys, rfl, rfl, ha, hb, p⟩, q⟩ := hq
  cases rx
  cases ry
  have sb : Sub X (n + 1) X.A := ⟨hr, rfl⟩
  show wpAny (model X.prog X.w) X.A (richCompare .NotEq (.ref a) (.ref b)) (EP X pins σ Q) X.xe s
  refine rc_neG (N := xs.length) hr.units0 (fun _ s' => LoopI X pins σ H s') (fun i s' l => ?_) (fun s' l => ?_) ⟨H, Iv, L2.Ext.rfl'⟩
  · obtain ⟨H1, I1, e1⟩ := id l
    obtain ⟨z, its, k, r, e⟩
        := I1.hok a _ (e1 _ _ ha)
    obtain ⟨z2, its2, k2, r2,
        e2⟩ := I1.hok b _ (e1 _ _ hb)
    refine ⟨its.toArray, its2.toArray, k, k2, e, e2, by rw [List.size_toArray,
        ← r.length], by rw [List.size_toArray, ← r2.length, ← p.1], fun h1 h2 => ?_⟩
    exact turnG hD h sb p r r2 i h1 h2 s' l
  · obtain ⟨H1, I1, e1⟩ := l
    exact ⟨.bl false, H1, I1, rfl, q H1 e1⟩
end
end NeL

/-! isinstance of a caught error that has attributes -/
namespace XdI
open PySem PySem.Spec
    PySem.Calls
open PyProof.Rows PySem.W
section
variable {s : Shared} {prog : Program} {w : World}
variable {E : Value → Shared → Prop} {A : Around} {K : Frag} {x D : Addr} {ox od : Obj}
theorem cls_dict {Q : Option Value → Shared → Prop} (gA : findIn K (.ref D) "__getattribute__" = some (some (.builtin "BaseException.__getattribute__"))) (gT : findIn K (.ref D) "__getattr__" = some none) (sB : subIn K (.ref D) (.type "BaseException") = some true)
    (dC : hasDictIn K D = true) (cA : findIn K (.ref D) "__class__" = some (some (.builtin "object.__class__")))
    (sG : specialIn K (.builtin "object.__class__") "__get__" = some (some (.builtin "getset_descriptor.__get__"))) (tA : takesIn K (.builtin "object.__class__") = some true) (mO : mroIn K D (.type "object") = some true)
    (Kn : K.In s.heap) (Iv : InstAt s.heap x ox D (some od)) (h : Q (some (.ref D)) { s with toks := s.toks + 1 }) : wpAny (model prog w) A (getAttr? (.ref x) "__class__") Q E s := by
  have fO : findObj K D (some od) "__class__" = some (.bind (.builtin "getset_descriptor.__get__") (.builtin "object.__class__")) := findObj_data (by obtain ⟨cd, hc, _⟩ := any_some dC; rw [hc]; rfl) cA sG tA
  obtain ⟨hp, g, d, t, os⟩ := s
  have M0 := Iv.type (M := model prog w)
  have M1 := looks_findIn (M := model prog w) Kn gA
  have M2 := looks_findIn (M := model prog w) Kn gT
  have M3 := looks_find (M := model prog w) Kn Iv fO
  have sub : Looks (model prog w) hp (isInstance (.ref x) (.type "BaseException")) true := M0.andThen (looks_subIn Kn sB)
  have no0 : (false && onTheHeap (Value.builtin "BaseException.__getattribute__")) = false := rfl
  have no2 : (Value.builtin "BaseException.__getattribute__" == Value.builtin "object.__getattribute__") = false := by decide +kernel
  have no1 : (onTheHeap (Value.ref D) && Value.builtin "BaseException.__getattribute__" == Value.builtin "object.__getattribute__") = false := by rw [no2]; rfl
  unfold getAttr? getAttrBy?
      getAttrBy
  refine wpAny_bind (wpAny_mkText (wpAny_bind (wpAny_attempt (wpAny_holding (wpAny_bind (M0.at (wpAny_bind (M1.at ?_))))))))
  show wpAny _ _ (if (onTheHeap (Value.ref D) && Value.builtin "BaseException.__getattribute__"
      == Value.builtin "object.__getattribute__") = true then _ else _) _ _ _
  rw [no1, if_neg Bool.false_ne_true]
  unfold getAttrByItsOwn
      hookBefore
  refine wpAny_bind ?_
  rw [if_pos (show onTheHeap
      (Value.ref D) = true from rfl)]
  refine M2.at ?_
  refine wpAny_bind (wpAny_attempt
      (wpAny_holding ?_))
  unfold callGetattribute
  rw [no0, if_neg Bool.false_ne_true]
  unfold boundAndCalled
  rw [PySem.F.excAttr_ValueError.ga.bind
      (.ref x)]
  refine wpAny_bind
      (wpAny_pure ?_)
  show wpAny _ _ (call (.builtin "BaseException.__getattribute__")
      [.ref x, .str "__class__" t]) _ _ _
  refine wpAny_call (codeAny_call_builtin PySem.F.excAttr_ValueError.ga.plain
      PySem.F.entry_bexc_ga ?_)
  refine @check_slot (model prog w) _ _ ⟨hp, g, d, t + 1, os⟩ "BaseException.__getattribute__" "BaseException" "__getattribute__"
      (.ref x) [.str "__class__" t] [] _ (by decide +kernel) (by decide +kernel) sub (PySem.F.args_bexc_ga (.ref x) (.str "__class__" t)) ?_
  unfold
    Builtin.«object.__getattribute__»
  refine wpAny_bind (wpAny_of_eq (a := ((Value.ref x : Value), [Value.str
      "__class__" t])) (by first | rfl | (simp only [slotArgs]; rfl)) ?_)
  refine wpAny_bind (wpAny_pure (wpAny_bind (M0.at (wpAny_bind (M3.at ?_)))))
  show wpAny _ _ (holding [Value.builtin "object.__class__"] (call (.builtin
      "getset_descriptor.__get__") [.builtin "object.__class__", .ref x, .ref D]) >>= ret) _ _ _
  refine wpAny_bind (wpAny_holding (wpAny_call (class_get (s := ⟨hp, g, d, t + 1, os⟩) (ox := ox) (od := some od) Kn Iv mO ?_)))
  refine wpAny_pure ?_
  show wpAny _ _ (handedOut
      (.ref D)) _ _ _
  rw [handedOut_of
      (v := .ref D) rfl]
  first
    | exact wpAny_pure
        (wpAny_pure h)
    | exact wpAny_pure h
    | exact wpAny_pure (wpAny_bind
        (wpAny_pure (wpAny_pure h)))
theorem kitx_dict (gA : findIn K (.ref D) "__getattribute__" = some (some (.builtin "BaseException.__getattribute__"))) (gT : findIn K (.ref D) "__getattr__" = some none) (sB : subIn K (.ref D) (.type "BaseException") = some true) (dC : hasDictIn K D = true) (cA : findIn K (.ref D) "__class__" = some (some (.builtin "object.__class__")))
    (sG : specialIn K (.builtin "object.__class__") "__get__" = some (some (.builtin "getset_descriptor.__get__"))) (tA : takesIn K (.builtin "object.__class__") = some true) (mO : mroIn K D (.type "object") = some true) :
    KitX K (.ref x) (.ref D) (fun h
        => InstAt h x ox D (some od)) where
  ty := fun _ _ _ Iv => Iv.type
  it := fun _ _ Kn _ => by
    obtain ⟨rD, eD, _⟩ := any_some dC
    unfold clsIn at eD
    split at eD
    · rename_i c' d' cd' sl' ho
      intro A' Q' E' s' k q
      unfold isType loadHead
      exact wpAny_bind (wpAny_loadPart (k _ _ (Kn _ _ ho)) (wpAny_pure q))
    · cases eD
  ne := fun h tp dd its n sl Kn htp => by
    obtain ⟨rD, eD, _⟩ := any_some dC
    refine Bool.eq_false_iff.mpr
        fun q => ?_
    have e : D = tp := Value.ref.inj
        (beq_iff_eq.mp q)
    subst e
    unfold clsIn at eD
    split at eD
    · rename_i c' d' cd' sl' ho
      have z := (Kn _ _ ho).symm.trans htp
      cases z
    · cases eD
  ca := fun Kn Iv k => cls_dict gA gT sB dC cA sG tA mO Kn Iv k
end
end XdI
namespace XdI
open PySem PySem.Spec
open PyProof.Rows L2
/-- isinstance(e, c), e the exception that the suite holds, its attributes at dd -/
def rIsD (K : PySem.W.Frag) (D a : Addr) (d : Option Addr) : List V → Hp → VK → Prop := fun xs H Q => ∃ (c : V) (cv : Value) (b : Bool) (dd : Addr) (fs : List (Str × V)), xs = [.ref a, c] ∧ d = some dd ∧ H dd = some (.xd fs) ∧ (∀ u, RelV c u → u = cv) ∧ PySem.W.kitOne K (.ref D) cv = some b ∧ Q (.bl b) H
theorem call_isD {X : Cx} {a D : Addr} {d : Option Addr} {oe : Obj} {pn : List (Addr × Obj)} {cls : Value} (ec : cls = .ref D) (C : ExcC X.K D) (hz : Zc cls d oe) (hf : ∃ vs, oe.data = .fields vs) : CallR (X.suite a ((a, oe) :: pn)) (.builtin "isinstance") (rIsD X.K D a d) := by
  intro pins s σ H xs us Q Iv r h
  obtain ⟨c, cv, b, dd, fs, rfl, ed, hd, hcv, e, q⟩ := h
  subst ed
  subst ec
  cases r with
  | cons rx rr =>
    cases rr with
    | cons rt rr =>
      cases rr
      cases rx
      have ec := hcv _ rt
      subst ec
      obtain ⟨gotA, _⟩ := Iv.pin (a, oe) (List.mem_append.mpr (.inl List.mem_cons_self))
      obtain ⟨vs, vA⟩ := hf
      have okX : ObjOk X.prog X.w H s.heap dd (.xd fs) := Iv.hok dd _ hd
      obtain ⟨mA, hns, hr⟩ := okX
      obtain ⟨od, ho, hl⟩
          := lookIn_ns hns
      have Jv : PySem.W.InstAt s.heap a oe D (some od) := ⟨gotA, hz.1, by unfold PySem.W.notCls; rw [vA] <;> rfl, by rw [hz.2]; exact ho⟩
      exact PySem.W.kia_one (kitx_dict C.hg C.hk C.hs C.hd C.ha C.hn C.ht C.hm) Iv.kIn Jv e (fun z => nomatch z) fun tk => ⟨.bl b, H, Iv.kept (t' := tk) fun _ _ z => z, rfl, q⟩
end XdI

/-! try .. except (X1, X2, X3) as n, where the clause takes what is raised -/
namespace Tr3
open PySem PySem.Spec
open PyProof.Rows L2
theorem fly_keeps {B h h' : Heap} {l : List Env} {e : Addr} {Z : Obj → Prop} (x : HandSPX.FlyingZ B l e Z h) (k : ∀ b o, h.get? b = some o → h'.get? b = some o) : HandSPX.FlyingZ B l e Z h' := by
  obtain ⟨f1, f2, f3, oe, vs, T, oT, ts, h1, h2, hpA, hpB, h5, h6, h7, h8, h9⟩ := x
  exact ⟨fun b o q => k b o (f1 b o q), f2, f3.of_keeps fun b o q _ => ⟨o, k b o q, rfl⟩, oe, vs, T, oT, ts, k _ _ h1, h2, hpA, hpB, h5, h6, k _ _ h7, h8, h9⟩
/-- what the clause wishes of an exception of the body: slot i is n's -/
def wAs3 (K : PySem.W.Frag) (cs : List Value) (i : Nat) (ts : Addr → Value → Option Addr → TS) (D : Ends) : WX := fun cls d σ H =>
  PySem.W.exmAny K cls cs = some true ∧ ∀ a, H a = none → ts a cls d { nx := fun σ' H' => D.nx (σ'.set i none) H', rt := D.rt, bk := fun σ' H' => D.bk (σ'.set i none) H', ct := fun σ' H' => D.ct (σ'.set i none) H' } (σ.set i (some (.ref a))) H
section
variable {X : Cx} {n : Str} {x1 x2 x3 : Str} {c1 c2 c3 : Value} {i kk : Nat} {body suite : List Stmt}
variable {b₀ : Stmt} {pos pos' p1 p2 p3 tpos : Pos} {tb : WX → TS} {ts : Addr → Value → Option Addr → TS}
theorem ps_try_as3 (hs : X.stack = X.env :: X.outer) (hf : X.env.frame = some X.env.locals) (hN : X.N.Nodup) (hi : X.N[i]? = some n) (hln : X.env.kindOf n = some .local) (hc1 : Names X x1 c1) (hc2 : Names X x2 c2) (hc3 : Names X x3 c3)
    (hb : ∀ (W : WX) (pn : List (Addr × Obj)) (xe : Value → Shared → Prop), Takes
        (X.tr pn xe) W → PassesOwn (model X.prog X.w) X.A X.env xe → PSs (X.tr pn xe) body (tb W))
    (hsu : ∀ (a : Addr) (oe : Obj) (cls : Value) (d : Option Addr) (pn : List (Addr × Obj)),
        Zc cls d oe → (∃ vs, oe.data = .fields vs) → PSs (X.suite a ((a, oe) :: pn)) (b₀ :: suite) (ts a cls d)) :
    PS X (.Try body [.ExceptHandler (some (.Tuple [.Name x1 p1, .Name x2 p2, .Name x3 p3] kk tpos)) (some n) (b₀ :: suite) pos'] [] [] pos) (fun D σ H => tb (wAs3 X.K [c1, c2, c3] i ts D) D σ H) := by
  refine ⟨fun pins s σ H D Iv h => ?_⟩
  have okA := Iv.ok
  have frA : X.A.frames = some (X.env :: X.outer) := by rw [okA.frames, hs]
  have hloc : Loc X.env.scope
      n := .inl hln
  refine wpAny_Try_except ?_
  refine wpAny_mono ((hb (wAs3 X.K [c1, c2, c3] i ts D) (X.pn ++ pins) (fun e s₁ => wpAny (model X.prog X.w) X.A (noteFrame e X.env) (fun _ s₂ => wpAny (model X.prog X.w) X.A (setFlight e none) (fun _ s₃ =>
    wpAny (model X.prog X.w) X.A (handleBy e X.env [.ExceptHandler (some (.Tuple [.Name x1 p1, .Name x2 p2, .Name x3 p3] kk tpos)) (some n) (b₀ :: suite) pos']) (SP X pins D) X.xe s₃) X.xe s₂) X.xe s₁) (fun u s' xA => ?_) PassesOwn.looking).run [] s σ H D (Iv.toTry _) h) (fun f s1 hsp => ?_) (fun e s1 he => he)
  · -- the catch
    obtain ⟨a, B, sI, pins', σ', H', cls, d, rfl, J', nbA, up, skA, na, os, ag, hb1, hyes⟩ := xA
    have Jv : Inv X pins σ' H' sI := J'.ofTry okA
    have sky' : Sky B (X.env :: X.outer) a (Zc cls d) X.env.locals s'.heap := by rw [← hs]; exact skA
    show wpAny (model X.prog X.w)
        X.A (noteFrame (.ref a) X.env) _ _ _
    refine Sky.land Zc.steady frA hf sky' fun hpA flA upA => ?_
    have Jv3 : Inv X pins σ' H' { s' with heap := hpA } := Jv.landed nbA flA.1 (up.trans upA) os ag
    obtain ⟨oA, vA, eA, zA, dA⟩ := flA.there
    have notFr : ∀ {h : Heap} {o : Obj} {vs : Array Value}, h.FunFrames B (X.env :: X.outer)
        → h.get? a = some o → o.data = .fields vs → a ∉ frs (X.env :: X.outer) := fun {h o vs} ff e dd hm => by
      obtain ⟨_, o', e',
          hnf⟩ := ff.mem hm
      rw [e] at e'; cases e'
      exact hnf _ dd
    have notR := notFr flA.2.2.1 eA dA
    have notL : a ≠ X.env.locals := fun z => notR (List.mem_filterMap.mpr ⟨X.env, List.mem_cons_self, by rw [hf, z]⟩)
    have notF : a ∉ X.fs := fun hm => by
      obtain ⟨e, he, q⟩ :=
          List.mem_filterMap.mp hm
      exact notR (List.mem_filterMap.mpr ⟨e, List.mem_cons_of_mem _ he, q⟩)
    have SvA := Jv3.suite eA dA na notL notF
    refine wpAny_handleBy_cons (codeAny_handlers_test
        ?_) (by intro q; cases q)
    have LT : PySem.W.Looks (model X.prog X.w) hpA (typeOf (.ref a)) cls := fun A Q E s k q => wpAny_typeOf_ref (k _ _ eA) (by rw [zA.1]; exact q)
    have test : ∀ {x : Str} {c : Value} {np : Pos} {s1 : Shared} (hc : Names X x c) (I1 : Inv (X.suite a ((a, oA) :: (X.pn ++ pins))) [] σ' H' s1) {Q : Value → Shared → Prop} {E : Value → Shared → Prop}, Q c s1 → wpAny (model X.prog X.w) (X.A.mark (some (.ref a))) (eval (.Name x np) X.env) Q E s1 := by
      intro x c np s1 hc I1 Q E q
      obtain ⟨hg, hdbg, hm
          | ⟨hm, hv, hnn⟩⟩ := hc
      · exact ld_glob (X := X.suite a ((a, oA) :: (X.pn ++ pins))) I1 hg hm q hdbg
      · exact ld_blt (X := X.suite a ((a, oA) :: (X.pn ++ pins))) I1 hg hm hv q hnn hdbg
    refine wpAny_Tuple ?_
    refine wpAny_items_cons (test hc1 SvA ?_)
    refine wpAny_items_cons (test hc2 SvA ?_)
    refine wpAny_items_cons (test hc3 SvA ?_)
    refine wpAny_items_nil ⟨(by show 3 ≤ sizeLine; decide), ?_⟩
    have kp : ∀ q o, hpA.get? q = some o → (hpA.push { cls := .type "tuple", data := .seq [c1, c2, c3].toArray }).get? q = some o := fun _ _ z => Heap.get?_push_of_some _ z
    refine (PySem.W.exm_tup3 (Jv3.kIn.keeps kp) (LT.keeps kp) (Heap.get?_push_size hpA rfl) hb1).here ?_
    have flA := fly_keeps flA kp
    have upA := upA.trans (Heap.UpToSlots.of_keeps kp)
    refine codeAny_handlers_suite_as
        ?_
    refine HandSPX.lands_againZ flA fun hpB flB upB => ?_
    have Jv4 : Inv X pins σ' H' { s' with heap := hpB } := Jv.landed nbA flB.1 ((up.trans upA).trans upB) os ag
    obtain ⟨oB, vB, eB, zB, dB⟩ := flB.there
    have SvB := Jv4.suite eB dB na notL notF
    refine store_ok (X := X.suite a ((a, oB) :: (X.pn ++ pins))) (v := .ref a) SvB hN hi hloc rfl (fun s5 SvC => ?_) (.inr hln)
    refine wpAny_mono ((hsu a oB cls d (X.pn ++ pins) zB ⟨_, dB⟩).run [] s5 _ H' _ SvC (hyes a na)) (fun f s6 hsp => ?_) (fun _ _ z => False.elim z)
    have end_ : ∀ {σ6 : L2.St} {H6 : Hp} {Q : Shared → Prop}, Inv (X.suite a ((a, oB) :: (X.pn ++ pins))) [] σ6 H6 s6 → (∀ s7, Inv X pins (σ6.set i none) H6 s7 → Q s7) →
        wpAny (model X.prog X.w) X.A (do bindName X.env n .none; unbindBehindTheSuite X.env n pos') (fun _ s7 => Q s7) X.xe s6 := fun {σ6 H6 Q} SvD hq => gone_ok (SvD.unsuite okA) hN hi hln hq
    cases f with
    | next =>
      obtain ⟨σ6, H6, SvD, q6⟩ := hsp
      exact end_ SvD fun s7 J7 => ⟨_, _, J7, q6⟩
    | brk =>
      obtain ⟨σ6, H6, SvD, q6⟩ := hsp
      exact end_ SvD fun s7 J7 => ⟨_, _, J7, q6⟩
    | cont =>
      obtain ⟨σ6, H6, SvD, q6⟩ := hsp
      exact end_ SvD fun s7 J7 => ⟨_, _, J7, q6⟩
    | ret u =>
      obtain ⟨v6, σ6, H6, SvD, r6, q6⟩ := hsp
      exact end_ SvD fun s7 J7 => ⟨_, _, _, J7, r6, q6⟩
  · cases f with
    | next =>
      obtain ⟨σ', H', J', q⟩ := hsp
      exact wpAny_execs_nil ⟨σ', H', J'.ofTry okA, q⟩
    | brk =>
      obtain ⟨σ', H', J', q⟩ := hsp
      exact ⟨σ', H', J'.ofTry okA, q⟩
    | cont =>
      obtain ⟨σ', H', J', q⟩ := hsp
      exact ⟨σ', H', J'.ofTry okA, q⟩
    | ret u =>
      obtain ⟨v, σ', H',
          J', r, q⟩ := hsp
      exact ⟨v, σ', H', J'.ofTry okA, r, q⟩
end
end Tr3
/-! repr of data, and of an empty dict -/
namespace RpD
open PySem PySem.Spec
open PyProof.Rows L2
def ShD (K : PySem.W.Frag) (H : Hp) (v : V) (d : PyData) : Prop := (Dp K H v d ∧ Shows d) ∨ ∃ a, v = .ref a ∧ H a = some (.dK []) ∧ d = .dict []
section
variable {X : Cx}
theorem call_reprE (hg : X.A.guards = some []) (hu : X.A.units + 100 < cLine) : CallR X (.builtin "repr") (fun xs H Q => ∃ x d, xs = [x] ∧ ShD X.K H x d ∧ Q (.str d.shown) H) := by
  intro pins s σ H xs us Q Iv r h
  obtain ⟨x, d, rfl, hd, q⟩ := h
  rcases hd with ⟨hd, S⟩ | ⟨a, rfl, hd, rfl⟩
  · exact call_reprD hg hu pins s σ H [x] us Q Iv r ⟨x, d, rfl, hd, S, q⟩
  · cases r with
    | cons r rr =>
      cases rr
      cases r
      obtain ⟨hl, hs, vs, kv, o, es, ep, ho, hx, e1, _, e2, _⟩ := Iv.hok a _ hd
      cases kv
      have e3 : es.toList = [] := by
        cases h : es.toList with
        | nil => rfl
        | cons x r =>
          rw [h] at e2
          cases e2
      have rd : Reads s.heap (.ref a) (.dict []) (a :: [] ++ []) := .dict ho hx.1 e1 (by rw [e3]; exact .nil) (by rw [e3]; exact .nil)
      have ns : sysModules ∉ (a :: [] ++ []) := fun m => by
        have e : sysModules = a := by simpa using m
        rw [← e] at hs
        simp at hs
      exact repr_of_reads' rd rfl (fun _ => ns) hg (by show X.A.units + (PyData.depth (.dict []) + 1) < cLine; have : PyData.depth (.dict []) ≤ 5 := (by decide); omega) (fun _ _ e => e) (fun h' t tk kp => ⟨.str _, H, Iv.kept kp, ⟨t, rfl⟩, q⟩) (by rw [sizeLine_eq]; decide +kernel)
theorem ShD.same {K : PySem.W.Frag} {H H' : Hp} {v : V} {d : PyData} (dp : Dp K H v d → Dp K H' v d) (s : Same H H') (h : ShD K H v d) : ShD K H' v d := by
  rcases h with ⟨a, b⟩ | ⟨a, e, h, e2⟩
  · exact .inl ⟨dp a, b⟩
  · exact .inr ⟨a, e, s _ _ h, e2⟩
end
end RpD

namespace K1
open PySem PySem.Spec
open PyProof.Rows L2 EnT StX SmX TxS DuX XdI Tr3 CnB ClX
/-- isinstance(e, c) in a suite, whatever the class -/
def rIsX (K : PySem.W.Frag) (a : Addr) (cls : Value) (d : Option Addr) : List V → Hp → VK → Prop := fun xs H Q => ∃ D, cls = .ref D ∧ ExcC K D ∧ rIsD K D a d xs H Q
/-- the same of an exception without attributes -/
def rIsN (K : PySem.W.Frag) (a : Addr) (cls : Value) (d : Option Addr) : List V → Hp → VK → Prop := fun xs H Q => ∃ D, cls = .ref D ∧ ExcC K D ∧ d = none ∧ rIsE K D a xs H Q
theorem call_isN {X : Cx} {a : Addr} {d : Option Addr} {oe : Obj} {pn : List (Addr × Obj)} {cls : Value} (hz : Zc cls d oe) (hf : ∃ vs, oe.data = .fields vs) : CallR (X.suite a ((a, oe) :: pn)) (.builtin "isinstance") (rIsN X.K a cls d) := by
  intro pins s σ
      H xs us Q I r h
  obtain ⟨D, rfl, C, rfl, h⟩ := h
  exact call_isE C hz hf pins s σ H xs us Q I r h
theorem call_isX {X : Cx} {a : Addr} {d : Option Addr} {oe : Obj} {pn : List (Addr × Obj)} {cls : Value} (hz : Zc cls d oe) (hf : ∃ vs, oe.data = .fields vs) : CallR (X.suite a ((a, oe) :: pn)) (.builtin "isinstance") (rIsX X.K a cls d) := by
  intro pins s σ
      H xs us Q I r h
  obtain ⟨D, ec, C, h⟩ := h
  exact call_isD ec C hz hf pins s σ H xs us Q I r h
/-- what is asked of an error's class, its base the b-th one -/
structure ErrF (K : PySem.W.Frag) (S1 S2 S3 D : Addr) (b : Nat) : Prop where
  ec : ExcC K D
  k1 : PySem.W.kitOne K (.ref D) (.ref S1) = some (decide (b = 0))
  k2 : PySem.W.kitOne K (.ref D) (.ref S2) = some (decide (b = 1))
  k3 : PySem.W.kitOne K (.ref D) (.ref S3) = some (decide (b = 2))
  kV : PySem.W.kitOne K (.ref D) (.type "ValueError") = some (decide (b = 0))
  kL : PySem.W.kitOne K (.ref D) (.type "LookupError") = some (decide (b = 1))
  kA : PySem.W.kitOne K (.ref D) (.type "ArithmeticError") = some (decide (b = 2))
  kx : PySem.W.exmAny K (.ref D) [.ref S1, .ref S2, .ref S3] = some true
  xf : XfC K D
/-- repr(x), x told by SV -/
def rSV (SV : Hp → V → Str → Prop) : List V → Hp → VK → Prop := fun xs H Q => ∃ x txt, xs = [x] ∧ SV H x txt ∧ Q (.str txt) H
structure ErrK (K : PySem.W.Frag) (mg : Str → Option Value) (S1 S2 S3 C1 C2 C3 : Addr) : Prop where
  g1 : mg "SetError" = some (.ref S1)
  g2 : mg "StateError" = some (.ref S2)
  g3 : mg "LimitError" = some (.ref S3)
  gV : mg "ValueError" = none
  gL : mg "LookupError" = none
  gA : mg "ArithmeticError" = none
  m1 : mg "NotMembers" = some (.ref C1)
  e1 : ErrF K S1 S2 S3 C1 0
  i1 : PySem.W.findIn K (.ref C1) "value" = some none
  k1_1 : PySem.W.kitOne K (.ref C1) (.ref C1) = some true
  k1_2 : PySem.W.kitOne K (.ref C1) (.ref C2) = some false
  k1_3 : PySem.W.kitOne K (.ref C1) (.ref C3) = some false
  m2 : mg "NotAChange" = some (.ref C2)
  e2 : ErrF K S1 S2 S3 C2 0
  i2 : PySem.W.findIn K (.ref C2) "value" = some none
  k2_1 : PySem.W.kitOne K (.ref C2) (.ref C1) = some false
  k2_2 : PySem.W.kitOne K (.ref C2) (.ref C2) = some true
  k2_3 : PySem.W.kitOne K (.ref C2) (.ref C3) = some false
  m3 : mg "NotComparable" = some (.ref C3)
  e3 : ErrF K S1 S2 S3 C3 1
  k3_1 : PySem.W.kitOne K (.ref C3) (.ref C1) = some false
  k3_2 : PySem.W.kitOne K (.ref C3) (.ref C2) = some false
  k3_3 : PySem.W.kitOne K (.ref C3) (.ref C3) = some true
theorem same_free {H H' : Hp} {p : Addr} (s : Same H H') (n : H' p = none) : H p = none := by
  cases hh : H p with
  | none => rfl
  | some o =>
    rw [s _ _ hh] at n
    cases n
theorem grow_keep {H : Hp} {p : Addr} {xs ys : List V} : ∀ b o, b ≠ p → H b = some o → upd (upd H p (.lst xs)) p (.lst (xs ++ ys)) b = some o := fun b o n e => by
  rw [upd_ne n, upd_ne n]
  exact e
/-- ahead of the n-th truth are none -/
theorem first_at {bs : List Bool} {n m : Nat} {z : V} (h : ((bs.take n).all fun b => !b) = true) (hm : m < n) (hz : (bs.map V.bl)[m]? = some z) : eqV z (.bl true) = false := by
  rw [List.getElem?_map] at hz
  obtain ⟨b, hb, rfl⟩ := Option.map_eq_some_iff.mp hz
  have hb2 : b ∈ bs.take n := by
    obtain ⟨l, e⟩ := List.getElem?_eq_some_iff.mp hb
    exact List.mem_iff_getElem.mpr ⟨m, by rw [List.length_take]; omega, by rw [List.getElem_take]; exact e⟩
  have h2 := (List.all_eq_true.mp h) b hb2
  cases b with
  | true => cases h2
  | false => rfl
abbrev nmCaught : List Str := ["_law_ask", "_law_told", "e", "_law_sides", "_law_base", "_law_sorts", "_law_at"]
theorem scCaught : FnScope nmCaught ["_law_ask"] (defScope sCaught) := ⟨rfl, rfl, rfl, by decide +kernel, rfl, by decide +kernel, by decide +kernel⟩
/-- what is told of an error, its attributes at dd; SV tells a value's text -/
def Told (SV : Hp → V → Str → Prop) (C1 C2 C3 : Addr) (Q : VK) : XK := fun cls d H => (∃ (dd : Addr) (v : V) (txt nm : Str), d = some dd ∧ SV H v txt ∧ ((cls = .ref C1 ∧ nm = "NotMembers" ∧ H dd = some (.xd [("value", v)])) ∨ (cls = .ref C2 ∧ nm = "NotAChange" ∧ H dd = some (.xd [("value", v)]))) ∧
    ∀ (p : Addr) (H' : Hp), H p = none → Same H H' → H' p = some (.lst [.str nm, .str txt]) → Q (.ref p) H') ∨
  ∃ nm : Str, d = none ∧ ((cls = .ref C3 ∧ nm = "NotComparable")) ∧ ∀ (p : Addr) (H' : Hp), H p = none → Same H H' → H' p = some (.lst [.str nm]) → Q (.ref p) H'
/-- the reading of _law_caught(lambda: ..), where the lambda raises -/
def TTc (SV : Hp → V → Str → Prop) (C1 C2 C3 : Addr) : (XK → Hp → VK → Prop) → Hp → VK → Prop := fun tl H Q => ∀ Q', tl (Told SV C1 C2 C3 Q) H Q'
section
variable {X : Cx}
abbrev cxK (X : Cx) (g : Addr) (cdg : Value) (s : Shared) (H : Hp) : Cx := (cxOf C8.CX0 X.prog X.w X.K X.mg X.base nmCaught "_law_caught" (defScope sCaught) g cdg X.A X.stack s H C8.E0).nox
abbrev suiteOf : List Stmt := match defBody sCaught with
  | (.Try _ [.ExceptHandler _ _ su _] _ _ _) :: _ => su
  | _ => []
mutual
theorem dp_same {K : PySem.W.Frag} {H H' : Hp} (s : Same H H') : ∀ {v : V} {d : PyData}, Dp K H v d → Dp K H' v d
  | _, _, .non => .non
  | _, _, .bl b => .bl b
  | _, _, .int i => .int i
  | _, _, .str x => .str x
  | _, _, .lst h r => .lst (s.seq h) (dpAll_same s r)
  | _, _, .tup h r => .tup (sameT s h) (dpAll_same s r)
theorem dpAll_same {K : PySem.W.Frag} {H H' : Hp} (s : Same H H') : ∀ {vs : List V} {ds : List PyData}, DpAll K H vs ds → DpAll K H' vs ds
  | _, _, .nil => .nil
  | _, _, .cons h r => .cons (dp_same s h) (dpAll_same s r)
end
/-- the suite: an error that Told knows -/
def tCau (SV : Hp → V → Str → Prop) (C1 C2 C3 a : Addr) (cls : Value) (d : Option Addr) : TS := fun D σ H => (∃ σ' : L2.St, σ = σ'.set 2 (some (.ref a))) ∧ Told SV C1 C2 C3 D.rt cls d H
theorem suite_ok {g S1 S2 S3 C1 C2 C3 : Addr} {cdg : Value} {s : Shared} {H0 : Hp} (hgd : X.A.guards = some []) (hu : X.A.units + 300 < cLine) (T : Free X.mg) (EK : ErrK X.K X.mg S1 S2 S3 C1 C2 C3) {SV : Hp → V → Str → Prop} (hS : ∀ H H' v x, Same H H' → SV H v x → SV H' v x)
    {a : Addr} {oe : Obj} {cls : Value} {d : Option Addr} {pn : List (Addr × Obj)} (hz : Zc cls d oe) (hf : ∃ vs, oe.data = .fields vs) (hR : CallR ((cxK X g cdg s H0).suite a ((a, oe) :: pn)) (.builtin "repr") (rSV SV)) :
    PSs ((cxK X g cdg s H0).suite a ((a, oe) :: pn)) suiteOf (tCau SV C1 C2 C3 a cls d) := by
  refine ⟨fun pins s' σ H D I h => ?_⟩
  obtain ⟨⟨σ', eσ⟩, hT⟩ := h
  have hl : σ.length = 7 := I.len
  have hl' : σ'.length = 7 := by rw [eσ, List.length_set] at hl; exact hl
  obtain ⟨x0, x1, x2, x3, x4, x5, x6, e'⟩ : ∃ x0 x1 x2 x3 x4 x5 x6, σ' = [x0, x1, x2, x3, x4, x5, x6] := by
    match σ', hl' with
    | [x0, x1, x2, x3, x4, x5, x6], _ => exact ⟨x0, x1, x2, x3, x4, x5, x6, rfl⟩
  subst e'
  have eσ : σ = [x0, x1, some (.ref a), x3, x4, x5, x6] := eσ
  subst eσ
  obtain ⟨t, ht, hq⟩ : ∃ t, PSs ((cxK X g cdg s H0).suite a ((a, oe) :: pn)) suiteOf t ∧ t D [x0, x1, some (.ref a), x3, x4, x5, x6] H := by
    rcases hT with ⟨dd, v, txt, nm, rfl, hsd, (⟨rfl, rfl, hd⟩ | ⟨rfl, rfl, hd⟩), q⟩ | ⟨nm, rfl, (⟨rfl, rfl⟩), q⟩
    · have eC := EK.e1.ec
      have k1 : PySem.W.kitOne X.K (.ref C1) (.ref S1) = some true := EK.e1.k1
      have k2 : PySem.W.kitOne X.K (.ref C1) (.ref S2) = some false := EK.e1.k2
      have k3 : PySem.W.kitOne X.K (.ref C1) (.ref S3) = some false := EK.e1.k3
      have kV : PySem.W.kitOne X.K (.ref C1) (.type "ValueError") = some true := EK.e1.kV
      have kL : PySem.W.kitOne X.K (.ref C1) (.type "LookupError") = some false := EK.e1.kL
      have kA : PySem.W.kitOne X.K (.ref C1) (.type "ArithmeticError") = some false := EK.e1.kA
      refine ⟨_, pss_cons (ps_set (i := 3) scCaught.nd rfl (.inl rfl) (pe_lst (pa_cons (pe_callB (call_isX (X := cxK X g cdg s H0) (a := a) (pn := pn) hz hf) (by rfl) T.isinstance (by decide +kernel) (pa_cons (pv 2) (pa_cons (pe_glob (v := .ref S1) (by rfl) EK.g1 rfl) pa_nil))) (pa_cons (pe_callB (call_isX (X := cxK X g cdg s H0) (a := a) (pn := pn) hz hf) (by rfl) T.isinstance (by decide +kernel) (pa_cons (pv 2) (pa_cons (pe_glob (v := .ref S2) (by rfl) EK.g2 rfl) pa_nil))) (pa_cons (pe_callB (call_isX (X := cxK X g cdg s H0) (a := a) (pn := pn) hz hf) (by rfl) T.isinstance (by decide +kernel) (pa_cons (pv 2) (pa_cons (pe_glob (v := .ref S3) (by rfl) EK.g3 rfl) pa_nil))) pa_nil)))))
          (pss_cons (ps_set (i := 4) scCaught.nd rfl (.inl rfl) (pe_lst (pa_cons (pe_callB (call_isX (X := cxK X g cdg s H0) (a := a) (pn := pn) hz hf) (by rfl) T.isinstance (by decide +kernel) (pa_cons (pv 2) (pa_cons (pe_bltn (v := .ty "ValueError") (u := .type "ValueError") (by rfl) EK.gV (by decide +kernel) rfl) pa_nil))) (pa_cons (pe_callB (call_isX (X := cxK X g cdg s H0) (a := a) (pn := pn) hz hf) (by rfl) T.isinstance (by decide +kernel) (pa_cons (pv 2) (pa_cons (pe_bltn (v := .ty "LookupError") (u := .type "LookupError") (by rfl) EK.gL (by decide +kernel) rfl) pa_nil))) pa_nil))))
          (pss_cons (ps_expr (pe_bm PySem.F.plainAttrs_list PySem.F.slot_list_append PySem.F.type_list_append mt_append (pv 4) (pa_cons (pe_callB (call_isX (X := cxK X g cdg s H0) (a := a) (pn := pn) hz hf) (by rfl) T.isinstance (by decide +kernel) (pa_cons (pv 2) (pa_cons (pe_bltn (v := .ty "ArithmeticError") (u := .type "ArithmeticError") (by rfl) EK.gA (by decide +kernel) rfl) pa_nil))) pa_nil)))
          (pss_cons (ps_set (i := 5) scCaught.nd rfl (.inl rfl) (pe_lst (pa_cons (pe_callB (call_isX (X := cxK X g cdg s H0) (a := a) (pn := pn) hz hf) (by rfl) T.isinstance (by decide +kernel) (pa_cons (pv 2) (pa_cons (pe_glob (v := .ref C1) (by rfl) EK.m1 rfl) pa_nil))) pa_nil)))
          (pss_cons (ps_expr (pe_bm PySem.F.plainAttrs_list PySem.F.slot_list_append PySem.F.type_list_append mt_append (pv 5) (pa_cons (pe_callB (call_isX (X := cxK X g cdg s H0) (a := a) (pn := pn) hz hf) (by rfl) T.isinstance (by decide +kernel) (pa_cons (pv 2) (pa_cons (pe_glob (v := .ref C2) (by rfl) EK.m2 rfl) pa_nil))) pa_nil)))
          (pss_cons (ps_expr (pe_bm PySem.F.plainAttrs_list PySem.F.slot_list_append PySem.F.type_list_append mt_append (pv 5) (pa_cons (pe_callB (call_isX (X := cxK X g cdg s H0) (a := a) (pn := pn) hz hf) (by rfl) T.isinstance (by decide +kernel) (pa_cons (pv 2) (pa_cons (pe_glob (v := .ref C3) (by rfl) EK.m3 rfl) pa_nil))) pa_nil)))
          (pss_cons (ps_if (PW.pt (pw_or (pt_cmpR op_ne (pe_bm PySem.F.plainAttrs_list PySem.F.slot_list_count PySem.F.type_list_count mt_lcountB (pv 5) (pa_cons pe_bl pa_nil)) pe_int (nomark _)) (pw_or (pt_cmpR (op_neD (by show X.A.units + 3 + 64 < cLine; omega)) (pv 3) (pv 4) (nomark _)) (pw_or1 (pt_cmpR op_ne (pe_bm PySem.F.plainAttrs_list PySem.F.slot_list_count PySem.F.type_list_count mt_lcountB (pv 3) (pa_cons pe_bl pa_nil)) pe_int (nomark _)))))) (pss_one (ps_ret (pe_lst (pa_cons pe_str pa_nil)))) pss_nil)
          (pss_cons (ps_set (i := 6) scCaught.nd rfl (.inl rfl) (pe_bm PySem.F.plainAttrs_list PySem.F.slot_list_index PySem.F.type_list_index mt_index (pv 5) (pa_cons pe_bl pa_nil)))
          (pss_cons (ps_if (pt_cmpR op_ne (pe_bm PySem.F.plainAttrs_list PySem.F.slot_list_index PySem.F.type_list_index mt_index (pv 3) (pa_cons pe_bl pa_nil)) (pe_ix ix_list (pe_lst (pa_cons pe_int (pa_cons pe_int (pa_cons pe_int pa_nil)))) (pv 6) (fun _ _ => rfl)) (nomark _)) (pss_one (ps_ret (pe_lst (pa_cons pe_str pa_nil)))) pss_nil)
          (pss_cons (ps_if (pt_cmpR op_eq (pv 6) pe_int (nomark _)) (pss_one (ps_ret (pe_lst (pa_cons pe_str (pa_cons (pe_callB hR (by rfl) T.repr (by decide +kernel) (pa_cons (pe_xf EK.e1.xf EK.i1 hz hf (pv 2)) pa_nil)) pa_nil))))) pss_nil)
          (pss_cons (ps_if (pt_cmpR op_eq (pv 6) pe_int (nomark _)) (pss_one (ps_ret (pe_lst (pa_cons pe_str (pa_cons (pe_callB hR (by rfl) T.repr (by decide +kernel) (pa_cons (pe_xf EK.e2.xf EK.i2 hz hf (pv 2)) pa_nil)) pa_nil))))) pss_nil)
          (pss_one (ps_if (pt_cmpR op_eq (pv 6) pe_int (nomark _)) (pss_one (ps_ret (pe_lst (pa_cons pe_str pa_nil)))) pss_nil)))))))))))), ?_⟩
      refine ⟨_, rfl, C1, rfl, eC, _, _, _, dd, _, rfl, rfl, hd, (fun u h => h), k1, _, rfl, C1, rfl, eC, _, _, _, dd, _, rfl, rfl, hd, (fun u h => h), k2, _, rfl, C1, rfl, eC, _, _, _, dd, _, rfl, rfl, hd, (fun u h => h), k3, (by show 3 ≤ sizeLine; decide), fun p3 n3 => ?_⟩
      have s3 : Same H (upd H p3 (.lst [.bl true, .bl false, .bl false])) := same_upd n3
      generalize e3 : upd H p3 (.lst [.bl true, .bl false, .bl false]) = H3 at s3 ⊢
      have h3 : H3 p3 = some (.lst [.bl true, .bl false, .bl false]) := by rw [← e3]; exact upd_same
      clear e3
      have hd3 := s3 _ _ hd
      refine ⟨_, rfl, C1, rfl, eC, _, _, _, dd, _, rfl, rfl, hd3, (fun u h => h), kV, _, rfl, C1, rfl, eC, _, _, _, dd, _, rfl, rfl, hd3, (fun u h => h), kL, (by show 2 ≤ sizeLine; decide), fun p4 n4 => ?_⟩
      have hd4 : upd H3 p4 (.lst [.bl true, .bl false]) dd = some (.xd _) := same_upd n4 _ _ hd3
      refine ⟨_, rfl, .inl ⟨rfl, _, SqL.of upd_same⟩, _, rfl, C1, rfl, eC, _, _, _, dd, _, rfl, rfl, hd4, (fun u h => h), kA, p4, _, _, rfl, rfl, upd_same, (by show 2 < sizeLine; decide), ?_⟩
      have f4 : H p4 = none := same_free s3 n4
      have s4 := grow_keep (H := H3) (p := p4) (xs := [.bl true, .bl false]) (ys := [.bl false])
      generalize e4 : upd (upd H3 p4 (.lst [.bl true, .bl false])) p4 (.lst ([.bl true, .bl false] ++ [.bl false])) = H4 at s4 ⊢
      have h4 : H4 p4 = some (.lst [.bl true, .bl false, .bl false]) := by rw [← e4]; exact upd_same
      clear e4
      have t4 : Same H H4 := fun b o e => s4 b o (ne_of_none e f4) (s3 _ _ e)
      have h43 : H4 p3 = some (.lst [.bl true, .bl false, .bl false]) := s4 _ _ (ne_of_none h3 n4) h3
      have hd5 := t4 _ _ hd
      refine ⟨_, rfl, C1, rfl, eC, _, _, _, dd, _, rfl, rfl, hd5, (fun u h => h), EK.k1_1, (by show 1 ≤ sizeLine; decide), fun p5 n5 => ?_⟩
      have f5 : H p5 = none := same_free t4 n5
      have s5_0 : ∀ b o, b ≠ p5 → H4 b = some o → upd H4 p5 (.lst [.bl true]) b = some o := fun b o n e => by rw [upd_ne n]; exact e
      generalize e5 : upd H4 p5 (.lst [.bl true]) = H5_0 at s5_0 ⊢
      have h5_0 : H5_0 p5 = some (.lst [.bl true]) := by rw [← e5]; exact upd_same
      clear e5
      have hdx1 := s5_0 _ _ (ne_of_none hd5 n5) hd5
      refine ⟨_, rfl, .inl ⟨rfl, _, SqL.of h5_0⟩, _, rfl, C1, rfl, eC, _, _, _, dd, _, rfl, rfl, hdx1, (fun u h => h), EK.k1_2, p5, _, _, rfl, rfl, h5_0, (by show 1 < sizeLine; decide), ?_⟩
      have s5_1 : ∀ b o, b ≠ p5 → H4 b = some o → upd H5_0 p5 (.lst ([.bl true] ++ [.bl false])) b = some o := fun b o n e => by rw [upd_ne n]; exact s5_0 b o n e
      generalize e5 : upd H5_0 p5 (.lst ([.bl true] ++ [.bl false])) = H5_1 at s5_1 ⊢
      have h5_1 : H5_1 p5 = some (.lst [.bl true, .bl false]) := by rw [← e5]; exact upd_same
      clear e5
      have hdx2 := s5_1 _ _ (ne_of_none hd5 n5) hd5
      refine ⟨_, rfl, .inl ⟨rfl, _, SqL.of h5_1⟩, _, rfl, C1, rfl, eC, _, _, _, dd, _, rfl, rfl, hdx2, (fun u h => h), EK.k1_3, p5, _, _, rfl, rfl, h5_1, (by show 2 < sizeLine; decide), ?_⟩
      have s5_2 : ∀ b o, b ≠ p5 → H4 b = some o → upd H5_1 p5 (.lst ([.bl true, .bl false] ++ [.bl false])) b = some o := fun b o n e => by rw [upd_ne n]; exact s5_1 b o n e
      generalize e5 : upd H5_1 p5 (.lst ([.bl true, .bl false] ++ [.bl false])) = H5_2 at s5_2 ⊢
      have h5_2 : H5_2 p5 = some (.lst [.bl true, .bl false, .bl false]) := by rw [← e5]; exact upd_same
      clear e5
      have t5 : Same H H5_2 := fun b o e => s5_2 b o (ne_of_none e f5) (t4 _ _ e)
      have h53 : H5_2 p3 = some (.lst [.bl true, .bl false, .bl false]) := s5_2 _ _ (ne_of_none h43 n5) h43
      have h54 : H5_2 p4 = some (.lst [.bl true, .bl false, .bl false]) := s5_2 _ _ (ne_of_none h4 n5) h4
      have dp : ∀ {p : Addr}, H5_2 p = some (.lst [.bl true, .bl false, .bl false]) → Dp X.K H5_2 (.ref p) (.list [.bool true, .bool false, .bool false]) := fun e => .lst (SqL.of e) (.cons (.bl _) (.cons (.bl _) (.cons (.bl _) .nil)))
      refine ⟨_, rfl, .inl ⟨rfl, _, SqL.of h5_2⟩, p5, [true, false, false], rfl, rfl, SqL.of h5_2, rfl, _, rfl, ?_⟩
      refine iteF ?_
      refine ⟨_, rfl, _, rfl, _, _, dp h53, dp h54, by decide +kernel, by decide +kernel, _, rfl, ?_⟩
      refine iteF ?_
      refine ⟨_, rfl, .inl ⟨rfl, _, SqL.of h53⟩, p3, [true, false, false], rfl, rfl, SqL.of h53, rfl, _, rfl, ?_⟩
      refine iteF ?_
      refine ⟨_, rfl, .inl ⟨rfl, _, SqL.of h5_2⟩, p5, _, _, 0, .bl true, rfl, rfl, SqL.of h5_2, rfl, rfl, rfl, rfl, (fun m z hm => absurd hm (Nat.not_lt_zero m)), ?_⟩
      refine ⟨_, rfl, .inl ⟨rfl, _, SqL.of h53⟩, p3, _, _, 0, .bl true, rfl, rfl, SqL.of h53, rfl, rfl, rfl, rfl, (fun m z hm => absurd hm (Nat.not_lt_zero m)), (by show 3 ≤ sizeLine; decide), fun p7 n7 => ?_⟩
      have s7 : Same H5_2 (upd H5_2 p7 (.lst [.int 0, .int 0, .int 1])) := same_upd n7
      refine ⟨_, rfl, p7, _, _, .int 0, rfl, rfl, SqL.of upd_same, atI_nat (j := 0) rfl, rfl, _, rfl, ?_⟩
      generalize upd H5_2 p7 (.lst [.int 0, .int 0, .int 1]) = H7 at s7 ⊢
      have t7 : Same H H7 := t5.trans s7
      refine iteF ?_
      refine ⟨_, rfl, rfl, _, rfl, ?_⟩
      refine iteT ?_
      refine ⟨_, rfl, rfl, rfl, dd, _, v, rfl, t7 _ _ hd, rfl, v, txt, rfl, hS _ _ _ _ t7 hsd, (by show 2 ≤ sizeLine; decide), fun p n => ?_⟩
      exact q p _ (same_free t7 n) (t7.trans (same_upd n)) upd_same
    · have eC := EK.e2.ec
      have k1 : PySem.W.kitOne X.K (.ref C2) (.ref S1) = some true := EK.e2.k1
      have k2 : PySem.W.kitOne X.K (.ref C2) (.ref S2) = some false := EK.e2.k2
      have k3 : PySem.W.kitOne X.K (.ref C2) (.ref S3) = some false := EK.e2.k3
      have kV : PySem.W.kitOne X.K (.ref C2) (.type "ValueError") = some true := EK.e2.kV
      have kL : PySem.W.kitOne X.K (.ref C2) (.type "LookupError") = some false := EK.e2.kL
      have kA : PySem.W.kitOne X.K (.ref C2) (.type "ArithmeticError") = some false := EK.e2.kA
      refine ⟨_, pss_cons (ps_set (i := 3) scCaught.nd rfl (.inl rfl) (pe_lst (pa_cons (pe_callB (call_isX (X := cxK X g cdg s H0) (a := a) (pn := pn) hz hf) (by rfl) T.isinstance (by decide +kernel) (pa_cons (pv 2) (pa_cons (pe_glob (v := .ref S1) (by rfl) EK.g1 rfl) pa_nil))) (pa_cons (pe_callB (call_isX (X := cxK X g cdg s H0) (a := a) (pn := pn) hz hf) (by rfl) T.isinstance (by decide +kernel) (pa_cons (pv 2) (pa_cons (pe_glob (v := .ref S2) (by rfl) EK.g2 rfl) pa_nil))) (pa_cons (pe_callB (call_isX (X := cxK X g cdg s H0) (a := a) (pn := pn) hz hf) (by rfl) T.isinstance (by decide +kernel) (pa_cons (pv 2) (pa_cons (pe_glob (v := .ref S3) (by rfl) EK.g3 rfl) pa_nil))) pa_nil)))))
          (pss_cons (ps_set (i := 4) scCaught.nd rfl (.inl rfl) (pe_lst (pa_cons (pe_callB (call_isX (X := cxK X g cdg s H0) (a := a) (pn := pn) hz hf) (by rfl) T.isinstance (by decide +kernel) (pa_cons (pv 2) (pa_cons (pe_bltn (v := .ty "ValueError") (u := .type "ValueError") (by rfl) EK.gV (by decide +kernel) rfl) pa_nil))) (pa_cons (pe_callB (call_isX (X := cxK X g cdg s H0) (a := a) (pn := pn) hz hf) (by rfl) T.isinstance (by decide +kernel) (pa_cons (pv 2) (pa_cons (pe_bltn (v := .ty "LookupError") (u := .type "LookupError") (by rfl) EK.gL (by decide +kernel) rfl) pa_nil))) pa_nil))))
          (pss_cons (ps_expr (pe_bm PySem.F.plainAttrs_list PySem.F.slot_list_append PySem.F.type_list_append mt_append (pv 4) (pa_cons (pe_callB (call_isX (X := cxK X g cdg s H0) (a := a) (pn := pn) hz hf) (by rfl) T.isinstance (by decide +kernel) (pa_cons (pv 2) (pa_cons (pe_bltn (v := .ty "ArithmeticError") (u := .type "ArithmeticError") (by rfl) EK.gA (by decide +kernel) rfl) pa_nil))) pa_nil)))
          (pss_cons (ps_set (i := 5) scCaught.nd rfl (.inl rfl) (pe_lst (pa_cons (pe_callB (call_isX (X := cxK X g cdg s H0) (a := a) (pn := pn) hz hf) (by rfl) T.isinstance (by decide +kernel) (pa_cons (pv 2) (pa_cons (pe_glob (v := .ref C1) (by rfl) EK.m1 rfl) pa_nil))) pa_nil)))
          (pss_cons (ps_expr (pe_bm PySem.F.plainAttrs_list PySem.F.slot_list_append PySem.F.type_list_append mt_append (pv 5) (pa_cons (pe_callB (call_isX (X := cxK X g cdg s H0) (a := a) (pn := pn) hz hf) (by rfl) T.isinstance (by decide +kernel) (pa_cons (pv 2) (pa_cons (pe_glob (v := .ref C2) (by rfl) EK.m2 rfl) pa_nil))) pa_nil)))
          (pss_cons (ps_expr (pe_bm PySem.F.plainAttrs_list PySem.F.slot_list_append PySem.F.type_list_append mt_append (pv 5) (pa_cons (pe_callB (call_isX (X := cxK X g cdg s H0) (a := a) (pn := pn) hz hf) (by rfl) T.isinstance (by decide +kernel) (pa_cons (pv 2) (pa_cons (pe_glob (v := .ref C3) (by rfl) EK.m3 rfl) pa_nil))) pa_nil)))
          (pss_cons (ps_if (PW.pt (pw_or (pt_cmpR op_ne (pe_bm PySem.F.plainAttrs_list PySem.F.slot_list_count PySem.F.type_list_count mt_lcountB (pv 5) (pa_cons pe_bl pa_nil)) pe_int (nomark _)) (pw_or (pt_cmpR (op_neD (by show X.A.units + 3 + 64 < cLine; omega)) (pv 3) (pv 4) (nomark _)) (pw_or1 (pt_cmpR op_ne (pe_bm PySem.F.plainAttrs_list PySem.F.slot_list_count PySem.F.type_list_count mt_lcountB (pv 3) (pa_cons pe_bl pa_nil)) pe_int (nomark _)))))) (pss_one (ps_ret (pe_lst (pa_cons pe_str pa_nil)))) pss_nil)
          (pss_cons (ps_set (i := 6) scCaught.nd rfl (.inl rfl) (pe_bm PySem.F.plainAttrs_list PySem.F.slot_list_index PySem.F.type_list_index mt_index (pv 5) (pa_cons pe_bl pa_nil)))
          (pss_cons (ps_if (pt_cmpR op_ne (pe_bm PySem.F.plainAttrs_list PySem.F.slot_list_index PySem.F.type_list_index mt_index (pv 3) (pa_cons pe_bl pa_nil)) (pe_ix ix_list (pe_lst (pa_cons pe_int (pa_cons pe_int (pa_cons pe_int pa_nil)))) (pv 6) (fun _ _ => rfl)) (nomark _)) (pss_one (ps_ret (pe_lst (pa_cons pe_str pa_nil)))) pss_nil)
          (pss_cons (ps_if (pt_cmpR op_eq (pv 6) pe_int (nomark _)) (pss_one (ps_ret (pe_lst (pa_cons pe_str (pa_cons (pe_callB hR (by rfl) T.repr (by decide +kernel) (pa_cons (pe_xf EK.e1.xf EK.i1 hz hf (pv 2)) pa_nil)) pa_nil))))) pss_nil)
          (pss_cons (ps_if (pt_cmpR op_eq (pv 6) pe_int (nomark _)) (pss_one (ps_ret (pe_lst (pa_cons pe_str (pa_cons (pe_callB hR (by rfl) T.repr (by decide +kernel) (pa_cons (pe_xf EK.e2.xf EK.i2 hz hf (pv 2)) pa_nil)) pa_nil))))) pss_nil)
          (pss_one (ps_if (pt_cmpR op_eq (pv 6) pe_int (nomark _)) (pss_one (ps_ret (pe_lst (pa_cons pe_str pa_nil)))) pss_nil)))))))))))), ?_⟩
      refine ⟨_, rfl, C2, rfl, eC, _, _, _, dd, _, rfl, rfl, hd, (fun u h => h), k1, _, rfl, C2, rfl, eC, _, _, _, dd, _, rfl, rfl, hd, (fun u h => h), k2, _, rfl, C2, rfl, eC, _, _, _, dd, _, rfl, rfl, hd, (fun u h => h), k3, (by show 3 ≤ sizeLine; decide), fun p3 n3 => ?_⟩
      have s3 : Same H (upd H p3 (.lst [.bl true, .bl false, .bl false])) := same_upd n3
      generalize e3 : upd H p3 (.lst [.bl true, .bl false, .bl false]) = H3 at s3 ⊢
      have h3 : H3 p3 = some (.lst [.bl true, .bl false, .bl false]) := by rw [← e3]; exact upd_same
      clear e3
      have hd3 := s3 _ _ hd
      refine ⟨_, rfl, C2, rfl, eC, _, _, _, dd, _, rfl, rfl, hd3, (fun u h => h), kV, _, rfl, C2, rfl, eC, _, _, _, dd, _, rfl, rfl, hd3, (fun u h => h), kL, (by show 2 ≤ sizeLine; decide), fun p4 n4 => ?_⟩
      have hd4 : upd H3 p4 (.lst [.bl true, .bl false]) dd = some (.xd _) := same_upd n4 _ _ hd3
      refine ⟨_, rfl, .inl ⟨rfl, _, SqL.of upd_same⟩, _, rfl, C2, rfl, eC, _, _, _, dd, _, rfl, rfl, hd4, (fun u h => h), kA, p4, _, _, rfl, rfl, upd_same, (by show 2 < sizeLine; decide), ?_⟩
      have f4 : H p4 = none := same_free s3 n4
      have s4 := grow_keep (H := H3) (p := p4) (xs := [.bl true, .bl false]) (ys := [.bl false])
      generalize e4 : upd (upd H3 p4 (.lst [.bl true, .bl false])) p4 (.lst ([.bl true, .bl false] ++ [.bl false])) = H4 at s4 ⊢
      have h4 : H4 p4 = some (.lst [.bl true, .bl false, .bl false]) := by rw [← e4]; exact upd_same
      clear e4
      have t4 : Same H H4 := fun b o e => s4 b o (ne_of_none e f4) (s3 _ _ e)
      have h43 : H4 p3 = some (.lst [.bl true, .bl false, .bl false]) := s4 _ _ (ne_of_none h3 n4) h3
      have hd5 := t4 _ _ hd
      refine ⟨_, rfl, C2, rfl, eC, _, _, _, dd, _, rfl, rfl, hd5, (fun u h => h), EK.k2_1, (by show 1 ≤ sizeLine; decide), fun p5 n5 => ?_⟩
      have f5 : H p5 = none := same_free t4 n5
      have s5_0 : ∀ b o, b ≠ p5 → H4 b = some o → upd H4 p5 (.lst [.bl false]) b = some o := fun b o n e => by rw [upd_ne n]; exact e
      generalize e5 : upd H4 p5 (.lst [.bl false]) = H5_0 at s5_0 ⊢
      have h5_0 : H5_0 p5 = some (.lst [.bl false]) := by rw [← e5]; exact upd_same
      clear e5
      have hdx1 := s5_0 _ _ (ne_of_none hd5 n5) hd5
      refine ⟨_, rfl, .inl ⟨rfl, _, SqL.of h5_0⟩, _, rfl, C2, rfl, eC, _, _, _, dd, _, rfl, rfl, hdx1, (fun u h => h), EK.k2_2, p5, _, _, rfl, rfl, h5_0, (by show 1 < sizeLine; decide), ?_⟩
      have s5_1 : ∀ b o, b ≠ p5 → H4 b = some o → upd H5_0 p5 (.lst ([.bl false] ++ [.bl true])) b = some o := fun b o n e => by rw [upd_ne n]; exact s5_0 b o n e
      generalize e5 : upd H5_0 p5 (.lst ([.bl false] ++ [.bl true])) = H5_1 at s5_1 ⊢
      have h5_1 : H5_1 p5 = some (.lst [.bl false, .bl true]) := by rw [← e5]; exact upd_same
      clear e5
      have hdx2 := s5_1 _ _ (ne_of_none hd5 n5) hd5
      refine ⟨_, rfl, .inl ⟨rfl, _, SqL.of h5_1⟩, _, rfl, C2, rfl, eC, _, _, _, dd, _, rfl, rfl, hdx2, (fun u h => h), EK.k2_3, p5, _, _, rfl, rfl, h5_1, (by show 2 < sizeLine; decide), ?_⟩
      have s5_2 : ∀ b o, b ≠ p5 → H4 b = some o → upd H5_1 p5 (.lst ([.bl false, .bl true] ++ [.bl false])) b = some o := fun b o n e => by rw [upd_ne n]; exact s5_1 b o n e
      generalize e5 : upd H5_1 p5 (.lst ([.bl false, .bl true] ++ [.bl false])) = H5_2 at s5_2 ⊢
      have h5_2 : H5_2 p5 = some (.lst [.bl false, .bl true, .bl false]) := by rw [← e5]; exact upd_same
      clear e5
      have t5 : Same H H5_2 := fun b o e => s5_2 b o (ne_of_none e f5) (t4 _ _ e)
      have h53 : H5_2 p3 = some (.lst [.bl true, .bl false, .bl false]) := s5_2 _ _ (ne_of_none h43 n5) h43
      have h54 : H5_2 p4 = some (.lst [.bl true, .bl false, .bl false]) := s5_2 _ _ (ne_of_none h4 n5) h4
      have dp : ∀ {p : Addr}, H5_2 p = some (.lst [.bl true, .bl false, .bl false]) → Dp X.K H5_2 (.ref p) (.list [.bool true, .bool false, .bool false]) := fun e => .lst (SqL.of e) (.cons (.bl _) (.cons (.bl _) (.cons (.bl _) .nil)))
      refine ⟨_, rfl, .inl ⟨rfl, _, SqL.of h5_2⟩, p5, [false, true, false], rfl, rfl, SqL.of h5_2, rfl, _, rfl, ?_⟩
      refine iteF ?_
      refine ⟨_, rfl, _, rfl, _, _, dp h53, dp h54, by decide +kernel, by decide +kernel, _, rfl, ?_⟩
      refine iteF ?_
      refine ⟨_, rfl, .inl ⟨rfl, _, SqL.of h53⟩, p3, [true, false, false], rfl, rfl, SqL.of h53, rfl, _, rfl, ?_⟩
      refine iteF ?_
      refine ⟨_, rfl, .inl ⟨rfl, _, SqL.of h5_2⟩, p5, _, _, 1, .bl true, rfl, rfl, SqL.of h5_2, rfl, rfl, rfl, rfl, (fun m z hm hz => first_at (bs := [false, true, false]) (n := 1) (by decide) hm hz), ?_⟩
      refine ⟨_, rfl, .inl ⟨rfl, _, SqL.of h53⟩, p3, _, _, 0, .bl true, rfl, rfl, SqL.of h53, rfl, rfl, rfl, rfl, (fun m z hm => absurd hm (Nat.not_lt_zero m)), (by show 3 ≤ sizeLine; decide), fun p7 n7 => ?_⟩
      have s7 : Same H5_2 (upd H5_2 p7 (.lst [.int 0, .int 0, .int 1])) := same_upd n7
      refine ⟨_, rfl, p7, _, _, .int 0, rfl, rfl, SqL.of upd_same, atI_nat (j := 1) rfl, rfl, _, rfl, ?_⟩
      generalize upd H5_2 p7 (.lst [.int 0, .int 0, .int 1]) = H7 at s7 ⊢
      have t7 : Same H H7 := t5.trans s7
      refine iteF ?_
      refine ⟨_, rfl, rfl, _, rfl, ?_⟩
      refine iteF ?_
      refine ⟨_, rfl, rfl, _, rfl, ?_⟩
      refine iteT ?_
      refine ⟨_, rfl, rfl, rfl, dd, _, v, rfl, t7 _ _ hd, rfl, v, txt, rfl, hS _ _ _ _ t7 hsd, (by show 2 ≤ sizeLine; decide), fun p n => ?_⟩
      exact q p _ (same_free t7 n) (t7.trans (same_upd n)) upd_same
    · have eC := EK.e3.ec
      have k1 : PySem.W.kitOne X.K (.ref C3) (.ref S1) = some false := EK.e3.k1
      have k2 : PySem.W.kitOne X.K (.ref C3) (.ref S2) = some true := EK.e3.k2
      have k3 : PySem.W.kitOne X.K (.ref C3) (.ref S3) = some false := EK.e3.k3
      have kV : PySem.W.kitOne X.K (.ref C3) (.type "ValueError") = some false := EK.e3.kV
      have kL : PySem.W.kitOne X.K (.ref C3) (.type "LookupError") = some true := EK.e3.kL
      have kA : PySem.W.kitOne X.K (.ref C3) (.type "ArithmeticError") = some false := EK.e3.kA
      refine ⟨_, pss_cons (ps_set (i := 3) scCaught.nd rfl (.inl rfl) (pe_lst (pa_cons (pe_callB (call_isN (X := cxK X g cdg s H0) (a := a) (pn := pn) hz hf) (by rfl) T.isinstance (by decide +kernel) (pa_cons (pv 2) (pa_cons (pe_glob (v := .ref S1) (by rfl) EK.g1 rfl) pa_nil))) (pa_cons (pe_callB (call_isN (X := cxK X g cdg s H0) (a := a) (pn := pn) hz hf) (by rfl) T.isinstance (by decide +kernel) (pa_cons (pv 2) (pa_cons (pe_glob (v := .ref S2) (by rfl) EK.g2 rfl) pa_nil))) (pa_cons (pe_callB (call_isN (X := cxK X g cdg s H0) (a := a) (pn := pn) hz hf) (by rfl) T.isinstance (by decide +kernel) (pa_cons (pv 2) (pa_cons (pe_glob (v := .ref S3) (by rfl) EK.g3 rfl) pa_nil))) pa_nil)))))
          (pss_cons (ps_set (i := 4) scCaught.nd rfl (.inl rfl) (pe_lst (pa_cons (pe_callB (call_isN (X := cxK X g cdg s H0) (a := a) (pn := pn) hz hf) (by rfl) T.isinstance (by decide +kernel) (pa_cons (pv 2) (pa_cons (pe_bltn (v := .ty "ValueError") (u := .type "ValueError") (by rfl) EK.gV (by decide +kernel) rfl) pa_nil))) (pa_cons (pe_callB (call_isN (X := cxK X g cdg s H0) (a := a) (pn := pn) hz hf) (by rfl) T.isinstance (by decide +kernel) (pa_cons (pv 2) (pa_cons (pe_bltn (v := .ty "LookupError") (u := .type "LookupError") (by rfl) EK.gL (by decide +kernel) rfl) pa_nil))) pa_nil))))
          (pss_cons (ps_expr (pe_bm PySem.F.plainAttrs_list PySem.F.slot_list_append PySem.F.type_list_append mt_append (pv 4) (pa_cons (pe_callB (call_isN (X := cxK X g cdg s H0) (a := a) (pn := pn) hz hf) (by rfl) T.isinstance (by decide +kernel) (pa_cons (pv 2) (pa_cons (pe_bltn (v := .ty "ArithmeticError") (u := .type "ArithmeticError") (by rfl) EK.gA (by decide +kernel) rfl) pa_nil))) pa_nil)))
          (pss_cons (ps_set (i := 5) scCaught.nd rfl (.inl rfl) (pe_lst (pa_cons (pe_callB (call_isN (X := cxK X g cdg s H0) (a := a) (pn := pn) hz hf) (by rfl) T.isinstance (by decide +kernel) (pa_cons (pv 2) (pa_cons (pe_glob (v := .ref C1) (by rfl) EK.m1 rfl) pa_nil))) pa_nil)))
          (pss_cons (ps_expr (pe_bm PySem.F.plainAttrs_list PySem.F.slot_list_append PySem.F.type_list_append mt_append (pv 5) (pa_cons (pe_callB (call_isN (X := cxK X g cdg s H0) (a := a) (pn := pn) hz hf) (by rfl) T.isinstance (by decide +kernel) (pa_cons (pv 2) (pa_cons (pe_glob (v := .ref C2) (by rfl) EK.m2 rfl) pa_nil))) pa_nil)))
          (pss_cons (ps_expr (pe_bm PySem.F.plainAttrs_list PySem.F.slot_list_append PySem.F.type_list_append mt_append (pv 5) (pa_cons (pe_callB (call_isN (X := cxK X g cdg s H0) (a := a) (pn := pn) hz hf) (by rfl) T.isinstance (by decide +kernel) (pa_cons (pv 2) (pa_cons (pe_glob (v := .ref C3) (by rfl) EK.m3 rfl) pa_nil))) pa_nil)))
          (pss_cons (ps_if (PW.pt (pw_or (pt_cmpR op_ne (pe_bm PySem.F.plainAttrs_list PySem.F.slot_list_count PySem.F.type_list_count mt_lcountB (pv 5) (pa_cons pe_bl pa_nil)) pe_int (nomark _)) (pw_or (pt_cmpR (op_neD (by show X.A.units + 3 + 64 < cLine; omega)) (pv 3) (pv 4) (nomark _)) (pw_or1 (pt_cmpR op_ne (pe_bm PySem.F.plainAttrs_list PySem.F.slot_list_count PySem.F.type_list_count mt_lcountB (pv 3) (pa_cons pe_bl pa_nil)) pe_int (nomark _)))))) (pss_one (ps_ret (pe_lst (pa_cons pe_str pa_nil)))) pss_nil)
          (pss_cons (ps_set (i := 6) scCaught.nd rfl (.inl rfl) (pe_bm PySem.F.plainAttrs_list PySem.F.slot_list_index PySem.F.type_list_index mt_index (pv 5) (pa_cons pe_bl pa_nil)))
          (pss_cons (ps_if (pt_cmpR op_ne (pe_bm PySem.F.plainAttrs_list PySem.F.slot_list_index PySem.F.type_list_index mt_index (pv 3) (pa_cons pe_bl pa_nil)) (pe_ix ix_list (pe_lst (pa_cons pe_int (pa_cons pe_int (pa_cons pe_int pa_nil)))) (pv 6) (fun _ _ => rfl)) (nomark _)) (pss_one (ps_ret (pe_lst (pa_cons pe_str pa_nil)))) pss_nil)
          (pss_cons (ps_if (pt_cmpR op_eq (pv 6) pe_int (nomark _)) (pss_one (ps_ret (pe_lst (pa_cons pe_str (pa_cons (pe_callB hR (by rfl) T.repr (by decide +kernel) (pa_cons (pe_xf EK.e1.xf EK.i1 hz hf (pv 2)) pa_nil)) pa_nil))))) pss_nil)
          (pss_cons (ps_if (pt_cmpR op_eq (pv 6) pe_int (nomark _)) (pss_one (ps_ret (pe_lst (pa_cons pe_str (pa_cons (pe_callB hR (by rfl) T.repr (by decide +kernel) (pa_cons (pe_xf EK.e2.xf EK.i2 hz hf (pv 2)) pa_nil)) pa_nil))))) pss_nil)
          (pss_one (ps_if (pt_cmpR op_eq (pv 6) pe_int (nomark _)) (pss_one (ps_ret (pe_lst (pa_cons pe_str pa_nil)))) pss_nil)))))))))))), ?_⟩
      refine ⟨_, rfl, C3, rfl, eC, rfl, _, _, _, rfl, (fun u h => h), k1, _, rfl, C3, rfl, eC, rfl, _, _, _, rfl, (fun u h => h), k2, _, rfl, C3, rfl, eC, rfl, _, _, _, rfl, (fun u h => h), k3, (by show 3 ≤ sizeLine; decide), fun p3 n3 => ?_⟩
      have s3 : Same H (upd H p3 (.lst [.bl false, .bl true, .bl false])) := same_upd n3
      generalize e3 : upd H p3 (.lst [.bl false, .bl true, .bl false]) = H3 at s3 ⊢
      have h3 : H3 p3 = some (.lst [.bl false, .bl true, .bl false]) := by rw [← e3]; exact upd_same
      clear e3
      refine ⟨_, rfl, C3, rfl, eC, rfl, _, _, _, rfl, (fun u h => h), kV, _, rfl, C3, rfl, eC, rfl, _, _, _, rfl, (fun u h => h), kL, (by show 2 ≤ sizeLine; decide), fun p4 n4 => ?_⟩
      refine ⟨_, rfl, .inl ⟨rfl, _, SqL.of upd_same⟩, _, rfl, C3, rfl, eC, rfl, _, _, _, rfl, (fun u h => h), kA, p4, _, _, rfl, rfl, upd_same, (by show 2 < sizeLine; decide), ?_⟩
      have f4 : H p4 = none := same_free s3 n4
      have s4 := grow_keep (H := H3) (p := p4) (xs := [.bl false, .bl true]) (ys := [.bl false])
      generalize e4 : upd (upd H3 p4 (.lst [.bl false, .bl true])) p4 (.lst ([.bl false, .bl true] ++ [.bl false])) = H4 at s4 ⊢
      have h4 : H4 p4 = some (.lst [.bl false, .bl true, .bl false]) := by rw [← e4]; exact upd_same
      clear e4
      have t4 : Same H H4 := fun b o e => s4 b o (ne_of_none e f4) (s3 _ _ e)
      have h43 : H4 p3 = some (.lst [.bl false, .bl true, .bl false]) := s4 _ _ (ne_of_none h3 n4) h3
      refine ⟨_, rfl, C3, rfl, eC, rfl, _, _, _, rfl, (fun u h => h), EK.k3_1, (by show 1 ≤ sizeLine; decide), fun p5 n5 => ?_⟩
      have f5 : H p5 = none := same_free t4 n5
      have s5_0 : ∀ b o, b ≠ p5 → H4 b = some o → upd H4 p5 (.lst [.bl false]) b = some o := fun b o n e => by rw [upd_ne n]; exact e
      generalize e5 : upd H4 p5 (.lst [.bl false]) = H5_0 at s5_0 ⊢
      have h5_0 : H5_0 p5 = some (.lst [.bl false]) := by rw [← e5]; exact upd_same
      clear e5
      refine ⟨_, rfl, .inl ⟨rfl, _, SqL.of h5_0⟩, _, rfl, C3, rfl, eC, rfl, _, _, _, rfl, (fun u h => h), EK.k3_2, p5, _, _, rfl, rfl, h5_0, (by show 1 < sizeLine; decide), ?_⟩
      have s5_1 : ∀ b o, b ≠ p5 → H4 b = some o → upd H5_0 p5 (.lst ([.bl false] ++ [.bl false])) b = some o := fun b o n e => by rw [upd_ne n]; exact s5_0 b o n e
      generalize e5 : upd H5_0 p5 (.lst ([.bl false] ++ [.bl false])) = H5_1 at s5_1 ⊢
      have h5_1 : H5_1 p5 = some (.lst [.bl false, .bl false]) := by rw [← e5]; exact upd_same
      clear e5
      refine ⟨_, rfl, .inl ⟨rfl, _, SqL.of h5_1⟩, _, rfl, C3, rfl, eC, rfl, _, _, _, rfl, (fun u h => h), EK.k3_3, p5, _, _, rfl, rfl, h5_1, (by show 2 < sizeLine; decide), ?_⟩
      have s5_2 : ∀ b o, b ≠ p5 → H4 b = some o → upd H5_1 p5 (.lst ([.bl false, .bl false] ++ [.bl true])) b = some o := fun b o n e => by rw [upd_ne n]; exact s5_1 b o n e
      generalize e5 : upd H5_1 p5 (.lst ([.bl false, .bl false] ++ [.bl true])) = H5_2 at s5_2 ⊢
      have h5_2 : H5_2 p5 = some (.lst [.bl false, .bl false, .bl true]) := by rw [← e5]; exact upd_same
      clear e5
      have t5 : Same H H5_2 := fun b o e => s5_2 b o (ne_of_none e f5) (t4 _ _ e)
      have h53 : H5_2 p3 = some (.lst [.bl false, .bl true, .bl false]) := s5_2 _ _ (ne_of_none h43 n5) h43
      have h54 : H5_2 p4 = some (.lst [.bl false, .bl true, .bl false]) := s5_2 _ _ (ne_of_none h4 n5) h4
      have dp : ∀ {p : Addr}, H5_2 p = some (.lst [.bl false, .bl true, .bl false]) → Dp X.K H5_2 (.ref p) (.list [.bool false, .bool true, .bool false]) := fun e => .lst (SqL.of e) (.cons (.bl _) (.cons (.bl _) (.cons (.bl _) .nil)))
      refine ⟨_, rfl, .inl ⟨rfl, _, SqL.of h5_2⟩, p5, [false, false, true], rfl, rfl, SqL.of h5_2, rfl, _, rfl, ?_⟩
      refine iteF ?_
      refine ⟨_, rfl, _, rfl, _, _, dp h53, dp h54, by decide +kernel, by decide +kernel, _, rfl, ?_⟩
      refine iteF ?_
      refine ⟨_, rfl, .inl ⟨rfl, _, SqL.of h53⟩, p3, [false, true, false], rfl, rfl, SqL.of h53, rfl, _, rfl, ?_⟩
      refine iteF ?_
      refine ⟨_, rfl, .inl ⟨rfl, _, SqL.of h5_2⟩, p5, _, _, 2, .bl true, rfl, rfl, SqL.of h5_2, rfl, rfl, rfl, rfl, (fun m z hm hz => first_at (bs := [false, false, true]) (n := 2) (by decide) hm hz), ?_⟩
      refine ⟨_, rfl, .inl ⟨rfl, _, SqL.of h53⟩, p3, _, _, 1, .bl true, rfl, rfl, SqL.of h53, rfl, rfl, rfl, rfl, (fun m z hm hz => first_at (bs := [false, true, false]) (n := 1) (by decide) hm hz), (by show 3 ≤ sizeLine; decide), fun p7 n7 => ?_⟩
      have s7 : Same H5_2 (upd H5_2 p7 (.lst [.int 0, .int 0, .int 1])) := same_upd n7
      refine ⟨_, rfl, p7, _, _, .int 1, rfl, rfl, SqL.of upd_same, atI_nat (j := 2) rfl, rfl, _, rfl, ?_⟩
      generalize upd H5_2 p7 (.lst [.int 0, .int 0, .int 1]) = H7 at s7 ⊢
      have t7 : Same H H7 := t5.trans s7
      refine iteF ?_
      refine ⟨_, rfl, rfl, _, rfl, ?_⟩
      refine iteF ?_
      refine ⟨_, rfl, rfl, _, rfl, ?_⟩
      refine iteF ?_
      refine ⟨_, rfl, rfl, _, rfl, ?_⟩
      refine iteT ?_
      refine ⟨(by show 1 ≤ sizeLine; decide), fun p n => ?_⟩
      exact q p _ (same_free t7 n) (t7.trans (same_upd n)) upd_same
  exact ht.run pins s' _ H D I hq
theorem caught_gives {g S1 S2 S3 C1 C2 C3 : Addr} {cdg : Value} {q : Str} (hgd : X.A.guards = some []) (hu : X.A.units + 300 < cLine) (T : Free X.mg) (EK : ErrK X.K X.mg S1 S2 S3 C1 C2 C3) {SV : Hp → V → Str → Prop} (hS : ∀ H H' v x, Same H H' → SV H v x → SV H' v x)
    (hR : ∀ (s : Shared) (H : Hp) (a : Addr) (oe : Obj) (pn : List (Addr × Obj)), CallR ((cxK X g cdg s H).suite a ((a, oe) :: pn)) (.builtin "repr") (rSV SV)) :
    LamX.GivesTo X nmCaught "_law_caught" (defScope sCaught) g cdg (defBody sCaught) "_law_ask" q (TTc SV C1 C2 C3) := by
  intro f c' s H Q tl act hc h
  refine ⟨_, pss_cons (ps_try_as3 (X := cxK X g cdg s H) (i := 2) (c1 := .ref S1) (c2 := .ref S2) (c3 := .ref S3)
      (tb := fun W D σ H => ∃ Ech : XK, (∀ cls d σ' H', Ech cls d H' → W cls d σ' H') ∧ σ[0]? = some (some (.ref f)) ∧ H c' = some (LamX.CodeO c' q) ∧ ∀ Q', tl Ech H Q')
      (ts := fun a cls d => tCau SV C1 C2 C3 a cls d)
      rfl rfl scCaught.nd rfl rfl ⟨by rfl, by decide, .inl EK.g1⟩ ⟨by rfl, by decide, .inl EK.g2⟩ ⟨by rfl, by decide, .inl EK.g3⟩ (fun W pn xe tk _ => ⟨fun pins s' σ H' D I h' => ?_⟩)
      (fun a oe cls d pn hz hf => suite_ok hgd hu T EK hS hz hf (hR s H a oe pn)))
    (pss_one (ps_ret (pe_lst (pa_cons pe_str (pa_cons (pe_callB (RpD.call_reprD (by exact hgd) (by show X.A.units + 3 + 100 < cLine; omega)) (by rfl) T.repr (by decide +kernel) (pa_cons (pv 1) pa_nil)) pa_nil))))), ?_⟩
  · obtain ⟨Ech, hW, h1, h2, h3⟩ := id h'
    exact (pss_one (ps_set (i := 1) scCaught.nd rfl (.inl rfl) (act W pn xe Ech _ _ tk hW))).run pins s' σ H' D I ⟨h1, h2, h3 _⟩
  · refine ⟨Told SV C1 C2 C3 Q, fun cls d σ' H' told => ?_, rfl, hc, h⟩
    have told2 := told
    rcases told2 with ⟨dd, v, txt, nm, rfl, hsd, (⟨rfl, rfl, hd⟩ | ⟨rfl, rfl, hd⟩), q⟩ | ⟨nm, rfl, (⟨rfl, rfl⟩), q⟩
    · exact ⟨EK.e1.kx, fun a na => ⟨⟨_, rfl⟩, told⟩⟩
    · exact ⟨EK.e2.kx, fun a na => ⟨⟨_, rfl⟩, told⟩⟩
    · exact ⟨EK.e3.kx, fun a na => ⟨⟨_, rfl⟩, told⟩⟩
end
end K1
/-! own methods that raise nothing, called in an except suite -/
namespace DuX
open PySem PySem.Spec
open PyProof.Rows L2 L2H
/-- what a def promises while an exception is handled, its object p aside -/
def FnQ (P : Program) (w : World) (K : PySem.W.Frag) (mg : Str → Option Value) (base : Heap) (k : Nat) (f : Addr) (sp : Sp) : Prop :=
  ∀ (A : Around) (outer : List Env) (s : Shared) (H : Hp) (us : List Value) (vs : List V) (Q : VK) (p : Addr × Obj), RoomH k A → PinOk outer H s p → Env0 P w K mg base A outer s H → Vals vs us → sp vs H Q E0 →
    codeAny (model P w) A (.call (.ref f) ⟨us, []⟩) (CR CX0 outer P w H s Q E0) s
section
variable {P : Program} {w : World} {K : PySem.W.Frag} {mg : Str → Option Value} {base : Heap}
theorem fnQ_of {k : Nat} {f : Addr} {name qual : Str} {st : Stmt} {fd : FuncData} {N ps : List Str} {sp : Sp} (F : Fun K name qual st f fd) (S : FnScope N ps (defScope st)) (hb : L2.Binds K fd ps [])
    (len : ∀ vs H Q E, sp vs H Q E → vs.length = ps.length)
    (body : ∀ (cdv : Value) (A : Around) (outer : List Env) (s : Shared) (H : Hp) (vs : List V) (Q : VK) (p : Addr × Obj), RoomH k (A.deeper (envOfC qual (defScope st) s.heap.objs.size f cdv)) → sp vs H Q E0 →
      ∃ t, PSs (cxH CX0 P w K mg base N qual (defScope st) f cdv A outer s H E0 p) (defBody st) t ∧ t { nx := fun _ H' => Q .non H', rt := Q } (L2.start N vs) H) : FnQ P w K mg base (k + 1) f sp := by
  intro A outer s H us vs Q p hr hpin e0 r hsp
  obtain ⟨oc, od, kV, doc, pm, an, cdv, ct, osl, rfl, lk, hcd⟩ := F.ex
  have hl := len _ _ _ _ hsp
  have hlu : us.length = ps.length := by rw [← r.length]; exact hl
  have KX : K.In s.heap := e0.mod.kin.keeps fun b o e => (e0.bs b o e).1
  have lim : s.heap.NoLimit := e0.mod.nolimit.keeps fun b o e => (e0.bs b o e).1
  have bb := hb s us KX (by rw [List.append_nil]; exact hlu)
  rw [List.append_nil] at bb
  have kinds : ∀ y ∈ ps.zip us, (defScope st).names.lookup y.1 = some .local ∨ ((defScope st).names.lookup y.1 = some .cell ∧ ((cellsFrom (s.heap.objs.size + 1) (defScope st).names []).lookup y.1).isSome = true) := fun ⟨n, v⟩ hy => by
    rcases S.par n (List.of_mem_zip hy).1 with q | q
    · exact .inl q
    · exact .inr ⟨q, PySem.W.cellsFrom_some _ _ _
          (.inl q)⟩
  refine codeAny_call_function hr.depth (KX _ _ lk) rfl S.co S.gen rfl
      (PySem.W.codeRec_of KX hcd) (bb _ _ _ _ ?_)
  refine wpAny_newFunctionEnv_cells S.kind kinds fun env he s1 x => ?_
  subst he
  refine ⟨lim.keeps
      x.toInCall.keep, codeAny_func ?_⟩
  obtain ⟨t, ht, hq⟩ := body cdv A outer s H vs Q p (hr.deeper _) hsp
  have I := inv_startH (CX := CX0) (E := E0) S hpin e0 hl r x
  refine wpAny_mono (ht.run [] s1 (L2.start N vs) H _ I hq) (fun fl s2 hs => ?_)
      fun e s2 hs => hs
  have fin : ∀ {σ' : L2.St} {H' : Hp} {v : V} {u : Value}, Inv (cxH CX0 P w K mg base N qual (defScope st) f cdv A outer s H E0 p) [] σ' H' s2 → RelV v u → Q v H' → CE outer P w H s Q u s2 :=
    fun {σ' H' v u} J rv q => ⟨v, H', J.os, J.bare, J.base,
        J.hok, rv, q⟩
  cases fl with
  | ret u =>
    obtain ⟨v, σ', H',
        J, rv, q⟩ := hs
    exact fin J rv q
  | next =>
    obtain ⟨σ', H',
        J, q⟩ := hs
    exact fin (v := V.non)
        (u := Value.none) J rfl q
  | brk =>
    obtain ⟨_, _, _,
        q⟩ := hs
    exact q.elim
  | cont =>
    obtain ⟨_, _, _,
        q⟩ := hs
    exact q.elim
end
section
variable {X : Cx} {k : Nat} {g C : Addr} {sp : Sp} {pins : List (Addr × Obj)} {σ : L2.St} {H : Hp} {s : Shared} {p : Addr × Obj}
theorem run_belowQ {A : Around} {us : List Value} {vs : List V} {Q : VK} (F : FnQ X.prog X.w X.K X.mg X.base k g sp) (hr : RoomH k A) (hf : A.frames = X.A.frames) (hp : p ∈ X.pn) (Iv : Inv X pins σ H s) (r : Vals vs us) (hyp : sp vs H Q E0) :
    wpAny (model X.prog X.w) A (call (.ref g) us) (EP X pins σ Q) X.xe s := by
  have e0 : Env0 X.prog X.w X.K X.mg X.base A X.stack s H := by
    obtain ⟨a1, a2, a3, a4, a5, a6, a7, a8⟩ := Iv.env0
    exact ⟨by rw [hf]; exact a1, a2, a3, a4, a5, a6, a7, a8⟩
  have P1 := Iv.pin p (List.mem_append_left _ hp)
  have pin : PinOk X.stack H s p := ⟨P1.1, P1.2.1, fun hm => (List.mem_cons.mp (Iv.stkSub p.1 hm)).elim P1.2.2.1 P1.2.2.2.1,
      P1.2.2.2.2⟩
  refine wpAny_call (codeAny_mono (F A X.stack s H us vs Q p hr pin e0 r hyp) fun res s1 hq => ?_)
  match res, hq with
  | .error e, hq => exact hq.elim
  | .ok (.ret u), hq => exact Iv.after hq
  | .ok .next, hq => exact False.elim hq
  | .ok .brk, hq => exact False.elim hq
  | .ok .cont, hq => exact False.elim hq
theorem roomH_in1 {k : Nat} {A : Around} (r : RoomH (k + 1) A) : RoomH k A.in1 :=
  ⟨by have := r.dp; show A.depth + 3 * k + 5 < _; omega, by have := r.un; show A.units + 1 + 16 * k + 200 < _; omega⟩
/-- len(o) there -/
theorem call_lenQ (m : OwnM X.K C "__len__" g) (F : FnQ X.prog X.w X.K X.mg X.base k g sp) (hr : RoomH (k + 1) X.A) (hp : p ∈ X.pn) :
    CallR X (.builtin "len") (fun xs H Q => ∃ a dx fs, xs = [.ref a] ∧ H a = some (.ins C dx fs) ∧ sp [.ref a] H (fun v H' => ∃ n : Nat, v = .int n ∧ n < 2 ^ 62 ∧ Q (.int n) H') E0) := by
  intro pins s σ H xs us Q Iv r hyp
  obtain ⟨a, dx, fs, rfl, atA, cont⟩ := hyp
  rw [Vals.ref1 r]
  obtain ⟨ox, od, J⟩ := inst_of Iv atA
  obtain ⟨mm, hF⟩ := Iv.fr
  refine PySem.W.len_K hF Iv.ok.mod.kin J m.at_ m.fn ?_
  refine wpAny_mono (run_belowQ F (roomH_in1 hr) rfl hp Iv (vs := [V.ref a]) (.cons rfl .nil) cont) (fun u s1 hu => ?_) fun _ _ e => e
  obtain ⟨v, H1, Iv1, rv, n, rfl, hn, q1⟩ := hu
  obtain ⟨t, rfl⟩ := rv
  exact ⟨⟨by omega, by omega⟩, .int n, H1, Iv1.tok _, ⟨_, rfl⟩, q1⟩
/-- repr(o) there -/
theorem call_reprQ (m : OwnM X.K C "__repr__" g) (F : FnQ X.prog X.w X.K X.mg X.base k g sp) (hr : RoomH (k + 1) X.A) (hp : p ∈ X.pn) :
    CallR X (.builtin "repr") (fun xs H Q => ∃ a dx fs, xs = [.ref a] ∧ H a = some (.ins C dx fs) ∧ sp [.ref a] H (fun v H' => ∃ z, v = .str z ∧ Q (.str z) H') E0) := by
  intro pins s σ H xs us Q Iv r hyp
  obtain ⟨a, dx, fs, rfl, atA, cont⟩ := hyp
  rw [Vals.ref1 r]
  obtain ⟨ox, od, J⟩ := inst_of Iv atA
  obtain ⟨mm, hF⟩ := Iv.fr
  refine PySem.W.repr_K (by have := hr.un; show X.A.units + 1 < cLine; omega) hF Iv.ok.mod.kin J m.at_ m.fn ?_
  refine wpAny_mono (run_belowQ F (roomH_in1 hr) rfl hp Iv (vs := [V.ref a]) (.cons rfl .nil) cont) (fun u s1 hu => ?_) fun _ _ e => e
  obtain ⟨v, H1, Iv1, rv, z, rfl, q1⟩ := hu
  obtain ⟨t, rfl⟩ := rv
  exact ⟨.str z, H1, Iv1, ⟨t, rfl⟩, q1⟩
end
end DuX

namespace K1
open PySem PySem.Spec
open PyProof.Rows L2 L2H EnT StX SmX TxS DuX XdI Tr3 CnB ClX
def memText (zs : List Str) : Str := Str.empty ++ ("Members(" : Str) ++ (toString (zs.length : Int) : Str) ++ (")" : Str)
def chgText (cs gs : List Str) : Str := Str.empty ++ ("Change(+" : Str) ++ (toString (cs.length : Int) : Str) ++ (", -" : Str) ++ (toString (gs.length : Int) : Str) ++ (")" : Str)
/-- a value's text -/
inductive SV (K : PySem.W.Frag) (C D : Addr) (H : Hp) : V → Str → Prop where
  | dat {v : V} {d : PyData} (h : RpD.ShD K H v d) : SV K C D H v d.shown
  | mem {a : Addr} {zs : List Str} (m : MemAt C H a zs) : SV K C D H (.ref a) (memText zs)
  | chg {a : Addr} {cs gs : List Str} (m : ChgAt C D H a cs gs) (l1 : cs.length ≤ 900) (l2 : gs.length ≤ 900) : SV K C D H (.ref a) (chgText cs gs)
theorem SV.same {K : PySem.W.Frag} {C D : Addr} {H H' : Hp} {v : V} {x : Str} (s : Same H H') (h : SV K C D H v x) : SV K C D H' v x := by
  cases h with
  | dat h => exact .dat (h.same (dp_same s) s)
  | mem m => exact .mem (m.same s)
  | chg m l1 l2 => exact .chg (m.same s) l1 l2
/-- texts of Members and changes, also where an exception is handled -/
structure Rp (P : Program) (w : World) (K : PySem.W.Frag) (mg : Str → Option Value) (base : Heap) (C D : Addr) : Prop where
  mem : ∃ g, OwnM K C "__repr__" g ∧ FnR P w K mg base CX0 1 g (spReprM C) ∧ FnQ P w K mg base 1 g (spReprM C)
  chg : ∃ g, OwnM K D "__repr__" g ∧ FnR P w K mg base CX0 3 g (spReprC C D) ∧ FnQ P w K mg base 3 g (spReprC C D)
section
variable {w : World} {P : Program} {base : Heap} {mg : Str → Option Value} {K : PySem.W.Frag} {C D CN CM CA CC : Addr} {mc : Value}
theorem ok_lenQ {f : Addr} {fd : FuncData} (F : Fun K "__len__" "Members.__len__" sLenM f fd) (T : Free mg) (M : MemC K mg C) : FnQ P w K mg base 1 f (spLenM C) := by
  refine fnQ_of F scLenM (F.binds (ps := ["self"]) fun _ _ _ _ _ _ us hl => match us, hl with | [_], _ => rfl) (fun vs H Q E h => ?_) fun cdv A outer s H vs Q p hr h => ?_
  · obtain ⟨a, zs, rfl, _⟩ := h
    rfl
  · obtain ⟨a, zs, rfl, m, q⟩ := h
    obtain ⟨dx, t, d, h1, h2, h3⟩ := m.at_
    refine ⟨_, pss_one (ps_ret (pe_callB call_len_seq (by rfl) T.len PySem.boot_len (pa_cons (pe_fld (pv 0) rfl) pa_nil))), _, rfl, a, C, dx, _, _, rfl, h1, M.cl, M.nN, flds_names t d, t, zs.map V.str, rfl, .inr (SqT.of h2), ?_⟩
    rw [List.length_map]
    exact q
theorem ok_reprQ {f : Addr} {fd : FuncData} (F : Fun K "__repr__" "Members.__repr__" sReprM f fd) (T : Free mg) (M : MemC K mg C) : FnQ P w K mg base 1 f (spReprM C) := by
  refine fnQ_of F scReprM (F.binds (ps := ["self"]) fun _ _ _ _ _ _ us hl => match us, hl with | [_], _ => rfl) (fun vs H Q E h => ?_) fun cdv A outer s H vs Q p hr h => ?_
  · obtain ⟨a, zs, rfl, _⟩ := h
    rfl
  · obtain ⟨a, zs, rfl, m, q⟩ := h
    obtain ⟨dx, t, d, h1, h2, h3⟩ := m.at_
    have few := str_short m.few
    have e0 : (Str.empty ++ ("Members(" : Str)).length = 8 := by decide +kernel
    refine ⟨_, pss_one (ps_ret (pe_joined (.cons pe_str (.cons (pe_fmt (pe_callB call_len_seq (by rfl) T.len PySem.boot_len (pa_cons (pe_fld (pv 0) rfl) pa_nil))) (.cons pe_str .nil))))), ?_⟩
    have e8 : (8 : Nat) ≤ sizeLine := by rw [sizeLine_eq]; decide
    refine ⟨_, rfl, e0 ▸ e8, _, rfl, a, C, dx, _, _, rfl, h1, M.cl, M.nN, flds_names t d, t, zs.map V.str, rfl, .inr (SqT.of h2), .inr ⟨_, rfl, ?_, ?_⟩⟩
    · rw [List.length_map]
      have := m.few
      exact RpD.log_small (i := (zs.length : Nat)) (by omega)
    · rw [List.length_map]
      refine ⟨_, rfl, ?_, _, rfl, ?_, q⟩
      · rw [strLen_append, e0, sizeLine_eq]
        omega
      · rw [strLen_append, strLen_append, e0, sizeLine_eq]
        have : ((")" : Str)).length = 1 := by decide +kernel
        omega
theorem ok_reprCQ {f gL : Addr} {fd : FuncData} (F : Fun K "__repr__" "Change.__repr__" sReprC f fd) (T : Free mg) (G : ChgC K mg D) (mL : OwnM K C "__len__" gL) (FL : FnQ P w K mg base 1 gL (spLenM C)) : FnQ P w K mg base 3 f (spReprC C D) := by
  refine fnQ_of F scReprC (F.binds (ps := ["self"]) fun _ _ _ _ _ _ us hl => match us, hl with | [_], _ => rfl) (fun vs H Q E h => ?_) fun cdv A outer s H vs Q p hr h => ?_
  · obtain ⟨a, cs, gs, rfl, _⟩ := h
    rfl
  · obtain ⟨a, cs, gs, rfl, m, l1, l2, q⟩ := h
    obtain ⟨dx, x, y, h1, m1, m2⟩ := m.at_
    obtain ⟨dy, t, d, k1, _, _⟩ := m1.at_
    obtain ⟨dz, t', d', j1, _, _⟩ := m2.at_
    have f1 := str_shortC l1
    have f2 := str_shortC l2
    have e0 : (Str.empty ++ ("Change(+" : Str)).length = 8 := by decide +kernel
    have e1 : ((", -" : Str)).length = 3 := by decide +kernel
    have e2 : ((")" : Str)).length = 1 := by decide +kernel
    refine ⟨_, pss_one (ps_ret (pe_joined (.cons pe_str (.cons (pe_fmt (pe_callB (call_lenQ (p := p) mL FL hr (by exact List.mem_cons_self)) (by rfl) T.len PySem.boot_len (pa_cons (pe_fld (pv 0) rfl) pa_nil))) (.cons pe_str (.cons (pe_fmt (pe_callB (call_lenQ (p := p) mL FL hr (by exact List.mem_cons_self)) (by rfl) T.len PySem.boot_len (pa_cons (pe_fld (pv 0) rfl) pa_nil))) (.cons pe_str .nil))))))), ?_⟩
    refine ⟨_, rfl, by rw [e0, sizeLine_eq]; decide, _, rfl, a, D, dx, _, _, rfl, h1, G.cl, G.nC, cflds_came x y, x, dy, _, rfl, k1, x, cs, rfl, m1, cs.length, rfl, by omega, .inr ⟨_, rfl, RpD.log_small (i := (cs.length : Nat)) (by omega), ?_⟩⟩
    refine ⟨_, rfl, by rw [strLen_append, e0, sizeLine_eq]; omega, _, rfl, by rw [strLen_append, strLen_append, e0, e1, sizeLine_eq]; omega, _, rfl, a, D, dx, _, _, rfl, h1, G.cl, G.nW, cflds_went x y, y, dz, _, rfl, j1, y, gs, rfl, m2, gs.length, rfl, by omega, .inr ⟨_, rfl, RpD.log_small (i := (gs.length : Nat)) (by omega), ?_⟩⟩
    exact ⟨_, rfl, by rw [strLen_append, strLen_append, strLen_append, e0, e1, sizeLine_eq]; omega, _, rfl, by rw [strLen_append, strLen_append, strLen_append, strLen_append, e0, e1, e2, sizeLine_eq]; omega, q⟩
end
section
variable {X : Cx} {C D : Addr} {p : Addr × Obj}
theorem call_reprV (R : Rp X.prog X.w X.K X.mg X.base C D) (hg : X.A.guards = some []) (hr : Room 4 X.A) : CallR X (.builtin "repr") (rSV (SV X.K C D)) := by
  intro pins s σ H xs us Q Iv r h
  obtain ⟨x, txt, rfl, sv, q⟩ := h
  have hun := hr.un
  cases sv with
  | dat h => exact RpD.call_reprE hg (by omega) pins s σ H _ us Q Iv r ⟨x, _, rfl, h, q⟩
  | mem m =>
    obtain ⟨g, mg, F, _⟩ := R.mem
    obtain ⟨dx, t, d, h1, _, _⟩ := m.at_
    exact call_reprO mg F (hr.mono (by decide)) pass0 pins s σ H _ us Q Iv r ⟨_, dx, _, rfl, h1, _, _, rfl, m, _, rfl, q⟩
  | chg m l1 l2 =>
    obtain ⟨g, mg, F, _⟩ := R.chg
    obtain ⟨dx, a, b, h1, _, _⟩ := m.at_
    exact call_reprO mg F hr pass0 pins s σ H _ us Q Iv r ⟨_, dx, _, rfl, h1, _, _, _, rfl, m, l1, l2, _, rfl, q⟩
theorem call_reprH (R : Rp X.prog X.w X.K X.mg X.base C D) (hg : X.A.guards = some []) (hr : RoomH 4 X.A) (hp : p ∈ X.pn) : CallR X (.builtin "repr") (rSV (SV X.K C D)) := by
  intro pins s σ H xs us Q Iv r h
  obtain ⟨x, txt, rfl, sv, q⟩ := h
  have hun := hr.un
  cases sv with
  | dat h => exact RpD.call_reprE hg (by omega) pins s σ H _ us Q Iv r ⟨x, _, rfl, h, q⟩
  | mem m =>
    obtain ⟨g, mg, _, F⟩ := R.mem
    obtain ⟨dx, t, d, h1, _, _⟩ := m.at_
    exact call_reprQ mg F (hr.mono (by decide)) hp pins s σ H _ us Q Iv r ⟨_, dx, _, rfl, h1, _, _, rfl, m, _, rfl, q⟩
  | chg m l1 l2 =>
    obtain ⟨g, mg, _, F⟩ := R.chg
    obtain ⟨dx, a, b, h1, _, _⟩ := m.at_
    exact call_reprQ mg F hr hp pins s σ H _ us Q Iv r ⟨_, dx, _, rfl, h1, _, _, _, rfl, m, l1, l2, _, rfl, q⟩
end
end K1

namespace K1
open PySem PySem.Spec
open PyProof.Rows L2 EnT StX SmX TxS DuX XdI Tr3 CnB ClX
/-! ### from heap to heap, the pool and the tables aside -/
structure RX (p : Addr) (H H' : Hp) : Prop where
  pool : PoolAt H' p
  keep : ∀ b o, b ≠ p → H b = some o → (∀ ps, o ≠ .tbl ps) → H' b = some o
/-- a move: all but the pool and the tables stays, the tables are tables -/
structure Mv (p : Addr) (Tb : List (Addr × Str)) (H H' : Hp) : Prop where
  rx : RX p H H'
  tabs : LamX.Tabs Tb H'
theorem Mv.trans {p : Addr} {Tb : List (Addr × Str)} {H H1 H2 : Hp} (a : Mv p Tb H H1) (b : Mv p Tb H1 H2) : Mv p Tb H H2 := ⟨⟨b.rx.pool, fun c o n e t => b.rx.keep c o n (a.rx.keep c o n e t) t⟩, b.tabs⟩
theorem Mv.refl {p : Addr} {Tb : List (Addr × Str)} {H : Hp} (hp : PoolAt H p) (t : LamX.Tabs Tb H) : Mv p Tb H H := ⟨⟨hp, fun _ _ _ e _ => e⟩, t⟩
theorem PoolAt.same {p : Addr} {H H' : Hp} (s : Same H H') (h : PoolAt H p) : PoolAt H' p := by
  obtain ⟨a, b, c, e⟩ := h
  exact ⟨a, b, c, s _ _ e⟩
theorem Mv.same {p : Addr} {Tb : List (Addr × Str)} {H H' : Hp} (s : Same H H') (hp : PoolAt H p) (t : LamX.Tabs Tb H) : Mv p Tb H H' := ⟨⟨hp.same s, fun b o _ e _ => s b o e⟩, t.ext s⟩
theorem tabs_ext {p : Addr} {Tb : List (Addr × Str)} {H H' : Hp} (x : Ext p H H') (hp : PoolAt H p) (t : LamX.Tabs Tb H) : LamX.Tabs Tb H' := fun q hq => by
  obtain ⟨ps, h1, h2, h3⟩ := t q hq
  obtain ⟨a, b, c, e⟩ := hp
  refine ⟨ps, x.at (fun z => by rw [z, e] at h1; cases h1) h1, h2, fun pos cv hc => ?_⟩
  obtain ⟨d, e1, e2⟩ := h3 pos cv hc
  exact ⟨d, e1, x.at (fun z => by rw [z, e] at e2; unfold LamX.CodeO at e2; cases e2) e2⟩
theorem Mv.ext {p : Addr} {Tb : List (Addr × Str)} {H H' : Hp} (x : Ext p H H') (hp : PoolAt H p) (t : LamX.Tabs Tb H) : Mv p Tb H H' := ⟨⟨x.pool, fun b o n e _ => x.at n e⟩, tabs_ext x hp t⟩
theorem Mv.lam {p : Addr} {Tb : List (Addr × Str)} {H H' : Hp} (x : LamX.ExtN H H') (hp : PoolAt H p) (t : LamX.Tabs Tb H') : Mv p Tb H H' := by
  obtain ⟨a, b, c, e⟩ := hp
  exact ⟨⟨⟨a, b, c, x _ _ e (fun ps z => by cases z)⟩, fun d o _ h n => x d o h n⟩, t⟩
theorem Mv.at {p q : Addr} {Tb : List (Addr × Str)} {H H' : Hp} {o : HO} (m : Mv p Tb H H') (hp : PoolAt H p) (h : H q = some o) (n : ∀ x y z : Int, o ≠ .lst [.int x, .int y, .int z]) (nt : ∀ ps, o ≠ .tbl ps) : H' q = some o := by
  refine m.rx.keep q o (fun e => ?_) h nt
  obtain ⟨a, b, c, e2⟩ := hp
  rw [e, e2] at h
  exact n a b c (Option.some.inj h).symm
theorem strs_nopool {zs : List Str} : ∀ x y z : Int, (HO.lst (zs.map V.str)) ≠ .lst [.int x, .int y, .int z] := fun x y z e => by
  have q := HO.lst.inj e
  cases zs with
  | nil => cases q
  | cons a r => cases q
theorem Mv.strs {p q : Addr} {Tb : List (Addr × Str)} {H H' : Hp} {zs : List Str} (m : Mv p Tb H H') (hp : PoolAt H p) (h : H q = some (.lst (zs.map V.str))) : H' q = some (.lst (zs.map V.str)) := m.at hp h strs_nopool (fun _ e => by cases e)
theorem Mv.mem {C p q : Addr} {Tb : List (Addr × Str)} {H H' : Hp} {zs : List Str} (m : Mv p Tb H H') (hp : PoolAt H p) (h : MemAt C H q zs) : MemAt C H' q zs := by
  obtain ⟨⟨dx, t, d, h1, h2, h3⟩, a, b, c, e⟩ := h
  exact ⟨⟨dx, t, d, m.at hp h1 (fun _ _ _ e => by cases e) (fun _ e => by cases e), m.at hp h2 (fun _ _ _ e => by cases e) (fun _ e => by cases e), m.at hp h3 (fun _ _ _ e => by cases e) (fun _ e => by cases e)⟩, a, b, c, e⟩
theorem Mv.vok {p : Addr} {Tb : List (Addr × Str)} {H H' : Hp} {v : V} (m : Mv p Tb H H') (n : v ≠ .ref p) (h : VOk H v) : VOk H' v := by
  refine h.elim .inl fun g => .inr ?_
  have np : ∀ {a : Addr}, v = .ref a → a ≠ p := fun e z => n (by rw [e, z])
  cases g with
  | non => exact .non
  | bl b => exact .bl b
  | int i => exact .int i
  | lst e => exact .lst (m.rx.keep _ _ (np rfl) e (fun _ e => by cases e))
  | tup e => exact .tup (m.rx.keep _ _ (np rfl) e (fun _ e => by cases e))
  | dK e => exact .dK (m.rx.keep _ _ (np rfl) e (fun _ e => by cases e))
theorem refs_nopool {as : List Addr} : ∀ x y z : Int, (HO.lst (as.map V.ref)) ≠ .lst [.int x, .int y, .int z] := fun x y z e => by
  have q := HO.lst.inj e
  cases as with
  | nil => cases q
  | cons a r => cases q
theorem tabs_upd {Tb : List (Addr × Str)} {H : Hp} {t : Addr} {xs : List V} {o : HO} (h : H t = some (.lst xs)) (T : LamX.Tabs Tb H) : LamX.Tabs Tb (upd H t o) := fun q hq => by
  obtain ⟨ps, h1, h2, h3⟩ := T q hq
  refine ⟨ps, by rw [upd_ne (fun z => by rw [z, h] at h1; cases h1)]; exact h1, h2, fun pos cv hc => ?_⟩
  obtain ⟨d, e1, e2⟩ := h3 pos cv hc
  exact ⟨d, e1, by rw [upd_ne (fun z => by rw [z, h] at e2; unfold LamX.CodeO at e2; cases e2)]; exact e2⟩
/-- a promise where no text is being made around -/
def FnG (P : Program) (w : World) (K : PySem.W.Frag) (mg : Str → Option Value) (base : Heap) (CX : CXT) (k : Nat) (f : Addr) (sp : Sp) : Prop :=
  ∀ (A : Around) (outer : List Env) (s : Shared) (H : Hp) (us : List Value) (vs : List V) (Q : VK) (E : XK), A.guards = some [] → Room k A → Env0 P w K mg base A outer s H → Vals vs us → sp vs H Q E →
    codeAny (model P w) A (.call (.ref
        f) ⟨us, []⟩) (CR CX outer P w H s Q E) s
/-- the def of the law's right, its code object at c -/
structure FunC (K : PySem.W.Frag) (x qual : Str) (st : Stmt) (f c : Addr) : Prop where
  ex : ∃ (oc : Value) (od : Option Addr) (kV doc pm : Value) (an : Option Addr) (ct : Value) (osl : Array (Option Value)), K.lookup f = some ⟨oc, od, .func (PySem.W.fnOf x qual (defArgs st) (defBody st) (defScope st) .none kV doc pm an (.ref c) ct), osl⟩ ∧ PySem.W.codeIn K (.ref c) qual = true
section
variable {X : Cx} {k : Nat} {x : Str} {f : Addr} {sp : Sp}
/-- x(e, ..), where no text is being made around -/
theorem pe_callG {e : Expr} {es : List Expr} {t : TA} {p pos : Pos} (F : FnG X.prog X.w X.K X.mg X.base CX0 k f sp) (hgd : X.A.guards = some []) (hr : Room k X.A) (hg : Gl X x) (hm : X.mg x = some (.ref f)) (hk : PySem.W.keepIn X.K (.ref f) = true) (ha : PA X (e :: es) t)
    (hd : (x == ("__debug__" : Str)) = false := by decide) (hst : starEach (e :: es) X.env = (false, eval e X.env) :: starEach es X.env := by rfl) (hpl : (backTo pos (starEach es X.env)).any (·.1) = false := by rfl) :
    PE X (.Call (.Name x p) (e :: es) [] pos) (tCall sp [] E0 t) := by
  refine ⟨fun pins
      s σ H Q I h => ?_⟩
  refine wpAny_Call_Name_kw
      (ld_glob I hg hm ?_ hd)
  refine PySem.W.callWith_K (h₀ := X.base) I.ok.mod.kin hk (thn (ha.run pos pins s σ H _ I h) fun us s1 ⟨vs, H1, I1, rv, q⟩ => ⟨I1.kIn, ?_⟩) hst hpl
  have q : sp vs H1 Q E0 := by
    have q : sp (vs ++ []) H1 Q E0 := q
    rw [List.append_nil] at q
    exact q
  refine wpAny_call (codeAny_mono (F X.A X.stack s1 H1 us vs Q E0 hgd hr I1.env0 rv q) fun r s' hq => ?_)
  cases r with
  | error e => exact hq.elim
  | ok fl =>
    cases fl with
    | ret u => exact I1.after hq
    | next => exact False.elim hq
    | brk => exact False.elim hq
    | cont => exact False.elim hq
end
end K1

namespace K1
open PySem PySem.Spec
open PyProof.Rows L2 EnT StX SmX TxS DuX XdI Tr3 CnB ClX
theorem pss_of {X : Cx} {b : List Stmt} {T : TS} (h : ∀ D σ H, T D σ H → ∃ t, PSs X b t ∧ t D σ H) : PSs X b T := ⟨fun pins s σ H D I hyp => by
  obtain ⟨t, ht, hq⟩ := h D σ H hyp
  exact ht.run pins s σ H D I hq⟩
def rTupOf (K : PySem.W.Frag) : List V → Hp → VK → Prop := fun xs H Q => ∃ p ys, xs = [.ref p] ∧ ((SqL K H p ys ∧ ∀ l, H l = none → Q (.ref l) (upd H l (.tup ys))) ∨ (SqT K H p ys ∧ Q (.ref p) H))
theorem call_tupK {X : Cx} : CallR X (.type "tuple") (rTupOf X.K) := call_tuple_of
/-- rows of names -/
structure Row (p a : Addr) (N : List Str) (H : Hp) : Prop where
  pool : PoolAt H p
  ne : a ≠ p
  at_ : H a = some (.lst (N.map V.str))
  len : N.length ≤ 20
  nd : N.Nodup
  nm : ∀ z ∈ N, nameB z = true
theorem Row.ext {p a : Addr} {N : List Str} {H H' : Hp} (r : Row p a N H) (x : Ext p H H') : Row p a N H' := ⟨x.pool, r.ne, x.at r.ne r.at_, r.len, r.nd, r.nm⟩
theorem MemAt.ext {C p q : Addr} {zs : List Str} {H H' : Hp} (hp : PoolAt H p) (x : Ext p H H') (m : MemAt C H q zs) : MemAt C H' q zs := by
  obtain ⟨⟨dx, t, d, h1, h2, h3⟩, a, b, c, e⟩ := m
  obtain ⟨i, j, k, hp⟩ := hp
  exact ⟨⟨dx, t, d, x.at (fun e => by rw [e, hp] at h1; cases h1) h1, x.at (fun e => by rw [e, hp] at h2; cases h2) h2, x.at (fun e => by rw [e, hp] at h3; cases h3) h3⟩, a, b, c, e⟩
theorem ChgAt.ext {C D p q : Addr} {cs gs : List Str} {H H' : Hp} (hp : PoolAt H p) (x : Ext p H H') (m : ChgAt C D H q cs gs) : ChgAt C D H' q cs gs := by
  obtain ⟨⟨dx, a, b, h1, h2, h3⟩, e⟩ := m
  have hp' := hp
  obtain ⟨i, j, k, hp'⟩ := hp'
  exact ⟨⟨dx, a, b, x.at (fun e => by rw [e, hp'] at h1; cases h1) h1, h2.ext hp x, h3.ext hp x⟩, e⟩
def spDrawn (C : Addr) : Sp := fun vs H Q _ => ∃ (p a : Addr) (N : List Str), vs = [.ref p, .ref a] ∧ Row p a N H ∧ ∀ (q : Addr) (zs : List Str) (H' : Hp), Ext p H H' → MemAt C H' q zs → (∀ z ∈ zs, z ∈ N) → Q (.ref q) H'
abbrev nmDrawn : List Str := ["_law_pool_here", "_law_names_here", "_law_name"]
abbrev psDrawn : List Str := ["_law_pool_here", "_law_names_here"]
section
variable {w : World} {P : Program} {base : Heap} {mg : Str → Option Value} {K : PySem.W.Frag} {C D CN CM CA CC : Addr} {mc : Value}
theorem scDrawn : FnScope nmDrawn psDrawn (defScope s_L_drawn) := ⟨rfl, rfl, rfl, by decide +kernel, rfl, by decide +kernel, by decide +kernel⟩
theorem ok_drawn {f fD : Addr} {fd : FuncData} (F : Fun K "_law_drawn" "_law_drawn" s_L_drawn f fd) (B : Mb P w K mg base C CN CM mc) (hD : Has P w K mg base CX0 1 "_law_draw" fD ["_law_pool_here", "_law_many"] spDraw) :
    FnOk P w K mg base CX0 7 f fd psDrawn (spDrawn C) := by
  obtain ⟨pF, gF, mF, FF⟩ := B.fromT
  refine F.ok scDrawn (fun vs H Q E h => ?_) (fun cdv A outer s H vs Q E hr h => ?_)
  · obtain ⟨p, a, N, rfl, _⟩ := h
    rfl
  · obtain ⟨p, a, N, rfl, r, q⟩ := h
    refine ⟨_, pss_one (ps_ret (pe_smeth (pe_glob (v := .ref C) (by rfl) B.M.g rfl) B.cr mF FF hr passL (pa_cons (pe_callTy call_tuple_of (by rfl) B.T.tuple (by decide +kernel) (pa_cons (pe_lc (own := [("_law_name", 2)]) (g := gName 2) (tt := tTest (tOp rEq (tCall spDraw [] E0 (tCons (tVar 0) (tCons (tC (.int 2)) tNil))) (tC (.int 0)))) rfl scDrawn.nd (pi_list (pv 1))
        (blkOk_by (own := [("_law_name", 2)]) (N := nmDrawn) (sc := defScope s_L_drawn) (by decide +kernel)) (fun _ _ _ _ _ => pg_name (i := 2) scDrawn.nd rfl (Or.inl rfl))
        (fun _ _ _ _ _ => pts_one (pt_cmpR op_eq (pe_has (x := "_law_draw") (sp := spDraw) hD (hr.mono (by decide)) (by rfl) pass0 (pa_cons (pv 0) (pa_cons pe_int pa_nil))) pe_int (nomark _)))
        (fun _ _ _ _ _ => pv 2)) pa_nil)) pa_nil))), ?_⟩
    have ha := r.at_
    have hl := r.len
    refine ⟨rfl, _, rfl, a, rfl, ⟨_, SqL.of ha⟩, fun L nL => ?_⟩
    have Lp : L ≠ p := r.pool.ne nL
    refine lc_list (K := K) (a := a) (xs := N.map V.str) (fun i H' => PoolAt H' p ∧ (∀ b o, b ≠ p → H b = some o → H' b = some o) ∧ ∃ acc : List Str, H' L = some (.lst (acc.map V.str)) ∧ acc.Sublist (N.take i)) ?_ ?_ ?_ ?_
    · exact ⟨r.pool.same (same_upd nL), fun b o n e => same_upd nL b o e, [], upd_same, List.Sublist.refl _⟩
    · rintro i H' hi ⟨_, k, _⟩
      exact SqL.of (k _ _ r.ne ha)
    · rintro i x H' hx ⟨hp', k, acc, hD', sub⟩
      rw [List.getElem?_map] at hx
      obtain ⟨z, hz, rfl⟩ := Option.map_eq_some_iff.mp hx
      refine ⟨rfl, ?_⟩
      refine ⟨_, rfl, p, 2, rfl, hp', by decide, by decide, fun d H2 x2 d0 d1 => ?_⟩
      have hD2 : H2 L = some (.lst (acc.map V.str)) := x2.at Lp hD'
      have k2 : ∀ b o, b ≠ p → H b = some o → H2 b = some o := fun b o n e => x2.at n (k b o n e)
      refine ⟨rfl, _, rfl, ?_⟩
      have tk : N.take (i + 1) = N.take i ++ [z] := by rw [List.take_add_one, hz]; rfl
      refine ite2 (fun _ => ?_) (fun _ => ?_)
      · refine ⟨_, rfl, _, hD2, ?_, ?_⟩
        · have := sub.length_le
          rw [List.length_take] at this
          rw [List.length_map, sizeLine_eq]
          omega
        · refine ⟨?_, fun b o n e => ?_, acc ++ [z], by rw [upd_same, List.map_append]; rfl, by rw [tk]; exact sub.append (List.Sublist.refl _)⟩
          · obtain ⟨a1, a2, a3, e⟩ := x2.pool
            exact ⟨a1, a2, a3, by rw [upd_ne (Ne.symm Lp)]; exact e⟩
          · rw [upd_ne (ne_of_none e nL)]
            exact k2 b o n e
      · exact ⟨x2.pool, k2, acc, hD2, by rw [tk]; exact sub.trans (List.sublist_append_left _ _)⟩
    · rintro H' ⟨hp', k, acc, hD', sub⟩
      rw [List.length_map, List.take_length] at sub
      have ls := sub.length_le
      refine ⟨L, _, rfl, .inl ⟨SqL.of hD', fun t nt => ?_⟩⟩
      have s1 : Same H' (upd H' t (.tup (acc.map V.str))) := same_upd nt
      refine ⟨t, _, rfl, upd_same, mk_names (fun z hz => r.nm z (sub.subset hz)) (by omega) fun b ys H2 nb s2 mem MA => ?_⟩
      exact q b ys H2 ⟨(hp'.same s1).same s2, fun b o n e => s2 _ _ (s1 _ _ (k b o n e))⟩ MA fun z hz => sub.subset ((mem z).mp hz)
end
end K1

namespace K1
open PySem PySem.Spec
open PyProof.Rows L2 EnT StX SmX TxS DuX XdI Tr3 CnB ClX
theorem same_set {H H' : Hp} {d : Addr} {o : HO} (s : Same H H') (n : H d = none) : Same H (upd H' d o) := fun b x e => by
  rw [upd_ne (ne_of_none e n)]
  exact s _ _ e
theorem at0 {xs : List V} {i : Nat} {v : V} (h : xs[i]? = some v) : atI xs ((0 : Int) + (i : Nat)) = some v := by
  rw [Int.zero_add]
  exact atI_nat h
/-- what is picked of N: there the side is c -/
structure Pick (N : List Str) (sds : List Int) (c : Int) (i : Nat) (acc : List Str) : Prop where
  sub : acc.Sublist (N.take i)
  why : ∀ z ∈ acc, ∃ k : Nat, N[k]? = some z ∧ sds[k]? = some c
theorem Pick.nil {N : List Str} {sds : List Int} {c : Int} : Pick N sds c 0 [] := ⟨List.Sublist.refl _, fun z h => by cases h⟩
theorem Pick.yes {N : List Str} {sds : List Int} {c : Int} {i : Nat} {acc : List Str} {z : Str} (P : Pick N sds c i acc) (hz : N[i]? = some z) (hs : sds[i]? = some c) : Pick N sds c (i + 1) (acc ++ [z]) := by
  have tk : N.take (i + 1) = N.take i ++ [z] := by rw [List.take_add_one, hz]; rfl
  refine ⟨by rw [tk]; exact P.sub.append (List.Sublist.refl _), fun y hy => ?_⟩
  rcases List.mem_append.mp hy with h | h
  · exact P.why y h
  · rw [List.mem_singleton.mp h]
    exact ⟨i, hz, hs⟩
theorem Pick.no {N : List Str} {sds : List Int} {c : Int} {i : Nat} {acc : List Str} {z : Str} (P : Pick N sds c i acc) (hz : N[i]? = some z) : Pick N sds c (i + 1) acc := by
  have tk : N.take (i + 1) = N.take i ++ [z] := by rw [List.take_add_one, hz]; rfl
  exact ⟨by rw [tk]; exact P.sub.trans (List.sublist_append_left _ _), P.why⟩
theorem Pick.apart {N : List Str} {sds : List Int} {c d : Int} {i j : Nat} {a b : List Str} (nd : N.Nodup) (P : Pick N sds c i a) (Q : Pick N sds d j b) (n : c ≠ d) : Apart a b := fun z ha hb => by
  obtain ⟨k, h1, h2⟩ := P.why z ha
  obtain ⟨l, g1, g2⟩ := Q.why z hb
  obtain ⟨hk, e1⟩ := List.getElem?_eq_some_iff.mp h1
  obtain ⟨hl, e2⟩ := List.getElem?_eq_some_iff.mp g1
  have e : k = l := (List.getElem_inj nd).mp (e1.trans e2.symm)
  subst e
  rw [h2] at g2
  exact n (Option.some.inj g2)
theorem lc_tupS {K : PySem.W.Frag} {a : Addr} {zs : List Str} {g : TG} {tt : TT} {te : TE} {vs : List Nat} {σ : L2.St} {H : Hp} {D : Addr} {Qd : Hp → Prop} (ha : H a = some (.tup (zs.map V.str))) (hl : zs.length ≤ 1000) (nD : H D = none)
    (hs : ∀ z H', g (.str z) (wipe σ vs) H' fun σ2 H2 => wipe σ2 vs = wipe σ vs ∧ tt σ2 H2 fun b H3 => b = true ∧ H3 = H' ∧ ∀ Q : VK, Q (.str z) H3 → te σ2 H3 Q)
    (hg : ∀ z H' (R R' : L2.St → Hp → Prop), (∀ s h, R s h → R' s h) → g (.str z) (wipe σ vs) H' R → g (.str z) (wipe σ vs) H' R')
    (ht : ∀ s h (R R' : Bool → Hp → Prop), (∀ b h', R b h' → R' b h') → tt s h R → tt s h R')
    (hd : ∀ H', Same H H' → H' D = some (.lst (zs.map V.str)) → Qd H') :
    ∃ W : Nat → Nat → Hp → Prop, (∃ m, W 0 m (upd H D (.lst []))) ∧ ∀ i m H, W i m H →
      ((Itt K a).stop i H ∧ Qd H) ∨ ((Itt K a).go i H ∧ ∃ Nx : Hp → Prop, (∀ H', Nx H' → ∃ m', m' < m ∧ W (i + 1) m' H') ∧ ∀ x H', (Itt K a).yld i H x H' → g x (wipe σ vs) H' fun σ2 H2 => wipe σ2 vs = wipe σ vs ∧ tt σ2 H2 fun b H3 =>
        if b = true then te σ2 H3 fun y H4 => ∃ acc, H4 D = some (.lst acc) ∧ acc.length < sizeLine ∧ Nx (upd H4 D (.lst (acc ++ [y]))) else Nx H3) := by
  refine lc_tup (K := K) (a := a) (xs := zs.map V.str) (fun i H' => H' = upd H D (.lst ((zs.take i).map V.str))) rfl (fun i H' hi e => ?_) (fun i x H' hx e => ?_) (fun H' e => ?_)
  · subst e
    exact SqT.of (same_upd nD _ _ ha)
  · subst e
    rw [List.getElem?_map] at hx
    obtain ⟨z, hz, rfl⟩ := Option.map_eq_some_iff.mp hx
    refine hg z _ _ _ (fun s h r => ⟨r.1, ht _ _ _ _ (fun b h' q => ?_) r.2⟩) (hs z _)
    obtain ⟨rfl, rfl, q⟩ := q
    rw [if_pos rfl]
    refine q _ ⟨_, upd_same, by rw [List.length_map, List.length_take, sizeLine_eq]; omega, ?_⟩
    rw [upd_upd, List.take_add_one, hz, List.map_append]
    rfl
  · subst e
    rw [List.length_map, List.take_length]
    exact hd _ (same_upd nD) upd_same
def spApart (C D : Addr) : Sp := fun vs H Q _ => ∃ (p a : Addr) (N : List Str), vs = [.ref p, .ref a] ∧ Row p a N H ∧ ∀ (q ch l1 l2 : Addr) (cs gs : List Str) (H' : Hp), Ext p H H' → H q = none → H' q = some (.lst [.ref ch, .ref l1, .ref l2]) → ChgAt C D H' ch cs gs →
  H' l1 = some (.lst (cs.map V.str)) → H' l2 = some (.lst (gs.map V.str)) → l1 ≠ p → l2 ≠ p → (∀ z ∈ cs, z ∈ N) → (∀ z ∈ gs, z ∈ N) → Q (.ref q) H'
abbrev nmAp : List Str := ["_law_pool_here", "_law_names_here", "_law_sides", "_law_comers", "_law_goers", "_law_name", "_law_k"]
section
variable {w : World} {P : Program} {base : Heap} {mg : Str → Option Value} {K : PySem.W.Frag} {C D CN CM CA CC : Addr} {mc : Value}
theorem scAp : FnScope nmAp psDrawn (defScope s_L_apart) := ⟨rfl, rfl, rfl, by decide +kernel, rfl, by decide +kernel, by decide +kernel⟩
theorem ok_apart {f fD : Addr} {fd : FuncData} (F : Fun K "_law_apart" "_law_apart" s_L_apart f fd) (B : Cg P w K mg base C D CN CM CA CC mc) (R : Cp P w K mg base C D CM CC) (hD : Has P w K mg base CX0 1 "_law_draw" fD ["_law_pool_here", "_law_many"] spDraw) :
    FnOk P w K mg base CX0 10 f fd psDrawn (spApart C D) := by
  obtain ⟨fI, fdI, MK, FY, _⟩ := R.mak
  obtain ⟨pF, gF, mF, FF⟩ := B.b.fromT
  have T := B.b.T
  refine F.ok scAp (fun vs H Q E h => ?_) (fun cdv A outer s H vs Q E hr h => ?_)
  · obtain ⟨p, a, N, rfl, _⟩ := h
    rfl
  · obtain ⟨p, a, N, rfl, r, q⟩ := h
    refine ⟨_, pss_cons (ps_set (i := 2) scAp.nd rfl (.inr rfl) (pe_lc (own := [("_law_name", 5)]) (g := gName 5) (tt := tYes) (te := tCall spDraw [] E0 (tCons (tVar 0) (tCons (tC (.int 3)) tNil))) rfl scAp.nd (pi_list (pv 1))
        (blkOk_by (own := [("_law_name", 5)]) (N := nmAp) (sc := defScope s_L_apart) (by decide +kernel)) (fun _ _ _ _ _ => pg_name (i := 5) scAp.nd rfl (Or.inl rfl)) (fun _ _ _ _ _ => pts_nil)
        (fun _ _ _ _ _ => pe_has (x := "_law_draw") (sp := spDraw) hD (hr.mono (by decide)) (by rfl) pass0 (pa_cons (pv 0) (pa_cons pe_int pa_nil)))))
      (pss_cons (ps_set (i := 3) scAp.nd rfl (.inl rfl) (pe_callTy call_tuple_of (by rfl) T.tuple (by decide +kernel) (pa_cons (pe_lc (own := [("_law_k", 6)]) (g := gName 6) (tt := tTest (tOp rEq (tOp (rIxL K) (tVar 2) (tVar 6)) (tC (.int 1)))) (te := tOp (rIxL K) (tVar 1) (tVar 6)) rfl scAp.nd
          (pi_range1 rfl T.range (pa_cons (pe_callB call_len_seq (by rfl) T.len PySem.boot_len (pa_cons (pv 1) pa_nil)) pa_nil))
          (blkOk_by (own := [("_law_k", 6)]) (N := nmAp) (sc := defScope s_L_apart) (by decide +kernel)) (fun _ _ _ _ _ => pg_name (i := 6) scAp.nd rfl (Or.inl rfl))
          (fun _ _ _ _ _ => pts_one (pt_cmpR op_eq (pe_ix ix_list (pv 2) (pv 6) (fun _ _ => rfl)) pe_int (nomark _))) (fun _ _ _ _ _ => pe_ix ix_list (pv 1) (pv 6) (fun _ _ => rfl))) pa_nil)))
      (pss_cons (ps_set (i := 4) scAp.nd rfl (.inl rfl) (pe_callTy call_tuple_of (by rfl) T.tuple (by decide +kernel) (pa_cons (pe_lc (own := [("_law_k", 6)]) (g := gName 6) (tt := tTest (tOp rEq (tOp (rIxL K) (tVar 2) (tVar 6)) (tC (.int 2)))) (te := tOp (rIxL K) (tVar 1) (tVar 6)) rfl scAp.nd
          (pi_range1 rfl T.range (pa_cons (pe_callB call_len_seq (by rfl) T.len PySem.boot_len (pa_cons (pv 1) pa_nil)) pa_nil))
          (blkOk_by (own := [("_law_k", 6)]) (N := nmAp) (sc := defScope s_L_apart) (by decide +kernel)) (fun _ _ _ _ _ => pg_name (i := 6) scAp.nd rfl (Or.inl rfl))
          (fun _ _ _ _ _ => pts_one (pt_cmpR op_eq (pe_ix ix_list (pv 2) (pv 6) (fun _ _ => rfl)) pe_int (nomark _))) (fun _ _ _ _ _ => pe_ix ix_list (pv 1) (pv 6) (fun _ _ => rfl))) pa_nil)))
      (pss_cons (ps_set (i := 2) scAp.nd rfl (.inr rfl) (pe_lst (pa_cons (pe_callB cr_sortedS (by rfl) T.sorted (by decide +kernel) (pa_cons (pe_lc (own := [("_law_name", 5)]) (g := gName 5) (tt := tYes) rfl scAp.nd (pi_tup (pv 3))
          (blkOk_by (own := [("_law_name", 5)]) (N := nmAp) (sc := defScope s_L_apart) (by decide +kernel)) (fun _ _ _ _ _ => pg_name (i := 5) scAp.nd rfl (Or.inl rfl)) (fun _ _ _ _ _ => pts_nil)
          (fun _ _ _ _ _ => pe_callTy SkE.call_str_str (by rfl) T.str (by decide +kernel) (pa_cons (pv 5) pa_nil))) pa_nil))
        (pa_cons (pe_callB cr_sortedS (by rfl) T.sorted (by decide +kernel) (pa_cons (pe_lc (own := [("_law_name", 5)]) (g := gName 5) (tt := tYes) rfl scAp.nd (pi_tup (pv 4))
          (blkOk_by (own := [("_law_name", 5)]) (N := nmAp) (sc := defScope s_L_apart) (by decide +kernel)) (fun _ _ _ _ _ => pg_name (i := 5) scAp.nd rfl (Or.inl rfl)) (fun _ _ _ _ _ => pts_nil)
          (fun _ _ _ _ _ => pe_callTy SkE.call_str_str (by rfl) T.str (by decide +kernel) (pa_cons (pv 5) pa_nil))) pa_nil)) pa_nil))))
      (pss_one (ps_ret (pe_lst (pa_cons (pe_makeR MK FY hr (by rfl) B.G.g passL (pa_cons (pe_smeth (pe_glob (v := .ref C) (by rfl) B.b.M.g rfl) B.b.cr mF FF (hr.mono (by decide)) passL (pa_cons (pv 3) pa_nil)) (pa_cons (pe_smeth (pe_glob (v := .ref C) (by rfl) B.b.M.g rfl) B.b.cr mF FF (hr.mono (by decide)) passL (pa_cons (pv 4) pa_nil)) pa_nil)))
        (pa_cons (pe_ix ix_list (pv 2) pe_int (fun _ _ => rfl)) (pa_cons (pe_ix ix_list (pv 2) pe_int (fun _ _ => rfl)) pa_nil))))))))), ?_⟩
    have ha := r.at_
    have hl := r.len
    -- sides
    refine ⟨_, rfl, a, rfl, ⟨_, SqL.of ha⟩, fun L nL => ?_⟩
    have Lp : L ≠ p := r.pool.ne nL
    refine lc_list (K := K) (a := a) (xs := N.map V.str) (fun i H' => PoolAt H' p ∧ (∀ b o, b ≠ p → H b = some o → H' b = some o) ∧ ∃ sds : List Int, H' L = some (.lst (sds.map V.int)) ∧ sds.length = i) ?_ ?_ ?_ ?_
    · exact ⟨r.pool.same (same_upd nL), fun b o n e => same_upd nL b o e, [], upd_same, rfl⟩
    · rintro i H' hi ⟨_, k, _⟩
      exact SqL.of (k _ _ r.ne ha)
    · rintro i x H' hx ⟨hp', k, sds, hD', ls⟩
      have hi : i < (N.map V.str).length := (List.getElem?_eq_some_iff.mp hx).1
      rw [List.length_map] at hi
      refine ⟨rfl, ?_⟩
      refine ⟨_, rfl, p, 3, rfl, hp', by decide, by decide, fun d H2 x2 d0 d1 => ?_⟩
      have hD2 : H2 L = some (.lst (sds.map V.int)) := x2.at Lp hD'
      refine ⟨_, hD2, by rw [List.length_map, ls, sizeLine_eq]; omega, ?_, fun b o n e => ?_, sds ++ [d], by rw [upd_same, List.map_append]; rfl, by rw [List.length_append, ls]; rfl⟩
      · obtain ⟨a1, a2, a3, e⟩ := x2.pool
        exact ⟨a1, a2, a3, by rw [upd_ne (Ne.symm Lp)]; exact e⟩
      · rw [upd_ne (ne_of_none e nL)]
        exact x2.at n (k b o n e)
    rintro H1 ⟨hp1, k1, sds, hL1, ls⟩
    rw [List.length_map] at ls
    have x1 : Ext p H H1 := ⟨hp1, k1⟩
    have ha1 := k1 _ _ r.ne ha
    -- comers
    refine ⟨_, rfl, a, _, rfl, .inl (SqL.of ha1), N.length, by rw [List.length_map], by omega, by omega, fun L1 nL1 => ?_⟩
    refine lc_range (lo := 0) (n := ((N.length : Nat) : Int).toNat) (fun i H' => Same H1 H' ∧ ∃ acc : List Str, H' L1 = some (.lst (acc.map V.str)) ∧ Pick N sds 1 i acc) ⟨same_upd nL1, [], upd_same, .nil⟩ ?_ ?_
    · rintro i H' hi ⟨s1, acc, hA, pk⟩
      have hi : i < N.length := by omega
      have hz : N[i]? = some N[i] := List.getElem?_eq_getElem hi
      have hsd : sds[i]? = some (sds[i]'(by omega)) := List.getElem?_eq_getElem _
      generalize N[i] = z at hz
      generalize sds[i]'(by omega) = sd at hsd
      refine ⟨rfl, ?_⟩
      refine ⟨_, rfl, _, rfl, L, _, _, .int sd, rfl, rfl, SqL.of (s1 _ _ hL1), at0 (by rw [List.getElem?_map, hsd]; rfl), rfl, _, rfl, ?_⟩
      by_cases e : sd = 1
      · subst e
        refine iteT ⟨_, rfl, _, rfl, a, _, _, .str z, rfl, rfl, SqL.of (s1 _ _ ha1), at0 (by rw [List.getElem?_map, hz]; rfl), _, hA, ?_, same_set s1 nL1, acc ++ [z], by rw [upd_same, List.map_append]; rfl, pk.yes hz hsd⟩
        have := pk.sub.length_le
        rw [List.length_take] at this
        rw [List.length_map, sizeLine_eq]
        omega
      · rw [decide_eq_false (fun h => e (V.int.inj h))]
        exact iteF ⟨s1, acc, hA, pk.no hz⟩
    rintro H2 ⟨s2, c1, hc1, pk1⟩
    have e1 : (((N.length : Nat) : Int).toNat) = N.length := by omega
    rw [e1] at pk1
    have l1 := pk1.sub.length_le
    rw [List.take_length] at l1
    refine ⟨L1, _, rfl, .inl ⟨SqL.of hc1, fun t1 nt1 => ?_⟩⟩
    have s3 : Same H2 (upd H2 t1 (.tup (c1.map V.str))) := same_upd nt1
    generalize eH : upd H2 t1 (.tup (c1.map V.str)) = H3 at s3 ⊢
    have ht1 : H3 t1 = some (.tup (c1.map V.str)) := by rw [← eH]; exact upd_same
    clear eH
    have s13 := s2.trans s3
    -- goers
    refine ⟨_, rfl, a, _, rfl, .inl (SqL.of (s13 _ _ ha1)), N.length, by rw [List.length_map], by omega, by omega, fun L2 nL2 => ?_⟩
    refine lc_range (lo := 0) (n := ((N.length : Nat) : Int).toNat) (fun i H' => Same H3 H' ∧ ∃ acc : List Str, H' L2 = some (.lst (acc.map V.str)) ∧ Pick N sds 2 i acc) ⟨same_upd nL2, [], upd_same, .nil⟩ ?_ ?_
    · rintro i H' hi ⟨s1, acc, hA, pk⟩
      have hi : i < N.length := by omega
      have hz : N[i]? = some N[i] := List.getElem?_eq_getElem hi
      have hsd : sds[i]? = some (sds[i]'(by omega)) := List.getElem?_eq_getElem _
      generalize N[i] = z at hz
      generalize sds[i]'(by omega) = sd at hsd
      refine ⟨rfl, ?_⟩
      refine ⟨_, rfl, _, rfl, L, _, _, .int sd, rfl, rfl, SqL.of (s1 _ _ (s13 _ _ hL1)), at0 (by rw [List.getElem?_map, hsd]; rfl), rfl, _, rfl, ?_⟩
      by_cases e : sd = 2
      · subst e
        refine iteT ⟨_, rfl, _, rfl, a, _, _, .str z, rfl, rfl, SqL.of (s1 _ _ (s13 _ _ ha1)), at0 (by rw [List.getElem?_map, hz]; rfl), _, hA, ?_, same_set s1 nL2, acc ++ [z], by rw [upd_same, List.map_append]; rfl, pk.yes hz hsd⟩
        have := pk.sub.length_le
        rw [List.length_take] at this
        rw [List.length_map, sizeLine_eq]
        omega
      · rw [decide_eq_false (fun h => e (V.int.inj h))]
        exact iteF ⟨s1, acc, hA, pk.no hz⟩
    rintro H4 ⟨s4, c2, hc2, pk2⟩
    rw [e1] at pk2
    have l2 := pk2.sub.length_le
    rw [List.take_length] at l2
    refine ⟨L2, _, rfl, .inl ⟨SqL.of hc2, fun t2 nt2 => ?_⟩⟩
    have s5 : Same H4 (upd H4 t2 (.tup (c2.map V.str))) := same_upd nt2
    generalize eH : upd H4 t2 (.tup (c2.map V.str)) = H5 at s5 ⊢
    have ht2 : H5 t2 = some (.tup (c2.map V.str)) := by rw [← eH]; exact upd_same
    clear eH
    have s35 := s4.trans s5
    -- sorted(..)
    refine ⟨_, rfl, t1, rfl, ⟨_, SqT.of (s35 _ _ ht1)⟩, fun M1 nM1 => lc_tupS (K := K) (a := t1) (zs := c1) (s35 _ _ ht1) (by omega) nM1 (fun z H' => ⟨rfl, rfl, rfl, fun Q h => ⟨_, rfl, z, rfl, h⟩⟩) (fun z H' R R' h hh => h _ _ hh) (fun s h R R' k hh => k _ _ hh) fun H6 s6 h6 => ?_⟩
    refine ⟨M1, c1, rfl, SqL.of h6, by omega, fun y1 q1 pm1 srt1 nq1 => ?_⟩
    have s7 : Same H6 (upd H6 q1 (.lst (y1.map V.str))) := same_upd nq1
    generalize eH : upd H6 q1 (.lst (y1.map V.str)) = H7 at s7 ⊢
    have hq1 : H7 q1 = some (.lst (y1.map V.str)) := by rw [← eH]; exact upd_same
    clear eH
    have s57 := s6.trans s7
    refine ⟨_, rfl, t2, rfl, ⟨_, SqT.of (s57 _ _ ht2)⟩, fun M2 nM2 => lc_tupS (K := K) (a := t2) (zs := c2) (s57 _ _ ht2) (by omega) nM2 (fun z H' => ⟨rfl, rfl, rfl, fun Q h => ⟨_, rfl, z, rfl, h⟩⟩) (fun z H' R R' h hh => h _ _ hh) (fun s h R R' k hh => k _ _ hh) fun H8 s8 h8 => ?_⟩
    refine ⟨M2, c2, rfl, SqL.of h8, by omega, fun y2 q2 pm2 srt2 nq2 => ?_⟩
    have s9 : Same H8 (upd H8 q2 (.lst (y2.map V.str))) := same_upd nq2
    generalize eH : upd H8 q2 (.lst (y2.map V.str)) = H9 at s9 ⊢
    have hq2 : H9 q2 = some (.lst (y2.map V.str)) := by rw [← eH]; exact upd_same
    clear eH
    refine ⟨(by show 2 ≤ sizeLine; decide), fun S nS => ?_⟩
    have s10 : Same H9 (upd H9 S (.lst [.ref q1, .ref q2])) := same_upd nS
    generalize eH : upd H9 S (.lst [.ref q1, .ref q2]) = H10 at s10 ⊢
    have hS : H10 S = some (.lst [.ref q1, .ref q2]) := by rw [← eH]; exact upd_same
    clear eH
    have s510 := ((s57.trans s8).trans s9).trans s10
    have sub1 : ∀ z ∈ c1, z ∈ N := fun z hz => by have := pk1.sub.subset hz; rw [List.take_length] at this; exact this
    have sub2 : ∀ z ∈ c2, z ∈ N := fun z hz => by have := pk2.sub.subset hz; rw [List.take_length] at this; exact this
    have nd1 : c1.Nodup := by have := pk1.sub; rw [List.take_length] at this; exact this.nodup r.nd
    have nd2 : c2.Nodup := by have := pk2.sub; rw [List.take_length] at this; exact this.nodup r.nd
    -- the change
    refine ⟨rfl, _, rfl, t1, _, rfl, s510 _ _ (s35 _ _ ht1), mk_names (fun z hz => r.nm z (sub1 z hz)) (by omega) fun b1 z1 H11 _ s11 e1 M1' => ?_⟩
    refine ⟨rfl, _, rfl, t2, _, rfl, s11 _ _ (s510 _ _ ht2), mk_names (fun z hz => r.nm z (sub2 z hz)) (by omega) fun b2 z2 H12 _ s12 e2 M2' => ?_⟩
    have k1' : y1 = z1 := sorted_uniq srt1 M1'.srt (pm1.nodup_iff.mpr nd1) M1'.nd fun z => pm1.mem_iff.trans (e1 z).symm
    have k2' : y2 = z2 := sorted_uniq srt2 M2'.srt (pm2.nodup_iff.mpr nd2) M2'.nd fun z => pm2.mem_iff.trans (e2 z).symm
    have ap : Apart z1 z2 := fun z h1 h2 => pk1.apart r.nd pk2 (by decide) z ((e1 z).mp h1) ((e2 z).mp h2)
    have n1 : z1.length ≤ c1.length := len_sub M1'.nd fun z hz => (e1 z).mp hz
    have n2 : z2.length ≤ c2.length := len_sub M2'.nd fun z hz => (e2 z).mp hz
    refine mkc_go (D := D) (E := E0) (Q := fun x H1 => tCons (tOp (rIxL K) (tVar 2) (tC (.int 0))) (tCons (tOp (rIxL K) (tVar 2) (tC (.int 1))) tNil) _ H1 fun xs H2 => (x :: xs).length ≤ sizeLine ∧ ∀ (p : Addr), H2 p = none → Q (.ref p) (upd H2 p (.lst (x :: xs)))) (M1'.same s12) M2' (by omega) ap fun ch H13 nch s13' MC => ?_
    have s1013 := (s11.trans s12).trans s13'
    refine ⟨_, rfl, S, _, _, .ref q1, rfl, rfl, SqL.of (s1013 _ _ hS), atI_nat (j := 0) rfl, _, rfl, S, _, _, .ref q2, rfl, rfl, SqL.of (s1013 _ _ hS), atI_nat (j := 1) rfl, (by show 3 ≤ sizeLine; decide), fun qq nqq => ?_⟩
    have s14 : Same H13 (upd H13 qq (.lst [.ref ch, .ref q1, .ref q2])) := same_upd nqq
    have sA : Same H1 H13 := (s13.trans s35).trans (s510.trans s1013)
    have x14 : Ext p H (upd H13 qq (.lst [.ref ch, .ref q1, .ref q2])) := (x1.same sA).same s14
    have hq1' := s1013 _ _ (s10 _ _ (s9 _ _ (s8 _ _ hq1)))
    have hq2' := s1013 _ _ (s10 _ _ hq2)
    have pool13 := (x1.same sA).pool
    have np : ∀ {l : Addr} {ys : List Str}, H13 l = some (.lst (ys.map V.str)) → l ≠ p := fun {l ys} h e => by
      obtain ⟨i, j, k, hp⟩ := pool13
      rw [e, hp] at h
      have h := HO.lst.inj (Option.some.inj h)
      cases ys <;> cases h
    refine q qq ch q1 q2 z1 z2 _ x14 ((x1.same sA).free nqq) upd_same (MC.same s14) (by rw [← k1']; exact s14 _ _ hq1') (by rw [← k2']; exact s14 _ _ hq2') (np hq1') (np hq2') (fun z hz => sub1 z ((e1 z).mp hz)) (fun z hz => sub2 z ((e2 z).mp hz))
end
end K1

namespace K1
open PySem PySem.Spec
open PyProof.Rows L2 EnT StX SmX TxS DuX XdI Tr3 CnB ClX
def tysB : List String := ["NoneType", "bool", "int", "str", "list", "tuple", "dict"]
theorem vok_tys {K : PySem.W.Frag} {H : Hp} {v : V} (h : VOk H v) : ∃ t, t ∈ tysB ∧ TyX K H v (.type t) := h.ty
/-! ### comprehensions that leave what stands -/
def StepQ (D : Addr) (H : Hp) (out : Nat → List V) (i : Nat) : VK := fun y H4 => ∃ acc, H4 D = some (.lst acc) ∧ acc.length < sizeLine ∧ upd H4 D (.lst (acc ++ [y])) = upd H D (.lst (out (i + 1)))
theorem step_ok {D : Addr} {H : Hp} {out : Nat → List V} {i : Nat} {y : V} (hl : (out i).length < sizeLine) (e : out (i + 1) = out i ++ [y]) : StepQ D H out i y (upd H D (.lst (out i))) := ⟨_, upd_same, hl, by rw [upd_upd, e]⟩
theorem step_no {D : Addr} {H : Hp} {out : Nat → List V} {i : Nat} (e : out (i + 1) = out i) : upd H D (.lst (out i)) = upd H D (.lst (out (i + 1))) := by rw [e]
theorem lc_pure {K : PySem.W.Frag} {a : Addr} {xs : List V} {g : TG} {tt : TT} {te : TE} {vs : List Nat} {σ : L2.St} {H : Hp} {D : Addr} {Qd : Hp → Prop} (out : Nat → List V) (src : ∀ H', Same H H' → SqL K H' a xs) (nD : H D = none) (h0 : out 0 = [])
    (hs : ∀ i x, xs[i]? = some x → Same H (upd H D (.lst (out i))) → g x (wipe σ vs) (upd H D (.lst (out i))) fun σ2 H2 => wipe σ2 vs = wipe σ vs ∧ tt σ2 H2 fun b H3 => if b = true then te σ2 H3 (StepQ D H out i) else H3 = upd H D (.lst (out (i + 1))))
    (hd : ∀ H', Same H H' → H' D = some (.lst (out xs.length)) → Qd H') :
    ∃ W : Nat → Nat → Hp → Prop, (∃ m, W 0 m (upd H D (.lst []))) ∧ ∀ i m H, W i m H →
      ((Itl K a).stop i H ∧ Qd H) ∨ ((Itl K a).go i H ∧ ∃ Nx : Hp → Prop, (∀ H', Nx H' → ∃ m', m' < m ∧ W (i + 1) m' H') ∧ ∀ x H', (Itl K a).yld i H x H' → g x (wipe σ vs) H' fun σ2 H2 => wipe σ2 vs = wipe σ vs ∧ tt σ2 H2 fun b H3 =>
        if b = true then te σ2 H3 fun y H4 => ∃ acc, H4 D = some (.lst acc) ∧ acc.length < sizeLine ∧ Nx (upd H4 D (.lst (acc ++ [y]))) else Nx H3) := by
  refine lc_list (K := K) (a := a) (xs := xs) (fun i H' => H' = upd H D (.lst (out i))) (by rw [h0]) (fun i H' hi e => ?_) (fun i x H' hx e => ?_) (fun H' e => ?_)
  · subst e
    exact src _ (same_upd nD)
  · subst e
    exact hs i x hx (same_upd nD)
  · subst e
    exact hd _ (same_upd nD) upd_same
theorem str_at {zs : List Str} {i : Nat} {x : V} (h : (zs.map V.str)[i]? = some x) : ∃ z, zs[i]? = some z ∧ x = V.str z := by
  rw [List.getElem?_map] at h
  obtain ⟨z, hz, e⟩ := Option.map_eq_some_iff.mp h
  exact ⟨z, hz, e.symm⟩
/-- the texts of zs that p tells, up to the i-th -/
def outF (zs : List Str) (p : Str → Bool) (i : Nat) : List V := ((zs.take i).filter p).map V.str
def outM (zs : List Str) (e : Str → V) (i : Nat) : List V := (zs.take i).map e
theorem outF_yes {zs : List Str} {p : Str → Bool} {i : Nat} {z : Str} (h : zs[i]? = some z) (hp : p z = true) : outF zs p (i + 1) = outF zs p i ++ [V.str z] := by
  unfold outF
  rw [filt_succ h, if_pos hp, List.map_append]
  rfl
theorem outF_no {zs : List Str} {p : Str → Bool} {i : Nat} {z : Str} (h : zs[i]? = some z) (hp : p z = false) : outF zs p (i + 1) = outF zs p i := by
  unfold outF
  rw [filt_succ h, hp, if_neg (by decide), List.append_nil]
theorem outM_succ {zs : List Str} {e : Str → V} {i : Nat} {z : Str} (h : zs[i]? = some z) : outM zs e (i + 1) = outM zs e i ++ [e z] := map_succ h
theorem outF_len {zs : List Str} {p : Str → Bool} {i : Nat} (h : zs.length ≤ 1000) : (outF zs p i).length < sizeLine := by
  unfold outF
  have := List.length_filter_le p (zs.take i)
  rw [List.length_take] at this
  rw [List.length_map, sizeLine_eq]
  omega
theorem outM_len {zs : List Str} {e : Str → V} {i : Nat} (h : zs.length ≤ 1000) : (outM zs e i).length < sizeLine := by
  unfold outM
  rw [List.length_map, List.length_take, sizeLine_eq]
  omega
theorem outF_end {zs : List Str} {p : Str → Bool} {x : Nat} (h : x = zs.length) : outF zs p x = (zs.filter p).map V.str := by
  unfold outF
  rw [h, List.take_length]
theorem outM_end {zs : List Str} {e : Str → V} {x : Nat} (h : x = zs.length) : outM zs e x = zs.map e := by
  unfold outM
  rw [h, List.take_length]
theorem strs_flat (zs : List Str) : (zs.map V.str).all flatV = true := by simp [flatV]
theorem inV_mem (z : Str) : ∀ ys : List Str, inV (.str z) (ys.map V.str) = decide (z ∈ ys)
  | [] => rfl
  | y :: r => by
    have ih := inV_mem z r
    unfold inV at ih ⊢
    rw [List.map_cons, List.any_cons, ih]
    by_cases h : y = z
    · subst h
      rw [decide_eq_true List.mem_cons_self]
      simp [eqV]
    · have e : eqV (V.str y) (V.str z) = false := by
        show (y == z) = false
        exact beq_eq_false_iff_ne.mpr h
      rw [e, Bool.false_or]
      by_cases m : z ∈ r
      · rw [decide_eq_true m, decide_eq_true (List.mem_cons_of_mem _ m)]
      · rw [decide_eq_false m, decide_eq_false fun q => by
          rcases List.mem_cons.mp q with q | q
          · exact h q.symm
          · exact m q]
def rListOf (K : PySem.W.Frag) : List V → Hp → VK → Prop := fun xs H Q => ∃ p ys, xs = [.ref p] ∧ (SqL K H p ys ∨ SqT K H p ys) ∧ ∀ l, H l = none → Q (.ref l) (upd H l (.lst ys))
theorem call_listK {X : Cx} : CallR X (.type "list") (rListOf X.K) := call_list_of
/-! ### lists of lists of texts -/
def lsD (Y : List (List Str)) : List PyData := Y.map fun y => .list (strD y)
structure Lists (H : Hp) (ds : List Addr) (Y : List (List Str)) : Prop where
  len : ds.length = Y.length
  at_ : ∀ (j : Nat) (d : Addr) (y : List Str), ds[j]? = some d → Y[j]? = some y → H d = some (.lst (y.map V.str))
theorem Lists.same {H H' : Hp} {ds : List Addr} {Y : List (List Str)} (s : Same H H') (h : Lists H ds Y) : Lists H' ds Y := ⟨h.len, fun j d y a b => s _ _ (h.at_ j d y a b)⟩
theorem Lists.nil {H : Hp} : Lists H [] [] := ⟨rfl, fun j d y a => by cases a⟩
theorem Lists.snoc {H : Hp} {ds : List Addr} {Y : List (List Str)} {d : Addr} {y : List Str} (h : Lists H ds Y) (hd : H d = some (.lst (y.map V.str))) : Lists H (ds ++ [d]) (Y ++ [y]) := by
  refine ⟨by rw [List.length_append, List.length_append, h.len]; rfl, fun j d' y' a b => ?_⟩
  have l := h.len
  by_cases hj : j < ds.length
  · rw [List.getElem?_append_left hj] at a
    rw [List.getElem?_append_left (by omega)] at b
    exact h.at_ j d' y' a b
  · rw [List.getElem?_append_right (by omega)] at a
    rw [List.getElem?_append_right (by omega)] at b
    have e : j - ds.length = 0 := by
      have := (List.getElem?_eq_some_iff.mp a).1
      simp at this
      omega
    rw [e] at a
    rw [← l, e] at b
    cases a
    cases b
    exact hd
theorem Lists.dp {K : PySem.W.Frag} {H : Hp} : ∀ {ds : List Addr} {Y : List (List Str)}, Lists H ds Y → DpAll K H (ds.map V.ref) (lsD Y)
  | [], [], _ => .nil
  | [], y :: Y, h => by have := h.len; cases this
  | d :: ds, [], h => by have := h.len; cases this
  | d :: ds, y :: Y, h => .cons (.lst (SqL.of (h.at_ 0 d y rfl rfl)) (dpAll_str y)) (Lists.dp (ds := ds) (Y := Y) ⟨by have := h.len; simpa using this, fun j d' y' a b => h.at_ (j + 1) d' y' a b⟩)
theorem lsD_lay : ∀ {Y : List (List Str)}, (∀ y ∈ Y, OkS y) → PyData.canLayAll0 (lsD Y) = true
  | [], _ => by simp [lsD, PyData.canLayAll0]
  | y :: Y, h => by
    have h1 := lsD_lay (Y := Y) fun z hz => h z (List.mem_cons_of_mem _ hz)
    have h2 := strD_lay y (h y List.mem_cons_self)
    simp only [lsD] at h1
    simp [lsD, PyData.canLayAll0, PyData.canLay0, h1, h2]
theorem lsD_depth : ∀ Y : List (List Str), PyData.depthAll (lsD Y) ≤ 1
  | [] => by simp [lsD, PyData.depthAll]
  | y :: Y => by
    have h1 := lsD_depth Y
    have h2 := strD_depth y
    simp only [lsD] at h1
    simp only [lsD, List.map_cons, PyData.depthAll, PyData.depth, h2]
    omega
theorem lsD_shaped {Y : List (List Str)} (h : ∀ y ∈ Y, OkS y) : SeqAt.shaped (.list (lsD Y)) = true := by
  show (PyData.canLay0 (.list (lsD Y)) && decide (PyData.depth (.list (lsD Y)) ≤ 64)) = true
  rw [Bool.and_eq_true]
  refine ⟨by simp only [PyData.canLay0]; exact lsD_lay h, decide_eq_true ?_⟩
  simp only [PyData.depth]
  have := lsD_depth Y
  omega
theorem lsD_eqv {Y : List (List Str)} (h : ∀ y ∈ Y, OkS y) : PyData.eqv (.list (lsD Y)) (.list (lsD Y)) = true := SeqAt.eqv_refl _ (by simp only [PyData.canLay0]; exact lsD_lay h)
/-- Members at ps, of the names Y -/
structure Mems (C : Addr) (H : Hp) (ps : List Addr) (Y : List (List Str)) : Prop where
  len : ps.length = Y.length
  at_ : ∀ (j : Nat) (p : Addr) (y : List Str), ps[j]? = some p → Y[j]? = some y → MemAt C H p y
theorem Mems.same {C : Addr} {H H' : Hp} {ps : List Addr} {Y : List (List Str)} (s : Same H H') (h : Mems C H ps Y) : Mems C H' ps Y := ⟨h.len, fun j p y a b => (h.at_ j p y a b).same s⟩
theorem Mems.ok {C : Addr} {H : Hp} {ps : List Addr} {Y : List (List Str)} (h : Mems C H ps Y) : ∀ y ∈ Y, OkS y := fun y hy => by
  obtain ⟨j, hj, e⟩ := List.mem_iff_getElem.mp hy
  have l := h.len
  exact okS_names (h.at_ j (ps[j]'(by omega)) y (List.getElem?_eq_getElem _) (by rw [← e]; exact List.getElem?_eq_getElem _)).nm
theorem len_or {y zs ws : List Str} (nd : y.Nodup) (h : ∀ z, z ∈ y → z ∈ zs ∨ z ∈ ws) : y.length ≤ zs.length + ws.length := by
  have := len_sub (zs := zs ++ ws) nd fun z hz => List.mem_append.mpr (h z hz)
  rw [List.length_append] at this
  exact this
theorem pw_uniq {xs ys : List Str} (hx : xs.Pairwise NotLt) (hy : ys.Pairwise NotLt) (nx : xs.Nodup) (ny : ys.Nodup) (m : ∀ z, z ∈ xs ↔ z ∈ ys) : xs = ys :=
  List.Perm.eq_of_pairwise (le := NotLt) (fun a b _ _ p q => notLt_anti p q) hx hy ((List.perm_ext_iff_of_nodup nx ny).mpr m)
theorem lc_pureT {K : PySem.W.Frag} {a : Addr} {xs : List V} {g : TG} {tt : TT} {te : TE} {vs : List Nat} {σ : L2.St} {H : Hp} {D : Addr} {Qd : Hp → Prop} (out : Nat → List V) (src : ∀ H', Same H H' → SqT K H' a xs) (nD : H D = none) (h0 : out 0 = [])
    (hs : ∀ i x, xs[i]? = some x → Same H (upd H D (.lst (out i))) → g x (wipe σ vs) (upd H D (.lst (out i))) fun σ2 H2 => wipe σ2 vs = wipe σ vs ∧ tt σ2 H2 fun b H3 => if b = true then te σ2 H3 (StepQ D H out i) else H3 = upd H D (.lst (out (i + 1))))
    (hd : ∀ H', Same H H' → H' D = some (.lst (out xs.length)) → Qd H') :
    ∃ W : Nat → Nat → Hp → Prop, (∃ m, W 0 m (upd H D (.lst []))) ∧ ∀ i m H, W i m H →
      ((Itt K a).stop i H ∧ Qd H) ∨ ((Itt K a).go i H ∧ ∃ Nx : Hp → Prop, (∀ H', Nx H' → ∃ m', m' < m ∧ W (i + 1) m' H') ∧ ∀ x H', (Itt K a).yld i H x H' → g x (wipe σ vs) H' fun σ2 H2 => wipe σ2 vs = wipe σ vs ∧ tt σ2 H2 fun b H3 =>
        if b = true then te σ2 H3 fun y H4 => ∃ acc, H4 D = some (.lst acc) ∧ acc.length < sizeLine ∧ Nx (upd H4 D (.lst (acc ++ [y]))) else Nx H3) := by
  refine lc_tup (K := K) (a := a) (xs := xs) (fun i H' => H' = upd H D (.lst (out i))) (by rw [h0]) (fun i H' hi e => ?_) (fun i x H' hx e => ?_) (fun H' e => ?_)
  · subst e
    exact src _ (same_upd nD)
  · subst e
    exact hs i x hx (same_upd nD)
  · subst e
    exact hd _ (same_upd nD) upd_same
/-- the names of the comers, as a new list -/
theorem nm_of {K : PySem.W.Frag} {C a : Addr} {zs : List Str} {H : Hp} {te : TE} {σ : L2.St} {Q : VK} (m : MemAt C H a zs) (ht : ∀ Q' : VK, Q' (.ref a) H → te σ H Q') (q : ∀ r, H r = none → Q (.ref r) (upd H r (.lst (zs.map V.str)))) :
    tCB (rListOf K) (tCons (tProp C (getSp C "_names") [] E0 te) tNil) σ H Q := by
  obtain ⟨dx, t, d, k1, k2, k3⟩ := m.at_
  exact ht _ ⟨a, dx, _, rfl, k1, a, dx, _, _, rfl, k1, flds_names t d, t, _, rfl, .inr (SqT.of k2), q⟩
theorem fld_came {C D c : Addr} {cs gs : List Str} {H : Hp} {te : TE} {σ : L2.St} {Q : VK} (m : ChgAt C D H c cs gs) (ht : ∀ Q' : VK, Q' (.ref c) H → te σ H Q') (q : ∀ a, MemAt C H a cs → Q (.ref a) H) : tProp D (getSp D "_came") [] E0 te σ H Q := by
  obtain ⟨dx, a, b, k1, k2, k3⟩ := m.at_
  exact ht _ ⟨c, dx, _, rfl, k1, c, dx, _, _, rfl, k1, cflds_came a b, q a k2⟩
theorem fld_went {C D c : Addr} {cs gs : List Str} {H : Hp} {te : TE} {σ : L2.St} {Q : VK} (m : ChgAt C D H c cs gs) (ht : ∀ Q' : VK, Q' (.ref c) H → te σ H Q') (q : ∀ a, MemAt C H a gs → Q (.ref a) H) : tProp D (getSp D "_went") [] E0 te σ H Q := by
  obtain ⟨dx, a, b, k1, k2, k3⟩ := m.at_
  exact ht _ ⟨c, dx, _, rfl, k1, c, dx, _, _, rfl, k1, cflds_went a b, q b k3⟩
theorem nm_came {K : PySem.W.Frag} {C D c : Addr} {cs gs : List Str} {H : Hp} {te : TE} {σ : L2.St} {Q : VK} (m : ChgAt C D H c cs gs) (ht : ∀ Q' : VK, Q' (.ref c) H → te σ H Q') (q : ∀ r, H r = none → Q (.ref r) (upd H r (.lst (cs.map V.str)))) :
    tCB (rListOf K) (tCons (tProp C (getSp C "_names") [] E0 (tProp D (getSp D "_came") [] E0 te)) tNil) σ H Q := by
  obtain ⟨dx, a, b, k1, k2, k3⟩ := m.at_
  exact nm_of k2 (fun Q' h => ht _ ⟨c, dx, _, rfl, k1, c, dx, _, _, rfl, k1, cflds_came a b, h⟩) q
theorem nm_went {K : PySem.W.Frag} {C D c : Addr} {cs gs : List Str} {H : Hp} {te : TE} {σ : L2.St} {Q : VK} (m : ChgAt C D H c cs gs) (ht : ∀ Q' : VK, Q' (.ref c) H → te σ H Q') (q : ∀ r, H r = none → Q (.ref r) (upd H r (.lst (gs.map V.str)))) :
    tCB (rListOf K) (tCons (tProp C (getSp C "_names") [] E0 (tProp D (getSp D "_went") [] E0 te)) tNil) σ H Q := by
  obtain ⟨dx, a, b, k1, k2, k3⟩ := m.at_
  exact nm_of k3 (fun Q' h => ht _ ⟨c, dx, _, rfl, k1, c, dx, _, _, rfl, k1, cflds_went a b, h⟩) q
theorem var_at {σ : L2.St} {i : Nat} {v : V} {H : Hp} (h : σ[i]? = some (some v)) : ∀ Q' : VK, Q' v H → tVar i σ H Q' := fun Q' q => ⟨v, h, q⟩
/-! ### the signs of changes -/
theorem ceq_go {K : PySem.W.Frag} {mg : Str → Option Value} {C D a b : Addr} {cs gs cs' gs' : List Str} {H : Hp} {Q : VK} (M : ChgC K mg D) (I : MemIs K D) (m1 : ChgAt C D H a cs gs) (m2 : ChgAt C D H b cs' gs') (q : Q (.bl (decide (cs = cs') && decide (gs = gs'))) H) : rEqO K D (spEqC C D) (.ref a) (.ref b) H Q := by
  obtain ⟨dx, x, y, h1, _, _⟩ := m1.at_
  exact ⟨a, dx, _, _, rfl, h1, chg_ty M I m2, I.nfC, a, b, cs, gs, cs', gs', rfl, m1, m2, _, rfl, q⟩
theorem cne_go {K : PySem.W.Frag} {mg : Str → Option Value} {C D a b : Addr} {cs gs cs' gs' : List Str} {H : Hp} {Q : VK} (M : ChgC K mg D) (I : MemIs K D) (m1 : ChgAt C D H a cs gs) (m2 : ChgAt C D H b cs' gs') (q : Q (.bl (!(decide (cs = cs') && decide (gs = gs')))) H) : rNeO K D (spEqC C D) (.ref a) (.ref b) H Q := by
  obtain ⟨dx, x, y, h1, _, _⟩ := m1.at_
  exact ⟨a, dx, _, _, rfl, h1, chg_ty M I m2, I.nfC, a, b, cs, gs, cs', gs', rfl, m1, m2, _, rfl, q⟩
theorem ne_go {K : PySem.W.Frag} {mg : Str → Option Value} {C a b : Addr} {zs ws : List Str} {H : Hp} {Q : VK} (M : MemC K mg C) (I : MemIs K C) (m1 : MemAt C H a zs) (m2 : MemAt C H b ws) (q : Q (.bl (!decide (zs = ws))) H) : rNeO K C (spEqM C) (.ref a) (.ref b) H Q := by
  obtain ⟨dx, t, d, h1, _, _⟩ := m1.at_
  exact ⟨a, dx, _, _, rfl, h1, mem_ty M I m2, I.nfC, a, zs, .ref b, rfl, m1, .inl ⟨b, ws, rfl, m2, _, rfl, q⟩⟩
theorem cneg_go {C D a : Addr} {cs gs : List Str} {H : Hp} {Q : VK} {E : XK} (m : ChgAt C D H a cs gs) (hl : cs.length + gs.length ≤ 1000) (q : MakesC C D gs cs H Q) : rNegO D (spNegC C D) E (.ref a) H Q := by
  obtain ⟨dx, x, y, h1, _, _⟩ := m.at_
  exact ⟨a, dx, _, rfl, h1, a, cs, gs, rfl, m, hl, q⟩
/-- Members + change -/
theorem madd_go {K : PySem.W.Frag} {mg : Str → Option Value} {C D a b : Addr} {zs cs gs : List Str} {H : Hp} {Q : VK} {E : XK} (M : ChgC K mg D) (I : MemIs K D) (m1 : MemAt C H a zs) (m2 : ChgAt C D H b cs gs) (hl : zs.length + cs.length + gs.length ≤ 400) (q : MakesP C (fun z => aC (z ∈ zs) (z ∈ gs) (z ∈ cs)) H Q) :
    rBinD K C D (spAddM C D) E (.ref a) (.ref b) H Q := by
  obtain ⟨dx, t, d, h1, _, _⟩ := m1.at_
  exact ⟨a, dx, _, rfl, h1, chg_ty M I m2, a, b, zs, cs, gs, rfl, m1, m2, hl, q⟩
/-- change + change -/
theorem cadd_go {C D a b : Addr} {c1 g1 c2 g2 : List Str} {H : Hp} {Q : VK} {E : XK} (m1 : ChgAt C D H a c1 g1) (m2 : ChgAt C D H b c2 g2) (hl : c1.length + g1.length + c2.length + g2.length ≤ 400)
    (q : ∀ (p : Addr) (cs gs : List Str) (H' : Hp), H p = none → Same H H' → (∀ z, z ∈ cs ↔ aC (z ∈ c1) (z ∈ g2) (z ∈ c2)) → (∀ z, z ∈ gs ↔ aC (z ∈ g1) (z ∈ c2) (z ∈ g2)) → ChgAt C D H' p cs gs → Q (.ref p) H') :
    rBinO D (spAddC C D) E (.ref a) (.ref b) H Q := by
  obtain ⟨dx, x, y, h1, _, _⟩ := m1.at_
  obtain ⟨dx2, x2, y2, h2, _, _⟩ := m2.at_
  exact ⟨a, dx, _, b, dx2, _, rfl, rfl, h1, h2, a, b, c1, g1, c2, g2, rfl, m1, m2, hl, q⟩
end K1

namespace K1
open PySem PySem.Spec
open PyProof.Rows L2 L2H EnT StX SmX TxS DuX XdI Tr3 CnB ClX
/-- what is known of the two classes, one from the other -/
structure Two (K : PySem.W.Frag) (C D : Addr) : Prop where
  cd : PySem.W.kitOne K (.ref C) (.ref D) = some false
  dc : PySem.W.kitOne K (.ref D) (.ref C) = some false
/-- the world of the law's own functions -/
structure Wd (P : Program) (w : World) (K : PySem.W.Frag) (mg : Str → Option Value) (base : Heap) (C D CN CM CA CC S1 S2 S3 : Addr) (mc md : Value) : Prop where
  g : Cg P w K mg base C D CN CM CA CC mc
  p : Cp P w K mg base C D CM CC
  r : Rp P w K mg base C D
  EK : ErrK K mg S1 S2 S3 CM CA CC
  neM : NeM K C
  neD : NeM K D
  sfD : PySem.W.selfFirst K D = true
  eqC : ∃ g, OwnM K D "__eq__" g ∧ FnR P w K mg base CX0 5 g (spEqC C D) ∧ FnR P w K mg base CX0 5 g (spEqCN K C D)
  absC : ∃ g, OwnM K D "__abs__" g ∧ FnR P w K mg base CX0 3 g (spAbsC C D)
  boolC : ∃ g, OwnM K D "__bool__" g ∧ FnR P w K mg base CX0 5 g (spBoolC C D)
  negC : ∃ g, OwnM K D "__neg__" g ∧ FnR P w K mg base (L2.CX P w) 10 g (spNegC C D)
  addC : ∃ g, OwnM K D uAdd g ∧ FnR P w K mg base (L2.CX P w) 10 g (spAddC C D) ∧ FnR P w K mg base (L2.CX P w) 10 g (spAddN K D CA)
  addM : ∃ g, OwnM K C uAdd g ∧ FnR P w K mg base (L2.CX P w) 8 g (spAddM C D) ∧ FnR P w K mg base (L2.CX P w) 8 g (spAddN K D CA)
  rAddC : PySem.W.findIn K (.ref C) (dunderR Operator.Add.info.2) = some none
  rAddD : PySem.W.findIn K (.ref D) (dunderR Operator.Add.info.2) = some none
  oCD : OthC K C D Operator.Add.info.2
  oDC : OthC K D C Operator.Add.info.2
  tC : ∀ t ∈ tysB, OthT K C Operator.Add.info.2 t
  tD : ∀ t ∈ tysB, OthT K D Operator.Add.info.2 t
  bet : ∃ p g fd, SMet K D md "between" p g ∧ FnR P w K mg base (L2.CX P w) 10 g (spBet C D) ∧ FnR P w K mg base (L2.CX P w) 10 g (spBet1 K C CM) ∧ FnR P w K mg base (L2.CX P w) 10 g (spBet2 K C CM) ∧ FnOk P w K mg base (L2.CX P w) 10 g fd nmBt (spBet C D) ∧ KBn K fd nmBt 0 nmBt (fun _ ws => ws) (fun _ zs => zs)
  kwC : ∃ fI fd, Mk K D fI ∧ FnOk P w K mg base (L2.CX P w) 8 fI fd nmIC (spInitY C D) ∧ KBn K fd nmIC 1 ["went", "came"] (fun us ws => us ++ ws.reverse) (fun vs zs => vs ++ zs.reverse)
  nfDC : PySem.W.notFirst K D (.ref C) = true
  crD : CRead K D md
  mkM : ∃ f0, MakeC P w K mg base C CN f0
  tw : Two K C D
  draw : ∃ f, Has P w K mg base CX0 1 "_law_draw" f ["_law_pool_here", "_law_many"] spDraw
  names : ∃ f, Has P w K mg base CX0 2 "_law_names" f ["_law_pool_here", "_law_many"] spNames
  drawn : ∃ f, Has P w K mg base CX0 7 "_law_drawn" f psDrawn (spDrawn C)
  apart : ∃ f, Has P w K mg base CX0 10 "_law_apart" f psDrawn (spApart C D)
/-! ### one change -/
structure Og (C D ch l1 l2 sm : Addr) (cs gs : List Str) (ss : List Addr) (Z : List (List Str)) (H : Hp) : Prop where
  m : ChgAt C D H ch cs gs
  h1 : H l1 = some (.lst (cs.map V.str))
  h2 : H l2 = some (.lst (gs.map V.str))
  hs : H sm = some (.lst (ss.map V.ref))
  ms : Mems C H ss Z
  lc : cs.length ≤ 20
  lg : gs.length ≤ 20
  ls : ss.length ≤ 100
  lz : ∀ z ∈ Z, z.length ≤ 20
theorem Og.same {C D ch l1 l2 sm : Addr} {cs gs : List Str} {ss : List Addr} {Z : List (List Str)} {H H' : Hp} (g : Og C D ch l1 l2 sm cs gs ss Z H) (e : Same H H') : Og C D ch l1 l2 sm cs gs ss Z H' := ⟨g.m.same e, e _ _ g.h1, e _ _ g.h2, e _ _ g.hs, g.ms.same e, g.lc, g.lg, g.ls, g.lz⟩
theorem ChgAt.okS {C D p : Addr} {H : Hp} {cs gs : List Str} (m : ChgAt C D H p cs gs) : OkS cs ∧ OkS gs := by
  obtain ⟨dx, a, b, h1, h2, h3⟩ := m.at_
  exact ⟨okS_names h2.nm, okS_names h3.nm⟩
theorem okS_app {xs ys : List Str} (h1 : OkS xs) (h2 : OkS ys) : OkS (xs ++ ys) := fun z hz => (List.mem_append.mp hz).elim (h1 z) (h2 z)
/-- where the def must come to -/
def FinS (H : Hp) (D : Ends) : Prop := ∀ H', Same H H' → D.rt (.bl true) H'
theorem FinS.same {H H1 : Hp} {D : Ends} (f : FinS H D) (m : Same H H1) : FinS H1 D := fun H' m' => f H' (m.trans m')
abbrev nmOr : List Str := ["_law_change", "_law_comers", "_law_goers", "_law_some", "_law_text", "_law_back", "_law_stay", "_law_due", "_law_members", "_law_name"]
abbrev psOr : List Str := ["_law_change", "_law_comers", "_law_goers", "_law_some"]
theorem scOr : FnScope nmOr psOr (defScope s_L_one_right) := ⟨rfl, rfl, rfl, by decide +kernel, rfl, by decide +kernel, by decide +kernel⟩
abbrev cxR1 (P : Program) (w : World) (K : PySem.W.Frag) (mg : Str → Option Value) (base : Heap) (f : Addr) (cdv : Value) (A : Around) (outer : List Env) (s : Shared) (H : Hp) : Cx := (cxOf CX0 P w K mg base nmOr "_law_one_right" (defScope s_L_one_right) f cdv A outer s H E0).nox
def orRest (i : Nat) : List Stmt := (defBody s_L_one_right).drop i
/-- behind the texts: the change, and its opposite -/
structure AtO5 (C D : Addr) (σ : L2.St) (H : Hp) (En : Ends) : Prop where
  ex : ∃ (ch l1 l2 sm bk : Addr) (cs gs : List Str) (ss : List Addr) (Z : List (List Str)) (x4 x6 x7 x8 x9 : Option V), σ = [some (.ref ch), some (.ref l1), some (.ref l2), some (.ref sm), x4, some (.ref bk), x6, x7, x8, x9] ∧ Og C D ch l1 l2 sm cs gs ss Z H ∧ ChgAt C D H bk gs cs ∧ FinS H En
theorem both_empty {cs gs : List Str} (ap : Apart cs gs) : (decide (cs = gs) && decide (gs = cs)) = decide (cs ++ gs = []) := by
  by_cases e : cs = gs
  · subst e
    have n : cs = [] := List.eq_nil_iff_forall_not_mem.mpr fun z hz => ap z hz hz
    subst n
    rfl
  · rw [decide_eq_false e, Bool.false_and]
    symm
    refine decide_eq_false fun h => e ?_
    obtain ⟨h1, h2⟩ := List.append_eq_nil_iff.mp h
    rw [h1, h2]
section
variable {w : World} {P : Program} {base : Heap} {mg : Str → Option Value} {K : PySem.W.Frag} {C D CN CM CA CC S1 S2 S3 : Addr} {mc md : Value}
variable {fc : Addr} {cd : Value} {A : Around} {outer : List Env} {st : Shared} {H0 : Hp}
theorem or6 (W : Wd P w K mg base C D CN CM CA CC S1 S2 S3 mc md) (hr : Room 11 (A.deeper (envOfC "_law_one_right" (defScope s_L_one_right) st.heap.objs.size fc cd))) :
    PSs (cxR1 P w K mg base fc cd A outer st H0) (orRest 6) (fun En σ H => AtO5 C D σ H En) := by
  refine pss_of fun En σ H hyp => ?_
  obtain ⟨ch, l1, l2, sm, bk, cs, gs, ss, Z, x4, x6, x7, x8, x9, eσ, g, mb, fin⟩ := hyp.ex
  obtain ⟨gE, mE, FE, _⟩ := W.eqC
  have hun := hr.un
  refine ⟨_, pss_one (ps_ret (pe_cmpR op_eq (pe_cmpR (op_eqX mE FE (hr.mono (by decide))) (pv 0) (pv 5) (nomark _))
    (pe_cmpR (op_eqD (by show (A.deeper (envOfC "_law_one_right" (defScope s_L_one_right) st.heap.objs.size fc cd)).units + 64 < cLine; omega)) (pe_op op_cat (pv 1) (pv 2)) (pe_lst pa_nil) (nomark _)) (nomark _))), ?_⟩
  subst eσ
  have lc := g.lc
  have lg := g.lg
  obtain ⟨ok1, ok2⟩ := g.m.okS
  refine ⟨_, rfl, _, rfl, ceq_go W.g.G W.g.J g.m mb ?_⟩
  refine ⟨_, rfl, _, rfl, l1, l2, _, _, rfl, rfl, g.h1, g.h2, by rw [List.length_map, List.length_map, sizeLine_eq]; omega, fun q nq => ?_⟩
  rw [← List.map_append]
  have s1 : Same H (upd H q (.lst ((cs ++ gs).map V.str))) := same_upd nq
  generalize eH : upd H q (.lst ((cs ++ gs).map V.str)) = H1 at s1 ⊢
  have h1 : H1 q = some (.lst ((cs ++ gs).map V.str)) := by rw [← eH]; exact upd_same
  clear eH
  refine ⟨(by show 0 ≤ sizeLine; decide), fun e ne => ?_⟩
  have s2 : Same H1 (upd H1 e (.lst [])) := same_upd ne
  refine ⟨_, _, .lst (SqL.of (s2 _ _ h1)) (dpAll_str (cs ++ gs)), .lst (SqL.of upd_same) (dpAll_str []), lstD_shaped (okS_app ok1 ok2), lstD_shaped (fun z hz => by cases hz), ?_⟩
  have ee : PyData.eqv (.list (strD (cs ++ gs))) (.list (strD [])) = decide (cs ++ gs = []) := by
    simp only [PyData.eqv]
    exact strD_eqv (cs ++ gs) []
  refine ⟨rfl, ?_⟩
  rw [ee, both_empty g.m.apart, decide_eq_true rfl]
  exact fin _ (s1.trans s2)
theorem or5 (W : Wd P w K mg base C D CN CM CA CC S1 S2 S3 mc md) (hr : Room 11 (A.deeper (envOfC "_law_one_right" (defScope s_L_one_right) st.heap.objs.size fc cd))) :
    PSs (cxR1 P w K mg base fc cd A outer st H0) (orRest 5) (fun En σ H => AtO5 C D σ H En) := by
  refine pss_of fun En σ H hyp => ?_
  obtain ⟨ch, l1, l2, sm, bk, cs, gs, ss, Z, x4, x6, x7, x8, x9, eσ, g, mb, fin⟩ := hyp.ex
  have M := W.g.b.M
  have T := W.g.b.T
  obtain ⟨pN, gN, fdN, pr, GN, bN⟩ := W.g.b.prop
  obtain ⟨gA, mA, FA, _⟩ := W.addM
  have hun := hr.un
  refine ⟨_, pss_cons (ps_for PassesOwn.never rfl (pi_list (pv 3)) (pg_name (i := 8) scOr.nd rfl (.inl rfl))
      (pss_cons (ps_setLc (i := 6) (own := [("_law_name", 9)]) (g := gName 9) (tt := tTest (tOp (rIn K true) (tVar 9) (tVar 2))) rfl scOr.nd rfl rfl (sw_true rfl rfl rfl (by decide +kernel)) (pi_tup (pe_prop (pv 8) M.cl pr GN (hr.mono (by decide)) bN .nil pass0 rfl))
            (blkOk_by (own := [("_law_name", 9)]) (N := nmOr) (sc := defScope s_L_one_right) (by decide +kernel)) (fun _ _ _ _ _ => pg_name (i := 9) scOr.nd rfl (Or.inl rfl))
            (fun _ _ _ _ _ => pts_one (pt_cmpR op_notIn_seq (pv 9) (pv 2) (by rfl))) (fun _ _ _ _ _ => pv 9))
      (pss_cons (ps_set (i := 7) scOr.nd rfl (.inl rfl) (pe_sortSet rfl (by rfl) T.sorted (by rfl) T.set (pe_lc (own := [("_law_name", 9)]) (g := gName 9) (tt := tYes) rfl scOr.nd (pi_list (pe_op op_cat (pv 6) (pv 1)))
            (blkOk_by (own := [("_law_name", 9)]) (N := nmOr) (sc := defScope s_L_one_right) (by decide +kernel)) (fun _ _ _ _ _ => pg_name (i := 9) scOr.nd rfl (Or.inl rfl)) (fun _ _ _ _ _ => pts_nil)
            (fun _ _ _ _ _ => pe_callTy SkE.call_str_str (by rfl) T.str (by decide +kernel) (pa_cons (pv 9) pa_nil)))))
      (pss_one (ps_if (pt_cmpR (op_neD (by show (A.deeper (envOfC "_law_one_right" (defScope s_L_one_right) st.heap.objs.size fc cd)).units + 64 < cLine; omega))
          (pe_callTy call_listK (by rfl) T.list (by decide +kernel) (pa_cons (pe_prop (pe_op (op_binD mA W.g.b.sf W.rAddC W.oCD FA (hr.mono (by decide)) passL) (pv 8) (pv 0)) M.cl pr GN (hr.mono (by decide)) bN .nil pass0 rfl) pa_nil)) (pv 7) (nomark _))
        (pss_one (ps_ret pe_bl)) pss_nil)))))
    (or6 W hr), ?_⟩
  subst eσ
  have lc := g.lc
  have lg := g.lg
  have lY := g.ms.len
  obtain ⟨ok1, ok2⟩ := g.m.okS
  refine ⟨_, rfl, sm, rfl, ⟨_, SqL.of g.hs⟩, for_list (xs := ss.map V.ref) (K := K) (a := sm) (fun i σ H' => Same H H' ∧ ∃ y6 y7 y8 y9 : Option V, σ = [some (.ref ch), some (.ref l1), some (.ref l2), some (.ref sm), x4, some (.ref bk), y6, y7, y8, y9]) ⟨Same.refl H, _, _, _, _, rfl⟩ ?_ ?_ ?_⟩
  · rintro i σ H1 hi ⟨s1, _⟩
    exact SqL.of (s1 _ _ g.hs)
  · rintro i x σ H1 hx ⟨s1, y6, y7, y8, y9, rfl⟩
    rw [List.getElem?_map] at hx
    obtain ⟨p, hp, rfl⟩ := Option.map_eq_some_iff.mp hx
    have hi : i < ss.length := (List.getElem?_eq_some_iff.mp hp).1
    obtain ⟨zs, hz⟩ : ∃ y, Z[i]? = some y := ⟨Z[i]'(by omega), List.getElem?_eq_getElem _⟩
    have g1 := g.same s1
    have m1 := g1.ms.at_ i p zs hp hz
    have lz := g.lz zs (List.mem_of_getElem? hz)
    obtain ⟨dx, t, d, k1, k2, k3⟩ := m1.at_
    refine ⟨_, rfl, p, dx, _, rfl, k1, p, dx, _, _, rfl, k1, flds_names t d, t, rfl, ⟨_, SqT.of k2⟩, fun D1 n1 => lc_pureT (K := K) (a := t) (xs := zs.map V.str) (outF zs fun z => !decide (z ∈ gs)) (fun H' e => SqT.of (e _ _ k2)) n1 rfl (fun i x hx e => ?_) fun H2 s2 h2 => ?_⟩
    · obtain ⟨z, hz, rfl⟩ := str_at hx
      refine ⟨rfl, _, rfl, _, rfl, l2, _, rfl, .inl (SqL.of (e _ _ g1.h2)), rfl, strs_flat _, !decide (z ∈ gs), congrArg (fun b => V.bl (!b)) (inV_mem z gs), ?_⟩
      by_cases hm : z ∈ gs
      · rw [decide_eq_true hm]
        exact iteF (step_no (outF_no hz (by rw [decide_eq_true hm]; rfl)))
      · rw [decide_eq_false hm]
        exact iteT ⟨_, rfl, step_ok (outF_len (by omega)) (outF_yes hz (by rw [decide_eq_false hm]; rfl))⟩
    rw [outF_end (List.length_map ..)] at h2
    have g2 := g1.same s2
    have lF := List.length_filter_le (fun z => !decide (z ∈ gs)) zs
    refine ⟨_, rfl, _, rfl, D1, l1, _, _, rfl, rfl, h2, g2.h1, by rw [List.length_map, List.length_map, sizeLine_eq]; omega, fun q nq => ?_⟩
    rw [← List.map_append]
    generalize eB : (zs.filter fun z => !decide (z ∈ gs)) ++ cs = B
    have lB : B.length ≤ 40 := by rw [← eB, List.length_append]; omega
    have s3 : Same H2 (upd H2 q (.lst (B.map V.str))) := same_upd nq
    generalize eH : upd H2 q (.lst (B.map V.str)) = H3 at s3 ⊢
    have h3 : H3 q = some (.lst (B.map V.str)) := by rw [← eH]; exact upd_same
    clear eH
    refine ⟨q, rfl, ⟨_, SqL.of h3⟩, fun D2 n2 => lc_pure (K := K) (a := q) (xs := B.map V.str) (outM B V.str) (fun H' e => SqL.of (e _ _ h3)) n2 rfl (fun i x hx e => ?_) fun H4 s4 h4 => ?_⟩
    · obtain ⟨z, hz, rfl⟩ := str_at hx
      exact ⟨rfl, _, rfl, z, rfl, step_ok (outM_len (by omega)) (outM_succ hz)⟩
    rw [outM_end (List.length_map ..)] at h4
    refine ⟨D2, B, rfl, .inl (SqL.of h4), by omega, fun ys q1 srt nd mem lys nq1 => ?_⟩
    have s5 : Same H4 (upd H4 q1 (.lst (ys.map V.str))) := same_upd nq1
    generalize eH : upd H4 q1 (.lst (ys.map V.str)) = H5 at s5 ⊢
    have h5 : H5 q1 = some (.lst (ys.map V.str)) := by rw [← eH]; exact upd_same
    clear eH
    have s25 := ((s2.trans s3).trans s4).trans s5
    have g5 := g1.same s25
    refine ⟨_, rfl, _, rfl, madd_go W.g.G W.g.J (m1.same s25) g5.m (by omega) fun r us H6 _ s6 e6 M6 => ?_⟩
    have eu : us = ys := sorted_uniq M6.srt srt M6.nd nd fun z => by
      rw [mem z, e6 z, ← eB, List.mem_append, List.mem_filter]
      simp
    subst eu
    obtain ⟨dy, t', d', j1, j2, j3⟩ := M6.at_
    refine ⟨r, dy, _, rfl, j1, r, dy, _, _, rfl, j1, flds_names t' d', t', _, rfl, .inr (SqT.of j2), fun e ne => ?_⟩
    have s7 : Same H6 (upd H6 e (.lst (us.map V.str))) := same_upd ne
    have oku : OkS us := okS_names M6.nm
    refine ⟨_, rfl, _, _, .lst (SqL.of upd_same) (dpAll_str us), .lst (SqL.of (s7 _ _ (s6 _ _ h5))) (dpAll_str us), lstD_shaped oku, lstD_shaped oku, _, rfl, ?_⟩
    have ee : PyData.eqv (.list (strD us)) (.list (strD us)) = true := by
      simp only [PyData.eqv]
      rw [strD_eqv, decide_eq_true rfl]
    rw [ee]
    refine iteF ?_
    exact ⟨s1.trans ((s25.trans s6).trans s7), _, _, _, _, rfl⟩
  · rintro σ H1 ⟨s1, y6, y7, y8, y9, rfl⟩
    exact ⟨ch, l1, l2, sm, bk, cs, gs, ss, Z, _, _, _, _, _, rfl, g.same s1, mb.same s1, fin.same s1⟩
end
end K1

namespace K1
open PySem PySem.Spec
open PyProof.Rows L2 L2H EnT StX SmX TxS DuX XdI Tr3 CnB ClX
/-- the text that the law puts together -/
def lawText (n m : Nat) : Str := ("Change(+" : Str) ++ (toString (n : Int) : Str) ++ (", -" : Str) ++ (toString (m : Int) : Str) ++ (")" : Str)
theorem text_same : ∀ i j : Fin 21, Str.empty ++ ("Change(+" : Str) ++ (toString (i.val : Int) : Str) ++ (", -" : Str) ++ (toString (j.val : Int) : Str) ++ (")" : Str) = lawText i.val j.val ∧ PyData.strOk (lawText i.val j.val) = true ∧ (toString (i.val : Int) : Str).length ≤ 2 := by decide +kernel
theorem text_eq {cs gs : List Str} (h1 : cs.length ≤ 20) (h2 : gs.length ≤ 20) : chgText cs gs = lawText cs.length gs.length := (text_same ⟨cs.length, by omega⟩ ⟨gs.length, by omega⟩).1
theorem text_ok {n m : Nat} (h1 : n ≤ 20) (h2 : m ≤ 20) : PyData.strOk (lawText n m) = true := (text_same ⟨n, by omega⟩ ⟨m, by omega⟩).2.1
theorem text_short {n : Nat} (h1 : n ≤ 20) : (toString (n : Int) : Str).length ≤ 2 := (text_same ⟨n, by omega⟩ ⟨0, by omega⟩).2.2
abbrev rowD (i : Int) (b : Bool) (s : Str) : PyData := .list [.int i, .bool b, .str s]
theorem rowD_lay {i : Int} {b : Bool} {s : Str} (h : PyData.strOk s = true) : PyData.canLay0 (rowD i b s) = true := by
  simp [PyData.canLay0, PyData.canLayAll0, h]
theorem rowD_shaped {i : Int} {b : Bool} {s : Str} (h : PyData.strOk s = true) : SeqAt.shaped (rowD i b s) = true := by
  show (PyData.canLay0 (rowD i b s) && decide (PyData.depth (rowD i b s) ≤ 64)) = true
  rw [rowD_lay h]
  simp [PyData.depth, PyData.depthAll]
theorem two_okS {xs ys : List Str} (h1 : OkS xs) (h2 : OkS ys) : ∀ y ∈ [xs, ys], OkS y := fun y hy => by
  rcases List.mem_cons.mp hy with e | e
  · rw [e]
    exact h1
  · rw [List.mem_singleton.mp e]
    exact h2
theorem two_lists {H : Hp} {a b : Addr} {xs ys : List Str} (h1 : H a = some (.lst (xs.map V.str))) (h2 : H b = some (.lst (ys.map V.str))) : Lists H [a, b] [xs, ys] := ⟨rfl, fun j d y p q => by
  match j, p, q with
  | 0, p, q => cases p; cases q; exact h1
  | 1, p, q => cases p; cases q; exact h2
  | n + 2, p, q => cases p⟩
structure AtO0 (C D : Addr) (σ : L2.St) (H : Hp) (En : Ends) : Prop where
  ex : ∃ (ch l1 l2 sm : Addr) (cs gs : List Str) (ss : List Addr) (Z : List (List Str)) (x4 x5 x6 x7 x8 x9 : Option V), σ = [some (.ref ch), some (.ref l1), some (.ref l2), some (.ref sm), x4, x5, x6, x7, x8, x9] ∧ Og C D ch l1 l2 sm cs gs ss Z H ∧ FinS H En
/-- [list(c.came.names), list(c.went.names)] of lists that stand -/
theorem sides_ne {K : PySem.W.Frag} {C D c a b : Addr} {xs ys : List Str} {H : Hp} {te : TE} {ta tb : TE} {σ : L2.St} {Q : VK} (m : ChgAt C D H c xs ys) (ha : H a = some (.lst (xs.map V.str))) (hb : H b = some (.lst (ys.map V.str))) (ht : ∀ (H' : Hp) (Q' : VK), Same H H' → Q' (.ref c) H' → te σ H' Q')
    (hta : ∀ (H' : Hp) (Q' : VK), Q' (.ref a) H' → ta σ H' Q') (htb : ∀ (H' : Hp) (Q' : VK), Q' (.ref b) H' → tb σ H' Q') (q : ∀ H', Same H H' → Q (.bl false) H') :
    tOp (rNeD K) (tLst (tCons (tCB (rListOf K) (tCons (tProp C (getSp C "_names") [] E0 (tProp D (getSp D "_came") [] E0 te)) tNil)) (tCons (tCB (rListOf K) (tCons (tProp C (getSp C "_names") [] E0 (tProp D (getSp D "_went") [] E0 te)) tNil)) tNil))) (tLst (tCons ta (tCons tb tNil))) σ H Q := by
  obtain ⟨ok1, ok2⟩ := m.okS
  refine nm_came m (fun Q' h => ht H Q' (Same.refl H) h) fun r1 n1 => ?_
  have s1 : Same H (upd H r1 (.lst (xs.map V.str))) := same_upd n1
  generalize eH : upd H r1 (.lst (xs.map V.str)) = H1 at s1 ⊢
  have h1 : H1 r1 = some (.lst (xs.map V.str)) := by rw [← eH]; exact upd_same
  clear eH
  refine nm_went (m.same s1) (fun Q' h => ht H1 Q' s1 h) fun r2 n2 => ?_
  have s2 : Same H1 (upd H1 r2 (.lst (ys.map V.str))) := same_upd n2
  generalize eH : upd H1 r2 (.lst (ys.map V.str)) = H2 at s2 ⊢
  have h2 : H2 r2 = some (.lst (ys.map V.str)) := by rw [← eH]; exact upd_same
  clear eH
  refine ⟨(by show 2 ≤ sizeLine; decide), fun r3 n3 => ?_⟩
  have s3 : Same H2 (upd H2 r3 (.lst [.ref r1, .ref r2])) := same_upd n3
  generalize eH : upd H2 r3 (.lst [.ref r1, .ref r2]) = H3 at s3 ⊢
  have h3 : H3 r3 = some (.lst [.ref r1, .ref r2]) := by rw [← eH]; exact upd_same
  clear eH
  refine hta _ _ (htb _ _ ⟨(by show 2 ≤ sizeLine; decide), fun r4 n4 => ?_⟩)
  have s4 : Same H3 (upd H3 r4 (.lst [.ref a, .ref b])) := same_upd n4
  have s14 := (s2.trans s3).trans s4
  have L1' := two_lists (s14 _ _ h1) ((s3.trans s4) _ _ h2)
  have L2' := two_lists ((s1.trans s14) _ _ ha) ((s1.trans s14) _ _ hb)
  refine ⟨_, _, .lst (SqL.of (s4 _ _ h3)) (L1'.dp (K := K)), .lst (SqL.of upd_same) (L2'.dp (K := K)), lsD_shaped (two_okS ok1 ok2), lsD_shaped (two_okS ok1 ok2), ?_⟩
  rw [lsD_eqv (two_okS ok1 ok2)]
  exact q _ (s1.trans s14)
section
variable {w : World} {P : Program} {base : Heap} {mg : Str → Option Value} {K : PySem.W.Frag} {C D CN CM CA CC S1 S2 S3 : Addr} {mc md : Value}
variable {fc : Addr} {cd : Value} {A : Around} {outer : List Env} {st : Shared} {H0 : Hp}
theorem or4 (W : Wd P w K mg base C D CN CM CA CC S1 S2 S3 mc md) (hr : Room 11 (A.deeper (envOfC "_law_one_right" (defScope s_L_one_right) st.heap.objs.size fc cd))) :
    PSs (cxR1 P w K mg base fc cd A outer st H0) (orRest 4) (fun En σ H => AtO5 C D σ H En) := by
  refine pss_of fun En σ H hyp => ?_
  obtain ⟨ch, l1, l2, sm, bk, cs, gs, ss, Z, x4, x6, x7, x8, x9, eσ, g, mb, fin⟩ := hyp.ex
  have M := W.g.b.M
  have T := W.g.b.T
  obtain ⟨pN, gN, fdN, pr, GN, bN⟩ := W.g.b.prop
  obtain ⟨pC, gC, fdC, prC, GC, bC⟩ := W.p.came
  obtain ⟨pW, gW, fdW, prW, GW, bW⟩ := W.p.went
  obtain ⟨gE, mE, FE, _⟩ := W.eqC
  obtain ⟨gA, mA, FA⟩ := W.absC
  obtain ⟨gM, mM, FM⟩ := W.negC
  have hun := hr.un
  have hu : (A.deeper (envOfC "_law_one_right" (defScope s_L_one_right) st.heap.objs.size fc cd)).units + 64 < cLine := by omega
  refine ⟨_, pss_cons (ps_if (PW.pt (pw_or (pt_cmpR (op_neD (by exact hu)) (pe_lst (pa_cons (pe_callTy call_listK (by rfl) T.list (by decide +kernel) (pa_cons (pe_prop (pe_prop (pv 5) W.g.G.cl prC GC (hr.mono (by decide)) bC .nil pass0 rfl) M.cl pr GN (hr.mono (by decide)) bN .nil pass0 rfl) pa_nil))
        (pa_cons (pe_callTy call_listK (by rfl) T.list (by decide +kernel) (pa_cons (pe_prop (pe_prop (pv 5) W.g.G.cl prW GW (hr.mono (by decide)) bW .nil pass0 rfl) M.cl pr GN (hr.mono (by decide)) bN .nil pass0 rfl) pa_nil)) pa_nil))) (pe_lst (pa_cons (pv 2) (pa_cons (pv 1) pa_nil))) (nomark _))
      (pw_or (pt_cmpR (op_neX mE W.neD FE (hr.mono (by decide))) (pe_un (un_negO mM FM (hr.mono (by decide)) passL) (pv 5)) (pv 0) (nomark _))
      (pw_or1 (pt_cmpR op_ne (pe_callB (call_absO mA FA (hr.mono (by decide)) pass0) (by rfl) T.abs (by decide +kernel) (pa_cons (pv 5) pa_nil)) (pe_callB (call_absO mA FA (hr.mono (by decide)) pass0) (by rfl) T.abs (by decide +kernel) (pa_cons (pv 0) pa_nil)) (nomark _)))))) (pss_one (ps_ret pe_bl)) pss_nil)
    (or5 W hr), ?_⟩
  subst eσ
  have lc := g.lc
  have lg := g.lg
  refine sides_ne mb g.h2 g.h1 (fun H' Q' _ h => ⟨_, rfl, h⟩) (fun H' Q' h => ⟨_, rfl, h⟩) (fun H' Q' h => ⟨_, rfl, h⟩) fun H7 s7 => ⟨_, rfl, iteF ?_⟩
  have g7 := g.same s7
  have mb7 := mb.same s7
  refine ⟨_, rfl, cneg_go mb7 (by omega) fun b2 H8 nb2 s8 m8 => ⟨_, rfl, cne_go W.g.G W.g.J m8 (g7.same s8).m ?_⟩⟩
  rw [decide_eq_true rfl, decide_eq_true rfl]
  refine ⟨_, rfl, iteF ?_⟩
  have g8 := g7.same s8
  have mb8 := mb7.same s8
  obtain ⟨dx, a, b, k1, k2, k3⟩ := mb8.at_
  refine ⟨_, rfl, bk, dx, _, rfl, k1, bk, gs, cs, rfl, mb8, ?_⟩
  obtain ⟨dx', a', b', k1', k2', k3'⟩ := g8.m.at_
  refine ⟨_, rfl, ch, dx', _, rfl, k1', ch, cs, gs, rfl, g8.m, rfl, ?_⟩
  rw [decide_eq_true (by rw [Int.add_comm])]
  refine ⟨_, rfl, iteF ?_⟩
  exact ⟨ch, l1, l2, sm, bk, cs, gs, ss, Z, _, _, _, _, _, rfl, g8, mb8, (fin.same s7).same s8⟩
theorem or0 (W : Wd P w K mg base C D CN CM CA CC S1 S2 S3 mc md) (hgd : A.guards = some []) (hr : Room 11 (A.deeper (envOfC "_law_one_right" (defScope s_L_one_right) st.heap.objs.size fc cd))) :
    PSs (cxR1 P w K mg base fc cd A outer st H0) (orRest 0) (fun En σ H => AtO0 C D σ H En) := by
  refine pss_of fun En σ H hyp => ?_
  obtain ⟨ch, l1, l2, sm, cs, gs, ss, Z, x4, x5, x6, x7, x8, x9, eσ, g, fin⟩ := hyp.ex
  have M := W.g.b.M
  have T := W.g.b.T
  obtain ⟨pN, gN, fdN, pr, GN, bN⟩ := W.g.b.prop
  obtain ⟨pC, gC, fdC, prC, GC, bC⟩ := W.p.came
  obtain ⟨pW, gW, fdW, prW, GW, bW⟩ := W.p.went
  obtain ⟨gE, mE, FE, _⟩ := W.eqC
  obtain ⟨gA, mA, FA⟩ := W.absC
  obtain ⟨gB, mB, FB⟩ := W.boolC
  obtain ⟨gM, mM, FM⟩ := W.negC
  have hun := hr.un
  have hu : (A.deeper (envOfC "_law_one_right" (defScope s_L_one_right) st.heap.objs.size fc cd)).units + 64 < cLine := by omega
  refine ⟨_, pss_cons (ps_if (pt_cmpR (op_neD (by exact hu)) (pe_lst (pa_cons (pe_callTy call_listK (by rfl) T.list (by decide +kernel) (pa_cons (pe_prop (pe_prop (pv 0) W.g.G.cl prC GC (hr.mono (by decide)) bC .nil pass0 rfl) M.cl pr GN (hr.mono (by decide)) bN .nil pass0 rfl) pa_nil))
        (pa_cons (pe_callTy call_listK (by rfl) T.list (by decide +kernel) (pa_cons (pe_prop (pe_prop (pv 0) W.g.G.cl prW GW (hr.mono (by decide)) bW .nil pass0 rfl) M.cl pr GN (hr.mono (by decide)) bN .nil pass0 rfl) pa_nil)) pa_nil))) (pe_lst (pa_cons (pv 1) (pa_cons (pv 2) pa_nil))) (nomark _)) (pss_one (ps_ret pe_bl)) pss_nil)
    (pss_cons (ps_set (i := 4) scOr.nd rfl (.inl rfl) (pe_op op_add_str (pe_op op_add_str (pe_op op_add_str (pe_op op_add_str pe_str (pe_callTy call_str_int (by rfl) T.str (by decide +kernel) (pa_cons (pe_callB call_len_seq (by rfl) T.len PySem.boot_len (pa_cons (pv 1) pa_nil)) pa_nil))) pe_str)
        (pe_callTy call_str_int (by rfl) T.str (by decide +kernel) (pa_cons (pe_callB call_len_seq (by rfl) T.len PySem.boot_len (pa_cons (pv 2) pa_nil)) pa_nil))) pe_str))
    (pss_cons (ps_if (pt_cmpR (op_neD (by exact hu)) (pe_lst (pa_cons (pe_callB (call_absO mA FA (hr.mono (by decide)) pass0) (by rfl) T.abs (by decide +kernel) (pa_cons (pv 0) pa_nil)) (pa_cons (pe_callTy (call_boolB mB FB (hr.mono (by decide)) pass0) (by rfl) T.bool (by decide +kernel) (pa_cons (pv 0) pa_nil))
        (pa_cons (pe_callB (call_reprV W.r (by exact hgd) (hr.mono (by decide))) (by rfl) T.repr (by decide +kernel) (pa_cons (pv 0) pa_nil)) pa_nil))))
        (pe_lst (pa_cons (pe_op op_add (pe_callB call_len_seq (by rfl) T.len PySem.boot_len (pa_cons (pv 1) pa_nil)) (pe_callB call_len_seq (by rfl) T.len PySem.boot_len (pa_cons (pv 2) pa_nil))) (pa_cons (pe_cmpR (op_neD (by exact hu)) (pe_op op_cat (pv 1) (pv 2)) (pe_lst pa_nil) (nomark _)) (pa_cons (pv 4) pa_nil)))) (nomark _)) (pss_one (ps_ret pe_bl)) pss_nil)
    (pss_cons (ps_set (i := 5) scOr.nd rfl (.inl rfl) (pe_un (un_negO mM FM (hr.mono (by decide)) passL) (pv 0)))
    (or4 W hr)))), ?_⟩
  subst eσ
  have lc := g.lc
  have lg := g.lg
  obtain ⟨ok1, ok2⟩ := g.m.okS
  refine sides_ne g.m g.h1 g.h2 (fun H' Q' _ h => ⟨_, rfl, h⟩) (fun H' Q' h => ⟨_, rfl, h⟩) (fun H' Q' h => ⟨_, rfl, h⟩) fun H1 s1 => ⟨_, rfl, iteF ?_⟩
  have g1 := g.same s1
  have fin1 := fin.same s1
  have t1 := text_short lc
  have t2 := text_short lg
  have e0 : ("Change(+" : Str).length = 8 := by decide +kernel
  have e1 : (", -" : Str).length = 3 := by decide +kernel
  have e2 : (")" : Str).length = 1 := by decide +kernel
  -- the text
  refine ⟨_, rfl, l1, _, rfl, .inl (SqL.of g1.h1), ?_⟩
  rw [List.length_map]
  refine ⟨_, rfl, RpD.log_small (i := (cs.length : Nat)) (by omega), _, _, rfl, rfl, by rw [e0, sizeLine_eq]; omega, _, _, rfl, rfl, by rw [strLen_append, e0, e1, sizeLine_eq]; omega, ?_⟩
  refine ⟨_, rfl, l2, _, rfl, .inl (SqL.of g1.h2), ?_⟩
  rw [List.length_map]
  refine ⟨_, rfl, RpD.log_small (i := (gs.length : Nat)) (by omega), _, _, rfl, rfl, by rw [strLen_append, strLen_append, e0, e1, sizeLine_eq]; omega, _, _, rfl, rfl, by rw [strLen_append, strLen_append, strLen_append, e0, e1, e2, sizeLine_eq]; omega, ?_⟩
  -- abs, bool, repr
  obtain ⟨dx, a, b, k1, k2, k3⟩ := g1.m.at_
  refine ⟨_, rfl, ch, dx, _, rfl, k1, ch, cs, gs, rfl, g1.m, ?_⟩
  refine ⟨_, rfl, ch, dx, _, rfl, k1, ch, cs, gs, rfl, g1.m, _, rfl, ?_⟩
  refine ⟨_, rfl, .ref ch, _, rfl, .chg g1.m (by omega) (by omega), (by show 3 ≤ sizeLine; decide), fun q nq => ?_⟩
  have s2 : Same H1 (upd H1 q (.lst [.int ((cs.length : Nat) + (gs.length : Nat)), .bl ((cs.length != 0) || (gs.length != 0)), .str (chgText cs gs)])) := same_upd nq
  generalize eH : upd H1 q (.lst [.int ((cs.length : Nat) + (gs.length : Nat)), .bl ((cs.length != 0) || (gs.length != 0)), .str (chgText cs gs)]) = H2 at s2 ⊢
  have h2 : H2 q = some (.lst [.int ((cs.length : Nat) + (gs.length : Nat)), .bl ((cs.length != 0) || (gs.length != 0)), .str (chgText cs gs)]) := by rw [← eH]; exact upd_same
  clear eH
  have g2 := g1.same s2
  refine ⟨_, rfl, l1, _, rfl, .inl (SqL.of g2.h1), ?_⟩
  rw [List.length_map]
  refine ⟨_, rfl, l2, _, rfl, .inl (SqL.of g2.h2), ?_⟩
  rw [List.length_map]
  refine ⟨_, _, rfl, rfl, ?_⟩
  refine ⟨_, rfl, _, rfl, l1, l2, _, _, rfl, rfl, g2.h1, g2.h2, by rw [List.length_map, List.length_map, sizeLine_eq]; omega, fun r nr => ?_⟩
  rw [← List.map_append]
  have s3 : Same H2 (upd H2 r (.lst ((cs ++ gs).map V.str))) := same_upd nr
  generalize eH : upd H2 r (.lst ((cs ++ gs).map V.str)) = H3 at s3 ⊢
  have h3 : H3 r = some (.lst ((cs ++ gs).map V.str)) := by rw [← eH]; exact upd_same
  clear eH
  refine ⟨(by show 0 ≤ sizeLine; decide), fun e ne => ?_⟩
  have s4 : Same H3 (upd H3 e (.lst [])) := same_upd ne
  have ee : PyData.eqv (.list (strD (cs ++ gs))) (.list (strD [])) = decide (cs ++ gs = []) := by
    simp only [PyData.eqv]
    exact strD_eqv (cs ++ gs) []
  refine ⟨_, _, .lst (SqL.of (s4 _ _ h3)) (dpAll_str (cs ++ gs)), .lst (SqL.of upd_same) (dpAll_str []), lstD_shaped (okS_app ok1 ok2), lstD_shaped (fun z hz => by cases hz), ?_⟩
  rw [ee]
  generalize eH : upd H3 e (.lst []) = H4 at s4 ⊢
  clear eH
  refine ⟨_, rfl, (by show 3 ≤ sizeLine; decide), fun q2 nq2 => ?_⟩
  have hb : (!decide (cs ++ gs = [])) = ((cs.length != 0) || (gs.length != 0)) := by
    cases cs <;> cases gs <;> simp
  rw [hb]
  have tOk := text_ok lc lg
  have s5 := (s3.trans s4).trans (same_upd (o := .lst [.int ((cs.length : Nat) + (gs.length : Nat)), .bl ((cs.length != 0) || (gs.length != 0)), .str (lawText cs.length gs.length)]) nq2)
  rw [text_eq lc lg] at h2
  refine ⟨rowD _ _ _, rowD _ _ _, .lst (SqL.of (s5 _ _ h2)) (.cons (.int _) (.cons (.bl _) (.cons (.str _) .nil))), .lst (SqL.of upd_same) (.cons (.int _) (.cons (.bl _) (.cons (.str _) .nil))), rowD_shaped tOk, rowD_shaped tOk, _, rfl, ?_⟩
  have ev : PyData.eqv (rowD ((cs.length : Nat) + (gs.length : Nat)) ((cs.length != 0) || (gs.length != 0)) (lawText cs.length gs.length)) (rowD ((cs.length : Nat) + (gs.length : Nat)) ((cs.length != 0) || (gs.length != 0)) (("Change(+" : Str) ++ (toString (cs.length : Int) : Str) ++ (", -" : Str) ++ (toString (gs.length : Int) : Str) ++ (")" : Str))) = true := SeqAt.eqv_refl _ (rowD_lay tOk)
  rw [ev]
  refine iteF ?_
  have s15 := s2.trans s5
  have g5 := g1.same s15
  have fin5 := fin1.same s15
  -- the opposite
  refine ⟨_, rfl, cneg_go (cs := cs) (gs := gs) g5.m (by omega) fun bk H6 nb s6 mb => ?_⟩
  exact ⟨ch, l1, l2, sm, bk, cs, gs, ss, Z, _, _, _, _, _, rfl, g5.same s6, mb, fin5.same s6⟩
def spOne (C D : Addr) : Sp := fun vs H Q _ => ∃ (ch l1 l2 sm : Addr) (cs gs : List Str) (ss : List Addr) (Z : List (List Str)), vs = [.ref ch, .ref l1, .ref l2, .ref sm] ∧ Og C D ch l1 l2 sm cs gs ss Z H ∧ ∀ H', Same H H' → Q (.bl true) H'
theorem ok_one {c : Addr} (W : Wd P w K mg base C D CN CM CA CC S1 S2 S3 mc md) (FR : FunC K "_law_one_right" "_law_one_right" s_L_one_right fc c) : FnG P w K mg base CX0 12 fc (spOne C D) := by
  intro A outer st H us vs Q E hgd hr e0 r hyp
  obtain ⟨ch, l1, l2, sm, cs, gs, ss, Z, rfl, g, q⟩ := hyp
  obtain ⟨oc, od, kV, doc, pm, an, ct, osl, lk, hcd⟩ := FR.ex
  refine LamX.run_ofS (N := nmOr) (ps := psOr) (us := us) (vs := [.ref ch, .ref l1, .ref l2, .ref sm]) lk hcd scOr hr e0 ?_ r rfl fun hr' => ⟨_, (or0 W hgd hr').nox, ?_⟩
  · have b : L2.Binds K (PySem.W.fnOf "_law_one_right" "_law_one_right" (defArgs s_L_one_right) (defBody s_L_one_right) (defScope s_L_one_right) .none kV doc pm an (.ref c) ct) psOr [] := .all fun us hl => match us, hl with | [_, _, _, _], _ => rfl
    have hl : us.length = 4 := by rw [← r.length]; rfl
    have z := b st us (e0.mod.kin.keeps fun b o e => (e0.bs b o e).1) (by rw [List.append_nil]; exact hl)
    rw [List.append_nil] at z
    exact z
  · exact ⟨ch, l1, l2, sm, cs, gs, ss, Z, _, _, _, _, _, _, rfl, g, fun H' m => q H' m⟩
end
end K1

namespace K1
open PySem PySem.Spec
open PyProof.Rows L2 L2H EnT StX SmX TxS DuX XdI Tr3 CnB ClX
/-! ### the list of what is told grows -/
def Fin (p : Addr) (Tb : List (Addr × Str)) (H : Hp) (D : Ends) : Prop := ∀ H', Mv p Tb H H' → D.rt (.bl true) H'
theorem Fin.mv {p : Addr} {Tb : List (Addr × Str)} {H H1 : Hp} {D : Ends} (f : Fin p Tb H D) (m : Mv p Tb H H1) : Fin p Tb H1 D := fun H' m' => f H' (m.trans m')
/-- told stands at t: not there when the def began -/
structure Fin0 (p : Addr) (Tb : List (Addr × Str)) (t : Addr) (H : Hp) (D : Ends) : Prop where
  ex : ∃ H00, Mv p Tb H00 H ∧ (∀ o, H00 t = some o → ∃ ps, o = .tbl ps) ∧ Fin p Tb H00 D
theorem Fin0.mv {p t : Addr} {Tb : List (Addr × Str)} {H H1 : Hp} {D : Ends} (f : Fin0 p Tb t H D) (m : Mv p Tb H H1) : Fin0 p Tb t H1 D := by
  obtain ⟨H00, a, b, c⟩ := f.ex
  exact ⟨H00, a.trans m, b, c⟩
theorem Fin0.new {p t : Addr} {Tb : List (Addr × Str)} {H : Hp} {D : Ends} (f : Fin p Tb H D) (hp : PoolAt H p) (T : LamX.Tabs Tb H) (n : H t = none) : Fin0 p Tb t H D := ⟨H, .refl hp T, fun o e => (by rw [n] at e; cases e), f⟩
theorem Fin0.fin {p t : Addr} {Tb : List (Addr × Str)} {H : Hp} {D : Ends} (f : Fin0 p Tb t H D) : Fin p Tb H D := by
  obtain ⟨H00, a, b, c⟩ := f.ex
  exact c.mv a
theorem Fin0.set {p t : Addr} {Tb : List (Addr × Str)} {H : Hp} {D : Ends} {as : List Addr} {o : HO} (f : Fin0 p Tb t H D) (h : H t = some (.lst (as.map V.ref))) : Fin0 p Tb t (upd H t o) D := by
  obtain ⟨H00, a, b, c⟩ := f.ex
  have tp : p ≠ t := fun e => by
    obtain ⟨x, y, z, hz⟩ := a.rx.pool
    rw [e, h] at hz
    exact refs_nopool x y z (Option.some.inj hz)
  refine ⟨H00, ⟨⟨?_, fun d q n e nt => ?_⟩, tabs_upd h a.tabs⟩, b, c⟩
  · obtain ⟨x, y, z, hz⟩ := a.rx.pool
    exact ⟨x, y, z, by rw [upd_ne tp]; exact hz⟩
  · rw [upd_ne (fun z => by
      rw [z] at e
      obtain ⟨ps, hps⟩ := b q e
      exact nt ps hps)]
    exact a.rx.keep d q n e nt
theorem upd_keep {H : Hp} {t b : Addr} {o1 o2 o : HO} (h : H t = some o1) (hb : H b = some o2) (n : o2 ≠ o1) : upd H t o b = some o2 := by
  rw [upd_ne (fun e => by rw [e, h] at hb; exact n (Option.some.inj hb).symm)]
  exact hb
/-! ### what is no Members -/
abbrev sa : Str := Str.ofString "a"
inductive OddD (H : Hp) : V → PyData → Prop where
  | non : OddD H .non .none
  | int : OddD H (.int 0) (.int 0)
  | str : OddD H (.str sa) (.str sa)
  | tup0 {a : Addr} (e : H a = some (.tup [])) : OddD H (.ref a) (.tuple [])
  | tup1 {a : Addr} (e : H a = some (.tup [.str sa])) : OddD H (.ref a) (.tuple [.str sa])
  | lst {a : Addr} (e : H a = some (.lst [])) : OddD H (.ref a) (.list [])
  | dK {a : Addr} (e : H a = some (.dK [])) : OddD H (.ref a) (.dict [])
  | bl : OddD H (.bl true) (.bool true)
theorem OddD.keep {H H' : Hp} {v : V} {d : PyData} (h : OddD H v d) (k : ∀ a o, H a = some o → (∀ x y z : Int, o ≠ .lst [.int x, .int y, .int z]) → (∀ ps, o ≠ .tbl ps) → (∀ xs, o = .lst xs → xs = []) → H' a = some o) : OddD H' v d := by
  cases h with
  | non => exact .non
  | int => exact .int
  | str => exact .str
  | tup0 e => exact .tup0 (k _ _ e (fun _ _ _ e => by cases e) (fun _ e => by cases e) (fun _ e => by cases e))
  | tup1 e => exact .tup1 (k _ _ e (fun _ _ _ e => by cases e) (fun _ e => by cases e) (fun _ e => by cases e))
  | lst e => exact .lst (k _ _ e (fun _ _ _ e => by cases e) (fun _ e => by cases e) (fun _ e => by cases e; rfl))
  | dK e => exact .dK (k _ _ e (fun _ _ _ e => by cases e) (fun _ e => by cases e) (fun _ e => by cases e))
  | bl => exact .bl
theorem OddD.mv {p : Addr} {Tb : List (Addr × Str)} {H H' : Hp} {v : V} {d : PyData} (m : Mv p Tb H H') (hp : PoolAt H p) (h : OddD H v d) : OddD H' v d := h.keep fun a o e n nt _ => m.at hp e n nt
theorem OddD.set {t : Addr} {H : Hp} {as : List Addr} {o : HO} {v : V} {d : PyData} (ht : H t = some (.lst (as.map V.ref))) (hn : as ≠ []) (h : OddD H v d) : OddD (upd H t o) v d := h.keep fun a o e _ _ nl => upd_keep ht e fun q => by
  subst q
  have := nl _ rfl
  exact hn (List.map_eq_nil_iff.mp this)
theorem OddD.vok {H : Hp} {v : V} {d : PyData} (h : OddD H v d) : VOk H v := by
  cases h with
  | non => exact .inr .non
  | int => exact .inr (.int _)
  | str => exact .inl ⟨_, rfl, by rw [sizeLine_eq]; decide +kernel⟩
  | tup0 e => exact .inr (.tup e)
  | tup1 e => exact .inr (.tup e)
  | lst e => exact .inr (.lst e)
  | dK e => exact .inr (.dK e)
  | bl => exact .inr (.bl _)
theorem OddD.shd {K : PySem.W.Frag} {H : Hp} {v : V} {d : PyData} (h : OddD H v d) : RpD.ShD K H v d := by
  cases h with
  | non => exact .inl ⟨.non, .of rfl (by decide) (by decide)⟩
  | int => exact .inl ⟨.int _, .of (by decide) (by decide) (by decide)⟩
  | str => exact .inl ⟨.str _, .of (by decide +kernel) (by decide +kernel) (by decide +kernel)⟩
  | tup0 e => exact .inl ⟨.tup (SqT.of e) .nil, .of rfl (by decide) (by decide)⟩
  | tup1 e => exact .inl ⟨.tup (SqT.of e) (.cons (.str _) .nil), .of (by decide +kernel) (by decide +kernel) (by decide +kernel)⟩
  | lst e => exact .inl ⟨.lst (SqL.of e) .nil, .of rfl (by decide) (by decide)⟩
  | dK e => exact .inr ⟨_, rfl, e, rfl⟩
  | bl => exact .inl ⟨.bl _, .of rfl (by decide) (by decide)⟩
theorem OddD.ok {H : Hp} {v : V} {d : PyData} (h : OddD H v d) : PyData.strOk d.shown = true := by
  cases h <;> decide +kernel
theorem Mv.chg {C D p q : Addr} {Tb : List (Addr × Str)} {H H' : Hp} {cs gs : List Str} (m : Mv p Tb H H') (hp : PoolAt H p) (h : ChgAt C D H q cs gs) : ChgAt C D H' q cs gs := by
  obtain ⟨⟨dx, a, b, h1, h2, h3⟩, e⟩ := h
  exact ⟨⟨dx, a, b, m.at hp h1 (fun _ _ _ e => by cases e) (fun _ e => by cases e), m.mem hp h2, m.mem hp h3⟩, e⟩
/-- what is no Members (true), or no change (false), and its text -/
inductive Odd (C D : Addr) (H : Hp) : Bool → V → Str → Prop where
  | dat {b : Bool} {v : V} {d : PyData} (h : OddD H v d) : Odd C D H b v d.shown
  | chg {a : Addr} {cs gs : List Str} (m : ChgAt C D H a cs gs) (l1 : cs.length ≤ 20) (l2 : gs.length ≤ 20) : Odd C D H true (.ref a) (chgText cs gs)
  | mem {a : Addr} {zs : List Str} (m : MemAt C H a zs) (l : zs.length ≤ 20) : Odd C D H false (.ref a) (memText zs)
theorem Odd.mv {C D p : Addr} {Tb : List (Addr × Str)} {H H' : Hp} {b : Bool} {v : V} {x : Str} (m : Mv p Tb H H') (hp : PoolAt H p) (h : Odd C D H b v x) : Odd C D H' b v x := by
  cases h with
  | dat h => exact .dat (h.mv m hp)
  | chg h l1 l2 => exact .chg (m.chg hp h) l1 l2
  | mem h l => exact .mem (m.mem hp h) l
theorem Odd.set {C D t : Addr} {H : Hp} {as : List Addr} {o : HO} {b : Bool} {v : V} {x : Str} (ht : H t = some (.lst (as.map V.ref))) (hn : as ≠ []) (h : Odd C D H b v x) : Odd C D (upd H t o) b v x := by
  cases h with
  | dat h => exact .dat (h.set ht hn)
  | chg h l1 l2 => exact .chg (h.set ht) l1 l2
  | mem h l => exact .mem (h.set ht) l
theorem Odd.same {C D : Addr} {H H' : Hp} {b : Bool} {v : V} {x : Str} (s : Same H H') (h : Odd C D H b v x) : Odd C D H' b v x := by
  cases h with
  | dat h => exact .dat (h.keep fun a o e _ _ _ => s a o e)
  | chg h l1 l2 => exact .chg (h.same s) l1 l2
  | mem h l => exact .mem (h.same s) l
theorem Odd.sv {K : PySem.W.Frag} {C D : Addr} {H : Hp} {b : Bool} {v : V} {x : Str} (h : Odd C D H b v x) : SV K C D H v x := by
  cases h with
  | dat h => exact .dat h.shd
  | chg h l1 l2 => exact .chg h (by omega) (by omega)
  | mem h l => exact .mem h
theorem mtext_ok : ∀ i : _root_.Fin 21, PyData.strOk (Str.empty ++ ("Members(" : Str) ++ (toString (i.val : Int) : Str) ++ (")" : Str)) = true := by decide +kernel
theorem Odd.ok {C D : Addr} {H : Hp} {b : Bool} {v : V} {x : Str} (h : Odd C D H b v x) : PyData.strOk x = true := by
  cases h with
  | dat h => exact h.ok
  | chg h l1 l2 =>
    rw [text_eq l1 l2]
    exact text_ok l1 l2
  | mem h l => exact mtext_ok ⟨_, by omega⟩
theorem Odd.noC {K : PySem.W.Frag} {mg : Str → Option Value} {C D : Addr} {H : Hp} {v : V} {x : Str} (I : MemIs K C) (G : ChgC K mg D) (J : MemIs K D) (T : Two K C D) (h : Odd C D H true v x) : NotC K C H v := by
  cases h with
  | dat h => exact h.vok.notC I
  | chg h l1 l2 => exact ⟨_, chg_ty G J h, T.dc⟩
theorem Odd.noD {K : PySem.W.Frag} {mg : Str → Option Value} {C D : Addr} {H : Hp} {v : V} {x : Str} (M : MemC K mg C) (I : MemIs K C) (J : MemIs K D) (T : Two K C D) (h : Odd C D H false v x) : NotC K D H v := by
  cases h with
  | dat h => exact h.vok.notC J
  | mem h l => exact ⟨_, mem_ty M I h, T.cd⟩
abbrev nmOd : List Str := ["_law_pool_here", "_law_change", "_law_some", "_law_odd", "_law_bad", "_law_told", "_law_due"]
abbrev psOd : List Str := ["_law_pool_here", "_law_change", "_law_some"]
theorem scOd : FnScope nmOd psOd (defScope s_L_odd_right) := ⟨rfl, rfl, rfl, by decide +kernel, rfl, by decide +kernel, by decide +kernel⟩
abbrev cxO (P : Program) (w : World) (K : PySem.W.Frag) (mg : Str → Option Value) (base : Heap) (f : Addr) (cdv : Value) (A : Around) (outer : List Env) (s : Shared) (H : Hp) : Cx := (cxOf CX0 P w K mg base nmOd "_law_odd_right" (defScope s_L_odd_right) f cdv A outer s H E0).nox
def odRest (i : Nat) : List Stmt := (defBody s_L_odd_right).drop i
/-- the qualified name of the lambdas -/
def lamQ : Str := (envOfC "_law_odd_right" (defScope s_L_odd_right) 0 0 .none).qual ++ "<lambda>"
abbrev TbO (Pt : Addr) : List (Addr × Str) := [(Pt, lamQ)]
/-- what is known of the ask that catches, and of the lambdas' code -/
structure Asks (K : PySem.W.Frag) (mg : Str → Option Value) (base : Heap) (c Pt : Addr) : Prop where
  ex : ∃ g fd, mg "_law_caught" = some (.ref g) ∧ Fun K "_law_caught" "_law_caught" sCaught g fd
  tb : LamX.TabB base mg c Pt
abbrev nmNM : Str := "NotMembers"
abbrev nmNA : Str := "NotAChange"
abbrev nmNC : Str := "NotComparable"
/-- what is due, in its order -/
abbrev YY (t1 t2 : Str) : List (List Str) := [[nmNM, t1], [nmNM, t1], [nmNM, t1], [nmNM, t1], [nmNA, t2], [nmNA, t2], [nmNC]]
/-- before the n-th ask -/
structure AtAsk (C D p Pt : Addr) (n : Nat) (σ : L2.St) (H : Hp) (En : Ends) : Prop where
  ex : ∃ (ch sm t : Addr) (as : List Addr) (cs gs zs : List Str) (v u : V) (t1 t2 : Str) (x6 : Option V), σ = [some (.ref p), some (.ref ch), some (.ref sm), some v, some u, some (.ref t), x6] ∧ PoolAt H p ∧ LamX.Tabs (TbO Pt) H ∧ ChgAt C D H ch cs gs ∧ MemAt C H sm zs ∧ zs.length ≤ 20 ∧ Odd C D H true v t1 ∧ Odd C D H false u t2 ∧
    H t = some (.lst (as.map V.ref)) ∧ 1 ≤ n ∧ n ≤ 7 ∧ Lists H as ((YY t1 t2).take n) ∧ Fin0 p (TbO Pt) t H En
theorem Lists.mv {p : Addr} {Tb : List (Addr × Str)} {H H' : Hp} {ds : List Addr} {Y : List (List Str)} (m : Mv p Tb H H') (hp : PoolAt H p) (h : Lists H ds Y) : Lists H' ds Y := ⟨h.len, fun j d y a b => m.strs hp (h.at_ j d y a b)⟩
theorem strs_refs {zs : List Str} {as : List Addr} (hn : as ≠ []) : HO.lst (zs.map V.str) ≠ HO.lst (as.map V.ref) := fun e => by
  have q := HO.lst.inj e
  cases as with
  | nil => exact hn rfl
  | cons a r =>
    cases zs with
    | nil => cases q
    | cons z s => cases q
theorem Lists.set {t : Addr} {H : Hp} {as ds : List Addr} {o : HO} {Y : List (List Str)} (ht : H t = some (.lst (as.map V.ref))) (hn : as ≠ []) (h : Lists H ds Y) : Lists (upd H t o) ds Y := ⟨h.len, fun j d y a b => upd_keep ht (h.at_ j d y a b) (strs_refs hn)⟩
section
variable {w : World} {P : Program} {base : Heap} {mg : Str → Option Value} {K : PySem.W.Frag} {C D CN CM CA CC S1 S2 S3 : Addr} {mc md : Value}
variable {f c Pt : Addr} {A : Around} {outer : List Env} {s : Shared} {H0 : Hp} {p : Addr}
theorem pe_ask (W : Wd P w K mg base C D CN CM CA CC S1 S2 S3 mc md) (AK : Asks K mg base c Pt) (hgd : A.guards = some []) (hr : Room 12 (A.deeper (envOfC "_law_odd_right" (defScope s_L_odd_right) s.heap.objs.size f (.ref c)))) {params : Arguments} {body : Expr} {scope : Scope} {t : XK → TE} {np lpos pos : Pos}
    (L : LamX.LamS (defScope s_L_odd_right) scope)
    (hbody : ∀ (A' : Around) (outer' : List Env) (s' : Shared) (H' : Hp) (E : XK) (f' c' : Addr), Room 10 (A'.deeper (LamX.lamEnv (cxO P w K mg base f (.ref c) A outer s H0) scope s'.heap.objs.size f' c')) → PE (LamX.lamCx (cxO P w K mg base f (.ref c) A outer s H0) A' outer' s' H' E scope f' c') body (t E))
    (hdef : defaultsOf params (cxO P w K mg base f (.ref c) A outer s H0).env = ([], []) := by rfl)
    (hbind : ∀ (q : Str) (cl : List (Str × Addr)) (pm cv ctv : Value), bindArgs (PySem.W.kla_fn "<lambda>" q params body scope cl pm cv ctv) ⟨[], []⟩ = pure [] := by intros; rfl) :
    PE (cxO P w K mg base f (.ref c) A outer s H0) (.Call (.Name "_law_caught" np) [.Lambda params body scope lpos] [] pos) (LamX.tLam (TbO Pt) (TTc (SV K C D) CM CA CC) t) := by
  obtain ⟨g, fd, mgC, FC⟩ := AK.ex
  obtain ⟨oc, od, kV, doc, pm, an, cdv', ct, osl, efd, lk, hcd⟩ := FC.ex
  subst efd
  have hun := hr.un
  have hdp := hr.dp
  have bC : L2.Binds K (PySem.W.fnOf "_law_caught" "_law_caught" (defArgs sCaught) (defBody sCaught) (defScope sCaught) .none kV doc pm an cdv' ct) ["_law_ask"] [] := FC.binds (ps := ["_law_ask"]) fun _ _ _ _ _ _ us hl => match us, hl with | [_], _ => rfl
  exact LamX.pe_lamcall (X := cxO P w K mg base f (.ref c) A outer s H0) (T := TbO Pt) (TT := TTc (SV K C D) CM CA CC) (k := 10) (Ng := nmCaught) (a := "_law_ask") (c := c) (P := Pt) (by rfl) mgC FC.kp lk hcd bC scCaught (by rfl) (.inl rfl)
    (caught_gives (X := cxO P w K mg base f (.ref c) A outer s H0) (by exact hgd) (by show (A.deeper (envOfC "_law_odd_right" (defScope s_L_odd_right) s.heap.objs.size f (.ref c))).units + 300 < cLine; omega) W.g.b.T W.EK (fun H H' v x s h => h.same s)
      (fun s' H' a oe pn => call_reprH (p := (a, oe)) W.r (by exact hgd) ⟨by
        show (A.deeper (envOfC "_law_odd_right" (defScope s_L_odd_right) s.heap.objs.size f (.ref c))).depth + 1 + 3 * 4 + 5 < recursionLimit
        omega, by
        show (A.deeper (envOfC "_law_odd_right" (defScope s_L_odd_right) s.heap.objs.size f (.ref c))).units + 3 + 16 * 4 + 200 < cLine
        omega⟩ (by exact List.mem_cons_self)))
    AK.tb (by rfl) List.mem_cons_self (fun q hq _ => by rw [List.mem_singleton.mp hq]; rfl) hr L hdef hbind hbody
/-- what an ask tells of a wrong value -/
theorem ask_val {t : XK → TE} {σ : L2.St} {H : Hp} {Q : VK} {b : Bool} {v : V} {x nm : Str} {CE : Addr} (hp : PoolAt H p) (hT : LamX.Tabs (TbO Pt) H) (o : Odd C D H b v x) (hc : (CE = CM ∧ nm = nmNM) ∨ (CE = CA ∧ nm = nmNA))
    (ht : ∀ (H1 : Hp) (Q' : VK) (E : XK), Mv p (TbO Pt) H H1 → ErrAt CE "value" v H1 E → t E σ H1 Q')
    (q : ∀ (r : Addr) (H' : Hp), Mv p (TbO Pt) H H' → H' r = some (.lst ([nm, x].map V.str)) → Q (.ref r) H') :
    LamX.tLam (TbO Pt) (TTc (SV K C D) CM CA CC) t σ H Q := by
  refine ⟨hT, fun H1 eN T1 Q' => ?_⟩
  have m1 : Mv p (TbO Pt) H H1 := .lam eN hp T1
  refine ht H1 _ _ m1 fun e H2 s2 ne => ?_
  have m2 : Mv p (TbO Pt) H (upd H2 e (.xd [("value", v)])) := m1.trans (.same (s2.trans (same_upd ne)) m1.rx.pool m1.tabs)
  refine .inl ⟨e, v, x, nm, rfl, (o.mv m2 hp).sv, ?_, fun r H3 nr s3 hr => q r H3 (m2.trans (.same s3 m2.rx.pool m2.tabs)) hr⟩
  rcases hc with ⟨rfl, rfl⟩ | ⟨rfl, rfl⟩
  · exact .inl ⟨rfl, rfl, upd_same⟩
  · exact .inr ⟨rfl, rfl, upd_same⟩
/-- .. of what can't be compared -/
theorem ask_cmp {t : XK → TE} {σ : L2.St} {H : Hp} {Q : VK} (hp : PoolAt H p) (hT : LamX.Tabs (TbO Pt) H)
    (ht : ∀ (H1 : Hp) (Q' : VK) (E : XK), Mv p (TbO Pt) H H1 → (∀ H2, Same H1 H2 → E (.ref CC) none H2) → t E σ H1 Q')
    (q : ∀ (r : Addr) (H' : Hp), Mv p (TbO Pt) H H' → H' r = some (.lst ([nmNC].map V.str)) → Q (.ref r) H') :
    LamX.tLam (TbO Pt) (TTc (SV K C D) CM CA CC) t σ H Q := by
  refine ⟨hT, fun H1 eN T1 Q' => ?_⟩
  have m1 : Mv p (TbO Pt) H H1 := .lam eN hp T1
  refine ht H1 _ _ m1 fun H2 s2 => ?_
  have m2 : Mv p (TbO Pt) H H2 := m1.trans (.same s2 m1.rx.pool m1.tabs)
  exact .inr ⟨nmNC, rfl, ⟨rfl, rfl⟩, fun r H3 nr s3 hr => q r H3 (m2.trans (.same s3 m2.rx.pool m2.tabs)) hr⟩
/-- an ask that appends what it is told -/
theorem ask_seg {n : Nat} {t : XK → TE} {params : Arguments} {body : Expr} {scope : Scope} {np lpos pos : Pos} {rest : List Stmt} {p1 p2 p3 p4 : Pos} (hn : n + 1 ≤ 7) (he : PE (cxO P w K mg base f (.ref c) A outer s H0) (.Call (.Name "_law_caught" np) [.Lambda params body scope lpos] [] pos) (LamX.tLam (TbO Pt) (TTc (SV K C D) CM CA CC) t))
    (hrest : PSs (cxO P w K mg base f (.ref c) A outer s H0) rest (fun En σ H => AtAsk C D p Pt (n + 1) σ H En))
    (told : ∀ (ch sm tl : Addr) (cs gs zs : List Str) (v u : V) (t1 t2 : Str) (x6 : Option V) (H : Hp) (Q : VK) (y : List Str), PoolAt H p → LamX.Tabs (TbO Pt) H → ChgAt C D H ch cs gs → MemAt C H sm zs → zs.length ≤ 20 → Odd C D H true v t1 → Odd C D H false u t2 → (YY t1 t2)[n]? = some y →
      (∀ (r : Addr) (H' : Hp), Mv p (TbO Pt) H H' → H' r = some (.lst (y.map V.str)) → Q (.ref r) H') → LamX.tLam (TbO Pt) (TTc (SV K C D) CM CA CC) t [some (.ref p), some (.ref ch), some (.ref sm), some v, some u, some (.ref tl), x6] H Q)
    (hline : (p2.endLine == p3.line) = true := by rfl) :
    PSs (cxO P w K mg base f (.ref c) A outer s H0) (.Expr (.Call (.Attribute (.Name "_law_told" p1) "append" p2) [(.Call (.Name "_law_caught" np) [.Lambda params body scope lpos] [] pos)] [] p3) p4 :: rest) (fun En σ H => AtAsk C D p Pt n σ H En) := by
  refine pss_of fun En σ H hyp => ?_
  obtain ⟨ch, sm, tl, as, cs, gs, zs, v, u, t1, t2, x6, eσ, hp, hT, mC, mM, lz, o1, o2, ht, h1, h7, ll, fin⟩ := hyp.ex
  refine ⟨_, pss_cons (ps_expr (pe_bm PySem.F.plainAttrs_list PySem.F.slot_list_append PySem.F.type_list_append mt_append (pv 5) (pa_cons he pa_nil) (hline := hline))) hrest, ?_⟩
  subst eσ
  have hl : as.length = n := by
    rw [ll.len, List.length_take]
    show min n 7 = n
    omega
  obtain ⟨y, hy⟩ : ∃ y, (YY t1 t2)[n]? = some y := ⟨(YY t1 t2)[n]'(by show n < 7; omega), List.getElem?_eq_getElem _⟩
  refine ⟨_, rfl, .inl ⟨rfl, _, SqL.of ht⟩, told ch sm tl cs gs zs v u t1 t2 x6 H _ y hp hT mC mM lz o1 o2 hy fun r H3 m3 hr => ?_⟩
  have t3 : H3 tl = some (.lst (as.map V.ref)) := m3.at hp ht refs_nopool (fun _ e => by cases e)
  have hne : as ≠ [] := fun e => by rw [e] at hl; simp at hl; omega
  refine ⟨tl, _, _, rfl, rfl, t3, by rw [List.length_map, hl, sizeLine_eq]; omega, ?_⟩
  refine ⟨ch, sm, tl, as ++ [r], cs, gs, zs, v, u, t1, t2, x6, rfl, ?_, tabs_upd t3 m3.tabs, (m3.chg hp mC).set t3, (m3.mem hp mM).set t3, lz, (o1.mv m3 hp).set t3 hne, (o2.mv m3 hp).set t3 hne, by rw [upd_same, List.map_append]; rfl, by omega, hn, ?_, (fin.mv m3).set t3⟩
  · obtain ⟨x, y, z, e⟩ := m3.rx.pool
    exact ⟨x, y, z, upd_keep t3 e fun q => refs_nopool x y z q.symm⟩
  · rw [List.take_add_one, hy]
    exact ((ll.mv m3 hp).set t3 hne).snoc (upd_keep t3 hr (strs_refs hne))
end
end K1

namespace K1
open PySem PySem.Spec
open PyProof.Rows L2 L2H EnT StX SmX TxS DuX XdI Tr3 CnB ClX
theorem op_either {X : Cx} {op : Operator} {r1 r2 : R2} (h1 : OpR X (binaryOp op) r1) (h2 : OpR X (binaryOp op) r2) : OpR X (binaryOp op) (fun x y H Q => r1 x y H Q ∨ r2 x y H Q) := by
  intro pins s σ H x y v u Q Iv rx ry h
  rcases h with h | h
  · exact h1 pins s σ H x y v u Q Iv rx ry h
  · exact h2 pins s σ H x y v u Q Iv rx ry h
theorem flat_one (k : Nat) (x : V) : (List.replicate k [x]).flatten = List.replicate k x := by
  induction k with
  | zero => rfl
  | succ n ih => rw [List.replicate_succ, List.flatten_cons, ih, List.replicate_succ]; rfl
/-- [[name, repr(v)]] * k -/
theorem rep_row {K : PySem.W.Frag} {C D : Addr} {v : V} {t1 nm : Str} {k : Nat} {H : Hp} {te : TE} {σ : L2.St} {Q : VK} (o : SV K C D H v t1) (ht : ∀ Q' : VK, Q' v H → te σ H Q') (hk : k ≤ 100)
    (q : ∀ (l r : Addr) (H' : Hp), Same H H' → H' r = some (.lst ([nm, t1].map V.str)) → H' l = some (.lst ((List.replicate k r).map V.ref)) → Q (.ref l) H') :
    tOp rRep (tLst (tCons (tLst (tCons (tC (.str nm)) (tCons (tCB (rSV (SV K C D)) (tCons te tNil)) tNil))) tNil)) (tC (.int k)) σ H Q := by
  refine ht _ ⟨v, t1, rfl, o, (by show 2 ≤ sizeLine; decide), fun r1 n1 => ?_⟩
  have s1 : Same H (upd H r1 (.lst ([nm, t1].map V.str))) := same_upd n1
  refine ⟨(by show 1 ≤ sizeLine; decide), fun r2 n2 => ?_⟩
  have s2 : Same (upd H r1 (.lst ([nm, t1].map V.str))) (upd (upd H r1 (.lst ([nm, t1].map V.str))) r2 (.lst [.ref r1])) := same_upd n2
  have a1 : (upd H r1 (.lst ([nm, t1].map V.str))) r1 = some (.lst ([nm, t1].map V.str)) := upd_same
  have k0 : ((k : Nat) : Int).toNat = k := by omega
  refine ⟨r2, k, [.ref r1], rfl, rfl, upd_same, by omega, by omega, by rw [k0, sizeLine_eq]; show 1 * k ≤ _; omega, fun r3 n3 => ?_⟩
  rw [k0, flat_one]
  have s3 := same_upd (o := .lst (List.replicate k (V.ref r1))) n3
  exact q r3 r1 _ ((s1.trans s2).trans s3) (s3 _ _ (s2 _ _ a1)) (by rw [upd_same, List.map_replicate])
theorem make_t {K : PySem.W.Frag} {C CN : Addr} {zs : List Str} {H : Hp} {Q : VK} {E : XK} {t : TA} {σ : L2.St} (nm : ∀ z ∈ zs, nameB z = true) (hl : zs.length ≤ 1000) (ht : ∀ QQ : List V → Hp → Prop, QQ (zs.map V.str) H → t σ H QQ)
    (q : ∀ b ys H', H b = none → Same H H' → (∀ z, z ∈ ys ↔ z ∈ zs) → MemAt C H' b ys → Q (.ref b) H') : tMakeR C (spInitR K C CN) E t σ H Q := ht _ (make_of (mk_names nm hl q))
abbrev zz : Str := "zz"
abbrev zy : Str := "zy"
theorem nm_z : ∀ z ∈ [zz, zy], nameB z = true := by decide +kernel
theorem nm_z1 : ∀ z ∈ [zz], nameB z = true := by decide +kernel
section
variable {w : World} {P : Program} {base : Heap} {mg : Str → Option Value} {K : PySem.W.Frag} {C D CN CM CA CC S1 S2 S3 : Addr} {mc md : Value}
variable {f c Pt : Addr} {A : Around} {outer : List Env} {s : Shared} {H0 : Hp} {p : Addr}
theorem seg9 (W : Wd P w K mg base C D CN CM CA CC S1 S2 S3 mc md) (hgd : A.guards = some []) (hr : Room 12 (A.deeper (envOfC "_law_odd_right" (defScope s_L_odd_right) s.heap.objs.size f (.ref c)))) :
    PSs (cxO P w K mg base f (.ref c) A outer s H0) (odRest 9) (fun En σ H => AtAsk C D p Pt 7 σ H En) := by
  refine pss_of fun En σ H hyp => ?_
  obtain ⟨ch, sm, tl, as, cs, gs, zs, v, u, t1, t2, x6, eσ, hp, hT, mC, mM, lz, o1, o2, ht, h1, h7, ll, fin⟩ := hyp.ex
  have hun := hr.un
  have T := W.g.b.T
  refine ⟨_, pss_cons (ps_set (i := 6) scOd.nd rfl (.inl rfl) (pe_op op_cat
      (pe_op op_rep (pe_lst (pa_cons (pe_lst (pa_cons pe_str (pa_cons (pe_callB (call_reprV W.r (by exact hgd) (hr.mono (by decide))) (by rfl) T.repr (by decide +kernel) (pa_cons (pv 3) pa_nil)) pa_nil))) pa_nil)) pe_int)
      (pe_op op_rep (pe_lst (pa_cons (pe_lst (pa_cons pe_str (pa_cons (pe_callB (call_reprV W.r (by exact hgd) (hr.mono (by decide))) (by rfl) T.repr (by decide +kernel) (pa_cons (pv 4) pa_nil)) pa_nil))) pa_nil)) pe_int)))
    (pss_one (ps_ret (pe_cmpR (op_eqD (by show (A.deeper (envOfC "_law_odd_right" (defScope s_L_odd_right) s.heap.objs.size f (.ref c))).units + 64 < cLine; omega)) (pv 5) (pe_op op_cat (pv 6) (pe_lst (pa_cons (pe_lst (pa_cons pe_str pa_nil)) pa_nil))) (nomark _)))), ?_⟩
  subst eσ
  refine rep_row (k := 4) o1.sv (fun Q' h => ⟨_, rfl, h⟩) (by decide) fun q1 r1 H1 s1 hr1 hq1 => ?_
  refine rep_row (k := 2) (o2.sv.same s1) (fun Q' h => ⟨_, rfl, h⟩) (by decide) fun q2 r2 H2 s2 hr2 hq2 => ?_
  refine ⟨q1, q2, _, _, rfl, rfl, s2 _ _ hq1, hq2, (by show 6 ≤ sizeLine; decide), fun q3 n3 => ?_⟩
  have s3 : Same H2 (upd H2 q3 (.lst ([r1, r1, r1, r1, r2, r2].map V.ref))) := same_upd n3
  have hq3 : (upd H2 q3 (.lst ([r1, r1, r1, r1, r2, r2].map V.ref))) q3 = some (.lst ([r1, r1, r1, r1, r2, r2].map V.ref)) := upd_same
  have hr1' := s3 _ _ (s2 _ _ hr1)
  have hr2' := s3 _ _ hr2
  have s13 := (s1.trans s2).trans s3
  refine ⟨_, rfl, _, rfl, (by show 1 ≤ sizeLine; decide), fun q4 n4 => ?_⟩
  have s4 := same_upd (o := .lst ([nmNC].map V.str)) n4
  have hq4 : (upd (upd H2 q3 (.lst ([r1, r1, r1, r1, r2, r2].map V.ref))) q4 (.lst ([nmNC].map V.str))) q4 = some (.lst ([nmNC].map V.str)) := upd_same
  refine ⟨(by show 1 ≤ sizeLine; decide), fun q5 n5 => ?_⟩
  have s5 := same_upd (o := .lst [.ref q4]) n5
  refine ⟨q3, q5, _, _, rfl, rfl, s5 _ _ (s4 _ _ hq3), upd_same, (by show 7 ≤ sizeLine; decide), fun q6 n6 => ?_⟩
  have s6 := same_upd (o := .lst ([r1, r1, r1, r1, r2, r2, q4].map V.ref)) n6
  have s36 := (s4.trans s5).trans s6
  have sA := s13.trans s36
  have L2' : Lists (upd (upd (upd (upd H2 q3 (.lst ([r1, r1, r1, r1, r2, r2].map V.ref))) q4 (.lst ([nmNC].map V.str))) q5 (.lst [.ref q4])) q6 (.lst ([r1, r1, r1, r1, r2, r2, q4].map V.ref))) [r1, r1, r1, r1, r2, r2, q4] (YY t1 t2) := ⟨rfl, fun j d y a b => by
    match j, a, b with
    | 0, a, b => cases a; cases b; exact s36 _ _ hr1'
    | 1, a, b => cases a; cases b; exact s36 _ _ hr1'
    | 2, a, b => cases a; cases b; exact s36 _ _ hr1'
    | 3, a, b => cases a; cases b; exact s36 _ _ hr1'
    | 4, a, b => cases a; cases b; exact s36 _ _ hr2'
    | 5, a, b => cases a; cases b; exact s36 _ _ hr2'
    | 6, a, b => cases a; cases b; exact (s5.trans s6) _ _ hq4
    | n + 7, a, b => cases a⟩
  have nOk : ∀ z ∈ [nmNM, nmNA, nmNC], PyData.strOk z = true := by decide +kernel
  have oks : ∀ y ∈ YY t1 t2, OkS y := fun y hy z hz => by
    have k1 := o1.ok
    have k2 := o2.ok
    have n1 := nOk nmNM (by simp)
    have n2 := nOk nmNA (by simp)
    have n3 := nOk nmNC (by simp)
    simp only [List.mem_cons, List.not_mem_nil, or_false] at hy
    rcases hy with rfl | rfl | rfl | rfl | rfl | rfl | rfl <;> simp only [List.mem_cons, List.not_mem_nil, or_false] at hz
    · rcases hz with rfl | rfl <;> assumption
    · rcases hz with rfl | rfl <;> assumption
    · rcases hz with rfl | rfl <;> assumption
    · rcases hz with rfl | rfl <;> assumption
    · rcases hz with rfl | rfl <;> assumption
    · rcases hz with rfl | rfl <;> assumption
    · subst hz
      assumption
  have ll7 : Lists H as (YY t1 t2) := ll
  refine ⟨_, _, .lst (SqL.of (sA _ _ ht)) ((ll7.same sA).dp (K := K)), .lst (SqL.of upd_same) (L2'.dp (K := K)), lsD_shaped oks, lsD_shaped oks, ?_⟩
  rw [lsD_eqv oks]
  exact fin.fin _ (.same sA hp hT)
theorem seg8 (W : Wd P w K mg base C D CN CM CA CC S1 S2 S3 mc md) (AK : Asks K mg base c Pt) (hgd : A.guards = some []) (hr : Room 12 (A.deeper (envOfC "_law_odd_right" (defScope s_L_odd_right) s.heap.objs.size f (.ref c)))) :
    PSs (cxO P w K mg base f (.ref c) A outer s H0) (odRest 8) (fun En σ H => AtAsk C D p Pt 6 σ H En) := by
  obtain ⟨f0, MM⟩ := W.mkM
  obtain ⟨fI, fdI, MK, _, FX, _⟩ := W.p.mak
  obtain ⟨gO, mO, FO⟩ := W.g.or
  refine ask_seg (by decide) (pe_ask W AK hgd hr (t := fun E => tMakeR D (spInitX C CC) E (tCons (tOp (rBinO C (spBinM C rOr) E) (tVar 2) (tMakeR C (spInitR K C CN) E (tCons (tC (.str zz)) tNil))) (tCons (tMakeR C (spInitR K C CN) E (tCons (tC (.str zz)) (tCons (tC (.str zy)) tNil))) tNil))) (LamX.lamS_by (by decide +kernel))
    (fun A' outer' s' H' E f' c' hr' => pe_makeR MK FX (hr'.mono (by decide)) (by rfl) W.g.G.g (passes_call (takes_of rfl rfl rfl rfl) fun _ _ _ _ h => h)
      (pa_cons (pe_op (op_binO mO W.g.b.sf FO (hr'.mono (by decide)) (passes_call (takes_of rfl rfl rfl rfl) fun _ _ _ _ h => h)) (pv 2) (pe_makeR MM.M MM.F (hr'.mono (by decide)) (by rfl) W.g.b.M.g (passes_call (takes_of rfl rfl rfl rfl) fun _ _ _ _ h => h) (pa_cons pe_str pa_nil)))
      (pa_cons (pe_makeR MM.M MM.F (hr'.mono (by decide)) (by rfl) W.g.b.M.g (passes_call (takes_of rfl rfl rfl rfl) fun _ _ _ _ h => h) (pa_cons pe_str (pa_cons pe_str pa_nil))) pa_nil)))) (seg9 W hgd hr) ?_
  intro ch sm tl cs gs zs v u t1 t2 x6 H Q y hp hT mC mM lz o1 o2 hy q
  cases hy
  refine ask_cmp hp hT (fun H1 Q' E m1 hx => ?_) q
  have mM1 := m1.mem hp mM
  refine ⟨_, rfl, ?_⟩
  show tMakeR _ _ _ _ _ H1 _
  refine make_t (zs := [zz]) nm_z1 (by decide) (fun QQ h => h) fun b1 y1 H2 _ s2 e1 M1 => ?_
  have k1 : y1.length ≤ 1 := len_sub M1.nd fun z hz => (e1 z).mp hz
  refine bin_go (mM1.same s2) M1 (by omega) fun b2 y2 H3 _ s3 e2 M2 => ?_
  have k2 : y2.length ≤ 20 + 1 := Nat.le_trans (len_or M2.nd fun z hz => (e2 z).mp hz) (by omega)
  show tMakeR _ _ _ _ _ H3 _
  refine make_t (zs := [zz, zy]) nm_z (by decide) (fun QQ h => h) fun b3 y3 H4 _ s4 e3 M3 => ?_
  have k3 : y3.length ≤ 2 := len_sub M3.nd fun z hz => (e3 z).mp hz
  refine mkc_x (M2.same s4) M3 (by omega) (fun ap => ?_) fun H5 s5 => hx H5 (((s2.trans s3).trans s4).trans s5)
  exact ap zz ((e2 zz).mpr (.inr ((e1 zz).mpr (by simp)))) ((e3 zz).mpr (by simp))
end
end K1

namespace K1
open PySem PySem.Spec
open PyProof.Rows L2 L2H EnT StX SmX TxS DuX XdI Tr3 CnB ClX
section
variable {w : World} {P : Program} {base : Heap} {mg : Str → Option Value} {K : PySem.W.Frag} {C D CN CM CA CC S1 S2 S3 : Addr} {mc md : Value}
variable {f c Pt : Addr} {A : Around} {outer : List Env} {s : Shared} {H0 : Hp} {p : Addr}
/-- change + bad -/
theorem seg7 (W : Wd P w K mg base C D CN CM CA CC S1 S2 S3 mc md) (AK : Asks K mg base c Pt) (hgd : A.guards = some []) (hr : Room 12 (A.deeper (envOfC "_law_odd_right" (defScope s_L_odd_right) s.heap.objs.size f (.ref c)))) :
    PSs (cxO P w K mg base f (.ref c) A outer s H0) (odRest 7) (fun En σ H => AtAsk C D p Pt 5 σ H En) := by
  obtain ⟨g, mA, _, FN⟩ := W.addC
  refine ask_seg (by decide) (pe_ask W AK hgd hr (t := fun E => tOp (fun x y H Q => rBinT K D tysB (spAddN K D CA) E x y H Q ∨ rBinD K D C (spAddN K D CA) E x y H Q) (tVar 1) (tVar 4)) (LamX.lamS_by (by decide +kernel))
    (fun A' outer' s' H' E f' c' hr' => pe_op (op_either (op_binT mA W.sfD W.rAddD W.tD FN hr' (passes_call (takes_of rfl rfl rfl rfl) fun _ _ _ _ h => h)) (op_binD mA W.sfD W.rAddD W.oDC FN hr' (passes_call (takes_of rfl rfl rfl rfl) fun _ _ _ _ h => h))) (pv 1) (pv 4))) (seg8 W AK hgd hr) ?_
  intro ch sm tl cs gs zs v u t1 t2 x6 H Q y hp hT mC mM lz o1 o2 hy q
  cases hy
  refine ask_val hp hT o2 (.inr ⟨rfl, rfl⟩) (fun H1 Q' E m1 eE => ?_) q
  have o := o2.mv m1 hp
  have nc := o.noD W.g.b.M W.g.b.I W.g.J W.tw
  obtain ⟨dx, x, y, h1, _, _⟩ := (m1.chg hp mC).at_
  refine ⟨_, rfl, _, rfl, ?_⟩
  cases o with
  | dat h =>
    obtain ⟨ty, ht, tx⟩ := vok_tys (K := K) h.vok
    exact .inl ⟨ch, dx, _, ty, rfl, h1, ht, tx, ch, u, rfl, nc, eE⟩
  | mem h l => exact .inr ⟨ch, dx, _, rfl, h1, mem_ty W.g.b.M W.g.b.I h, ch, _, rfl, nc, eE⟩
/-- some + bad -/
theorem seg6 (W : Wd P w K mg base C D CN CM CA CC S1 S2 S3 mc md) (AK : Asks K mg base c Pt) (hgd : A.guards = some []) (hr : Room 12 (A.deeper (envOfC "_law_odd_right" (defScope s_L_odd_right) s.heap.objs.size f (.ref c)))) :
    PSs (cxO P w K mg base f (.ref c) A outer s H0) (odRest 6) (fun En σ H => AtAsk C D p Pt 4 σ H En) := by
  obtain ⟨g, mA, _, FN⟩ := W.addM
  refine ask_seg (by decide) (pe_ask W AK hgd hr (t := fun E => tOp (fun x y H Q => rBinT K C tysB (spAddN K D CA) E x y H Q ∨ rBinO C (spAddN K D CA) E x y H Q) (tVar 2) (tVar 4)) (LamX.lamS_by (by decide +kernel))
    (fun A' outer' s' H' E f' c' hr' => pe_op (op_either (op_binT mA W.g.b.sf W.rAddC W.tC FN (hr'.mono (by decide)) (passes_call (takes_of rfl rfl rfl rfl) fun _ _ _ _ h => h)) (op_binO mA W.g.b.sf FN (hr'.mono (by decide)) (passes_call (takes_of rfl rfl rfl rfl) fun _ _ _ _ h => h))) (pv 2) (pv 4))) (seg7 W AK hgd hr) ?_
  intro ch sm tl cs gs zs v u t1 t2 x6 H Q y hp hT mC mM lz o1 o2 hy q
  cases hy
  refine ask_val hp hT o2 (.inr ⟨rfl, rfl⟩) (fun H1 Q' E m1 eE => ?_) q
  have o := o2.mv m1 hp
  have nc := o.noD W.g.b.M W.g.b.I W.g.J W.tw
  obtain ⟨dx, x, y, h1, _, _⟩ := (m1.mem hp mM).at_
  refine ⟨_, rfl, _, rfl, ?_⟩
  cases o with
  | dat h =>
    obtain ⟨ty, ht, tx⟩ := vok_tys (K := K) h.vok
    exact .inl ⟨sm, dx, _, ty, rfl, h1, ht, tx, sm, u, rfl, nc, eE⟩
  | mem h l =>
    obtain ⟨dy, x2, y2, h2, _, _⟩ := h.at_
    exact .inr ⟨sm, dx, _, _, dy, _, rfl, rfl, h1, h2, sm, _, rfl, nc, eE⟩
/-- Change.between(some, odd) -/
theorem seg5 (W : Wd P w K mg base C D CN CM CA CC S1 S2 S3 mc md) (AK : Asks K mg base c Pt) (hgd : A.guards = some []) (hr : Room 12 (A.deeper (envOfC "_law_odd_right" (defScope s_L_odd_right) s.heap.objs.size f (.ref c)))) :
    PSs (cxO P w K mg base f (.ref c) A outer s H0) (odRest 5) (fun En σ H => AtAsk C D p Pt 3 σ H En) := by
  obtain ⟨pB, gB, fdB, mB, _, _, FB, _⟩ := W.bet
  refine ask_seg (by decide) (pe_ask W AK hgd hr (t := fun E => tSMeth D (spBet2 K C CM) E (tC (.ref D)) (tCons (tVar 2) (tCons (tVar 3) tNil))) (LamX.lamS_by (by decide +kernel))
    (fun A' outer' s' H' E f' c' hr' => pe_smeth (pe_glob (v := .ref D) (by rfl) W.g.G.g rfl) W.crD mB FB hr' (passes_call (takes_of rfl rfl rfl rfl) fun _ _ _ _ h => h) (pa_cons (pv 2) (pa_cons (pv 3) pa_nil)))) (seg6 W AK hgd hr) ?_
  intro ch sm tl cs gs zs v u t1 t2 x6 H Q y hp hT mC mM lz o1 o2 hy q
  cases hy
  refine ask_val hp hT o1 (.inl ⟨rfl, rfl⟩) (fun H1 Q' E m1 eE => ?_) q
  have nc := (o1.mv m1 hp).noC W.g.b.I W.g.G W.g.J W.tw
  exact ⟨rfl, _, rfl, _, rfl, sm, zs, v, rfl, m1.mem hp mM, nc, eE⟩
/-- Change.between(odd, odd) -/
theorem seg4 (W : Wd P w K mg base C D CN CM CA CC S1 S2 S3 mc md) (AK : Asks K mg base c Pt) (hgd : A.guards = some []) (hr : Room 12 (A.deeper (envOfC "_law_odd_right" (defScope s_L_odd_right) s.heap.objs.size f (.ref c)))) :
    PSs (cxO P w K mg base f (.ref c) A outer s H0) (odRest 4) (fun En σ H => AtAsk C D p Pt 2 σ H En) := by
  obtain ⟨pB, gB, fdB, mB, _, FB, _, _⟩ := W.bet
  refine ask_seg (by decide) (pe_ask W AK hgd hr (t := fun E => tSMeth D (spBet1 K C CM) E (tC (.ref D)) (tCons (tVar 3) (tCons (tVar 3) tNil))) (LamX.lamS_by (by decide +kernel))
    (fun A' outer' s' H' E f' c' hr' => pe_smeth (pe_glob (v := .ref D) (by rfl) W.g.G.g rfl) W.crD mB FB hr' (passes_call (takes_of rfl rfl rfl rfl) fun _ _ _ _ h => h) (pa_cons (pv 3) (pa_cons (pv 3) pa_nil)))) (seg5 W AK hgd hr) ?_
  intro ch sm tl cs gs zs v u t1 t2 x6 H Q y hp hT mC mM lz o1 o2 hy q
  cases hy
  refine ask_val hp hT o1 (.inl ⟨rfl, rfl⟩) (fun H1 Q' E m1 eE => ?_) q
  have nc := (o1.mv m1 hp).noC W.g.b.I W.g.G W.g.J W.tw
  exact ⟨rfl, _, rfl, _, rfl, v, v, rfl, nc, eE⟩
/-- Change(some, odd) -/
theorem seg3 (W : Wd P w K mg base C D CN CM CA CC S1 S2 S3 mc md) (AK : Asks K mg base c Pt) (hgd : A.guards = some []) (hr : Room 12 (A.deeper (envOfC "_law_odd_right" (defScope s_L_odd_right) s.heap.objs.size f (.ref c)))) :
    PSs (cxO P w K mg base f (.ref c) A outer s H0) (odRest 3) (fun En σ H => AtAsk C D p Pt 1 σ H En) := by
  obtain ⟨fI, fdI, MK, _, _, _, F2', _⟩ := W.p.mak
  refine ask_seg (by decide) (pe_ask W AK hgd hr (t := fun E => tMakeR D (spInit2 K C CM) E (tCons (tVar 2) (tCons (tVar 3) tNil))) (LamX.lamS_by (by decide +kernel))
    (fun A' outer' s' H' E f' c' hr' => pe_makeR MK F2' (hr'.mono (by decide)) (by rfl) W.g.G.g (passes_call (takes_of rfl rfl rfl rfl) fun _ _ _ _ h => h) (pa_cons (pv 2) (pa_cons (pv 3) pa_nil)))) (seg4 W AK hgd hr) ?_
  intro ch sm tl cs gs zs v u t1 t2 x6 H Q y hp hT mC mM lz o1 o2 hy q
  cases hy
  refine ask_val hp hT o1 (.inl ⟨rfl, rfl⟩) (fun H1 Q' E m1 eE => ?_) q
  have o := o1.mv m1 hp
  exact ⟨_, rfl, _, rfl, mkc_bad2 (m1.mem hp mM) (fun H' s' => (o.same s').noC W.g.b.I W.g.G W.g.J W.tw) eE⟩
/-- before the first ask -/
structure AtA2 (C D p Pt : Addr) (σ : L2.St) (H : Hp) (En : Ends) : Prop where
  ex : ∃ (ch sm : Addr) (cs gs zs : List Str) (v u : V) (t1 t2 : Str) (x5 x6 : Option V), σ = [some (.ref p), some (.ref ch), some (.ref sm), some v, some u, x5, x6] ∧ PoolAt H p ∧ LamX.Tabs (TbO Pt) H ∧ ChgAt C D H ch cs gs ∧ MemAt C H sm zs ∧ zs.length ≤ 20 ∧ Odd C D H true v t1 ∧ Odd C D H false u t2 ∧ Fin p (TbO Pt) H En
theorem seg2 (W : Wd P w K mg base C D CN CM CA CC S1 S2 S3 mc md) (AK : Asks K mg base c Pt) (hgd : A.guards = some []) (hr : Room 12 (A.deeper (envOfC "_law_odd_right" (defScope s_L_odd_right) s.heap.objs.size f (.ref c)))) :
    PSs (cxO P w K mg base f (.ref c) A outer s H0) (odRest 2) (fun En σ H => AtA2 C D p Pt σ H En) := by
  obtain ⟨fI, fdI, MK, _, _, F1', _⟩ := W.p.mak
  refine pss_of fun En σ H hyp => ?_
  obtain ⟨ch, sm, cs, gs, zs, v, u, t1, t2, x5, x6, eσ, hp, hT, mC, mM, lz, o1, o2, fin⟩ := hyp.ex
  refine ⟨_, pss_cons (ps_set (i := 5) scOd.nd rfl (.inl rfl) (pe_lst (pa_cons (pe_ask W AK hgd hr (t := fun E => tMakeR D (spInit1 K C CM) E (tCons (tVar 3) (tCons (tVar 4) tNil))) (LamX.lamS_by (by decide +kernel))
    (fun A' outer' s' H' E f' c' hr' => pe_makeR MK F1' (hr'.mono (by decide)) (by rfl) W.g.G.g (passes_call (takes_of rfl rfl rfl rfl) fun _ _ _ _ h => h) (pa_cons (pv 3) (pa_cons (pv 4) pa_nil)))) pa_nil))) (seg3 (p := p) W AK hgd hr), ?_⟩
  subst eσ
  refine ask_val hp hT o1 (.inl ⟨rfl, rfl⟩) (fun H1 Q' E m1 eE => ?_) fun r H3 m3 hr => ⟨(by show 1 ≤ sizeLine; decide), fun t nt => ?_⟩
  · have o := o1.mv m1 hp
    exact ⟨_, rfl, _, rfl, mkc_bad (fun H' s' => (o.same s').noC W.g.b.I W.g.G W.g.J W.tw) eE⟩
  · have s4 : Same H3 (upd H3 t (.lst [.ref r])) := same_upd nt
    have m4 : Mv p (TbO Pt) H3 (upd H3 t (.lst [.ref r])) := .same s4 m3.rx.pool m3.tabs
    have m34 := m3.trans m4
    refine ⟨ch, sm, t, [r], cs, gs, zs, v, u, t1, t2, _, rfl, m4.rx.pool, m4.tabs, m34.chg hp mC, m34.mem hp mM, lz, o1.mv m34 hp, o2.mv m34 hp, upd_same, by decide, by decide, ?_, ((Fin0.new (fin.mv m3) m3.rx.pool m3.tabs nt).mv m4)⟩
    exact (Lists.nil (H := _)).snoc (s4 _ _ hr)
end
end K1

namespace K1
open PySem PySem.Spec
open PyProof.Rows L2 L2H EnT StX SmX TxS DuX XdI Tr3 CnB ClX
section
variable {w : World} {P : Program} {base : Heap} {mg : Str → Option Value} {K : PySem.W.Frag} {C D CN CM CA CC S1 S2 S3 : Addr} {mc md : Value}
variable {f c Pt : Addr} {A : Around} {outer : List Env} {s : Shared} {H0 : Hp} {p : Addr}
/-- what is drawn of a written list -/
theorem pick_of {R : V → Prop} {H : Hp} {S : Addr} {xs : List V} {te : TE} {σ : L2.St} {Q : VK} {k : Int} (hp : PoolAt H p) (hT : LamX.Tabs (TbO Pt) H) (nS : H S = none) (hk : (xs.length : Int) = k) (k0 : 0 < k) (k1 : k < 1000) (all : ∀ v ∈ xs, R v)
    (hdr : ∀ (H' : Hp) (Q' : VK), PoolAt H' p → (∀ (d : Int) (H2 : Hp), K1.Ext p H' H2 → 0 ≤ d → d < k → Q' (.int d) H2) → te σ H' Q')
    (q : ∀ (v : V) (H' : Hp), Mv p (TbO Pt) H H' → R v → Q v H') :
    te σ (upd H S (.lst xs)) fun y H2 => rIxL K (.ref S) y H2 Q := by
  have e5 : Same H (upd H S (.lst xs)) := same_upd nS
  have m5 : Mv p (TbO Pt) H (upd H S (.lst xs)) := .same e5 hp hT
  refine hdr _ _ m5.rx.pool fun d H6 x6 d0 d1 => ?_
  have Sp : S ≠ p := hp.ne nS
  have hS6 : H6 S = some (.lst xs) := x6.at Sp upd_same
  have m6 : Mv p (TbO Pt) (upd H S (.lst xs)) H6 := .ext x6 m5.rx.pool m5.tabs
  have hd : d.toNat < xs.length := by omega
  have ed : ((d.toNat : Nat) : Int) = d := by omega
  refine ⟨S, xs, d, xs[d.toNat], rfl, rfl, SqL.of hS6, ?_, q _ _ (m5.trans m6) (all _ (List.getElem_mem hd))⟩
  have z := atI_nat (j := d.toNat) (List.getElem?_eq_getElem hd)
  rw [ed] at z
  exact z
structure AtA1 (C D p Pt : Addr) (σ : L2.St) (H : Hp) (En : Ends) : Prop where
  ex : ∃ (ch sm : Addr) (cs gs zs : List Str) (v : V) (t1 : Str) (x4 x5 x6 : Option V), σ = [some (.ref p), some (.ref ch), some (.ref sm), some v, x4, x5, x6] ∧ PoolAt H p ∧ LamX.Tabs (TbO Pt) H ∧ ChgAt C D H ch cs gs ∧ MemAt C H sm zs ∧ zs.length ≤ 20 ∧ Odd C D H true v t1 ∧ Fin p (TbO Pt) H En
theorem seg1 (W : Wd P w K mg base C D CN CM CA CC S1 S2 S3 mc md) (AK : Asks K mg base c Pt) (hgd : A.guards = some []) (hr : Room 12 (A.deeper (envOfC "_law_odd_right" (defScope s_L_odd_right) s.heap.objs.size f (.ref c)))) :
    PSs (cxO P w K mg base f (.ref c) A outer s H0) (odRest 1) (fun En σ H => AtA1 C D p Pt σ H En) := by
  refine pss_of fun En σ H hyp => ?_
  obtain ⟨ch, sm, cs, gs, zs, v, t1, x4, x5, x6, eσ, hp, hT, mC, mM, lz, o1, fin⟩ := hyp.ex
  obtain ⟨fD, hD⟩ := W.draw
  refine ⟨_, pss_cons (ps_set (i := 4) scOd.nd rfl (.inr rfl) (pe_ix ix_list (pe_lst (pa_cons pe_non (pa_cons pe_int (pa_cons pe_str (pa_cons (pe_tup pa_nil) (pa_cons (pv 2) (pa_cons (pe_lst pa_nil) pa_nil)))))))
      (pe_has hD (hr.mono (by decide)) (by rfl) pass0 (pa_cons (pv 0) (pa_cons pe_int pa_nil))) (fun _ _ => rfl))) (seg2 (p := p) W AK hgd hr), ?_⟩
  subst eσ
  refine ⟨(by show 0 ≤ sizeLine; decide), fun a1 n1 => ⟨_, rfl, (by show 0 ≤ sizeLine; decide), fun l1 n3 => ⟨(by show 6 ≤ sizeLine; decide), fun S nS => ?_⟩⟩⟩
  have e1 : Same H (upd H a1 (.tup [])) := same_upd n1
  generalize h1 : upd H a1 (.tup []) = H1 at e1 n3 nS ⊢
  have k1 : H1 a1 = some (.tup []) := by rw [← h1]; exact upd_same
  clear h1
  have e3 : Same H1 (upd H1 l1 (.lst [])) := same_upd n3
  generalize h3 : upd H1 l1 (.lst []) = H3 at e3 nS ⊢
  have k3 : H3 l1 = some (.lst []) := by rw [← h3]; exact upd_same
  clear h3
  have s3 := e1.trans e3
  have all : ∀ v ∈ [V.non, .int 0, .str sa, .ref a1, .ref sm, .ref l1], ∃ x, Odd C D H3 false v x := by
    intro v hv
    simp only [List.mem_cons, List.not_mem_nil, or_false] at hv
    rcases hv with rfl | rfl | rfl | rfl | rfl | rfl
    · exact ⟨_, .dat .non⟩
    · exact ⟨_, .dat .int⟩
    · exact ⟨_, .dat .str⟩
    · exact ⟨_, .dat (.tup0 (e3 _ _ k1))⟩
    · exact ⟨_, .mem (mM.same s3) lz⟩
    · exact ⟨_, .dat (.lst k3)⟩
  have m3 : Mv p (TbO Pt) H H3 := .same s3 hp hT
  show tCall spDraw _ _ _ _ _ _
  refine pick_of (p := p) (Pt := Pt) (K := K) (R := fun v => ∃ x, Odd C D H3 false v x) (k := 6) m3.rx.pool m3.tabs nS rfl (by decide) (by decide) all (fun H' Q' hp' q => ⟨_, rfl, p, 6, rfl, hp', by decide, by decide, fun d H2 x2 d0 d1 => q d H2 x2 d0 d1⟩) fun u H6 m6 ⟨t2, o2⟩ => ?_
  have m36 := m3.trans m6
  exact ⟨ch, sm, cs, gs, zs, v, u, t1, t2, _, _, rfl, m36.rx.pool, m36.tabs, m36.chg hp mC, m36.mem hp mM, lz, o1.mv m36 hp, o2.mv m6 m3.rx.pool, fin.mv m36⟩
structure AtA0 (C D p Pt : Addr) (σ : L2.St) (H : Hp) (En : Ends) : Prop where
  ex : ∃ (ch sm : Addr) (cs gs zs : List Str) (x3 x4 x5 x6 : Option V), σ = [some (.ref p), some (.ref ch), some (.ref sm), x3, x4, x5, x6] ∧ PoolAt H p ∧ LamX.Tabs (TbO Pt) H ∧ ChgAt C D H ch cs gs ∧ cs.length ≤ 20 ∧ gs.length ≤ 20 ∧ MemAt C H sm zs ∧ zs.length ≤ 20 ∧ Fin p (TbO Pt) H En
theorem seg0 (W : Wd P w K mg base C D CN CM CA CC S1 S2 S3 mc md) (AK : Asks K mg base c Pt) (hgd : A.guards = some []) (hr : Room 12 (A.deeper (envOfC "_law_odd_right" (defScope s_L_odd_right) s.heap.objs.size f (.ref c)))) :
    PSs (cxO P w K mg base f (.ref c) A outer s H0) (odRest 0) (fun En σ H => AtA0 C D p Pt σ H En) := by
  refine pss_of fun En σ H hyp => ?_
  obtain ⟨ch, sm, cs, gs, zs, x3, x4, x5, x6, eσ, hp, hT, mC, l1, l2, mM, lz, fin⟩ := hyp.ex
  obtain ⟨fD, hD⟩ := W.draw
  refine ⟨_, pss_cons (ps_set (i := 3) scOd.nd rfl (.inr rfl) (pe_ix ix_list (pe_lst (pa_cons pe_non (pa_cons pe_int (pa_cons pe_str (pa_cons (pe_tup pa_nil) (pa_cons (pv 1) (pa_cons (pe_lst pa_nil) (pa_cons pe_bl pa_nil))))))))
      (pe_has hD (hr.mono (by decide)) (by rfl) pass0 (pa_cons (pv 0) (pa_cons pe_int pa_nil))) (fun _ _ => rfl))) (seg1 (p := p) W AK hgd hr), ?_⟩
  subst eσ
  refine ⟨(by show 0 ≤ sizeLine; decide), fun a1 n1 => ⟨_, rfl, (by show 0 ≤ sizeLine; decide), fun l1 n3 => ⟨(by show 7 ≤ sizeLine; decide), fun S nS => ?_⟩⟩⟩
  have e1 : Same H (upd H a1 (.tup [])) := same_upd n1
  generalize h1 : upd H a1 (.tup []) = H1 at e1 n3 nS ⊢
  have k1 : H1 a1 = some (.tup []) := by rw [← h1]; exact upd_same
  clear h1
  have e3 : Same H1 (upd H1 l1 (.lst [])) := same_upd n3
  generalize h3 : upd H1 l1 (.lst []) = H3 at e3 nS ⊢
  have k3 : H3 l1 = some (.lst []) := by rw [← h3]; exact upd_same
  clear h3
  have s3 := e1.trans e3
  have all : ∀ v ∈ [V.non, .int 0, .str sa, .ref a1, .ref ch, .ref l1, .bl true], ∃ x, Odd C D H3 true v x := by
    intro v hv
    simp only [List.mem_cons, List.not_mem_nil, or_false] at hv
    rcases hv with rfl | rfl | rfl | rfl | rfl | rfl | rfl
    · exact ⟨_, .dat .non⟩
    · exact ⟨_, .dat .int⟩
    · exact ⟨_, .dat .str⟩
    · exact ⟨_, .dat (.tup0 (e3 _ _ k1))⟩
    · exact ⟨_, .chg (mC.same s3) ‹_› ‹_›⟩
    · exact ⟨_, .dat (.lst k3)⟩
    · exact ⟨_, .dat .bl⟩
  have m3 : Mv p (TbO Pt) H H3 := .same s3 hp hT
  show tCall spDraw _ _ _ _ _ _
  refine pick_of (p := p) (Pt := Pt) (K := K) (R := fun v => ∃ x, Odd C D H3 true v x) (k := 7) m3.rx.pool m3.tabs nS rfl (by decide) (by decide) all (fun H' Q' hp' q => ⟨_, rfl, p, 7, rfl, hp', by decide, by decide, fun d H2 x2 d0 d1 => q d H2 x2 d0 d1⟩) fun u H6 m6 ⟨t1, o1⟩ => ?_
  have m36 := m3.trans m6
  exact ⟨ch, sm, cs, gs, zs, u, t1, _, _, _, rfl, m36.rx.pool, m36.tabs, m36.chg hp mC, m36.mem hp mM, lz, o1.mv m6 m3.rx.pool, fin.mv m36⟩
def spOddR (C D Pt : Addr) : Sp := fun vs H Q _ => ∃ (p ch sm : Addr) (cs gs zs : List Str), vs = [.ref p, .ref ch, .ref sm] ∧ PoolAt H p ∧ LamX.Tabs (TbO Pt) H ∧ ChgAt C D H ch cs gs ∧ cs.length ≤ 20 ∧ gs.length ≤ 20 ∧ MemAt C H sm zs ∧ zs.length ≤ 20 ∧ ∀ H', Mv p (TbO Pt) H H' → Q (.bl true) H'
theorem ok_oddR (W : Wd P w K mg base C D CN CM CA CC S1 S2 S3 mc md) (AK : Asks K mg base c Pt) (FR : FunC K "_law_odd_right" "_law_odd_right" s_L_odd_right f c) : FnG P w K mg base CX0 13 f (spOddR C D Pt) := by
  intro A outer st H us vs Q E hgd hr e0 r hyp
  obtain ⟨p, ch, sm, cs, gs, zs, rfl, hp, hT, mC, l1, l2, mM, lz, q⟩ := hyp
  obtain ⟨oc, od, kV, doc, pm, an, ct, osl, lk, hcd⟩ := FR.ex
  refine LamX.run_ofS (N := nmOd) (ps := psOd) (us := us) (vs := [.ref p, .ref ch, .ref sm]) lk hcd scOd hr e0 ?_ r rfl fun hr' => ⟨_, (seg0 (p := p) (Pt := Pt) W AK hgd hr').nox, ?_⟩
  · have b : L2.Binds K (PySem.W.fnOf "_law_odd_right" "_law_odd_right" (defArgs s_L_odd_right) (defBody s_L_odd_right) (defScope s_L_odd_right) .none kV doc pm an (.ref c) ct) psOd [] := .all fun us hl => match us, hl with | [_, _, _], _ => rfl
    have hl : us.length = 3 := by rw [← r.length]; rfl
    have z := b st us (e0.mod.kin.keeps fun b o e => (e0.bs b o e).1) (by rw [List.append_nil]; exact hl)
    rw [List.append_nil] at z
    exact z
  · exact ⟨ch, sm, cs, gs, zs, _, _, _, _, rfl, hp, hT, mC, l1, l2, mM, lz, fun H' m' => q H' m'⟩
end
end K1

namespace K1
open PySem PySem.Spec
open PyProof.Rows L2 L2H EnT StX SmX TxS DuX XdI Tr3 CnB ClX
theorem aC_len {y c1 g2 c2 : List Str} (nd : y.Nodup) (h : ∀ z, z ∈ y ↔ aC (z ∈ c1) (z ∈ g2) (z ∈ c2)) : y.length ≤ c1.length + c2.length := len_or nd fun z hz => ((h z).mp hz).imp (·.1) id
structure Srt (zs : List Str) : Prop where
  srt : sortedS zs = true
  nd : zs.Nodup
theorem ChgAt.srts {C D p : Addr} {H : Hp} {cs gs : List Str} (m : ChgAt C D H p cs gs) : Srt cs ∧ Srt gs := by
  obtain ⟨dx, a, b, h1, h2, h3⟩ := m.at_
  exact ⟨⟨h2.srt, h2.nd⟩, h3.srt, h3.nd⟩
theorem Srt.uniq {xs ys : List Str} (a : Srt xs) (b : Srt ys) (h : ∀ z, z ∈ xs ↔ z ∈ ys) : xs = ys := sorted_uniq a.srt b.srt a.nd b.nd h
theorem MemAt.isSrt {C p : Addr} {H : Hp} {zs : List Str} (m : MemAt C H p zs) : Srt zs := ⟨m.srt, m.nd⟩
abbrev nmRt : List Str := ["_law_pool_here", "_law_names_here", "_law_some", "_law_made", "_law_change", "_law_comers", "_law_goers", "_law_k", "_law_between", "_law_first", "_law_second", "_law_third", "_law_members", "_law_same", "_law_total", "_law_row"]
theorem scRt : FnScope nmRt ["_law_pool_here"] (defScope sRight) := ⟨rfl, rfl, rfl, by decide +kernel, rfl, by decide +kernel, by decide +kernel⟩
abbrev cxR (P : Program) (w : World) (K : PySem.W.Frag) (mg : Str → Option Value) (base : Heap) (f : Addr) (cdv : Value) (A : Around) (outer : List Env) (s : Shared) (H : Hp) : Cx := (cxOf CX0 P w K mg base nmRt "_law_right" (defScope sRight) f cdv A outer s H E0).nox
def rtRest (i : Nat) : List Stmt := (defBody sRight).drop i
/-- the checks that the right calls -/
structure Checks (P : Program) (w : World) (K : PySem.W.Frag) (mg : Str → Option Value) (base : Heap) (C D Pt : Addr) : Prop where
  one : ∃ f, mg "_law_one_right" = some (.ref f) ∧ PySem.W.keepIn K (.ref f) = true ∧ FnG P w K mg base CX0 12 f (spOne C D)
  odd : ∃ f, mg "_law_odd_right" = some (.ref f) ∧ PySem.W.keepIn K (.ref f) = true ∧ FnG P w K mg base CX0 13 f (spOddR C D Pt)
/-- the Members that were drawn -/
structure Sm (C p Pt sm : Addr) (ss : List Addr) (Z : List (List Str)) (H : Hp) : Prop where
  pool : PoolAt H p
  tabs : LamX.Tabs (TbO Pt) H
  hs : H sm = some (.lst (ss.map V.ref))
  ms : Mems C H ss Z
  l5 : Z.length = 5
  lz : ∀ z ∈ Z, z.length ≤ 6
theorem Sm.same {C p Pt sm : Addr} {ss : List Addr} {Z : List (List Str)} {H H' : Hp} (g : Sm C p Pt sm ss Z H) (e : Same H H') : Sm C p Pt sm ss Z H' := ⟨g.pool.same e, g.tabs.ext e, e _ _ g.hs, g.ms.same e, g.l5, g.lz⟩
/-- the k-th of them -/
theorem Sm.nth {C p Pt sm : Addr} {ss : List Addr} {Z : List (List Str)} {H : Hp} (g : Sm C p Pt sm ss Z H) {k : Nat} (hk : k < 5) : ∃ (a : Addr) (z : List Str), ss[k]? = some a ∧ Z[k]? = some z ∧ MemAt C H a z ∧ z.length ≤ 6 := by
  have l := g.ms.len
  have l5 := g.l5
  have h1 : ss[k]? = some (ss[k]'(by omega)) := List.getElem?_eq_getElem _
  have h2 : Z[k]? = some (Z[k]'(by omega)) := List.getElem?_eq_getElem _
  exact ⟨_, _, h1, h2, g.ms.at_ k _ _ h1 h2, g.lz _ (List.mem_of_getElem? h2)⟩
theorem Sm.ix {K : PySem.W.Frag} {C p Pt sm : Addr} {ss : List Addr} {Z : List (List Str)} {H : Hp} {k : Nat} {a : Addr} {i : Int} {Q : VK} (g : Sm C p Pt sm ss Z H) (h : ss[k]? = some a) (hi : i = (k : Int)) (q : Q (.ref a) H) : rIxL K (.ref sm) (.int i) H Q := by
  subst hi
  exact ⟨sm, _, _, .ref a, rfl, rfl, SqL.of g.hs, atI_nat (by rw [List.getElem?_map, h]; rfl), q⟩
theorem rat {ss : List Addr} {k : Nat} {a : Addr} (h : ss[k]? = some a) : (ss.map V.ref)[k]? = some (.ref a) := by rw [List.getElem?_map, h]; rfl
structure Chg6 (C D f : Addr) (cs gs : List Str) (H : Hp) : Prop where
  m : ChgAt C D H f cs gs
  lc : cs.length ≤ 6
  lg : gs.length ≤ 6
theorem Chg6.same {C D f : Addr} {cs gs : List Str} {H H' : Hp} (g : Chg6 C D f cs gs H) (e : Same H H') : Chg6 C D f cs gs H' := ⟨g.m.same e, g.lc, g.lg⟩
structure AtF (C D p Pt : Addr) (σ : L2.St) (H : Hp) (En : Ends) : Prop where
  ex : ∃ (sm f1 f2 f3 : Addr) (ss : List Addr) (Z : List (List Str)) (c1 g1 c2 g2 c3 g3 : List Str) (x1 x3 x4 x5 x6 x7 x8 x12 x13 x14 x15 : Option V), σ = [some (.ref p), x1, some (.ref sm), x3, x4, x5, x6, x7, x8, some (.ref f1), some (.ref f2), some (.ref f3), x12, x13, x14, x15] ∧
    Sm C p Pt sm ss Z H ∧ Chg6 C D f1 c1 g1 H ∧ Chg6 C D f2 c2 g2 H ∧ Chg6 C D f3 c3 g3 H ∧ Fin p (TbO Pt) H En
section
variable {w : World} {P : Program} {base : Heap} {mg : Str → Option Value} {K : PySem.W.Frag} {C D CN CM CA CC S1 S2 S3 : Addr} {mc md : Value}
variable {f c Pt : Addr} {A : Around} {outer : List Env} {s : Shared} {H0 : Hp} {p : Addr}
theorem rt11 (W : Wd P w K mg base C D CN CM CA CC S1 S2 S3 mc md) (CK : Checks P w K mg base C D Pt) (hgd : A.guards = some []) (hr : Room 13 (A.deeper (envOfC "_law_right" (defScope sRight) s.heap.objs.size f (.ref c)))) :
    PSs (cxR P w K mg base f (.ref c) A outer s H0) (rtRest 11) (fun En σ H => AtF C D p Pt σ H En) := by
  refine pss_of fun En σ H hyp => ?_
  obtain ⟨sm, f1, f2, f3, ss, Z, c1, g1, c2, g2, c3, g3, x1, x3, x4, x5, x6, x7, x8, x12, x13, x14, x15, eσ, g, F1, F2, F3, fin⟩ := hyp.ex
  obtain ⟨fo, mgo, kpo, GO⟩ := CK.odd
  refine ⟨_, pss_one (ps_ret (pe_callG (x := "_law_odd_right") GO (by exact hgd) hr (by rfl) mgo kpo (pa_cons (pv 0) (pa_cons (pv 9) (pa_cons (pe_ix ix_list (pv 2) pe_int (fun _ _ => rfl)) pa_nil))))), ?_⟩
  subst eσ
  obtain ⟨a0, z0, h0, hz0, M0, l0⟩ := g.nth (k := 0) (by decide)
  refine ⟨_, rfl, _, rfl, _, rfl, sm, _, _, .ref a0, rfl, rfl, SqL.of g.hs, atI_nat (j := 0) (rat h0), ?_⟩
  have lc := F1.lc
  have lg := F1.lg
  exact ⟨p, f1, a0, c1, g1, z0, rfl, g.pool, g.tabs, F1.m, by omega, by omega, M0, by omega, fun H' m => fin H' m⟩
/-- Change(went = c.went, came = c.came) -/
theorem chg_kw {C D f : Addr} {cs gs : List Str} {H : Hp} {te : TE} {σ : L2.St} {Q : VK} {E : XK} (m : ChgAt C D H f cs gs) (hl : cs.length + gs.length ≤ 1000) (ht : ∀ Q' : VK, Q' (.ref f) H → te σ H Q') (q : MakesC C D cs gs H Q) :
    tMakeK D 0 (["went", "came"] : List Str).length (spInitY C D) (fun vs zs => vs ++ zs.reverse) E tNil (tCons (tProp D (getSp D "_went") [] E0 te) (tCons (tProp D (getSp D "_came") [] E0 te) tNil)) σ H Q := by
  obtain ⟨dx, xa, xb, j1, j2, j3⟩ := m.at_
  exact ht _ ⟨f, dx, _, rfl, j1, f, dx, _, _, rfl, j1, cflds_went xa xb, ht _ ⟨f, dx, _, rfl, j1, f, dx, _, _, rfl, j1, cflds_came xa xb, rfl, rfl, mkc_go (C := C) (D := D) (a := xa) (b := xb) (cs := cs) (gs := gs) (Q := Q) j2 j3 hl m.apart q⟩⟩
/-- the sum of two changes between -/
theorem tot_eq {z0 z1 z2 c1 g1 c2 g2 ct gt y : List Str} (e1 : ∀ z, z ∈ c1 ↔ z ∈ z1 ∧ ¬ z ∈ z0) (e2 : ∀ z, z ∈ g1 ↔ z ∈ z0 ∧ ¬ z ∈ z1) (e3 : ∀ z, z ∈ c2 ↔ z ∈ z2 ∧ ¬ z ∈ z1) (e4 : ∀ z, z ∈ g2 ↔ z ∈ z1 ∧ ¬ z ∈ z2)
    (e5 : ∀ z, z ∈ ct ↔ aC (z ∈ c1) (z ∈ g2) (z ∈ c2)) (e6 : ∀ z, z ∈ gt ↔ aC (z ∈ g1) (z ∈ c2) (z ∈ g2)) (e7 : ∀ z, z ∈ y ↔ aC (z ∈ z0) (z ∈ gt) (z ∈ ct)) : ∀ z, z ∈ y ↔ z ∈ z2 := fun z => by
  rw [e7 z]
  unfold aC
  rw [e6 z, e5 z]
  unfold aC
  rw [e1 z, e2 z, e3 z, e4 z]
  by_cases h0 : z ∈ z0 <;> by_cases h1 : z ∈ z1 <;> by_cases h2 : z ∈ z2 <;> simp [h0, h1, h2]
theorem rt9 (W : Wd P w K mg base C D CN CM CA CC S1 S2 S3 mc md) (CK : Checks P w K mg base C D Pt) (hgd : A.guards = some []) (hr : Room 13 (A.deeper (envOfC "_law_right" (defScope sRight) s.heap.objs.size f (.ref c)))) :
    PSs (cxR P w K mg base f (.ref c) A outer s H0) (rtRest 9) (fun En σ H => AtF C D p Pt σ H En) := by
  refine pss_of fun En σ H hyp => ?_
  obtain ⟨sm, f1, f2, f3, ss, Z, c1, g1, c2, g2, c3, g3, x1, x3, x4, x5, x6, x7, x8, x12, x13, x14, x15, eσ, g, F1, F2, F3, fin⟩ := hyp.ex
  obtain ⟨pB, gB, fdB, mB, FB, _⟩ := W.bet
  obtain ⟨gA, mA, FA, _⟩ := W.addC
  obtain ⟨gA2, mA2, FA2, _⟩ := W.addM
  obtain ⟨gE, mE, FE⟩ := W.p.eqM
  obtain ⟨gE2, mE2, FE2, FE3⟩ := W.eqC
  obtain ⟨pC, gC, fdC, prC, GC, bC⟩ := W.p.came
  obtain ⟨pW, gW, fdW, prW, GW, bW⟩ := W.p.went
  obtain ⟨fI, fdI, MK, FI, kb⟩ := W.kwC
  refine ⟨_, pss_cons (ps_set (i := 14) scRt.nd rfl (.inl rfl) (pe_op (op_binO mA W.sfD FA (hr.mono (by decide)) passL)
      (pe_smeth (pe_glob (v := .ref D) (by rfl) W.g.G.g rfl) W.crD mB FB (hr.mono (by decide)) passL (pa_cons (pe_ix ix_list (pv 2) pe_int (fun _ _ => rfl)) (pa_cons (pe_ix ix_list (pv 2) pe_int (fun _ _ => rfl)) pa_nil)))
      (pe_smeth (pe_glob (v := .ref D) (by rfl) W.g.G.g rfl) W.crD mB FB (hr.mono (by decide)) passL (pa_cons (pe_ix ix_list (pv 2) pe_int (fun _ _ => rfl)) (pa_cons (pe_ix ix_list (pv 2) pe_int (fun _ _ => rfl)) pa_nil)))))
    (pss_cons (ps_if (PW.pt (pw_or (pt_cmpR (op_neX mE W.neM FE (hr.mono (by decide))) (pe_op (op_binD mA2 W.g.b.sf W.rAddC W.oCD FA2 (hr.mono (by decide)) passL) (pe_ix ix_list (pv 2) pe_int (fun _ _ => rfl)) (pv 14)) (pe_ix ix_list (pv 2) pe_int (fun _ _ => rfl)) (nomark _))
      (pw_or (pt_cmpR (op_eqX mE2 FE3 (hr.mono (by decide))) (pv 9) (pe_prop (pv 9) W.g.G.cl prC GC (hr.mono (by decide)) bC .nil pass0 rfl) (nomark _))
      (pw_or1 (pt_cmpR (op_neX mE2 W.neD FE2 (hr.mono (by decide))) (pv 9) (pe_makeK0 MK FI (hr.mono (by decide)) (by rfl) W.g.G.g kb passL (pk_cons (pe_prop (pv 9) W.g.G.cl prW GW (hr.mono (by decide)) bW .nil pass0 rfl) (pk_cons (pe_prop (pv 9) W.g.G.cl prC GC (hr.mono (by decide)) bC .nil pass0 rfl) pk_nil))) (nomark _)))))) (pss_one (ps_ret pe_bl)) pss_nil)
    (rt11 (p := p) (Pt := Pt) W CK hgd hr)), ?_⟩
  subst eσ
  obtain ⟨a0, z0, h0, _, M0, l0⟩ := g.nth (k := 0) (by decide)
  obtain ⟨a1, z1, h1, _, M1, l1⟩ := g.nth (k := 1) (by decide)
  obtain ⟨a2, z2, h2, _, M2, l2⟩ := g.nth (k := 2) (by decide)
  refine ⟨rfl, _, rfl, sm, _, _, .ref a0, rfl, rfl, SqL.of g.hs, atI_nat (j := 0) (rat h0), ?_⟩
  refine ⟨_, rfl, sm, _, _, .ref a1, rfl, rfl, SqL.of g.hs, atI_nat (j := 1) (rat h1), ?_⟩
  refine ⟨a0, a1, z0, z1, rfl, M0, M1, by omega, fun b1 cb1 gb1 H1 _ s1 e1 e2 B1 => ?_⟩
  have G1 := g.same s1
  refine ⟨rfl, _, rfl, sm, _, _, .ref a1, rfl, rfl, SqL.of G1.hs, atI_nat (j := 1) (rat h1), ?_⟩
  refine ⟨_, rfl, sm, _, _, .ref a2, rfl, rfl, SqL.of G1.hs, atI_nat (j := 2) (rat h2), ?_⟩
  refine ⟨a1, a2, z1, z2, rfl, M1.same s1, M2.same s1, by omega, fun b2 cb2 gb2 H2 _ s2 e3 e4 B2 => ?_⟩
  have G2 := G1.same s2
  obtain ⟨q1, q2⟩ := B1.srts
  obtain ⟨q3, q4⟩ := B2.srts
  have k1 : cb1.length ≤ 6 := Nat.le_trans (len_sub q1.nd fun z hz => ((e1 z).mp hz).1) l1
  have k2 : gb1.length ≤ 6 := Nat.le_trans (len_sub q2.nd fun z hz => ((e2 z).mp hz).1) l0
  have k3 : cb2.length ≤ 6 := Nat.le_trans (len_sub q3.nd fun z hz => ((e3 z).mp hz).1) l2
  have k4 : gb2.length ≤ 6 := Nat.le_trans (len_sub q4.nd fun z hz => ((e4 z).mp hz).1) l1
  refine cadd_go (B1.same s2) B2 (by omega) fun tt ct gt H3 _ s3 e5 e6 B3 => ?_
  have G3 := G2.same s3
  obtain ⟨q5, q6⟩ := B3.srts
  have k5 : ct.length ≤ 12 := Nat.le_trans (aC_len q5.nd e5) (by omega)
  have k6 : gt.length ≤ 12 := Nat.le_trans (aC_len q6.nd e6) (by omega)
  have s13 := (s1.trans s2).trans s3
  refine ⟨_, rfl, sm, _, _, .ref a0, rfl, rfl, SqL.of G3.hs, atI_nat (j := 0) (rat h0), ?_⟩
  refine ⟨_, rfl, madd_go W.g.G W.g.J (M0.same s13) B3 (by omega) fun r y H4 _ s4 e7 M4 => ?_⟩
  have G4 := G3.same s4
  refine ⟨_, rfl, sm, _, _, .ref a2, rfl, rfl, SqL.of G4.hs, atI_nat (j := 2) (rat h2), ?_⟩
  refine ne_go W.g.b.M W.g.b.I M4 (M2.same (s13.trans s4)) ?_
  have ey : y = z2 := M4.isSrt.uniq M2.isSrt (tot_eq e1 e2 e3 e4 e5 e6 e7)
  rw [decide_eq_true ey]
  refine ⟨_, rfl, iteF ?_⟩
  have s14 := s13.trans s4
  have N1 := F1.m.same s14
  obtain ⟨dx, xa, xb, j1, j2, j3⟩ := N1.at_
  refine ⟨_, rfl, fld_came N1 (fun Q' h => ⟨_, rfl, h⟩) fun a' Ma' => ?_⟩
  refine ⟨f1, dx, _, _, rfl, j1, mem_ty W.g.b.M W.g.b.I Ma', W.nfDC, f1, c1, g1, _, rfl, N1, ⟨_, mem_ty W.g.b.M W.g.b.I Ma', W.tw.cd⟩, _, rfl, ?_⟩
  refine ⟨_, rfl, iteF ?_⟩
  have lc := F1.lc
  have lg := F1.lg
  refine ⟨_, rfl, ?_⟩
  refine chg_kw N1 (by omega) (fun Q' h => ⟨_, rfl, h⟩) fun r2 H5 _ s5 N5 => ?_
  refine cne_go W.g.G W.g.J (N1.same s5) N5 ?_
  rw [decide_eq_true rfl, decide_eq_true rfl]
  refine ⟨_, rfl, iteF ?_⟩
  have sA := s14.trans s5
  exact ⟨sm, f1, f2, f3, ss, Z, c1, g1, c2, g2, c3, g3, _, _, _, _, _, _, _, _, _, _, _, rfl, g.same sA, F1.same sA, F2.same sA, F3.same sA, fin.mv (.same sA g.pool g.tabs)⟩
end
end K1

namespace K1
open PySem PySem.Spec
open PyProof.Rows L2 L2H EnT StX SmX TxS DuX XdI Tr3 CnB ClX
theorem none_nil {ys zs : List Str} (h : ∀ z, z ∈ ys ↔ z ∈ zs ∧ ¬ z ∈ zs) : ys = [] := List.eq_nil_iff_forall_not_mem.mpr fun z hz => ((h z).mp hz).2 ((h z).mp hz).1
theorem empty_nil {ys : List Str} (h : ∀ z, z ∈ ys ↔ z ∈ ([] : List Str)) : ys = [] := List.eq_nil_iff_forall_not_mem.mpr fun z hz => by cases (h z).mp hz
/-- Change(Members(), Members()) -/
theorem key_nil {K : PySem.W.Frag} {C CN : Addr} {H : Hp} {σ : L2.St} {Q : VK} {E : XK} (h : ∀ m1 H2, Same H H2 → MemAt C H2 m1 [] → Q (.ref m1) H2) : tMakeR C (spInitR K C CN) E tNil σ H Q :=
  make_t (zs := []) (fun z hz => by cases hz) (by decide) (fun QQ h => h) fun m1 y1 H2 _ s2 e3 M1 => by
    have q1 := empty_nil e3
    subst q1
    exact h m1 H2 s2 M1
theorem two_nil {K : PySem.W.Frag} {C CN : Addr} {H : Hp} {σ : L2.St} {R : List V → Hp → Prop} {E : XK} (q : ∀ a b H', Same H H' → MemAt C H' a [] → MemAt C H' b [] → R [.ref a, .ref b] H') :
    tCons (tMakeR C (spInitR K C CN) E tNil) (tCons (tMakeR C (spInitR K C CN) E tNil) tNil) σ H R := by
  show tMakeR C (spInitR K C CN) E tNil σ H (fun x H1 => tCons (tMakeR C (spInitR K C CN) E tNil) tNil σ H1 fun xs H2 => R (x :: xs) H2)
  refine key_nil fun m1 H2 s2 M1 => ?_
  show tMakeR C (spInitR K C CN) E tNil σ H2 (fun x H1 => tNil σ H1 fun xs H2 => R (.ref m1 :: x :: xs) H2)
  exact key_nil fun m2 H3 s3 M2 => q m1 m2 H3 (s2.trans s3) (M1.same s3) M2
theorem chg_nil {K : PySem.W.Frag} {C D CN : Addr} {H : Hp} {σ : L2.St} {Q : VK} {E : XK} (q : ∀ ch H', Same H H' → ChgAt C D H' ch [] [] → Q (.ref ch) H') :
    tMakeR D (spInitY C D) E (tCons (tMakeR C (spInitR K C CN) E tNil) (tCons (tMakeR C (spInitR K C CN) E tNil) tNil)) σ H Q := by
  have z := two_nil (K := K) (C := C) (CN := CN) (H := H) (σ := σ) (E := E) (R := fun vs H1 => ∀ x dx, H1 x = Option.none → H1 dx = Option.none → dx ≠ x → spInitY C D (V.ref x :: vs) (upd (upd H1 dx (.own x)) x (.ins D dx [])) (fun v H2 => v = .non ∧ Q (.ref x) H2) E)
    fun m1 m2 H3 s3 M1 M2 => mkc_go (C := C) (D := D) (a := m1) (b := m2) (cs := []) (gs := []) (Q := Q) M1 M2 (by decide) (fun z hz => by cases hz) fun ch H4 _ s4 B4 => q ch H4 (s3.trans s4) B4
  exact z
section
variable {w : World} {P : Program} {base : Heap} {mg : Str → Option Value} {K : PySem.W.Frag} {C D CN CM CA CC S1 S2 S3 : Addr} {mc md : Value}
variable {f c Pt : Addr} {A : Around} {outer : List Env} {s : Shared} {H0 : Hp} {p : Addr}
theorem rt7 (W : Wd P w K mg base C D CN CM CA CC S1 S2 S3 mc md) (CK : Checks P w K mg base C D Pt) (hgd : A.guards = some []) (hr : Room 13 (A.deeper (envOfC "_law_right" (defScope sRight) s.heap.objs.size f (.ref c)))) :
    PSs (cxR P w K mg base f (.ref c) A outer s H0) (rtRest 7) (fun En σ H => AtF C D p Pt σ H En) := by
  refine pss_of fun En σ H hyp => ?_
  obtain ⟨sm, f1, f2, f3, ss, Z, c1, g1, c2, g2, c3, g3, x1, x3, x4, x5, x6, x7, x8, x12, x13, x14, x15, eσ, g, F1, F2, F3, fin⟩ := hyp.ex
  obtain ⟨pB, gB, fdB, mB, FB, _⟩ := W.bet
  obtain ⟨gA, mA, FA, _⟩ := W.addC
  obtain ⟨gE2, mE2, FE2, FE3⟩ := W.eqC
  obtain ⟨gAb, mAb, FAb⟩ := W.absC
  obtain ⟨gBo, mBo, FBo⟩ := W.boolC
  obtain ⟨fI, fdI, MK, FY, _⟩ := W.p.mak
  obtain ⟨f0, MM⟩ := W.mkM
  have T := W.g.b.T
  refine ⟨_, pss_cons (ps_set (i := 13) scRt.nd rfl (.inl rfl) (pe_smeth (pe_glob (v := .ref D) (by rfl) W.g.G.g rfl) W.crD mB FB (hr.mono (by decide)) passL (pa_cons (pe_ix ix_list (pv 2) pe_int (fun _ _ => rfl)) (pa_cons (pe_ix ix_list (pv 2) pe_int (fun _ _ => rfl)) pa_nil))))
    (pss_cons (ps_if (PW.pt (pw_or (pt_val (pe_callTy (call_boolB mBo FBo (hr.mono (by decide)) pass0) (by rfl) T.bool (by decide +kernel) (pa_cons (pv 13) pa_nil)))
      (pw_or (pt_cmpR op_ne (pe_callB (call_absO mAb FAb (hr.mono (by decide)) pass0) (by rfl) T.abs (by decide +kernel) (pa_cons (pv 13) pa_nil)) pe_int (nomark _))
      (pw_or (pt_cmpR (op_neX mE2 W.neD FE2 (hr.mono (by decide))) (pv 13) (pe_makeR MK FY (hr.mono (by decide)) (by rfl) W.g.G.g passL (pa_cons (pe_makeR0 MM.M MM.F (hr.mono (by decide)) (by rfl) W.g.b.M.g passL) (pa_cons (pe_makeR0 MM.M MM.F (hr.mono (by decide)) (by rfl) W.g.b.M.g passL) pa_nil))) (nomark _))
      (pw_or1 (pt_cmpR (op_neX mE2 W.neD FE2 (hr.mono (by decide))) (pe_op (op_binO mA W.sfD FA (hr.mono (by decide)) passL) (pv 13) (pv 9)) (pv 9) (nomark _))))))) (pss_one (ps_ret pe_bl)) pss_nil)
    (rt9 (p := p) (Pt := Pt) W CK hgd hr)), ?_⟩
  subst eσ
  obtain ⟨a0, z0, h0, _, M0, l0⟩ := g.nth (k := 0) (by decide)
  refine ⟨rfl, _, rfl, sm, _, _, .ref a0, rfl, rfl, SqL.of g.hs, atI_nat (j := 0) (rat h0), ?_⟩
  refine ⟨_, rfl, sm, _, _, .ref a0, rfl, rfl, SqL.of g.hs, atI_nat (j := 0) (rat h0), ?_⟩
  refine ⟨a0, a0, z0, z0, rfl, M0, M0, by omega, fun b1 cb gb H1 _ s1 e1 e2 B1 => ?_⟩
  have n1 := none_nil e1
  have n2 := none_nil e2
  subst n1 n2
  obtain ⟨dx, xa, xb, j1, j2, j3⟩ := B1.at_
  refine ⟨_, rfl, b1, dx, _, rfl, j1, b1, [], [], rfl, B1, _, rfl, _, rfl, iteF ?_⟩
  refine ⟨_, rfl, b1, dx, _, rfl, j1, b1, [], [], rfl, B1, rfl, ?_⟩
  have z0' : V.int (((([] : List Str).length : Nat) : Int) + ((([] : List Str).length : Nat) : Int)) = V.int 0 := rfl
  rw [decide_eq_true z0']
  refine ⟨_, rfl, iteF ?_⟩
  refine ⟨_, rfl, ?_⟩
  show tMakeR D (spInitY C D) _ _ _ H1 _
  refine chg_nil fun ch H4 s24 B4 => ?_
  refine cne_go W.g.G W.g.J (B1.same s24) B4 ?_
  refine ⟨_, rfl, iteF ?_⟩
  have s14 := s1.trans s24
  have N1 := F1.m.same s14
  have lc := F1.lc
  have lg := F1.lg
  refine ⟨_, rfl, _, rfl, cadd_go (B1.same s24) N1 (by simp only [List.length_nil]; omega) fun tt ct gt H5 _ s5 e5 e6 B5 => ?_⟩
  obtain ⟨r1, r2⟩ := N1.srts
  obtain ⟨r3, r4⟩ := B5.srts
  have u1 : ct = c1 := r3.uniq r1 fun z => (e5 z).trans (by simp [aC])
  have u2 : gt = g1 := r4.uniq r2 fun z => (e6 z).trans (by simp [aC])
  refine ⟨_, rfl, cne_go W.g.G W.g.J B5 (N1.same s5) ?_⟩
  rw [decide_eq_true u1, decide_eq_true u2]
  refine ⟨_, rfl, iteF ?_⟩
  have sA := s14.trans s5
  exact ⟨sm, f1, f2, f3, ss, Z, c1, g1, c2, g2, c3, g3, _, _, _, _, _, _, _, _, _, _, _, rfl, g.same sA, F1.same sA, F2.same sA, F3.same sA, fin.mv (.same sA g.pool g.tabs)⟩
/-- adding a sum, and adding one after another -/
theorem assoc2 {z0 c1 g1 c2 g2 ct gt y y1 y2 : List Str} (e1 : ∀ z, z ∈ ct ↔ aC (z ∈ c1) (z ∈ g2) (z ∈ c2)) (e2 : ∀ z, z ∈ gt ↔ aC (z ∈ g1) (z ∈ c2) (z ∈ g2)) (d2 : Apart c2 g2) (e3 : ∀ z, z ∈ y ↔ aC (z ∈ z0) (z ∈ gt) (z ∈ ct)) (e4 : ∀ z, z ∈ y1 ↔ aC (z ∈ z0) (z ∈ g1) (z ∈ c1))
    (e5 : ∀ z, z ∈ y2 ↔ aC (z ∈ y1) (z ∈ g2) (z ∈ c2)) : ∀ z, z ∈ y ↔ z ∈ y2 := fun z => by
  have d := d2 z
  rw [e3 z, e5 z]
  unfold aC
  rw [e1 z, e2 z, e4 z]
  unfold aC
  by_cases h0 : z ∈ z0 <;> by_cases h1 : z ∈ c1 <;> by_cases h2 : z ∈ g1 <;> by_cases h3 : z ∈ c2 <;> by_cases h4 : z ∈ g2 <;> simp [h0, h1, h2, h3, h4] at d ⊢
end
end K1

namespace K1
open PySem PySem.Spec
open PyProof.Rows L2 L2H EnT StX SmX TxS DuX XdI Tr3 CnB ClX
/-- three changes, added either way -/
theorem assoc3 {z0 c1 g1 c2 g2 c3 g3 c23 g23 cl gl c12 g12 cr gr y y' : List Str} (d2 : Apart c2 g2) (d3 : Apart c3 g3) (e1 : ∀ z, z ∈ c23 ↔ aC (z ∈ c2) (z ∈ g3) (z ∈ c3)) (e2 : ∀ z, z ∈ g23 ↔ aC (z ∈ g2) (z ∈ c3) (z ∈ g3))
    (e3 : ∀ z, z ∈ cl ↔ aC (z ∈ c1) (z ∈ g23) (z ∈ c23)) (e4 : ∀ z, z ∈ gl ↔ aC (z ∈ g1) (z ∈ c23) (z ∈ g23)) (e5 : ∀ z, z ∈ c12 ↔ aC (z ∈ c1) (z ∈ g2) (z ∈ c2)) (e6 : ∀ z, z ∈ g12 ↔ aC (z ∈ g1) (z ∈ c2) (z ∈ g2))
    (e7 : ∀ z, z ∈ cr ↔ aC (z ∈ c12) (z ∈ g3) (z ∈ c3)) (e8 : ∀ z, z ∈ gr ↔ aC (z ∈ g12) (z ∈ c3) (z ∈ g3)) (e9 : ∀ z, z ∈ y ↔ aC (z ∈ z0) (z ∈ gl) (z ∈ cl)) (e10 : ∀ z, z ∈ y' ↔ aC (z ∈ z0) (z ∈ gr) (z ∈ cr)) : ∀ z, z ∈ y ↔ z ∈ y' := fun z => by
  have q2 := d2 z
  have q3 := d3 z
  have hc : z ∈ cl ↔ z ∈ cr := by
    rw [e3 z, e7 z]
    unfold aC
    rw [e1 z, e2 z, e5 z]
    unfold aC
    by_cases h1 : z ∈ c2 <;> by_cases h2 : z ∈ g2 <;> by_cases h3 : z ∈ c3 <;> by_cases h4 : z ∈ g3 <;> simp [h1, h2, h3, h4] at q2 q3 ⊢
  have hg : z ∈ gl ↔ z ∈ gr := by
    rw [e4 z, e8 z]
    unfold aC
    rw [e1 z, e2 z, e6 z]
    unfold aC
    by_cases h1 : z ∈ c2 <;> by_cases h2 : z ∈ g2 <;> by_cases h3 : z ∈ c3 <;> by_cases h4 : z ∈ g3 <;> simp [h1, h2, h3, h4] at q2 q3 ⊢
  rw [e9 z, e10 z]
  unfold aC
  rw [hc, hg]
section
variable {w : World} {P : Program} {base : Heap} {mg : Str → Option Value} {K : PySem.W.Frag} {C D CN CM CA CC S1 S2 S3 : Addr} {mc md : Value}
variable {f c Pt : Addr} {A : Around} {outer : List Env} {s : Shared} {H0 : Hp} {p : Addr}
theorem rt6 (W : Wd P w K mg base C D CN CM CA CC S1 S2 S3 mc md) (CK : Checks P w K mg base C D Pt) (hgd : A.guards = some []) (hr : Room 13 (A.deeper (envOfC "_law_right" (defScope sRight) s.heap.objs.size f (.ref c)))) :
    PSs (cxR P w K mg base f (.ref c) A outer s H0) (rtRest 6) (fun En σ H => AtF C D p Pt σ H En) := by
  refine pss_of fun En σ H hyp => ?_
  obtain ⟨sm, f1, f2, f3, ss, Z, c1, g1, c2, g2, c3, g3, x1, x3, x4, x5, x6, x7, x8, x12, x13, x14, x15, eσ, g, F1, F2, F3, fin⟩ := hyp.ex
  obtain ⟨gA, mA, FA, _⟩ := W.addC
  obtain ⟨gA2, mA2, FA2, _⟩ := W.addM
  obtain ⟨gE, mE, FE⟩ := W.p.eqM
  refine ⟨_, pss_cons (ps_for PassesOwn.never rfl (pi_list (pv 2)) (pg_name (i := 12) scRt.nd rfl (.inl rfl))
      (pss_cons (ps_if (pt_cmpR (op_neX mE W.neM FE (hr.mono (by decide)))
          (pe_op (op_binD mA2 W.g.b.sf W.rAddC W.oCD FA2 (hr.mono (by decide)) passL) (pv 12) (pe_op (op_binO mA W.sfD FA (hr.mono (by decide)) passL) (pv 9) (pv 10)))
          (pe_op (op_binD mA2 W.g.b.sf W.rAddC W.oCD FA2 (hr.mono (by decide)) passL) (pe_op (op_binD mA2 W.g.b.sf W.rAddC W.oCD FA2 (hr.mono (by decide)) passL) (pv 12) (pv 9)) (pv 10)) (nomark _)) (pss_one (ps_ret pe_bl)) pss_nil)
      (pss_one (ps_if (pt_cmpR (op_neX mE W.neM FE (hr.mono (by decide)))
          (pe_op (op_binD mA2 W.g.b.sf W.rAddC W.oCD FA2 (hr.mono (by decide)) passL) (pv 12) (pe_op (op_binO mA W.sfD FA (hr.mono (by decide)) passL) (pv 9) (pe_op (op_binO mA W.sfD FA (hr.mono (by decide)) passL) (pv 10) (pv 11))))
          (pe_op (op_binD mA2 W.g.b.sf W.rAddC W.oCD FA2 (hr.mono (by decide)) passL) (pv 12) (pe_op (op_binO mA W.sfD FA (hr.mono (by decide)) passL) (pe_op (op_binO mA W.sfD FA (hr.mono (by decide)) passL) (pv 9) (pv 10)) (pv 11))) (nomark _)) (pss_one (ps_ret pe_bl)) pss_nil))))
    (rt7 (p := p) (Pt := Pt) W CK hgd hr), ?_⟩
  subst eσ
  have ls := g.ms.len
  have l5 := g.l5
  have lc1 := F1.lc
  have lg1 := F1.lg
  have lc2 := F2.lc
  have lg2 := F2.lg
  have lc3 := F3.lc
  have lg3 := F3.lg
  refine ⟨_, rfl, sm, rfl, ⟨_, SqL.of g.hs⟩, for_list (xs := ss.map V.ref) (K := K) (a := sm) (fun i σ H' => Same H H' ∧ ∃ y12 : Option V, σ = [some (.ref p), x1, some (.ref sm), x3, x4, x5, x6, x7, x8, some (.ref f1), some (.ref f2), some (.ref f3), y12, x13, x14, x15]) ⟨Same.refl H, _, rfl⟩ ?_ ?_ ?_⟩
  · rintro i σ H1 hi ⟨s1, _⟩
    exact SqL.of (s1 _ _ g.hs)
  · rintro i x σ H1 hx ⟨s1, y12, rfl⟩
    rw [List.getElem?_map] at hx
    obtain ⟨m0, hm, rfl⟩ := Option.map_eq_some_iff.mp hx
    have hi : i < ss.length := (List.getElem?_eq_some_iff.mp hm).1
    obtain ⟨a', z0, ha', hz, M0, l0⟩ := (g.same s1).nth (k := i) (by omega)
    rw [hm] at ha'
    cases ha'
    have N1 := F1.m.same s1
    have N2 := F2.m.same s1
    have N3 := F3.m.same s1
    -- a sum, or one after another
    refine ⟨_, rfl, _, rfl, _, rfl, cadd_go N1 N2 (by omega) fun b1 ct gt H2 _ s2 e1 e2 B1 => ?_⟩
    obtain ⟨q1, q2⟩ := B1.srts
    have k1 := aC_len q1.nd e1
    have k2 := aC_len q2.nd e2
    refine madd_go W.g.G W.g.J (M0.same s2) B1 (by omega) fun r1 y H3 _ s3 e3 M3 => ?_
    have s23 := s2.trans s3
    refine ⟨_, rfl, _, rfl, madd_go W.g.G W.g.J (M0.same s23) (N1.same s23) (by omega) fun r2 y1 H4 _ s4 e4 M4 => ?_⟩
    have s24 := s23.trans s4
    have k4 := aC_len M4.nd e4
    refine ⟨_, rfl, madd_go W.g.G W.g.J M4 (N2.same s24) (by omega) fun r3 y2 H5 _ s5 e5 M5 => ?_⟩
    have s25 := s24.trans s5
    refine ne_go W.g.b.M W.g.b.I (M3.same (s4.trans s5)) M5 ?_
    have ey : y = y2 := M3.isSrt.uniq M5.isSrt (assoc2 e1 e2 N2.apart e3 e4 e5)
    rw [decide_eq_true ey]
    refine ⟨_, rfl, iteF ?_⟩
    -- three
    have P1 := N1.same s25
    have P2 := N2.same s25
    have P3 := N3.same s25
    refine ⟨_, rfl, _, rfl, _, rfl, _, rfl, cadd_go P2 P3 (by omega) fun b2 c23 g23 H6 _ s6 u1 u2 B2 => ?_⟩
    obtain ⟨q3, q4⟩ := B2.srts
    have k5 := aC_len q3.nd u1
    have k6 := aC_len q4.nd u2
    refine cadd_go (P1.same s6) B2 (by omega) fun b3 cl gl H7 _ s7 u3 u4 B3 => ?_
    obtain ⟨q5, q6⟩ := B3.srts
    have k7 := aC_len q5.nd u3
    have k8 := aC_len q6.nd u4
    have s67 := s6.trans s7
    refine madd_go W.g.G W.g.J (M0.same (s25.trans s67)) B3 (by omega) fun r4 w1 H8 _ s8 u9 M8 => ?_
    have s68 := s67.trans s8
    refine ⟨_, rfl, _, rfl, _, rfl, cadd_go (P1.same s68) (P2.same s68) (by omega) fun b4 c12 g12 H9 _ s9 u5 u6 B4 => ?_⟩
    obtain ⟨q7, q8⟩ := B4.srts
    have k9 := aC_len q7.nd u5
    have k10 := aC_len q8.nd u6
    have s69 := s68.trans s9
    refine ⟨_, rfl, cadd_go B4 (P3.same s69) (by omega) fun b5 cr gr H10 _ s10 u7 u8 B5 => ?_⟩
    obtain ⟨q9, q10⟩ := B5.srts
    have k11 := aC_len q9.nd u7
    have k12 := aC_len q10.nd u8
    have s610 := s69.trans s10
    refine madd_go W.g.G W.g.J (M0.same (s25.trans s610)) B5 (by omega) fun r5 w2 H11 _ s11 u10 M11 => ?_
    refine ne_go W.g.b.M W.g.b.I (M8.same ((s9.trans s10).trans s11)) M11 ?_
    have ew : w1 = w2 := M8.isSrt.uniq M11.isSrt (assoc3 P2.apart P3.apart u1 u2 u3 u4 u5 u6 u7 u8 u9 u10)
    rw [decide_eq_true ew]
    refine ⟨_, rfl, iteF ?_⟩
    exact ⟨s1.trans (s25.trans (s610.trans s11)), _, rfl⟩
  · rintro σ H1 ⟨s1, y12, rfl⟩
    exact ⟨sm, f1, f2, f3, ss, Z, c1, g1, c2, g2, c3, g3, _, _, _, _, _, _, _, _, _, _, _, rfl, g.same s1, F1.same s1, F2.same s1, F3.same s1, fin.mv (.same s1 g.pool g.tabs)⟩
end
end K1

namespace K1
open PySem PySem.Spec
open PyProof.Rows L2 L2H EnT StX SmX TxS DuX XdI Tr3 CnB ClX
theorem three {α : Type} {l : List α} (h : l.length = 3) : ∃ a b c, l = [a, b, c] := by
  match l, h with
  | [a, b, c], _ => exact ⟨a, b, c, rfl⟩
theorem at1 {xs : List V} {i : Nat} {v : V} (h : xs[i + 1]? = some v) : atI xs ((0 : Int) + (i : Nat) + 1) = some v := by
  rw [Int.zero_add]
  exact atI_nat (j := i + 1) h
structure R3 where
  q : Addr
  ch : Addr
  a : Addr
  b : Addr
  cs : List Str
  gs : List Str
structure One (C D : Addr) (r : R3) (H : Hp) : Prop where
  hq : H r.q = some (.lst [.ref r.ch, .ref r.a, .ref r.b])
  m : Chg6 C D r.ch r.cs r.gs H
  ha : H r.a = some (.lst (r.cs.map V.str))
  hb : H r.b = some (.lst (r.gs.map V.str))
theorem One.same {C D : Addr} {r : R3} {H H' : Hp} (g : One C D r H) (e : Same H H') : One C D r H' := ⟨e _ _ g.hq, g.m.same e, e _ _ g.ha, e _ _ g.hb⟩
structure Md (C D md : Addr) (rows : List R3) (H : Hp) : Prop where
  hm : H md = some (.lst (rows.map fun r => V.ref r.q))
  l3 : rows.length = 3
  one : ∀ r ∈ rows, One C D r H
theorem Md.same {C D md : Addr} {rows : List R3} {H H' : Hp} (g : Md C D md rows H) (e : Same H H') : Md C D md rows H' := ⟨e _ _ g.hm, g.l3, fun r h => (g.one r h).same e⟩
structure AtM (C D p Pt : Addr) (σ : L2.St) (H : Hp) (En : Ends) : Prop where
  ex : ∃ (sm md : Addr) (ss : List Addr) (Z : List (List Str)) (rows : List R3) (x1 x4 x5 x6 x7 x8 x9 x10 x11 x12 x13 x14 x15 : Option V), σ = [some (.ref p), x1, some (.ref sm), some (.ref md), x4, x5, x6, x7, x8, x9, x10, x11, x12, x13, x14, x15] ∧
    Sm C p Pt sm ss Z H ∧ Md C D md rows H ∧ Fin p (TbO Pt) H En
section
variable {w : World} {P : Program} {base : Heap} {mg : Str → Option Value} {K : PySem.W.Frag} {C D CN CM CA CC S1 S2 S3 : Addr} {mc md : Value}
variable {f c Pt : Addr} {A : Around} {outer : List Env} {s : Shared} {H0 : Hp} {p : Addr}
theorem rt5 (W : Wd P w K mg base C D CN CM CA CC S1 S2 S3 mc md) (CK : Checks P w K mg base C D Pt) (hgd : A.guards = some []) (hr : Room 13 (A.deeper (envOfC "_law_right" (defScope sRight) s.heap.objs.size f (.ref c)))) :
    PSs (cxR P w K mg base f (.ref c) A outer s H0) (rtRest 5) (fun En σ H => AtM C D p Pt σ H En) := by
  refine pss_of fun En σ H hyp => ?_
  obtain ⟨sm, md', ss, Z, rows, x1, x4, x5, x6, x7, x8, x9, x10, x11, x12, x13, x14, x15, eσ, g, R, fin⟩ := hyp.ex
  refine ⟨_, pss_cons (ps_asg (pe_lc (own := [("_law_row", 15)]) (g := gName 15) (tt := tYes) (te := tOp (rIxL K) (tVar 15) (tC (.int 0))) rfl scRt.nd (pi_list (pv 3))
        (blkOk_by (own := [("_law_row", 15)]) (N := nmRt) (sc := defScope sRight) (by decide +kernel)) (fun _ _ _ _ _ => pg_name (i := 15) scRt.nd rfl (Or.inl rfl)) (fun _ _ _ _ _ => pts_nil)
        (fun _ _ _ _ _ => pe_ix ix_list (pv 15) pe_int (fun _ _ => rfl)))
      (pg_unl rfl (pgs_cons (pg_name (i := 9) scRt.nd rfl (.inl rfl)) (pgs_cons (pg_name (i := 10) scRt.nd rfl (.inl rfl)) (pgs_cons (pg_name (i := 11) scRt.nd rfl (.inl rfl)) pgs_nil)))))
    (rt6 (p := p) (Pt := Pt) W CK hgd hr), ?_⟩
  subst eσ
  obtain ⟨r1, r2, r3, rfl⟩ := three R.l3
  have O1 := R.one r1 (by simp)
  have O2 := R.one r2 (by simp)
  have O3 := R.one r3 (by simp)
  refine ⟨_, rfl, md', rfl, ⟨_, SqL.of R.hm⟩, fun D1 n1 => lc_pure (K := K) (a := md') (xs := [r1, r2, r3].map fun r => V.ref r.q) (fun i => ([r1, r2, r3].take i).map fun r => V.ref r.ch) (fun H' e => SqL.of (e _ _ R.hm)) n1 rfl (fun i x hx e => ?_) fun H1 s1 h1 => ?_⟩
  · rw [List.getElem?_map] at hx
    obtain ⟨r, hr', rfl⟩ := Option.map_eq_some_iff.mp hx
    have O := R.one r (List.mem_of_getElem? hr')
    refine ⟨rfl, _, rfl, r.q, _, _, .ref r.ch, rfl, rfl, SqL.of (e _ _ O.hq), atI_nat (j := 0) rfl, step_ok (out := fun i => ([r1, r2, r3].take i).map fun r => V.ref r.ch) ?_ ?_⟩
    · show (([r1, r2, r3].take i).map fun r => V.ref r.ch).length < sizeLine
      rw [List.length_map, List.length_take, sizeLine_eq]
      show min i 3 < _
      omega
    · show ([r1, r2, r3].take (i + 1)).map _ = _
      rw [List.take_add_one, hr', List.map_append]
      rfl
  · refine ⟨D1, _, rfl, SqL.of h1, rfl, _, _, rfl, _, _, rfl, _, _, rfl, rfl, ?_⟩
    exact ⟨sm, r1.ch, r2.ch, r3.ch, ss, Z, r1.cs, r1.gs, r2.cs, r2.gs, r3.cs, r3.gs, _, _, _, _, _, _, _, _, _, _, _, rfl, g.same s1, O1.m.same s1, O2.m.same s1, O3.m.same s1, fin.mv (.same s1 g.pool g.tabs)⟩
end
end K1

namespace K1
open PySem PySem.Spec
open PyProof.Rows L2 L2H EnT StX SmX TxS DuX XdI Tr3 CnB ClX
section
variable {w : World} {P : Program} {base : Heap} {mg : Str → Option Value} {K : PySem.W.Frag} {C D CN CM CA CC S1 S2 S3 : Addr} {mc md : Value}
variable {f c Pt : Addr} {A : Around} {outer : List Env} {s : Shared} {H0 : Hp} {p : Addr}
theorem rt4 (W : Wd P w K mg base C D CN CM CA CC S1 S2 S3 mc md) (CK : Checks P w K mg base C D Pt) (hgd : A.guards = some []) (hr : Room 13 (A.deeper (envOfC "_law_right" (defScope sRight) s.heap.objs.size f (.ref c)))) :
    PSs (cxR P w K mg base f (.ref c) A outer s H0) (rtRest 4) (fun En σ H => AtM C D p Pt σ H En) := by
  refine pss_of fun En σ H hyp => ?_
  obtain ⟨sm, md', ss, Z, rows, x1, x4, x5, x6, x7, x8, x9, x10, x11, x12, x13, x14, x15, eσ, g, R, fin⟩ := hyp.ex
  obtain ⟨pB, gB, fdB, mB, _, _, _, FB, kb⟩ := W.bet
  obtain ⟨gA2, mA2, FA2, _⟩ := W.addM
  obtain ⟨gM, mM, FM⟩ := W.negC
  obtain ⟨gS, mS, FS⟩ := W.g.sub
  obtain ⟨gE, mE, FE⟩ := W.p.eqM
  obtain ⟨pC, gC, fdC, prC, GC, bC⟩ := W.p.came
  obtain ⟨pW, gW, fdW, prW, GW, bW⟩ := W.p.went
  have T := W.g.b.T
  refine ⟨_, pss_cons (ps_for PassesOwn.never rfl (pi_range1 rfl T.range (pa_cons pe_int pa_nil)) (pg_name (i := 7) scRt.nd rfl (.inl rfl))
      (pss_cons (ps_set (i := 8) scRt.nd rfl (.inl rfl) (pe_smethK (pe_glob (v := .ref D) (by rfl) W.g.G.g rfl) W.crD mB FB kb (hr.mono (by decide)) passL (pk_cons (pe_ix ix_list (pv 2) (pv 7) (fun _ _ => rfl)) (pk_cons (pe_ix ix_list (pv 2) (pe_op op_add (pv 7) pe_int) (fun _ _ => rfl)) pk_nil))))
      (pss_cons (ps_if (PW.pt (pw_or (pt_cmpR (op_neX mE W.neM FE (hr.mono (by decide))) (pe_op (op_binD mA2 W.g.b.sf W.rAddC W.oCD FA2 (hr.mono (by decide)) passL) (pe_ix ix_list (pv 2) (pv 7) (fun _ _ => rfl)) (pv 8)) (pe_ix ix_list (pv 2) (pe_op op_add (pv 7) pe_int) (fun _ _ => rfl)) (nomark _))
        (pw_or1 (pt_cmpR (op_neX mE W.neM FE (hr.mono (by decide))) (pe_op (op_binD mA2 W.g.b.sf W.rAddC W.oCD FA2 (hr.mono (by decide)) passL) (pe_ix ix_list (pv 2) (pe_op op_add (pv 7) pe_int) (fun _ _ => rfl)) (pe_un (un_negO mM FM (hr.mono (by decide)) passL) (pv 8))) (pe_ix ix_list (pv 2) (pv 7) (fun _ _ => rfl)) (nomark _))))) (pss_one (ps_ret pe_bl)) pss_nil)
      (pss_one (ps_if (PW.pt (pw_or (pt_cmpR (op_neX mE W.neM FE (hr.mono (by decide))) (pe_prop (pv 8) W.g.G.cl prC GC (hr.mono (by decide)) bC .nil pass0 rfl) (pe_op (op_binO mS W.g.b.sf FS (hr.mono (by decide)) passL) (pe_ix ix_list (pv 2) (pe_op op_add (pv 7) pe_int) (fun _ _ => rfl)) (pe_ix ix_list (pv 2) (pv 7) (fun _ _ => rfl))) (nomark _))
        (pw_or1 (pt_cmpR (op_neX mE W.neM FE (hr.mono (by decide))) (pe_prop (pv 8) W.g.G.cl prW GW (hr.mono (by decide)) bW .nil pass0 rfl) (pe_op (op_binO mS W.g.b.sf FS (hr.mono (by decide)) passL) (pe_ix ix_list (pv 2) (pv 7) (fun _ _ => rfl)) (pe_ix ix_list (pv 2) (pe_op op_add (pv 7) pe_int) (fun _ _ => rfl))) (nomark _))))) (pss_one (ps_ret pe_bl)) pss_nil)))))
    (rt5 (p := p) (Pt := Pt) W CK hgd hr), ?_⟩
  subst eσ
  refine ⟨4, rfl, by decide, by decide, for_range (lo := 0) (n := 4) (fun i σ H' => Same H H' ∧ ∃ y7 y8 : Option V, σ = [some (.ref p), x1, some (.ref sm), some (.ref md'), x4, x5, x6, y7, y8, x9, x10, x11, x12, x13, x14, x15]) ⟨Same.refl H, _, _, rfl⟩ ?_ ?_⟩
  · rintro i σ H1 hi ⟨s1, y7, y8, rfl⟩
    have g1 := g.same s1
    obtain ⟨a0, z0, h0, _, M0, l0⟩ := g1.nth (k := i) (by omega)
    obtain ⟨a1, z1, h1, _, M1, l1⟩ := g1.nth (k := i + 1) (by omega)
    refine ⟨rfl, _, rfl, _, rfl, sm, _, _, .ref a0, rfl, rfl, SqL.of g1.hs, at0 (rat h0), ?_⟩
    refine ⟨_, rfl, _, rfl, _, _, rfl, rfl, sm, _, _, .ref a1, rfl, rfl, SqL.of g1.hs, at1 (rat h1), rfl, ?_⟩
    refine ⟨a0, a1, z0, z1, rfl, M0, M1, by omega, fun b cb gb H2 _ s2 e1 e2 B => ?_⟩
    have g2 := g1.same s2
    obtain ⟨q1, q2⟩ := B.srts
    have k1 : cb.length ≤ 6 := Nat.le_trans (len_sub q1.nd fun z hz => ((e1 z).mp hz).1) l1
    have k2 : gb.length ≤ 6 := Nat.le_trans (len_sub q2.nd fun z hz => ((e2 z).mp hz).1) l0
    -- some[k] + between
    refine ⟨_, rfl, _, rfl, sm, _, _, .ref a0, rfl, rfl, SqL.of g2.hs, at0 (rat h0), ?_⟩
    refine ⟨_, rfl, madd_go W.g.G W.g.J (M0.same s2) B (by omega) fun r y H3 _ s3 e3 M3 => ?_⟩
    have s23 := s2.trans s3
    have g3 := g1.same s23
    refine ⟨_, rfl, _, rfl, _, _, rfl, rfl, sm, _, _, .ref a1, rfl, rfl, SqL.of g3.hs, at1 (rat h1), ?_⟩
    refine ne_go W.g.b.M W.g.b.I M3 (M1.same s23) ?_
    have ey : y = z1 := M3.isSrt.uniq M1.isSrt fun z => by
      refine (e3 z).trans ?_
      show (z ∈ z0 ∧ ¬ z ∈ gb) ∨ z ∈ cb ↔ z ∈ z1
      rw [e1 z, e2 z]
      by_cases u0 : z ∈ z0 <;> by_cases u1 : z ∈ z1 <;> simp [u0, u1]
    rw [decide_eq_true ey]
    refine ⟨_, rfl, iteF ?_⟩
    -- some[k + 1] + -between
    refine ⟨_, rfl, _, rfl, _, _, rfl, rfl, sm, _, _, .ref a1, rfl, rfl, SqL.of g3.hs, at1 (rat h1), ?_⟩
    refine ⟨_, rfl, cneg_go (B.same s3) (by omega) fun nb H4 _ s4 B4 => ?_⟩
    refine madd_go W.g.G W.g.J (M1.same (s23.trans s4)) B4 (by omega) fun r2 y2 H5 _ s5 e5 M5 => ?_
    have s25 := (s23.trans s4).trans s5
    have g5 := g1.same s25
    refine ⟨_, rfl, _, rfl, sm, _, _, .ref a0, rfl, rfl, SqL.of g5.hs, at0 (rat h0), ?_⟩
    refine ne_go W.g.b.M W.g.b.I M5 (M0.same s25) ?_
    have ey2 : y2 = z0 := M5.isSrt.uniq M0.isSrt fun z => by
      refine (e5 z).trans ?_
      show (z ∈ z1 ∧ ¬ z ∈ cb) ∨ z ∈ gb ↔ z ∈ z0
      rw [e1 z, e2 z]
      by_cases u0 : z ∈ z0 <;> by_cases u1 : z ∈ z1 <;> simp [u0, u1]
    rw [decide_eq_true ey2]
    refine ⟨_, rfl, iteF ?_⟩
    -- came, went
    have B5 := B.same ((s3.trans s4).trans s5)
    obtain ⟨dx, ca, wa, j1, Ma, Mw⟩ := B5.at_
    refine ⟨_, rfl, b, dx, _, rfl, j1, b, dx, _, _, rfl, j1, cflds_came ca wa, ?_⟩
    refine ⟨_, rfl, _, rfl, _, _, rfl, rfl, sm, _, _, .ref a1, rfl, rfl, SqL.of g5.hs, at1 (rat h1), ?_⟩
    refine ⟨_, rfl, _, rfl, sm, _, _, .ref a0, rfl, rfl, SqL.of g5.hs, at0 (rat h0), ?_⟩
    refine bin_go (M1.same s25) (M0.same s25) (by omega) fun d1 w1 H6 _ s6 e6 M6 => ?_
    refine ne_go W.g.b.M W.g.b.I (Ma.same s6) M6 ?_
    have ew : cb = w1 := q1.uniq M6.isSrt fun z => (e1 z).trans (e6 z).symm
    rw [decide_eq_true ew]
    refine ⟨_, rfl, iteF ?_⟩
    have s26 := s25.trans s6
    have g6 := g1.same s26
    refine ⟨_, rfl, b, dx, _, rfl, s6 _ _ j1, b, dx, _, _, rfl, s6 _ _ j1, cflds_went ca wa, ?_⟩
    refine ⟨_, rfl, _, rfl, sm, _, _, .ref a0, rfl, rfl, SqL.of g6.hs, at0 (rat h0), ?_⟩
    refine ⟨_, rfl, _, rfl, _, _, rfl, rfl, sm, _, _, .ref a1, rfl, rfl, SqL.of g6.hs, at1 (rat h1), ?_⟩
    refine bin_go (M0.same s26) (M1.same s26) (by omega) fun d2 w2 H7 _ s7 e7 M7 => ?_
    refine ne_go W.g.b.M W.g.b.I (Mw.same (s6.trans s7)) M7 ?_
    have ew2 : gb = w2 := q2.uniq M7.isSrt fun z => (e2 z).trans (e7 z).symm
    rw [decide_eq_true ew2]
    refine ⟨_, rfl, iteF ?_⟩
    exact ⟨s1.trans (s26.trans s7), _, _, rfl⟩
  · rintro σ H1 ⟨s1, y7, y8, rfl⟩
    exact ⟨sm, md', ss, Z, rows, _, _, _, _, _, _, _, _, _, _, _, _, _, rfl, g.same s1, R.same s1, fin.mv (.same s1 g.pool g.tabs)⟩
theorem rt3 (W : Wd P w K mg base C D CN CM CA CC S1 S2 S3 mc md) (CK : Checks P w K mg base C D Pt) (hgd : A.guards = some []) (hr : Room 13 (A.deeper (envOfC "_law_right" (defScope sRight) s.heap.objs.size f (.ref c)))) :
    PSs (cxR P w K mg base f (.ref c) A outer s H0) (rtRest 3) (fun En σ H => AtM C D p Pt σ H En) := by
  refine pss_of fun En σ H hyp => ?_
  obtain ⟨sm, md', ss, Z, rows, x1, x4, x5, x6, x7, x8, x9, x10, x11, x12, x13, x14, x15, eσ, g, R, fin⟩ := hyp.ex
  obtain ⟨fo, mgo, kpo, GO⟩ := CK.one
  refine ⟨_, pss_cons (ps_for PassesOwn.never rfl (pi_list (pv 3)) (pg_unl rfl (pgs_cons (pg_name (i := 4) scRt.nd rfl (.inl rfl)) (pgs_cons (pg_name (i := 5) scRt.nd rfl (.inl rfl)) (pgs_cons (pg_name (i := 6) scRt.nd rfl (.inl rfl)) pgs_nil))))
      (pss_one (ps_if (pt_not (pt_val (pe_callG (x := "_law_one_right") GO (by exact hgd) (hr.mono (by decide)) (by rfl) mgo kpo (pa_cons (pv 4) (pa_cons (pv 5) (pa_cons (pv 6) (pa_cons (pv 2) pa_nil))))))) (pss_one (ps_ret pe_bl)) pss_nil)))
    (rt4 (p := p) (Pt := Pt) W CK hgd hr), ?_⟩
  subst eσ
  have ls := g.ms.len
  have l5 := g.l5
  refine ⟨_, rfl, md', rfl, ⟨_, SqL.of R.hm⟩, for_list (xs := rows.map fun r => V.ref r.q) (K := K) (a := md') (fun i σ H' => Same H H' ∧ ∃ y4 y5 y6 : Option V, σ = [some (.ref p), x1, some (.ref sm), some (.ref md'), y4, y5, y6, x7, x8, x9, x10, x11, x12, x13, x14, x15]) ⟨Same.refl H, _, _, _, rfl⟩ ?_ ?_ ?_⟩
  · rintro i σ H1 hi ⟨s1, _⟩
    exact SqL.of (s1 _ _ R.hm)
  · rintro i x σ H1 hx ⟨s1, y4, y5, y6, rfl⟩
    rw [List.getElem?_map] at hx
    obtain ⟨r, hr', rfl⟩ := Option.map_eq_some_iff.mp hx
    have O := (R.one r (List.mem_of_getElem? hr')).same s1
    have g1 := g.same s1
    have lc := O.m.lc
    have lg := O.m.lg
    refine ⟨r.q, _, rfl, SqL.of O.hq, rfl, _, _, rfl, _, _, rfl, _, _, rfl, rfl, ?_⟩
    refine ⟨_, rfl, _, rfl, _, rfl, _, rfl, r.ch, r.a, r.b, sm, r.cs, r.gs, ss, Z, rfl, ⟨O.m.m, O.ha, O.hb, g1.hs, g1.ms, by omega, by omega, by omega, fun z hz => by have := g.lz z hz; omega⟩, fun H2 s2 => ⟨_, rfl, iteF ?_⟩⟩
    exact ⟨s1.trans s2, _, _, _, rfl⟩
  · rintro σ H1 ⟨s1, y4, y5, y6, rfl⟩
    exact ⟨sm, md', ss, Z, rows, _, _, _, _, _, _, _, _, _, _, _, _, _, rfl, g.same s1, R.same s1, fin.mv (.same s1 g.pool g.tabs)⟩
end
end K1

namespace K1
open PySem PySem.Spec
open PyProof.Rows L2 L2H EnT StX SmX TxS DuX XdI Tr3 CnB ClX
theorem ext_set {p L : Addr} {H H' : Hp} {o : HO} (x : K1.Ext p H H') (hp : PoolAt H p) (n : H L = none) : K1.Ext p H (upd H' L o) := ⟨by
  obtain ⟨a, b, c, e⟩ := x.pool
  exact ⟨a, b, c, by rw [upd_ne (Ne.symm (hp.ne n))]; exact e⟩, fun d q nd e => by
  rw [upd_ne (ne_of_none e n)]
  exact x.keep d q nd e⟩
theorem Mems.snoc {C : Addr} {H : Hp} {ps : List Addr} {Y : List (List Str)} {p : Addr} {y : List Str} (h : Mems C H ps Y) (m : MemAt C H p y) : Mems C H (ps ++ [p]) (Y ++ [y]) := by
  refine ⟨by rw [List.length_append, List.length_append, h.len]; rfl, fun j p' y' a b => ?_⟩
  have l := h.len
  by_cases hj : j < ps.length
  · rw [List.getElem?_append_left hj] at a
    rw [List.getElem?_append_left (by omega)] at b
    exact h.at_ j p' y' a b
  · rw [List.getElem?_append_right (by omega)] at a
    rw [List.getElem?_append_right (by omega)] at b
    have e : j - ps.length = 0 := by
      have := (List.getElem?_eq_some_iff.mp a).1
      simp at this
      omega
    rw [e] at a
    rw [← l, e] at b
    cases a
    cases b
    exact m
theorem Mems.ext {C p : Addr} {H H' : Hp} {ps : List Addr} {Y : List (List Str)} (hp : PoolAt H p) (x : K1.Ext p H H') (h : Mems C H ps Y) : Mems C H' ps Y := ⟨h.len, fun j q y a b => (h.at_ j q y a b).ext hp x⟩
theorem Mems.set {C t : Addr} {H : Hp} {ps : List Addr} {Y : List (List Str)} {xs : List V} {o : HO} (ht : H t = some (.lst xs)) (h : Mems C H ps Y) : Mems C (upd H t o) ps Y := ⟨h.len, fun j q y a b => (h.at_ j q y a b).set ht⟩
structure AtR2 (C p Pt : Addr) (σ : L2.St) (H : Hp) (En : Ends) : Prop where
  ex : ∃ (q sm : Addr) (N : List Str) (ss : List Addr) (Z : List (List Str)) (x3 x4 x5 x6 x7 x8 x9 x10 x11 x12 x13 x14 x15 : Option V), σ = [some (.ref p), some (.ref q), some (.ref sm), x3, x4, x5, x6, x7, x8, x9, x10, x11, x12, x13, x14, x15] ∧
    Sm C p Pt sm ss Z H ∧ Row p q N H ∧ N.length = 6 ∧ Fin p (TbO Pt) H En
section
variable {w : World} {P : Program} {base : Heap} {mg : Str → Option Value} {K : PySem.W.Frag} {C D CN CM CA CC S1 S2 S3 : Addr} {mc md : Value}
variable {f c Pt : Addr} {A : Around} {outer : List Env} {s : Shared} {H0 : Hp} {p : Addr}
theorem rt2 (W : Wd P w K mg base C D CN CM CA CC S1 S2 S3 mc md) (CK : Checks P w K mg base C D Pt) (hgd : A.guards = some []) (hr : Room 13 (A.deeper (envOfC "_law_right" (defScope sRight) s.heap.objs.size f (.ref c)))) :
    PSs (cxR P w K mg base f (.ref c) A outer s H0) (rtRest 2) (fun En σ H => AtR2 C p Pt σ H En) := by
  refine pss_of fun En σ H hyp => ?_
  obtain ⟨q, sm, N, ss, Z, x3, x4, x5, x6, x7, x8, x9, x10, x11, x12, x13, x14, x15, eσ, g, r, l6, fin⟩ := hyp.ex
  obtain ⟨fA, hA⟩ := W.apart
  refine ⟨_, pss_cons (ps_set (i := 3) scRt.nd rfl (.inl rfl) (pe_lst (pa_cons (pe_has hA (hr.mono (by decide)) (by rfl) pass0 (pa_cons (pv 0) (pa_cons (pv 1) pa_nil))) (pa_cons (pe_has hA (hr.mono (by decide)) (by rfl) pass0 (pa_cons (pv 0) (pa_cons (pv 1) pa_nil)))
      (pa_cons (pe_has hA (hr.mono (by decide)) (by rfl) pass0 (pa_cons (pv 0) (pa_cons (pv 1) pa_nil))) pa_nil)))))
    (rt3 (p := p) (Pt := Pt) (C := C) W CK hgd hr), ?_⟩
  subst eσ
  have lim : ∀ {H' : Hp} {ch : Addr} {cs gs : List Str}, ChgAt C D H' ch cs gs → (∀ z ∈ cs, z ∈ N) → (∀ z ∈ gs, z ∈ N) → Chg6 C D ch cs gs H' := fun m a b => by
    obtain ⟨q1, q2⟩ := m.srts
    exact ⟨m, by have := len_sub q1.nd a; omega, by have := len_sub q2.nd b; omega⟩
  refine ⟨_, rfl, _, rfl, p, q, N, rfl, r, fun q1 ch1 a1 b1 cs1 gs1 H1 x1 nq1 hq1 m1 ha1 hb1 na1 nb1 u1 v1 => ?_⟩
  have r1 := r.ext x1
  have p1 := x1.pool
  have pq1 : q1 ≠ p := r.pool.ne nq1
  refine ⟨_, rfl, _, rfl, p, q, N, rfl, r1, fun q2 ch2 a2 b2 cs2 gs2 H2 x2 nq2 hq2 m2 ha2 hb2 na2 nb2 u2 v2 => ?_⟩
  have r2 := r1.ext x2
  have pq2 : q2 ≠ p := p1.ne nq2
  refine ⟨_, rfl, _, rfl, p, q, N, rfl, r2, fun q3 ch3 a3 b3 cs3 gs3 H3 x3 nq3 hq3 m3 ha3 hb3 na3 nb3 u3 v3 => ?_⟩
  have pq3 : q3 ≠ p := x2.pool.ne nq3
  refine ⟨(by show 3 ≤ sizeLine; decide), fun ml nml => ?_⟩
  have s4 : Same H3 (upd H3 ml (.lst [.ref q1, .ref q2, .ref q3])) := same_upd nml
  have x13 := (x1.trans x2).trans x3
  have x23 := x2.trans x3
  have mv : Mv p (TbO Pt) H (upd H3 ml (.lst [.ref q1, .ref q2, .ref q3])) := (Mv.ext x13 g.pool g.tabs).trans (.same s4 x3.pool (tabs_ext x13 g.pool g.tabs))
  have gz : Sm C p Pt sm ss Z (upd H3 ml (.lst [.ref q1, .ref q2, .ref q3])) := ⟨mv.rx.pool, mv.tabs, mv.at g.pool g.hs refs_nopool (fun _ e => by cases e), ⟨g.ms.len, fun j a y h1 h2 => mv.mem g.pool (g.ms.at_ j a y h1 h2)⟩, g.l5, g.lz⟩
  refine ⟨sm, ml, ss, Z, [⟨q1, ch1, a1, b1, cs1, gs1⟩, ⟨q2, ch2, a2, b2, cs2, gs2⟩, ⟨q3, ch3, a3, b3, cs3, gs3⟩], _, _, _, _, _, _, _, _, _, _, _, _, _, rfl, gz, ⟨upd_same, rfl, fun r hr => ?_⟩, fin.mv mv⟩
  simp only [List.mem_cons, List.not_mem_nil, or_false] at hr
  rcases hr with rfl | rfl | rfl
  · exact ⟨s4 _ _ (x23.at pq1 hq1), (lim ((m1.ext p1 x23)) u1 v1).same s4, s4 _ _ (x23.at na1 ha1), s4 _ _ (x23.at nb1 hb1)⟩
  · exact ⟨s4 _ _ (x3.at pq2 hq2), (lim ((m2.ext x2.pool x3)) u2 v2).same s4, s4 _ _ (x3.at na2 ha2), s4 _ _ (x3.at nb2 hb2)⟩
  · exact ⟨s4 _ _ hq3, (lim m3 u3 v3).same s4, s4 _ _ ha3, s4 _ _ hb3⟩
structure AtR0 (p Pt : Addr) (σ : L2.St) (H : Hp) (En : Ends) : Prop where
  ex : ∃ (x1 x2 x3 x4 x5 x6 x7 x8 x9 x10 x11 x12 x13 x14 x15 : Option V), σ = [some (.ref p), x1, x2, x3, x4, x5, x6, x7, x8, x9, x10, x11, x12, x13, x14, x15] ∧ PoolAt H p ∧ LamX.Tabs (TbO Pt) H ∧ Fin p (TbO Pt) H En
theorem rt0 (W : Wd P w K mg base C D CN CM CA CC S1 S2 S3 mc md) (CK : Checks P w K mg base C D Pt) (hgd : A.guards = some []) (hr : Room 13 (A.deeper (envOfC "_law_right" (defScope sRight) s.heap.objs.size f (.ref c)))) :
    PSs (cxR P w K mg base f (.ref c) A outer s H0) (rtRest 0) (fun En σ H => AtR0 p Pt σ H En) := by
  refine pss_of fun En σ H hyp => ?_
  obtain ⟨x1, x2, x3, x4, x5, x6, x7, x8, x9, x10, x11, x12, x13, x14, x15, eσ, hp, hT, fin⟩ := hyp.ex
  obtain ⟨fN, hN⟩ := W.names
  obtain ⟨fD, hD⟩ := W.drawn
  have T := W.g.b.T
  refine ⟨_, pss_cons (ps_set (i := 1) scRt.nd rfl (.inr rfl) (pe_has hN (hr.mono (by decide)) (by rfl) pass0 (pa_cons (pv 0) (pa_cons pe_int pa_nil))))
    (pss_cons (ps_setLc (i := 2) (own := [("_law_k", 7)]) (g := gName 7) (tt := tYes) (te := tCall (spDrawn C) [] E0 (tCons (tVar 0) (tCons (tVar 1) tNil))) rfl scRt.nd rfl rfl (sw_true rfl rfl rfl (by decide +kernel)) (pi_range1 rfl T.range (pa_cons pe_int pa_nil))
        (blkOk_by (own := [("_law_k", 7)]) (N := nmRt) (sc := defScope sRight) (by decide +kernel)) (fun _ _ _ _ _ => pg_name (i := 7) scRt.nd rfl (Or.inl rfl)) (fun _ _ _ _ _ => pts_nil)
        (fun _ _ _ _ _ => pe_has hD (hr.mono (by decide)) (by rfl) pass0 (pa_cons (pv 0) (pa_cons (pv 1) pa_nil))))
    (rt2 (p := p) (Pt := Pt) (C := C) W CK hgd hr)), ?_⟩
  subst eσ
  refine ⟨_, rfl, p, 6, rfl, hp, by decide, fun q N H1 e1 nq hq hl hn hnd => ?_⟩
  have m1 : Mv p (TbO Pt) H H1 := .ext e1 hp hT
  have qp : q ≠ p := hp.ne nq
  have r1 : Row p q N H1 := ⟨e1.pool, qp, hq, by omega, hnd, fun z h => tag_name (hn z h)⟩
  refine ⟨5, rfl, by decide, by decide, fun L nL => ?_⟩
  have Lp : L ≠ p := e1.pool.ne nL
  refine lc_range (lo := 0) (n := 5) (fun i H' => K1.Ext p H1 H' ∧ ∃ (ss : List Addr) (Z : List (List Str)), H' L = some (.lst (ss.map V.ref)) ∧ Mems C H' ss Z ∧ Z.length = i ∧ ∀ z ∈ Z, z.length ≤ 6) ?_ ?_ ?_
  · exact ⟨ext_set (.refl e1.pool) e1.pool nL, [], [], upd_same, ⟨rfl, fun j d y a => by cases a⟩, rfl, fun z h => by cases h⟩
  · rintro i H' hi ⟨x, ss, Z, hL, ms, lZ, hz⟩
    refine ⟨rfl, ?_⟩
    refine ⟨_, rfl, _, rfl, p, q, N, rfl, r1.ext x, fun b zs H2 x2 mb sub => ?_⟩
    have hL2 := x2.at Lp hL
    have lss := ms.len
    refine ⟨_, hL2, by rw [List.length_map, lss, lZ, sizeLine_eq]; omega, ext_set (x.trans x2) e1.pool nL, ss ++ [b], Z ++ [zs], by rw [upd_same, List.map_append]; rfl, ((ms.ext x.pool x2).set hL2).snoc (mb.set hL2), by rw [List.length_append, lZ]; rfl, fun z h => ?_⟩
    rcases List.mem_append.mp h with h | h
    · exact hz z h
    · rw [List.mem_singleton.mp h]
      have := len_sub mb.nd sub
      omega
  · rintro H2 ⟨x, ss, Z, hL, ms, lZ, hz⟩
    have m2 : Mv p (TbO Pt) H H2 := m1.trans (.ext x m1.rx.pool m1.tabs)
    exact ⟨q, L, N, ss, Z, _, _, _, _, _, _, _, _, _, _, _, _, _, rfl, ⟨m2.rx.pool, m2.tabs, hL, ms, lZ, hz⟩, r1.ext x, hl, fin.mv m2⟩
def spRight (Pt : Addr) : Sp := fun vs H Q _ => ∃ p, vs = [.ref p] ∧ PoolAt H p ∧ LamX.Tabs (TbO Pt) H ∧ ∀ H', Mv p (TbO Pt) H H' → Q (.bl true) H'
theorem ok_right (W : Wd P w K mg base C D CN CM CA CC S1 S2 S3 mc md) (CK : Checks P w K mg base C D Pt) (FR : FunC K "_law_right" "_law_right" sRight f c) : FnG P w K mg base CX0 14 f (spRight Pt) := by
  intro A outer st H us vs Q E hgd hr e0 r hyp
  obtain ⟨p, rfl, hp, hT, q⟩ := hyp
  obtain ⟨oc, od, kV, doc, pm, an, ct, osl, lk, hcd⟩ := FR.ex
  refine LamX.run_ofS (N := nmRt) (ps := ["_law_pool_here"]) (us := us) (vs := [.ref p]) lk hcd scRt hr e0 ?_ r rfl fun hr' => ⟨_, (rt0 (p := p) (Pt := Pt) (C := C) W CK hgd hr').nox, ?_⟩
  · have b : L2.Binds K (PySem.W.fnOf "_law_right" "_law_right" (defArgs sRight) (defBody sRight) (defScope sRight) .none kV doc pm an (.ref c) ct) ["_law_pool_here"] [] := .all fun us hl => match us, hl with | [_], _ => rfl
    have hl : us.length = 1 := by rw [← r.length]; rfl
    have z := b st us (e0.mod.kin.keeps fun b o e => (e0.bs b o e).1) (by rw [List.append_nil]; exact hl)
    rw [List.append_nil] at z
    exact z
  · exact ⟨_, _, _, _, _, _, _, _, _, _, _, _, _, _, _, rfl, hp, hT, fun H' m => q H' m⟩
end
end K1

namespace K1
open PySem PySem.Spec
open PyProof.Rows L2 EnT StX SmX TxS DuX XdI Tr3 CnB ClX
abbrev nmLaw : List Str := ["_law_cells", "_law_k"]
theorem scLaw : FnScope nmLaw ["_law_cells"] (defScope sLaw) := ⟨rfl, rfl, rfl, by decide +kernel, rfl, by decide +kernel, by decide +kernel⟩
/-- the law's promise: it tells True -/
def spLaw (K : PySem.W.Frag) (Pt : Addr) : Sp := fun vs H Q _ => ∃ (a : Addr) (ns : List Int), vs = [.ref a] ∧ SqL K H a (ns.map V.int) ∧ ns.length < 2 ^ 60 ∧ LamX.Tabs (TbO Pt) H ∧ ∀ H', Q (.bl true) H'
/-- all but the tables stays -/
structure LX (Pt : Addr) (H H' : Hp) : Prop where
  keep : ∀ b o, H b = some o → (∀ ps, o ≠ .tbl ps) → H' b = some o
  tabs : LamX.Tabs (TbO Pt) H'
theorem LX.seq {K : PySem.W.Frag} {Pt a : Addr} {H H' : Hp} {xs : List V} (x : LX Pt H H') (h : SqL K H a xs) : SqL K H' a xs := by
  rcases h with h | h
  · rcases h with h | ⟨o, h⟩
    · exact .inl (.inl (x.keep _ _ h (fun _ e => by cases e)))
    · exact .inl (.inr ⟨o, x.keep _ _ h (fun _ e => by cases e)⟩)
  · exact .inr h
section
variable {w : World} {P : Program} {base : Heap} {mg : Str → Option Value} {K : PySem.W.Frag} {C CN CM S1 S2 S3 : Addr} {mc : Value}
variable {fL fR c Pt : Addr}
/-- what the law itself calls -/
structure Top (P : Program) (w : World) (K : PySem.W.Frag) (mg : Str → Option Value) (base : Heap) (Pt : Addr) : Prop where
  cell : ∃ f, Has P w K mg base CX0 1 "_law_cell" f ["_law_cells", "_law_k"] (spCell K)
  pool : ∃ f, Has P w K mg base CX0 1 "_law_pool" f ["_law_cell_here"] spPool
  right : ∃ f, mg "_law_right" = some (.ref f) ∧ PySem.W.keepIn K (.ref f) = true ∧ FnG P w K mg base CX0 14 f (spRight Pt)
theorem ok_law (T : Free mg) (TP : Top P w K mg base Pt) {cL : Addr} (FL : FunC K "law" "law" sLaw fL cL) : FnG P w K mg base CX0 15 fL (spLaw K Pt) := by
  intro A outer s H us vs Q E hgd hr e0 r h
  obtain ⟨a, ns, rfl, hS, hlen, hT, q⟩ := h
  obtain ⟨oc, od, kV, doc, pm, an, ct, osl, lk, hcd⟩ := FL.ex
  obtain ⟨fC, hC⟩ := TP.cell
  obtain ⟨fP, hP⟩ := TP.pool
  obtain ⟨fR, mgR, kpR, GR⟩ := TP.right
  have body : ∀ hr' : Room 14 (A.deeper (envOfC "law" (defScope sLaw) s.heap.objs.size fL (.ref cL))), ∃ t, PSs (cxOf CX0 P w K mg base nmLaw "law" (defScope sLaw) fL (.ref cL) A outer s H E).nox (defBody sLaw) t ∧ t { nx := fun _ H' => Q .non H', rt := Q } (L2.start nmLaw [.ref a]) H := fun hr' => by
    refine ⟨_, pss_one (ps_ret (pe_callB (cr_all rfl) (by rfl) T.all (by decide +kernel) (pa_cons (pe_lc (own := [("_law_k", 1)]) (g := gName 1) (tt := tYes) (te := tCall (spRight Pt) [] E0 (tCons (tCall spPool [] E0 (tCons (tCall (spCell K) [] E0 (tCons (tVar 0) (tCons (tVar 1) tNil))) tNil)) tNil)) rfl scLaw.nd
        (pi_range1 rfl T.range (pa_cons (pe_callB (call_max2 rfl) (by rfl) T.max (by decide +kernel) (pa_cons pe_int (pa_cons (pe_callB (call_min2 rfl) (by rfl) T.min (by decide +kernel) (pa_cons (pe_callB call_len_seq (by rfl) T.len PySem.boot_len (pa_cons (pv 0) pa_nil)) (pa_cons pe_int pa_nil))) pa_nil))) pa_nil))
        (blkOk_by (own := [("_law_k", 1)]) (N := nmLaw) (sc := defScope sLaw) (by decide +kernel)) (fun _ _ _ _ _ => pg_name (i := 1) scLaw.nd rfl (Or.inl rfl)) (fun _ _ _ _ _ => pts_nil)
        (fun _ _ _ _ _ => pe_callG (x := "_law_right") GR (by exact hgd) hr' (by rfl) mgR kpR (pa_cons (pe_has (x := "_law_pool") (sp := spPool) hP (hr'.mono (by decide)) (by rfl) pass0 (pa_cons (pe_has (x := "_law_cell") (sp := spCell K) hC (hr'.mono (by decide)) (by rfl) pass0 (pa_cons (pv 0) (pa_cons (pv 1) pa_nil))) pa_nil)) pa_nil))) pa_nil))), ?_⟩
    refine ⟨_, rfl, a, _, rfl, .inl hS, _, _, rfl, ?_⟩
    rw [List.length_map]
    generalize eN : (if (6 : Int) < ((ns.length : Nat) : Int) then (6 : Int) else ((ns.length : Nat) : Int)) = n6
    have b6 : n6 ≤ 6 := by
      rw [← eN]
      split <;> omega
    refine ⟨_, _, rfl, ?_⟩
    generalize eM : (if n6 > (2 : Int) then n6 else (2 : Int)) = m
    have m0 : 0 ≤ m ∧ m ≤ 6 := by
      rw [← eM]
      split <;> omega
    obtain ⟨n, rfl⟩ := Int.eq_ofNat_of_zero_le m0.1
    refine ⟨n, rfl, by omega, by omega, fun L nL => ?_⟩
    refine lc_range (lo := 0) (n := ((n : Nat) : Int).toNat) (fun i H' => LX Pt H H' ∧ H' L = some (.lst ((List.replicate i true).map V.bl))) ?_ ?_ ?_
    · exact ⟨⟨fun b o e _ => (same_upd nL) b o e, hT.ext (same_upd nL)⟩, upd_same⟩
    · rintro i H' hi ⟨x, hL⟩
      refine ⟨rfl, ?_⟩
      refine ⟨_, rfl, _, rfl, a, ns, i, (by rw [Int.zero_add]; rfl), x.seq hS, fun z => ?_⟩
      refine ⟨z, rfl, fun p np d1 d2 d3 => ?_⟩
      have s1 : Same H' (upd H' p (.lst [.int d1, .int d2, .int d3])) := same_upd np
      refine ⟨p, rfl, ⟨d1, d2, d3, upd_same⟩, x.tabs.ext s1, fun H2 m2 => ?_⟩
      have hL2 : H2 L = some (.lst ((List.replicate i true).map V.bl)) := m2.rx.keep _ _ (fun e => by rw [e, np] at hL; cases hL) (s1 _ _ hL) (fun _ e => by cases e)
      refine ⟨_, hL2, by rw [List.length_map, List.length_replicate, sizeLine_eq]; omega, ?_⟩
      refine ⟨⟨fun b o e nt => ?_, tabs_upd hL2 m2.tabs⟩, by rw [upd_same, List.replicate_succ', List.map_append]; rfl⟩
      have hb := x.keep b o e nt
      rw [upd_ne (fun z => by rw [z, nL] at e; cases e)]
      exact m2.rx.keep b o (fun z => by rw [z, np] at hb; cases hb) (s1 _ _ hb) nt
    · rintro H2 ⟨x, hL⟩
      refine ⟨L, _, rfl, SqL.of hL, ?_⟩
      have e3 : (List.replicate (((n : Nat) : Int).toNat) true).all id = true := by
        rw [List.all_eq_true]
        intro b hb
        rw [List.eq_of_mem_replicate hb]
        rfl
      rw [e3]
      exact q H2
  refine LamX.run_ofS (N := nmLaw) (ps := ["_law_cells"]) (us := us) (vs := [.ref a]) lk hcd scLaw hr e0 ?_ r rfl fun hr' => ?_
  · have b : L2.Binds K (PySem.W.fnOf "law" "law" (defArgs sLaw) (defBody sLaw) (defScope sLaw) .none kV doc pm an (.ref cL) ct) ["_law_cells"] [] := .all fun us hl => match us, hl with | [_], _ => rfl
    have hl : us.length = 1 := by rw [← r.length]; rfl
    have z := b s us (e0.mod.kin.keeps fun b o e => (e0.bs b o e).1) (by rw [List.append_nil]; exact hl)
    rw [List.append_nil] at z
    exact z
  · obtain ⟨t, ht, hq⟩ := body hr'
    exact ⟨t, ht.nox, hq⟩
end
end K1

/-! the end, for a law that makes texts of what it holds -/
namespace EnG
open PySem PySem.Spec
open PyProof.Rows L2 LamX
theorem call_tabs {P : Program} {w : World} {K : PySem.W.Frag} {mg mb : Str → Option Value} {k : Nat} {fa a : Addr} {cs : List (Addr × Addr)} {sp : Sp} {s₁ : Shared} {vs : List Value} {ns : List Int}
    (kInS : K.In s₁.heap) (nsG : s₁.heap.Ns mainGlobals mg) (nsB : s₁.heap.Ns builtinsNs mb) (bltB : ∀ x : Str, x ≠ "__name__" → mb x = bootBuiltins x) (noLim : s₁.heap.NoLimit) (gen0 : s₁.gens = #[])
    (tabE : ∀ p ∈ cs, s₁.heap.get? p.2 = some { cls := .none, data := .fields #[] }) (tabN : ∀ p ∈ cs, K.lookup p.2 = none) (C : ∀ p ∈ cs, PySem.W.CodeHd s₁.heap p.1 p.2)
    (modB : ∃ (bm : Addr) (ob : Obj), mg "__builtins__" = some (.ref bm) ∧ bm ≠ builtinsNs ∧ s₁.heap.get? bm = some ob ∧ ob.cls = .type "module" ∧ ob.dict = some builtinsNs ∧ ob.data = .plain)
    (lstA : s₁.heap.get? a = some { cls := .type "list", data := .seq vs.toArray }) (intA : IntsAre vs ns) (lenA : ns.length ≤ sizeLine) (roomA : Room k callerA)
    (F : ∀ base : Heap, K.In base → base.Ns mainGlobals mg → (∀ p ∈ cs, TabB base mg p.1 p.2) → K1.FnG P w K mg base CX0 k fa sp)
    (askS : ∀ H : Hp, (∀ p ∈ cs, H p.2 = some (.tbl #[])) → SqL K H a (ns.map V.int) → sp [.ref a] H (fun v _ => v = .bl true) fun _ _ _ => False) :
    codeAny (model P w) callerA (.call (.ref fa) ⟨[.ref a], []⟩) (fun r s' => r
        = .ok (.ret (.bool true)) ∧ OldK s₁.heap s'.heap ∧ s'.os = s₁.os ∧ AllBare s'.gens) s₁ := by
  have relA := vals_ints intA
  have lenI := intA.length
  have isTab : ∀ b : Addr, b ∈ cs.map (·.2) → s₁.heap.get? b = some { cls := .none, data := .fields #[] } := fun b nsB => by
    obtain ⟨p, hp, e⟩ := List.mem_map.mp nsB
    rw [← e]
    exact tabE p hp
  have aNot : a ∉ cs.map (·.2) := fun z => by
    have q := isTab a z
    rw [lstA] at q
    have z' : Data.seq vs.toArray _ = Data.fields
        #[] := congrArg Obj.data (Option.some.inj q)
    cases z'
  have memTab : ∀ p ∈ cs, p.2 ∈ cs.map (·.2) := fun p hp => List.mem_map.mpr ⟨p, hp, rfl⟩
  have coreH : ∀ H : Hp, (∀ p ∈ cs, H p.2 = some (.tbl #[])) → (∀ b, H b = none ∨ b ∈ cs.map (·.2) ∨ ∃ o xs, H b = some (.frz o (.lst xs))) → SqL K H a (ns.map V.int) → HOk P w H s₁.heap → (∀ b, H b ≠ none → b = a ∨ b ∈ cs.map (·.2)) → (H a ≠ none → K.lookup a = none) →
      codeAny (model P w) callerA (.call (.ref fa) ⟨[.ref a], []⟩) (fun r s' => r
          = .ok (.ret (.bool true)) ∧ OldK s₁.heap s'.heap ∧ s'.os = s₁.os ∧ AllBare s'.gens) s₁ := by
    intro H tabH onlyH seqH okH hasH keyH
    have baseOf : ∀ {b : Addr} {o : Obj}, s₁.heap.get? b = some o → H b = none → (hidT s₁.heap H).get? b = some o := fun e n => hidT_get e n
    have noDat : ∀ {b : Addr} {o : Obj}, s₁.heap.get? b = some o → (∀ vs n, o.data ≠ .seq vs n) → o.data ≠ .fields #[] → H b = none := fun {b o} e h1 h2 => by
      cases q : H b with
      | none => rfl
      | some u =>
        rcases hasH b (by rw [q]; simp) with e' | e'
        · rw [e', lstA] at e
          cases e
          exact (h1 _ _ rfl).elim
        · rw [isTab b e'] at e
          cases e
          exact (h2 rfl).elim
    have noDic : ∀ {b : Addr} {o : Obj} {es : Array DictEntry} {ep : Nat}, s₁.heap.get? b = some o → o.data = .dict es ep → H b = none := fun {b o es ep} e d => by
      refine noDat e (fun vs n z => ?_) fun z => ?_
      · rw [d] at z
        cases z
      · rw [d] at z
        cases z
    have nsKeep : ∀ {b : Addr} {m : Str → Option Value}, s₁.heap.Ns b m → (hidT s₁.heap H).Ns b m := fun {b m} ⟨o, es, ep, e, d, r⟩ => ⟨o, es, ep, baseOf e (noDic e d), d, r⟩
    have kInB : K.In (hidT s₁.heap H) := fun b o e => baseOf (kInS b o e) (by
      cases q : H b with
      | none => rfl
      | some u =>
        rcases hasH b (by rw [q]; simp) with e' | e'
        · rw [e'] at e q
          rw [keyH (by rw [q]; simp)] at e
          cases e
        · obtain ⟨p, hp, ep⟩
              := List.mem_map.mp e'
          rw [← ep, tabN p hp] at e
          cases e)
    have modM : L2.Mod K mg (hidT s₁.heap H) := ⟨kInB, nsKeep nsG, ⟨mb, nsKeep nsB, bltB⟩, let ⟨mc, h1, h2⟩ := noLim; ⟨mc, nsKeep h1, h2⟩⟩
    have tabB : ∀ p ∈ cs, TabB (hidT s₁.heap H) mg p.1 p.2 := fun p hp => by
      have hTp := tabE p hp
      refine ⟨?_, ?_, fun z => ?_⟩
      · obtain ⟨o, us, file, tf, flags, tg, inF, text,
            tt, e1, r1, r2, r3, r4, r5, r6, r7, r8, hne⟩ := C p hp
        refine ⟨o, us, file, tf, flags, tg, inF, text, tt, baseOf e1 (noDat e1 (fun vs n z => ?_) fun z => ?_), r1, r2, r3, r4, r5, r6, r7, r8, hne⟩
        · rw [r2] at z
          cases z
        · rw [r2] at z
          cases z
          simp at r3
      · obtain ⟨bm, ob, b1, b2, b3, b4, b5, b6⟩ := modB
        have nG : bm ≠ mainGlobals
            := fun q => by
          obtain ⟨o, es, ep, e, hd, _⟩ := nsG
          rw [q, e] at b3
          cases b3
          rw [hd] at b6
          cases b6
        have nP : bm ≠
            p.2 := fun q => by
          rw [q, hTp] at b3
          cases b3
          cases b6
        refine ⟨bm, ob, b1, b2, nG, nP, baseOf b3 (noDat b3 (fun vs n z => ?_) fun z => ?_), b4, b5, b6⟩
        · rw [b6] at z
          cases z
        · rw [b6] at z
          cases z
      · obtain ⟨o, es, ep, e, hd, _⟩ := nsG
        rw [z, hTp] at e
        cases e
        cases hd
    have env0 : Env0 P w K mg (hidT s₁.heap H) callerA [] s₁ H := ⟨rfl, modM, fun b o e => of_hidT e, Nat.le_of_eq (hidT_size _ _), trivial, fun b nsB => absurd (show b ∈ ([] : List Addr) from nsB) (by simp), okH, .of_eq gen0⟩
    refine codeAny_mono (F _ kInB (nsKeep nsG) tabB callerA [] s₁ H [.ref a] [.ref a] _ _ rfl roomA env0 (.cons rfl .nil) (askS H tabH seqH)) fun r s' h => ?_
    cases r with
    | error e => exact (show False from h).elim
    | ok fl =>
      cases fl with
      | next => exact False.elim h
      | brk => exact False.elim h
      | cont => exact False.elim h
      | ret u =>
        obtain ⟨v, H', osA, barA, unA, hok', r', q⟩ := h
        have q' : v = .bl true := q
        subst q'
        obtain rfl : u = Value.bool
            true := r'
        have keyB : ∀ b o, b ∉ cs.map (·.2) → s₁.heap.get? b = some o → s'.heap.get? b = some o := fun b o nb e => by
          cases q : H b with
          | none => exact unA.keep b o e q (by intro z; exact absurd (show b ∈ ([] : List Addr) from z) (by simp)) (by simp)
          | some u =>
            rcases onlyH b with z | z | ⟨ob, xs, z⟩
            · rw [q] at z; cases z
            · exact absurd z nb
            · have z2 := unA.frzs b ob _ z
              obtain ⟨e1, _⟩ := okH b _ z
              obtain ⟨e2, _⟩ := hok' b _ z2
              rw [e] at e1; cases e1
              exact e2
        have grewT : ∀ p ∈ cs, ∃ more : Array Value, s'.heap.get? p.2 = some { cls := .none, data := .fields more } := fun p hp => by
          obtain ⟨more, z⟩ := unA.tbls p.2 #[] (tabH p hp)
          exact ⟨_, hok' p.2 _ z⟩
        refine ⟨rfl, ⟨fun b o e => ?_, fun b o e => ?_⟩, osA, barA⟩
        · by_cases nsB : b ∈ cs.map (·.2)
          · obtain ⟨p, hp, ep⟩ := List.mem_map.mp nsB
            obtain ⟨more, hm⟩ := grewT p hp
            rw [← ep] at e ⊢
            rw [tabE p hp] at e
            cases e
            exact .inr (.inl ⟨((C p hp).tab (tabE p hp)).isCodeTable, rfl, #[], more, rfl, by rw [Array.empty_append]; exact hm⟩)
          · exact .inl (keyB b o nsB e)
        · by_cases nsB : b ∈ cs.map (·.2)
          · obtain ⟨p, hp, ep⟩ := List.mem_map.mp nsB
            obtain ⟨more, hm⟩ := grewT p hp
            rw [← ep]
            exact ⟨_, hm⟩
          · exact ⟨o, keyB b o nsB e⟩
  cases hk : K.lookup a with
  | some o =>
    have e := kInS a o hk
    rw [lstA] at e
    cases e
    refine coreH (fun b => if b ∈ cs.map (·.2) then some (.tbl #[]) else none) (fun p hp => if_pos (memTab p hp)) (fun b => ?_) (.inr ⟨_, vs.toArray, _, hk, rfl, rfl, rfl, by rw [List.size_toArray, lenI]; exact lenA, by simpa using relA⟩) (fun b u z => ?_) (fun b z => ?_) fun z => absurd (show (if a ∈ cs.map (·.2) then some (HO.tbl #[]) else none) = none from if_neg aNot) z
    · by_cases nsB : b ∈ cs.map (·.2)
      · exact .inr (.inl nsB)
      · exact .inl (if_neg nsB)
    · by_cases nsB : b ∈ cs.map (·.2)
      · have z' := (if_pos nsB).symm.trans z
        cases z'
        exact isTab b nsB
      · have z' := (if_neg nsB).symm.trans z
        cases z'
    · by_cases nsB : b ∈ cs.map (·.2)
      · exact .inr nsB
      · exact absurd (if_neg nsB) z
  | none =>
    refine coreH (fun b => if b = a then some (.frz { cls := .type "list", data := .seq vs.toArray } (.lst (ns.map V.int))) else if b ∈ cs.map (·.2) then some (.tbl #[]) else none) (fun p hp => (if_neg (show ¬ p.2 = a from fun z => aNot (by rw [← z]; exact memTab p hp))).trans (if_pos (memTab p hp))) (fun b => ?_)
      (.inl (.inr ⟨{ cls := .type "list", data := .seq vs.toArray
          }, if_pos rfl⟩)) (fun b u z => ?_) (fun b z => ?_) fun _ => hk
    · by_cases nsB : b = a
      · exact .inr (.inr ⟨_, _, if_pos nsB⟩)
      · by_cases hb2
            : b ∈ cs.map (·.2)
        · exact .inr (.inl hb2)
        · exact .inl ((if_neg nsB).trans (if_neg hb2))
    · by_cases nsB : b = a
      · have z' := (if_pos nsB).symm.trans z
        cases z'
        rw [nsB]
        exact ⟨lstA, by rw [List.length_map]; exact lenA, vs, _, relA, lstA⟩
      · have z1 := (if_neg nsB).symm.trans z
        by_cases hb2 :
            b ∈ cs.map (·.2)
        · have z' := (if_pos
              hb2).symm.trans z1
          cases z'
          exact isTab b hb2
        · have z' := (if_neg
              hb2).symm.trans z1
          cases z'
    · by_cases nsB : b = a
      · exact .inl nsB
      · by_cases hb2
            : b ∈ cs.map (·.2)
        · exact .inr hb2
        · exact absurd ((if_neg nsB).trans (if_neg hb2)) z
end EnG

namespace EnG
open PySem PySem.Spec
open PyProof.Rows L2 LamX
/-- the defs of the top as the head leaves them -/
def TabsAt (q : Program) (mg : Str → Option Value) (h : Heap) : Prop := ∀ d ∈ recsOf q, ∃ a o fd c P, mg d.name = some (.ref a) ∧ h.get? a = some o ∧ o.data = .func fd ∧ fd.code = .ref c ∧ h.IsCode c P #[] ∧ h.TableAt c P #[]
structure LawG (l : PySem.W.OpenLaw) (w : World) (k n : Nat) (mg : Str → Option Value) (fa : Addr) (h : Heap) : Prop where
  ex : ∃ (K : PySem.W.Frag) (cs : List (Addr × Addr)) (sp : Sp), K.In h ∧ (∀ p ∈ cs, h.get? p.2 = some { cls := .none, data := .fields #[] }) ∧ (∀ p ∈ cs, K.lookup p.2 = none) ∧ (∀ p ∈ cs, PySem.W.CodeHd h p.1 p.2) ∧
    (∀ (H : Hp) (a : Addr) (ns : List Int), ns.length ≤ n → (∀ p ∈ cs, H p.2 = some (.tbl #[])) → SqL K H a (ns.map V.int) → sp [.ref a] H (fun v _ => v = .bl true) fun _ _ _ => False) ∧
    ∀ base : Heap, K.In base → base.Ns mainGlobals mg → (∀ p ∈ cs, TabB base mg p.1 p.2) → K1.FnG l.prog w K mg base CX0 k fa sp
theorem walk_G {l : PySem.W.OpenLaw} {n k : Nat} {q : Program} {loose : List Str} {XP : (Str → Option Value) → Heap → Prop} {YP : World → Heap → Prop} {d : DefRec}
    (hn : l.most = some n) (hn2 : n ≤ sizeLine)
        (hdf : d.params.defaults = []) (hr : Room k callerA)
    (F : ∀ (w : World) (mg : Str → Option Value) (fa : Addr) (h : Heap), YP w h → h.Ns mainGlobals mg → mg d.name = some (.ref fa) → TabsAt q mg h → LawG l w k n mg fa h) :
    PySem.W.WalkO q loose XP YP l.row.toRowW
        d [] (fun f vs => PySem.call f vs) := by
  refine Att.attach_callB hn hdf fun w s₀ s₁ mg mb fa o
      pm cd doc a vs ns G Y ho hd hcd hmg hobj hints hlen hbits hg => ?_
  obtain ⟨K, cs, sp, KX, hT, nT, C, hsp, hF⟩ := (F w mg fa _ Y G.T.g hmg G.T.tab).ex
  exact call_tabs KX G.T.g G.T.b G.T.builtins G.T.nolimit hg hT nT C G.T.bmain hobj hints (Nat.le_trans hlen hn2) hr hF (fun H hH hS => hsp H a ns hlen hH hS)
/-- the table of a def's code object -/
theorem tab_of {K : PySem.W.Frag} {q : Program} {mg : Str → Option Value} {h : Heap} {f c P : Addr} {x : Str} {o : Obj} {fd : FuncData} {ec : Value} {dc : Option Addr} {vc : Array Value} {slc : Array (Option Value)} (KX : K.In h) (T : TabsAt q mg h) (hrec : ((recsOf q).any fun e => e.name == x) = true)
    (hx : mg x = some (.ref f)) (lk : K.lookup f = some o) (hd : o.data = .func fd) (hc : fd.code = .ref c) (lc : K.lookup c = some ⟨ec, dc, .fields vc, slc⟩) (h11 : vc[11]? = some (.ref P)) :
    h.get? P = some { cls := .none, data := .fields #[] } ∧ PySem.W.CodeHd h c P := by
  obtain ⟨d, hm, hn⟩ := List.any_eq_true.mp hrec
  have hn : d.name = x := beq_iff_eq.mp hn
  obtain ⟨a', o', fd', c', P', h1, h2, h3, h4, h5, h6⟩ := T d hm
  rw [hn, hx] at h1
  cases h1
  have g1 := KX _ _ lk
  rw [g1] at h2
  cases h2
  rw [hd] at h3
  cases h3
  rw [hc] at h4
  cases h4
  have h6' := h6
  obtain ⟨⟨oc, us, e1, _, e3, e4⟩, hP⟩ := h6
  have g2 := KX _ _ lc
  rw [g2] at e1
  cases e1
  cases e3
  rw [h11] at e4
  cases e4
  exact ⟨hP, PySem.W.CodeHd.of h5 h6'⟩
end EnG

namespace K1
open PySem PySem.Spec
open PyProof.Rows L2 EnT StX SmX TxS DuX XdI Tr3 CnB ClX
section
variable {K : PySem.W.Frag}
/-- a def where it stands -/
structure DefR (K : PySem.W.Frag) (x qual : Str) (st : Stmt) (f : Addr) : Prop where
  ex : ∃ (oc : Value) (od : Option Addr) (kV doc pm : Value) (an : Option Addr) (cdv ct : Value) (osl : Array (Option Value)), K.lookup f = some ⟨oc, od, .func (PySem.W.fnOf x qual (defArgs st) (defBody st) (defScope st) .none kV doc pm an cdv ct), osl⟩ ∧ PySem.W.codeIn K cdv qual = true
  kp : PySem.W.keepIn
      K (.ref f) = true
theorem DefR.fun_ {x qual : Str} {st : Stmt} {f : Addr} (d : DefR K x qual st f) : ∃ fd, Fun K x qual st f fd := by
  obtain ⟨oc, od, kV, doc, pm, an, cdv, ct, osl, l, c⟩ := d.ex
  exact ⟨_, fun_mk l c d.kp⟩
/-- a def of the top -/
def GloD (K : PySem.W.Frag) (x : Str) (st : Stmt) : Prop := ∃ f, PySem.W.nsIn K mainGlobals x = some (some (.ref f)) ∧ DefR K x x st f
theorem gloD_mk {x : Str} {st : Stmt} {f : Addr} {oc kV doc pm cdv ct : Value} {od an : Option Addr} {osl : Array (Option Value)} (a : PySem.W.nsIn K mainGlobals x = some (some (.ref f)))
    (l : K.lookup f = some ⟨oc, od, .func (PySem.W.fnOf x x (defArgs st) (defBody st) (defScope st) .none kV doc pm an cdv ct), osl⟩) (c : PySem.W.codeIn K cdv x = true) (k : PySem.W.keepIn K (.ref f) = true) : GloD K x st := ⟨f, a, ⟨oc, od, kV, doc, pm, an, cdv, ct, osl, l, c⟩, k⟩
/-- a method of
    the class at C -/
def MethD (K : PySem.W.Frag) (C : Addr) (x qual : Str) (st : Stmt) : Prop := ∃ f, PySem.W.findIn K (.ref C) x = some (some (.ref f)) ∧ PySem.W.isFn K (.ref f) = true ∧ DefR K x qual st f
theorem methD_mk {C : Addr} {x qual : Str} {st : Stmt} {f : Addr} {oc kV doc pm cdv ct : Value} {od an : Option Addr} {osl : Array (Option Value)} (a : PySem.W.findIn K (.ref C) x = some (some (.ref f))) (i : PySem.W.isFn K (.ref f) = true)
    (l : K.lookup f = some ⟨oc, od, .func (PySem.W.fnOf x qual (defArgs st) (defBody st) (defScope st) .none kV doc pm an cdv ct), osl⟩) (c : PySem.W.codeIn K cdv qual = true) (k : PySem.W.keepIn K (.ref f) = true) : MethD K C x qual st := ⟨f, a, i, ⟨oc, od, kV, doc, pm, an, cdv, ct, osl, l, c⟩, k⟩
/-- a property -/
def PropD (K : PySem.W.Frag) (C : Addr) (x qual : Str) (st : Stmt) : Prop := ∃ p g, PropOf K C x p g ∧ DefR K x qual st g
theorem propD_mk {C : Addr} {x qual : Str} {st : Stmt} {p f : Addr} {rest : List Value} {oc kV doc pm cdv ct : Value} {od an : Option Addr} {osl : Array (Option Value)} (a : PySem.W.findIn K (.ref C) x = some (some (.ref p))) (g : PySem.W.specialIn K (.ref p) "__get__" = some (some (.builtin "property.__get__")))
    (t : PySem.W.takesIn K (.ref p) = some true) (r : PySem.W.recIn K p "property" = some (.ref f :: rest))
    (l : K.lookup f = some ⟨oc, od, .func (PySem.W.fnOf x qual (defArgs st) (defBody st) (defScope st) .none kV doc pm an cdv ct), osl⟩) (c : PySem.W.codeIn K cdv qual = true) (k : PySem.W.keepIn K (.ref f) = true) : PropD K C x qual st := ⟨p, f, ⟨a, g, t, rest, r⟩, ⟨oc, od, kV, doc, pm, an, cdv, ct, osl, l, c⟩, k⟩
/-- a static method -/
def StatD (K : PySem.W.Frag) (C : Addr) (mc : Value) (x qual : Str) (st : Stmt) : Prop := ∃ p g, SMet K C mc x p g ∧ DefR K x qual st g
theorem statD_mk {C : Addr} {mc : Value} {x qual : Str} {st : Stmt} {p f : Addr} {rest : List Value} {oc kV doc pm cdv ct : Value} {od an : Option Addr} {osl : Array (Option Value)} (a : PySem.W.findCls K (.ref C) mc x = some (.get (.builtin "staticmethod.__get__") (.ref p) .none (.ref C)))
    (r : PySem.W.recIn K p "staticmethod" = some (.ref f :: rest))
    (l : K.lookup f = some ⟨oc, od, .func (PySem.W.fnOf x qual (defArgs st) (defBody st) (defScope st) .none kV doc pm an cdv ct), osl⟩) (c : PySem.W.codeIn K cdv qual = true) (k : PySem.W.keepIn K (.ref f) = true) : StatD K C mc x qual st := ⟨p, f, ⟨a, ⟨rest, r⟩, k⟩, ⟨oc, od, kV, doc, pm, an, cdv, ct, osl, l, c⟩, k⟩
/-- an error's class -/
structure ErrD (K : PySem.W.Frag) (x fld qual : Str) (st : Stmt) (D S1 S2 S3 : Addr) : Prop where
  g : PySem.W.nsIn K mainGlobals x = some (some (.ref D))
  ox : OexC K D
  no : PySem.W.findIn K (.ref D) fld = some none
  ini : ∃ f, PySem.W.findIn K (.ref D) "__init__" = some (some (.ref f)) ∧ PySem.W.typeIn K (.ref f) = some (.type "function") ∧ DefR K "__init__" qual st f
  xc : ExcC K D
  xf : XfC K D
  k1 : PySem.W.kitOne K (.ref D) (.ref S1) = some true
  k2 : PySem.W.kitOne K (.ref D) (.ref S2) = some false
  k3 : PySem.W.kitOne K (.ref D) (.ref S3) = some false
  kV : PySem.W.kitOne K (.ref D) (.type "ValueError") = some true
  kL : PySem.W.kitOne K (.ref D) (.type "LookupError") = some false
  kA : PySem.W.kitOne K (.ref D) (.type "ArithmeticError") = some false
  kx : PySem.W.exmAny K (.ref D) [.ref S1, .ref S2, .ref S3] = some true
theorem errD_mk {x fld qual : Str} {st : Stmt} {D S1 S2 S3 f : Addr} {oc kV doc pm cdv ct : Value} {od an : Option Addr} {osl : Array (Option Value)} {oD : Obj} (g : PySem.W.nsIn K mainGlobals x = some (some (.ref D)))
    (lD : K.lookup D = some oD) (sh : ∃ nm q N bs bm sn sub ab col dd k0 k1 k2 k3 k5, oD = PySem.excClassObj nm q D N bs bm true sn sub ab col dd k0 k1 k2 k3 k5 "ValueError.__new__" ∧ PySem.HandSPX.refsVE bm = true)
    (sa : PySem.W.findIn K (.ref D) "__setattr__" = some (some (.builtin "object.__setattr__"))) (exC : PySem.W.subIn K (.ref D) (.type "BaseException") = some true) (tyC : PySem.W.typeIn K (.ref D) = some (.type "type")) (kC : PySem.W.keepIn K (.ref D) = true)
    (no : PySem.W.findIn K (.ref D) fld = some none) (a : PySem.W.findIn K (.ref D) "__init__" = some (some (.ref f))) (ty : PySem.W.typeIn K (.ref f) = some (.type "function"))
    (l : K.lookup f = some ⟨oc, od, .func (PySem.W.fnOf "__init__" qual (defArgs st) (defBody st) (defScope st) .none kV doc pm an cdv ct), osl⟩) (c : PySem.W.codeIn K cdv qual = true) (k : PySem.W.keepIn K (.ref f) = true)
    (hg : PySem.W.findIn K (.ref D) "__getattribute__" = some (some (.builtin "BaseException.__getattribute__"))) (hk : PySem.W.findIn K (.ref D) "__getattr__" = some none) (hd : PySem.W.hasDictIn K D = true)
    (ha : PySem.W.findIn K (.ref D) "__class__" = some (some (.builtin "object.__class__"))) (hn : PySem.W.specialIn K (.builtin "object.__class__") "__get__" = some (some (.builtin "getset_descriptor.__get__"))) (ht : PySem.W.takesIn K (.builtin "object.__class__") = some true) (hm : PySem.W.mroIn K D (.type "object") = some true)
    (k1 : PySem.W.kitOne K (.ref D) (.ref S1) = some true) (k2 : PySem.W.kitOne K (.ref D) (.ref S2) = some false) (k3 : PySem.W.kitOne K (.ref D) (.ref S3) = some false) (kV' : PySem.W.kitOne K (.ref D) (.type "ValueError") = some true) (kL : PySem.W.kitOne K (.ref D) (.type "LookupError") = some false) (kA : PySem.W.kitOne K (.ref D) (.type "ArithmeticError") = some false)
    (kx : PySem.W.exmAny K (.ref D) [.ref S1, .ref S2, .ref S3] = some true) : ErrD K x fld qual st D S1 S2 S3 := by
  refine ⟨g, ⟨?_, sa, exC, tyC, kC⟩, no, ⟨f, a, ty, ⟨oc, od, kV, doc, pm, an, cdv, ct, osl, l, c⟩, k⟩, ⟨hg, hk, exC, hd, ha, hn, ht, hm⟩, ⟨hg, hk, exC, hd⟩, k1, k2, k3, kV', kL, kA, kx⟩
  obtain ⟨nm, q, N, bs, bm, sn, sub, ab, col, dd, k0, k1', k2', k3', k5, e, r⟩ := sh
  exact ⟨nm, q, N, bs, bm, sn, sub, ab, col, dd, k0, k1', k2', k3', k5, by rw [lD, e], r⟩
/-- the class Members -/
structure MemD (K : PySem.W.Frag) (C : Addr) : Prop where
  g : PySem.W.nsIn K mainGlobals "Members" = some (some (.ref C))
  cl : Cls K C
  nN : PySem.W.findIn K (.ref C) "_names" = some none
  nT : PySem.W.findIn K (.ref C) "_table" = some none
  mk' : PySem.W.makesIn K C = true
  kC : PySem.W.keepIn
      K (.ref C) = true
  is : MemIs K C
  ne : NeM K C
  nb : PySem.W.findIn K (.ref C) "__bool__" = some none
  cr : CRead K C (.type "type")
theorem memD_mk {C : Addr} (g : PySem.W.nsIn K mainGlobals "Members" = some (some (.ref C))) (pg : PySem.W.plainGet K C Str.empty = true) (hd : PySem.W.hasDictIn K C = true) (po : PySem.W.plainOver K C = true) (sa : PySem.W.findIn K (.ref C) "__setattr__" = some (some (.builtin "object.__setattr__")))
    (nN : PySem.W.findIn K (.ref C) "_names" = some none) (nT : PySem.W.findIn K (.ref C) "_table" = some none) (mk' : PySem.W.makesIn K C = true) (kC : PySem.W.keepIn K (.ref C) = true)
    (ha : PySem.W.findIn K (.ref C) "__class__" = some (some (.builtin "object.__class__"))) (hn : PySem.W.specialIn K (.builtin "object.__class__") "__get__" = some (some (.builtin "getset_descriptor.__get__"))) (ht : PySem.W.takesIn K (.builtin "object.__class__") = some true) (hm : PySem.W.mroIn K C (.type "object") = some true)
    (yes : PySem.W.kitOne K (.ref C) (.ref C) = some true) (o1 : PySem.W.kitOne K (.type "NoneType") (.ref C) = some false) (o2 : PySem.W.kitOne K (.type "bool") (.ref C) = some false) (o3 : PySem.W.kitOne K (.type "int") (.ref C) = some false) (o4 : PySem.W.kitOne K (.type "str") (.ref C) = some false) (o5 : PySem.W.kitOne K (.type "list") (.ref C) = some false) (o6 : PySem.W.kitOne K (.type "tuple") (.ref C) = some false) (o7 : PySem.W.kitOne K (.type "dict") (.ref C) = some false)
    (f1 : PySem.W.notFirst K C (.type "NoneType") = true) (f2 : PySem.W.notFirst K C (.type "bool") = true) (f3 : PySem.W.notFirst K C (.type "int") = true) (f4 : PySem.W.notFirst K C (.type "str") = true) (f5 : PySem.W.notFirst K C (.type "list") = true) (f6 : PySem.W.notFirst K C (.type "tuple") = true) (f7 : PySem.W.notFirst K C (.type "dict") = true) (fC : PySem.W.notFirst K C (.ref C) = true)
    (ne : PySem.W.findIn K (.ref C) "__ne__" = some (some (.builtin "object.__ne__"))) (nb : PySem.W.findIn K (.ref C) "__bool__" = some none) (rd : PySem.W.readsIn K C (.type "type") = true) (ga : PySem.W.specialIn K (.ref C) "__getattribute__" = some (some (.builtin "type.__getattribute__"))) : MemD K C := by
  refine ⟨g, ⟨pg, hd, po, sa⟩, nN, nT, mk', kC, ⟨ha, hn, ht, hm, yes, fun t h => ?_, fun t h => ?_, fC⟩, ⟨ne, hm⟩, nb, ⟨rd, ga⟩⟩
  · simp only [baseTys, List.mem_cons, List.not_mem_nil, or_false] at h
    rcases h with rfl | rfl | rfl | rfl | rfl | rfl | rfl
    · exact o1
    · exact o2
    · exact o3
    · exact o4
    · exact o5
    · exact o6
    · exact o7
  · simp only [baseTys, List.mem_cons, List.not_mem_nil, or_false] at h
    rcases h with rfl | rfl | rfl | rfl | rfl | rfl | rfl
    · exact f1
    · exact f2
    · exact f3
    · exact f4
    · exact f5
    · exact f6
    · exact f7
end
/-- an error's class, made with a text -/
structure TxtD (K : PySem.W.Frag) (x : Str) (D S1 S2 S3 : Addr) : Prop where
  g : PySem.W.nsIn K mainGlobals x = some (some (.ref D))
  ex : PySem.W.excIn K D bmL "LookupError.__new__" = true
  kp : PySem.W.keepIn K (.ref D) = true
  ty : PySem.W.typeIn K (.ref D) = some (.type "type")
  xc : ExcC K D
  xf : XfC K D
  k1 : PySem.W.kitOne K (.ref D) (.ref S1) = some false
  k2 : PySem.W.kitOne K (.ref D) (.ref S2) = some true
  k3 : PySem.W.kitOne K (.ref D) (.ref S3) = some false
  kV : PySem.W.kitOne K (.ref D) (.type "ValueError") = some false
  kL : PySem.W.kitOne K (.ref D) (.type "LookupError") = some true
  kA : PySem.W.kitOne K (.ref D) (.type "ArithmeticError") = some false
  kx : PySem.W.exmAny K (.ref D) [.ref S1, .ref S2, .ref S3] = some true
theorem txtD_mk {K : PySem.W.Frag} {x : Str} {D S1 S2 S3 : Addr} (g : PySem.W.nsIn K mainGlobals x = some (some (.ref D))) (ex : PySem.W.excIn K D bmL "LookupError.__new__" = true) (exC : PySem.W.subIn K (.ref D) (.type "BaseException") = some true) (tyC : PySem.W.typeIn K (.ref D) = some (.type "type")) (kC : PySem.W.keepIn K (.ref D) = true)
    (hg : PySem.W.findIn K (.ref D) "__getattribute__" = some (some (.builtin "BaseException.__getattribute__"))) (hk : PySem.W.findIn K (.ref D) "__getattr__" = some none) (hd : PySem.W.hasDictIn K D = true)
    (ha : PySem.W.findIn K (.ref D) "__class__" = some (some (.builtin "object.__class__"))) (hn : PySem.W.specialIn K (.builtin "object.__class__") "__get__" = some (some (.builtin "getset_descriptor.__get__"))) (ht : PySem.W.takesIn K (.builtin "object.__class__") = some true) (hm : PySem.W.mroIn K D (.type "object") = some true)
    (k1 : PySem.W.kitOne K (.ref D) (.ref S1) = some false) (k2 : PySem.W.kitOne K (.ref D) (.ref S2) = some true) (k3 : PySem.W.kitOne K (.ref D) (.ref S3) = some false) (kV' : PySem.W.kitOne K (.ref D) (.type "ValueError") = some false) (kL : PySem.W.kitOne K (.ref D) (.type "LookupError") = some true) (kA : PySem.W.kitOne K (.ref D) (.type "ArithmeticError") = some false)
    (kx : PySem.W.exmAny K (.ref D) [.ref S1, .ref S2, .ref S3] = some true) : TxtD K x D S1 S2 S3 := ⟨g, ex, kC, tyC, ⟨hg, hk, exC, hd, ha, hn, ht, hm⟩, ⟨hg, hk, exC, hd⟩, k1, k2, k3, kV', kL, kA, kx⟩
/-- the class Change -/
structure ChgD (K : PySem.W.Frag) (D : Addr) : Prop where
  g : PySem.W.nsIn K mainGlobals "Change" = some (some (.ref D))
  cl : Cls K D
  nC : PySem.W.findIn K (.ref D) "_came" = some none
  nW : PySem.W.findIn K (.ref D) "_went" = some none
  mk' : PySem.W.makesIn K D = true
  kC : PySem.W.keepIn K (.ref D) = true
  is : MemIs K D
  ne : NeM K D
  cr : CRead K D (.type "type")
theorem chgD_mk {K : PySem.W.Frag} {C : Addr} (g : PySem.W.nsIn K mainGlobals "Change" = some (some (.ref C))) (pg : PySem.W.plainGet K C Str.empty = true) (hd : PySem.W.hasDictIn K C = true) (po : PySem.W.plainOver K C = true) (sa : PySem.W.findIn K (.ref C) "__setattr__" = some (some (.builtin "object.__setattr__")))
    (nN : PySem.W.findIn K (.ref C) "_came" = some none) (nT : PySem.W.findIn K (.ref C) "_went" = some none) (mk' : PySem.W.makesIn K C = true) (kC : PySem.W.keepIn K (.ref C) = true)
    (ha : PySem.W.findIn K (.ref C) "__class__" = some (some (.builtin "object.__class__"))) (hn : PySem.W.specialIn K (.builtin "object.__class__") "__get__" = some (some (.builtin "getset_descriptor.__get__"))) (ht : PySem.W.takesIn K (.builtin "object.__class__") = some true) (hm : PySem.W.mroIn K C (.type "object") = some true)
    (yes : PySem.W.kitOne K (.ref C) (.ref C) = some true) (o1 : PySem.W.kitOne K (.type "NoneType") (.ref C) = some false) (o2 : PySem.W.kitOne K (.type "bool") (.ref C) = some false) (o3 : PySem.W.kitOne K (.type "int") (.ref C) = some false) (o4 : PySem.W.kitOne K (.type "str") (.ref C) = some false) (o5 : PySem.W.kitOne K (.type "list") (.ref C) = some false) (o6 : PySem.W.kitOne K (.type "tuple") (.ref C) = some false) (o7 : PySem.W.kitOne K (.type "dict") (.ref C) = some false)
    (f1 : PySem.W.notFirst K C (.type "NoneType") = true) (f2 : PySem.W.notFirst K C (.type "bool") = true) (f3 : PySem.W.notFirst K C (.type "int") = true) (f4 : PySem.W.notFirst K C (.type "str") = true) (f5 : PySem.W.notFirst K C (.type "list") = true) (f6 : PySem.W.notFirst K C (.type "tuple") = true) (f7 : PySem.W.notFirst K C (.type "dict") = true) (fC : PySem.W.notFirst K C (.ref C) = true)
    (ne : PySem.W.findIn K (.ref C) "__ne__" = some (some (.builtin "object.__ne__"))) (rd : PySem.W.readsIn K C (.type "type") = true) (ga : PySem.W.specialIn K (.ref C) "__getattribute__" = some (some (.builtin "type.__getattribute__"))) : ChgD K C := by
  refine ⟨g, ⟨pg, hd, po, sa⟩, nN, nT, mk', kC, ⟨ha, hn, ht, hm, yes, fun t h => ?_, fun t h => ?_, fC⟩, ⟨ne, hm⟩, ⟨rd, ga⟩⟩
  · simp only [baseTys, List.mem_cons, List.not_mem_nil, or_false] at h
    rcases h with rfl | rfl | rfl | rfl | rfl | rfl | rfl
    · exact o1
    · exact o2
    · exact o3
    · exact o4
    · exact o5
    · exact o6
    · exact o7
  · simp only [baseTys, List.mem_cons, List.not_mem_nil, or_false] at h
    rcases h with rfl | rfl | rfl | rfl | rfl | rfl | rfl
    · exact f1
    · exact f2
    · exact f3
    · exact f4
    · exact f5
    · exact f6
    · exact f7
theorem othC_mk {K : PySem.W.Frag} {C D : Addr} {nm : String} {f : Addr} (ne : C ≠ D) (sf : PySem.W.selfFirst K D = true) (h1 : PySem.W.findIn K (.ref D) (PySem.dunder nm) = some (some (.ref f))) (h2 : PySem.W.findIn K (.ref D) (dunderR nm) = some none) (hs : PySem.W.subIn K (.ref D) (.ref C) = some false) : OthC K C D nm := ⟨ne, sf, ⟨f, h1⟩, h2, hs⟩
theorem othT_mk {K : PySem.W.Frag} {C : Addr} {nm T : String} {fo ro : Option Value} (h1 : PySem.W.findIn K (.type T) (PySem.dunder nm) = some fo) (h2 : PySem.W.findIn K (.type T) (dunderR nm) = some ro) (hs : PySem.W.subIn K (.type T) (.ref C) = some false) : OthT K C nm T := ⟨⟨fo, h1⟩, ⟨ro, h2⟩, hs⟩
theorem oth_all {K : PySem.W.Frag} {C : Addr} {nm : String} (o1 : OthT K C nm "NoneType") (o2 : OthT K C nm "bool") (o3 : OthT K C nm "int") (o4 : OthT K C nm "str") (o5 : OthT K C nm "list") (o6 : OthT K C nm "tuple") (o7 : OthT K C nm "dict") : ∀ t ∈ tysB, OthT K C nm t := fun t h => by
  simp only [tysB, List.mem_cons, List.not_mem_nil, or_false] at h
  rcases h with rfl | rfl | rfl | rfl | rfl | rfl | rfl
  · exact o1
  · exact o2
  · exact o3
  · exact o4
  · exact o5
  · exact o6
  · exact o7
/-- the def at f, its code object at c, the table at P -/
structure CodeD (K : PySem.W.Frag) (x : Str) (st : Stmt) (f c P : Addr) : Prop where
  g : PySem.W.nsIn K mainGlobals x = some (some (.ref f))
  fn : FunC K x x st f c
  kp : PySem.W.keepIn
      K (.ref f) = true
  cd : ∃ ec dc vc slc, K.lookup c = some ⟨ec, dc, .fields vc, slc⟩ ∧ vc[11]? = some (.ref P)
  no : K.lookup P = none
theorem codeD_mk {K : PySem.W.Frag} {x : Str} {st : Stmt} {f c P : Addr} {oc kV doc pm ct ec : Value} {od an dc : Option Addr} {osl slc : Array (Option Value)} {vc : Array Value} (a : PySem.W.nsIn K mainGlobals x = some (some (.ref f)))
    (l : K.lookup f = some ⟨oc, od, .func (PySem.W.fnOf x x (defArgs st) (defBody st) (defScope st) .none kV doc pm an (.ref c) ct), osl⟩) (cc : PySem.W.codeIn K (.ref c) x = true) (k : PySem.W.keepIn K (.ref f) = true)
    (lc : K.lookup c = some ⟨ec, dc, .fields vc, slc⟩) (h : vc[11]? = some (.ref P)) (no : K.lookup P = none) : CodeD K x st f c P :=
  ⟨a, ⟨oc, od, kV, doc, pm, an, ct, osl, l, cc⟩, k, ⟨ec, dc, vc, slc, lc, h⟩, no⟩
end K1

namespace K1
open PySem PySem.Spec
open PyProof.Rows L2 L2H EnT StX SmX TxS DuX XdI Tr3 CnB ClX
structure Raw (K : PySem.W.Frag) (C D CN CM CA CC S1 S2 S3 : Addr) : Prop where
  mem : MemD K C
  chg : ChgD K D
  sf : PySem.W.selfFirst K C = true
  sfD : PySem.W.selfFirst K D = true
  ini : MethD K C "__init__" "Members.__init__" sInit
  len : MethD K C "__len__" "Members.__len__" sLenM
  rep : MethD K C "__repr__" "Members.__repr__" sReprM
  has : MethD K C "__contains__" "Members.__contains__" sHasM
  eq : MethD K C "__eq__" "Members.__eq__" sEqM
  m1 : MethD K C "__or__" "Members.__or__" sOrM
  m2 : MethD K C "__and__" "Members.__and__" sAndM
  m3 : MethD K C "__sub__" "Members.__sub__" sSubM
  m4 : MethD K C "__add__" "Members.__add__" sAddM
  iniC : MethD K D "__init__" "Change.__init__" sInitC
  repC : MethD K D "__repr__" "Change.__repr__" sReprC
  booC : MethD K D "__bool__" "Change.__bool__" sBoolC
  absC : MethD K D "__abs__" "Change.__abs__" sAbsC
  eqC : MethD K D "__eq__" "Change.__eq__" sEqC
  negC : MethD K D "__neg__" "Change.__neg__" sNegC
  addC : MethD K D "__add__" "Change.__add__" sAddC
  rC : PySem.W.findIn K (.ref C) (dunderR Operator.Add.info.2) = some none
  rD : PySem.W.findIn K (.ref D) (dunderR Operator.Add.info.2) = some none
  oCD : OthC K C D Operator.Add.info.2
  oDC : OthC K D C Operator.Add.info.2
  tC : ∀ t ∈ tysB, OthT K C Operator.Add.info.2 t
  tD : ∀ t ∈ tysB, OthT K D Operator.Add.info.2 t
  prop : PropD K C "names" "Members.names" sNamesP
  came : PropD K D "came" "Change.came" sCameP
  went : PropD K D "went" "Change.went" sWentP
  frm : StatD K C (.type "type") "from_names" "Members.from_names" sFromN
  bet : StatD K D (.type "type") "between" "Change.between" sBetC
  s1 : PySem.W.nsIn K mainGlobals "SetError" = some (some (.ref S1))
  s2 : PySem.W.nsIn K mainGlobals "StateError" = some (some (.ref S2))
  s3 : PySem.W.nsIn K mainGlobals "LimitError" = some (some (.ref S3))
  eN : ErrD K "InvalidNames" "index" "InvalidNames.__init__" sErrNames CN S1 S2 S3
  eM : ErrD K "NotMembers" "value" "NotMembers.__init__" sErrMem CM S1 S2 S3
  eA : ErrD K "NotAChange" "value" "NotAChange.__init__" sErrChg CA S1 S2 S3
  eC : TxtD K "NotComparable" CC S1 S2 S3
  q11 : PySem.W.kitOne K (.ref CM) (.ref CM) = some true
  q12 : PySem.W.kitOne K (.ref CM) (.ref CA) = some false
  q13 : PySem.W.kitOne K (.ref CM) (.ref CC) = some false
  q21 : PySem.W.kitOne K (.ref CA) (.ref CM) = some false
  q22 : PySem.W.kitOne K (.ref CA) (.ref CA) = some true
  q23 : PySem.W.kitOne K (.ref CA) (.ref CC) = some false
  q31 : PySem.W.kitOne K (.ref CC) (.ref CM) = some false
  q32 : PySem.W.kitOne K (.ref CC) (.ref CA) = some false
  q33 : PySem.W.kitOne K (.ref CC) (.ref CC) = some true
  cd : PySem.W.kitOne K (.ref C) (.ref D) = some false
  dc : PySem.W.kitOne K (.ref D) (.ref C) = some false
  nfDC : PySem.W.notFirst K D (.ref C) = true
  isn : GloD K "is_name" sIsName
  wrg : GloD K "wrong_at" sWrong
  chkM : GloD K "check_members" sChkM
  chkC : GloD K "check_change" sChkC
  cell : GloD K "_law_cell" sCell
  pool : GloD K "_law_pool" sPool
  draw : GloD K "_law_draw" sDraw
  names : GloD K "_law_names" sNames
  caught : GloD K "_law_caught" sCaught
  drawn : GloD K "_law_drawn" s_L_drawn
  apart : GloD K "_law_apart" s_L_apart
  ln : ∃ t, PySem.W.nsIn K mainGlobals "LONGEST_NAME" = some (some (.int 8 t))
  free : ∀ x ∈ (["len", "int", "abs", "range", "list", "str", "set", "sorted", "tuple", "isinstance", "enumerate", "repr", "bool", "any", "all", "max", "min", "ValueError", "LookupError", "ArithmeticError"] : List Str), PySem.W.nsIn K mainGlobals x = some none
section
variable {w : World} {P : Program} {base : Heap} {mg : Str → Option Value} {K : PySem.W.Frag} {C D CN CM CA CC S1 S2 S3 : Addr}
theorem free_of {h : Heap} (R : Raw K C D CN CM CA CC S1 S2 S3) (X : K.In h) (G : h.Ns mainGlobals mg) : Free mg := by
  have z : ∀ x ∈ (["len", "int", "abs", "range", "list", "str", "set", "sorted", "tuple", "isinstance", "enumerate", "repr", "bool", "any", "all", "max", "min", "ValueError", "LookupError", "ArithmeticError"] : List Str), mg x = none := fun x hx => PySem.W.mg_none_of X G (R.free x hx)
  exact ⟨z _ (by simp), z _ (by simp), z _ (by simp), z _ (by simp), z _ (by simp), z _ (by simp), z _ (by simp), z _ (by simp), z _ (by simp), z _ (by simp), z _ (by simp), z _ (by simp), z _ (by simp), z _ (by simp), z _ (by simp), z _ (by simp), z _ (by simp)⟩
theorem ErrD.errF {x fld qual : Str} {st : Stmt} {D S1 S2 S3 : Addr} (e : ErrD K x fld qual st D S1 S2 S3) : ErrF K S1 S2 S3 D 0 := ⟨e.xc, e.k1, e.k2, e.k3, e.kV, e.kL, e.kA, e.kx, e.xf⟩
theorem TxtD.errF {x : Str} {D S1 S2 S3 : Addr} (e : TxtD K x D S1 S2 S3) : ErrF K S1 S2 S3 D 1 := ⟨e.xc, e.k1, e.k2, e.k3, e.kV, e.kL, e.kA, e.kx, e.xf⟩
theorem u_or : uOr = ("__or__" : Str) := by decide +kernel
theorem u_and : uAnd = ("__and__" : Str) := by decide +kernel
theorem u_sub : uSub = ("__sub__" : Str) := by decide +kernel
theorem u_add : uAdd = ("__add__" : Str) := by decide +kernel
theorem raw_2 {CX : CXT} {k : Nat} {f : Addr} {fd : FuncData} {ps : List Str} {sp : Sp} (B : L2.Binds K fd ps []) (G : FnOk P w K mg base CX k f fd ps sp) : FnR P w K mg base CX k f sp :=
  (G.raw B .nil).imp fun vs H Q E h => by rw [List.append_nil]; exact h
theorem cg_of {h : Heap} (R : Raw K C D CN CM CA CC S1 S2 S3) (X : K.In h) (G : h.Ns mainGlobals mg) : Cg P w K mg base C D CN CM CA CC (.type "type") ∧ (∃ f0, MakeC P w K mg base C CN f0) ∧ ∃ g, OwnM K C "__eq__" g ∧ FnR P w K mg base CX0 3 g (spEqM C) := by
  have T : Free mg := free_of R X G
  have MC : MemC K mg C := ⟨PySem.W.mg_of X G R.mem.g, R.mem.cl, R.mem.nN, R.mem.nT⟩
  have II := R.mem.is
  have GC : ChgC K mg D := ⟨PySem.W.mg_of X G R.chg.g, R.chg.cl, R.chg.nC, R.chg.nW⟩
  obtain ⟨fN, iN1, iN2, dN⟩ := R.eN.ini
  obtain ⟨fM, iM1, iM2, dM⟩ := R.eM.ini
  obtain ⟨fA, iA1, iA2, dA⟩ := R.eA.ini
  obtain ⟨fdN, FN⟩ := dN.fun_
  obtain ⟨fdM, FM⟩ := dM.fun_
  obtain ⟨fdA, FA⟩ := dA.fun_
  have EN : ErrC K mg "InvalidNames" "index" CN fN := ⟨PySem.W.mg_of X G R.eN.g, R.eN.ox, R.eN.no, iN1, iN2⟩
  have EM : ErrC K mg "NotMembers" "value" CM fM := ⟨PySem.W.mg_of X G R.eM.g, R.eM.ox, R.eM.no, iM1, iM2⟩
  have EA : ErrC K mg "NotAChange" "value" CA fA := ⟨PySem.W.mg_of X G R.eA.g, R.eA.ox, R.eA.no, iA1, iA2⟩
  obtain ⟨fI, aI, dI⟩ := R.isn
  obtain ⟨fdI, FI⟩ := dI.fun_
  obtain ⟨tL, lL⟩ := R.ln
  have GI := ok_isname (P := P) (w := w) (base := base) FI T ⟨tL, PySem.W.mg_of X G lL⟩
  obtain ⟨fW, aW, dW⟩ := R.wrg
  obtain ⟨fdW, FW⟩ := dW.fun_
  have mgI := PySem.W.mg_of X G aI
  have mgW := PySem.W.mg_of X G aW
  have GWT := ok_wrongT FW T GI FI mgI
  obtain ⟨f0, a0, i0, d0⟩ := R.ini
  obtain ⟨fd0, F0⟩ := d0.fun_
  have MM : MakeC P w K mg base C CN f0 := ⟨⟨R.mem.mk', a0, i0, R.mem.kC⟩, ok_init F0 T MC GWT FW mgW EN FN⟩
  obtain ⟨fL, aL, iL, dL⟩ := R.len
  obtain ⟨fdL, FL⟩ := dL.fun_
  have bL : L2.Binds K fdL ["self"] [] := FL.binds (ps := ["self"]) fun _ _ _ _ _ _ us hl => match us, hl with | [_], _ => rfl
  have RL : FnR P w K mg base CX0 1 fL (spLenM C) := raw_2 bL (ok_lenM FL T MC)
  obtain ⟨fH, aH, iH, dH⟩ := R.has
  obtain ⟨fdH, FH⟩ := dH.fun_
  have bH : L2.Binds K fdH ["self", "value"] [] := FH.binds (ps := ["self", "value"]) fun _ _ _ _ _ _ us hl => match us, hl with | [_, _], _ => rfl
  have RH : FnR P w K mg base CX0 1 fH (spHasM C) := raw_2 bH (ok_hasM FH T MC)
  obtain ⟨pP, fP, prP, dP⟩ := R.prop
  obtain ⟨fdP, FP⟩ := dP.fun_
  have bP : L2.Binds K fdP ["self"] [] := FP.binds (ps := ["self"]) fun _ _ _ _ _ _ us hl => match us, hl with | [_], _ => rfl
  have GP := ok_namesP (P := P) (w := w) (base := base) FP MC
  obtain ⟨fE, aE, iE, dE⟩ := R.eq
  obtain ⟨fdE, FE⟩ := dE.fun_
  have bE : L2.Binds K fdE ["self", "other"] [] := FE.binds (ps := ["self", "other"]) fun _ _ _ _ _ _ us hl => match us, hl with | [_, _], _ => rfl
  have RE : FnR P w K mg base CX0 3 fE (spEqM C) := raw_2 bE (ok_eqM (P := P) (w := w) (base := base) FE T MC II prP GP FP)
  obtain ⟨pF, fF, mF, dF⟩ := R.frm
  obtain ⟨ocF, odF, kVF, docF, pmF, anF, cdF, ctF, oslF, lF, cF⟩ := dF.ex
  have FF := fun_mk (st := sFromN) lF cF dF.kp
  have bF : L2.Binds K _ ["names"] [] := FF.binds (ps := ["names"]) fun _ _ _ _ _ _ us hl => match us, hl with | [_], _ => rfl
  have GF1 : FnR P w K mg base (L2.CX P w) 6 fF (spFromT C CN) := raw_2 bF (ok_fromT FF T MC MM EN FN)
  obtain ⟨fC, aC, dC⟩ := R.chkM
  obtain ⟨fdC, FC⟩ := dC.fun_
  have bC : L2.Binds K fdC ["value"] [] := FC.binds (ps := ["value"]) fun _ _ _ _ _ _ us hl => match us, hl with | [_], _ => rfl
  have mgC := PySem.W.mg_of X G aC
  obtain ⟨fD, aD, dD⟩ := R.chkC
  obtain ⟨fdD, FD⟩ := dD.fun_
  have bD : L2.Binds K fdD ["value"] [] := FD.binds (ps := ["value"]) fun _ _ _ _ _ _ us hl => match us, hl with | [_], _ => rfl
  have mgD := PySem.W.mg_of X G aD
  have B : Mb P w K mg base C CN CM (.type "type") := {
    T := T
    M := MC
    I := II
    sf := R.sf
    chkY := ⟨fC, mgC, FC.kp, fdC, ok_chkY FC T MC II EM FM, bC⟩
    chkN := ⟨fC, mgC, FC.kp, fdC, ok_chkN FC T MC II EM FM, bC⟩
    fromT := ⟨pF, fF, mF, GF1⟩
    hasM := ⟨fH, ⟨aH, iH⟩, RH⟩
    lenM := ⟨fL, ⟨aL, iL⟩, RL⟩
    prop := ⟨pP, fP, fdP, prP, GP, bP⟩
    cr := R.mem.cr }
  obtain ⟨g1, a1, j1, d1⟩ := R.m1
  obtain ⟨fd1, F1⟩ := d1.fun_
  have b1 : L2.Binds K fd1 nmSO [] := F1.binds (ps := nmSO) fun _ _ _ _ _ _ us hl => match us, hl with | [_, _], _ => rfl
  obtain ⟨g2, a2, j2, d2⟩ := R.m2
  obtain ⟨fd2, F2⟩ := d2.fun_
  have b2 : L2.Binds K fd2 nmSO [] := F2.binds (ps := nmSO) fun _ _ _ _ _ _ us hl => match us, hl with | [_, _], _ => rfl
  obtain ⟨g3, a3, j3, d3⟩ := R.m3
  obtain ⟨fd3, F3⟩ := d3.fun_
  have b3 : L2.Binds K fd3 nmSO [] := F3.binds (ps := nmSO) fun _ _ _ _ _ _ us hl => match us, hl with | [_, _], _ => rfl
  refine ⟨{
    b := B
    or := ⟨g1, ⟨by rw [u_or]; exact a1, j1⟩, raw_2 b1 (ok_orM F1 B)⟩
    and := ⟨g2, ⟨by rw [u_and]; exact a2, j2⟩, raw_2 b2 (ok_andM F2 B)⟩
    sub := ⟨g3, ⟨by rw [u_sub]; exact a3, j3⟩, raw_2 b3 (ok_subM F3 B)⟩
    chkMN := ⟨fC, mgC, FC.kp, fdC, ok_chkMN FC T MC EM FM, bC⟩
    chkCY := ⟨fD, mgD, FD.kp, fdD, ok_chkCY FD T GC R.chg.is EA FA, bD⟩
    chkCN := ⟨fD, mgD, FD.kp, fdD, ok_chkCN FD T GC EA FA, bD⟩
    nb := R.mem.nb
    G := GC
    J := R.chg.is
    cc := ⟨PySem.W.mg_of X G R.eC.g, R.eC.ex, R.eC.kp, R.eC.xc.hs, R.eC.ty⟩ }, ⟨f0, MM⟩, ⟨fE, ⟨aE, iE⟩, RE⟩⟩
theorem wd_of {h : Heap} (R : Raw K C D CN CM CA CC S1 S2 S3) (X : K.In h) (G : h.Ns mainGlobals mg) : Wd P w K mg base C D CN CM CA CC S1 S2 S3 (.type "type") (.type "type") := by
  obtain ⟨B, MM, EQ⟩ := cg_of (P := P) (w := w) (base := base) R X G
  have T := B.b.T
  have MC := B.b.M
  have EK : ErrK K mg S1 S2 S3 CM CA CC := ⟨PySem.W.mg_of X G R.s1, PySem.W.mg_of X G R.s2, PySem.W.mg_of X G R.s3, PySem.W.mg_none_of X G (R.free _ (by simp)), PySem.W.mg_none_of X G (R.free _ (by simp)), PySem.W.mg_none_of X G (R.free _ (by simp)),
    PySem.W.mg_of X G R.eM.g, R.eM.errF, R.eM.no, R.q11, R.q12, R.q13, PySem.W.mg_of X G R.eA.g, R.eA.errF, R.eA.no, R.q21, R.q22, R.q23, PySem.W.mg_of X G R.eC.g, R.eC.errF, R.q31, R.q32, R.q33⟩
  obtain ⟨p1, f1, pr1, d1⟩ := R.came
  obtain ⟨fd1, F1⟩ := d1.fun_
  have b1 : L2.Binds K fd1 ["self"] [] := F1.binds (ps := ["self"]) fun _ _ _ _ _ _ us hl => match us, hl with | [_], _ => rfl
  obtain ⟨p2, f2, pr2, d2⟩ := R.went
  obtain ⟨fd2, F2⟩ := d2.fun_
  have b2 : L2.Binds K fd2 ["self"] [] := F2.binds (ps := ["self"]) fun _ _ _ _ _ _ us hl => match us, hl with | [_], _ => rfl
  obtain ⟨fI, aI, iI, dI⟩ := R.iniC
  obtain ⟨ocI, odI, kVI, docI, pmI, anI, cdI, ctI, oslI, lI, cI⟩ := dI.ex
  have FI := fun_mk (st := sInitC) lI cI dI.kp
  have bI : L2.Binds K _ nmIC [] := FI.binds (ps := nmIC) fun _ _ _ _ _ _ us hl => match us, hl with | [_, _, _], _ => rfl
  have GY := ok_initC FI B
  have MK : Mk K D fI := ⟨R.chg.mk', aI, iI, R.chg.kC⟩
  have CP : Cp P w K mg base C D CM CC := {
    came := ⟨p1, f1, fd1, pr1, ok_cameP F1 B.G, b1⟩
    went := ⟨p2, f2, fd2, pr2, ok_wentP F2 B.G, b2⟩
    eqM := EQ
    mak := ⟨fI, _, MK, raw_2 bI GY, raw_2 bI (ok_initX FI B), raw_2 bI (ok_init1 FI B), raw_2 bI (ok_init2 FI B), GY⟩ }
  obtain ⟨fL, aL, iL, dL⟩ := R.len
  obtain ⟨fdL, FL⟩ := dL.fun_
  obtain ⟨gR, aR, iR, dR⟩ := R.rep
  obtain ⟨fdR, FR⟩ := dR.fun_
  have bR : L2.Binds K fdR ["self"] [] := FR.binds (ps := ["self"]) fun _ _ _ _ _ _ us hl => match us, hl with | [_], _ => rfl
  obtain ⟨gS, aS, iS, dS⟩ := R.repC
  obtain ⟨fdS, FS⟩ := dS.fun_
  have bS : L2.Binds K fdS ["self"] [] := FS.binds (ps := ["self"]) fun _ _ _ _ _ _ us hl => match us, hl with | [_], _ => rfl
  obtain ⟨gB, aB, iB, dB⟩ := R.booC
  obtain ⟨fdB, FB⟩ := dB.fun_
  have bB : L2.Binds K fdB ["self"] [] := FB.binds (ps := ["self"]) fun _ _ _ _ _ _ us hl => match us, hl with | [_], _ => rfl
  obtain ⟨gA, aA, iA, dA⟩ := R.absC
  obtain ⟨fdA, FA⟩ := dA.fun_
  have bA : L2.Binds K fdA ["self"] [] := FA.binds (ps := ["self"]) fun _ _ _ _ _ _ us hl => match us, hl with | [_], _ => rfl
  obtain ⟨gE, aE, iE, dE⟩ := R.eqC
  obtain ⟨fdE, FE⟩ := dE.fun_
  have bE : L2.Binds K fdE nmSO [] := FE.binds (ps := nmSO) fun _ _ _ _ _ _ us hl => match us, hl with | [_, _], _ => rfl
  obtain ⟨gN, aN, iN, dN⟩ := R.negC
  obtain ⟨fdN, FN⟩ := dN.fun_
  have bN : L2.Binds K fdN ["self"] [] := FN.binds (ps := ["self"]) fun _ _ _ _ _ _ us hl => match us, hl with | [_], _ => rfl
  obtain ⟨gP, aP, iP, dP⟩ := R.addC
  obtain ⟨fdP, FP⟩ := dP.fun_
  have bP : L2.Binds K fdP nmSO [] := FP.binds (ps := nmSO) fun _ _ _ _ _ _ us hl => match us, hl with | [_, _], _ => rfl
  obtain ⟨gQ, aQ, iQ, dQ⟩ := R.m4
  obtain ⟨fdQ, FQ⟩ := dQ.fun_
  have bQ : L2.Binds K fdQ nmSO [] := FQ.binds (ps := nmSO) fun _ _ _ _ _ _ us hl => match us, hl with | [_, _], _ => rfl
  obtain ⟨pT, fT, mT, dT⟩ := R.bet
  obtain ⟨ocT, odT, kVT, docT, pmT, anT, cdT, ctT, oslT, lT, cT⟩ := dT.ex
  have FT := fun_mk (st := sBetC) lT cT dT.kp
  have bT : L2.Binds K _ nmBt [] := FT.binds (ps := nmBt) fun _ _ _ _ _ _ us hl => match us, hl with | [_, _], _ => rfl
  have GT := ok_bet FT B CP
  obtain ⟨fDr, aDr, dDr⟩ := R.draw
  obtain ⟨fdDr, FDr⟩ := dDr.fun_
  have mgDr := PySem.W.mg_of X G aDr
  have bDr : L2.Binds K fdDr ["_law_pool_here", "_law_many"] [] := FDr.binds (ps := ["_law_pool_here", "_law_many"]) fun _ _ _ _ _ _ us hl => match us, hl with | [_, _], _ => rfl
  have hDr : Has P w K mg base CX0 1 "_law_draw" fDr ["_law_pool_here", "_law_many"] spDraw := ⟨mgDr, FDr.kp, fdDr, ok_draw FDr T, bDr⟩
  obtain ⟨fNm, aNm, dNm⟩ := R.names
  obtain ⟨fdNm, FNm⟩ := dNm.fun_
  have bNm : L2.Binds K fdNm ["_law_pool_here", "_law_many"] [] := FNm.binds (ps := ["_law_pool_here", "_law_many"]) fun _ _ _ _ _ _ us hl => match us, hl with | [_, _], _ => rfl
  obtain ⟨fDn, aDn, dDn⟩ := R.drawn
  obtain ⟨fdDn, FDn⟩ := dDn.fun_
  have bDn : L2.Binds K fdDn psDrawn [] := FDn.binds (ps := psDrawn) fun _ _ _ _ _ _ us hl => match us, hl with | [_, _], _ => rfl
  obtain ⟨fAp, aAp, dAp⟩ := R.apart
  obtain ⟨fdAp, FAp⟩ := dAp.fun_
  have bAp : L2.Binds K fdAp psDrawn [] := FAp.binds (ps := psDrawn) fun _ _ _ _ _ _ us hl => match us, hl with | [_, _], _ => rfl
  exact {
    g := B
    p := CP
    r := ⟨⟨gR, ⟨aR, iR⟩, raw_2 bR (ok_reprM FR T MC), ok_reprQ FR T MC⟩, ⟨gS, ⟨aS, iS⟩, raw_2 bS (ok_reprC FS B), ok_reprCQ FS T B.G ⟨aL, iL⟩ (ok_lenQ FL T MC)⟩⟩
    EK := EK
    neM := R.mem.ne
    neD := R.chg.ne
    sfD := R.sfD
    eqC := ⟨gE, ⟨aE, iE⟩, raw_2 bE (ok_eqC FE B CP), raw_2 bE (ok_eqCN FE B CP)⟩
    absC := ⟨gA, ⟨aA, iA⟩, raw_2 bA (ok_absC FA B)⟩
    boolC := ⟨gB, ⟨aB, iB⟩, raw_2 bB (ok_boolC FB B)⟩
    negC := ⟨gN, ⟨aN, iN⟩, raw_2 bN (ok_negC FN B CP)⟩
    addC := ⟨gP, ⟨by rw [u_add]; exact aP, iP⟩, raw_2 bP (ok_addC FP B CP), raw_2 bP (ok_addCN FP B CP)⟩
    addM := ⟨gQ, ⟨by rw [u_add]; exact aQ, iQ⟩, raw_2 bQ (ok_addM FQ B CP), raw_2 bQ (ok_addMN FQ B CP)⟩
    rAddC := R.rC
    rAddD := R.rD
    oCD := R.oCD
    oDC := R.oDC
    tC := R.tC
    tD := R.tD
    bet := ⟨pT, fT, _, mT, raw_2 bT GT, raw_2 bT (ok_bet1 FT B CP), raw_2 bT (ok_bet2 FT B CP), GT, ⟨fun s us ws X hu hw => match us, ws, hu, hw with | [], [_, _], _, _ => .of_eq rfl, fun _ r => r⟩⟩
    kwC := ⟨fI, _, MK, GY, ⟨fun s us ws X hu hw => match us, ws, hu, hw with | [_], [_, _], _, _ => .of_eq rfl, fun r1 r2 => r1.append r2.reverse⟩⟩
    nfDC := R.nfDC
    crD := R.chg.cr
    mkM := MM
    tw := ⟨R.cd, R.dc⟩
    draw := ⟨fDr, hDr⟩
    names := ⟨fNm, PySem.W.mg_of X G aNm, FNm.kp, fdNm, ok_names FNm T FDr mgDr, bNm⟩
    drawn := ⟨fDn, PySem.W.mg_of X G aDn, FDn.kp, fdDn, ok_drawn FDn B.b hDr, bDn⟩
    apart := ⟨fAp, PySem.W.mg_of X G aAp, FAp.kp, fdAp, ok_apart FAp B CP hDr, bAp⟩ }
end
end K1

namespace K1
open PySem PySem.Spec
open PyProof.Rows L2 L2H EnT StX SmX TxS DuX XdI Tr3 CnB ClX
theorem law_end {l : PySem.W.OpenLaw} {q : Program} {w : World} {mg : Str → Option Value} {fa : Addr} {h : Heap} {K : PySem.W.Frag} {C D CN CM CA CC S1 S2 S3 fR cR PR fL cL PL fS cS PS fO cO PO : Addr} (R : Raw K C D CN CM CA CC S1 S2 S3) (DR : CodeD K "_law_right" sRight fR cR PR) (DL : CodeD K "law" sLaw fL cL PL)
    (DS : CodeD K "_law_one_right" s_L_one_right fS cS PS) (DO : CodeD K "_law_odd_right" s_L_odd_right fO cO PO)
    (X : K.In h) (G : h.Ns mainGlobals mg) (hmg : mg "law" = some (.ref fa)) (TB : EnG.TabsAt q mg h) (hrec : ((recsOf q).any fun e => e.name == ("_law_odd_right" : Str)) = true) : EnG.LawG l w 15 63 mg fa h := by
  have e := hmg.symm.trans (PySem.W.mg_of X G DL.g)
  cases e
  have mgO := PySem.W.mg_of X G DO.g
  obtain ⟨oc, od, kV, doc, pm, an, ct, osl, lk, hcd⟩ := DO.fn.ex
  obtain ⟨ec, dc, vc, slc, lc, h11⟩ := DO.cd
  obtain ⟨tabP, codP⟩ := EnG.tab_of X TB hrec mgO lk rfl rfl lc h11
  refine ⟨K, [(cO, PO)], spLaw K PO, X, fun p hp => ?_, fun p hp => ?_, fun p hp => ?_, fun H a ns hl hH hS => ?_, fun base hb hG hT => ?_⟩
  · rw [List.mem_singleton.mp
        hp]
    exact tabP
  · rw [List.mem_singleton.mp
        hp]
    exact DO.no
  · rw [List.mem_singleton.mp
        hp]
    exact codP
  · refine ⟨a, ns, rfl, hS, by omega, fun p hp => ?_, fun _ => rfl⟩
    rw [List.mem_singleton.mp hp]
    exact LamX.TabS.nil (hH (cO, PO) List.mem_cons_self)
  · have W : Wd l.prog w K mg base C D CN CM CA CC S1 S2 S3 (.type "type") (.type "type") := wd_of R X G
    have tb := hT (cO, PO) List.mem_cons_self
    obtain ⟨fC, aC, dC⟩ := R.caught
    obtain ⟨fdC, FC⟩ := dC.fun_
    have AK : Asks K mg base cO PO := ⟨⟨fC, fdC, PySem.W.mg_of X G aC, FC⟩, tb⟩
    have CK : Checks l.prog w K mg base C D PO := ⟨⟨fS, PySem.W.mg_of X G DS.g, DS.kp, ok_one W DS.fn⟩, ⟨fO, mgO, DO.kp, ok_oddR W AK DO.fn⟩⟩
    have GR : FnG l.prog w K mg base CX0 14 fR (spRight PO) := ok_right W CK DR.fn
    have T := W.g.b.T
    obtain ⟨fE, aE, dE⟩ := R.cell
    obtain ⟨fdE, FE⟩ := dE.fun_
    have bE : L2.Binds K fdE ["_law_cells", "_law_k"] [] := FE.binds (ps := ["_law_cells", "_law_k"]) fun _ _ _ _ _ _ us hl => match us, hl with | [_, _], _ => rfl
    obtain ⟨fQ, aQ, dQ⟩ := R.pool
    obtain ⟨fdQ, FQ⟩ := dQ.fun_
    have bQ : L2.Binds K fdQ ["_law_cell_here"] [] := FQ.binds (ps := ["_law_cell_here"]) fun _ _ _ _ _ _ us hl => match us, hl with | [_], _ => rfl
    exact ok_law T ⟨⟨fE, PySem.W.mg_of X G aE, FE.kp, fdE, ok_cell FE T, bE⟩, ⟨fQ, PySem.W.mg_of X G aQ, FQ.kp, fdQ, ok_pool FQ T, bQ⟩, ⟨fR, PySem.W.mg_of X G DR.g, DR.kp, GR⟩⟩ DL.fn
end K1
theorem K1.ex1 {α : Sort _} {p : α → Prop} {a : α} (h : p a) : ∃ x, p x := ⟨a, h⟩
set_option maxHeartbeats 0
open PySem PySem.W PyProof.Rows
open_top hdk03 for PySem.Challenge.rw_onemember_k03_changes
theorem PySem.Challenge.cw_onemember_k03_changes_holds : PySem.Challenge.rw_onemember_k03_changes.Holds := by
  refine hdk03 ?_
  k_fill
  refine EnG.walk_G (l := PySem.Challenge.rw_onemember_k03_changes) (n := 63) (k := 15) rfl (by decide) rfl ⟨rfl, by decide, by decide⟩ ?F
  intro w mg fa h Y G hmg TB
  have KX := km_in_of Y
  refine' K1.law_end ?R ?DR ?DL ?DS ?DO KX G hmg TB ?hrec
  (case hrec => decide +kernel)
  case DR =>
    refine' K1.codeD_mk ?a ?l ?c ?k ?lc ?h ?no
    (case a => k_is)
    (case l => k_is)
    (case c => k_is)
    (case k => k_is)
    (case lc => k_is)
    (case h => exact rfl)
    (case no => exact rfl)
  case DL =>
    refine' K1.codeD_mk ?a ?l ?c ?k ?lc ?h ?no
    (case a => k_is)
    (case l => k_is)
    (case c => k_is)
    (case k => k_is)
    (case lc => k_is)
    (case h => exact rfl)
    (case no => exact rfl)
  case DS =>
    refine' K1.codeD_mk ?a ?l ?c ?k ?lc ?h ?no
    (case a => k_is)
    (case l => k_is)
    (case c => k_is)
    (case k => k_is)
    (case lc => k_is)
    (case h => exact rfl)
    (case no => exact rfl)
  case DO =>
    refine' K1.codeD_mk ?a ?l ?c ?k ?lc ?h ?no
    (case a => k_is)
    (case l => k_is)
    (case c => k_is)
    (case k => k_is)
    (case lc => k_is)
    (case h => exact rfl)
    (case no => exact rfl)
  case R =>
    refine' { mem := ?z_mem, chg := ?z_chg, sf := ?z_sf, sfD := ?z_sfD, ini := ?z_ini, len := ?z_len, rep := ?z_rep, has := ?z_has, eq := ?z_eq, m1 := ?z_m1, m2 := ?z_m2, m3 := ?z_m3, m4 := ?z_m4, iniC := ?z_iniC, repC := ?z_repC, booC := ?z_booC, absC := ?z_absC, eqC := ?z_eqC, negC := ?z_negC, addC := ?z_addC, rC := ?z_rC, rD := ?z_rD, oCD := ?z_oCD, oDC := ?z_oDC, tC := ?z_tC, tD := ?z_tD, prop := ?z_prop, came := ?z_came, went := ?z_went, frm := ?z_frm, bet := ?z_bet, s1 := ?z_s1, s2 := ?z_s2, s3 := ?z_s3, eN := ?z_eN, eM := ?z_eM, eA := ?z_eA, eC := ?z_eC, q11 := ?z_q11, q12 := ?z_q12, q13 := ?z_q13, q21 := ?z_q21, q22 := ?z_q22, q23 := ?z_q23, q31 := ?z_q31, q32 := ?z_q32, q33 := ?z_q33, cd := ?z_cd, dc := ?z_dc, nfDC := ?z_nfDC, isn := ?z_isn, wrg := ?z_wrg, chkM := ?z_chkM, chkC := ?z_chkC, cell := ?z_cell, pool := ?z_pool, draw := ?z_draw, names := ?z_names, caught := ?z_caught, drawn := ?z_drawn, apart := ?z_apart, ln := ?z_ln, free := ?z_free }
    (case z_s1 => k_is)
    (case z_s2 => k_is)
    (case z_s3 => k_is)
    case z_mem =>
      refine' K1.memD_mk ?g ?pg ?hd ?po ?sa ?nN ?nT ?mk ?kC ?ha ?hn ?ht ?hm ?yes ?o1 ?o2 ?o3 ?o4 ?o5 ?o6 ?o7 ?f1 ?f2 ?f3 ?f4 ?f5 ?f6 ?f7 ?fC ?ne ?nb ?rd ?ga
      (case g => k_is)
      (case pg => k_is)
      (case hd => k_is)
      (case po => k_is)
      (case sa => k_is)
      (case nN => k_is)
      (case nT => k_is)
      (case mk => k_is)
      (case kC => k_is)
      (case ha => k_is)
      (case hn => k_is)
      (case ht => k_is)
      (case hm => k_is)
      (case yes => kit_is)
      (case o1 => kit_is)
      (case o2 => kit_is)
      (case o3 => kit_is)
      (case o4 => kit_is)
      (case o5 => kit_is)
      (case o6 => kit_is)
      (case o7 => kit_is)
      (case f1 => k_is)
      (case f2 => k_is)
      (case f3 => k_is)
      (case f4 => k_is)
      (case f5 => k_is)
      (case f6 => k_is)
      (case f7 => k_is)
      (case fC => k_is)
      (case ne => k_is)
      (case nb => k_is)
      (case rd => k_is)
      (case ga => k_is)
    case z_chg =>
      refine' K1.chgD_mk ?g ?pg ?hd ?po ?sa ?nN ?nT ?mk ?kC ?ha ?hn ?ht ?hm ?yes ?o1 ?o2 ?o3 ?o4 ?o5 ?o6 ?o7 ?f1 ?f2 ?f3 ?f4 ?f5 ?f6 ?f7 ?fC ?ne ?rd ?ga
      (case g => k_is)
      (case pg => k_is)
      (case hd => k_is)
      (case po => k_is)
      (case sa => k_is)
      (case nN => k_is)
      (case nT => k_is)
      (case mk => k_is)
      (case kC => k_is)
      (case ha => k_is)
      (case hn => k_is)
      (case ht => k_is)
      (case hm => k_is)
      (case yes => kit_is)
      (case o1 => kit_is)
      (case o2 => kit_is)
      (case o3 => kit_is)
      (case o4 => kit_is)
      (case o5 => kit_is)
      (case o6 => kit_is)
      (case o7 => kit_is)
      (case f1 => k_is)
      (case f2 => k_is)
      (case f3 => k_is)
      (case f4 => k_is)
      (case f5 => k_is)
      (case f6 => k_is)
      (case f7 => k_is)
      (case fC => k_is)
      (case ne => k_is)
      (case rd => k_is)
      (case ga => k_is)
    (case z_sf => k_is)
    (case z_sfD => k_is)
    case z_ini =>
      refine' K1.methD_mk ?a ?i ?l ?c ?k
      (case a => k_is)
      (case i => k_is)
      (case l => k_is)
      (case c => k_is)
      (case k => k_is)
    case z_len =>
      refine' K1.methD_mk ?a ?i ?l ?c ?k
      (case a => k_is)
      (case i => k_is)
      (case l => k_is)
      (case c => k_is)
      (case k => k_is)
    case z_rep =>
      refine' K1.methD_mk ?a ?i ?l ?c ?k
      (case a => k_is)
      (case i => k_is)
      (case l => k_is)
      (case c => k_is)
      (case k => k_is)
    case z_has =>
      refine' K1.methD_mk ?a ?i ?l ?c ?k
      (case a => k_is)
      (case i => k_is)
      (case l => k_is)
      (case c => k_is)
      (case k => k_is)
    case z_eq =>
      refine' K1.methD_mk ?a ?i ?l ?c ?k
      (case a => k_is)
      (case i => k_is)
      (case l => k_is)
      (case c => k_is)
      (case k => k_is)
    case z_m1 =>
      refine' K1.methD_mk ?a ?i ?l ?c ?k
      (case a => k_is)
      (case i => k_is)
      (case l => k_is)
      (case c => k_is)
      (case k => k_is)
    case z_m2 =>
      refine' K1.methD_mk ?a ?i ?l ?c ?k
      (case a => k_is)
      (case i => k_is)
      (case l => k_is)
      (case c => k_is)
      (case k => k_is)
    case z_m3 =>
      refine' K1.methD_mk ?a ?i ?l ?c ?k
      (case a => k_is)
      (case i => k_is)
      (case l => k_is)
      (case c => k_is)
      (case k => k_is)
    case z_m4 =>
      refine' K1.methD_mk ?a ?i ?l ?c ?k
      (case a => k_is)
      (case i => k_is)
      (case l => k_is)
      (case c => k_is)
      (case k => k_is)
    case z_iniC =>
      refine' K1.methD_mk ?a ?i ?l ?c ?k
      (case a => k_is)
      (case i => k_is)
      (case l => k_is)
      (case c => k_is)
      (case k => k_is)
    case z_repC =>
      refine' K1.methD_mk ?a ?i ?l ?c ?k
      (case a => k_is)
      (case i => k_is)
      (case l => k_is)
      (case c => k_is)
      (case k => k_is)
    case z_booC =>
      refine' K1.methD_mk ?a ?i ?l ?c ?k
      (case a => k_is)
      (case i => k_is)
      (case l => k_is)
      (case c => k_is)
      (case k => k_is)
    case z_absC =>
      refine' K1.methD_mk ?a ?i ?l ?c ?k
      (case a => k_is)
      (case i => k_is)
      (case l => k_is)
      (case c => k_is)
      (case k => k_is)
    case z_eqC =>
      refine' K1.methD_mk ?a ?i ?l ?c ?k
      (case a => k_is)
      (case i => k_is)
      (case l => k_is)
      (case c => k_is)
      (case k => k_is)
    case z_negC =>
      refine' K1.methD_mk ?a ?i ?l ?c ?k
      (case a => k_is)
      (case i => k_is)
      (case l => k_is)
      (case c => k_is)
      (case k => k_is)
    case z_addC =>
      refine' K1.methD_mk ?a ?i ?l ?c ?k
      (case a => k_is)
      (case i => k_is)
      (case l => k_is)
      (case c => k_is)
      (case k => k_is)
    (case z_rC => k_is)
    (case z_rD => k_is)
    case z_oCD =>
      refine' K1.othC_mk ?ne ?sf ?h1 ?h2 ?hs
      (case ne => decide)
      (case sf => k_is)
      (case h1 => k_is)
      (case h2 => k_is)
      (case hs => k_is)
    case z_oDC =>
      refine' K1.othC_mk ?ne ?sf ?h1 ?h2 ?hs
      (case ne => decide)
      (case sf => k_is)
      (case h1 => k_is)
      (case h2 => k_is)
      (case hs => k_is)
    case z_tC =>
      refine' K1.oth_all ?o1 ?o2 ?o3 ?o4 ?o5 ?o6 ?o7
      case o1 =>
        refine' K1.othT_mk ?a ?b ?c
        (case a => k_is)
        (case b => k_is)
        (case c => k_is)
      case o2 =>
        refine' K1.othT_mk ?a ?b ?c
        (case a => k_is)
        (case b => k_is)
        (case c => k_is)
      case o3 =>
        refine' K1.othT_mk ?a ?b ?c
        (case a => k_is)
        (case b => k_is)
        (case c => k_is)
      case o4 =>
        refine' K1.othT_mk ?a ?b ?c
        (case a => k_is)
        (case b => k_is)
        (case c => k_is)
      case o5 =>
        refine' K1.othT_mk ?a ?b ?c
        (case a => k_is)
        (case b => k_is)
        (case c => k_is)
      case o6 =>
        refine' K1.othT_mk ?a ?b ?c
        (case a => k_is)
        (case b => k_is)
        (case c => k_is)
      case o7 =>
        refine' K1.othT_mk ?a ?b ?c
        (case a => k_is)
        (case b => k_is)
        (case c => k_is)
    case z_tD =>
      refine' K1.oth_all ?o1 ?o2 ?o3 ?o4 ?o5 ?o6 ?o7
      case o1 =>
        refine' K1.othT_mk ?a ?b ?c
        (case a => k_is)
        (case b => k_is)
        (case c => k_is)
      case o2 =>
        refine' K1.othT_mk ?a ?b ?c
        (case a => k_is)
        (case b => k_is)
        (case c => k_is)
      case o3 =>
        refine' K1.othT_mk ?a ?b ?c
        (case a => k_is)
        (case b => k_is)
        (case c => k_is)
      case o4 =>
        refine' K1.othT_mk ?a ?b ?c
        (case a => k_is)
        (case b => k_is)
        (case c => k_is)
      case o5 =>
        refine' K1.othT_mk ?a ?b ?c
        (case a => k_is)
        (case b => k_is)
        (case c => k_is)
      case o6 =>
        refine' K1.othT_mk ?a ?b ?c
        (case a => k_is)
        (case b => k_is)
        (case c => k_is)
      case o7 =>
        refine' K1.othT_mk ?a ?b ?c
        (case a => k_is)
        (case b => k_is)
        (case c => k_is)
    case z_prop =>
      refine' K1.propD_mk ?a ?g ?t ?r ?l ?c ?k
      (case a => k_is)
      (case g => k_is)
      (case t => k_is)
      (case r => k_is)
      (case l => k_is)
      (case c => k_is)
      (case k => k_is)
    case z_came =>
      refine' K1.propD_mk ?a ?g ?t ?r ?l ?c ?k
      (case a => k_is)
      (case g => k_is)
      (case t => k_is)
      (case r => k_is)
      (case l => k_is)
      (case c => k_is)
      (case k => k_is)
    case z_went =>
      refine' K1.propD_mk ?a ?g ?t ?r ?l ?c ?k
      (case a => k_is)
      (case g => k_is)
      (case t => k_is)
      (case r => k_is)
      (case l => k_is)
      (case c => k_is)
      (case k => k_is)
    case z_frm =>
      refine' K1.statD_mk ?a ?r ?l ?c ?k
      (case a => k_is)
      (case r => k_is)
      (case l => k_is)
      (case c => k_is)
      (case k => k_is)
    case z_bet =>
      refine' K1.statD_mk ?a ?r ?l ?c ?k
      (case a => k_is)
      (case r => k_is)
      (case l => k_is)
      (case c => k_is)
      (case k => k_is)
    case z_eN =>
      refine' K1.errD_mk ?g ?lD ?sh ?sa ?exC ?tyC ?kC ?no ?a ?ty ?l ?c ?k ?hg ?hk ?hd ?ha ?hn ?ht ?hm ?k1 ?k2 ?k3 ?kV ?kL ?kA ?kx
      (case g => k_is)
      (case lD => k_is)
      (case sh => exact ⟨_, _, _, _, _, _, _, _, _, _, _, _, _, _, _, rfl, by decide⟩)
      (case sa => k_is)
      (case exC => k_is)
      (case tyC => k_is)
      (case kC => k_is)
      (case no => k_is)
      (case a => k_is)
      (case ty => k_is)
      (case l => k_is)
      (case c => k_is)
      (case k => k_is)
      (case hg => k_is)
      (case hk => k_is)
      (case hd => k_is)
      (case ha => k_is)
      (case hn => k_is)
      (case ht => k_is)
      (case hm => k_is)
      (case k1 => kit_is)
      (case k2 => kit_is)
      (case k3 => kit_is)
      (case kV => kit_is)
      (case kL => kit_is)
      (case kA => kit_is)
      (case kx => kts_exm)
    case z_eM =>
      refine' K1.errD_mk ?g ?lD ?sh ?sa ?exC ?tyC ?kC ?no ?a ?ty ?l ?c ?k ?hg ?hk ?hd ?ha ?hn ?ht ?hm ?k1 ?k2 ?k3 ?kV ?kL ?kA ?kx
      (case g => k_is)
      (case lD => k_is)
      (case sh => exact ⟨_, _, _, _, _, _, _, _, _, _, _, _, _, _, _, rfl, by decide⟩)
      (case sa => k_is)
      (case exC => k_is)
      (case tyC => k_is)
      (case kC => k_is)
      (case no => k_is)
      (case a => k_is)
      (case ty => k_is)
      (case l => k_is)
      (case c => k_is)
      (case k => k_is)
      (case hg => k_is)
      (case hk => k_is)
      (case hd => k_is)
      (case ha => k_is)
      (case hn => k_is)
      (case ht => k_is)
      (case hm => k_is)
      (case k1 => kit_is)
      (case k2 => kit_is)
      (case k3 => kit_is)
      (case kV => kit_is)
      (case kL => kit_is)
      (case kA => kit_is)
      (case kx => kts_exm)
    case z_eA =>
      refine' K1.errD_mk ?g ?lD ?sh ?sa ?exC ?tyC ?kC ?no ?a ?ty ?l ?c ?k ?hg ?hk ?hd ?ha ?hn ?ht ?hm ?k1 ?k2 ?k3 ?kV ?kL ?kA ?kx
      (case g => k_is)
      (case lD => k_is)
      (case sh => exact ⟨_, _, _, _, _, _, _, _, _, _, _, _, _, _, _, rfl, by decide⟩)
      (case sa => k_is)
      (case exC => k_is)
      (case tyC => k_is)
      (case kC => k_is)
      (case no => k_is)
      (case a => k_is)
      (case ty => k_is)
      (case l => k_is)
      (case c => k_is)
      (case k => k_is)
      (case hg => k_is)
      (case hk => k_is)
      (case hd => k_is)
      (case ha => k_is)
      (case hn => k_is)
      (case ht => k_is)
      (case hm => k_is)
      (case k1 => kit_is)
      (case k2 => kit_is)
      (case k3 => kit_is)
      (case kV => kit_is)
      (case kL => kit_is)
      (case kA => kit_is)
      (case kx => kts_exm)
    case z_eC =>
      refine' K1.txtD_mk ?g ?ex ?exC ?tyC ?kC ?hg ?hk ?hd ?ha ?hn ?ht ?hm ?k1 ?k2 ?k3 ?kV ?kL ?kA ?kx
      (case g => k_is)
      (case ex => k_exc)
      (case exC => k_is)
      (case tyC => k_is)
      (case kC => k_is)
      (case hg => k_is)
      (case hk => k_is)
      (case hd => k_is)
      (case ha => k_is)
      (case hn => k_is)
      (case ht => k_is)
      (case hm => k_is)
      (case k1 => kit_is)
      (case k2 => kit_is)
      (case k3 => kit_is)
      (case kV => kit_is)
      (case kL => kit_is)
      (case kA => kit_is)
      (case kx => kts_exm)
    (case z_q11 => kit_is)
    (case z_q12 => kit_is)
    (case z_q13 => kit_is)
    (case z_q21 => kit_is)
    (case z_q22 => kit_is)
    (case z_q23 => kit_is)
    (case z_q31 => kit_is)
    (case z_q32 => kit_is)
    (case z_q33 => kit_is)
    (case z_cd => kit_is)
    (case z_dc => kit_is)
    (case z_nfDC => k_is)
    case z_isn =>
      refine' K1.gloD_mk ?a ?l ?c ?k
      (case a => k_is)
      (case l => k_is)
      (case c => k_is)
      (case k => k_is)
    case z_wrg =>
      refine' K1.gloD_mk ?a ?l ?c ?k
      (case a => k_is)
      (case l => k_is)
      (case c => k_is)
      (case k => k_is)
    case z_chkM =>
      refine' K1.gloD_mk ?a ?l ?c ?k
      (case a => k_is)
      (case l => k_is)
      (case c => k_is)
      (case k => k_is)
    case z_chkC =>
      refine' K1.gloD_mk ?a ?l ?c ?k
      (case a => k_is)
      (case l => k_is)
      (case c => k_is)
      (case k => k_is)
    case z_cell =>
      refine' K1.gloD_mk ?a ?l ?c ?k
      (case a => k_is)
      (case l => k_is)
      (case c => k_is)
      (case k => k_is)
    case z_pool =>
      refine' K1.gloD_mk ?a ?l ?c ?k
      (case a => k_is)
      (case l => k_is)
      (case c => k_is)
      (case k => k_is)
    case z_draw =>
      refine' K1.gloD_mk ?a ?l ?c ?k
      (case a => k_is)
      (case l => k_is)
      (case c => k_is)
      (case k => k_is)
    case z_names =>
      refine' K1.gloD_mk ?a ?l ?c ?k
      (case a => k_is)
      (case l => k_is)
      (case c => k_is)
      (case k => k_is)
    case z_caught =>
      refine' K1.gloD_mk ?a ?l ?c ?k
      (case a => k_is)
      (case l => k_is)
      (case c => k_is)
      (case k => k_is)
    case z_drawn =>
      refine' K1.gloD_mk ?a ?l ?c ?k
      (case a => k_is)
      (case l => k_is)
      (case c => k_is)
      (case k => k_is)
    case z_apart =>
      refine' K1.gloD_mk ?a ?l ?c ?k
      (case a => k_is)
      (case l => k_is)
      (case c => k_is)
      (case k => k_is)
    (case z_ln => refine' K1.ex1 ?a; (case a => k_is))
    case z_free =>
      intro x hx
      simp only [List.mem_cons, List.not_mem_nil,
          or_false] at hx
      rcases hx with rfl | rfl | rfl | rfl | rfl | rfl | rfl | rfl | rfl | rfl | rfl | rfl | rfl | rfl | rfl | rfl | rfl | rfl | rfl | rfl <;> k_is
