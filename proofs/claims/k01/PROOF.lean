import PyProof.Rows.All
import Wide.All
import OpenK.AllK
import Wide.FinOn
import HandS.ForMost
import HandS.ForExc
import HandS.Walk
import KE.GoesMore
import KE.GoesEnum
import HandS.StrMore
import HandS.IsInst
import KE.KxStill
import HandS.Star
import HandS.ClsMeth
import HandS.MakeKwOnly
import HandS.Set
import HandS.Strs
import HandS.SetFor
import HandS.ExcInit
import HandS.DictComp
import HandS.OwnEq
import KE.KCallOwn
import PyProof.InstEq
import PyProof.ListTruth
import PyProof.Conv_bool
import PyProof.ListNew
import HandS.Deep
import HandS.RaiseMore
import PyProof.ReprRoads
import KE.DatumIndex
import PyProof.ReprLen
import PyProof.StrLawsRepr
import HandS.FStr
import HandS.Property
import HandS.Small
import HandS.WordsExc
import PyProof.Rows.StrMeet
import PyProof.NeKinds
import HandS.ExcIs
import KE.KTryMore
import HandS.Lambda
import HandS.ExcField
import HandS.TupAny
import PyProof.P3Eq
import HandS.EndTab
import KE.KSortAny
import PySem.Challenge.RW_onemember_k01_members_made
set_option Elab.async false
set_option linter.all false
set_option maxRecDepth 100000
set_option maxHeartbeats
    4000000
namespace K1
open PySem PySem.Spec
open PyProof.Rows L2
/-! ### the text by places -/
def top (i : Nat) : Stmt := PySem.Challenge.pw_onemember_k01_members_made.main.body.getD i (.Pass ⟨0, 0, 0, 0⟩)
abbrev sCell : Stmt := top 20
abbrev sPool : Stmt := top 21
abbrev sDraw : Stmt := top 22
abbrev sNames : Stmt := top 23
abbrev sCaught : Stmt := top 24
abbrev sMade : Stmt := top 25
abbrev sOdd : Stmt := top 26
abbrev sBad : Stmt := top 27
abbrev sRight : Stmt := top 28
abbrev sLaw : Stmt := top 29
/-! ### which names are the built-ins' -/
structure Free (mg : Str → Option Value) : Prop where
  len : mg "len" = none
  int : mg "int" = none
  abs : mg "abs" = none
  range : mg "range" = none
  list : mg "list" = none
  str : mg "str" = none
  set : mg "set" = none
  sorted : mg "sorted" = none
  tuple : mg "tuple" = none
  isinstance : mg "isinstance" = none
  enumerate : mg "enumerate" = none
  repr : mg "repr" = none
  bool : mg "bool" = none
  any : mg "any" = none
  all : mg "all" = none
  max : mg "max" = none
  min : mg "min" = none
/-! ### the pool: a list of three ints -/
def PoolAt (H : Hp) (p : Addr) : Prop := ∃ a b c : Int, H p = some (.lst [.int a, .int b, .int c])
def spCell (K : PySem.W.Frag) : Sp := fun vs H Q _ => ∃ (a : Addr) (ns : List Int) (k : Nat), vs = [.ref a, .int k] ∧ SqL K H a (ns.map V.int) ∧ ∀ z : Int, Q (.int z) H
def spPool : Sp := fun vs H Q _ => ∃ z : Int, vs = [.int z] ∧ ∀ p, H p = none → ∀ a b c : Int, Q (.ref p) (upd H p (.lst [.int a, .int b, .int c]))
/-- all but the pool stays, the pool is a pool -/
structure Ext (p : Addr) (H H' : Hp) : Prop where
  pool : PoolAt H' p
  keep : ∀ b o, b ≠ p → H b = some o → H' b = some o
theorem PoolAt.ne {H : Hp} {p q : Addr} (h : PoolAt H p) (n : H q = none) : q ≠ p := fun e => by
  obtain ⟨a, b, c, h⟩ := h
  rw [e, h] at n
  cases n
theorem Ext.refl {p : Addr} {H : Hp} (h : PoolAt H p) : Ext p H H := ⟨h, fun _ _ _ e => e⟩
theorem Ext.trans {p : Addr} {H H1 H2 : Hp} (a : Ext p H H1) (b : Ext p H1 H2) : Ext p H H2 := ⟨b.pool, fun c o n e => b.keep c o n (a.keep c o n e)⟩
theorem Ext.free {p q : Addr} {H H' : Hp} (e : Ext p H H') (n : H' q = none) : H q = none := by
  have n2 := e.pool.ne n
  cases h : H q with
  | none => rfl
  | some o =>
    rw [e.keep q o n2 h] at n
    cases n
theorem Ext.same {p : Addr} {H H1 H2 : Hp} (a : Ext p H H1) (s : Same H1 H2) : Ext p H H2 := ⟨by
  obtain ⟨x, y, z, h⟩ := a.pool
  exact ⟨x, y, z, s _ _ h⟩, fun c o n e => s c o (a.keep c o n e)⟩
theorem same_upd {H : Hp} {p : Addr} {o : HO} (h : H p = none) : Same H (upd H p o) := fun b x e => by
  rw [upd_ne (ne_of_none e h)]
  exact e
theorem Ext.of {p : Addr} {H : Hp} (a b c : Int) : Ext p H (upd H p (.lst [.int a, .int b, .int c])) := ⟨⟨a, b, c, upd_same⟩, fun d o n e => by
  rw [upd_ne n]
  exact e⟩
theorem Ext.at {p q : Addr} {H H' : Hp} {o : HO} (e : Ext p H H') (n : q ≠ p) (h : H q = some o) : H' q = some o := e.keep q o n h
def spDraw : Sp := fun vs H Q _ => ∃ (p : Addr) (m : Int), vs = [.ref p, .int m] ∧ PoolAt H p ∧ 0 < m ∧ m < 1000 ∧ ∀ (d : Int) (H' : Hp), Ext p H H' → 0 ≤ d → d < m → Q (.int d) H'
section
variable {w : World} {P : Program}
variable {base : Heap} {mg : Str → Option Value} {K : PySem.W.Frag}
theorem scCell : FnScope ["_law_cells", "_law_k", "_law_mixed", "_law_cell_here"] ["_law_cells", "_law_k"] (defScope sCell) := ⟨rfl, rfl, rfl, by decide +kernel, rfl, by decide +kernel, by decide +kernel⟩
theorem ok_cell {f : Addr} {fd : FuncData} (F : Fun K "_law_cell" "_law_cell" sCell f fd) (T : Free mg) : FnOk P w K mg base CX0 1 f fd ["_law_cells", "_law_k"] (spCell K) := by
  refine F.ok scCell (fun vs H Q E h => ?_) (fun cdv A outer s H vs Q E hr h => ?_)
  · obtain ⟨a, ns, k, rfl, _⟩ := h
    rfl
  · obtain ⟨a, ns, k, rfl, hS, q⟩ := h
    refine ⟨_, pss_cons (ps_if (pt_cmpR op_lt (pv 1) (pe_callB call_len_seq (by rfl) T.len PySem.boot_len (pa_cons (pv 0) pa_nil)) (nomark _)) (pss_one (ps_ret (pe_ix ix_list (pv 0) (pv 1) (fun _ _ => rfl)))) pss_nil)
      (pss_cons (ps_set (i := 2) scCell.nd rfl (.inl rfl) (pe_op op_add pe_int (pe_op op_mul pe_int (pv 1))))
      (pss_cons (ps_for PassesOwn.never rfl (pi_list (pv 0)) (pg_name (i := 3) scCell.nd rfl (.inl rfl))
        (pss_one (ps_set (i := 2) scCell.nd rfl (.inl rfl) (pe_op op_mod (pe_callTy call_int1 (by rfl) T.int (by decide +kernel) (pa_cons (pe_op op_add (pe_op op_mul (pv 2) pe_int) (pe_callB call_abs (by rfl) T.abs (by decide +kernel) (pa_cons (pv 3) pa_nil))) pa_nil)) pe_int))))
      (pss_one (ps_ret (pe_op op_add (pe_op op_mul (pv 2) pe_int) (pv 1)))))), ?_⟩
    refine ⟨_, rfl, _, rfl, a, _, rfl, .inl hS, _, _, rfl, rfl, _, rfl, ?_⟩
    by_cases hk : (k : Int) < ((ns.map V.int).length : Nat)
    · rw [decide_eq_true hk]
      refine iteT ⟨_, rfl, _, rfl, a, _, _, V.int (ns.getD k 0), rfl, rfl, hS, ?_, q _⟩
      have hk2 : k < ns.length := by
        rw [List.length_map] at hk
        omega
      exact atI_nat (by rw [List.getElem?_map, List.getElem?_eq_getElem hk2, List.getD_eq_getElem?_getD, List.getElem?_eq_getElem hk2]; rfl)
    · rw [decide_eq_false hk]
      refine iteF ?_
      refine ⟨_, rfl, _, _, rfl, rfl, .inl (by decide), _, _, rfl, rfl, ?_⟩
      refine ⟨_, rfl, a, rfl, ⟨_, hS⟩, ?_⟩
      refine for_list (xs := ns.map V.int) (K := K) (a := a) (fun i σ H' => H' = H ∧ ∃ (z : Int) (o : Option V), σ = [some (.ref a), some (.int k), some (.int z), o]) ?_ ?_ ?_ ?_
      · exact ⟨rfl, _, none, rfl⟩
      · rintro i σ H' hi ⟨rfl, _⟩
        exact hS
      · rintro i x σ H' hx ⟨rfl, z, o, rfl⟩
        rw [List.getElem?_map] at hx
        obtain ⟨n, _, rfl⟩ := Option.map_eq_some_iff.mp hx
        refine ⟨_, rfl, _, _, rfl, rfl, .inr (by decide), ?_⟩
        refine ⟨_, rfl, n, rfl, _, _, rfl, rfl, ?_⟩
        refine .inl ⟨_, rfl, _, _, rfl, rfl, (by show (0 : Int) < 2147483629; decide), ?_⟩
        exact ⟨rfl, _, _, rfl⟩
      · rintro σ H' ⟨rfl, z, o, rfl⟩
        refine ⟨_, rfl, _, _, rfl, rfl, .inr (by decide), _, rfl, _, _, rfl, rfl, q _⟩
theorem scPool : FnScope ["_law_cell_here"] ["_law_cell_here"] (defScope sPool) := ⟨rfl, rfl, rfl, by decide +kernel, rfl, by decide +kernel, by decide +kernel⟩
theorem ok_pool {f : Addr} {fd : FuncData} (F : Fun K "_law_pool" "_law_pool" sPool f fd) (T : Free mg) : FnOk P w K mg base CX0 1 f fd ["_law_cell_here"] spPool := by
  refine F.ok scPool (fun vs H Q E h => ?_) (fun cdv A outer s H vs Q E hr h => ?_)
  · obtain ⟨z, rfl, _⟩ := h
    rfl
  · obtain ⟨z, rfl, q⟩ := h
    refine ⟨_, pss_one (ps_ret (pe_lst (pa_cons (pe_op op_mod (pe_callTy call_int1 (by rfl) T.int (by decide +kernel) (pa_cons (pv 0) pa_nil)) pe_int)
      (pa_cons (pe_ifExp (PW.pt (pw_or (pt_cmpR op_lt (pv 0) pe_int (nomark _)) (pw_or1 (pt_cmpR op_ge (pv 0) (pe_op op_pow pe_int pe_int) (nomark _))))) (pe_callB call_abs (by rfl) T.abs (by decide +kernel) (pa_cons (pv 0) pa_nil)) pe_int)
      (pa_cons pe_int pa_nil))))), ?_⟩
    refine ⟨_, rfl, .inl ⟨_, rfl, _, _, rfl, rfl, (by show (0 : Int) < 2147483629; decide), ?_⟩⟩
    have fin : ∀ b : Int, ([V.int (z % 2147483629), V.int b, V.int 0] : List V).length ≤ sizeLine ∧ ∀ p, H p = none → Q (.ref p) (upd H p (.lst [V.int (z % 2147483629), V.int b, V.int 0])) := fun b => ⟨by show 3 ≤ sizeLine; decide, fun p hp => q p hp _ _ _⟩
    refine ⟨_, rfl, _, _, rfl, rfl, _, rfl, ?_⟩
    refine ite2 (fun _ => ?_) (fun _ => ?_)
    · refine iteT ⟨_, rfl, _, rfl, fin _⟩
    · refine ⟨_, rfl, _, _, rfl, rfl, ⟨by decide, by decide, by decide⟩, _, _, rfl, rfl, _, rfl, ?_⟩
      refine ite2 (fun _ => ?_) (fun _ => ?_)
      · exact ⟨_, rfl, _, rfl, fin _⟩
      · exact fin 0
theorem scDraw : FnScope ["_law_pool_here", "_law_many", "_law_mixed", "_law_digit"] ["_law_pool_here", "_law_many"] (defScope sDraw) := ⟨rfl, rfl, rfl, by decide +kernel, rfl, by decide +kernel, by decide +kernel⟩
theorem at3 {a b c : V} {j : Nat} {v : V} (h : [a, b, c][j]? = some v) : atI [a, b, c] (j : Int) = some v := atI_nat h
theorem ok_draw {f : Addr} {fd : FuncData} (F : Fun K "_law_draw" "_law_draw" sDraw f fd) (T : Free mg) : FnOk P w K mg base CX0 1 f fd ["_law_pool_here", "_law_many"] spDraw := by
  refine F.ok scDraw (fun vs H Q E h => ?_) (fun cdv A outer s H vs Q E hr h => ?_)
  · obtain ⟨p, m, rfl, _⟩ := h
    rfl
  · obtain ⟨p, m, rfl, ⟨a, b, c, hp⟩, hm, hm2, q⟩ := h
    refine ⟨_, pss_cons (ps_asg (pe_op op_add (pe_ix ix_list (pv 0) pe_int (fun _ _ => rfl)) pe_int) (pg_sub (pv 0) pe_int set_list))
      (pss_cons (ps_set (i := 2) scDraw.nd rfl (.inl rfl) (pe_op op_mod (pe_callTy call_int1 (by rfl) T.int (by decide +kernel) (pa_cons (pe_op op_add (pe_op op_mul (pe_ix ix_list (pv 0) pe_int (fun _ _ => rfl)) pe_int) (pe_op op_mul (pe_ix ix_list (pv 0) pe_int (fun _ _ => rfl)) pe_int)) pa_nil)) pe_int))
      (pss_cons (ps_asg (pe_op op_mod (pe_callTy call_int1 (by rfl) T.int (by decide +kernel) (pa_cons (pe_op op_add (pe_op op_mul (pv 2) (pe_op op_add (pe_op op_fdiv (pv 2) pe_int) pe_int)) pe_int) pa_nil)) pe_int) (pg_sub (pv 0) pe_int set_list))
      (pss_cons (ps_if (pt_cmpR op_gt (pe_ix ix_list (pv 0) pe_int (fun _ _ => rfl)) pe_int (nomark _))
          (pss_cons (ps_set (i := 3) scDraw.nd rfl (.inl rfl) (pe_op op_modN (pe_callTy call_int1 (by rfl) T.int (by decide +kernel) (pa_cons (pe_ix ix_list (pv 0) pe_int (fun _ _ => rfl)) pa_nil)) (pv 1)))
          (pss_cons (ps_asg (pe_op op_fdivN (pe_callTy call_int1 (by rfl) T.int (by decide +kernel) (pa_cons (pe_ix ix_list (pv 0) pe_int (fun _ _ => rfl)) pa_nil)) (pv 1)) (pg_sub (pv 0) pe_int set_list))
          (pss_one (ps_ret (pv 3))))) pss_nil)
      (pss_one (ps_ret (pe_op op_modN (pe_callTy call_int1 (by rfl) T.int (by decide +kernel) (pa_cons (pe_op op_fdiv (pe_ix ix_list (pv 0) pe_int (fun _ _ => rfl)) pe_int) pa_nil)) (pv 1))))))), ?_⟩
    -- pool[2] = pool[2] + 1
    refine ⟨_, rfl, p, _, _, _, rfl, rfl, SqL.of hp, at3 (j := 2) rfl, _, _, rfl, rfl, _, rfl, p, _, _, 2, rfl, rfl, hp, rfl, ?_⟩
    generalize e1 : upd H p _ = H1
    have h1 : H1 p = some (.lst [.int a, .int b, .int (c + 1)]) := by rw [← e1]; exact upd_same
    have x1 : Ext p H H1 := by rw [← e1]; exact Ext.of a b (c + 1)
    clear e1
    -- mixed
    refine ⟨_, rfl, p, _, _, _, rfl, rfl, SqL.of h1, at3 (j := 0) rfl, _, _, rfl, rfl, .inr (by decide), ?_⟩
    refine ⟨_, rfl, p, _, _, _, rfl, rfl, SqL.of h1, at3 (j := 2) rfl, _, _, rfl, rfl, .inr (by decide), ?_⟩
    refine ⟨_, _, rfl, rfl, .inl ⟨_, rfl, _, _, rfl, rfl, (by show (0 : Int) < 2147483629; decide), ?_⟩⟩
    have hx : ∃ x : Int, x = (a * 48271 + (c + 1) * 69997) % 2147483629 ∧ 0 ≤ x ∧ x < 2147483629 := ⟨_, rfl, by omega, by omega⟩
    obtain ⟨x, ex, x0, xl⟩ := hx
    show tSeq _ _ _ (List.set _ _ (some (V.int ((a * 48271 + (c + 1) * 69997) % 2147483629)))) H1
    rw [← ex]
    -- pool[0]
    refine ⟨_, rfl, _, rfl, _, _, rfl, rfl, ⟨by decide, by decide⟩, _, _, rfl, rfl, _, _, rfl, rfl, .inl ⟨by omega, by omega⟩, _, _, rfl, rfl, .inl ⟨_, rfl, _, _, rfl, rfl, (by show (0 : Int) < 2147483629; decide), ?_⟩⟩
    refine ⟨_, rfl, p, _, _, 0, rfl, rfl, h1, rfl, ?_⟩
    generalize e2 : upd H1 p _ = H2
    obtain ⟨a2, h2, x2⟩ : ∃ a2 : Int, H2 p = some (.lst [.int a2, .int b, .int (c + 1)]) ∧ Ext p H H2 := ⟨(x * (x / 7 + 30011) + 12345) % 2147483629, by rw [← e2]; exact upd_same, x1.trans (by rw [← e2]; exact Ext.of _ b (c + 1))⟩
    clear e2
    -- the digits
    refine ⟨_, rfl, p, _, _, _, rfl, rfl, SqL.of h2, at3 (j := 1) rfl, _, _, rfl, rfl, _, rfl, ?_⟩
    have md : ∀ y : Int, 0 ≤ y.fmod m ∧ y.fmod m < m := fun y => ⟨Int.fmod_nonneg_of_pos _ hm, Int.fmod_lt_of_pos _ hm⟩
    refine ite2 (fun _ => ?_) (fun _ => ?_)
    · refine ⟨_, rfl, p, _, _, _, rfl, rfl, SqL.of h2, at3 (j := 1) rfl, .inl ⟨_, rfl, _, rfl, _, _, rfl, rfl, (by omega), ?_⟩⟩
      refine ⟨_, rfl, p, _, _, _, rfl, rfl, SqL.of h2, at3 (j := 1) rfl, .inl ⟨_, rfl, _, rfl, _, _, rfl, rfl, ⟨by omega, by omega⟩, ?_⟩⟩
      refine ⟨_, rfl, p, _, _, 1, rfl, rfl, h2, rfl, _, rfl, ?_⟩
      exact q _ _ (x2.trans (Ext.of a2 _ (c + 1))) (md _).1 (md _).2
    · refine ⟨_, rfl, p, _, _, _, rfl, rfl, SqL.of h2, at3 (j := 0) rfl, _, _, rfl, rfl, ⟨by decide, by decide⟩, .inl ⟨_, rfl, _, rfl, _, _, rfl, rfl, (by omega), ?_⟩⟩
      exact q _ _ x2 (md _).1 (md _).2
end
end K1
namespace K1
open PySem PySem.Spec PyProof.Rows L2 TL
/-! ### tags: texts of one to three lower-case letters -/
def Low (z : Str) : Prop := ∀ c ∈ tl z, 97 ≤ c ∧ c ≤ 122
structure Tag (z : Str) : Prop where
  lo : 1 ≤ (tl z).length
  hi : (tl z).length ≤ 3
  low : Low z
/-- a sign's text -/
abbrev sg (c : Nat) : Str := ⟨#[c]⟩
theorem len_tl (z : Str) : z.length = (tl z).length := by simp [Str.length]
theorem joinL_sg : ∀ cs : List Nat, joinL [] (cs.map fun c => [c]) = cs
  | [] => rfl
  | [c] => rfl
  | c :: d :: r => by
    show [c] ++ ([] ++ joinL [] ((d :: r).map fun c => [c])) = c :: d :: r
    rw [joinL_sg (d :: r)]
    rfl
theorem join_sg (cs : List Nat) : tl (Txt.join (Str.ofString "") (cs.map sg)) = cs := by
  rw [join_eq, tl_join, List.map_map]
  have e : tl (Str.ofString "") = [] := by decide +kernel
  rw [e]
  exact joinL_sg cs
abbrev letters : Str := Str.ofString "abcdefghijklmnopqrstuvwxyz"
theorem letters_len : letters.length = 26 := by decide +kernel
theorem letters_cps : letters.cps = (((List.range 26).map fun i => 97 + i).toArray) := by decide +kernel
theorem letters_at {i : Nat} (h : i < 26) : letters.cps[i]? = some (97 + i) := by
  rw [letters_cps]
  simp [h]
theorem sum_sg : ∀ cs : List Nat, ((cs.map sg).map (·.length)).sum = cs.length
  | [] => rfl
  | c :: r => by
    have ih := sum_sg r
    rw [List.map_cons, List.map_cons, List.sum_cons, ih, List.length_cons]
    show 1 + r.length
        = r.length + 1
    omega
def spNames : Sp := fun vs H Q _ => ∃ (p : Addr) (m : Nat), vs = [.ref p, .int m] ∧ PoolAt H p ∧ m ≤ 26 ∧ ∀ (q : Addr) (zs : List Str) (H' : Hp), Ext p H H' → H q = none → H' q = some (.lst (zs.map V.str)) → zs.length = m → (∀ z ∈ zs, Tag z) → Q (.ref q) H'
section
variable {w : World} {P : Program}
variable {base : Heap} {mg : Str → Option Value} {K : PySem.W.Frag}
abbrev nmNames : List Str := ["_law_pool_here", "_law_many", "_law_letters", "_law_found", "_law_k", "_law_stem", "_law_at", "_law_base", "_law_own"]
theorem scNames : FnScope nmNames ["_law_pool_here", "_law_many"] (defScope sNames) := ⟨rfl, rfl, rfl, by decide +kernel, rfl, by decide +kernel, by decide +kernel⟩
theorem ok_names {f fD : Addr} {fd fdD : FuncData} (F : Fun K "_law_names" "_law_names" sNames f fd) (T : Free mg) (FD : Fun K "_law_draw" "_law_draw" sDraw fD fdD) (mgD : mg "_law_draw" = some (.ref fD)) :
    FnOk P w K mg base CX0 2 f fd ["_law_pool_here", "_law_many"] spNames := by
  have GD : FnOk P w K mg base CX0 1 fD fdD ["_law_pool_here", "_law_many"] spDraw := ok_draw FD T
  have bD : Binds K fdD ["_law_pool_here", "_law_many"] [] := FD.binds (ps := ["_law_pool_here", "_law_many"]) fun _ _ _ _ _ _ us hl => match us, hl with | [_, _], _ => rfl
  refine F.ok scNames (fun vs H Q E h => ?_) (fun cdv A outer s H vs Q E hr h => ?_)
  · obtain ⟨p, m, rfl, _⟩ := h
    rfl
  · obtain ⟨p, m, rfl, hp, hm, q⟩ := h
    refine ⟨_, pss_cons (ps_asg (pe_tup (pa_cons pe_str (pa_cons (pe_lst pa_nil) pa_nil))) (pg_tup rfl (pgs_cons (pg_name (i := 2) scNames.nd rfl (.inr rfl)) (pgs_cons (pg_name (i := 3) scNames.nd rfl (.inl rfl)) pgs_nil))))
      (pss_cons (ps_setLc (i := 5) (own := [("_law_k", 4)]) (g := gName 4) rfl scNames.nd rfl rfl (sw_true rfl rfl rfl (by decide +kernel))
          (pi_range1 rfl T.range (pa_cons (pe_op op_add pe_int (pe_call GD hr rfl mgD FD.kp bD .nil pass0 (pa_cons (pv 0) (pa_cons pe_int pa_nil)))) pa_nil))
          (blkOk_by (own := [("_law_k", 4)]) (N := nmNames) (sc := defScope sNames) (by decide +kernel)) (fun _ _ _ _ _ => pg_name (i := 4) scNames.nd rfl (Or.inl rfl)) (fun _ _ _ _ _ => pts_nil)
          (fun _ _ _ _ _ => pe_item_str (pv 2) (pe_call GD hr rfl mgD FD.kp bD .nil pass0 (pa_cons (pv 0) (pa_cons pe_int pa_nil))) (fun _ _ => rfl)))
      (pss_cons (ps_par (i := 6) (j := 7) rfl scNames.nd rfl rfl (by decide) rfl rfl (pa_cons (pe_call GD hr rfl mgD FD.kp bD .nil pass0 (pa_cons (pv 0) (pa_cons (pe_callB call_len_seq (by rfl) T.len PySem.boot_len (pa_cons (pv 5) pa_nil)) pa_nil))) (pa_cons (pe_call GD hr rfl mgD FD.kp bD .nil pass0 (pa_cons (pv 0) (pa_cons pe_int pa_nil))) pa_nil)) (by rfl))
      (pss_cons (ps_for PassesOwn.never rfl (pi_range1 rfl T.range (pa_cons (pv 1) pa_nil)) (pg_name (i := 4) scNames.nd rfl (.inl rfl))
          (pss_cons (ps_set (i := 8) scNames.nd rfl (.inl rfl) (pe_callTy call_list_of (by rfl) T.list (by decide +kernel) (pa_cons (pv 5) pa_nil)))
          (pss_cons (ps_asg (pe_item_str (pv 2) (pe_op op_mod (pe_callTy call_int1 (by rfl) T.int (by decide +kernel) (pa_cons (pe_op op_add (pv 7) (pv 4)) pa_nil)) pe_int) (fun _ _ => rfl)) (pg_sub (pv 8) (pv 6) set_list))
          (pss_one (ps_expr (pe_bm PySem.F.plainAttrs_list PySem.F.slot_list_append PySem.F.type_list_append mt_append (pv 3) (pa_cons (pe_join pe_str (pv 8)) pa_nil)))))))
      (pss_one (ps_ret (pv 3)))))), ?_⟩
    -- letters, found
    refine ⟨(by show 0 ≤ sizeLine; decide), fun F nF => ⟨(by show 2 ≤ sizeLine; decide), fun t nt => ?_⟩⟩
    refine ⟨t, _, rfl, SqT.of upd_same, rfl, ?_⟩
    have nFp : F ≠ p := hp.ne nF
    have ntF : t ≠ F := fun e => by
      rw [e, upd_same] at nt
      cases nt
    have s1 : Same H (upd H F (.lst [])) := same_upd nF
    have s2 : Same (upd H F (.lst [])) (upd (upd H F (.lst [])) t (.tup [.str letters, .ref F])) := same_upd nt
    have hF : (upd (upd H F (.lst [])) t (.tup [.str letters, .ref F])) F = some (.lst []) := by rw [upd_ne (Ne.symm ntF), upd_same]
    have x1 : Ext p H (upd (upd H F (.lst [])) t (.tup [.str letters, .ref F])) := ((Ext.refl hp).same s1).same s2
    generalize (upd (upd H F (.lst [])) t (.tup [.str letters, .ref F])) = H1 at hF x1 ⊢
    -- stem
    refine ⟨_, _, rfl, _, _, rfl, rfl, ?_⟩
    refine ⟨_, rfl, p, 3, rfl, x1.pool, by decide, by decide, fun d H2 x2 d0 d1 => ?_⟩
    refine ⟨_, _, rfl, rfl, _, rfl, by omega, by omega, fun S nS => ?_⟩
    have hF2 : H2 F = some (.lst []) := x2.at nFp hF
    have nSF : S ≠ F := fun e => by
      rw [e, hF2] at nS
      cases nS
    have nSp : S ≠ p := x2.pool.ne nS
    have xx : Ext p H H2 := x1.trans x2
    refine lc_range (lo := 0) (n := (1 + d).toNat) (fun i H' => Ext p H2 H' ∧ ∃ cs : List Nat, H' S = some (.lst ((cs.map sg).map V.str)) ∧ cs.length = i ∧ ∀ c ∈ cs, 97 ≤ c ∧ c ≤ 122) ?_ ?_ ?_
    · exact ⟨(Ext.refl x2.pool).same (same_upd nS), [], upd_same, rfl, fun c z => by cases z⟩
    · rintro i H' hi ⟨xe, cs, hS, hl, hc⟩
      refine ⟨rfl, ?_⟩
      refine ⟨_, rfl, _, rfl, p, 26, rfl, xe.pool, by decide, by decide, fun e H3 x3 e0 e1 => ?_⟩
      refine ⟨letters, e, 97 + e.toNat, rfl, rfl, e0, by omega, ?_, letters_at (by omega), (cs.map sg).map V.str, x3.at nSp hS, ?_, ?_⟩
      · rw [letters_len]
        exact e1
      · rw [List.length_map, List.length_map, hl]
        exact small1000 (by omega)
      · have hS3 : (H3 S) = some (.lst ((cs.map sg).map V.str)) := x3.at nSp hS
        refine ⟨⟨?_, fun b o n z => ?_⟩, cs ++ [97 + e.toNat], ?_, ?_, ?_⟩
        · obtain ⟨a, b, c, z⟩ := x3.pool
          exact ⟨a, b, c, by rw [upd_ne (Ne.symm nSp)]; exact z⟩
        · have nb : b ≠ S := ne_of_none z nS
          rw [upd_ne nb]
          exact x3.keep b o n (xe.keep b o n z)
        · rw [upd_same, List.map_append, List.map_append]
          rfl
        · rw [List.length_append, hl]
          rfl
        · intro c hc2
          rcases List.mem_append.mp hc2 with z | z
          · exact hc c z
          · have z2 : c = 97 + e.toNat := List.mem_singleton.mp z
            omega
    · rintro H3 ⟨xe, cs, hS, hl, hc⟩
      have hF3 : H3 F = some (.lst []) := xe.at nFp hF2
      -- at, base
      have hS2 : SqL K H3 S ((cs.map sg).map V.str) := SqL.of hS
      have hlS : (((cs.map sg).map V.str).length : Nat) = (1 + d).toNat := by rw [List.length_map, List.length_map, hl]
      refine ⟨_, rfl, _, rfl, S, _, rfl, .inl hS2, p, _, rfl, xe.pool, by omega, by omega, fun t1 H4 x4 t0 t2 => ?_⟩
      refine ⟨_, rfl, p, 26, rfl, x4.pool, by decide, by decide, fun b1 H5 x5 b0 b2 => ?_⟩
      refine ⟨_, _, rfl, ?_⟩
      have x45 : Ext p H3 H5 := x4.trans x5
      have xa : Ext p H H5 := xx.trans (xe.trans x45)
      -- the loop
      refine ⟨_, rfl, m, rfl, by omega, by omega, ?_⟩
      refine for_range (lo := 0) (n := ((m : Nat) : Int).toNat) (fun i σ H' => Ext p H H' ∧ H' S = some (.lst ((cs.map sg).map V.str)) ∧ (∃ zs : List Str, H' F = some (.lst (zs.map V.str)) ∧ zs.length = i ∧ ∀ z ∈ zs, Tag z) ∧
        ∃ o1 o2 : Option V, σ = [some (.ref p), some (.int m), some (.str letters), some (.ref F), o1, some (.ref S), some (.int t1), some (.int b1), o2]) ?_ ?_ ?_
      · exact ⟨xa, x45.at nSp hS, ⟨[], x45.at nFp hF3, rfl, fun z hz => by cases hz⟩, none, none, rfl⟩
      · rintro i σ H' hi ⟨xf, hS', ⟨zs, hF', hz, ht⟩, o1, o2, rfl⟩
        -- own = list(stem)
        refine ⟨_, rfl, S, _, rfl, .inl (SqL.of hS'), fun W nW => ?_⟩
        have nWp : W ≠ p := xf.pool.ne nW
        have nWF : W ≠ F := fun e => by
          rw [e, hF'] at nW
          cases nW
        refine ⟨_, rfl, _, rfl, _, rfl, _, _, rfl, rfl, .inl ⟨_, rfl, _, _, rfl, rfl, (by show (0 : Int) < 26; decide), ?_⟩⟩
        have r0 : 0 ≤ (b1 + (0 + (i : Int))) % 26 := by omega
        have r1 : (b1 + (0 + (i : Int))) % 26 < 26 := by omega
        refine ⟨letters, _, 97 + ((b1 + (0 + (i : Int))) % 26).toNat, rfl, rfl, r0, by omega, ?_, letters_at (by omega), ?_⟩
        · rw [letters_len]
          exact r1
        have ht1 : t1.toNat < cs.length := by
          rw [hl]
          omega
        refine ⟨_, rfl, _, rfl, W, _, _, t1.toNat, rfl, rfl, upd_same, ?_, ?_⟩
        · rw [List.length_map, List.length_map]
          unfold ixN
          rw [if_pos t0, if_pos (by omega)]
        have eset : ((cs.map sg).map V.str).set t1.toNat (V.str (sg (97 + ((b1 + (0 + (i : Int))) % 26).toNat))) = ((cs.set t1.toNat (97 + ((b1 + (0 + (i : Int))) % 26).toNat)).map sg).map V.str := by
          rw [List.map_set, List.map_set]
        have hcs : ∀ c ∈ cs.set t1.toNat (97 + ((b1 + (0 + (i : Int))) % 26).toNat), 97 ≤ c ∧ c ≤ 122 := fun c z => by
          rcases List.mem_or_eq_of_mem_set z with z | z
          · exact hc c z
          · omega
        have hln : (cs.set t1.toNat (97 + ((b1 + (0 + (i : Int))) % 26).toNat)).length = cs.length := List.length_set
        generalize cs.set t1.toNat (97 + ((b1 + (0 + (i : Int))) % 26).toNat) = cs2 at eset hcs hln
        generalize eW : upd (upd H' W _) W _ = H6
        have hW : H6 W = some (.lst ((cs2.map sg).map V.str)) := by
          rw [← eW, ← eset]
          exact upd_same
        have sm : Same H' H6 := fun b o z => by
          have nb : b ≠ W := ne_of_none z nW
          rw [← eW, upd_ne nb, upd_ne nb]
          exact z
        clear eW
        refine ⟨_, rfl, .inl ⟨rfl, _, SqL.of (sm _ _ hF')⟩, ⟨_, rfl⟩, _, rfl, _, W, cs2.map sg, rfl, rfl, .inl (SqL.of hW), ?_, ?_⟩
        · have e0 := sum_sg cs2
          have e2 : (Str.ofString "").length = 0 := by decide +kernel
          rw [e0, e2]
          omega
        refine ⟨F, _, _, rfl, rfl, sm _ _ hF', ?_, ?_⟩
        · rw [List.length_map, hz]
          exact small1000 (by omega)
        refine ⟨⟨?_, fun b o n z => ?_⟩, ?_, ⟨zs ++ [Txt.join (Str.ofString "") (cs2.map sg)], ?_, ?_, ?_⟩, _, _, rfl⟩
        · obtain ⟨a, b, c, z⟩ := xf.pool
          exact ⟨a, b, c, by rw [upd_ne (Ne.symm nFp)]; exact sm _ _ z⟩
        · rw [upd_ne (ne_of_none z nF)]
          exact sm _ _ (xf.keep b o n z)
        · rw [upd_ne nSF]
          exact sm _ _ hS'
        · rw [upd_same, List.map_append]
          rfl
        · rw [List.length_append, hz]
          rfl
        · intro z hz2
          rcases List.mem_append.mp hz2 with y | y
          · exact ht z y
          · have y2 : z = Txt.join (Str.ofString "") (cs2.map sg) := List.mem_singleton.mp y
            subst y2
            have ej := join_sg cs2
            refine ⟨?_, ?_, fun c hc2 => ?_⟩
            · rw [ej]
              omega
            · rw [ej]
              omega
            · rw [ej] at hc2
              exact hcs c hc2
      · rintro σ H' ⟨xf, hS', ⟨zs, hF', hz, ht⟩, o1, o2, rfl⟩
        exact ⟨_, rfl, q F zs H' xf nF hF' (by omega) ht⟩
end
end K1
/-! enumerate over a tuple -/
namespace EnT
open PySem PySem.Spec
open PyProof.Rows L2
open Builtin
set_option maxHeartbeats
    4000000 in
theorem meets_enumerate_newB1 {v : Value} {o : Obj} {H : Heap → Prop} (B : Begins v o H) :
    Meets (Builtin.«enumerate.__new__» ⟨[.type "enumerate", v], []⟩) (fun _ R s => H s.heap ∧
      R (.ok (.ret (.ref (s.heap.push o).objs.size))) { s with heap := (s.heap.push o).push { cls := .type "enumerate", data := .fields #[.none, .bool false, .ref s.heap.objs.size, rawInt 0, .none, .none] } }) :=
  .of_wp fun prog w A R s hyp => by
    obtain ⟨hp, g, d, tk, os⟩ := s; obtain ⟨h1, hyp⟩ := hyp
    have hsub := sub_enumerate
    have q1 : ∀ {A' : Around} {E : Value → Shared → Prop} {Q : Value → Shared → Prop}, Q (.ref
        hp.objs.size) ⟨hp.push o, g, d, tk, os⟩ → wpAny (model prog w) A' (pyIter v) Q E ⟨hp, g, d, tk, os⟩ :=
      fun q => B.iter prog w _
          _ ⟨hp, g, d, tk, os⟩ _ h1 q
    wp_walk using q1
    refine wpAny_stack_any fun stA => wpAny_pure ?_
    split
    · rename_i c _ _ _ _ _
      cases (c == Value.type
          "enumerate")
      · wp_walk using q1
        exact ⟨_, rfl, hyp⟩
      · wp_walk using q1
        exact ⟨_, rfl, hyp⟩
    · wp_walk using q1
      exact ⟨_, rfl, hyp⟩
section
variable {prog : Program} {w : World} {A
    : Around} {E : Value → Shared → Prop} {s : Shared}
theorem enum_begins1 {v : Value} {o : Obj} {H : Heap → Prop} {Q : Value → Shared → Prop} (B : Begins v o H) (h1 : H s.heap)
    (hyp : ∀ h', IsEnum h' (s.heap.objs.size + 1) s.heap.objs.size 0 .none → h'.get? s.heap.objs.size = some o → h'.objs.size = s.heap.objs.size + 2 →
      (∀ b o, s.heap.get? b = some o → h'.get? b = some
          o) → Q (.ref (s.heap.objs.size + 1)) { s with heap := h' }) :
    wpAny (model prog w) A (call (.type "enumerate") [v]) Q E s := by
  refine callType_new F.called_enumerate (by decide) (F.typeCall_enumerate_1
      _) (F.newCall_enumerate_1 _) (fun obj => F.args_object_init_2 obj _) F.entry_enumerate_new
    (meets_enumerate_newB1 B) ⟨h1, ?_⟩
  have szA : (s.heap.push o).objs.size = s.heap.objs.size + 1 := Heap.size_push ..
  show _ ∧ _
  rw [szA]
  have enA : IsEnum ((s.heap.push o).push { cls := .type "enumerate", data := .fields #[.none, .bool false, .ref s.heap.objs.size, rawInt 0, .none, .none] }) (s.heap.objs.size + 1) s.heap.objs.size 0 .none := by
    have := Heap.get?_push_size (s.heap.push o) (o := { cls := .type "enumerate", data := .fields #[.none, .bool false, .ref s.heap.objs.size, rawInt 0, .none, .none] }) rfl
    rw [szA] at this; exact this
  refine ⟨⟨_, enA, rfl⟩, hyp _ enA (Heap.get?_push_of_some _ (Heap.get?_push_size _ B.free)) (by rw [Heap.size_push, szA]) fun b o x => Heap.get?_push_of_some _ (Heap.get?_push_of_some _ x)⟩
end
/-- the tuple at a, each item in a new pair -/
def Itet (K : PySem.W.Frag) (a : Addr) : It :=
  ⟨fun i H => ∃ (xs : List V) (x : V), SqT K H a xs ∧ xs[i]? = some x, fun i H v H' => ∃ T x, v = .ref T ∧ H T = none ∧ H' = upd H T (.tup [.int (i : Nat), x]) ∧ ∀ xs, SqT K H a xs → xs[i]? = some x, fun i H => ∃ xs : List V, SqT K H a xs ∧ xs.length ≤ i⟩
theorem turn_enumT {P : Program} {w : World} {K : PySem.W.Frag} {elts : List Expr} {kk : Nat} {tpos : Pos} (a e it : Addr) (hai : a ≠ it) (hae : e ≠ a) :
    Turn P w K (.Tuple elts kk tpos) (Itet K a) [e, it] e (fun i hyp => (∃ old, IsEnum hyp e it ((i : Nat) : Int) old) ∧ hyp.IsTupleIter it a i ∧ e ≠ it) where
  mem := by simp
  obj := fun i hyp stA b memB => by
    obtain ⟨⟨old, enA⟩, ⟨o, obA, clA, dtA⟩, _⟩ := stA
    have eqB : b = e ∨ b = it := by simpa using memB
    rcases eqB with zA | zA
    · rw [zA]; exact ⟨_, enA, fun v q => nomatch q⟩
    · rw [zA]; exact ⟨o, obA, fun v q => by rw [dtA] at q; cases q⟩
  keep := fun i hyp h' stA k => let ⟨⟨old, enA⟩, hi, neA⟩ := stA; ⟨⟨old, k e (by simp) _ enA⟩, hi.at fun o q => k it (by simp) o q, neA⟩
  item := by
    intro X hP hw hK clA i pins s σ H E Iv fpA stA hg
    subst hP hw hK
    obtain ⟨⟨old, enA⟩, itA, neA⟩ := stA
    obtain ⟨xs, x, seqA, hx⟩ := hg
    obtain ⟨vsA, relA, p, szA⟩ := Iv.tuple seqA
    obtain ⟨u, getA, rlA⟩ := relA.get hx
    have ltE : e < s.heap.objs.size := Heap.lt_size enA
    have ltI : it < s.heap.objs.size := by obtain ⟨_, q, _⟩ := itA; exact Heap.lt_size q
    have hlt : i < vsA.toArray.size := by
      have := (List.getElem?_eq_some_iff.mp getA).1
      simpa using this
    refine wpAny_pyNext_enum_itemD (Draws.tuple (A := X.A.in1) (prog := X.prog) (w := X.w) (show X.A.in1.handled = none from Iv.ok.hd clA) it a hai vsA.toArray) enA ⟨itA, p⟩ hlt neA (by simp [neA, hae]) fun x' h' tk hx' obA st' tyA hsz kpA => ?_
    have ex : x' = u := by
      have : vsA[i]? = some x' := by simpa using hx'
      rw [getA] at this
      exact (Option.some.inj
          this).symm
    subst ex
    refine ⟨_, rfl, wpAny_letOwnedTupleGo_enum (s := { s with heap := h', toks := tk + 1 }) obA fun h'' he' sameB => ?_⟩
    have hT2 : h''.get? s.heap.objs.size = some { cls := .type "tuple", data := .seq #[.int i tk, x'] } := (sameB.2 _ (Nat.ne_of_gt ltE)).trans tyA
    have new : ObjOk X.prog X.w (upd H s.heap.objs.size (.tup [.int
        (i : Nat), x])) h'' s.heap.objs.size (.tup [.int (i : Nat), x]) :=
      ⟨by show 2 ≤ sizeLine; decide, [.int i tk, x'], .cons ⟨_, rfl⟩ (.cons rlA .nil), ⟨_, hT2, rfl, _, rfl⟩⟩
    have Iv1 : Inv X pins σ (upd H s.heap.objs.size (.tup [.int (i : Nat), x])) { s with heap := h'', toks := tk + 1 } :=
      Iv.turnedNew (ch := [e, it]) (fun b ob memB q => (sameB.2 b (fun zA => memB (by simp [zA]))).trans (kpA b ob (fun zA => memB (by simp [zA])) (fun zA => memB (by simp [zA])) q)) fpA (Nat.le_refl _) new
    refine ⟨.ref s.heap.objs.size, _, Iv1, rfl, ⟨_, x, rfl, Iv.hok.fresh (Nat.le_refl _), rfl, fun ys hy => by rw [Iv.tuple_inj hy seqA]; exact hx⟩, ⟨⟨x', ?_⟩, st'.1.at fun o q => (sameB.2 it (Ne.symm neA)).trans q, neA⟩, fun b memB => ?_⟩
    · have eqA : ((i + 1 : Nat) : Int) = (i : Int) + 1 := by omega
      rw [eqA]; exact he'
    · have ltB : b < s.heap.objs.size := by
        have eqB : b = e ∨ b = it := by simpa using memB
        rcases eqB with zA | zA
        · rw [zA]; exact ltE
        · rw [zA]; exact ltI
      rw [upd_ne (Nat.ne_of_lt ltB)]
      exact (fpA b memB).1
  done := by
    intro X hP hw hK clA i pins s σ H E Iv fpA stA hg
    subst hP hw hK
    obtain ⟨⟨old, enA⟩, itA, neA⟩ := stA
    obtain ⟨xs, seqA, hx⟩ := hg
    obtain ⟨vsA, relA, p, szA⟩ := Iv.tuple seqA
    obtain ⟨f0, f1, f2, f3, f4, f5⟩ := fpA it (by simp)
    have hl := relA.length
    have tyA : s.TypeIs (.ref e) "enumerate" := ⟨_, enA, rfl⟩
    unfold pyNext
    refine wpAny_bind (wpAny_attempt (wpAny_callSpecial?_slot (name := Str.ofString "__next__") tyA F.slot_enumerate_next
      (wpAny_call_entry F.slot_enumerate_next tyA F.entry_enumerate_next ?_ (F.args_enumerate_next_1 _))))
    show wpAny _ _ (field
        (.ref e) 2 >>= _) _ _ _
    refine wpAny_bind (wpAny_field enA rfl (x := .ref it) rfl ?_)
    refine wpAny_bind (wpAny_nextOf_tuple_end (A := X.A.in1) (show X.A.in1.handled = none from Iv.ok.hd clA) itA p (by simp; omega) fun h' x he' hx' => ?_)
    obtain ⟨o, obA, hcl⟩ := hx'
    refine wpAny_bind (wpAny_isInstance (T := "StopIteration") (b := true) ⟨o, obA, hcl⟩ isSubtype_stop ?_)
    exact wpAny_pure ⟨rfl, Iv.turned (t' := s.toks) (fun b o memB q => he' b o memB q) f0 f1 f3 f4 f5⟩
  self := fun A i s Q E stA hyp => let ⟨⟨_, enA⟩, _⟩ := stA; wpAny_pyIter_enum enA hyp
def iEnumT (K : PySem.W.Frag) (ta : TA) : TI := fun σ H R => ta σ H fun vs H1 => ∃ a xs, vs = [.ref a] ∧ SqT K H1 a xs ∧ R (Itet K a) H1
theorem pi_enumT {X : Cx} {e : Expr} {ta : TA} {p pos tpos : Pos} {elts : List Expr} {kk : Nat} (hg : Gl X "enumerate") (hm : X.mg "enumerate" = none) (ha : PA X [e] ta) (hs : starEach [e] X.env = [(false, eval e X.env)] := by rfl) :
    PI X (.Tuple elts kk tpos) (.Call (.Name "enumerate" p) [e] [] pos) (iEnumT X.K ta) := by
  refine ⟨fun pins s σ H R Iv hyp => ?_⟩
  refine Call_ (ld_blt Iv hg hm boot_enumerate (PyProof.Rows.callWith_type1 (thn (ha.run pos pins s σ H _ Iv hyp) fun us s1 ⟨vs, H1, Iv1, r1, q1⟩ => ?_) hs rfl))
  obtain ⟨a, xs, ex, seqA, q⟩ := q1
  subst ex
  cases r1 with
  | cons r rr =>
    cases rr
    cases r
    obtain ⟨vsA, relA, p', szA⟩ := Iv1.tuple seqA
    have hal : a < s1.heap.objs.size := by
      obtain ⟨_, q, _⟩ := p'
      exact Heap.lt_size q
    refine enum_begins1 (begins_tuple a vsA.toArray) p' fun h' enA itA hsz kpA => wpAny_pyIter_enum enA ?_
    have Iv2 : Inv X pins σ H1 { s1 with heap := h' } := Iv1.kept (t' := s1.toks) kpA
    refine ⟨s1.heap.objs.size + 1, [s1.heap.objs.size + 1, s1.heap.objs.size], _, _, H1, rfl, Iv2, turn_enumT a (s1.heap.objs.size + 1) s1.heap.objs.size (Nat.ne_of_lt hal) (Nat.ne_of_gt (Nat.lt_succ_of_lt hal)), ⟨⟨.none, enA⟩, ⟨_, itA, rfl, rfl⟩, Nat.succ_ne_self _⟩, fun b memB => ?_, q⟩
    have eqB : b = s1.heap.objs.size + 1 ∨ b = s1.heap.objs.size := by simpa using memB
    have leB : s1.heap.objs.size ≤ b := by
      rcases eqB with zA | zA
      · rw [zA]; exact Nat.le_add_right _ _
      · rw [zA]; exact Nat.le_refl _
    exact Iv1.fpOk leB (Iv1.hok.fresh leB)
theorem walk_enumT {K : PySem.W.Frag} {a : Addr} {xs : List V} : Walk (Itet K a) xs.length (fun H => SqT K H a xs) (YPair (fun i => some (.int (i : Nat))) (fun i => xs[i]?)) := by
  refine ⟨fun i _ hi q => ⟨xs, xs[i], q, by simp [hi]⟩,
      fun _ q => ⟨xs, q, Nat.le_refl _⟩, fun i H v H' _ q y => ?_⟩
  obtain ⟨T, x, h1,
      h2, h3, h4⟩ := y
  exact ⟨T, .int (i : Nat),
      x, h1, h2, h3, rfl, h4 xs q⟩
end EnT
namespace K1
open PySem PySem.Spec
open PyProof.Rows L2
open TL hiding len_tl
abbrev sIsName : Stmt := top 12
abbrev sWrong : Stmt := top 13
/-! ### what a name is -/
def nameB (z : Str) : Bool := if 8 < z.length then false else if Txt.isascii z = false then false else if Txt.isalnum z = false then false else if Txt.isalpha (sg (z.cps.getD 0 0)) = false then false else decide (z = Txt.lower z)
theorem alnum_all : ((List.range 128).all fun c => !((97 ≤ c && c ≤ 122) || (48 ≤ c && c ≤ 57)) || Unicode.isAlnum c) = true := by decide +kernel
theorem alpha_all : ((List.range 128).all fun c => !(97 ≤ c && c ≤ 122) || Unicode.isAlpha c) = true := by decide +kernel
theorem lo1_all : ((List.range 128).all fun c => !((97 ≤ c && c ≤ 122) || (48 ≤ c && c ≤ 57)) || PyProof.Rows.lo1 c == c) = true := by decide +kernel
theorem small_at {p : Nat → Bool} (h : ((List.range 128).all p) = true) {c : Nat} (hc : c < 128) : p c = true := (List.all_eq_true.mp h) c (List.mem_range.mpr hc)
def NameCh (c : Nat) : Prop := (97 ≤ c ∧ c ≤ 122) ∨ (48 ≤ c ∧ c ≤ 57)
theorem name_of {z : Str} (h1 : 1 ≤ (tl z).length) (h8 : (tl z).length ≤ 8) (ha : ∀ c ∈ tl z, NameCh c) (hf : ∀ c r, tl z = c :: r → 97 ≤ c ∧ c ≤ 122) : nameB z = true := by
  have hl : z.length = (tl z).length := TL.len_tl z
  have h128 : ∀ c ∈ tl z, c < 128 := fun c hc => by
    rcases ha c hc with q | q <;> omega
  have e1 : Txt.isascii z = true := by
    show z.cps.all (· < 128) = true
    rw [← Array.all_toList]
    exact List.all_eq_true.mpr fun c hc => decide_eq_true (h128 c hc)
  have e2 : Txt.isalnum z = true := by
    show (decide (z.length > 0) && z.cps.all Unicode.isAlnum) = true
    rw [decide_eq_true (by omega), ← Array.all_toList, Bool.true_and]
    refine List.all_eq_true.mpr fun c hc => ?_
    have q := small_at alnum_all (h128 c hc)
    rcases ha c hc with y | y
    · simpa [y.1, y.2] using q
    · simpa [y.1, y.2] using q
  obtain ⟨c, r, er⟩ : ∃ c r, tl z = c :: r := by
    cases e : tl z with
    | nil =>
      rw [e] at h1
      cases h1
    | cons c r => exact ⟨c, r, rfl⟩
  have e0 : z.cps.getD 0 0 = c := by
    have q : z.cps.getD 0 0 = (tl z).getD 0 0 := by simp [Array.getD_eq_getD_getElem?]
    rw [q, er]
    rfl
  have e3 : Txt.isalpha (sg c) = true := by
    have hc := hf c r er
    have q := small_at alpha_all (h128 c (by rw [er]; exact List.mem_cons_self))
    have q2 : Unicode.isAlpha c = true := by simpa [hc.1, hc.2] using q
    show (decide ((sg c).length > 0) && (sg c).cps.all Unicode.isAlpha) = true
    have e : (sg c).cps.all Unicode.isAlpha = true := by simp [q2]
    rw [e]
    rfl
  have e4 : Txt.lower z = z := by
    rw [lower_ascii h128]
    refine ext_tl ?_
    show (z.cps.map lo1).toList = tl z
    rw [Array.toList_map]
    have q : ∀ l : List Nat, (∀ c ∈ l, NameCh c) → l.map lo1 = l := fun l => by
      induction l with
      | nil => exact fun _ => rfl
      | cons a t ih =>
        intro h
        rw [List.map_cons, ih fun c hc => h c (List.mem_cons_of_mem _ hc)]
        have hn := h a List.mem_cons_self
        have h128 : a < 128 := by rcases hn with y | y <;> omega
        have q := small_at lo1_all h128
        have q2 : lo1 a = a := by
          rcases hn with y | y
          · simpa [y.1, y.2] using q
          · simpa [y.1, y.2] using q
        rw [q2]
    exact q _ ha
  unfold nameB
  rw [if_neg (by omega), e1, if_neg (by decide), e2, if_neg (by decide), e0, e3, if_neg (by decide), e4]
  exact decide_eq_true rfl
theorem tag_name {z : Str} (h : Tag z) : nameB z = true := name_of h.lo (Nat.le_trans h.hi (by decide)) (fun c hc => .inl (h.low c hc)) fun c r e => h.low c (by rw [e]; exact List.mem_cons_self)
/-! ### is_name -/
/-! ### values that are no texts -/
inductive NoStr (H : Hp) : V → Prop where
  | non : NoStr H .non
  | bl (b : Bool) : NoStr H (.bl b)
  | int (i : Int) : NoStr H (.int i)
  | lst {a : Addr} {xs : List V} (e : H a = some (.lst xs)) : NoStr H (.ref a)
  | tup {a : Addr} {xs : List V} (e : H a = some (.tup xs)) : NoStr H (.ref a)
  | dK {a : Addr} {kvs : List (Key × V)} (e : H a = some (.dK kvs)) : NoStr H (.ref a)
theorem NoStr.same {H H' : Hp} {v : V} (s : Same H H') (h : NoStr H v) : NoStr H' v := by
  cases h with
  | non => exact .non
  | bl b => exact .bl b
  | int i => exact .int i
  | lst e => exact .lst (s _ _ e)
  | tup e => exact .tup (s _ _ e)
  | dK e => exact .dK (s _ _ e)
theorem NoStr.ty {K : PySem.W.Frag} {H : Hp} {v : V} (h : NoStr H v) : ∃ t, TyX K H v t ∧ PySem.W.kitOne K t (.type "str") = some false := by
  cases h with
  | non => exact ⟨_, .base .non, kit_ty (by decide +kernel)⟩
  | bl b => exact ⟨_, .base (.bl b), kit_ty (by decide +kernel)⟩
  | int i => exact ⟨_, .base (.int i), kit_ty (by decide +kernel)⟩
  | lst e => exact ⟨_, .base (.lst e), kit_ty (by decide +kernel)⟩
  | tup e => exact ⟨_, .base (.tup e), kit_ty (by decide +kernel)⟩
  | dK e => exact ⟨_, .base (.dK e), kit_ty (by decide +kernel)⟩
def nameV : V → Bool
  | .str z => nameB z
  | _ => false
theorem NoStr.name {H : Hp} {v : V} (h : NoStr H v) : nameV v = false := by
  cases h <;> rfl
/-- a value that is_name may be asked of -/
def VOk (H : Hp) (v : V) : Prop := (∃ z, v = .str z ∧ z.length ≤ sizeLine) ∨ NoStr H v
theorem VOk.same {H H' : Hp} {v : V} (s : Same H H') (h : VOk H v) : VOk H' v := h.elim .inl fun n => .inr (n.same s)
def spIsName : Sp := fun vs H Q _ => ∃ v, vs = [v] ∧ VOk H v ∧ Q (.bl (nameV v)) H
section
variable {w : World} {P : Program}
variable {base : Heap} {mg : Str → Option Value} {K : PySem.W.Frag}
theorem scIsName : FnScope ["value"] ["value"] (defScope sIsName) := ⟨rfl, rfl, rfl, by decide +kernel, rfl, by decide +kernel, by decide +kernel⟩
theorem ok_isname {f : Addr} {fd : FuncData} (F : Fun K "is_name" "is_name" sIsName f fd) (T : Free mg) (mgL : ∃ t, mg "LONGEST_NAME" = some (.int 8 t)) : FnOk P w K mg base CX0 1 f fd ["value"] spIsName := by
  obtain ⟨tL, mgL⟩ := mgL
  refine F.ok scIsName (fun vs H Q E h => ?_) (fun cdv A outer s H vs Q E hr h => ?_)
  · obtain ⟨v, rfl, _⟩ := h
    rfl
  · obtain ⟨v, rfl, h⟩ := h
    refine ⟨_, pss_cons (ps_if (PW.pt (pw_or (pt_not (pt_val (pe_callB call_isi (by rfl) T.isinstance (by decide +kernel) (pa_cons (pv 0) (pa_cons (pe_bltn (v := .ty "str") (u := .type "str") (by rfl) T.str (by decide +kernel) rfl) pa_nil)))))
          (pw_or1 (pt_cmpR op_gt (pe_callB call_len_str (by rfl) T.len PySem.boot_len (pa_cons (pv 0) pa_nil)) (pe_glob (v := .int 8) rfl mgL ⟨_, rfl⟩) (nomark _))))) (pss_one (ps_ret pe_bl)) pss_nil)
      (pss_cons (ps_if (PW.pt (pw_or (pt_not (pt_val (pe_m0 PySem.F.slot_str_isascii PySem.F.type_str_isascii mt_isascii (pv 0)))) (pw_or1 (pt_not (pt_val (pe_m0 PySem.F.slot_str_isalnum PySem.F.type_str_isalnum mt_isalnum (pv 0))))))) (pss_one (ps_ret pe_bl)) pss_nil)
      (pss_one (ps_ret (pe_and (pe_m0 PySem.F.slot_str_isalpha PySem.F.type_str_isalpha mt_isalpha (pe_item_str (pv 0) pe_int (fun _ _ => rfl))) (pe_one (pe_cmpR op_eq (pv 0) (pe_lower (pv 0)) (nomark _))))))), ?_⟩
    obtain ⟨hv, q⟩ := h
    rcases hv with ⟨z, rfl, hz⟩ | n
    · refine ⟨_, rfl, _, _, _, _, true, rfl, .ty _, .base (.str z), kit_ty (by decide +kernel), true, rfl, ?_⟩
      refine iteF ?_
      refine ⟨_, rfl, z, rfl, hz, _, _, rfl, rfl, _, rfl, ?_⟩
      have q : Q (.bl (nameB z)) H := q
      unfold nameB at q
      by_cases h8 : 8 < z.length
      · rw [decide_eq_true (by omega)]
        rw [if_pos h8] at q
        exact iteT q
      rw [decide_eq_false
          (by omega)]
      rw [if_neg h8] at q
      refine iteF ?_
      refine ⟨_, rfl, ⟨_, rfl⟩, _, rfl, rfl, True.intro, _, rfl, ?_⟩
      cases ea : Txt.isascii z with
      | false =>
        rw [ea, if_pos rfl] at q
        exact iteT (iteT q)
      | true =>
        rw [ea, if_neg (by decide)] at q
        refine iteF ?_
        refine ⟨_, rfl, ⟨_, rfl⟩, _, rfl, rfl, True.intro, _, rfl, ?_⟩
        cases en : Txt.isalnum z with
        | false =>
          rw [en, if_pos rfl] at q
          exact iteT q
        | true =>
          rw [en, if_neg (by decide)] at q
          refine iteF ?_
          have hpos : 0 < z.length := by
            have e : (decide (z.length > 0) && z.cps.all Unicode.isAlnum) = true := en
            simp only [Bool.and_eq_true, decide_eq_true_eq] at e
            exact e.1
          have hcp : z.cps[(0 : Int).toNat]? = some (z.cps.getD 0 0) := by
            have h0 : 0 < z.cps.size := hpos
            show z.cps[0]? = _
            rw [Array.getD_eq_getD_getElem?, Array.getElem?_eq_getElem h0]
            rfl
          refine ⟨_, rfl, z, 0, z.cps.getD 0 0, rfl, rfl, by decide, by decide, by omega, hcp, ⟨_, rfl⟩, _, rfl, rfl, True.intro, _, rfl, ?_⟩
          cases el : Txt.isalpha (sg (z.cps.getD 0 0)) with
          | false =>
            rw [el, if_pos rfl] at q
            exact iteF q
          | true =>
            rw [el, if_neg (by decide)] at q
            refine iteT ?_
            refine ⟨_, rfl, _, rfl, ⟨_, rfl⟩, _, rfl, rfl, by omega, rfl, ?_⟩
            have e : decide (V.str z = V.str (Txt.lower z)) = decide (z = Txt.lower z) := by
              by_cases h : z = Txt.lower z
              · rw [decide_eq_true h, decide_eq_true (congrArg V.str h)]
              · rw [decide_eq_false h, decide_eq_false fun y => h (V.str.inj y)]
            show Q (V.bl (decide (V.str z = V.str (Txt.lower z)))) H
            rw [e]
            exact q
    · obtain ⟨t, ty, kt⟩ := n.ty (K := K)
      rw [n.name] at q
      refine ⟨_, rfl, _, _, _, _, false, rfl, .ty _, ty, kt, false, rfl, ?_⟩
      exact iteT (iteT q)
end
end K1
namespace K1
open PySem PySem.Spec PyProof.Rows L2 EnT
/-! ### wrong_at -/
def wrongIx (xs : List V) : Option Nat := xs.findIdx? fun v => !nameV v
def optInt : Option Nat → V
  | some i => .int i
  | none => .non
theorem wrong_some {xs : List V} {i : Nat} {v : V} (hv : xs[i]? = some v) (hn : nameV v = false) (h : (xs.take i).all nameV = true) : wrongIx xs = some i := by
  unfold wrongIx
  rw [List.findIdx?_eq_some_iff_getElem]
  obtain ⟨hi, e⟩ := List.getElem?_eq_some_iff.mp hv
  refine ⟨hi, by rw [e, hn]; rfl, fun j hj => ?_⟩
  have q := (List.all_eq_true.mp h) (xs[j]'(Nat.lt_trans hj hi)) (List.mem_iff_getElem.mpr ⟨j, by rw [List.length_take]; omega, by rw [List.getElem_take]⟩)
  rw [q]
  decide
theorem wrong_none {xs : List V} (h : xs.all nameV = true) : wrongIx xs = none := by
  unfold wrongIx
  rw [List.findIdx?_eq_none_iff]
  intro x hx
  rw [(List.all_eq_true.mp h) x hx]
  rfl
theorem take_all_succ {xs : List V} {i : Nat} {v : V} (hv : xs[i]? = some v) (hn : nameV v = true) (h : (xs.take i).all nameV = true) : (xs.take (i + 1)).all nameV = true := by
  rw [List.take_succ, hv, List.all_append, h]
  simp [hn]
def spWrongT (K : PySem.W.Frag) : Sp := fun vs H Q _ => ∃ (a : Addr) (xs : List V), vs = [.ref a] ∧ SqT K H a xs ∧ (∀ v ∈ xs, VOk H v) ∧ ∀ H', Same H H' → Q (optInt (wrongIx xs)) H'
def spWrongL (K : PySem.W.Frag) : Sp := fun vs H Q _ => ∃ (a : Addr) (xs : List V), vs = [.ref a] ∧ SqL K H a xs ∧ (∀ v ∈ xs, VOk H v) ∧ ∀ H', Same H H' → Q (optInt (wrongIx xs)) H'
theorem sameT {K : PySem.W.Frag} {H H' : Hp} {a : Addr} {xs : List V} (e : Same H H') (h : SqT K H a xs) : SqT K H' a xs := by
  rcases h with h | h
  · rcases h with h | ⟨o, h⟩
    · exact .inl (.inl (e _ _ h))
    · exact .inl (.inr
          ⟨o, e _ _ h⟩)
  · exact .inr h
section
variable {w : World} {P : Program}
variable {base : Heap} {mg : Str → Option Value} {K : PySem.W.Frag}
theorem scWrong : FnScope ["values", "at", "value"] ["values"] (defScope sWrong) := ⟨rfl, rfl, rfl, by decide +kernel, rfl, by decide +kernel, by decide +kernel⟩
theorem ok_wrongT {f fN : Addr} {fd fdN : FuncData} (F : Fun K "wrong_at" "wrong_at" sWrong f fd) (T : Free mg) (GN : FnOk P w K mg base CX0 1 fN fdN ["value"] spIsName) (FN : Fun K "is_name" "is_name" sIsName fN fdN) (mgN : mg "is_name" = some (.ref fN)) :
    FnOk P w K mg base CX0 2 f fd ["values"] (spWrongT K) := by
  have bN : Binds K fdN ["value"] [] := FN.binds (ps := ["value"]) fun _ _ _ _ _ _ us hl => match us, hl with | [_], _ => rfl
  refine F.ok scWrong (fun vs H Q E h => ?_) (fun cdv A outer s H vs Q E hr h => ?_)
  · obtain ⟨a, xs, rfl, _⟩ := h
    rfl
  · obtain ⟨a, xs, rfl, hS, hv, q⟩ := h
    refine ⟨_, pss_cons (ps_for PassesOwn.never rfl (pi_enumT (by rfl) T.enumerate (pa_cons (pv 0) pa_nil)) (pg_tup rfl (pgs_cons (pg_name (i := 1) scWrong.nd rfl (.inl rfl)) (pgs_cons (pg_name (i := 2) scWrong.nd rfl (.inl rfl)) pgs_nil)))
        (pss_one (ps_if (pt_not (pt_val (pe_call GN hr rfl mgN FN.kp bN .nil pass0 (pa_cons (pv 2) pa_nil)))) (pss_one (ps_ret (pv 1))) pss_nil)))
      (pss_one (ps_ret pe_non)), ?_⟩
    refine ⟨_, rfl, a, xs, rfl, hS, ?_⟩
    refine for_it (walk_enumT (xs := xs)) (fun i σ H' => Same H H' ∧ (xs.take i).all nameV = true ∧ ∃ o1 o2 : Option V, σ = [some (.ref a), o1, o2]) ?_ ?_ ?_ ?_
    · exact ⟨Same.refl H, rfl, none, none, rfl⟩
    · rintro i σ H' hi ⟨sm, _⟩
      exact sameT sm hS
    · rintro i x σ H1 H2 hi ⟨sm, ha, o1, o2, rfl⟩ ⟨t, y1, y2, rfl, nt, rfl, e1, e2⟩
      cases e1
      refine ⟨t, _, rfl, SqT.of upd_same, rfl, _, _, rfl, _, _, rfl, rfl, ?_⟩
      have sm2 : Same H (upd H1 t (.tup [.int (i : Nat), y2])) := sm.trans (same_upd nt)
      have hm : y2 ∈ xs := List.mem_of_getElem? e2
      refine ⟨_, rfl, _, rfl, (hv y2 hm).same sm2, _, rfl, ?_⟩
      cases en : nameV y2 with
      | false =>
        refine iteT ⟨_, rfl, ?_⟩
        have z := q _ sm2
        rw [wrong_some e2 en ha] at z
        exact z
      | true =>
        refine iteF ⟨sm2, take_all_succ e2 en ha, _, _, rfl⟩
    · rintro σ H' ⟨sm, ha, o1, o2, rfl⟩
      have z := q _ sm
      rw [List.take_length] at ha
      rw [wrong_none ha] at z
      exact z
theorem ok_wrongL {f fN : Addr} {fd fdN : FuncData} (F : Fun K "wrong_at" "wrong_at" sWrong f fd) (T : Free mg) (GN : FnOk P w K mg base CX0 1 fN fdN ["value"] spIsName) (FN : Fun K "is_name" "is_name" sIsName fN fdN) (mgN : mg "is_name" = some (.ref fN)) :
    FnOk P w K mg base CX0 2 f fd ["values"] (spWrongL K) := by
  have bN : Binds K fdN ["value"] [] := FN.binds (ps := ["value"]) fun _ _ _ _ _ _ us hl => match us, hl with | [_], _ => rfl
  refine F.ok scWrong (fun vs H Q E h => ?_) (fun cdv A outer s H vs Q E hr h => ?_)
  · obtain ⟨a, xs, rfl, _⟩ := h
    rfl
  · obtain ⟨a, xs, rfl, hS, hv, q⟩ := h
    refine ⟨_, pss_cons (ps_for PassesOwn.never rfl (pi_enum (by rfl) T.enumerate (pa_cons (pv 0) pa_nil)) (pg_tup rfl (pgs_cons (pg_name (i := 1) scWrong.nd rfl (.inl rfl)) (pgs_cons (pg_name (i := 2) scWrong.nd rfl (.inl rfl)) pgs_nil)))
        (pss_one (ps_if (pt_not (pt_val (pe_call GN hr rfl mgN FN.kp bN .nil pass0 (pa_cons (pv 2) pa_nil)))) (pss_one (ps_ret (pv 1))) pss_nil)))
      (pss_one (ps_ret pe_non)), ?_⟩
    refine ⟨_, rfl, a, xs, rfl, hS, ?_⟩
    refine for_it (walk_enum (xs := xs)) (fun i σ H' => Same H H' ∧ (xs.take i).all nameV = true ∧ ∃ o1 o2 : Option V, σ = [some (.ref a), o1, o2]) ?_ ?_ ?_ ?_
    · exact ⟨Same.refl H, rfl, none, none, rfl⟩
    · rintro i σ H' hi ⟨sm, _⟩
      exact sm.seq hS
    · rintro i x σ H1 H2 hi ⟨sm, ha, o1, o2, rfl⟩ ⟨t, y1, y2, rfl, nt, rfl, e1, e2⟩
      cases e1
      refine ⟨t, _, rfl, SqT.of upd_same, rfl, _, _, rfl, _, _, rfl, rfl, ?_⟩
      have sm2 : Same H (upd H1 t (.tup [.int (i : Nat), y2])) := sm.trans (same_upd nt)
      have hm : y2 ∈ xs := List.mem_of_getElem? e2
      refine ⟨_, rfl, _, rfl, (hv y2 hm).same sm2, _, rfl, ?_⟩
      cases en : nameV y2 with
      | false =>
        refine iteT ⟨_, rfl, ?_⟩
        have z := q _ sm2
        rw [wrong_some e2 en ha] at z
        exact z
      | true =>
        refine iteF ⟨sm2, take_all_succ e2 en ha, _, _, rfl⟩
    · rintro σ H' ⟨sm, ha, o1, o2, rfl⟩
      have z := q _ sm
      rw [List.take_length] at ha
      rw [wrong_none ha] at z
      exact z
end
end K1
/-! static methods called through their class; instances made by a starred or an empty argument list -/
namespace SmX
open PySem PySem.Spec PyProof.Rows L2 StX ClX
section
variable {X : Cx} {CX : CXT} {k i : Nat} {f C : Addr} {sp : Sp} {E : XK}
    {x m : Str} {e o : Expr} {es : List Expr} {te ta : TE} {t : TA} {p sp_ pos apos : Pos}
/-- C(*y) -/
theorem pe_makeS1 (M : Mk X.K C f) (F : FnR X.prog X.w X.K X.mg X.base CX k f sp) (hr : Room (k + 1) X.A) (hg : Gl X x) (hm : X.mg x = some (.ref C)) (hx : Passes CX X E) (he : PE X e te) (hd : (x == ("__debug__" : Str)) = false := by decide)
    (hst : starEach [.Starred e sp_] X.env
        = [(true, eval e X.env)] := by rfl) :
    PE X (.Call (.Name x p) [.Starred e sp_] [] pos) (fun σ H Q => te σ H fun y H1 => ∃ a xs, y = V.ref a ∧ (SqT X.K H1 a xs ∨ SqL X.K H1 a xs) ∧ ∀ x dx, H1 x = Option.none → H1 dx = Option.none → dx ≠ x →
      sp (V.ref x :: xs) (upd (upd H1 dx (.own x)) x (.ins C dx [])) (fun v H2 => v = .non ∧ Q (.ref x) H2) E) := by
  refine ⟨fun pins s σ H Q Iv hyp => ?_⟩
  refine wpAny_Call_Name_kw (ld_glob Iv hg hm ?_ hd)
  refine PySem.W.callWith_S (h₀ := X.base) Iv.ok.mod.kin M.kp (thn (he.run pins s σ H _ Iv hyp) fun v st1 ⟨y, H1, Iv1, relY, a, xs, ey, hxs, cont⟩ => ?_) hst
  subst ey
  obtain rfl : v = Value.ref a := relY
  exact star_any Iv1 hxs fun us st2 Iv2 rv => ⟨Iv2.kIn, run_makeR M F hr hx Iv2 rv cont⟩
/-- C() -/
theorem pe_makeR0 (M : Mk X.K C f) (F : FnR X.prog X.w X.K X.mg X.base CX k f sp) (hr : Room (k + 1) X.A) (hg : Gl X x) (hm : X.mg x = some (.ref C)) (hx : Passes CX X E) (hd : (x == ("__debug__" : Str)) = false := by decide) :
    PE X (.Call (.Name x p) [] [] pos) (tMakeR C sp E tNil) := by
  refine ⟨fun pins s σ H Q Iv hyp => ?_⟩
  refine wpAny_Call_Name_kw (ld_glob Iv hg hm ?_ hd)
  exact PySem.W.callWith_K0 Iv.kIn M.kp (run_makeR (us := []) (vs := []) M F hr hx Iv .nil hyp)
end
/-- C.m is a staticmethod: its record at p, its def at g -/
structure SMet (K : PySem.W.Frag) (C : Addr) (mc : Value) (m : Str) (p g : Addr) : Prop where
  at_ : PySem.W.findCls K (.ref C) mc m = some (.get (.builtin "staticmethod.__get__") (.ref p) .none (.ref C))
  rc : ∃ rest, PySem.W.recIn K p "staticmethod" = some (.ref g :: rest)
  kp : PySem.W.keepIn K (.ref g) = true
def tSMeth (C : Addr) (sp : Sp) (E : XK) (ta : TE) (t : TA) : TE := fun σ H Q => ta σ H fun x H1 => x = .ref C ∧ t σ H1 fun vs H2 => sp vs H2 Q E
def tSMethK (C : Addr) (m : Nat) (sp : Sp) (gV : List V → List V → List V) (E : XK) (ta : TE) (tk : TA) : TE := fun σ H Q => ta σ H fun x H1 => x = .ref C ∧ tk σ H1 fun zs H2 => zs.length = m ∧ sp (gV [] zs) H2 Q E
section
variable {X : Cx} {CX : CXT} {k : Nat} {C p g : Addr} {mc : Value} {sp : Sp} {E : XK} {o e : Expr} {es : List Expr} {f m : Str} {pos apos : Pos} {ta : TE} {t tk : TA} {pl : Sem Bool} {pins : List (Addr × Obj)} {σ : L2.St} {H : Hp} {s : Shared} {A : Around} {E' : Value → Shared → Prop}
theorem getmethsm_ok {Q : Value × List Value → Shared → Prop} (Iv : Inv X pins σ H s) (r : CRead X.K C mc) (k : SMet X.K C mc m p g) (hyp : ∀ s', Inv X pins σ H s' → Q (.ref g, []) s') : wpAny (model X.prog X.w) A (getMethod (.ref C) m pl) Q E' s := by
  obtain ⟨rest, hp⟩ := k.rc
  refine PySem.W.method_cls Iv.kIn r.ga (PySem.W.cls_bind Iv.kIn r.rd k.at_ ?_)
  exact wpAny_call (PySem.W.sm_get (s := { s with toks := s.toks + 1 }) Iv.kIn hp (PySem.W.handed_on rfl (hyp _ (Iv.tok _))))
theorem pe_smeth (he : PE X o ta) (r : CRead X.K C mc) (c : SMet X.K C mc m p g) (F : FnR X.prog X.w X.K X.mg X.base CX k g sp) (hr : Room k X.A) (hx : Passes CX X E) (ha : PA X (e :: es) t)
    (hst : starEach (e :: es) X.env = (false, eval e X.env) :: starEach es
        X.env := by rfl) (hpl : (backTo pos (starEach es X.env)).any (·.1) = false := by rfl)
    (ht : eval (.Call (.Attribute o
        m apos) (e :: es) [] pos) X.env = (do
      let ov ← eval o X.env
      standAt apos.atName
      let (f, first) ← holding
          [ov] (getMethod ov m pl)
      callWith pos f first (backTo pos (starEach (e :: es)
          X.env)) (backToKw pos (keywordEach [] X.env))) := by rfl) :
    PE X (.Call (.Attribute o m apos) (e :: es) [] pos) (tSMeth C sp E ta t) := by
  refine ⟨fun pins s σ H Q Iv hyp => ?_⟩
  refine PySem.W.methodCall_KW (pl := pl) (thn (he.run pins s σ H _ Iv hyp) fun usV st1 ⟨x, H1, Iv1, relX, ex, cont⟩ => ?_) ht
  subst ex
  obtain rfl : usV = Value.ref C := relX
  refine getmethsm_ok Iv1 r c fun st2 Iv2 => ?_
  refine PySem.W.callWith_K (h₀ := X.base) Iv.ok.mod.kin c.kp (thn (ha.run pos pins st2 σ H1 _ Iv2 cont) fun us st3 ⟨vs, H2, Iv3, rv, q2⟩ => ⟨Iv3.kIn, ?_⟩) hst hpl
  exact wpAny_call (run_fnR F hr hx Iv3 rv q2)
theorem pe_smethK {fd : FuncData} {ps ks : List Str} {kws : List Keyword} {gg : List Value → List Value → List Value} {gV : List V → List V → List V} (he : PE X o ta) (r : CRead X.K C mc) (c : SMet X.K C mc m p g) (F : FnOk X.prog X.w X.K X.mg X.base CX k g fd ps sp) (hb : KBn X.K fd ps 0 ks gg gV) (hr : Room k X.A) (hx : Passes CX X E) (hkw : PK X kws tk)
    (hall : (backToKw pos (keywordEach kws X.env)).all (·.1.isSome) = true := by rfl) (hks : (backToKw pos (keywordEach kws X.env)).filterMap (·.1) = ks := by rfl)
    (hpl : ((backTo pos (starEach [] X.env)).any (·.1) || (backToKw pos (keywordEach kws X.env)).any (·.1.isNone)) = false := by rfl)
    (ht : eval (.Call (.Attribute o m apos) [] kws pos) X.env = (do
      let ov ← eval o X.env
      standAt apos.atName
      let (f, first) ← holding
          [ov] (getMethod ov m pl)
      callWith pos f first (backTo pos (starEach [] X.env)) (backToKw pos (keywordEach kws X.env))) := by rfl) :
    PE X (.Call (.Attribute o m apos) [] kws pos) (tSMethK C ks.length sp gV E ta tk) := by
  refine ⟨fun pins s σ H Q Iv hyp => ?_⟩
  refine PySem.W.methodCall_KW (pl := pl) (thn (he.run pins s σ H _ Iv hyp) fun usV st1 ⟨x, H1, Iv1, relX, ex, cont⟩ => ?_) ht
  subst ex
  obtain rfl : usV = Value.ref C := relX
  refine getmethsm_ok Iv1 r c fun st2 Iv2 => ?_
  refine PySem.W.callWith_KW0 (h₀ := X.base) Iv.ok.mod.kin c.kp hall ?_ hpl
  refine thn (hkw.run pos pins st2 σ H1 _ Iv2 cont) fun ws st3 ⟨zs, H2, Iv3, rz, l2, q2⟩ => ⟨Iv3.kIn, ?_⟩
  rw [hks]
  exact run_fnN (us := []) (vs := []) (n := 0) F hr hb hx Iv3 .nil rz rfl l2 q2
end
end SmX
/-! sorted(set(texts)) -/
namespace TxS
open PySem PySem.Spec
open PyProof.Rows L2
/-- a set whose table can be walked; its members and their hashes are ms -/
def Tbl (w : World) (hp : Heap) (S : Addr) (ms : Array (Int × Value)) : Prop :=
  ∃ (ob : Obj) (ep : Nat) (tb : SetTable), hp.get? S = some ob ∧ ob.ExactSet ∧ ob.data = .set ms ep tb ∧ ms.size < scanBound ∧ tb.fits ms.size = true ∧ Ris tb.place.toList ∧ (w.params.followText "set-order" = true ∨ tb.led = true)
theorem Tbl.moved {w : World} {hp hp' : Heap} {S : Addr} {ms : Array (Int × Value)} (T : Tbl w hp S ms) (kp : ∀ ob, hp.get? S = some ob → hp'.get? S = some ob) : Tbl w hp' S ms := by
  obtain ⟨ob, ep, tb, h0, rest⟩ := T
  exact ⟨ob, ep, tb, kp ob h0, rest⟩
section
variable {P : Program} {w : World} {A : Around} {Er : Value → Shared → Prop} {st : Shared} {S : Addr}
theorem gave_ok {Q1 : Unit → Shared → Prop} {s1 : Shared} (gv : Bool) (cont : Q1 () s1) : wpAny (model P w) A (match gv with | true => rule "set.scan.the-table-gave-way" | false => pure ()) Q1 Er s1 := by
  cases gv with
  | true => exact wpAny_rule cont
  | false => exact wpAny_pure cont
/-- the table laid, and laid anew where it is too full -/
theorem tail_ok {ms ms1 : Array (Int × Value)} {ob : Obj} {ep : Nat} {tb t1 : SetTable} (h0 : st.heap.get? S = some ob) (hx : ob.ExactSet) (hd : ob.data = .set ms ep tb) (b1 : ms1.size < scanBound) (f1 : t1.fits ms1.size = true) (r1 : Ris t1.place.toList)
    (l1 : w.params.followText "set-order" = true ∨ t1.led = true) (wd : Bool) {R : Option Bool → Shared → Prop}
    (hR : ∀ hp' ms', Heap.SameBut S st.heap hp' → Tbl w hp' S ms' → ms'.toList.Perm ms1.toList → R (some true) { st with heap := hp' }) :
    wpAny (model P w) A (do
      storeSet S ms1 t1
      if (!wd && t1.tooFull) = true then do
        (match (relayAll t1 ms1 (SetTable.grown ms1.size)).2.2 with | true => rule "set.scan.the-table-gave-way" | false => pure ())
        storeSet S (relayAll t1 ms1 (SetTable.grown ms1.size)).1 (relayAll t1 ms1 (SetTable.grown ms1.size)).2.1
        pure (some true)
      else pure (some true)) R Er st := by
  refine wpAny_bind (wpAny_storeSet_of h0 hd ?_ (fits_of_scanBound b1))
  have a1 := store_at (es' := ms1) (t' := t1) h0 hd
  have k1 := Heap.SameBut.update st.heap S (Obj.putSet ms1 t1)
  by_cases full : (!wd && t1.tooFull) = true
  · rw [if_pos full]
    have p2 := relayAll_perm t1 ms1 (SetTable.grown ms1.size)
    have n2 : (relayAll t1 ms1 (SetTable.grown ms1.size)).1.size = ms1.size := by
      have cont := p2.length_eq
      simpa using cont
    refine wpAny_bind (gave_ok _ ?_)
    refine wpAny_bind (wpAny_storeSet_of a1 rfl ?_ (fits_of_scanBound (by rw [n2]; exact b1)))
    have a2 := store_at (es' := (relayAll t1 ms1 (SetTable.grown ms1.size)).1) (t' := (relayAll t1 ms1 (SetTable.grown ms1.size)).2.1) a1 rfl
    refine wpAny_pure (hR _ _ (k1.trans (Heap.SameBut.update _ S _)) ⟨_, _, _, a2, hx, rfl, by rw [n2]; exact b1, relayAll_fits t1 ms1 _, relayAll_ris t1 ms1 _, ?_⟩ p2)
    rw [relayAll_led t1 ms1 _]
    exact l1
  · rw [if_neg full]
    exact wpAny_pure (hR _ _ k1 ⟨_, _, _, a1, hx, rfl, b1, f1, r1, l1⟩ .rfl)
variable {κ : Type} [DecidableEq κ] [BEq κ] [LawfulBEq κ] {knd : KeyKind P w κ}
theorem add_ok {ms : Array (Int × Value)} {k : κ} {v : Value} {Q : Bool → Shared → Prop} (T : Tbl w st.heap S ms) (el : ElemsOf knd ms.toList) (hk : knd.is k v = true) (sc : v.scannable = true) (room : ms.size + 1 < scanBound)
    (old : (∃ e ∈ ms.toList, knd.is k e.2 = true) → Q false st)
    (new : (∀ e ∈ ms.toList, knd.is k e.2 = false) → ∀ hp' ms', Heap.SameBut S st.heap hp' → Tbl w hp' S ms' → ms'.toList.Perm ((knd.hash k, v) :: ms.toList) → Q true { st with heap := hp' }) :
    wpAny (model P w) A (setAddHashed S v (knd.hash k)) Q Er st := by
  obtain ⟨ob, ep, tb, h0, hx, hd, b0, f0, r0, l0⟩ := T
  unfold setAddHashed
      setAddHashedIn
  refine wpAny_holding (wpAny_bind (wpAny_setState_of h0 hd f0 ?_))
  dsimp only
  rw [byScan_of sc b0 el]
  simp only [↓reduceIte]
  unfold setAddByScan
  refine wpAny_bind (wpAny_bind (wpAny_rule (wpAny_bind (wpAny_setScan_of hk h0 hd f0 el ?_))))
  cases fdA : List.findIdx? (fun e => knd.is k e.2) ms.toList with
  | some j =>
    obtain ⟨jA, pA, _⟩ := List.findIdx?_eq_some_iff_getElem.mp fdA
    exact wpAny_pure (wpAny_pure (old ⟨_, List.getElem_mem jA, pA⟩))
  | none =>
    have none_ : ∀ e ∈ ms.toList, knd.is k e.2 = false := fun e he => List.findIdx?_eq_none_iff.mp fdA e he
    dsimp only
    have pm := layNew_perm tb ms (knd.hash k) v
    have hf1 := layNew_fits tb ms (knd.hash k) v
    have hr1 := layNew_ris tb ms (knd.hash k) v r0
    have hl1 := layNew_led tb ms (knd.hash k) v
    generalize layNew tb ms (knd.hash k) v = Z at pm hf1 hr1 hl1 ⊢
    obtain ⟨ms1, t1, wd, gv⟩ := Z
    dsimp only at pm hl1 hr1 hf1 ⊢
    have pc : ms1.toList.Perm ((knd.hash k, v) :: ms.toList) := by
      rw [Array.toList_push] at pm
      exact pm.trans (List.perm_append_singleton _ _)
    have n1 : ms1.size = ms.size + 1 := by
      have cont := pc.length_eq
      simpa using cont
    have fin : ∀ hp' ms', Heap.SameBut S st.heap hp' → Tbl w hp' S ms' → ms'.toList.Perm ms1.toList → Q true { st with heap := hp' } := fun hp' ms' sb T' pp => new none_ hp' ms' sb T' (pp.trans pc)
    have led1 : w.params.followText "set-order" = true ∨ t1.led = true := by
      rw [hl1]
      exact l0
    refine wpAny_bind (gave_ok _ ?_)
    by_cases pl : t1.plain = true
    · rw [if_pos pl, hashByValue_scannable 8 sc]
      refine wpAny_bind
          (wpAny_pure ?_)
      by_cases pk : plainKind v = true
      · rw [pk]
        exact tail_ok h0 hx hd (by rw [n1]; exact room) hf1 hr1 led1 wd fun hp' ms' sb T' pp => wpAny_pure (fin hp' ms' sb T' pp)
      · have pk' : plainKind v = false := by simpa using pk
        rw [pk']
        exact tail_ok (t1 := { t1 with plain := false }) h0 hx hd (by rw [n1]; exact room) (SetTable.fits_plain_off hf1) hr1 led1 wd fun hp' ms' sb T' pp => wpAny_pure (fin hp' ms' sb T' pp)
    · rw [if_neg pl]
      refine wpAny_bind
          (wpAny_pure ?_)
      exact tail_ok h0 hx hd (by rw [n1]; exact room) hf1 hr1 led1 wd fun hp' ms' sb T' pp => wpAny_pure (fin hp' ms' sb T' pp)
end
/-! ### texts -/
def txt (e : Int × Value) : Str := match e.2 with
  | .str z _ => z
  | _ => Str.empty
def Txts (P : Program) (w : World) (ms : List (Int × Value)) : Prop := ∀ e ∈ ms, ∃ z t, e.2 = Value.str z t ∧ e.1 = (PySem.strKind P w).hash z
theorem Txts.el {P : Program} {w : World} {ms : List (Int × Value)} (g : Txts P w ms) : ElemsOf (PySem.strKind P w) ms := fun e he => by
  obtain ⟨z, t, e1, e2⟩ := g e he
  exact ⟨⟨z, by rw [e1]; exact strKind_is P w z t, e2⟩, by rw [e1]; rfl⟩
theorem is_txt {P : Program} {w : World} {e : Int × Value} {z y : Str} {t : Tok} (e1 : e.2 = Value.str z t) : (PySem.strKind P w).is y e.2 = true ↔ txt e = y := by
  have cont : txt e = z := by
    unfold txt
    rw [e1]
  rw [cont]
  constructor
  · intro hyp
    have h2 := strKind_is P w z t
    rw [← e1] at h2
    exact (PySem.strKind P w).inj _ _ _ h2 hyp
  · rintro rfl
    rw [e1]
    exact strKind_is P w z t
/-- the set at S holds just the texts in zs -/
def SetTx (P : Program) (w : World) (hp : Heap) (S : Addr) (zs : List Str) (n : Nat) : Prop :=
  ∃ ms, Tbl w hp S ms ∧ Txts P w ms.toList ∧ (ms.toList.map txt).Nodup ∧ (∀ z, z ∈ ms.toList.map txt ↔ z ∈ zs) ∧ ms.size ≤ n
theorem SetTx.moved {P : Program} {w : World} {hp hp' : Heap} {S : Addr} {zs : List Str} {n : Nat} (T : SetTx P w hp S zs n) (kp : ∀ ob, hp.get? S = some ob → hp'.get? S = some ob) : SetTx P w hp' S zs n := by
  obtain ⟨ms, T0, rest⟩ := T
  exact ⟨ms, T0.moved kp, rest⟩
section
variable {P : Program} {w : World} {A : Around} {Er : Value → Shared → Prop} {st : Shared} {S : Addr}
theorem add_text {zs : List Str} {n : Nat} {y : Str} {t : Tok} {Q : Bool → Shared → Prop} (T : SetTx P w st.heap S zs n) (room : n + 1 < scanBound)
    (cont : ∀ b hp', Heap.SameBut S st.heap hp' → SetTx P w hp' S (zs ++ [y]) (n + 1) → Q b { st with heap := hp' }) :
    wpAny (model P w) A (setAddHashed S (.str y t) ((PySem.strKind P w).hash y)) Q Er st := by
  obtain ⟨ms, T0, g, nd, hm, hn⟩ := T
  refine add_ok (knd := PySem.strKind P w) T0 g.el (strKind_is P w y t) rfl (by omega) (fun ⟨e, he, hy⟩ => ?_) (fun no hp' ms' sb T' pp => ?_)
  · obtain ⟨z, t', e1, _⟩ := g e he
    have ey := (is_txt (P := P) (w := w) e1).mp hy
    refine cont false st.heap (Heap.SameBut.refl S st.heap) ⟨ms, T0, g, nd, fun x => ?_, by omega⟩
    rw [hm x, List.mem_append, List.mem_singleton]
    refine ⟨.inl, fun hyp => hyp.elim id fun h2 => ?_⟩
    rw [h2, ← ey]
    exact (hm _).mp (List.mem_map.mpr ⟨e, he, rfl⟩)
  · have nin : y ∉ ms.toList.map txt := fun hyp => by
      obtain ⟨e, he, ey⟩ := List.mem_map.mp hyp
      obtain ⟨z, t', e1, _⟩ := g e he
      have b := (is_txt (P := P) (w := w) (y := y) e1).mpr ey
      rw [no e he] at b
      cases b
    have pk : (ms'.toList.map txt).Perm (y :: ms.toList.map txt) := pp.map txt
    refine cont true hp' sb ⟨ms', T', fun e he => ?_, pk.nodup_iff.mpr (List.nodup_cons.mpr ⟨nin, nd⟩), fun x => ?_, ?_⟩
    · rcases List.mem_cons.mp (pp.mem_iff.mp he) with hyp | hyp
      · rw [hyp]
        exact ⟨y, t, rfl, rfl⟩
      · exact g e hyp
    · rw [pk.mem_iff, List.mem_cons, hm x, List.mem_append, List.mem_singleton]
      exact Or.comm
    · have cont := pp.length_eq
      rw [Array.length_toList, List.length_cons, Array.length_toList] at cont
      omega
/-- all that is walked is added -/
theorem loop_texts {Iv : Addr} {fp wr : List Addr} {G : Array GenState → Array GenState → Prop} {n : Nat} {Pv : Nat → Value → Prop} {Sv : Nat → Shared → Prop} {R : Result → Shared → Prop} (Wk : WalksS P w A.in1 Iv fp wr G n Pv Sv) (far : S ∉ fp)
    (zs : List Str) (hz : zs.length = n) (room : n + 1 < scanBound) (val : ∀ i v, Pv i v → ∃ z t, zs[i]? = some z ∧ v = Value.str z t)
    (fin : ∀ s1, Moved (S :: wr) G st s1 → SetTx P w s1.heap S zs n → R (.ok (.ret .none)) s1) :
    ∀ (left i : Nat) (s1 : Shared), i + left = n → Sv i s1 → Moved (S :: wr) G st s1 → SetTx P w s1.heap S (zs.take i) i → codeAny (model P w) A (.builtin "set.update.loop" ⟨[.ref S, .ref Iv], []⟩) R s1 := by
  have farw : S ∉ wr := fun hyp => far (Wk.sub _ hyp)
  have inc : ∀ b ∈ wr, b ∈ S :: wr := fun b hb => List.mem_cons_of_mem _ hb
  intro left
  induction left with
  | zero =>
    intro i s1 e hs mv T
    have ei : i = n := by omega
    subst ei
    refine codeAny_builtin
        F.entry_set_update_loop ?_
    rw [Around.under_plainId
        F.plain_set_update_loop _]
    show wpAny _ A.in1 (pyNext (.ref Iv) >>= _) _ _ s1
    refine wpAny_bind (Wk.done s1 _ _ hs fun s2 m2 => ?_)
    rw [List.take_of_length_le (by omega)] at T
    exact wpAny_pure (fin s2 (Moved.trans Wk.gtrans mv (m2.mono inc)) (T.moved fun ob hb => m2.heap S ob farw hb))
  | succ left ih =>
    intro i s1 e hs mv T
    refine codeAny_builtin
        F.entry_set_update_loop ?_
    rw [Around.under_plainId
        F.plain_set_update_loop _]
    show wpAny _ A.in1 (pyNext (.ref Iv) >>= _) _ _ s1
    refine wpAny_bind (Wk.item i s1 _ _ (by omega) hs fun v s2 hv hs2 m2 => ?_)
    obtain ⟨z, t, ez, rfl⟩ := val i v hv
    show wpAny _ A.in1 (holding [Value.str z t] (setAdd S (.str z t)) >>= _) _ _ s2
    refine wpAny_bind
        (wpAny_holding ?_)
    unfold setAdd
    refine wpAny_holding (wpAny_bind ((PySem.strKind P w).pyHash (k := z) (strKind_is P w z t) ?_))
    refine add_text (st := { s2 with toks := s2.toks + 1 }) (T.moved fun ob hb => m2.heap S ob farw hb) (by omega) fun b hp' sb T' => ?_
    have et : zs.take i ++ [z] = zs.take (i + 1) := by
      rw [List.take_add_one, ez]
      rfl
    rw [et] at T'
    have apart : ∀ b ∈ fp, b ≠ S := fun b hb hyp => far (hyp ▸ hb)
    refine wpAny_pure ⟨plainId_quiet F.plain_set_update_loop _, ih (i + 1) _ (by omega) (Wk.frame _ s2 _ _ hs2 (Nat.le_succ _) fun b hb ob eb => (sb.2 b (apart b hb)).trans eb) ?_ T'⟩
    exact Moved.trans Wk.gtrans mv ((m2.mono inc).then_heap (Nat.le_succ _) fun b ob hb eb => (sb.2 b fun hyp => hb (hyp ▸ List.mem_cons_self)).trans eb)
/-- a set as it is made -/
abbrev fresh0 (w : World) : Obj := { cls := .type "set", dict := none, data := .set #[] 0 (.fresh 0 0 (!w.params.followText "set-order")) }
theorem fresh_tx {hp : Heap} {zs : List Str} (hyp : hp.get? S = some (fresh0 w)) : SetTx P w hp S (zs.take 0) 0 := by
  refine ⟨#[], ⟨_, 0, _, hyp, ⟨rfl, rfl, rfl⟩, rfl, by decide, rfl, List.Pairwise.nil, ?_⟩, fun e he => by simp at he, by simp, fun z => by simp, Nat.le_refl _⟩
  show _ ∨ (!w.params.followText
      "set-order") = true
  cases w.params.followText "set-order" with
  | false => exact .inr rfl
  | true => exact .inl rfl
/-- what a list and a tuple have alike, to be made a set of -/
structure Src (P : Program) (w : World) (l : Addr) (items : Array Value) (T : String) (it : Obj) (Sv : Addr → Nat → Heap → Prop) (Is : Heap → Prop) : Prop where
  s1 : isSubtype (.type T) (.type "set") = pure false
  s2 : isSubtype (.type T) (.type "frozenset") = pure false
  nd : (Value.type T == Value.type "dict") = false
  beg : Begins (.ref l) it Is
  walk : ∀ (A' : Around) (Iv : Addr), A'.handled = none → l ≠ Iv → Walks P w A' Iv [Iv, l] [Iv] items.size (fun i v => items[i]? = some v) (Sv Iv)
  st0 : ∀ (Iv : Addr) (hp : Heap), Is hp → hp.get? Iv = some it → Sv Iv 0 hp
set_option maxHeartbeats 6400000 in
theorem call_set_any {l : Addr} {items : Array Value} {T : String} {it : Obj} {Sv : Addr → Nat → Heap → Prop} {Is : Heap → Prop} {zs : List Str} {Q : Value → Shared → Prop} {od : Option Addr} {dt : Data} {sl : Array (Option Value)} (src : Src P w l items T it Sv Is) (hh : A.handled = none)
    (hol : st.heap.get? l = some { cls := .type T, dict := od, data := dt, slots := sl }) (is0 : Is st.heap) (val : ∀ (i : Nat) (v : Value), items[i]? = some v → ∃ (z : Str) (t : Tok), zs[i]? = some z ∧ v = Value.str z t) (hz : zs.length = items.size) (room : items.size + 1 < scanBound)
    (cont : ∀ (hp' : Heap) (tk : Nat), SetTx P w hp' st.heap.objs.size zs items.size → (∀ b ob, st.heap.get? b = some ob → hp'.get? b = some ob) → Q (.ref st.heap.objs.size) { st with heap := hp', toks := tk }) :
    wpAny (model P w) A (call (.type "set") [.ref l]) Q Er st := by
  obtain ⟨c, tl, hmro⟩
      := F.called_set.mro
  have hmade :=
      F.called_set.made
  have hsub := F.called_set.sub
  refine wpAny_call
      (codeAny_of_tree ?_)
  show wpAny _ _ (callAny
      (.type "set") _) _ _ _
  refine wpAny_pure ⟨Code.quiet_builtin _ (by decide +kernel),
      codeAny_builtin F.entry_type_call ?_⟩
  rw [Around.under_plain (weight_type_call_type
      "set" [.ref l] []) rfl]
  have nt := F.called_set.notType
  have cc := F.called_set.canCreate
  have tc := F.typeCall_set_1 (.ref l)
  repeat (any_goals (first
      | assumption | wp_step))
  refine codeAny_mono (code_set_led1 (.ref l) (E := Er) (Q₁ := fun obj sx => obj = .ref st.heap.objs.size ∧ sx = { st with heap := st.heap.push (fresh0 w) }) ⟨rfl, rfl⟩) fun r sx hr => ?_
  cases r with
  | error e => exact hr
  | ok fl =>
    cases fl with
    | ret obj =>
      obtain ⟨rfl, rfl⟩ := hr
      have hS : (st.heap.push (fresh0 w)).get? st.heap.objs.size = some (fresh0 w) := Heap.get?_push_size _ rfl
      have hT : Shared.TypeIs { st with heap := st.heap.push (fresh0 w) } (.ref st.heap.objs.size) "set" := ⟨_, hS, rfl⟩
      have li := F.called_set.init.lookup
      have bi := F.called_set.init.bind (.ref st.heap.objs.size)
      repeat (any_goals (first
          | assumption | wp_step))
      refine codeAny_mono (codeAny_call_builtin (R := wants (fun r s₂ => r = .none ∧ ∃ hp' tk, s₂ = { st with heap := hp', toks := tk } ∧ SetTx P w hp' st.heap.objs.size zs items.size ∧ (∀ b ob, st.heap.get? b = some ob → hp'.get? b = some ob)) Er)
        F.called_set.init.plain F.entry_set_init (check_set_init_1 hT ?_)) fun r₂ s₂ hr₂ => ?_
      · have hol2 : (st.heap.push (fresh0 w)).get? l = some { cls := .type T, dict := od, data := dt, slots := sl } := Heap.get?_push_of_some _ hol
        have e1 := src.s1
        have e2 := src.s2
        have e3 := src.nd
        have is1 : Is (st.heap.push (fresh0 w)) := src.beg.keeps _ _ is0 fun b ob e => Heap.get?_push_of_some _ e
        unfold Builtin.«set.__init__» noKeywords
            Builtin.Frozenset.updateFrom
        generalize hPI : pyIter = PI
        wp_walk
        subst hPI
        refine src.beg.iter P w _ _ _ _ is1 ?_
        refine wpAny_bind
            (wpAny_runValue ?_)
        have ls : l < st.heap.objs.size := Heap.lt_size hol
        have z1 : (st.heap.push (fresh0 w)).objs.size = st.heap.objs.size + 1 := Heap.size_push ..
        have hget : ((st.heap.push (fresh0 w)).push it).get? st.heap.objs.size = some (fresh0 w) := Heap.get?_push_of_some _ hS
        have lI : l ≠ (st.heap.push (fresh0 w)).objs.size := by
          rw [z1]
          exact Nat.ne_of_lt (Nat.lt_succ_of_lt ls)
        refine loop_texts (st := { st with heap := (st.heap.push (fresh0 w)).push it }) ((src.walk _ _ (by simp [hh]) lI).toS) ?_ zs hz room val (fun s1 mv T' => ?_) items.size 0 _ (by omega) ?_ ⟨fun _ _ _ e => e, rfl, rfl, rfl, Nat.le_refl _⟩ (fresh_tx hget)
        · rw [z1]
          intro hm
          rcases List.mem_cons.mp hm with hyp | hyp
          · exact Nat.ne_of_lt (Nat.lt_succ_self _) hyp
          · exact Nat.ne_of_gt ls (List.mem_singleton.mp hyp)
        · obtain ⟨hp', g', d', tk', os'⟩ := s1
          obtain rfl : g' = st.gens := mv.gens
          obtain rfl : d' = st.drawn := mv.drawn
          obtain rfl : os' = st.os := mv.os
          show wpAny _ _ _ _ _ _
          refine wpAny_pure ?_
          show wpAny _ _ (ret
              Value.none) _ _ _
          refine wpAny_pure ⟨rfl, hp', tk', rfl, T', fun b ob e => ?_⟩
          have bl := Heap.lt_size e
          refine mv.heap b ob ?_ (Heap.get?_push_of_some _ (Heap.get?_push_of_some _ e))
          rw [z1]
          intro hm
          rcases List.mem_cons.mp hm with hyp | hyp
          · exact Nat.ne_of_lt bl hyp
          · exact Nat.ne_of_lt (Nat.lt_succ_of_lt bl) (List.mem_singleton.mp hyp)
        · exact src.st0 _ _ (src.beg.keeps _ _ is1 fun b ob e => Heap.get?_push_of_some _ e) (Heap.get?_push_size _ src.beg.free)
      · cases r₂ with
        | error e => exact hr₂
        | ok fl₂ =>
          cases fl₂ with
          | ret r =>
            obtain ⟨rfl, hp', tk, rfl, T', kp⟩ := hr₂
            repeat (any_goals (first
                | assumption | wp_step))
            exact cont hp' tk T' kp
          | _ => exact hr₂.elim
    | _ => exact hr.elim
theorem src_list (l : Addr) (items : Array Value) : Src P w l items "list" { cls := .type "list_iterator", data := .fields #[.ref l, .int 0 0] } (fun Iv i hp => hp.IsListIter Iv l i ∧ hp.IsList l items) (fun hp => hp.IsList l items) :=
  ⟨F.sub_list_set, F.sub_list_frozenset, by decide, begins_list l items, fun A' Iv hh hne => Walks.list hh Iv l hne items, fun Iv hp h1 h2 => ⟨⟨_, h2, rfl, rfl⟩, h1⟩⟩
theorem src_tuple (l : Addr) (items : Array Value) : Src P w l items "tuple" { cls := .type "tuple_iterator", data := .fields #[.ref l, .int 0 0] } (fun Iv i hp => hp.IsTupleIter Iv l i ∧ hp.IsTuple l items) (fun hp => hp.IsTuple l items) :=
  ⟨F.sub_tuple_set, F.sub_tuple_frozenset, by decide, begins_tuple l items, fun A' Iv hh hne => Walks.tuple hh Iv l hne items, fun Iv hp h1 h2 => ⟨⟨_, h2, rfl, rfl⟩, h1⟩⟩
theorem strs_of_txts : ∀ (l : List (Int × Value)), Txts P w l → StrsAre (l.map (·.2)) (l.map txt)
  | [], _ => .nil
  | e :: l, g => by
    obtain ⟨z, t, e1, _⟩ := g e List.mem_cons_self
    have cont : txt e = z := by
      unfold txt
      rw [e1]
    rw [List.map_cons, List.map_cons, e1, cont]
    exact .cons z t (strs_of_txts l fun x hx => g x (List.mem_cons_of_mem _ hx))
theorem sorted_setTx {zs : List Str} {n : Nat} {Q : Value → Shared → Prop} (T : SetTx P w st.heap S zs n) (hh : A.handled = none)
    (cont : ∀ s1 p (out : Array Value) (c : Nat) (ys : List Str), (∀ b ob, st.heap.get? b = some ob → s1.heap.get? b = some ob) → s1.gens = st.gens → s1.os = st.os → st.heap.objs.size ≤ p → s1.heap.get? p = some (seqObj "list" out c) →
      StrsAre out.toList ys → sortedS ys = true → ys.Nodup → (∀ z, z ∈ ys ↔ z ∈ zs) → ys.length ≤ n → Q (.ref p) s1) :
    wpAny (model P w) A (call (.builtin "sorted") [.ref S]) Q Er st := by
  obtain ⟨ms, ⟨ob, ep, tb, h0, hx, hd, b0, f0, r0, l0⟩, g, nd, hm, hn⟩ := T
  refine Calls.call_function_entry kind_sorted
      plain_sorted entry_sorted (args_sorted1 _) ?_
  unfold Builtin.«sorted»
  refine wpAny_bind (m := checkCount "sorted" 1 1 _) (wpAny_pure (wpAny_bind (collect_set (A := A.in1) hh ⟨ob, h0, hx.1, hd⟩ f0 b0 r0 l0 fun s1 vs k1 z1 g1 o1 pm => ?_)))
  have lv : vs.length ≤ n := by
    rw [pm.length_eq, List.length_map, Array.length_toList]
    exact hn
  have lv2 : vs.length ≤ sizeLine := by
    rw [pm.length_eq, List.length_map, Array.length_toList]
    exact fits_of_scanBound b0
  have hS : StrsAre vs (vs.map strOf) := strsAre_map vs fun v hv => by
    obtain ⟨e, he, ev⟩ := List.mem_map.mp (pm.mem_iff.mp hv)
    obtain ⟨z, t, e1, _⟩ := g e he
    exact ⟨z, t, by rw [← ev, e1]⟩
  have pk : (vs.map strOf).Perm (ms.toList.map txt) := by
    have q1 := pm.map strOf
    rw [(strs_of_txts ms.toList g).strs] at q1
    exact q1
  refine wpAny_bind (wpAny_newList ?_ lv2)
  have hL : (s1.heap.push (seqObj "list" vs.toArray 0)).get? s1.heap.objs.size = some (seqObj "list" vs.toArray 0) := Heap.get?_push_size _ rfl
  refine wpAny_bind (wpAny_holding (wpAny_call_entry PyProof.Rows.slot_list_sort ⟨_, hL, rfl⟩ PyProof.Rows.entry_list_sort
    (list_sort_treeKAny strKind_oneLt hL hS.keysOf (fun v₁ v₂ rest e => keyKind_strs (by rw [← e]; exact hS)) lv2 fun sx hp hs => ⟨_, rfl, ?_⟩) (PyProof.Rows.args_list_sort _)))
  obtain ⟨ys, y1, y2, y3⟩ := sorted_out_str hS hp hs
  obtain ⟨c, hc⟩ := sortedHeap_at (vs := vs) (out := (arrOf sx).map (·.2)) hL
  have py := y2.trans pk
  refine wpAny_pure ⟨_, rfl, cont _ s1.heap.objs.size _ c ys (fun b u e => ?_) g1 o1 z1 hc y1 y3 (py.nodup_iff.mpr nd) (fun z => by rw [py.mem_iff, hm z]) ?_⟩
  · have e1 := k1 b u e
    have lt := Heap.lt_size e1
    show (sortedHeap (s1.heap.push (seqObj "list" vs.toArray 0)) s1.heap.objs.size vs ((arrOf sx).map (·.2))).get? b = some u
    rw [sortedHeap_old (Nat.ne_of_lt lt) (by rw [size_push']; exact Nat.lt_succ_of_lt lt)]
    exact Heap.get?_push_of_some _ e1
  · rw [y2.length_eq, List.length_map]
    exact lv
end
/-! ### the rule -/
/-- sorted(set(a)), a list or a tuple of texts -/
def tSortSet (K : PySem.W.Frag) (ta : TE) : TE := fun σ H Q => ta σ H fun x H1 => ∃ (l : Addr) (zs : List Str), x = .ref l ∧ (SqL K H1 l (zs.map V.str) ∨ SqT K H1 l (zs.map V.str)) ∧ zs.length ≤ 1000 ∧
  ∀ (ys : List Str) (p : Addr), sortedS ys = true → ys.Nodup → (∀ z, z ∈ ys ↔ z ∈ zs) → ys.length ≤ zs.length → H1 p = none → Q (.ref p) (upd H1 p (.lst (ys.map V.str)))
section
variable {X : Cx}
theorem vals_get {zs : List Str} {its : List Value} (r : Vals (zs.map V.str) its) (i : Nat) (v : Value) (hyp : its[i]? = some v) : ∃ (z : Str) (t : Tok), zs[i]? = some z ∧ v = Value.str z t := by
  have hl := r.length
  rw [List.length_map] at hl
  have hi : i < zs.length := by
    rw [hl]
    exact (List.getElem?_eq_some_iff.mp hyp).1
  obtain ⟨u, hu, ru⟩ := r.get (i := i) (x := V.str zs[i]) (by rw [List.getElem?_map, List.getElem?_eq_getElem hi]; rfl)
  rw [hyp] at hu
  obtain rfl : v = u := Option.some.inj hu
  obtain ⟨t, et⟩ := ru
  exact ⟨zs[i], t, List.getElem?_eq_getElem hi, et⟩
theorem len_of {zs : List Str} {its : List Value} (r : Vals (zs.map V.str) its) : zs.length = its.toArray.size := by
  have cont := r.length
  rw [List.length_map] at cont
  rw [List.size_toArray, cont]
theorem room_of {zs : List Str} {its : List Value} (r : Vals (zs.map V.str) its) (hyp : zs.length ≤ 1000) : its.toArray.size + 1 < scanBound := by
  rw [← len_of r]
  unfold scanBound
  omega
theorem pe_sortSet {a : Expr} {ta : TE} {p p2 q2 pos : Pos} (hc : X.calm = true) (hg : Gl X "sorted") (hm : X.mg "sorted" = none) (hg2 : Gl X "set") (hm2 : X.mg "set" = none) (ha : PE X a ta) (na : starEach [a] X.env = (false, eval a X.env) :: starEach [] X.env := by rfl) :
    PE X (.Call (.Name "sorted" p) [.Call (.Name "set" p2) [a] [] q2] [] pos) (tSortSet X.K ta) := by
  refine ⟨fun pins s σ H Q Iv hyp => ?_⟩
  refine Call_ (ld_blt Iv hg hm (show bootBuiltins "sorted" = some (.builtin "sorted") by decide +kernel) (PyProof.Rows.callWith_builtin1 (PyProof.Rows.args_cons ?_ rfl) rfl rfl))
  refine Call_ (ld_blt Iv hg2 hm2 boot_set (PyProof.Rows.callWith_type1 (PyProof.Rows.args_cons (thn (ha.run pins s σ H _ Iv hyp) fun v s1 ⟨x, H1, Iv1, r1, q1⟩ => PyProof.Rows.args_nil ?_) na) na rfl))
  obtain ⟨l, zs, rfl, hq, h1, q1⟩ := q1
  cases r1
  have fin : ∀ (its : List Value), Vals (zs.map V.str) its → ∀ (hp' : Heap) (tk : Nat), SetTx X.prog X.w hp' s1.heap.objs.size zs its.toArray.size → (∀ b ob, s1.heap.get? b = some ob → hp'.get? b = some ob) →
      wpAny (model X.prog X.w) X.A (spliced (backTo pos (starEach [] X.env))) (fun vs s₂ => wpAny (model X.prog X.w) X.A (call (.builtin "sorted") (Value.ref s1.heap.objs.size :: vs)) (EP X pins σ Q) X.xe s₂) X.xe { s1 with heap := hp', toks := tk } := fun its r hp' tk T kp => by
    refine PyProof.Rows.args_nil
        ?_
    have Iv2 : Inv X pins σ H1 { s1 with heap := hp', toks := tk } := Iv1.kept kp
    have n1 : its.toArray.size = zs.length := by
      have cont := r.length
      rw [List.length_map] at cont
      rw [List.size_toArray, cont]
    rw [n1] at T
    refine sorted_setTx T (Iv1.ok.hd hc) fun s3 p' out c ys k3 g3 o3 z3 hp3 y1 y2 y3 y4 y5 => ?_
    have Iv3 := Iv2.tok tk
    have hn : H1 p' = none := Iv2.hok.fresh z3
    have big : (ys.map V.str).length ≤ sizeLine := by
      rw [List.length_map,
          sizeLine_eq]
      omega
    obtain ⟨hp4, g4, d4, t4, o4⟩ := s3
    obtain rfl : o4 = s1.os := o3
    have bare4 : AllBare g4 := by
      rw [show g4 = s1.gens from g3]
      exact Iv2.bare
    have un : Un X.fs [] H1 (upd H1 p' (.lst (ys.map V.str))) hp' hp4 := Un.laid k3 z3 hn
    have ok4 : HOk X.prog X.w (upd H1 p' (.lst (ys.map V.str))) hp4 := Iv2.hok.laid k3 z3 ⟨big, out.toList, c, vals_of_strs y1, hp3⟩
    exact ⟨.ref p', _, L2.Inv.call (s := { s1 with heap := hp', toks := tk }) Iv2 (ch := []) (Un.laid k3 z3 hn) ok4 bare4 (fun _ z => nomatch z), rfl, q1 ys p' y2 y3 y4 y5 hn⟩
  rcases hq with hq | hq
  · obtain ⟨its, r, pl, hz⟩ := Iv1.list hq
    obtain ⟨⟨c0, d0, dt0, sl0⟩, ho, hc0, n0, hd0⟩ := pl.isList
    obtain rfl : c0 = Value.type "list" := hc0
    exact call_set_any (src_list l its.toArray) (Iv1.ok.hd hc) ho pl.isList (fun i v hv => vals_get r i v (by simpa using hv)) (len_of r) (room_of r h1) fun hp' tk T kp => fin its r hp' tk T kp
  · obtain ⟨its, r, pl, hz⟩ := Iv1.tuple hq
    obtain ⟨⟨c0, d0, dt0, sl0⟩, ho, hc0, n0, hd0⟩ := id pl
    obtain rfl : c0 = Value.type "tuple" := hc0
    exact call_set_any (src_tuple l its.toArray) (Iv1.ok.hd hc) ho pl (fun i v hv => vals_get r i v (by simpa using hv)) (len_of r) (room_of r h1) fun hp' tk T kp => fin its r hp' tk T kp
end
end TxS
namespace K1
open PySem PySem.Spec PyProof.Rows L2 EnT StX SmX TxS
abbrev sErrNames : Stmt := inClass (top 8) 0
abbrev sErrText : Stmt := inClass (top 7) 0
abbrev sInit : Stmt := inClass (top 15) 0
/-! ### errors of the program -/
structure ErrC (K : PySem.W.Frag) (mg : Str → Option Value) (x f : Str) (C fI : Addr) : Prop where
  g : mg x = some (.ref C)
  ox : OexC K C
  no : PySem.W.findIn K (.ref C) f = some none
  ini : PySem.W.findIn K (.ref C) "__init__" = some (some (.ref fI))
  ty : PySem.W.typeIn K (.ref fI) = some (.type "function")
/-- an error of the class at C with one field, let go from the heap H -/
def ErrAt (C : Addr) (f : Str) (v : V) (H : Hp) (E : XK) : Prop := ∀ (d : Addr) (H' : Hp), Same H H' → H' d = none → E (.ref C) (some d) (upd H' d (.xd [(f, v)]))
def spErr (C : Addr) (f : Str) : Sp := fun vs H Q _ => ∃ (a : Addr) (v : V), vs = [.ref a, v] ∧ H a = some (exo a C none) ∧ ∀ d, H d = none → d ≠ a → Q .non (upd (upd H d (exd d [(f, v)])) a (exo a C (some d)))
theorem raise_heap {H : Hp} {a d : Addr} {o1 o2 o3 o4 : HO} (n : H a = none) (hd : d ≠ a) : upd (del (upd (upd (upd H a o1) d o2) a o3) a) d o4 = upd H d o4 := by
  funext b
  by_cases h1 : b = d
  · rw [h1, upd_same, upd_same]
  · rw [upd_ne h1, upd_ne h1]
    by_cases h2 : b = a
    · rw [h2, del_same, n]
    · rw [del_ne h2, upd_ne h2, upd_ne h1, upd_ne h2]
section
variable {w : World} {P : Program}
variable {base : Heap} {mg : Str → Option Value} {K : PySem.W.Frag}
theorem scErrN : FnScope ["self", "index"] ["self", "index"] (defScope sErrNames) := ⟨rfl, rfl, rfl, by decide +kernel, rfl, by decide +kernel, by decide +kernel⟩
theorem scErrT : FnScope ["self", "value"] ["self", "value"] (defScope sErrText) := ⟨rfl, rfl, rfl, by decide +kernel, rfl, by decide +kernel, by decide +kernel⟩
theorem ok_errN {f C fI : Addr} {fd : FuncData} (F : Fun K "__init__" "InvalidNames.__init__" sErrNames f fd) (T : ErrC K mg "InvalidNames" "index" C fI) : FnOk P w K mg base CX0 1 f fd ["self", "index"] (spErr C "index") := by
  refine F.ok scErrN (fun vs H Q E h => ?_) (fun cdv A outer s H vs Q E hr h => ?_)
  · obtain ⟨a, v, rfl, _⟩ := h
    rfl
  · obtain ⟨a, v, rfl, ha, q⟩ := h
    exact ⟨_, pss_one (ps_ost (pv 0) (pv 1)), _, rfl, _, rfl, a, C, rfl, T.ox, T.no, .inl ⟨ha, fun d nd ne => q d nd ne⟩⟩
theorem ok_errT {f C fI : Addr} {fd : FuncData} (F : Fun K "__init__" "InvalidText.__init__" sErrText f fd) (T : ErrC K mg "InvalidText" "value" C fI) : FnOk P w K mg base CX0 1 f fd ["self", "value"] (spErr C "value") := by
  refine F.ok scErrT (fun vs H Q E h => ?_) (fun cdv A outer s H vs Q E hr h => ?_)
  · obtain ⟨a, v, rfl, _⟩ := h
    rfl
  · obtain ⟨a, v, rfl, ha, q⟩ := h
    exact ⟨_, pss_one (ps_ost (pv 0) (pv 1)), _, rfl, _, rfl, a, C, rfl, T.ox, T.no, .inl ⟨ha, fun d nd ne => q d nd ne⟩⟩
end
/-! ### Members -/
def flds (t d : Addr) : List (Str × V) := putF "_table" (.ref d) (putF "_names" (.ref t) [])
def tabOf (zs : List Str) : List (Key × V) := zs.map fun z => (Sum.inr z, V.bl true)
structure MemAt (C : Addr) (H : Hp) (p : Addr) (zs : List Str) : Prop where
  at_ : ∃ dx t d, H p = some (.ins C dx (flds t d)) ∧ H t = some (.tup (zs.map V.str)) ∧ H d = some (.dK (tabOf zs))
  srt : sortedS zs = true
  nd : zs.Nodup
  few : zs.length ≤ 1000
  nm : ∀ z ∈ zs, nameB z = true
theorem MemAt.same {C : Addr} {H H' : Hp} {p : Addr} {zs : List Str} (s : Same H H') (m : MemAt C H p zs) : MemAt C H' p zs := by
  obtain ⟨⟨dx, t, d, h1, h2, h3⟩, a, b, c, e⟩ := m
  exact ⟨⟨dx, t, d, s _ _ h1, s _ _ h2, s _ _ h3⟩, a, b, c, e⟩
/-- what Members(..) gives: new Members of these texts -/
def Makes (C : Addr) (zs : List Str) (H : Hp) (Q : VK) : Prop := ∀ (p : Addr) (ys : List Str) (H' : Hp), H p = none → Same H H' → (∀ z, z ∈ ys ↔ z ∈ zs) → MemAt C H' p ys → Q (.ref p) H'
structure MemC (K : PySem.W.Frag) (mg : Str → Option Value) (C : Addr) : Prop where
  g : mg "Members" = some (.ref C)
  cl : Cls K C
  nN : NoAttr K C "_names"
  nT : NoAttr K C "_table"
/-- __init__, its names a tuple at t -/
def spInit0 (K : PySem.W.Frag) (C CN : Addr) : Sp := fun vs H Q E => ∃ (p t dx : Addr) (xs : List V), vs = [.ref p, .ref t] ∧ H p = some (.ins C dx []) ∧ SqT K H t xs ∧ (∀ v ∈ xs, VOk H v) ∧ xs.length ≤ 1000 ∧
  (∀ i, wrongIx xs = some i → ErrAt CN "index" (.int i) H E) ∧ (wrongIx xs = none → ∀ zs : List Str, xs = zs.map V.str → ∀ (ys : List Str) (H' : Hp), (∀ b o, b ≠ p → H b = some o → H' b = some o) → (∀ z, z ∈ ys ↔ z ∈ zs) → MemAt C H' p ys → Q .non H')
theorem all_texts : ∀ {xs : List V}, wrongIx xs = none → ∃ zs : List Str, xs = zs.map V.str
  | [], _ => ⟨[], rfl⟩
  | x :: r, h => by
    unfold wrongIx at h
    rw [List.findIdx?_eq_none_iff] at h
    have hr : wrongIx r = none := by
      unfold wrongIx
      rw [List.findIdx?_eq_none_iff]
      exact fun y hy => h y (List.mem_cons_of_mem _ hy)
    obtain ⟨zs, e⟩ := all_texts hr
    have hx := h x List.mem_cons_self
    cases x with
    | str z => exact ⟨z :: zs, by rw [e]; rfl⟩
    | _ => simp [nameV] at hx
theorem names_ok {zs : List Str} (h : wrongIx (zs.map V.str) = none) : ∀ z ∈ zs, nameB z = true := fun z hz => by
  unfold wrongIx at h
  rw [List.findIdx?_eq_none_iff] at h
  simpa [nameV] using h (V.str z) (List.mem_map.mpr ⟨z, hz, rfl⟩)
section
variable {w : World} {P : Program}
variable {base : Heap} {mg : Str → Option Value} {K : PySem.W.Frag}
theorem kNT : ¬ (("_names" : Str) = "_table") := by decide +kernel
theorem look_names (u : Addr) : (putF "_names" (V.ref u) []).lookup ("_names" : Str) = some (.ref u) := by
  rw [lookup_putF, if_pos rfl]
theorem tab_none {zs : List Str} {z : Str} (h : z ∉ zs) : valV (tabOf zs) (Sum.inr z : Key) = none := by
  induction zs with
  | nil => rfl
  | cons a r ih =>
    have ha : ¬ a = z := fun e => h (e ▸ List.mem_cons_self)
    show valV ((Sum.inr a, V.bl true) :: tabOf r) (Sum.inr z : Key) = none
    rw [valV_neg (fun e => ha (Sum.inr.inj e))]
    exact ih fun m => h (List.mem_cons_of_mem _ m)
theorem take_nodup_none {ys : List Str} {i : Nat} {z : Str} (nd : ys.Nodup) (h : ys[i]? = some z) : z ∉ ys.take i := by
  intro m
  obtain ⟨ltX, e⟩ := List.getElem?_eq_some_iff.mp h
  obtain ⟨j, hj, ej⟩ := List.mem_iff_getElem.mp m
  rw [List.length_take] at hj
  rw [List.getElem_take] at ej
  have := (List.getElem_inj nd).mp (ej.trans e.symm)
  omega
abbrev nmInit : List Str := ["self", "names", "at", "name"]
theorem scInit : FnScope nmInit ((["self"] : List Str) ++ (["names"] : List Str)) (defScope sInit) := ⟨rfl, rfl, rfl, by decide +kernel, rfl, by decide +kernel, by decide +kernel⟩
theorem ok_init {f fW fE C CN : Addr} {fd fdW fdE : FuncData} (F : Fun K "__init__" "Members.__init__" sInit f fd) (T : Free mg) (M : MemC K mg C) (GW : FnOk P w K mg base CX0 2 fW fdW ["values"] (spWrongT K)) (FW : Fun K "wrong_at" "wrong_at" sWrong fW fdW) (mgW : mg "wrong_at" = some (.ref fW))
    (EN : ErrC K mg "InvalidNames" "index" CN fE) (FE : Fun K "__init__" "InvalidNames.__init__" sErrNames fE fdE) :
    FnR P w K mg base (L2.CX P w) 4 f (fun vs H Q E => ∃ ws rest, vs = ws ++ rest ∧ ws.length = (["self"] : List Str).length ∧ rest.length ≤ sizeLine ∧ ∀ p, H p = Option.none → spInit0 K C CN (ws ++ [V.ref p]) (upd H p (.tup rest)) Q E) := by
  have bW : Binds K fdW ["values"] [] := FW.binds (ps := ["values"]) fun _ _ _ _ _ _ us hl => match us, hl with | [_], _ => rfl
  have bE : Binds K fdE ["self", "index"] [] := FE.binds (ps := ["self", "index"]) fun _ _ _ _ _ _ us hl => match us, hl with | [_, _], _ => rfl
  have GE : FnOk P w K mg base CX0 1 fE fdE ["self", "index"] (spErr CN "index") := ok_errN FE EN
  obtain ⟨oc, oD, kV, doc, pm, an, cdv, ct, osl, rfl, lk, hcd⟩ := F.ex
  refine fn_star (ps := ["self"]) (pv := "names") (sp := spInit0 K C CN) lk hcd scInit cxUp (bind_star1 (B := fun us => bindArgs (PySem.W.fnOf "__init__" "Members.__init__" (defArgs sInit) (defBody sInit) (defScope sInit) .none kV doc pm an cdv ct) ⟨us, []⟩) (p1 := "self") (pv := "names") (fun a => rfl) fun a r rs => rfl) fun A outer s H vs Q E hr h => ?_
  obtain ⟨p, t, dx, xs, rfl, hp, hS, hv, hl, qE, q⟩ := h
  refine ⟨_, pss_cons (ps_set (i := 2) scInit.nd rfl (.inl rfl) (pe_call GW (hr.mono (by decide)) rfl mgW FW.kp bW .nil pass0 (pa_cons (pv 1) pa_nil)))
    (pss_cons (ps_if (pt_cmp (pc_notN (pv 2))) (pss_one (ps_raise rfl (takes_of rfl rfl rfl rfl) (pmk_oex EN.ox EN.ini EN.ty GE (hr.mono (by decide)) bE .nil pass0 rfl EN.g (pa_cons (pv 2) pa_nil)))) pss_nil)
    (pss_cons (ps_fld (pv 0) (pe_callTy call_tuple_of (by rfl) T.tuple (by decide +kernel) (pa_cons (pe_sortSet rfl (by rfl) T.sorted (by rfl) T.set (pv 1)) pa_nil)) rfl)
    (pss_one (ps_fld (pv 0) (pe_dc (own := [("name", 3)]) (g := gName 3) (tt := tYes) rfl scInit.nd (pi_tup (pe_fld (pv 0) rfl)) (blkOk_by (own := [("name", 3)]) (N := nmInit) (sc := defScope sInit) (by decide +kernel)) (fun _ _ _ _ _ => pg_name (i := 3) scInit.nd rfl (Or.inl rfl)) (fun _ _ _ _ _ => pts_nil) (fun _ _ _ _ _ => pv 3) (fun _ _ _ _ _ => pe_bl)) rfl)))), ?_⟩
  refine ⟨_, rfl, t, xs, rfl, hS, hv, fun H1 sm => ?_⟩
  refine ⟨_, rfl, _, rfl, ?_⟩
  cases hw : wrongIx xs with
  | some i =>
    refine iteT ?_
    refine ⟨_, rfl, (by show 1 ≤ 1000; decide), fun a na => ⟨a, _, rfl, upd_same, fun d nd ne => ⟨rfl, d, [("index", .int i)], upd_same, ?_, ?_, ?_⟩⟩⟩
    · rw [upd_ne ne, upd_same]
      rfl
    · rw [upd_ne ne] at nd
      exact nd
    · rw [raise_heap na ne]
      rw [upd_ne ne] at nd
      exact qE i hw d H1 sm nd
  | none =>
    refine iteF ?_
    obtain ⟨zs, rfl⟩ := all_texts hw
    have hS1 : SqT K H1 t (zs.map V.str) := sameT sm hS
    have hp1 := sm _ _ hp
    refine ⟨_, rfl, t, zs, rfl, .inr hS1, by rw [List.length_map] at hl; exact hl, fun ys l y1 y2 y3 y4 nl => ?_⟩
    refine ⟨l, _, rfl, .inl ⟨SqL.of upd_same, fun u nu => ?_⟩⟩
    have nu1 : H1 u = none := by
      by_cases e : u = l
      · rw [e, upd_same] at nu
        cases nu
      · rw [upd_ne e] at nu
        exact nu
    have pu : p ≠ u := ne_of_none hp1 nu1
    have pl : p ≠ l := ne_of_none hp1 nl
    have s1 : Same H1 (upd H1 l (.lst (ys.map V.str))) := same_upd nl
    have s2 : Same (upd H1 l (.lst (ys.map V.str))) (upd (upd H1 l (.lst (ys.map V.str))) u (.tup (ys.map V.str))) := same_upd nu
    refine ⟨_, rfl, p, C, dx, [], rfl, s2 _ _ (s1 _ _ hp1), M.cl, M.nN, (by show 0 < 1000; decide), ?_⟩
    generalize e4 : upd (upd (upd H1 l _) u _) p _ = H4
    have h4p : H4 p = some (.ins C dx (putF "_names" (.ref u) [])) := by
      rw [← e4]
      exact upd_same
    have h4u : H4 u = some (.tup (ys.map V.str)) := by
      rw [← e4, upd_ne (Ne.symm pu)]
      exact upd_same
    have kp : ∀ b o, b ≠ p → H b = some o → H4 b = some o := fun b o n z => by
      rw [← e4, upd_ne n]
      exact s2 _ _ (s1 _ _ (sm _ _ z))
    clear e4
    refine ⟨_, rfl, p, C, dx, _, _, rfl, h4p, M.cl, M.nN, look_names u, u, rfl, ⟨_, SqT.of h4u⟩, fun D nD => ?_⟩
    have Dp : D ≠ p := fun e => by
      rw [e, h4p] at nD
      cases nD
    have Du : D ≠ u := fun e => by
      rw [e, h4u] at nD
      cases nD
    have few : ys.length ≤ 1000 := Nat.le_trans y4 (by rw [List.length_map] at hl; exact hl)
    refine dc_tup (K := K) (a := u) (xs := ys.map V.str) (fun i H' => (∀ b o, b ≠ D → H4 b = some o → H' b = some o) ∧ H' D = some (.dK (tabOf (ys.take i)))) ?_ ?_ ?_ ?_
    · exact ⟨fun b o n z => by rw [upd_ne n]; exact z, upd_same⟩
    · rintro i H' ltX ⟨k, hD⟩
      exact SqT.of (k _ _ (Ne.symm Du) h4u)
    · rintro i x H' hx ⟨k, hD⟩
      rw [List.getElem?_map] at hx
      obtain ⟨z, ez, rfl⟩ := Option.map_eq_some_iff.mp hx
      have ltX : i < ys.length := (List.getElem?_eq_some_iff.mp ez).1
      refine ⟨rfl, ?_⟩
      refine ⟨_, rfl, tabOf (ys.take i), Sum.inr z, rfl, hD, ?_, ?_, ?_⟩
      · unfold tabOf
        rw [List.length_map, List.length_take]
        exact small1000 (by omega)
      · intro b o n q2
        rw [upd_ne n]
        exact k b o n q2
      · rw [upd_same, putK_new _ (tab_none (take_nodup_none y2 ez))]
        unfold tabOf
        rw [List.take_add_one, ez, List.map_append]
        rfl
    · rintro H' ⟨k, hD⟩
      rw [List.length_map, List.take_length] at hD
      refine ⟨_, rfl, p, C, dx, _, rfl, k _ _ (Ne.symm Dp) h4p, M.cl, M.nT, (by rw [show (putF "_names" (V.ref u) []).length = 1 from rfl]; decide), ?_⟩
      refine q hw zs rfl ys _ (fun b o n z => ?_) y3 ⟨⟨dx, u, D, upd_same, ?_, ?_⟩, y1, y2, few, fun z hz => names_ok hw z ((y3 z).mp hz)⟩
      · rw [upd_ne n]
        exact k b o (fun e => by rw [e] at z; have := kp D o (e ▸ n) z; rw [nD] at this; cases this) (kp b o n z)
      · rw [upd_ne (Ne.symm pu)]
        exact k _ _ (Ne.symm Du) h4u
      · rw [upd_ne Dp]
        exact hD
end
end K1
/-! str(o), repr(o), len(o), bool(o), v in o, o == v, o != v by an own class's methods -/
namespace DuX
open PySem PySem.Spec
open PyProof.Rows L2
section
variable {X : Cx} {CX : CXT} {k : Nat} {g C : Addr} {sp : Sp} {Ek : XK} {pins : List (Addr × Obj)} {σ : L2.St} {H : Hp} {s : Shared}
/-- a method is run somewhere below the body that runs -/
theorem run_below {A : Around} {valsU : List Value} {vs : List V} {Q : VK} (F : FnR X.prog X.w X.K X.mg X.base CX k g sp) (hr : Room k A) (hf : A.frames = X.A.frames) (hx : Passes CX X Ek) (Iv : Inv X pins σ H s) (r : Vals vs valsU) (hyp : sp vs H Q Ek) :
    wpAny (model X.prog X.w) A (call (.ref g) valsU) (EP X pins σ Q) X.xe s := by
  have e0 : Env0 X.prog X.w X.K
      X.mg X.base A X.stack s H := by
    obtain ⟨a1, a2, a3, a4, a5, a6, a7, a8⟩ := Iv.env0
    exact ⟨by rw [hf]; exact a1, a2, a3, a4, a5, a6, a7, a8⟩
  refine wpAny_call (codeAny_mono (F A X.stack s H valsU vs Q Ek hr e0 r hyp) fun res s1 hq => ?_)
  match res, hq with
  | .error e, hq => exact hx pins σ H s e s1 Iv hq
  | .ok (.ret u), hq => exact Iv.after hq
  | .ok .next, hq => exact False.elim hq
  | .ok .brk, hq => exact False.elim hq
  | .ok .cont, hq => exact False.elim hq
/-- the class at C has the method m, at g -/
structure OwnM (K : PySem.W.Frag) (C : Addr) (m : Str) (g : Addr) : Prop where
  at_ : PySem.W.findIn K (.ref C) m = some (some (.ref g))
  fn : PySem.W.isFn
      K (.ref g) = true
theorem inst_of {a dx : Addr} {fs : List (Str × V)} (Iv : Inv X pins σ H s) (hyp : H a = some (.ins C dx fs)) : ∃ ox od, PySem.W.InstAt s.heap a ox C (some od) := by
  obtain ⟨mA, O, _⟩ := ins_get Iv.hok hyp
  obtain ⟨od, J, _⟩ := O.look
  exact ⟨_, od, J⟩
/-- str(o) -/
theorem call_strO (m : OwnM X.K C "__str__" g) (F : FnR X.prog X.w X.K X.mg X.base CX k g sp) (hr : Room (k + 2) X.A) (hx : Passes CX X Ek) :
    CallR X (.type "str") (fun xs H Q => ∃ a dx fs, xs = [.ref a] ∧ H a = some (.ins C dx fs) ∧ sp [.ref a] H (fun v H' => ∃ z, v = .str z ∧ Q (.str z) H') Ek) := by
  intro pins s σ H xs valsU Q Iv r hyp
  obtain ⟨a, dx, fs, rfl, atA, cont⟩ := hyp
  rw [Vals.ref1 r]
  obtain ⟨ox, od, J⟩ := inst_of Iv atA
  refine PySem.W.kso_call hr.in1.in1.units0 Iv.kIn J m.at_ m.fn ?_
  refine wpAny_mono (run_below F hr.in1.in1 rfl hx Iv (vs := [V.ref a]) (.cons rfl .nil) cont) (fun u s1 hu => ?_) fun _ _ e => e
  obtain ⟨v, H1, Iv1, rv, z, rfl, q1⟩ := hu
  obtain ⟨t, rfl⟩ := rv
  exact ⟨.str z, H1, Iv1, ⟨t, rfl⟩, q1⟩
/-- repr(o) -/
theorem call_reprO (m : OwnM X.K C "__repr__" g) (F : FnR X.prog X.w X.K X.mg X.base CX k g sp) (hr : Room (k + 1) X.A) (hx : Passes CX X Ek) :
    CallR X (.builtin "repr") (fun xs H Q => ∃ a dx fs, xs = [.ref a] ∧ H a = some (.ins C dx fs) ∧ sp [.ref a] H (fun v H' => ∃ z, v = .str z ∧ Q (.str z) H') Ek) := by
  intro pins s σ H xs valsU Q Iv r hyp
  obtain ⟨a, dx, fs, rfl, atA, cont⟩ := hyp
  rw [Vals.ref1 r]
  obtain ⟨ox, od, J⟩ := inst_of Iv atA
  obtain ⟨mm, hF⟩ := Iv.fr
  refine PySem.W.repr_K hr.in1.units0 hF Iv.ok.mod.kin J m.at_ m.fn ?_
  refine wpAny_mono (run_below F hr.in1 rfl hx Iv (vs := [V.ref a]) (.cons rfl .nil) cont) (fun u s1 hu => ?_) fun _ _ e => e
  obtain ⟨v, H1, Iv1, rv, z, rfl, q1⟩ := hu
  obtain ⟨t, rfl⟩ := rv
  exact ⟨.str z, H1, Iv1, ⟨t, rfl⟩, q1⟩
/-- len(o) -/
theorem call_lenO (m : OwnM X.K C "__len__" g) (F : FnR X.prog X.w X.K X.mg X.base CX k g sp) (hr : Room (k + 1) X.A) (hx : Passes CX X Ek) :
    CallR X (.builtin "len") (fun xs H Q => ∃ a dx fs, xs = [.ref a] ∧ H a = some (.ins C dx fs) ∧ sp [.ref a] H (fun v H' => ∃ n : Nat, v = .int n ∧ n < 2 ^ 62 ∧ Q (.int n) H') Ek) := by
  intro pins s σ H xs valsU Q Iv r hyp
  obtain ⟨a, dx, fs, rfl, atA, cont⟩ := hyp
  rw [Vals.ref1 r]
  obtain ⟨ox, od, J⟩ := inst_of Iv atA
  obtain ⟨mm, hF⟩ := Iv.fr
  refine PySem.W.len_K hF Iv.ok.mod.kin J m.at_ m.fn ?_
  refine wpAny_mono (run_below F hr.in1 rfl hx Iv (vs := [V.ref a]) (.cons rfl .nil) cont) (fun u s1 hu => ?_) fun _ _ e => e
  obtain ⟨v, H1, Iv1, rv, n, rfl, hn, q1⟩ := hu
  obtain ⟨t, rfl⟩ := rv
  exact ⟨⟨by omega, by omega⟩, .int n, H1, Iv1.tok _, ⟨_, rfl⟩, q1⟩
/-- v in o -/
theorem op_inO (m : OwnM X.K C "__contains__" g) (F : FnR X.prog X.w X.K X.mg X.base CX k g sp) (hr : Room k X.A) (hx : Passes CX X Ek) :
    OpR X (compareOp .In) (fun x y H Q => ∃ a dx fs, y = .ref a ∧ H a = some (.ins C dx fs) ∧ sp [.ref a, x] H (fun v H' => ∃ b, v = .bl b ∧ Q (.bl b) H') Ek) := by
  intro pins s σ H x y u v Q Iv rx ry hyp
  obtain ⟨a, dx, fs, rfl, atA, cont⟩ := hyp
  cases ry
  obtain ⟨ox, od, J⟩ := inst_of Iv atA
  obtain ⟨mm, hF⟩ := Iv.fr
  refine PySem.W.in_K hF Iv.ok.mod.kin J m.at_ m.fn ?_
  refine wpAny_mono (run_below F hr rfl hx Iv (vs := [V.ref a, x]) (.cons rfl (.cons rx .nil)) cont) (fun u' s1 hu => ?_) fun _ _ e => e
  obtain ⟨v', H1, Iv1, rv, b, rfl, q1⟩ := hu
  cases rv
  exact wpAny_truthy_bool ⟨.bl b, H1, Iv1, rfl, q1⟩
/-- o == v: the own method answers with a truth value -/
theorem rc_eq {A : Around} {a dx : Addr} {fs : List (Str × V)} {y : V} {u t : Value} {Q : Bool → Hp → Prop} (m : OwnM X.K C "__eq__" g) (F : FnR X.prog X.w X.K X.mg X.base CX k g sp) (hr : Room k A) (hf : A.frames = X.A.frames) (hx : Passes CX X Ek) (Iv : Inv X pins σ H s) (atA : H a = some (.ins C dx fs))
    (ry : RelV y u) (ty : ∀ M : Model, PySem.W.Looks M s.heap (typeOf u) t) (nf : PySem.W.notFirst X.K C t = true) (cont : sp [.ref a, y] H (fun v H' => ∃ b, v = .bl b ∧ Q b H') Ek) :
    wpAny (model X.prog X.w) A (richCompare .Eq (.ref a) u) (fun r s1 => ∃ b, r = .bool b ∧ ∃ H', Inv X pins σ H' s1 ∧ Q b H') X.xe s := by
  obtain ⟨ox, od, J⟩ := inst_of Iv atA
  obtain ⟨mm, hF⟩ := Iv.fr
  refine PySem.W.cmp_K (op := .Eq) hr.units0 hF Iv.ok.mod.kin J (ty _) nf m.at_ m.fn ?_
  refine wpAny_mono (run_below F hr hf hx Iv (vs := [V.ref a, y]) (.cons rfl (.cons ry .nil)) cont) (fun w s1 hu => ?_) fun _ _ e => e
  obtain ⟨v, H1, Iv1, rv, b, rfl, q1⟩ := hu
  cases rv
  exact ⟨b, rfl, H1, Iv1, q1⟩
theorem op_eqO (m : OwnM X.K C "__eq__" g) (F : FnR X.prog X.w X.K X.mg X.base CX k g sp) (hr : Room k X.A) (hx : Passes CX X Ek) :
    OpR X (compareOp .Eq) (fun x y H Q => ∃ a dx fs t, x = .ref a ∧ H a = some (.ins C dx fs) ∧ (∀ pins σ s u, Inv X pins σ H s → RelV y u → ∀ M : Model, PySem.W.Looks M s.heap (typeOf u) t) ∧ PySem.W.notFirst X.K C t = true ∧ sp [.ref a, y] H (fun v H' => ∃ b, v = .bl b ∧ Q (.bl b) H') Ek) := by
  intro pins s σ H x y u v Q Iv rx ry hyp
  obtain ⟨a, dx, fs, t, rfl, atA, ty, nf, cont⟩ := hyp
  cases rx
  refine wpAny_mono (rc_eq (Q := fun b H' => Q (.bl b) H') m F hr rfl hx Iv atA ry (ty pins σ s _ Iv ry) nf cont) (fun r s1 z => ?_) fun _ _ e => e
  obtain ⟨b, rfl, H1, Iv1, q1⟩ := z
  exact ⟨.bl b, H1, Iv1, rfl, q1⟩
/-- a special method that is a built-in's -/
theorem bound_bi {M : Model} {A : Around} {E : Value → Shared → Prop} {a : Addr} {ox : Obj} {od : Option Obj} {name : Str} {id : String} {args : List Value} {Q : Option Value → Shared → Prop} {Kf : PySem.W.Frag} (kin : Kf.In s.heap) (J : PySem.W.InstAt s.heap a ox C od) (hs : PySem.W.findIn Kf (.ref C) name = some (some (.builtin id)))
    (hb : ∀ self, bindSpecial (.builtin id) self = pure (.builtin id, [self])) (hyp : wpAny M A (call (.builtin id) (.ref a :: args)) (fun v => Q (some v)) E s) : wpAny M A (callSpecialIfBound? (.ref a) name args) Q E s := by
  simp only [callSpecialIfBound?,
      bindSpecialIfBound?]
  refine wpAny_holding (wpAny_bind (wpAny_bind (wpAny_bind (J.type.here ((PySem.W.looks_findIn kin hs).here ?_)))))
  have go : wpAny M A (call (.builtin id) ([.ref a] ++ args) >>= fun v => pure (some v)) Q E s := wpAny_bind (wpAny_mono hyp (fun v s1 z => wpAny_pure z) fun _ _ z => z)
  refine wpAny_bind (wpAny_askSetting
      (wpAny_ite ?_))
  split
  · exact wpAny_bind ((PySem.W.Looks.of_pure (hb _)).here (wpAny_pure go))
  · exact wpAny_tryCatch (wpAny_bind ((PySem.W.Looks.of_pure (hb _)).here (wpAny_pure go)))
/-- object.__ne__(o, v), where o's class has its own == -/
theorem one_ne {A : Around} {a dx : Addr} {fs : List (Str × V)} {y : V} {u : Value} {Q : Bool → Hp → Prop} (m : OwnM X.K C "__eq__" g) (hm : PySem.W.mroIn X.K C (.type "object") = some true) (F : FnR X.prog X.w X.K X.mg X.base CX k g sp) (hr : Room (k + 1) A) (hf : A.frames = X.A.frames) (hx : Passes CX X Ek) (Iv : Inv X pins σ H s) (atA : H a = some (.ins C dx fs))
    (ry : RelV y u) (cont : sp [.ref a, y] H (fun v H' => ∃ b, v = .bl b ∧ Q b H') Ek) :
    wpAny (model X.prog X.w) A (call (.builtin "object.__ne__") [.ref a, u]) (fun r s1 => ∃ b, r = .bool (!b) ∧ ∃ H', Inv X pins σ H' s1 ∧ Q b H') X.xe s := by
  obtain ⟨ox, od, J⟩ := inst_of Iv atA
  refine wpAny_call (codeAny_call_builtin PySem.F.slot_object_ne.plain PySem.F.cmpEntry_ne (PySem.W.check_slot (i := "object.__ne__") (owner := "object") (n := "__ne__") (by decide +kernel) (by decide +kernel) (J.type.andThen (PySem.W.looks_mroIn Iv.kIn hm)) (PySem.F.cmpArgs_ne _ _) ?_))
  unfold
    Builtin.«object.__ne__»
  refine wpAny_bind (m := slotArgs "__ne__" 1 _) (wpAny_pure ?_)
  refine wpAny_bind (m := cRoomFor _ _) (wpAny_cRoomFor hr.in1.units0 ?_)
  refine wpAny_bind (m := callSpecialIfBound? (.ref a) (Str.ofString "__eq__") _) (PySem.W.ifBound_K Iv.kIn J m.at_ m.fn ?_)
  refine wpAny_mono (run_below F hr.in1 hf hx Iv (vs := [V.ref a, y]) (.cons rfl (.cons ry .nil)) cont) (fun w s1 hu => ?_) fun _ _ e => e
  obtain ⟨v, H1, Iv1, rv, b, rfl, q1⟩ := hu
  cases rv
  refine wpAny_bind (wpAny_truthy_bool ?_)
  exact wpAny_pure ⟨_, rfl, H1, Iv1, q1⟩
theorem rc_ne {A : Around} {a dx : Addr} {fs : List (Str × V)} {y : V} {u t : Value} {Q : Bool → Hp → Prop} (m : OwnM X.K C "__eq__" g) (hn : PySem.W.findIn X.K (.ref C) "__ne__" = some (some (.builtin "object.__ne__"))) (hm : PySem.W.mroIn X.K C (.type "object") = some true) (F : FnR X.prog X.w X.K X.mg X.base CX k g sp) (hr : Room (k + 1) A) (hf : A.frames = X.A.frames)
    (hx : Passes CX X Ek) (Iv : Inv X pins σ H s) (atA : H a = some (.ins C dx fs)) (ry : RelV y u) (ty : ∀ M : Model, PySem.W.Looks M s.heap (typeOf u) t) (nf : PySem.W.notFirst X.K C t = true) (cont : sp [.ref a, y] H (fun v H' => ∃ b, v = .bl b ∧ Q b H') Ek) :
    wpAny (model X.prog X.w) A (richCompare .NotEq (.ref a) u) (fun r s1 => ∃ b, r = .bool (!b) ∧ ∃ H', Inv X pins σ H' s1 ∧ Q b H') X.xe s := by
  obtain ⟨ox, od, J⟩ := inst_of Iv atA
  have one : wpAny (model X.prog X.w) A (tryCompare (.ref a) (cmpInfo .NotEq).2.1 u) (fun r s1 => ∃ b, r = some (.bool (!b)) ∧ ∃ H', Inv X pins σ H' s1 ∧ Q b H') X.xe s := by
    unfold tryCompare
    refine wpAny_bind (bound_bi Iv.kIn J hn PySem.F.slot_object_ne.bind (wpAny_mono (one_ne m hm F hr hf hx Iv atA ry cont) (fun r s1 z => ?_) fun _ _ e => e))
    obtain ⟨b, rfl, z⟩ := z
    exact wpAny_pure ⟨b, rfl, z⟩
  unfold richCompare
  simp only [oneThing_ref]
  refine wpAny_holding (wpAny_bind (wpAny_cRoomFor hr.units0 ?_))
  refine wpAny_bind (J.type.here (wpAny_bind ((ty _).here ?_)))
  split
  · rename_i z
    have e : PySem.W.subIn X.K t (.ref C) = some false := by
      rcases Bool.or_eq_true_iff.mp nf with e | e
      · rw [beq_iff_eq.mp e] at z
        simp at z
      · exact beq_iff_eq.mp e
    refine wpAny_bind ((PySem.W.looks_subIn Iv.kIn e).here ?_)
    simp only [Bool.false_eq_true,
        if_false]
    refine wpAny_bind (wpAny_mono one (fun r s1 zz => ?_) fun _ _ e => e)
    obtain ⟨b, rfl, zz⟩ := zz
    exact wpAny_pure ⟨b, rfl, zz⟩
  · refine wpAny_bind
        (wpAny_pure ?_)
    simp only [Bool.false_eq_true,
        if_false]
    refine wpAny_bind (wpAny_mono one (fun r s1 zz => ?_) fun _ _ e => e)
    obtain ⟨b, rfl, zz⟩ := zz
    exact wpAny_pure ⟨b, rfl, zz⟩
end
end DuX
/-! o != v; bool(o) by the own __len__ -/
namespace DuX
open PySem PySem.Spec
open PyProof.Rows L2
section
variable {X : Cx} {CX : CXT} {k : Nat} {g C : Addr} {sp : Sp} {Ek : XK} {pins : List (Addr × Obj)} {σ : L2.St} {H : Hp} {s : Shared}
/-- what the class at C has from object: its != -/
structure NeM (K : PySem.W.Frag) (C : Addr) : Prop where
  ne : PySem.W.findIn K (.ref C) "__ne__" = some (some (.builtin "object.__ne__"))
  mro : PySem.W.mroIn K C (.type "object") = some true
theorem op_neO (m : OwnM X.K C "__eq__" g) (n : NeM X.K C) (F : FnR X.prog X.w X.K X.mg X.base CX k g sp) (hr : Room (k + 1) X.A) (hx : Passes CX X Ek) :
    OpR X (compareOp .NotEq) (fun x y H Q => ∃ a dx fs t, x = .ref a ∧ H a = some (.ins C dx fs) ∧ (∀ pins σ s u, Inv X pins σ H s → RelV y u → ∀ M : Model, PySem.W.Looks M s.heap (typeOf u) t) ∧ PySem.W.notFirst X.K C t = true ∧ sp [.ref a, y] H (fun v H' => ∃ b, v = .bl b ∧ Q (.bl (!b)) H') Ek) := by
  intro pins s σ H x y u v Q Iv rx ry h
  obtain ⟨a, dx, fs, t, rfl, ha, ty, nf, q⟩ := h
  cases rx
  refine wpAny_mono (rc_ne (Q := fun b H' => Q (.bl (!b)) H') m n.ne n.mro F hr rfl hx Iv ha ry (ty pins σ s _ Iv ry) nf q) (fun r s1 z => ?_) fun _ _ e => e
  obtain ⟨b, rfl, H1, I1, q1⟩ := z
  exact ⟨.bl (!b), H1, I1, rfl, q1⟩
/-- the truth of o, by its __len__ -/
theorem truthy_lenO {A : Around} {a dx : Addr} {fs : List (Str × V)} {Q : Bool → Hp → Prop} (m : OwnM X.K C "__len__" g) (nb : PySem.W.findIn X.K (.ref C) "__bool__" = some none) (F : FnR X.prog X.w X.K X.mg X.base CX k g sp) (hr : Room (k + 1) A) (hf : A.frames = X.A.frames) (hx : Passes CX X Ek) (Iv : Inv X pins σ H s) (ha : H a = some (.ins C dx fs))
    (q : sp [.ref a] H (fun v H' => ∃ n : Nat, v = .int n ∧ n < 2 ^ 62 ∧ Q (n != 0) H') Ek) :
    wpAny (model X.prog X.w) A (truthy (.ref a)) (fun b s1 => ∃ H', Inv X pins σ H' s1 ∧ Q b H') X.xe s := by
  obtain ⟨ox, od, J⟩ := inst_of Iv ha
  have len : wpAny (model X.prog X.w) A (runValue (.builtin "len" ⟨[.ref a], []⟩)) (fun r s1 => ∃ (n : Nat) (t : Tok), r = .int n t ∧ ∃ H', Inv X pins σ H' s1 ∧ Q (n != 0) H') X.xe s := by
    refine wpAny_runValue (codeAny_builtin
        entry_len ?_)
    rw [Around.under_plainId
        plain_len _]
    unfold Builtin.«len»
    refine wpAny_bind (m := oneArg
        "len" _) (wpAny_pure ?_)
    refine wpAny_bind (m := callSpecial? (.ref a) (Str.ofString "__len__")) (PySem.W.special_fn Iv.kIn J m.at_ (beq_iff_eq.mp m.fn) (wpAny_mono (run_below F hr.in1 hf hx Iv (vs := [V.ref a]) (.cons rfl .nil) q) (fun r s' z => ?_) fun _ _ y => y))
    obtain ⟨v, H1, I1, rv, n, rfl, hn, q1⟩ := z
    obtain ⟨t, rfl⟩ := rv
    refine wpAny_bind (wpAny_holding
        (wpAny_pure ?_))
    refine wpAny_bind
        (wpAny_letGo ?_)
    show wpAny _ _ (if ((n : Nat) : Int) < 0 then _ else _) _ _ _
    rw [if_neg (by omega)]
    show wpAny _ _ (if ((n : Nat) : Int) ≥ 2 ^ 63 then _ else _) _ _ _
    rw [if_neg (by omega)]
    exact wpAny_bind (wpAny_mkInt (wpAny_pure ⟨n, _, rfl, H1, I1.tok _, q1⟩))
  unfold truthy
  refine wpAny_bind (m := callSpecial? (.ref a) (Str.ofString "__bool__")) (wpAny_bind (wpAny_bind (J.type.here ((PySem.W.looks_findIn Iv.kIn nb).here (wpAny_pure ?_)))))
  refine wpAny_bind (wpAny_bind (J.type.here ((PySem.W.looks_findIn Iv.kIn m.at_).here ?_)))
  refine wpAny_bind (wpAny_mono len (fun r s1 z => ?_) fun _ _ e => e)
  obtain ⟨n, t, rfl, H1, I1, q1⟩ := z
  have e : ((n : Int) != 0) = (n != 0) := by
    cases n with
    | zero => rfl
    | succ n => rfl
  show wpAny _ _ (pure ((n : Int) != 0)) _ _ _
  rw [e]
  exact wpAny_pure ⟨H1, I1, q1⟩
/-- bool(o) -/
theorem call_boolO (m : OwnM X.K C "__len__" g) (nb : PySem.W.findIn X.K (.ref C) "__bool__" = some none) (F : FnR X.prog X.w X.K X.mg X.base CX k g sp) (hr : Room (k + 3) X.A) (hx : Passes CX X Ek) :
    CallR X (.type "bool") (fun xs H Q => ∃ a dx fs, xs = [.ref a] ∧ H a = some (.ins C dx fs) ∧ sp [.ref a] H (fun v H' => ∃ n : Nat, v = .int n ∧ n < 2 ^ 62 ∧ Q (.bl (n != 0)) H') Ek) := by
  intro pins s σ H xs us Q Iv r h
  obtain ⟨a, dx, fs,
      rfl, ha, q⟩ := h
  rw [Vals.ref1 r]
  have f1 := PySem.F.conv_sub_bool
  refine callType_codes (T := "bool") (Bi := Builtin.«object.__init__») (Q₁ := fun r s₁ => ∃ b, r = .bool b ∧ ∃ H', Inv X pins σ H' s₁ ∧ Q (.bl b) H') PySem.F.called_bool (PySem.F.typeCall_bool_1 _) PySem.F.entry_object_init ?_ ?_
  · refine codeAny_of_tree ?_
    show wpAny _ X.A.in1.in1 (do checkBuiltinCall "bool.__new__" ⟨[.type "bool", .ref a], []⟩; again (.builtin "bool.__new__" ⟨[.type "bool", .ref a], []⟩)) _ _ s
    refine wpAny_bind (wpAny_of_eq (PySem.F.newCall_bool_1 _) (wpAny_pure ⟨plainId_quiet (by decide +kernel) _, codeAny_builtin PySem.F.entry_bool_new ?_⟩))
    rw [Around.under_plainId
        (by decide +kernel) _]
    unfold Builtin.«bool.__new__»
    refine wpAny_bind (m := isType (.type "bool")) (wpAny_pure ?_)
    simp only [Bool.not_true,
        Bool.false_eq_true, if_false]
    refine wpAny_bind (wpAny_of_eq f1 ?_)
    simp only [Bool.not_true,
        Bool.false_eq_true, if_false]
    refine wpAny_bind (m := someArgs "bool" 0 1 _) (wpAny_pure ?_)
    refine wpAny_bind (wpAny_mono (truthy_lenO (Q := fun b H' => Q (.bl b) H') m nb F hr.in1.in1 rfl hx Iv ha q) (fun b s1 z => ?_) fun _ _ e => e)
    exact wpAny_pure ⟨b, rfl, z⟩
  · rintro obj s₁ ⟨b, rfl, H1, I1, q1⟩
    exact ⟨rfl, PySem.F.args_object_init_2 _ _, object_init_meets PySem.F.called_bool.init.lookup PySem.F.called_bool.made (by decide) X.prog X.w X.A.in1 _ s₁ ⟨rfl, rfl, .bl b, H1, I1, rfl, q1⟩⟩
end
end DuX
/-! repr of data of any depth -/
namespace RpD
open PySem PySem.Spec
open PyProof.Rows L2
section
variable {X : Cx}
structure Shows (d : PyData) : Prop where
  sh : d.showable = true
  nd : d.hasDict = false
  dp : d.depth ≤ 20
  sz : d.shown.length ≤ sizeLine
/-- repr(x) -/
theorem call_reprD (hg : X.A.guards = some []) (hu : X.A.units + 100 < cLine) : CallR X (.builtin "repr") (fun xs H Q => ∃ x d, xs = [x] ∧ Dp X.K H x d ∧ Shows d ∧ Q (.str d.shown) H) := by
  intro pins s σ H xs us Q Iv r h
  obtain ⟨x, d, rfl, hd, S, q⟩ := h
  cases r with
  | cons r rr =>
    cases rr
    rename_i u
    obtain ⟨as, R⟩ := Dp.reads Iv d x u hd r
    have dp := S.dp
    have go : ∀ {a : Addr}, u = .ref a → wpAny (model X.prog X.w) X.A (call (.builtin "repr") [u]) (EP X pins σ Q) X.xe s := fun {a} e => by
      subst e
      refine repr_of_reads' R S.sh (fun e => by rw [S.nd] at e; cases e) hg (by omega) (fun _ _ e => e) (fun h' t tk kp => ⟨.str d.shown, H, Iv.kept kp, ⟨t, rfl⟩, q⟩) S.sz
    cases hd with
    | non =>
      cases r
      exact P.repr_of_none ⟨.str _, H, Iv.tok _, ⟨_, rfl⟩, q⟩
    | bl b =>
      cases r
      exact P.repr_of_bool ⟨.str _, H, Iv.tok _, ⟨_, rfl⟩, q⟩
    | int i =>
      obtain ⟨t, rfl⟩ := r
      have e : i.natAbs.log2 < 1920 := by simpa [PyData.showable] using S.sh
      exact P.repr_of_int e ⟨.str _, H, Iv.tok _, ⟨_, rfl⟩, q⟩
    | str z =>
      obtain ⟨t, rfl⟩ := r
      exact P.repr_of_str ⟨.str _, H, Iv.tok _, ⟨_, rfl⟩, q⟩ S.sz
    | lst h1 h2 =>
      cases r
      exact go rfl
    | tup h1 h2 =>
      cases r
      exact go rfl
end
/-! ### how long a text of data is -/
mutual
def wide : PyData → Nat
  | .none => 5
  | .bool _ => 5
  | .int _ => 5
  | .str x => 10 * x.length + 2
  | .list xs => wideAll xs + 3
  | .tuple xs => wideAll xs + 3
  | .dict _ => 0
def wideAll : List PyData → Nat
  | [] => 0
  | x :: xs => wide x + 2 + wideAll xs
end
mutual
def plainD : PyData → Bool
  | .none => true
  | .bool _ => true
  | .int i => decide (0 ≤ i ∧ i < 1000)
  | .str x => x.cps.toList.all
      fun c => decide (c < 16 ^ 8)
  | .list xs => plainAll xs
  | .tuple xs => plainAll xs
  | .dict _ => false
def plainAll :
    List PyData → Bool
  | [] => true
  | x :: xs => plainD x && plainAll xs
end
theorem dec1000 : ((List.range 1000).all fun n => decide ((toString (n : Int) : Str).length ≤ 5)) = true := by decide +kernel
theorem shown_int {i : Int} (h : 0 ≤ i ∧ i < 1000) : (toString i : Str).length ≤ 5 := by
  have q := (List.all_eq_true.mp dec1000) i.toNat (List.mem_range.mpr (by omega))
  have e : ((i.toNat : Nat) : Int) = i := by omega
  rw [e] at q
  exact of_decide_eq_true q
theorem log_small {i : Int} (h : 0 ≤ i ∧ i < 1024) : i.natAbs.log2 < 1920 := by
  by_cases h0 : i.natAbs = 0
  · rw [h0]
    decide
  · refine (Nat.log2_lt h0).mpr ?_
    refine Nat.lt_of_lt_of_le (show i.natAbs < 2 ^ 10 by omega) (Nat.pow_le_pow_right (by decide) (by decide))
mutual
theorem shown_le : ∀ d : PyData, plainD d = true → d.shown.length ≤ wide d ∧ d.showable = true ∧ d.hasDict = false
  | .none, _ => ⟨by decide +kernel, rfl, rfl⟩
  | .bool b, _ => ⟨by cases b <;> decide +kernel, rfl, rfl⟩
  | .int i, h => by
    have q : 0 ≤ i ∧ i < 1000 := of_decide_eq_true h
    exact ⟨shown_int q, decide_eq_true (log_small ⟨q.1, by omega⟩), rfl⟩
  | .str x, h => by
    refine ⟨StrLaws.reprText_len x fun c hc => of_decide_eq_true ((List.all_eq_true.mp h) c hc), rfl, rfl⟩
  | .list xs, h => by
    obtain ⟨a, b, c⟩ := shown_all xs h
    refine ⟨?_, b, c⟩
    show (listText (PyData.shownAll xs)).length ≤ wideAll xs + 3
    have := listText_len_le (PyData.shownAll xs)
    omega
  | .tuple xs, h => by
    obtain ⟨a, b, c⟩ := shown_all xs h
    refine ⟨?_, b, c⟩
    show (tupleText (PyData.shownAll xs)).length ≤ wideAll xs + 3
    have := tupleText_len_le (PyData.shownAll xs)
    omega
  | .dict _, h => by cases h
theorem shown_all : ∀ xs : List PyData, plainAll xs = true → ((PyData.shownAll xs).map (·.length)).sum + 2 * (PyData.shownAll xs).length ≤ wideAll xs ∧ PyData.showableAll xs = true ∧ PyData.hasDictAll xs = false
  | [], _ => ⟨Nat.le_refl _, rfl, rfl⟩
  | x :: xs, h => by
    have h : (plainD x && plainAll xs) = true := h
    rw [Bool.and_eq_true] at h
    obtain ⟨a, b, c⟩ := shown_le x h.1
    obtain ⟨a2, b2, c2⟩ := shown_all xs h.2
    refine ⟨?_, ?_, ?_⟩
    · show ((x.shown :: PyData.shownAll xs).map (·.length)).sum + 2 * (x.shown :: PyData.shownAll xs).length ≤ wide x + 2 + wideAll xs
      rw [List.map_cons, List.sum_cons, List.length_cons]
      omega
    · show (x.showable && PyData.showableAll xs) = true
      rw [b, b2]
      rfl
    · show (x.hasDict || PyData.hasDictAll xs) = false
      rw [c, c2]
      rfl
end
theorem Shows.of {d : PyData} (h : plainD d = true) (hd : d.depth ≤ 20) (hw : wide d ≤ 16000000) : Shows d := by
  obtain ⟨a, b, c⟩ := shown_le d h
  exact ⟨b, c, hd, by rw [sizeLine_eq]; omega⟩
end RpD
namespace K1
open PySem PySem.Spec
open PyProof.Rows L2 EnT StX SmX TxS DuX
abbrev sFromN : Stmt := inClass (top 15) 1
abbrev sReadM : Stmt := inClass (top 15) 2
abbrev sNamesP : Stmt := inClass (top 15) 3
abbrev sStrM : Stmt := inClass (top 15) 4
abbrev sReprM : Stmt := inClass (top 15) 5
abbrev sLenM : Stmt := inClass (top 15) 6
abbrev sHasM : Stmt := inClass (top 15) 8
abbrev sEqM : Stmt := inClass (top 15) 9
/-! ### which class a value is of -/
def baseTys : List String := ["NoneType", "bool", "int", "str", "list", "tuple", "dict"]
structure MemIs (K : PySem.W.Frag) (C : Addr) : Prop where
  ha : PySem.W.findIn K (.ref C) "__class__"
      = some (some (.builtin "object.__class__"))
  hn : PySem.W.specialIn K (.builtin "object.__class__")
      "__get__" = some (some (.builtin "getset_descriptor.__get__"))
  htk : PySem.W.takesIn K (.builtin
      "object.__class__") = some true
  hm : PySem.W.mroIn K C
      (.type "object") = some true
  yes : PySem.W.kitOne K (.ref C) (.ref C) = some true
  no : ∀ t ∈ baseTys, PySem.W.kitOne K (.type t) (.ref C) = some false
  nf : ∀ t ∈ baseTys, PySem.W.notFirst K C (.type t) = true
  nfC : PySem.W.notFirst K C (.ref C) = true
theorem VOk.ty {K : PySem.W.Frag} {H : Hp} {v : V} (h : VOk H v) : ∃ t, t ∈ baseTys ∧ TyX K H v (.type t) := by
  rcases h with ⟨z, rfl, _⟩ | h
  · exact ⟨"str", by decide, .base (.str z)⟩
  cases h with
  | non => exact ⟨"NoneType", by decide, .base .non⟩
  | bl b => exact ⟨"bool", by decide, .base (.bl b)⟩
  | int i => exact ⟨"int", by decide, .base (.int i)⟩
  | lst e => exact ⟨"list", by decide, .base (.lst e)⟩
  | tup e => exact ⟨"tuple", by decide, .base (.tup e)⟩
  | dK e => exact ⟨"dict", by decide, .base (.dK e)⟩
theorem VOk.isStr {K : PySem.W.Frag} {H : Hp} {v : V} (h : VOk H v) : ∃ t b, TyX K H v (.type t) ∧ PySem.W.kitOne K (.type t) (.type "str") = some b ∧ (b = true → ∃ z, v = .str z) ∧ (b = false → NoStr H v) := by
  rcases h with ⟨z, rfl, _⟩ | h
  · exact ⟨"str", true, .base (.str z), kit_ty (by decide +kernel), fun _ => ⟨z, rfl⟩, fun e => by cases e⟩
  have h0 := h
  cases h with
  | non => exact ⟨"NoneType", false, .base .non, kit_ty (by decide +kernel), fun e => (by cases e), fun _ => h0⟩
  | bl b => exact ⟨"bool", false, .base (.bl b), kit_ty (by decide +kernel), fun e => (by cases e), fun _ => h0⟩
  | int i => exact ⟨"int", false, .base (.int i), kit_ty (by decide +kernel), fun e => (by cases e), fun _ => h0⟩
  | lst e => exact ⟨"list", false, .base (.lst e), kit_ty (by decide +kernel), fun e => (by cases e), fun _ => h0⟩
  | tup e => exact ⟨"tuple", false, .base (.tup e), kit_ty (by decide +kernel), fun e => (by cases e), fun _ => h0⟩
  | dK e => exact ⟨"dict", false, .base (.dK e), kit_ty (by decide +kernel), fun e => (by cases e), fun _ => h0⟩
/-! ### facts of names -/
theorem name_short {z : Str} (h : nameB z = true) : z.length ≤ 8 := by
  unfold nameB at h
  by_cases h8 : 8 < z.length
  · rw [if_pos h8] at h
    cases h
  · omega
def sp1 : Str := Str.ofString " "
def joinSp (zs : List Str) : Str := Txt.join sp1 zs
theorem sum_short : ∀ zs : List Str, (∀ z ∈ zs, z.length ≤ 8) → (zs.map (·.length)).sum ≤ zs.length * 8
  | [], _ => Nat.le_refl _
  | z :: r, h => by
    have a := h z List.mem_cons_self
    have b := sum_short r fun y hy => h y (List.mem_cons_of_mem _ hy)
    rw [List.map_cons, List.sum_cons, List.length_cons]
    omega
theorem join_fits {zs : List Str} (h : ∀ z ∈ zs, z.length ≤ 8) (hl : zs.length ≤ 1000) : (zs.map (·.length)).sum + zs.length * (sp1).length ≤ 16777216 := by
  have a := sum_short zs h
  have e : (sp1).length = 1 := by decide +kernel
  rw [e]
  omega
theorem flds_names (t d : Addr) : (flds t d).lookup ("_names" : Str) = some (.ref t) := by
  unfold flds
  rw [lookup_putF, lookup_putF, if_pos rfl, if_neg (by decide +kernel)]
theorem flds_table (t d : Addr) : (flds t d).lookup ("_table" : Str) = some (.ref d) := by
  unfold flds
  rw [lookup_putF, if_pos rfl]
theorem flds_str (t d : Addr) : (flds t d).lookup ("names" : Str) = none := by
  unfold flds
  rw [lookup_putF, lookup_putF, if_neg (by decide +kernel), if_neg (by decide +kernel)]
  rfl
theorem valV_tab {zs : List Str} {z : Str} : (valV (tabOf zs) (Sum.inr z : Key)).isSome = decide (z ∈ zs) := by
  induction zs with
  | nil => rfl
  | cons a r ih =>
    show (valV ((Sum.inr a, V.bl true) :: tabOf r) (Sum.inr z : Key)).isSome = _
    by_cases h : a = z
    · subst h
      have e : valV ((Sum.inr a, V.bl true) :: tabOf r) (Sum.inr a : Key) = some (V.bl true) := by
        unfold valV
        rw [List.find?_cons, decide_eq_true rfl]
        rfl
      rw [e, decide_eq_true List.mem_cons_self]
      rfl
    · rw [valV_neg (fun e => h (Sum.inr.inj e)), ih]
      by_cases m : z ∈ r
      · rw [decide_eq_true m, decide_eq_true (List.mem_cons_of_mem _ m)]
      · rw [decide_eq_false m, decide_eq_false fun q => by
          rcases List.mem_cons.mp q with q | q
          · exact h q.symm
          · exact m q]
/-! ### texts as data -/
def strD (zs : List Str) : List PyData := zs.map PyData.str
theorem dpAll_str {K : PySem.W.Frag} {H : Hp} : ∀ zs : List Str, DpAll K H (zs.map V.str) (strD zs)
  | [] => .nil
  | z :: r => .cons (.str z) (dpAll_str r)
def OkS (zs : List Str) : Prop := ∀ z ∈ zs, PyData.strOk z = true
theorem strD_lay : ∀ zs : List Str, OkS zs → PyData.canLayAll0 (strD zs) = true
  | [], _ => by simp [strD, PyData.canLayAll0]
  | z :: zs, h => by
    have := strD_lay zs fun y hy => h y (List.mem_cons_of_mem _ hy)
    have h1 := h z List.mem_cons_self
    simp only [strD] at this
    simp [strD, PyData.canLayAll0, PyData.canLay0, this, h1]
theorem name_low {z : Str} (h : nameB z = true) : ∀ c ∈ z.cps.toList, c < 128 := by
  unfold nameB at h
  split at h
  · cases h
  split at h
  · cases h
  · rename_i h2
    have e : z.cps.all (· < 128) = true := by
      cases q : Txt.isascii z with
      | true => exact q
      | false => exact absurd q h2
    rw [← Array.all_toList] at e
    exact fun c hc => of_decide_eq_true ((List.all_eq_true.mp e) c hc)
theorem strOk_low {z : Str} (h : ∀ c ∈ z.cps.toList, c < 128) : PyData.strOk z = true := by
  show z.cps.all (· < 0x110000) = true
  rw [← Array.all_toList]
  exact List.all_eq_true.mpr fun c hc => decide_eq_true (Nat.lt_trans (h c hc) (by decide))
theorem okS_names {zs : List Str} (h : ∀ z ∈ zs, nameB z = true) : OkS zs := fun z hz => strOk_low (name_low (h z hz))
theorem strD_depth : ∀ zs : List Str, PyData.depthAll (strD zs) = 0
  | [] => by simp [strD, PyData.depthAll]
  | z :: zs => by
    have := strD_depth zs
    simp only [strD] at this
    simp [strD, PyData.depthAll, PyData.depth, this]
theorem tupD_shaped {zs : List Str} (h : OkS zs) : SeqAt.shaped (.tuple (strD zs)) = true := by
  show (PyData.canLay0 (.tuple (strD zs)) && decide (PyData.depth (.tuple (strD zs)) ≤ 64)) = true
  rw [Bool.and_eq_true]
  refine ⟨by simp only [PyData.canLay0]; exact strD_lay zs h, decide_eq_true ?_⟩
  simp only [PyData.depth]
  rw [strD_depth]
  omega
theorem lstD_shaped {zs : List Str} (h : OkS zs) : SeqAt.shaped (.list (strD zs)) = true := by
  show (PyData.canLay0 (.list (strD zs)) && decide (PyData.depth (.list (strD zs)) ≤ 64)) = true
  rw [Bool.and_eq_true]
  refine ⟨by simp only [PyData.canLay0]; exact strD_lay zs h, decide_eq_true ?_⟩
  simp only [PyData.depth]
  rw [strD_depth]
  omega
theorem strD_eqv : ∀ zs ws : List Str, PyData.eqvAll (strD zs) (strD ws) = decide (zs = ws)
  | [], [] => by simp [strD, PyData.eqvAll]
  | [], w :: ws => by simp [strD, PyData.eqvAll]
  | z :: zs, [] => by simp [strD, PyData.eqvAll]
  | z :: zs, w :: ws => by
    have ih := strD_eqv zs ws
    simp only [strD] at ih
    simp only [strD, List.map_cons, PyData.eqvAll, PyData.eqv, ih]
    by_cases h : z = w
    · subst h
      simp
    · have : (z == w) = false := beq_eq_false_iff_ne.mpr h
      rw [this]
      simp [h]
/-! ### promises -/
def spNamesP (C : Addr) : Sp := fun vs H Q _ => ∃ a zs, vs = [.ref a] ∧ MemAt C H a zs ∧ ∀ t, H t = some (.tup (zs.map V.str)) → Q (.ref t) H
def spStrM (C : Addr) : Sp := fun vs H Q _ => ∃ a zs, vs = [.ref a] ∧ MemAt C H a zs ∧ (∀ z ∈ zs, z.length ≤ 8) ∧ Q (.str (joinSp zs)) H
def spReprM (C : Addr) : Sp := fun vs H Q _ => ∃ a zs, vs = [.ref a] ∧ MemAt C H a zs ∧ Q (.str (Str.empty ++ ("Members(" : Str) ++ (toString (zs.length : Int) : Str) ++ (")" : Str))) H
def spLenM (C : Addr) : Sp := fun vs H Q _ => ∃ a zs, vs = [.ref a] ∧ MemAt C H a zs ∧ Q (.int (zs.length : Nat)) H
def hasV (zs : List Str) : V → Bool
  | .str z => decide (z ∈ zs)
  | _ => false
def spHasM (C : Addr) : Sp := fun vs H Q _ => ∃ a zs v, vs = [.ref a, v] ∧ MemAt C H a zs ∧ VOk H v ∧ Q (.bl (hasV zs v)) H
def spEqM (C : Addr) : Sp := fun vs H Q _ => ∃ a zs y, vs = [.ref a, y] ∧ MemAt C H a zs ∧ ((∃ b ws, y = .ref b ∧ MemAt C H b ws ∧ Q (.bl (decide (zs = ws))) H) ∨ (VOk H y ∧ Q (.bl false) H))
section
variable {w : World} {P : Program} {base : Heap} {mg : Str → Option Value} {K : PySem.W.Frag}
theorem scStrM : FnScope ["self"] ["self"] (defScope sStrM) := ⟨rfl, rfl, rfl, by decide +kernel, rfl, by decide +kernel, by decide +kernel⟩
theorem scReprM : FnScope ["self"] ["self"] (defScope sReprM) := ⟨rfl, rfl, rfl, by decide +kernel, rfl, by decide +kernel, by decide +kernel⟩
theorem scLenM : FnScope ["self"] ["self"] (defScope sLenM) := ⟨rfl, rfl, rfl, by decide +kernel, rfl, by decide +kernel, by decide +kernel⟩
theorem scNamesP : FnScope ["self"] ["self"] (defScope sNamesP) := ⟨rfl, rfl, rfl, by decide +kernel, rfl, by decide +kernel, by decide +kernel⟩
theorem scHasM : FnScope ["self", "value"] ["self", "value"] (defScope sHasM) := ⟨rfl, rfl, rfl, by decide +kernel, rfl, by decide +kernel, by decide +kernel⟩
theorem scEqM : FnScope ["self", "other"] ["self", "other"] (defScope sEqM) := ⟨rfl, rfl, rfl, by decide +kernel, rfl, by decide +kernel, by decide +kernel⟩
theorem ok_namesP {f C : Addr} {fd : FuncData} (F : Fun K "names" "Members.names" sNamesP f fd) (M : MemC K mg C) : FnOk P w K mg base CX0 1 f fd ["self"] (getSp C "_names") := by
  refine F.ok scNamesP (fun vs H Q E h => ?_) (fun cdv A outer s H vs Q E hr h => ?_)
  · obtain ⟨a, dx, fs, v, rfl, _⟩ := h
    rfl
  · obtain ⟨a, dx, fs, v, rfl, ha, l, q⟩ := h
    exact ⟨_, pss_one (ps_ret (pe_fld (pv 0) rfl)), _, rfl, a, C, dx, fs, v, rfl, ha, M.cl, M.nN, l, q⟩
theorem ok_strM {f C : Addr} {fd : FuncData} (F : Fun K "__str__" "Members.__str__" sStrM f fd) (M : MemC K mg C) : FnOk P w K mg base CX0 1 f fd ["self"] (spStrM C) := by
  refine F.ok scStrM (fun vs H Q E h => ?_) (fun cdv A outer s H vs Q E hr h => ?_)
  · obtain ⟨a, zs, rfl, _⟩ := h
    rfl
  · obtain ⟨a, zs, rfl, m, hl, q⟩ := h
    obtain ⟨dx, t, d, h1, h2, h3⟩ := m.at_
    exact ⟨_, pss_one (ps_ret (pe_join pe_str (pe_fld (pv 0) rfl))), ⟨_, rfl⟩, _, rfl, a, C, dx, _, _, rfl, h1, M.cl, M.nN, flds_names t d, _, t, zs, rfl, rfl, .inr (SqT.of h2), join_fits hl m.few, q⟩
theorem ok_lenM {f C : Addr} {fd : FuncData} (F : Fun K "__len__" "Members.__len__" sLenM f fd) (T : Free mg) (M : MemC K mg C) : FnOk P w K mg base CX0 1 f fd ["self"] (spLenM C) := by
  refine F.ok scLenM (fun vs H Q E h => ?_) (fun cdv A outer s H vs Q E hr h => ?_)
  · obtain ⟨a, zs, rfl, _⟩ := h
    rfl
  · obtain ⟨a, zs, rfl, m, q⟩ := h
    obtain ⟨dx, t, d, h1, h2, h3⟩ := m.at_
    refine ⟨_, pss_one (ps_ret (pe_callB call_len_seq (by rfl) T.len PySem.boot_len (pa_cons (pe_fld (pv 0) rfl) pa_nil))), _, rfl, a, C, dx, _, _, rfl, h1, M.cl, M.nN, flds_names t d, t, zs.map V.str, rfl, .inr (SqT.of h2), ?_⟩
    rw [List.length_map]
    exact q
theorem str_short {n : Nat} (h : n ≤ 1000) : (toString (n : Int) : Str).length ≤ 5 := by
  by_cases e : n = 1000
  · subst e
    decide +kernel
  · exact RpD.shown_int (by omega)
theorem ok_reprM {f C : Addr} {fd : FuncData} (F : Fun K "__repr__" "Members.__repr__" sReprM f fd) (T : Free mg) (M : MemC K mg C) : FnOk P w K mg base CX0 1 f fd ["self"] (spReprM C) := by
  refine F.ok scReprM (fun vs H Q E h => ?_) (fun cdv A outer s H vs Q E hr h => ?_)
  · obtain ⟨a, zs, rfl, _⟩ := h
    rfl
  · obtain ⟨a, zs, rfl, m, q⟩ := h
    obtain ⟨dx, t, d, h1, h2, h3⟩ := m.at_
    have few := str_short m.few
    have e0 : (Str.empty ++ ("Members(" : Str)).length = 8 := by decide +kernel
    refine ⟨_, pss_one (ps_ret (pe_joined (.cons pe_str (.cons (pe_fmt (pe_callB call_len_seq (by rfl) T.len PySem.boot_len (pa_cons (pe_fld (pv 0) rfl) pa_nil))) (.cons pe_str .nil))))), ?_⟩
    have e8 : (8 : Nat) ≤ sizeLine := by rw [sizeLine_eq]; decide
    refine ⟨_, rfl, e0 ▸ e8, _, rfl, a, C, dx, _, _, rfl, h1, M.cl, M.nN, flds_names t d, t, zs.map V.str, rfl, .inr (SqT.of h2), .inr ⟨_, rfl, ?_, ?_⟩⟩
    · rw [List.length_map]
      have := m.few
      exact RpD.log_small (i := (zs.length : Nat)) (by omega)
    · rw [List.length_map]
      refine ⟨_, rfl, ?_, _, rfl, ?_, q⟩
      · rw [strLen_append, e0, sizeLine_eq]
        omega
      · rw [strLen_append, strLen_append, e0, sizeLine_eq]
        have : ((")" : Str)).length = 1 := by decide +kernel
        omega
theorem ok_hasM {f C : Addr} {fd : FuncData} (F : Fun K "__contains__" "Members.__contains__" sHasM f fd) (T : Free mg) (M : MemC K mg C) : FnOk P w K mg base CX0 1 f fd ["self", "value"] (spHasM C) := by
  refine F.ok scHasM (fun vs H Q E h => ?_) (fun cdv A outer s H vs Q E hr h => ?_)
  · obtain ⟨a, zs, v, rfl, _⟩ := h
    rfl
  · obtain ⟨a, zs, v, rfl, m, hv, q⟩ := h
    obtain ⟨dx, t, d, h1, h2, h3⟩ := m.at_
    obtain ⟨ty, b, e1, e2, e3, e4⟩ := hv.isStr (K := K)
    refine ⟨_, pss_one (ps_ret (pe_and (pe_callB call_isi (by rfl) T.isinstance (by decide +kernel) (pa_cons (pv 1) (pa_cons (pe_bltn (v := .ty "str") (u := .type "str") (by rfl) T.str (by decide +kernel) rfl) pa_nil))) (pe_one (pe_cmp (pc_din (by have := hr.un; show A.units + 3 + 1 < cLine; have e : (A.deeper (envOfC "Members.__contains__" (defScope sHasM) s.heap.objs.size f cdv)).units = A.units + 3 := rfl; omega) (pv 1) (pe_fld (pv 0) rfl)))))), ?_⟩
    refine ⟨_, rfl, _, _, _, _, b, rfl, .ty _, e1, e2, b, rfl, ?_⟩
    cases b with
    | true =>
      obtain ⟨z, rfl⟩ := e3 rfl
      rw [if_pos rfl]
      refine ⟨_, rfl, _, rfl, a, C, dx, _, _, rfl, h1, M.cl, M.nT, flds_table t d, d, _, rfl, .k (k := Sum.inr z) h3, ?_⟩
      rw [valV_tab]
      exact q
    | false =>
      rw [if_neg (by decide)]
      have n := e4 rfl
      have e : hasV zs v = false := by cases n <;> rfl
      rw [e] at q
      exact q
theorem ok_eqM {f C pN gN : Addr} {fd fdN : FuncData} (F : Fun K "__eq__" "Members.__eq__" sEqM f fd) (T : Free mg) (M : MemC K mg C) (I : MemIs K C) (pr : PropOf K C "names" pN gN) (GN : FnOk P w K mg base CX0 1 gN fdN ["self"] (getSp C "_names")) (FN : Fun K "names" "Members.names" sNamesP gN fdN) :
    FnOk P w K mg base CX0 3 f fd ["self", "other"] (spEqM C) := by
  have bN : Binds K fdN ["self"] [] := FN.binds (ps := ["self"]) fun _ _ _ _ _ _ us hl => match us, hl with | [_], _ => rfl
  refine F.ok scEqM (fun vs H Q E h => ?_) (fun cdv A outer s H vs Q E hr h => ?_)
  · obtain ⟨a, zs, y, rfl, _⟩ := h
    rfl
  · obtain ⟨a, zs, y, rfl, m, h⟩ := h
    obtain ⟨dx, t, d, h1, h2, h3⟩ := m.at_
    refine ⟨_, pss_one (ps_ret (pe_and (pe_callB call_isi (by rfl) T.isinstance (by decide +kernel) (pa_cons (pv 1) (pa_cons (pe_glob (v := .ref C) (by rfl) M.g rfl) pa_nil))) (pe_one (pe_cmpR (op_eqD (by have := hr.un; have e : (A.deeper (envOfC "Members.__eq__" (defScope sEqM) s.heap.objs.size f cdv)).units = A.units + 3 := rfl; show A.units + 3 + 64 < cLine; omega)) (pe_fld (pv 0) rfl) (pe_prop (pv 1) M.cl pr GN hr bN .nil pass0 rfl) (nomark _))))), ?_⟩
    rcases h with ⟨b, ws, rfl, m2, q⟩ | ⟨hv, q⟩
    · obtain ⟨dx2, t2, d2, k1, k2, k3⟩ := m2.at_
      refine ⟨_, rfl, _, _, _, _, true, rfl, .own C, .base (.ins k1 M.cl I.ha I.hn I.htk I.hm), I.yes, true, rfl, ?_⟩
      refine iteT ⟨_, rfl, a, C, dx, _, _, rfl, h1, M.cl, M.nN, flds_names t d, _, rfl, b, dx2, _, rfl, k1, b, dx2, _, _, rfl, k1, flds_names t2 d2, ?_⟩
      refine ⟨.tuple (strD zs), .tuple (strD ws), .tup (SqT.of h2) (dpAll_str zs), .tup (SqT.of k2) (dpAll_str ws), tupD_shaped (okS_names m.nm), tupD_shaped (okS_names m2.nm), ?_⟩
      have e : PyData.eqv (.tuple (strD zs)) (.tuple (strD ws)) = decide (zs = ws) := by
        simp only [PyData.eqv]
        exact strD_eqv zs ws
      rw [e]
      exact q
    · obtain ⟨ty, ht, tx⟩ := hv.ty (K := K)
      refine ⟨_, rfl, _, _, _, _, false, rfl, .own C, tx, I.no ty ht, false, rfl, ?_⟩
      exact iteF q
end
end K1
/-! joined and sorted texts -/
namespace K1
open PySem PySem.Spec
open PyProof.Rows L2
def NotLt (a b : Str) : Prop := ¬ (b.cps.toList < a.cps.toList)
theorem notLt_of {a b : Str} (h : (!ltCps b.cps.toList a.cps.toList) = true) : NotLt a b := by
  rw [ltCps_eq] at h
  simpa [NotLt] using h
theorem notLt_trans {a b c : Str} (h1 : NotLt a b) (h2 : NotLt b c) : NotLt a c := by
  have h1 : a.cps.toList ≤ b.cps.toList := List.not_lt.mp h1
  have h2 : b.cps.toList ≤ c.cps.toList := List.not_lt.mp h2
  exact List.not_lt.mpr (List.le_trans h1 h2)
theorem notLt_anti {a b : Str} (h1 : NotLt a b) (h2 : NotLt b a) : a = b := by
  have h1 : a.cps.toList ≤ b.cps.toList := List.not_lt.mp h1
  have h2 : b.cps.toList ≤ a.cps.toList := List.not_lt.mp h2
  exact TL.ext_tl (List.le_antisymm h1 h2)
theorem rising_pw : ∀ (r : List Str) (p : Str), risingS p r = true → (p :: r).Pairwise NotLt
  | [], p, _ => List.pairwise_cons.mpr ⟨fun _ h => (by cases h), List.Pairwise.nil⟩
  | x :: r, p, h => by
    have h : (!ltCps x.cps.toList p.cps.toList && risingS x r) = true := h
    rw [Bool.and_eq_true] at h
    have ih := rising_pw r x h.2
    have h1 := notLt_of h.1
    refine List.pairwise_cons.mpr ⟨fun y hy => ?_, ih⟩
    rcases List.mem_cons.mp
        hy with e | e
    · rw [e]
      exact h1
    · exact notLt_trans h1 ((List.pairwise_cons.mp ih).1 y e)
theorem sorted_pw {xs : List Str} (h : sortedS xs = true) : xs.Pairwise NotLt := by
  cases xs with
  | nil => exact List.Pairwise.nil
  | cons x r => exact rising_pw r x h
theorem sorted_uniq {xs ys : List Str} (hx : sortedS xs = true) (hy : sortedS ys = true) (nx : xs.Nodup) (ny : ys.Nodup) (m : ∀ z, z ∈ xs ↔ z ∈ ys) : xs = ys :=
  List.Perm.eq_of_pairwise (le := NotLt) (fun a b _ _ h1 h2 => notLt_anti h1 h2) (sorted_pw hx) (sorted_pw hy) ((List.perm_ext_iff_of_nodup nx ny).mpr m)
theorem sorted_pair {a b : Str} {r1 r2 : List Str} (h : sortedS (r1 ++ a :: b :: r2) = true) : NotLt a b := by
  have q := sorted_pw h
  have q2 := (List.pairwise_append.mp q).2.1
  exact (List.pairwise_cons.mp q2).1 b List.mem_cons_self
/-! ### joined by blanks -/
def NoSp (z : Str) : Prop := (32 : Nat) ∉ TL.tl z
theorem tl_sp1 : TL.tl sp1 = [32] := by decide +kernel
theorem sp1_low : sp1.cps.all (· < 256) = true := by decide +kernel
theorem split_sp {zs : List Str} (hne : zs ≠ []) (h : ∀ z ∈ zs, NoSp z) : Txt.split (joinSp zs) sp1 = zs := TL.split_join tl_sp1 sp1_low hne h
theorem alnum_sp : ((List.range 128).all fun c => !(decide (c = 32)) || !Unicode.isAlnum c) = true := by decide +kernel
theorem name_nosp {z : Str} (h : nameB z = true) : NoSp z := by
  have h0 := h
  unfold nameB at h
  split at h
  · cases h
  split at h
  · cases h
  split at h
  · cases h
  · rename_i h3
    have e : Txt.isalnum z = true := by
      cases q : Txt.isalnum z with
      | true => rfl
      | false => exact absurd q h3
    have e : (decide (z.length > 0) && z.cps.all Unicode.isAlnum) = true := e
    rw [Bool.and_eq_true, ← Array.all_toList] at e
    intro m
    have a := (List.all_eq_true.mp e.2) 32 m
    have b : Unicode.isAlnum 32 = false := by decide +kernel
    rw [b] at a
    cases a
theorem name_pos {z : Str} (h : nameB z = true) : 0 < z.length := by
  unfold nameB at h
  split at h
  · cases h
  split at h
  · cases h
  split at h
  · cases h
  · rename_i h3
    have e : Txt.isalnum z = true := by
      cases q : Txt.isalnum z with
      | true => rfl
      | false => exact absurd q h3
    have e : (decide (z.length > 0) && z.cps.all Unicode.isAlnum) = true := e
    rw [Bool.and_eq_true] at e
    exact of_decide_eq_true e.1
theorem join_len : ∀ zs : List Str, (joinSp zs).length ≤ (zs.map (·.length)).sum + zs.length
  | [] => by decide +kernel
  | [z] => by
    show z.length ≤ ([z].map (·.length)).sum + 1
    simp
  | z :: y :: r => by
    have ih := join_len (y :: r)
    have e : joinSp (z :: y :: r) = z ++ sp1 ++ joinSp (y :: r) := by
      unfold joinSp
      rw [TL.join_eq, TL.join_eq]
      rfl
    rw [e, strLen_append, strLen_append]
    have e1 : sp1.length = 1 := by decide +kernel
    rw [List.map_cons, List.sum_cons, List.length_cons]
    omega
theorem join_first {z : Str} {r : List Str} : z.length ≤ (joinSp (z :: r)).length := by
  cases r with
  | nil => exact Nat.le_refl _
  | cons y r =>
    have e : joinSp (z :: y :: r) = z ++ sp1 ++ joinSp (y :: r) := by
      unfold joinSp
      rw [TL.join_eq, TL.join_eq]
      rfl
    rw [e, strLen_append, strLen_append]
    omega
/-- the texts of a text's parts -/
def partsOf (z : Str) : List Str := if z.length = 0 then [] else Txt.split z sp1
theorem join_nil : (joinSp []).length = 0 := by decide +kernel
/-- a text joined of names is read as these names -/
theorem parts_names {zs : List Str} (h : ∀ z ∈ zs, nameB z = true) : partsOf (joinSp zs) = zs := by
  unfold partsOf
  cases zs with
  | nil => rw [if_pos join_nil]
  | cons z r =>
    have p := name_pos (h z List.mem_cons_self)
    have q := join_first (z := z) (r := r)
    rw [if_neg (by omega)]
    exact split_sp (by simp) fun y hy => name_nosp (h y hy)
theorem parts_of {zs : List Str} (hne : zs ≠ []) (h : ∀ z ∈ zs, NoSp z) (hl : (joinSp zs).length ≠ 0) : partsOf (joinSp zs) = zs := by
  unfold partsOf
  rw [if_neg hl]
  exact split_sp hne h
end K1
namespace K1
open PySem PySem.Spec
open PyProof.Rows L2 EnT StX SmX TxS DuX
/-- Members(*xs): what is asked, what is told -/
def spMk (C CN : Addr) : Sp := fun xs H Q E => (∀ v ∈ xs, VOk H v) ∧ xs.length ≤ 1000 ∧ (∀ i, wrongIx xs = some i → ErrAt CN "index" (.int i) H E) ∧ (wrongIx xs = none → ∀ zs : List Str, xs = zs.map V.str → Makes C zs H Q)
theorem ErrAt.same {C : Addr} {f : Str} {v : V} {H H' : Hp} {E : XK} (s : Same H H') (h : ErrAt C f v H E) : ErrAt C f v H' E := fun d H2 s2 n => h d H2 (s.trans s2) n
/-- what __init__ of Members promises, its names starred -/
def spInitR (K : PySem.W.Frag) (C CN : Addr) : Sp := fun vs H Q E => ∃ ws rest, vs = ws ++ rest ∧ ws.length = (["self"] : List Str).length ∧ rest.length ≤ sizeLine ∧ ∀ p, H p = Option.none → spInit0 K C CN (ws ++ [V.ref p]) (upd H p (.tup rest)) Q E
theorem make_of {K : PySem.W.Frag} {C CN : Addr} {xs : List V} {H : Hp} {Q : VK} {E : XK} (h : spMk C CN xs H Q E) :
    ∀ x dx, H x = Option.none → H dx = Option.none → dx ≠ x → spInitR K C CN (V.ref x :: xs) (upd (upd H dx (.own x)) x (.ins C dx [])) (fun v H2 => v = .non ∧ Q (.ref x) H2) E := by
  obtain ⟨hv, hl, he, hq⟩ := h
  intro x dx nx nd ne
  refine ⟨[.ref x], xs, rfl, rfl, by rw [sizeLine_eq]; omega, fun p np => ?_⟩
  have px : p ≠ x := fun e => by
    rw [e, upd_same] at np
    cases np
  have s1 : Same H (upd H dx (.own x)) := same_upd nd
  have s2 : Same (upd H dx (.own x)) (upd (upd H dx (.own x)) x (.ins C dx [])) := same_upd (by rw [upd_ne (Ne.symm ne)]; exact nx)
  have s3 : Same (upd (upd H dx (.own x)) x (.ins C dx [])) (upd (upd (upd H dx (.own x)) x (.ins C dx [])) p (.tup xs)) := same_upd np
  have s : Same H (upd (upd (upd H dx (.own x)) x (.ins C dx [])) p (.tup xs)) := (s1.trans s2).trans s3
  refine ⟨x, p, dx, xs, rfl, by rw [upd_ne (Ne.symm px), upd_same], SqT.of upd_same, fun v hm => (hv v hm).same s, hl, fun i hi => (he i hi).same s, fun hw zs ez ys H' k m M => ⟨rfl, ?_⟩⟩
  exact hq hw zs ez x ys H' nx (fun b o e => k b o (ne_of_none e nx) (s b o e)) m M
/-- the same, what follows told of the place -/
theorem make_at {K : PySem.W.Frag} {C CN : Addr} {xs : List V} {H : Hp} {QA : Addr → Hp → Prop} {E : XK} (h : spMk C CN xs H (fun v H2 => ∃ p, v = .ref p ∧ QA p H2) E) :
    ∀ x dx, H x = Option.none → H dx = Option.none → dx ≠ x → spInitR K C CN (V.ref x :: xs) (upd (upd H dx (.own x)) x (.ins C dx [])) (fun v H2 => v = .non ∧ QA x H2) E := fun x dx nx nd ne => by
  obtain ⟨ws, rest, e1, e2, e3, e4⟩ := make_of (K := K) h x dx nx nd ne
  refine ⟨ws, rest, e1, e2, e3, fun p np => ?_⟩
  obtain ⟨a1, a2, a3, a4, b1, b2, b3, b4, b5, b6, b7⟩ := e4 p np
  refine ⟨a1, a2, a3, a4, b1, b2, b3, b4, b5, b6, fun hw zs ez ys H' k m M => ?_⟩
  obtain ⟨c1, p', c2, c3⟩ := b7 hw zs ez ys H' k m M
  cases c2
  exact ⟨c1, c3⟩
def spFromT (C CN : Addr) : Sp := fun vs H Q E => ∃ a xs, vs = [.ref a] ∧ H a = some (.tup xs) ∧ spMk C CN xs H Q E
def spFromL (CN : Addr) : Sp := fun vs H Q E => ∃ a xs, vs = [.ref a] ∧ H a = some (.lst xs) ∧ ErrAt CN "index" .non H E
/-- what is known of the class that makes Members -/
structure MakeC (P : Program) (w : World) (K : PySem.W.Frag) (mg : Str → Option Value) (base : Heap) (C CN fI : Addr) : Prop where
  M : Mk K C fI
  F : FnR P w K mg base (L2.CX P w) 4 fI (spInitR K C CN)
section
variable {w : World} {P : Program} {base : Heap} {mg : Str → Option Value} {K : PySem.W.Frag}
theorem scFromN : FnScope ["names"] ["names"] (defScope sFromN) := ⟨rfl, rfl, rfl, by decide +kernel, rfl, by decide +kernel, by decide +kernel⟩
theorem ok_fromT {f fI fE C CN : Addr} {fd fdE : FuncData} (F : Fun K "from_names" "Members.from_names" sFromN f fd) (T : Free mg) (M : MemC K mg C) (MM : MakeC P w K mg base C CN fI) (EN : ErrC K mg "InvalidNames" "index" CN fE) (FE : Fun K "__init__" "InvalidNames.__init__" sErrNames fE fdE) :
    FnOk P w K mg base (L2.CX P w) 6 f fd ["names"] (spFromT C CN) := by
  have bE : Binds K fdE ["self", "index"] [] := FE.binds (ps := ["self", "index"]) fun _ _ _ _ _ _ us hl => match us, hl with | [_, _], _ => rfl
  have GE : FnOk P w K mg base CX0 1 fE fdE ["self", "index"] (spErr CN "index") := ok_errN FE EN
  refine F.okX scFromN (fun vs H Q E h => ?_) (fun cdv A outer s H vs Q E hr h => ?_)
  · obtain ⟨a, xs, rfl, _⟩ := h
    rfl
  · obtain ⟨a, xs, rfl, ha, q⟩ := h
    refine ⟨_, pss_cons (ps_if (pt_not (pt_val (pe_callB call_isi (by rfl) T.isinstance (by decide +kernel) (pa_cons (pv 0) (pa_cons (pe_bltn (v := .ty "tuple") (u := .type "tuple") (by rfl) T.tuple (by decide +kernel) rfl) pa_nil)))))
        (pss_one (ps_raise rfl (takes_of rfl rfl rfl rfl) (pmk_oex EN.ox EN.ini EN.ty GE (hr.mono (by decide)) bE .nil pass0 rfl EN.g (pa_cons pe_non pa_nil)))) pss_nil)
      (pss_one (ps_ret (pe_makeS1 MM.M MM.F hr (by rfl) M.g (passes_call (takes_of rfl rfl rfl rfl) fun _ _ _ _ h => h) (pv 0)))), ?_⟩
    refine ⟨_, rfl, _, _, _, _, true, rfl, .ty _, .base (.tup ha), kit_ty (by decide +kernel), true, rfl, ?_⟩
    refine iteF ?_
    exact ⟨_, rfl, a, xs, rfl, .inl (SqT.of ha), make_of q⟩
theorem ok_fromL {f fI fE C CN : Addr} {fd fdE : FuncData} (F : Fun K "from_names" "Members.from_names" sFromN f fd) (T : Free mg) (M : MemC K mg C) (MM : MakeC P w K mg base C CN fI) (EN : ErrC K mg "InvalidNames" "index" CN fE) (FE : Fun K "__init__" "InvalidNames.__init__" sErrNames fE fdE) :
    FnOk P w K mg base (L2.CX P w) 6 f fd ["names"] (spFromL CN) := by
  have bE : Binds K fdE ["self", "index"] [] := FE.binds (ps := ["self", "index"]) fun _ _ _ _ _ _ us hl => match us, hl with | [_, _], _ => rfl
  have GE : FnOk P w K mg base CX0 1 fE fdE ["self", "index"] (spErr CN "index") := ok_errN FE EN
  refine F.okX scFromN (fun vs H Q E h => ?_) (fun cdv A outer s H vs Q E hr h => ?_)
  · obtain ⟨a, xs, rfl, _⟩ := h
    rfl
  · obtain ⟨a, xs, rfl, ha, qE⟩ := h
    refine ⟨_, pss_cons (ps_if (pt_not (pt_val (pe_callB call_isi (by rfl) T.isinstance (by decide +kernel) (pa_cons (pv 0) (pa_cons (pe_bltn (v := .ty "tuple") (u := .type "tuple") (by rfl) T.tuple (by decide +kernel) rfl) pa_nil)))))
        (pss_one (ps_raise rfl (takes_of rfl rfl rfl rfl) (pmk_oex EN.ox EN.ini EN.ty GE (hr.mono (by decide)) bE .nil pass0 rfl EN.g (pa_cons pe_non pa_nil)))) pss_nil)
      (pss_one (ps_ret (pe_makeS1 MM.M MM.F hr (by rfl) M.g (passes_call (takes_of rfl rfl rfl rfl) fun _ _ _ _ h => h) (pv 0)))), ?_⟩
    refine ⟨_, rfl, _, _, _, _, false, rfl, .ty _, .base (.lst ha), kit_ty (by decide +kernel), false, rfl, ?_⟩
    refine iteT ?_
    refine ⟨(by show 1 ≤ 1000; decide), fun x nx => ⟨x, _, rfl, upd_same, fun d nd ne => ⟨rfl, d, [("index", .non)], upd_same, ?_, ?_, ?_⟩⟩⟩
    · rw [upd_ne ne, upd_same]
    · rw [upd_ne ne] at nd
      exact nd
    · rw [raise_heap nx ne]
      rw [upd_ne ne] at nd
      exact qE d H (Same.refl H) nd
/-- read: a value that is no text -/
def spReadN (CT : Addr) : Sp := fun vs H Q E => ∃ v, vs = [v] ∧ NoStr H v ∧ ErrAt CT "value" v H E
/-- read: a text -/
def spReadT (C CT : Addr) : Sp := fun vs H Q E => ∃ z : Str, vs = [.str z] ∧ z.length + 2 ≤ sizeLine ∧ (partsOf z).length ≤ 1000 ∧ (∀ y ∈ partsOf z, y.length ≤ sizeLine) ∧
  (∀ i, wrongIx ((partsOf z).map V.str) = some i → ErrAt CT "value" (.str z) H E) ∧
  (wrongIx ((partsOf z).map V.str) = none → ∀ (p : Addr) (ys : List Str) (H' : Hp), H p = none → Same H H' → (∀ y, y ∈ ys ↔ y ∈ partsOf z) → MemAt C H' p ys → (joinSp ys ≠ z → ErrAt CT "value" (.str z) H E) ∧ (joinSp ys = z → Q (.ref p) H'))
abbrev nmRead : List Str := ["text", "names", "members"]
theorem scReadM : FnScope nmRead ["text"] (defScope sReadM) := ⟨rfl, rfl, rfl, by decide +kernel, rfl, by decide +kernel, by decide +kernel⟩
theorem ok_readT {f fI fE fW fS C CN CT : Addr} {fd fdE fdW fdS : FuncData} (F : Fun K "read" "Members.read" sReadM f fd) (T : Free mg) (M : MemC K mg C) (MM : MakeC P w K mg base C CN fI) (ET : ErrC K mg "InvalidText" "value" CT fE) (FE : Fun K "__init__" "InvalidText.__init__" sErrText fE fdE)
    (GW : FnOk P w K mg base CX0 2 fW fdW ["values"] (spWrongL K)) (FW : Fun K "wrong_at" "wrong_at" sWrong fW fdW) (mgW : mg "wrong_at" = some (.ref fW)) (mS : OwnM K C "__str__" fS) (FS : FnR P w K mg base CX0 1 fS (spStrM C)) :
    FnOk P w K mg base (L2.CX P w) 6 f fd ["text"] (spReadT C CT) := by
  have bE : Binds K fdE ["self", "value"] [] := FE.binds (ps := ["self", "value"]) fun _ _ _ _ _ _ us hl => match us, hl with | [_, _], _ => rfl
  have bW : Binds K fdW ["values"] [] := FW.binds (ps := ["values"]) fun _ _ _ _ _ _ us hl => match us, hl with | [_], _ => rfl
  have GE : FnOk P w K mg base CX0 1 fE fdE ["self", "value"] (spErr CT "value") := ok_errT FE ET
  refine F.okX scReadM (fun vs H Q E h => ?_) (fun cdv A outer s H vs Q E hr h => ?_)
  · obtain ⟨z, rfl, _⟩ := h
    rfl
  · obtain ⟨z, rfl, hz, hp, hy, qE, q⟩ := h
    refine ⟨_, pss_cons (ps_if (pt_not (pt_val (pe_callB call_isi (by rfl) T.isinstance (by decide +kernel) (pa_cons (pv 0) (pa_cons (pe_bltn (v := .ty "str") (u := .type "str") (by rfl) T.str (by decide +kernel) rfl) pa_nil)))))
        (pss_one (ps_raise rfl (takes_of rfl rfl rfl rfl) (pmk_oex ET.ox ET.ini ET.ty GE (hr.mono (by decide)) bE .nil pass0 rfl ET.g (pa_cons (pv 0) pa_nil)))) pss_nil)
      (pss_cons (ps_set (i := 1) scReadM.nd rfl (.inl rfl) (pe_ifExp (pt_truth (pv 0) (fun _ => rfl)) (pe_split (pv 0) pe_str) (pe_lst pa_nil)))
      (pss_cons (ps_if (pt_cmp (pc_notN (pe_call GW (hr.mono (by decide)) (by rfl) mgW FW.kp bW .nil pass0 (pa_cons (pv 1) pa_nil))))
        (pss_one (ps_raise rfl (takes_of rfl rfl rfl rfl) (pmk_oex ET.ox ET.ini ET.ty GE (hr.mono (by decide)) bE .nil pass0 rfl ET.g (pa_cons (pv 0) pa_nil)))) pss_nil)
      (pss_cons (ps_set (i := 2) scReadM.nd rfl (.inl rfl) (pe_makeS1 MM.M MM.F hr (by rfl) M.g (passes_call (takes_of rfl rfl rfl rfl) fun _ _ _ _ h => h) (pv 1)))
      (pss_cons (ps_if (pt_cmpR op_ne (pe_callTy (call_strO mS FS (hr.mono (by decide)) pass0) (by rfl) T.str (by decide +kernel) (pa_cons (pv 2) pa_nil)) (pv 0) (nomark _))
        (pss_one (ps_raise rfl (takes_of rfl rfl rfl rfl) (pmk_oex ET.ox ET.ini ET.ty GE (hr.mono (by decide)) bE .nil pass0 rfl ET.g (pa_cons (pv 0) pa_nil)))) pss_nil)
      (pss_one (ps_ret (pv 2))))))), ?_⟩
    refine ⟨_, rfl, _, _, _, _, true, rfl, .ty _, .base (.str z), kit_ty (by decide +kernel), true, rfl, ?_⟩
    refine iteF ?_
    refine ⟨_, rfl, _, ⟨by omega, rfl⟩, ?_⟩
    have e0 : ∀ b : Bool, ((z.length : Int) != 0) = b → (b = false ↔ z.length = 0) := fun b e => by
      subst e
      cases hh : ((z.length : Int) != 0)
      · have : (z.length : Int) = 0 := by simpa using hh
        exact ⟨fun _ => by omega, fun _ => rfl⟩
      · have : ¬ (z.length : Int) = 0 := by simpa using hh
        exact ⟨fun e => (by cases e), fun e => absurd (by omega) this⟩
    refine ite2 (fun e => ?_) (fun e => ?_)
    rotate_left
    refine ⟨by show 0 ≤ sizeLine; decide, fun p np => ?_⟩
    have ez : z.length = 0 := (e0 false (by simpa using e)).mp rfl
    have eL : ([] : List V) = (partsOf z).map V.str := by
      unfold partsOf
      rw [if_pos ez]
      rfl
    have eH : upd H p (.lst []) = upd H p (.lst ((partsOf z).map V.str)) := by rw [← eL]
    rw [eH]
    rotate_left
    refine ⟨_, rfl, ⟨_, rfl⟩, z, _, rfl, rfl, by decide +kernel, hz, fun p np => ?_⟩
    have ez : ¬ z.length = 0 := fun q => by
      have := (e0 _ rfl).mpr q
      rw [e] at this
      cases this
    have eL : Txt.split z (Str.ofString " ") = partsOf z := by
      unfold partsOf
      rw [if_neg ez]
      rfl
    rw [eL]
    all_goals
      have sp : Same H (upd H p (.lst ((partsOf z).map V.str))) := same_upd np
      refine ⟨_, rfl, p, _, rfl, SqL.of upd_same, (fun v hv => by
        obtain ⟨y, my, rfl⟩ := List.mem_map.mp hv
        exact .inl ⟨y, rfl, hy y my⟩), fun H1 s1 => ?_⟩
      have sm : Same H H1 := sp.trans s1
      have hp1 : H1 p = some (.lst ((partsOf z).map V.str)) := s1 _ _ upd_same
      refine ⟨_, rfl, ?_⟩
      cases hw : wrongIx ((partsOf z).map V.str) with
      | some i =>
        refine iteT ?_
        refine ⟨_, rfl, (by show 1 ≤ 1000; decide), fun x nx => ⟨x, _, rfl, upd_same, fun d nd ne => ⟨rfl, d, [("value", .str z)], upd_same, ?_, ?_, ?_⟩⟩⟩
        · rw [upd_ne ne, upd_same]
        · rw [upd_ne ne] at nd
          exact nd
        · rw [raise_heap nx ne]
          rw [upd_ne ne] at nd
          exact qE i hw d H1 sm nd
      | none =>
        refine iteF ?_
        refine ⟨_, rfl, p, (partsOf z).map V.str, rfl, .inr (SqL.of hp1), make_at (CN := CN) ?_⟩
        refine ⟨fun v hv => ?_, by rw [List.length_map]; exact hp, fun i hi => (by rw [hw] at hi; cases hi), fun _ zs ez a ys H2 na s2 m MA => ?_⟩
        · obtain ⟨y, my, rfl⟩ := List.mem_map.mp hv
          exact .inl ⟨y, rfl, hy y my⟩
        have ez2 : zs = partsOf z := (List.map_inj_right (fun _ _ h => V.str.inj h)).mp ez.symm
        subst ez2
        have nH : H a = none := by
          cases hh : H a with
          | none => rfl
          | some o =>
            rw [sm _ _ hh] at na
            cases na
        obtain ⟨qn, qy⟩ := q hw a ys H2 nH (sm.trans s2) m MA
        refine ⟨a, rfl, ?_⟩
        obtain ⟨dx, t, d, h1, h2, h3⟩ := MA.at_
        refine ⟨_, rfl, a, dx, _, rfl, h1, a, ys, rfl, MA, fun y hy => name_short (MA.nm y hy), _, rfl, _, rfl, rfl, _, rfl, ?_⟩
        by_cases ej : joinSp ys = z
        · have e5 : (!decide (V.str (joinSp ys) = V.str z)) = false := by rw [ej]; simp
          rw [e5]
          refine iteF ⟨_, rfl, qy ej⟩
        · have e5 : (!decide (V.str (joinSp ys) = V.str z)) = true := by
            rw [decide_eq_false fun h => ej (V.str.inj h)]
            rfl
          rw [e5]
          refine iteT ?_
          refine ⟨_, rfl, (by show 1 ≤ 1000; decide), fun x nx => ⟨x, _, rfl, upd_same, fun d nd ne => ⟨rfl, d, [("value", .str z)], upd_same, ?_, ?_, ?_⟩⟩⟩
          · rw [upd_ne ne, upd_same]
          · rw [upd_ne ne] at nd
            exact nd
          · rw [raise_heap nx ne]
            rw [upd_ne ne] at nd
            exact qn ej d H2 (sm.trans s2) nd
end
end K1
namespace K1
open PySem PySem.Spec
open PyProof.Rows L2 EnT StX SmX TxS DuX
def spMade (C CN : Addr) : Sp := fun vs H Q E => ∃ a xs, vs = [.ref a] ∧ H a = some (.lst xs) ∧ xs.length ≤ 4 ∧ spMk C CN xs H Q E
section
variable {w : World} {P : Program} {base : Heap} {mg : Str → Option Value} {K : PySem.W.Frag}
theorem ok_readN {f fE CT : Addr} {fd fdE : FuncData} (F : Fun K "read" "Members.read" sReadM f fd) (T : Free mg) (ET : ErrC K mg "InvalidText" "value" CT fE) (FE : Fun K "__init__" "InvalidText.__init__" sErrText fE fdE) {fW : Addr} {fdW : FuncData}
    (GW : FnOk P w K mg base CX0 2 fW fdW ["values"] (spWrongL K)) (FW : Fun K "wrong_at" "wrong_at" sWrong fW fdW) (mgW : mg "wrong_at" = some (.ref fW)) {C CN fI fS : Addr} (M : MemC K mg C) (MM : MakeC P w K mg base C CN fI) (mS : OwnM K C "__str__" fS) (FS : FnR P w K mg base CX0 1 fS (spStrM C)) :
    FnOk P w K mg base (L2.CX P w) 6 f fd ["text"] (spReadN CT) := by
  have bE : Binds K fdE ["self", "value"] [] := FE.binds (ps := ["self", "value"]) fun _ _ _ _ _ _ us hl => match us, hl with | [_, _], _ => rfl
  have bW : Binds K fdW ["values"] [] := FW.binds (ps := ["values"]) fun _ _ _ _ _ _ us hl => match us, hl with | [_], _ => rfl
  have GE : FnOk P w K mg base CX0 1 fE fdE ["self", "value"] (spErr CT "value") := ok_errT FE ET
  refine F.okX scReadM (fun vs H Q E h => ?_) (fun cdv A outer s H vs Q E hr h => ?_)
  · obtain ⟨z, rfl, _⟩ := h
    rfl
  · obtain ⟨v, rfl, hv, qE⟩ := h
    refine ⟨_, pss_cons (ps_if (pt_not (pt_val (pe_callB call_isi (by rfl) T.isinstance (by decide +kernel) (pa_cons (pv 0) (pa_cons (pe_bltn (v := .ty "str") (u := .type "str") (by rfl) T.str (by decide +kernel) rfl) pa_nil)))))
        (pss_one (ps_raise rfl (takes_of rfl rfl rfl rfl) (pmk_oex ET.ox ET.ini ET.ty GE (hr.mono (by decide)) bE .nil pass0 rfl ET.g (pa_cons (pv 0) pa_nil)))) pss_nil)
      (pss_cons (ps_set (i := 1) scReadM.nd rfl (.inl rfl) (pe_ifExp (pt_truth (pv 0) (fun _ => rfl)) (pe_split (pv 0) pe_str) (pe_lst pa_nil)))
      (pss_cons (ps_if (pt_cmp (pc_notN (pe_call GW (hr.mono (by decide)) (by rfl) mgW FW.kp bW .nil pass0 (pa_cons (pv 1) pa_nil))))
        (pss_one (ps_raise rfl (takes_of rfl rfl rfl rfl) (pmk_oex ET.ox ET.ini ET.ty GE (hr.mono (by decide)) bE .nil pass0 rfl ET.g (pa_cons (pv 0) pa_nil)))) pss_nil)
      (pss_cons (ps_set (i := 2) scReadM.nd rfl (.inl rfl) (pe_makeS1 MM.M MM.F hr (by rfl) M.g (passes_call (takes_of rfl rfl rfl rfl) fun _ _ _ _ h => h) (pv 1)))
      (pss_cons (ps_if (pt_cmpR op_ne (pe_callTy (call_strO mS FS (hr.mono (by decide)) pass0) (by rfl) T.str (by decide +kernel) (pa_cons (pv 2) pa_nil)) (pv 0) (nomark _))
        (pss_one (ps_raise rfl (takes_of rfl rfl rfl rfl) (pmk_oex ET.ox ET.ini ET.ty GE (hr.mono (by decide)) bE .nil pass0 rfl ET.g (pa_cons (pv 0) pa_nil)))) pss_nil)
      (pss_one (ps_ret (pv 2))))))), ?_⟩
    obtain ⟨t, ty, kt⟩ := hv.ty (K := K)
    refine ⟨_, rfl, _, _, _, _, false, rfl, .ty _, ty, kt, false, rfl, ?_⟩
    refine iteT ?_
    refine ⟨_, rfl, (by show 1 ≤ 1000; decide), fun x nx => ⟨x, _, rfl, upd_same, fun d nd ne => ⟨rfl, d, [("value", v)], upd_same, ?_, ?_, ?_⟩⟩⟩
    · rw [upd_ne ne, upd_same]
    · rw [upd_ne ne] at nd
      exact nd
    · rw [raise_heap nx ne]
      rw [upd_ne ne] at nd
      exact qE d H (Same.refl H) nd
theorem scMade : FnScope ["_law_tags"] ["_law_tags"] (defScope sMade) := ⟨rfl, rfl, rfl, by decide +kernel, rfl, by decide +kernel, by decide +kernel⟩
theorem ok_made {f fI C CN : Addr} {fd : FuncData} (F : Fun K "_law_made" "_law_made" sMade f fd) (T : Free mg) (M : MemC K mg C) (MM : MakeC P w K mg base C CN fI) :
    FnOk P w K mg base (L2.CX P w) 6 f fd ["_law_tags"] (spMade C CN) := by
  refine F.okX scMade (fun vs H Q E h => ?_) (fun cdv A outer s H vs Q E hr h => ?_)
  · obtain ⟨a, xs, rfl, _⟩ := h
    rfl
  · obtain ⟨a, xs, rfl, ha, hl, q⟩ := h
    have hx : Passes (L2.CX P w) (cxOf (L2.CX P w) P w K mg base ["_law_tags"] "_law_made" (defScope sMade) f cdv A outer s H E) E := passes_call (takes_of rfl rfl rfl rfl) fun _ _ _ _ h => h
    refine ⟨_, pss_cons (ps_if (pt_cmpR op_eq (pe_callB call_len_seq (by rfl) T.len PySem.boot_len (pa_cons (pv 0) pa_nil)) pe_int (nomark _)) (pss_one (ps_ret (pe_makeR0 MM.M MM.F hr (by rfl) M.g hx))) pss_nil)
      (pss_cons (ps_if (pt_cmpR op_eq (pe_callB call_len_seq (by rfl) T.len PySem.boot_len (pa_cons (pv 0) pa_nil)) pe_int (nomark _)) (pss_one (ps_ret (pe_makeR MM.M MM.F hr (by rfl) M.g hx (pa_cons (pe_ix ix_list (pv 0) pe_int (fun _ _ => rfl)) pa_nil)))) pss_nil)
      (pss_cons (ps_if (pt_cmpR op_eq (pe_callB call_len_seq (by rfl) T.len PySem.boot_len (pa_cons (pv 0) pa_nil)) pe_int (nomark _)) (pss_one (ps_ret (pe_makeR MM.M MM.F hr (by rfl) M.g hx (pa_cons (pe_ix ix_list (pv 0) pe_int (fun _ _ => rfl)) (pa_cons (pe_ix ix_list (pv 0) pe_int (fun _ _ => rfl)) pa_nil))))) pss_nil)
      (pss_cons (ps_if (pt_cmpR op_eq (pe_callB call_len_seq (by rfl) T.len PySem.boot_len (pa_cons (pv 0) pa_nil)) pe_int (nomark _)) (pss_one (ps_ret (pe_makeR MM.M MM.F hr (by rfl) M.g hx (pa_cons (pe_ix ix_list (pv 0) pe_int (fun _ _ => rfl)) (pa_cons (pe_ix ix_list (pv 0) pe_int (fun _ _ => rfl)) (pa_cons (pe_ix ix_list (pv 0) pe_int (fun _ _ => rfl)) pa_nil)))))) pss_nil)
      (pss_one (ps_ret (pe_makeR MM.M MM.F hr (by rfl) M.g hx (pa_cons (pe_ix ix_list (pv 0) pe_int (fun _ _ => rfl)) (pa_cons (pe_ix ix_list (pv 0) pe_int (fun _ _ => rfl)) (pa_cons (pe_ix ix_list (pv 0) pe_int (fun _ _ => rfl)) (pa_cons (pe_ix ix_list (pv 0) pe_int (fun _ _ => rfl)) pa_nil)))))))))), ?_⟩
    have hS := SqL.of (K := K) ha
    match xs, hl with
    | [], _ =>
      refine ⟨_, rfl, a, _, rfl, .inl hS, rfl, _, rfl, ?_⟩
      refine iteT ?_
      exact make_of q
    | [x], _ =>
      refine ⟨_, rfl, a, _, rfl, .inl hS, rfl, _, rfl, ?_⟩
      refine iteF ?_
      refine ⟨_, rfl, a, _, rfl, .inl hS, rfl, _, rfl, ?_⟩
      refine iteT ?_
      exact ⟨_, rfl, a, _, _, _, rfl, rfl, hS, atI_nat (j := 0) rfl, make_of q⟩
    | [x, y], _ =>
      refine ⟨_, rfl, a, _, rfl, .inl hS, rfl, _, rfl, ?_⟩
      refine iteF ?_
      refine ⟨_, rfl, a, _, rfl, .inl hS, rfl, _, rfl, ?_⟩
      refine iteF ?_
      refine ⟨_, rfl, a, _, rfl, .inl hS, rfl, _, rfl, ?_⟩
      refine iteT ?_
      exact ⟨_, rfl, a, _, _, _, rfl, rfl, hS, atI_nat (j := 0) rfl, _, rfl, a, _, _, _, rfl, rfl, hS, atI_nat (j := 1) rfl, make_of q⟩
    | [x, y, z], _ =>
      refine ⟨_, rfl, a, _, rfl, .inl hS, rfl, _, rfl, ?_⟩
      refine iteF ?_
      refine ⟨_, rfl, a, _, rfl, .inl hS, rfl, _, rfl, ?_⟩
      refine iteF ?_
      refine ⟨_, rfl, a, _, rfl, .inl hS, rfl, _, rfl, ?_⟩
      refine iteF ?_
      refine ⟨_, rfl, a, _, rfl, .inl hS, rfl, _, rfl, ?_⟩
      refine iteT ?_
      exact ⟨_, rfl, a, _, _, _, rfl, rfl, hS, atI_nat (j := 0) rfl, _, rfl, a, _, _, _, rfl, rfl, hS, atI_nat (j := 1) rfl, _, rfl, a, _, _, _, rfl, rfl, hS, atI_nat (j := 2) rfl, make_of q⟩
    | [x, y, z, u], _ =>
      refine ⟨_, rfl, a, _, rfl, .inl hS, rfl, _, rfl, ?_⟩
      refine iteF ?_
      refine ⟨_, rfl, a, _, rfl, .inl hS, rfl, _, rfl, ?_⟩
      refine iteF ?_
      refine ⟨_, rfl, a, _, rfl, .inl hS, rfl, _, rfl, ?_⟩
      refine iteF ?_
      refine ⟨_, rfl, a, _, rfl, .inl hS, rfl, _, rfl, ?_⟩
      refine iteF ?_
      exact ⟨_, rfl, a, _, _, _, rfl, rfl, hS, atI_nat (j := 0) rfl, _, rfl, a, _, _, _, rfl, rfl, hS, atI_nat (j := 1) rfl, _, rfl, a, _, _, _, rfl, rfl, hS, atI_nat (j := 2) rfl, _, rfl, a, _, _, _, rfl, rfl, hS, atI_nat (j := 3) rfl, make_of q⟩
    | _ :: _ :: _ :: _ :: _ :: r, h => exact absurd h (by simp)
end
end K1
namespace K1
open PySem PySem.Spec
open PyProof.Rows L2 EnT StX SmX TxS DuX
theorem VOk.ext {p : Addr} {H H' : Hp} {v : V} (x : Ext p H H') (n : v ≠ .ref p) (h : VOk H v) : VOk H' v := by
  refine h.elim .inl fun g => .inr ?_
  have np : ∀ {a : Addr}, v = .ref a → a ≠ p := fun e z => n (by rw [e, z])
  cases g with
  | non => exact .non
  | bl b => exact .bl b
  | int i => exact .int i
  | lst e => exact .lst (x.at (np rfl) e)
  | tup e => exact .tup (x.at (np rfl) e)
  | dK e => exact .dK (x.at (np rfl) e)
def spOdd : Sp := fun vs H Q _ => ∃ p, vs = [.ref p] ∧ PoolAt H p ∧ ∀ (v : V) (H' : Hp), Ext p H H' → VOk H' v → nameV v = false → v ≠ .ref p → Q v H'
abbrev nmOdd : List Str := ["_law_pool_here", "_law_some"]
section
variable {w : World} {P : Program} {base : Heap} {mg : Str → Option Value} {K : PySem.W.Frag}
theorem scOdd : FnScope nmOdd ["_law_pool_here"] (defScope sOdd) := ⟨rfl, rfl, rfl, by decide +kernel, rfl, by decide +kernel, by decide +kernel⟩
theorem ok_odd {f fD : Addr} {fd fdD : FuncData} (F : Fun K "_law_odd" "_law_odd" sOdd f fd) (T : Free mg) (FD : Fun K "_law_draw" "_law_draw" sDraw fD fdD) (mgD : mg "_law_draw" = some (.ref fD)) :
    FnOk P w K mg base CX0 2 f fd ["_law_pool_here"] spOdd := by
  have GD : FnOk P w K mg base CX0 1 fD fdD ["_law_pool_here", "_law_many"] spDraw := ok_draw FD T
  have bD : Binds K fdD ["_law_pool_here", "_law_many"] [] := FD.binds (ps := ["_law_pool_here", "_law_many"]) fun _ _ _ _ _ _ us hl => match us, hl with | [_, _], _ => rfl
  refine F.ok scOdd (fun vs H Q E h => ?_) (fun cdv A outer s H vs Q E hr h => ?_)
  · obtain ⟨p, rfl, _⟩ := h
    rfl
  · obtain ⟨p, rfl, hp, q⟩ := h
    refine ⟨_, pss_cons (ps_set (i := 1) scOdd.nd rfl (.inl rfl) (pe_lst
        (pa_cons pe_non (pa_cons pe_bl (pa_cons pe_int (pa_cons pe_str (pa_cons pe_str (pa_cons pe_str (pa_cons pe_str (pa_cons pe_str (pa_cons pe_str (pa_cons (pe_tup pa_nil) (pa_cons (pe_lst pa_nil) (pa_cons pe_dnewK (pa_cons (pe_tup (pa_cons pe_str pa_nil)) (pa_cons pe_str (pa_cons pe_str (pa_cons pe_str pa_nil))))))))))))))))))
      (pss_one (ps_ret (pe_ix ix_list (pv 1) (pe_call GD hr rfl mgD FD.kp bD .nil pass0 (pa_cons (pv 0) (pa_cons (pe_callB call_len_seq (by rfl) T.len PySem.boot_len (pa_cons (pv 1) pa_nil)) pa_nil))) (fun _ _ => rfl)))), ?_⟩
    refine ⟨(by show 0 ≤ sizeLine; decide), fun t1 n1 => ⟨(by show 0 ≤ sizeLine; decide), fun l1 n2 => fun D1 n3 => ⟨(by show 1 ≤ sizeLine; decide), fun t2 n4 => ⟨(by show 16 ≤ sizeLine; decide), fun S nS => ?_⟩⟩⟩⟩
    have e1 : Same H (upd H t1 (.tup [])) := same_upd n1
    have e2 : Same (upd H t1 (.tup [])) (upd (upd H t1 (.tup [])) l1 (.lst [])) := same_upd n2
    have e3 : Same (upd (upd H t1 (.tup [])) l1 (.lst [])) (upd (upd (upd H t1 (.tup [])) l1 (.lst [])) D1 (.dK [])) := same_upd n3
    generalize h3 : upd (upd (upd H t1 (.tup [])) l1 (.lst [])) D1 (.dK []) = H3 at e3 n4 nS ⊢
    have k1 : H3 t1 = some (.tup []) := e3 _ _ (e2 _ _ upd_same)
    have k2 : H3 l1 = some (.lst []) := e3 _ _ upd_same
    have k3 : H3 D1 = some (.dK []) := by rw [← h3]; exact upd_same
    have s3 : Same H H3 := (e1.trans e2).trans e3
    clear h3
    have e4 : Same H3 (upd H3 t2 (.tup [V.str (Str.ofString "a")])) := same_upd n4
    generalize h4 : upd H3 t2 (.tup [V.str (Str.ofString "a")]) = H4 at e4 nS ⊢
    have k4 : H4 t2 = some (.tup [V.str (Str.ofString "a")]) := by rw [← h4]; exact upd_same
    clear h4
    have s4 : Same H H4 := s3.trans e4
    have fresh : ∀ {a : Addr}, H a = none → (V.ref a) ≠ .ref p := fun {a} n e => by
      cases e
      obtain ⟨x, y, z, hz⟩ := hp
      rw [n] at hz
      cases hz
    have up1 : ∀ {a b : Addr} {H : Hp} {o : HO}, upd H a o b = none → H b = none := fun {a b H o} n => by
      by_cases e : b = a
      · rw [e, upd_same] at n
        cases n
      · rw [upd_ne e] at n
        exact n
    have f2 : H l1 = none := up1 n2
    have f3 : H D1 = none := up1 (up1 n3)
    have f4 : H t2 = none := by
      cases h : H t2 with
      | none => rfl
      | some o =>
        rw [s3 _ _ h] at n4
        cases n4
    have all : ∀ v ∈ [V.non, .bl true, .int 0, .str (Str.ofString ""), .str (Str.ofString "A"), .str (Str.ofString "9a"), .str (Str.ofString "a b"), .str (Str.ofString "abcdefghi"), .str (Str.ofString "a-"), .ref t1, .ref l1, .ref D1, .ref t2, .str (Str.ofString "\n"), .str (Str.ofString "a_b"), .str (Str.ofString "ab ")], VOk H4 v ∧ nameV v = false ∧ v ≠ .ref p := by
      intro v hv
      simp only [List.mem_cons, List.not_mem_nil, or_false] at hv
      rcases hv with rfl | rfl | rfl | rfl | rfl | rfl | rfl | rfl | rfl | rfl | rfl | rfl | rfl | rfl | rfl | rfl
      · exact ⟨.inr .non, rfl, nofun⟩
      · exact ⟨.inr (.bl _), rfl, nofun⟩
      · exact ⟨.inr (.int _), rfl, nofun⟩
      · exact ⟨.inl ⟨_, rfl, by rw [sizeLine_eq]; decide +kernel⟩, by decide +kernel, nofun⟩
      · exact ⟨.inl ⟨_, rfl, by rw [sizeLine_eq]; decide +kernel⟩, by decide +kernel, nofun⟩
      · exact ⟨.inl ⟨_, rfl, by rw [sizeLine_eq]; decide +kernel⟩, by decide +kernel, nofun⟩
      · exact ⟨.inl ⟨_, rfl, by rw [sizeLine_eq]; decide +kernel⟩, by decide +kernel, nofun⟩
      · exact ⟨.inl ⟨_, rfl, by rw [sizeLine_eq]; decide +kernel⟩, by decide +kernel, nofun⟩
      · exact ⟨.inl ⟨_, rfl, by rw [sizeLine_eq]; decide +kernel⟩, by decide +kernel, nofun⟩
      · exact ⟨.inr (.tup (e4 _ _ k1)), rfl, fresh n1⟩
      · exact ⟨.inr (.lst (e4 _ _ k2)), rfl, fresh f2⟩
      · exact ⟨.inr (.dK (e4 _ _ k3)), rfl, fresh f3⟩
      · exact ⟨.inr (.tup k4), rfl, fresh f4⟩
      · exact ⟨.inl ⟨_, rfl, by rw [sizeLine_eq]; decide +kernel⟩, by decide +kernel, nofun⟩
      · exact ⟨.inl ⟨_, rfl, by rw [sizeLine_eq]; decide +kernel⟩, by decide +kernel, nofun⟩
      · exact ⟨.inl ⟨_, rfl, by rw [sizeLine_eq]; decide +kernel⟩, by decide +kernel, nofun⟩
    have len : [V.non, .bl true, .int 0, .str (Str.ofString ""), .str (Str.ofString "A"), .str (Str.ofString "9a"), .str (Str.ofString "a b"), .str (Str.ofString "abcdefghi"), .str (Str.ofString "a-"), .ref t1, .ref l1, .ref D1, .ref t2, .str (Str.ofString "\n"), .str (Str.ofString "a_b"), .str (Str.ofString "ab ")].length = 16 := rfl
    generalize hx : [V.non, .bl true, .int 0, .str (Str.ofString ""), .str (Str.ofString "A"), .str (Str.ofString "9a"), .str (Str.ofString "a b"), .str (Str.ofString "abcdefghi"), .str (Str.ofString "a-"), .ref t1, .ref l1, .ref D1, .ref t2, .str (Str.ofString "\n"), .str (Str.ofString "a_b"), .str (Str.ofString "ab ")] = xs at all len nS ⊢
    clear hx
    have e5 : Same H4 (upd H4 S (.lst xs)) := same_upd nS
    have x5 : Ext p H (upd H4 S (.lst xs)) := (Ext.refl hp).same (s4.trans e5)
    generalize h5 : upd H4 S (.lst xs) = H5 at e5 x5 ⊢
    have hS : H5 S = some (.lst xs) := by rw [← h5]; exact upd_same
    have Sp : S ≠ p := fun e => by
      obtain ⟨a, b, c, z⟩ := hp
      have := s4 _ _ z
      rw [← e, nS] at this
      cases this
    refine ⟨_, rfl, _, rfl, _, rfl, S, xs, rfl, .inl (SqL.of hS), p, _, rfl, x5.pool, by omega, by omega, fun d H6 x6 d0 d1 => ?_⟩
    have hS6 : H6 S = some (.lst xs) := x6.at Sp hS
    have hd : d.toNat < xs.length := by omega
    have ed : ((d.toNat : Nat) : Int) = d := by omega
    refine ⟨S, xs, d, xs[d.toNat], rfl, rfl, SqL.of hS6, ?_, ?_⟩
    · have z := atI_nat (j := d.toNat) (List.getElem?_eq_getElem hd)
      rw [ed] at z
      exact z
    · obtain ⟨a1, a2, a3⟩ := all xs[d.toNat] (List.getElem_mem hd)
      exact q _ H6 (x5.trans x6) ((a1.same e5).ext x6 a3) a2 a3
end
end K1
namespace K1
open PySem PySem.Spec
open PyProof.Rows L2 EnT StX SmX TxS DuX
/-! ### texts that read refuses -/
theorem join_two {z y : Str} {r : List Str} : joinSp (z :: y :: r) = z ++ sp1 ++ joinSp (y :: r) := by
  unfold joinSp
  rw [TL.join_eq, TL.join_eq]
  rfl
theorem app_assoc (a b c : Str) : a ++ b ++ c = a ++ (b ++ c) := TL.ext_tl (by rw [TL.tl_append, TL.tl_append, TL.tl_append, TL.tl_append, List.append_assoc])
theorem join_snoc {y : Str} : ∀ {zs : List Str}, zs ≠ [] → joinSp (zs ++ [y]) = joinSp zs ++ (sp1 ++ y)
  | [], h => absurd rfl h
  | [z], _ => by
    show joinSp (z :: y :: []) = z ++ (sp1 ++ y)
    rw [join_two, app_assoc]
    rfl
  | z :: x :: r, _ => by
    have ih := join_snoc (y := y) (zs := x :: r) (by simp)
    show joinSp (z :: x :: (r ++ [y])) = joinSp (z :: x :: r) ++ (sp1 ++ y)
    rw [join_two, join_two]
    have e : joinSp (x :: (r ++ [y])) = joinSp (x :: r) ++ (sp1 ++ y) := ih
    rw [e]
    simp only [app_assoc]
def BadWs (ws : List Str) : Prop := (∃ i, wrongIx (ws.map V.str) = some i) ∨ ¬ (sortedS ws = true ∧ ws.Nodup)
structure BadT (ws : List Str) : Prop where
  ne : ws ≠ []
  sp : ∀ z ∈ ws, NoSp z
  sh : ∀ z ∈ ws, z.length ≤ 8
  lo : ∀ z ∈ ws, ∀ c ∈ z.cps.toList, c < 128
  few : ws.length ≤ 20
  pos : (joinSp ws).length ≠ 0
  bad : BadWs ws
theorem parts_sorted {ys : List Str} (h : ∀ y ∈ ys, nameB y = true) {ws : List Str} (hw : ∀ y ∈ ws, nameB y = true) (e : joinSp ys = joinSp ws) : ys = ws := by
  have a := parts_names h
  have b := parts_names hw
  rw [← a, ← b, e]
/-- values that no Members are read from -/
inductive BadV (H : Hp) : V → Prop where
  | non : BadV H .non
  | five : BadV H (.int 5)
  | tup {a : Addr} (e : H a = some (.tup [.str (Str.ofString "a")])) : BadV H (.ref a)
  | lst {a : Addr} (e : H a = some (.lst [.str (Str.ofString "a")])) : BadV H (.ref a)
  | txt {ws : List Str} (b : BadT ws) : BadV H (.str (joinSp ws))
theorem BadV.same {H H' : Hp} {v : V} (s : Same H H') (h : BadV H v) : BadV H' v := by
  cases h with
  | non => exact .non
  | five => exact .five
  | tup e => exact .tup (s _ _ e)
  | lst e => exact .lst (s _ _ e)
  | txt b => exact .txt b
theorem BadV.ext {p : Addr} {H H' : Hp} {v : V} (x : Ext p H H') (n : v ≠ .ref p) (h : BadV H v) : BadV H' v := by
  have np : ∀ {a : Addr}, v = .ref a → a ≠ p := fun e z => n (by rw [e, z])
  cases h with
  | non => exact .non
  | five => exact .five
  | tup e => exact .tup (x.at (np rfl) e)
  | lst e => exact .lst (x.at (np rfl) e)
  | txt b => exact .txt b
theorem wrong_last {zs : List Str} {y : Str} (h : ∀ z ∈ zs, nameB z = true) (hy : nameB y = false) : ∃ i, wrongIx ((zs ++ [y]).map V.str) = some i := by
  cases hw : wrongIx ((zs ++ [y]).map V.str) with
  | some i => exact ⟨i, rfl⟩
  | none =>
    have := names_ok hw y (List.mem_append_right _ (List.mem_singleton.mpr rfl))
    rw [hy] at this
    cases this
theorem wrong_in {zs : List Str} {y : Str} (hm : y ∈ zs) (hy : nameB y = false) : ∃ i, wrongIx (zs.map V.str) = some i := by
  cases hw : wrongIx (zs.map V.str) with
  | some i => exact ⟨i, rfl⟩
  | none =>
    have := names_ok hw y hm
    rw [hy] at this
    cases this
theorem join_pos {zs : List Str} {y : Str} (hm : y ∈ zs) (hy : 0 < y.length) : (joinSp zs).length ≠ 0 := by
  induction zs with
  | nil => cases hm
  | cons z r ih =>
    cases r with
    | nil =>
      rcases List.mem_cons.mp
          hm with e | e
      · subst e
        show y.length ≠ 0
        omega
      · cases e
    | cons x r =>
      rw [join_two, strLen_append, strLen_append]
      have : sp1.length = 1 := by decide +kernel
      omega
structure NmL (zs : List Str) : Prop where
  nm : ∀ z ∈ zs, nameB z = true
  ne : zs ≠ []
  few : zs.length ≤ 10
theorem lit_sp {y : Str} (h : (TL.tl y).all (fun c => decide (c < 128) && !decide (c = 32)) = true) : NoSp y ∧ ∀ c ∈ y.cps.toList, c < 128 := by
  refine ⟨fun m => ?_, fun c hc => ?_⟩
  · have := (List.all_eq_true.mp h) 32 m
    simp at this
  · have := (List.all_eq_true.mp h) c hc
    simp at this
    exact this.1
theorem bad_snoc {zs : List Str} (N : NmL zs) (us : List Str) (hu : (us.all fun y => (TL.tl y).all (fun c => decide (c < 128) && !decide (c = 32)) && decide (y.length ≤ 8)) = true) (hl : us.length ≤ 5) (hb : BadWs (zs ++ us)) : BadT (zs ++ us) := by
  have q : ∀ y ∈ us, (NoSp y ∧ ∀ c ∈ y.cps.toList, c < 128) ∧ y.length ≤ 8 := fun y hy => by
    have := (List.all_eq_true.mp hu) y hy
    rw [Bool.and_eq_true] at this
    exact ⟨lit_sp this.1, of_decide_eq_true this.2⟩
  obtain ⟨z, hz⟩ := List.exists_mem_of_ne_nil zs N.ne
  refine ⟨fun e => N.ne (List.append_eq_nil_iff.mp e).1, fun y hy => ?_, fun y hy => ?_, fun y hy => ?_, by rw [List.length_append]; have := N.few; omega, join_pos (List.mem_append_left _ hz) (name_pos (N.nm z hz)), hb⟩
  · rcases List.mem_append.mp hy with e | e
    · exact name_nosp (N.nm y e)
    · exact (q y e).1.1
  · rcases List.mem_append.mp hy with e | e
    · exact name_short (N.nm y e)
    · exact (q y e).2
  · rcases List.mem_append.mp hy with e | e
    · exact name_low (N.nm y e)
    · exact (q y e).1.2
theorem zz_order : NotLt (Str.ofString "zzz") (Str.ofString "zz") → False := fun h => h (by decide +kernel)
end K1
namespace K1
open PySem PySem.Spec
open PyProof.Rows L2 EnT StX SmX TxS DuX
def spBad : Sp := fun vs H Q _ => ∃ p l zs, vs = [.ref p, .ref l] ∧ PoolAt H p ∧ l ≠ p ∧ H l = some (.lst (zs.map V.str)) ∧ NmL zs ∧ ∀ (v : V) (H' : Hp), Ext p H H' → v ≠ .ref p → BadV H' v → Q v H'
abbrev nmBad : List Str := ["_law_pool_here", "_law_tags", "_law_row_text", "_law_some"]
abbrev tE : Str := ""
abbrev tA : Str := "A"
abbrev tZ2 : Str := "zz"
abbrev tZ3 : Str := "zzz"
abbrev ta : Str := "a"
abbrev tb : Str := "b"
def badTexts (zs : List Str) : List (List Str) := [[tE, tE], zs ++ [tE], tE :: zs, zs ++ [tA], zs ++ [tE, tZ2], [tb, ta], [ta, ta]]
theorem bad_all {zs : List Str} (N : NmL zs) : ∀ ws ∈ badTexts zs, BadT ws := by
  intro ws hw
  simp only [badTexts, List.mem_cons, List.not_mem_nil, or_false] at hw
  have e0 : nameB tE = false := by decide +kernel
  rcases hw with rfl | rfl | rfl | rfl | rfl | rfl | rfl
  · refine ⟨by simp, fun z hz => ?_, fun z hz => ?_, fun z hz => ?_, by decide, by decide +kernel, .inl (wrong_in List.mem_cons_self e0)⟩
    all_goals
      have e : z = tE := by simpa using hz
      subst e
    · exact (lit_sp (y := tE) (by decide +kernel)).1
    · decide +kernel
    · exact (lit_sp (y := tE) (by decide +kernel)).2
  · exact bad_snoc N [tE] (by decide +kernel) (by decide) (.inl (wrong_last N.nm e0))
  · obtain ⟨z0, hz0⟩ := List.exists_mem_of_ne_nil zs N.ne
    refine ⟨by simp, fun z hz => ?_, fun z hz => ?_, fun z hz => ?_, by rw [List.length_cons]; have := N.few; omega, join_pos (List.mem_cons_of_mem _ hz0) (name_pos (N.nm z0 hz0)), .inl (wrong_in List.mem_cons_self e0)⟩
    · rcases List.mem_cons.mp hz with rfl | e
      · exact (lit_sp (y := tE) (by decide +kernel)).1
      · exact name_nosp (N.nm z e)
    · rcases List.mem_cons.mp hz with rfl | e
      · decide +kernel
      · exact name_short (N.nm z e)
    · rcases List.mem_cons.mp hz with rfl | e
      · exact (lit_sp (y := tE) (by decide +kernel)).2
      · exact name_low (N.nm z e)
  · exact bad_snoc N [tA] (by decide +kernel) (by decide) (.inl (wrong_last N.nm (by decide +kernel)))
  · exact bad_snoc N [tE, tZ2] (by decide +kernel) (by decide) (.inl (wrong_in (y := tE) (by simp) e0))
  · refine ⟨by simp, fun z hz => ?_, fun z hz => ?_, fun z hz => ?_, by decide, by decide +kernel, .inr fun h => ?_⟩
    all_goals first
      | (have e : z = tb ∨ z = ta := by simpa using hz
         rcases e with rfl | rfl
         all_goals first | exact (lit_sp (by decide +kernel)).1 | exact (lit_sp (by decide +kernel)).2 | decide +kernel)
      | skip
    exact absurd h.1 (by decide +kernel)
  · refine ⟨by simp, fun z hz => ?_, fun z hz => ?_, fun z hz => ?_, by decide, by decide +kernel, .inr fun h => ?_⟩
    all_goals first
      | (have e : z = ta := by simpa using hz
         subst e
         first | exact (lit_sp (by decide +kernel)).1 | exact (lit_sp (by decide +kernel)).2 | decide +kernel)
      | skip
    have := h.2
    simp at this
theorem bad_pair {zs : List Str} (N : NmL zs) : BadT (zs ++ [tZ3, tZ2]) := bad_snoc N [tZ3, tZ2] (by decide +kernel) (by decide) (.inr fun h => zz_order (sorted_pair (r1 := zs) (r2 := []) h.1))
theorem text1 {zs : List Str} (N : NmL zs) : joinSp zs ++ (Str.ofString " ") = joinSp (zs ++ [tE]) := by
  rw [join_snoc N.ne]
  congr 1
theorem text2 {zs : List Str} (N : NmL zs) : (Str.ofString " ") ++ joinSp zs = joinSp (tE :: zs) := by
  obtain ⟨z, r, rfl⟩ : ∃ z r, zs = z :: r := by
    cases zs with
    | nil => exact absurd rfl N.ne
    | cons z r => exact ⟨z, r, rfl⟩
  rw [join_two]
  congr 1
theorem text3 {zs : List Str} (N : NmL zs) : joinSp zs ++ (Str.ofString " A") = joinSp (zs ++ [tA]) := by
  rw [join_snoc N.ne]
  congr 1
theorem text4 {zs : List Str} (N : NmL zs) : joinSp zs ++ (Str.ofString "  zz") = joinSp (zs ++ [tE, tZ2]) := by
  have e : zs ++ [tE, tZ2] = (zs ++ [tE]) ++ [tZ2] := by simp
  rw [e, join_snoc (by simp), join_snoc N.ne, app_assoc]
  congr 1
theorem text5 {zs : List Str} (N : NmL zs) : joinSp zs ++ (Str.ofString " zzz zz") = joinSp (zs ++ [tZ3, tZ2]) := by
  have e : zs ++ [tZ3, tZ2] = (zs ++ [tZ3]) ++ [tZ2] := by simp
  rw [e, join_snoc (by simp), join_snoc N.ne, app_assoc]
  congr 1
section
variable {w : World} {P : Program} {base : Heap} {mg : Str → Option Value} {K : PySem.W.Frag}
theorem scBad : FnScope nmBad ["_law_pool_here", "_law_tags"] (defScope sBad) := ⟨rfl, rfl, rfl, by decide +kernel, rfl, by decide +kernel, by decide +kernel⟩
theorem ok_bad {f fD : Addr} {fd fdD : FuncData} (F : Fun K "_law_bad_text" "_law_bad_text" sBad f fd) (T : Free mg) (FD : Fun K "_law_draw" "_law_draw" sDraw fD fdD) (mgD : mg "_law_draw" = some (.ref fD)) :
    FnOk P w K mg base CX0 2 f fd ["_law_pool_here", "_law_tags"] spBad := by
  have GD : FnOk P w K mg base CX0 1 fD fdD ["_law_pool_here", "_law_many"] spDraw := ok_draw FD T
  have bD : Binds K fdD ["_law_pool_here", "_law_many"] [] := FD.binds (ps := ["_law_pool_here", "_law_many"]) fun _ _ _ _ _ _ us hl => match us, hl with | [_, _], _ => rfl
  refine F.ok scBad (fun vs H Q E h => ?_) (fun cdv A outer s H vs Q E hr h => ?_)
  · obtain ⟨p, l, zs, rfl, _⟩ := h
    rfl
  · obtain ⟨p, l, zs, rfl, hp, hlp, hl, N, q⟩ := h
    refine ⟨_, pss_cons (ps_set (i := 2) scBad.nd rfl (.inl rfl) (pe_join pe_str (pv 1)))
      (pss_cons (ps_set (i := 3) scBad.nd rfl (.inl rfl) (pe_lst (pa_cons pe_non (pa_cons pe_int (pa_cons (pe_tup (pa_cons pe_str pa_nil)) (pa_cons pe_str (pa_cons (pe_op op_add_str (pv 2) pe_str) (pa_cons (pe_op op_add_str pe_str (pv 2)) (pa_cons (pe_op op_add_str (pv 2) pe_str) (pa_cons (pe_op op_add_str (pv 2) pe_str) (pa_cons pe_str (pa_cons pe_str pa_nil)))))))))))) 
      (pss_cons (ps_set (i := 3) scBad.nd rfl (.inl rfl) (pe_op op_cat (pv 3) (pe_lst (pa_cons (pe_op op_add_str (pv 2) pe_str) (pa_cons (pe_lst (pa_cons pe_str pa_nil)) pa_nil)))))
      (pss_one (ps_ret (pe_ix ix_list (pv 3) (pe_call GD hr rfl mgD FD.kp bD .nil pass0 (pa_cons (pv 0) (pa_cons (pe_callB call_len_seq (by rfl) T.len PySem.boot_len (pa_cons (pv 3) pa_nil)) pa_nil))) (fun _ _ => rfl)))))), ?_⟩
    have sh : ∀ z ∈ zs, z.length ≤ 8 := fun z hz => name_short (N.nm z hz)
    have jl : (joinSp zs).length ≤ 100 := by
      have a := join_len zs
      have b := sum_short zs sh
      have c := N.few
      omega
    refine ⟨⟨_, rfl⟩, _, rfl, _, l, zs, rfl, rfl, .inl (SqL.of hl), join_fits sh (by have := N.few; omega), ?_⟩
    have ej : Txt.join (Str.ofString " ") zs = joinSp zs := rfl
    rw [ej]
    have sz : ∀ y : Str, y.length ≤ 10 → (joinSp zs).length + y.length ≤ sizeLine := fun y hy => by
      rw [sizeLine_eq]
      omega
    have sz2 : ∀ y : Str, y.length ≤ 10 → y.length + (joinSp zs).length ≤ sizeLine := fun y hy => by
      rw [sizeLine_eq]
      omega
    refine ⟨(by show 1 ≤ sizeLine; decide), fun t nt => ⟨_, rfl, _, _, rfl, rfl, sz _ (by decide +kernel), _, rfl, _, _, rfl, rfl, sz2 _ (by decide +kernel), _, rfl, _, _, rfl, rfl, sz _ (by decide +kernel), _, rfl, _, _, rfl, rfl, sz _ (by decide +kernel), (by show 10 ≤ sizeLine; decide), fun M1 nM1 => ?_⟩⟩
    rw [text1 N, text2 N, text3 N, text4 N]
    have st : Same H (upd H t (.tup [V.str (Str.ofString "a")])) := same_upd nt
    generalize h1 : upd H t (.tup [V.str (Str.ofString "a")]) = H1 at st nM1 ⊢
    have k1 : H1 t = some (.tup [V.str (Str.ofString "a")]) := by rw [← h1]; exact upd_same
    clear h1
    have sM : Same H1 (upd H1 M1 (.lst [V.non, .int 5, .ref t, .str (Str.ofString " "), .str (joinSp (zs ++ [tE])), .str (joinSp (tE :: zs)), .str (joinSp (zs ++ [tA])), .str (joinSp (zs ++ [tE, tZ2])), .str (Str.ofString "b a"), .str (Str.ofString "a a")])) := same_upd nM1
    generalize h2 : upd H1 M1 (.lst [V.non, .int 5, .ref t, .str (Str.ofString " "), .str (joinSp (zs ++ [tE])), .str (joinSp (tE :: zs)), .str (joinSp (zs ++ [tA])), .str (joinSp (zs ++ [tE, tZ2])), .str (Str.ofString "b a"), .str (Str.ofString "a a")]) = H2 at sM ⊢
    have k2 : H2 M1 = some (.lst [V.non, .int 5, .ref t, .str (Str.ofString " "), .str (joinSp (zs ++ [tE])), .str (joinSp (tE :: zs)), .str (joinSp (zs ++ [tA])), .str (joinSp (zs ++ [tE, tZ2])), .str (Str.ofString "b a"), .str (Str.ofString "a a")]) := by rw [← h2]; exact upd_same
    clear h2
    refine ⟨_, rfl, _, rfl, _, _, rfl, rfl, sz _ (by decide +kernel), (by show 1 ≤ sizeLine; decide), fun l2 n2 => ⟨(by show 2 ≤ sizeLine; decide), fun M2 nM2 => ?_⟩⟩
    rw [text5 N]
    have s3 : Same H2 (upd H2 l2 (.lst [V.str (Str.ofString "a")])) := same_upd n2
    generalize h3 : upd H2 l2 (.lst [V.str (Str.ofString "a")]) = H3 at s3 nM2 ⊢
    have k3 : H3 l2 = some (.lst [V.str (Str.ofString "a")]) := by rw [← h3]; exact upd_same
    clear h3
    have s4 : Same H3 (upd H3 M2 (.lst [V.str (joinSp (zs ++ [tZ3, tZ2])), .ref l2])) := same_upd nM2
    generalize h4 : upd H3 M2 (.lst [V.str (joinSp (zs ++ [tZ3, tZ2])), .ref l2]) = H4 at s4 ⊢
    have k4 : H4 M2 = some (.lst [V.str (joinSp (zs ++ [tZ3, tZ2])), .ref l2]) := by rw [← h4]; exact upd_same
    clear h4
    refine ⟨M1, M2, _, _, rfl, rfl, s4 _ _ (s3 _ _ k2), k4, (by show 10 + 2 ≤ sizeLine; decide), fun S nS => ?_⟩
    have hs : Same H H4 := ((st.trans sM).trans s3).trans s4
    have fresh : ∀ {a : Addr}, H a = none → (V.ref a) ≠ .ref p := fun {a} n e => by
      cases e
      obtain ⟨x, y, z, hz⟩ := hp
      rw [n] at hz
      cases hz
    have f2 : H l2 = none := by
      cases h : H l2 with
      | none => rfl
      | some o =>
        rw [sM _ _ (st _ _ h)] at n2
        cases n2
    have B := bad_all N
    have all : ∀ v ∈ ([V.non, .int 5, .ref t, .str (Str.ofString " "), .str (joinSp (zs ++ [tE])), .str (joinSp (tE :: zs)), .str (joinSp (zs ++ [tA])), .str (joinSp (zs ++ [tE, tZ2])), .str (Str.ofString "b a"), .str (Str.ofString "a a")] ++ [V.str (joinSp (zs ++ [tZ3, tZ2])), .ref l2] : List V), BadV H4 v ∧ v ≠ .ref p := by
      intro v hv
      simp only [List.cons_append, List.nil_append, List.mem_cons, List.not_mem_nil, or_false] at hv
      rcases hv with rfl | rfl | rfl | rfl | rfl | rfl | rfl | rfl | rfl | rfl | rfl | rfl
      · exact ⟨.non, nofun⟩
      · exact ⟨.five, nofun⟩
      · exact ⟨.tup (s4 _ _ (s3 _ _ (sM _ _ k1))), fresh nt⟩
      · exact ⟨.txt (ws := [tE, tE]) (B _ (by simp [badTexts])), nofun⟩
      · exact ⟨.txt (B _ (by simp [badTexts])), nofun⟩
      · exact ⟨.txt (B _ (by simp [badTexts])), nofun⟩
      · exact ⟨.txt (B _ (by simp [badTexts])), nofun⟩
      · exact ⟨.txt (B _ (by simp [badTexts])), nofun⟩
      · exact ⟨.txt (ws := [tb, ta]) (B _ (by simp [badTexts])), nofun⟩
      · exact ⟨.txt (ws := [ta, ta]) (B _ (by simp [badTexts])), nofun⟩
      · exact ⟨.txt (bad_pair N), nofun⟩
      · exact ⟨.lst (s4 _ _ k3), fresh f2⟩
    have len : ([V.non, .int 5, .ref t, .str (Str.ofString " "), .str (joinSp (zs ++ [tE])), .str (joinSp (tE :: zs)), .str (joinSp (zs ++ [tA])), .str (joinSp (zs ++ [tE, tZ2])), .str (Str.ofString "b a"), .str (Str.ofString "a a")] ++ [V.str (joinSp (zs ++ [tZ3, tZ2])), .ref l2] : List V).length = 12 := rfl
    generalize ([V.non, .int 5, .ref t, .str (Str.ofString " "), .str (joinSp (zs ++ [tE])), .str (joinSp (tE :: zs)), .str (joinSp (zs ++ [tA])), .str (joinSp (zs ++ [tE, tZ2])), .str (Str.ofString "b a"), .str (Str.ofString "a a")] ++ [V.str (joinSp (zs ++ [tZ3, tZ2])), .ref l2] : List V) = xs at all len ⊢
    have e5 : Same H4 (upd H4 S (.lst xs)) := same_upd nS
    have x5 : Ext p H (upd H4 S (.lst xs)) := (Ext.refl hp).same (hs.trans e5)
    generalize h5 : upd H4 S (.lst xs) = H5 at e5 x5 ⊢
    have hS : H5 S = some (.lst xs) := by rw [← h5]; exact upd_same
    have Sp : S ≠ p := fun e => by
      obtain ⟨a, b, c, z⟩ := hp
      have := hs _ _ z
      rw [← e, nS] at this
      cases this
    refine ⟨_, rfl, _, rfl, _, rfl, S, xs, rfl, .inl (SqL.of hS), p, _, rfl, x5.pool, by omega, by omega, fun d H6 x6 d0 d1 => ?_⟩
    have hS6 : H6 S = some (.lst xs) := x6.at Sp hS
    have hd : d.toNat < xs.length := by omega
    have ed : ((d.toNat : Nat) : Int) = d := by omega
    refine ⟨S, xs, d, xs[d.toNat], rfl, rfl, SqL.of hS6, ?_, ?_⟩
    · have z := atI_nat (j := d.toNat) (List.getElem?_eq_getElem hd)
      rw [ed] at z
      exact z
    · obtain ⟨a1, a3⟩ := all xs[d.toNat] (List.getElem_mem hd)
      exact q _ H6 (x5.trans x6) a3 ((a1.same e5).ext x6 a3)
end
end K1
/-! l.count(True), l a list of truths -/
namespace CnB
open PySem PySem.Spec
open PyProof.Rows L2
def tru : Value → Bool
  | .bool b => b
  | _ => false
theorem tru_vals : ∀ {bs : List Bool} {its : List Value}, Vals (bs.map V.bl) its → its.countP tru = bs.count true ∧ ∀ u ∈ its, ∃ b, u = .bool b
  | [], _, h => by
    cases h
    exact ⟨rfl, fun u z => by cases z⟩
  | b :: r, _, h => by
    cases h with
    | cons h1 h2 =>
      cases h1
      obtain ⟨e1, e2⟩ := tru_vals h2
      refine ⟨?_, fun u hu => ?_⟩
      · rw [List.countP_cons, e1, List.count_cons]
        cases b <;> rfl
      · rcases List.mem_cons.mp hu with e | e
        · exact ⟨b, e⟩
        · exact e2 u e
def rCntB (K : PySem.W.Frag) : V → List V → Hp → VK → Prop := fun x xs H Q => ∃ (p : Addr) (bs : List Bool), x = .ref p ∧ xs = [.bl true] ∧ SqL K H p (bs.map V.bl) ∧ Q (.int (bs.count true : Nat)) H
section
variable {X : Cx}
theorem mt_lcountB : MtR X "list.count" (rCntB X.K) := by
  intro pins s σ H x xs v us Q Iv rx rxs h
  obtain ⟨p, bs, rfl, rfl, hs, q⟩ := h
  cases rx
  obtain ⟨u, rfl,
      ru⟩ := rxs.one
  cases ru
  obtain ⟨its, rv, ⟨⟨cls, dd, data, sl⟩, n, ho, hc, hdn, hd⟩, hlen⟩ := Iv.list hs
  simp only at hc hd
  subst hc hd
  obtain ⟨ec, eb⟩ := tru_vals rv
  refine call_meets PySem.F.slot_list_count ⟨_, ho,
      rfl⟩ PySem.F.entry_list_count (PySem.F.args_list_count_2 _ _)
    (SeqAt.list_countAt p its.toArray n dd sl (.bool true) tru) ⟨ho, fun y hy => ?_, ?_⟩
  · obtain ⟨b, rfl⟩ := eb y (by simpa using hy)
    have z := eqAt_V (A := X.A.in1) (s := s) (y := .bl b) (x := .bl true) rfl rfl rfl rfl
    have e : eqV (.bl b) (.bl true) = b := by cases b <;> rfl
    rw [e] at z
    exact z
  · have e2 : its.toArray.toList.countP tru = bs.count true := ec
    refine ⟨.int (bs.count true : Nat), H, Iv.tok _, ⟨s.toks, ?_⟩, q⟩
    show Value.int ((its.toArray.toList.countP tru : Nat) : Int) _ = Value.int ((bs.count true : Nat) : Int) _
    rw [e2]
end
end CnB
/-! != of two lists whose items are equal one by one, by the items' own == -/
namespace NeL
open PySem PySem.SeqAt
open AutoSeq1
    (wpAny_loadPart')
open MeetsSeq MeetsSeq2
open MeetsSeq3 SeqRoads2
section
variable {w : World} {prog : Program}
variable {R : Result → Shared → Prop} {A : Around}
theorem loop3 (l b : Addr) (N : Nat) (J : Nat → Shared → Prop) (hl : GQ.ListI prog w A (fun e s' => R (.error e) s') l b N J)
    (fin : ∀ s, J N s → R (.ok (.ret (.bool false))) s) (m : Nat) :
    ∀ i : Nat, N - i = m → i ≤ N → ∀ s, J i s →
      wpAny (model prog w) A.in1 (Builtin.«list.__eq__.loop» ⟨[.ref l, .ref b, rawInt i, rawInt 3], []⟩) (GQ.FinOf prog w A R) (fun e s' => R (.error e) s') s := by
  induction m with
  | zero =>
    intro i hm hi s hj
    obtain ⟨xs, ys, n, n2, atL, atB, szX, szY, _⟩ := hl _ _ hj
    have ei : i = N := by omega
    have done : R (.ok (.ret (.bool false))) s := fin s (ei ▸ hj)
    obtain ⟨hp, g,
        d, tk, os⟩ := s
    wp_walk using wpAny_loadPart' atL, wpAny_loadPart' atB
    have no1 : xs[((i : Nat) : Int).toNat]? = none := by simp; omega
    have no2 : ys[((i : Nat) : Int).toNat]? = none := by simp; omega
    rw [no1, no2]
    wp_walk using wpAny_loadPart' atL, wpAny_loadPart' atB
    show R (.ok (.ret (.bool (xs.size != ys.size)))) _
    rw [szX, szY]
    simpa using done
  | succ m ih =>
    intro i hm hi s hj
    obtain ⟨xs, ys, n, n2, atL, atB, szX, szY, turn⟩ := hl _ _ hj
    have l1 : i < xs.size := by omega
    have l2 : i < ys.size := by omega
    have tt := turn l1 l2
    obtain ⟨hp, g,
        d, tk, os⟩ := s
    wp_walk using wpAny_loadPart' atL, wpAny_loadPart' atB
    have is1 : xs[((i : Nat) : Int).toNat]? = some xs[i] := by simp [l1]
    have is2 : ys[((i : Nat) : Int).toNat]? = some ys[i] := by simp [l2]
    have next : ((i : Int) + 1) = ((i + 1 : Nat) : Int) := by omega
    rw [is1, is2]
    refine wpAny_bind (wpAny_mono tt (fun r s2 h2 => ?_) fun _ _ x => x)
    obtain ⟨er, h2⟩ := h2
    subst er
    have go := ih (i + 1) (by omega) (by omega) s2 h2
    obtain ⟨hp2, g2,
        d2, tk2, os2⟩ := s2
    wp_walk
    rw [next]
    exact ⟨plainId_quiet plain_eq_loop
        _, codeAny_builtin entry_eq_loop (by
      rw [Around.under_plainId plain_eq_loop _]; exact go)⟩
theorem list_neG (l b : Addr) (N : Nat) (J : Nat → Shared → Prop) (hl : GQ.ListI prog w A (fun e s' => R (.error e) s') l b N J)
    (fin : ∀ s, J N s → R (.ok (.ret (.bool false))) s) {s : Shared} (hj : J 0 s) :
    wpAny (model prog w) A.in1 (Builtin.«list.__ne__» ⟨[.ref l, .ref b], []⟩) (GQ.FinOf prog w A R) (fun e s' => R (.error e) s') s := by
  obtain ⟨xs, ys, n, n2, atL, atB, szX, szY, _⟩ := hl _ _ hj
  have go := loop3 (A := A) (R := R) l b N J hl fin _ 0 rfl (Nat.zero_le _) s hj
  obtain ⟨hp, g,
      d, tk, os⟩ := s
  have sub := AutoSeq1.sub_list_list
  have same : ¬ (xs.size != ys.size) = true := by simp [szX, szY]
  wp_walk using wpAny_loadPart' atL, wpAny_loadPart' atB
  exact ⟨plainId_quiet plain_eq_loop
      _, codeAny_builtin entry_eq_loop (by
    rw [Around.under_plainId plain_eq_loop _]; exact go)⟩
end
section
variable {w : World} {prog : Program}
variable {E : Value → Shared → Prop} {A : Around} {s : Shared}
theorem rc_neG {l b : Addr} {N : Nat} {Q : Value → Shared → Prop} (hu : A.units < cLine) (J : Nat → Shared → Prop) (hl : GQ.ListI prog w A E l b N J)
    (fin : ∀ s, J N s → Q (.bool false) s) (hj : J 0 s) : wpAny (model prog w) A (richCompare .NotEq (.ref l) (.ref b)) Q E s := by
  obtain ⟨xs, ys, n, n2, atL, atB, _, _, _⟩ := hl _ _ hj
  refine wpAny_richCompare_same_room (op := .NotEq) ⟨_, atL, rfl⟩ ⟨_, atB, rfl⟩ F.slot_list_ne (GQ.call_here F.slot_list_ne ⟨_, atL, rfl⟩ F.entry_list_ne (F.args_list_ne_2 _ _) ?_) hu
  exact list_neG (R := wants (fun v s' => v ≠ .notImplemented ∧ Q v s') E) l b N J hl (fun s' q => ⟨(fun x => nomatch x), fin s' q⟩) hj
end
open PySem.Spec PyProof.Rows L2
section
variable {X : Cx} {n : Nat} {D : Eqv}
/-- x != y as an expression: the lists' items are equal -/
theorem op_neG (hD : Mon D) (h : EqG X n D) (hr : Room (n + 1) X.A) : OpR X (compareOp .NotEq) (fun x y H Q => DList D x y H ∧ ∀ H', L2.Ext H H' → Q (.bl false) H') := by
  intro pins s σ H x y v u Q Iv rx ry hq
  obtain ⟨⟨a, b, xs, ys, rfl, rfl, ha, hb, p⟩, q⟩ := hq
  cases rx
  cases ry
  have sb : Sub X (n + 1) X.A := ⟨hr, rfl⟩
  show wpAny (model X.prog X.w) X.A (richCompare .NotEq (.ref a) (.ref b)) (EP X pins σ Q) X.xe s
  refine rc_neG (N := xs.length) hr.units0 (fun _ s' => LoopI X pins σ H s') (fun i s' l => ?_) (fun s' l => ?_) ⟨H, Iv, L2.Ext.rfl'⟩
  · obtain ⟨H1, I1, e1⟩ := id l
    obtain ⟨z, its, k, r, e⟩
        := I1.hok a _ (e1 _ _ ha)
    obtain ⟨z2, its2, k2, r2,
        e2⟩ := I1.hok b _ (e1 _ _ hb)
    refine ⟨its.toArray, its2.toArray, k, k2, e, e2, by rw [List.size_toArray,
        ← r.length], by rw [List.size_toArray, ← r2.length, ← p.1], fun h1 h2 => ?_⟩
    exact turnG hD h sb p r r2 i h1 h2 s' l
  · obtain ⟨H1, I1, e1⟩ := l
    exact ⟨.bl false, H1, I1, rfl, q H1 e1⟩
end
end NeL
set_option maxHeartbeats
    4000000
/-! isinstance of a caught error that has attributes -/
namespace XdI
open PySem PySem.Spec
    PySem.Calls
open PyProof.Rows PySem.W
section
variable {s : Shared} {prog : Program} {w : World}
variable {E : Value → Shared → Prop} {A : Around} {K : Frag} {x D : Addr} {ox od : Obj}
theorem cls_dict {Q : Option Value → Shared → Prop} (gA : findIn K (.ref D) "__getattribute__" = some (some (.builtin "BaseException.__getattribute__"))) (gT : findIn K (.ref D) "__getattr__" = some none) (sB : subIn K (.ref D) (.type "BaseException") = some true)
    (dC : hasDictIn K D = true) (cA : findIn K (.ref D) "__class__" = some (some (.builtin "object.__class__")))
    (sG : specialIn K (.builtin "object.__class__") "__get__" = some (some (.builtin "getset_descriptor.__get__"))) (tA : takesIn K (.builtin "object.__class__") = some true) (mO : mroIn K D (.type "object") = some true)
    (Kn : K.In s.heap) (Iv : InstAt s.heap x ox D (some od)) (h : Q (some (.ref D)) { s with toks := s.toks + 1 }) : wpAny (model prog w) A (getAttr? (.ref x) "__class__") Q E s := by
  have fO : findObj K D (some od) "__class__" = some (.bind (.builtin "getset_descriptor.__get__") (.builtin "object.__class__")) := findObj_data (by obtain ⟨cd, hc, _⟩ := any_some dC; rw [hc]; rfl) cA sG tA
  obtain ⟨hp, g, d, t, os⟩ := s
  have M0 := Iv.type (M := model prog w)
  have M1 := looks_findIn (M := model prog w) Kn gA
  have M2 := looks_findIn (M := model prog w) Kn gT
  have M3 := looks_find (M := model prog w) Kn Iv fO
  have sub : Looks (model prog w) hp (isInstance (.ref x) (.type "BaseException")) true := M0.andThen (looks_subIn Kn sB)
  have no0 : (false && onTheHeap (Value.builtin "BaseException.__getattribute__")) = false := rfl
  have no2 : (Value.builtin "BaseException.__getattribute__" == Value.builtin "object.__getattribute__") = false := by decide +kernel
  have no1 : (onTheHeap (Value.ref D) && Value.builtin "BaseException.__getattribute__" == Value.builtin "object.__getattribute__") = false := by rw [no2]; rfl
  unfold getAttr? getAttrBy?
      getAttrBy
  refine wpAny_bind (wpAny_mkText (wpAny_bind (wpAny_attempt (wpAny_holding (wpAny_bind (M0.at (wpAny_bind (M1.at ?_))))))))
  show wpAny _ _ (if (onTheHeap (Value.ref D) && Value.builtin "BaseException.__getattribute__"
      == Value.builtin "object.__getattribute__") = true then _ else _) _ _ _
  rw [no1, if_neg Bool.false_ne_true]
  unfold getAttrByItsOwn
      hookBefore
  refine wpAny_bind ?_
  rw [if_pos (show onTheHeap
      (Value.ref D) = true from rfl)]
  refine M2.at ?_
  refine wpAny_bind (wpAny_attempt
      (wpAny_holding ?_))
  unfold callGetattribute
  rw [no0, if_neg Bool.false_ne_true]
  unfold boundAndCalled
  rw [PySem.F.excAttr_ValueError.ga.bind
      (.ref x)]
  refine wpAny_bind
      (wpAny_pure ?_)
  show wpAny _ _ (call (.builtin "BaseException.__getattribute__")
      [.ref x, .str "__class__" t]) _ _ _
  refine wpAny_call (codeAny_call_builtin PySem.F.excAttr_ValueError.ga.plain
      PySem.F.entry_bexc_ga ?_)
  refine @check_slot (model prog w) _ _ ⟨hp, g, d, t + 1, os⟩ "BaseException.__getattribute__" "BaseException" "__getattribute__"
      (.ref x) [.str "__class__" t] [] _ (by decide +kernel) (by decide +kernel) sub (PySem.F.args_bexc_ga (.ref x) (.str "__class__" t)) ?_
  unfold
    Builtin.«object.__getattribute__»
  refine wpAny_bind (wpAny_of_eq (a := ((Value.ref x : Value), [Value.str
      "__class__" t])) (by first | rfl | (simp only [slotArgs]; rfl)) ?_)
  refine wpAny_bind (wpAny_pure (wpAny_bind (M0.at (wpAny_bind (M3.at ?_)))))
  show wpAny _ _ (holding [Value.builtin "object.__class__"] (call (.builtin
      "getset_descriptor.__get__") [.builtin "object.__class__", .ref x, .ref D]) >>= ret) _ _ _
  refine wpAny_bind (wpAny_holding (wpAny_call (class_get (s := ⟨hp, g, d, t + 1, os⟩) (ox := ox) (od := some od) Kn Iv mO ?_)))
  refine wpAny_pure ?_
  show wpAny _ _ (handedOut
      (.ref D)) _ _ _
  rw [handedOut_of
      (v := .ref D) rfl]
  first
    | exact wpAny_pure
        (wpAny_pure h)
    | exact wpAny_pure h
    | exact wpAny_pure (wpAny_bind
        (wpAny_pure (wpAny_pure h)))
theorem kitx_dict (gA : findIn K (.ref D) "__getattribute__" = some (some (.builtin "BaseException.__getattribute__"))) (gT : findIn K (.ref D) "__getattr__" = some none) (sB : subIn K (.ref D) (.type "BaseException") = some true) (dC : hasDictIn K D = true) (cA : findIn K (.ref D) "__class__" = some (some (.builtin "object.__class__")))
    (sG : specialIn K (.builtin "object.__class__") "__get__" = some (some (.builtin "getset_descriptor.__get__"))) (tA : takesIn K (.builtin "object.__class__") = some true) (mO : mroIn K D (.type "object") = some true) :
    KitX K (.ref x) (.ref D) (fun h
        => InstAt h x ox D (some od)) where
  ty := fun _ _ _ Iv => Iv.type
  it := fun _ _ Kn _ => by
    obtain ⟨rD, eD, _⟩ := any_some dC
    unfold clsIn at eD
    split at eD
    · rename_i c' d' cd' sl' ho
      intro A' Q' E' s' k q
      unfold isType loadHead
      exact wpAny_bind (wpAny_loadPart (k _ _ (Kn _ _ ho)) (wpAny_pure q))
    · cases eD
  ne := fun h tp dd its n sl Kn htp => by
    obtain ⟨rD, eD, _⟩ := any_some dC
    refine Bool.eq_false_iff.mpr
        fun q => ?_
    have e : D = tp := Value.ref.inj
        (beq_iff_eq.mp q)
    subst e
    unfold clsIn at eD
    split at eD
    · rename_i c' d' cd' sl' ho
      have z := (Kn _ _ ho).symm.trans htp
      cases z
    · cases eD
  ca := fun Kn Iv k => cls_dict gA gT sB dC cA sG tA mO Kn Iv k
end
end XdI
namespace XdI
open PySem PySem.Spec
open PyProof.Rows L2
/-- isinstance(e, c), e the exception that the suite holds, its attributes at dd -/
def rIsD (K : PySem.W.Frag) (D a : Addr) (d : Option Addr) : List V → Hp → VK → Prop := fun xs H Q => ∃ (c : V) (cv : Value) (b : Bool) (dd : Addr) (fs : List (Str × V)), xs = [.ref a, c] ∧ d = some dd ∧ H dd = some (.xd fs) ∧ (∀ u, RelV c u → u = cv) ∧ PySem.W.kitOne K (.ref D) cv = some b ∧ Q (.bl b) H
theorem call_isD {X : Cx} {a D : Addr} {d : Option Addr} {oe : Obj} {pn : List (Addr × Obj)} {cls : Value} (ec : cls = .ref D) (C : ExcC X.K D) (hz : Zc cls d oe) (hf : ∃ vs, oe.data = .fields vs) : CallR (X.suite a ((a, oe) :: pn)) (.builtin "isinstance") (rIsD X.K D a d) := by
  intro pins s σ H xs us Q Iv r h
  obtain ⟨c, cv, b, dd, fs, rfl, ed, hd, hcv, e, q⟩ := h
  subst ed
  subst ec
  cases r with
  | cons rx rr =>
    cases rr with
    | cons rt rr =>
      cases rr
      cases rx
      have ec := hcv _ rt
      subst ec
      obtain ⟨gotA, _⟩ := Iv.pin (a, oe) (List.mem_append.mpr (.inl List.mem_cons_self))
      obtain ⟨vs, vA⟩ := hf
      have okX : ObjOk X.prog X.w H s.heap dd (.xd fs) := Iv.hok dd _ hd
      obtain ⟨mA, hns, hr⟩ := okX
      obtain ⟨od, ho, hl⟩
          := lookIn_ns hns
      have Jv : PySem.W.InstAt s.heap a oe D (some od) := ⟨gotA, hz.1, by unfold PySem.W.notCls; rw [vA] <;> rfl, by rw [hz.2]; exact ho⟩
      exact PySem.W.kia_one (kitx_dict C.hg C.hk C.hs C.hd C.ha C.hn C.ht C.hm) Iv.kIn Jv e (fun z => nomatch z) fun tk => ⟨.bl b, H, Iv.kept (t' := tk) fun _ _ z => z, rfl, q⟩
end XdI
set_option maxHeartbeats
    2000000
/-! try .. except (X1, X2, X3) as n, where the clause takes what is raised -/
namespace Tr3
open PySem PySem.Spec
open PyProof.Rows L2
theorem fly_keeps {B h h' : Heap} {l : List Env} {e : Addr} {Z : Obj → Prop} (x : HandSPX.FlyingZ B l e Z h) (k : ∀ b o, h.get? b = some o → h'.get? b = some o) : HandSPX.FlyingZ B l e Z h' := by
  obtain ⟨f1, f2, f3, oe, vs, T, oT, ts, h1, h2, hpA, hpB, h5, h6, h7, h8, h9⟩ := x
  exact ⟨fun b o q => k b o (f1 b o q), f2, f3.of_keeps fun b o q _ => ⟨o, k b o q, rfl⟩, oe, vs, T, oT, ts, k _ _ h1, h2, hpA, hpB, h5, h6, k _ _ h7, h8, h9⟩
/-- what the clause wishes of an exception of the body: slot i is n's -/
def wAs3 (K : PySem.W.Frag) (cs : List Value) (i : Nat) (ts : Addr → Value → Option Addr → TS) (D : Ends) : WX := fun cls d σ H =>
  PySem.W.exmAny K cls cs = some true ∧ ∀ a, H a = none → ts a cls d { nx := fun σ' H' => D.nx (σ'.set i none) H', rt := D.rt, bk := fun σ' H' => D.bk (σ'.set i none) H', ct := fun σ' H' => D.ct (σ'.set i none) H' } (σ.set i (some (.ref a))) H
section
variable {X : Cx} {n : Str} {x1 x2 x3 : Str} {c1 c2 c3 : Value} {i kk : Nat} {body suite : List Stmt}
variable {b₀ : Stmt} {pos pos' p1 p2 p3 tpos : Pos} {tb : WX → TS} {ts : Addr → Value → Option Addr → TS}
theorem ps_try_as3 (hs : X.stack = X.env :: X.outer) (hf : X.env.frame = some X.env.locals) (hN : X.N.Nodup) (hi : X.N[i]? = some n) (hln : X.env.kindOf n = some .local) (hc1 : Names X x1 c1) (hc2 : Names X x2 c2) (hc3 : Names X x3 c3)
    (hb : ∀ (W : WX) (pn : List (Addr × Obj)) (xe : Value → Shared → Prop), Takes
        (X.tr pn xe) W → PassesOwn (model X.prog X.w) X.A X.env xe → PSs (X.tr pn xe) body (tb W))
    (hsu : ∀ (a : Addr) (oe : Obj) (cls : Value) (d : Option Addr) (pn : List (Addr × Obj)),
        Zc cls d oe → (∃ vs, oe.data = .fields vs) → PSs (X.suite a ((a, oe) :: pn)) (b₀ :: suite) (ts a cls d)) :
    PS X (.Try body [.ExceptHandler (some (.Tuple [.Name x1 p1, .Name x2 p2, .Name x3 p3] kk tpos)) (some n) (b₀ :: suite) pos'] [] [] pos) (fun D σ H => tb (wAs3 X.K [c1, c2, c3] i ts D) D σ H) := by
  refine ⟨fun pins s σ H D Iv h => ?_⟩
  have okA := Iv.ok
  have frA : X.A.frames = some (X.env :: X.outer) := by rw [okA.frames, hs]
  have hloc : Loc X.env.scope
      n := .inl hln
  refine wpAny_Try_except ?_
  refine wpAny_mono ((hb (wAs3 X.K [c1, c2, c3] i ts D) (X.pn ++ pins) (fun e s₁ => wpAny (model X.prog X.w) X.A (noteFrame e X.env) (fun _ s₂ => wpAny (model X.prog X.w) X.A (setFlight e none) (fun _ s₃ =>
    wpAny (model X.prog X.w) X.A (handleBy e X.env [.ExceptHandler (some (.Tuple [.Name x1 p1, .Name x2 p2, .Name x3 p3] kk tpos)) (some n) (b₀ :: suite) pos']) (SP X pins D) X.xe s₃) X.xe s₂) X.xe s₁) (fun u s' xA => ?_) PassesOwn.looking).run [] s σ H D (Iv.toTry _) h) (fun f s1 hsp => ?_) (fun e s1 he => he)
  · -- the catch
    obtain ⟨a, B, sI, pins', σ', H', cls, d, rfl, J', nbA, up, skA, na, os, ag, hb1, hyes⟩ := xA
    have Jv : Inv X pins σ' H' sI := J'.ofTry okA
    have sky' : Sky B (X.env :: X.outer) a (Zc cls d) X.env.locals s'.heap := by rw [← hs]; exact skA
    show wpAny (model X.prog X.w)
        X.A (noteFrame (.ref a) X.env) _ _ _
    refine Sky.land Zc.steady frA hf sky' fun hpA flA upA => ?_
    have Jv3 : Inv X pins σ' H' { s' with heap := hpA } := Jv.landed nbA flA.1 (up.trans upA) os ag
    obtain ⟨oA, vA, eA, zA, dA⟩ := flA.there
    have notFr : ∀ {h : Heap} {o : Obj} {vs : Array Value}, h.FunFrames B (X.env :: X.outer)
        → h.get? a = some o → o.data = .fields vs → a ∉ frs (X.env :: X.outer) := fun {h o vs} ff e dd hm => by
      obtain ⟨_, o', e',
          hnf⟩ := ff.mem hm
      rw [e] at e'; cases e'
      exact hnf _ dd
    have notR := notFr flA.2.2.1 eA dA
    have notL : a ≠ X.env.locals := fun z => notR (List.mem_filterMap.mpr ⟨X.env, List.mem_cons_self, by rw [hf, z]⟩)
    have notF : a ∉ X.fs := fun hm => by
      obtain ⟨e, he, q⟩ :=
          List.mem_filterMap.mp hm
      exact notR (List.mem_filterMap.mpr ⟨e, List.mem_cons_of_mem _ he, q⟩)
    have SvA := Jv3.suite eA dA na notL notF
    refine wpAny_handleBy_cons (codeAny_handlers_test
        ?_) (by intro q; cases q)
    have LT : PySem.W.Looks (model X.prog X.w) hpA (typeOf (.ref a)) cls := fun A Q E s k q => wpAny_typeOf_ref (k _ _ eA) (by rw [zA.1]; exact q)
    have test : ∀ {x : Str} {c : Value} {np : Pos} {s1 : Shared} (hc : Names X x c) (I1 : Inv (X.suite a ((a, oA) :: (X.pn ++ pins))) [] σ' H' s1) {Q : Value → Shared → Prop} {E : Value → Shared → Prop}, Q c s1 → wpAny (model X.prog X.w) (X.A.mark (some (.ref a))) (eval (.Name x np) X.env) Q E s1 := by
      intro x c np s1 hc I1 Q E q
      obtain ⟨hg, hdbg, hm
          | ⟨hm, hv, hnn⟩⟩ := hc
      · exact ld_glob (X := X.suite a ((a, oA) :: (X.pn ++ pins))) I1 hg hm q hdbg
      · exact ld_blt (X := X.suite a ((a, oA) :: (X.pn ++ pins))) I1 hg hm hv q hnn hdbg
    refine wpAny_Tuple ?_
    refine wpAny_items_cons (test hc1 SvA ?_)
    refine wpAny_items_cons (test hc2 SvA ?_)
    refine wpAny_items_cons (test hc3 SvA ?_)
    refine wpAny_items_nil ⟨(by show 3 ≤ sizeLine; decide), ?_⟩
    have kp : ∀ q o, hpA.get? q = some o → (hpA.push { cls := .type "tuple", data := .seq [c1, c2, c3].toArray }).get? q = some o := fun _ _ z => Heap.get?_push_of_some _ z
    refine (PySem.W.exm_tup3 (Jv3.kIn.keeps kp) (LT.keeps kp) (Heap.get?_push_size hpA rfl) hb1).here ?_
    have flA := fly_keeps flA kp
    have upA := upA.trans (Heap.UpToSlots.of_keeps kp)
    refine codeAny_handlers_suite_as
        ?_
    refine HandSPX.lands_againZ flA fun hpB flB upB => ?_
    have Jv4 : Inv X pins σ' H' { s' with heap := hpB } := Jv.landed nbA flB.1 ((up.trans upA).trans upB) os ag
    obtain ⟨oB, vB, eB, zB, dB⟩ := flB.there
    have SvB := Jv4.suite eB dB na notL notF
    refine store_ok (X := X.suite a ((a, oB) :: (X.pn ++ pins))) (v := .ref a) SvB hN hi hloc rfl (fun s5 SvC => ?_) (.inr hln)
    refine wpAny_mono ((hsu a oB cls d (X.pn ++ pins) zB ⟨_, dB⟩).run [] s5 _ H' _ SvC (hyes a na)) (fun f s6 hsp => ?_) (fun _ _ z => False.elim z)
    have end_ : ∀ {σ6 : L2.St} {H6 : Hp} {Q : Shared → Prop}, Inv (X.suite a ((a, oB) :: (X.pn ++ pins))) [] σ6 H6 s6 → (∀ s7, Inv X pins (σ6.set i none) H6 s7 → Q s7) →
        wpAny (model X.prog X.w) X.A (do bindName X.env n .none; unbindBehindTheSuite X.env n pos') (fun _ s7 => Q s7) X.xe s6 := fun {σ6 H6 Q} SvD hq => gone_ok (SvD.unsuite okA) hN hi hln hq
    cases f with
    | next =>
      obtain ⟨σ6, H6, SvD, q6⟩ := hsp
      exact end_ SvD fun s7 J7 => ⟨_, _, J7, q6⟩
    | brk =>
      obtain ⟨σ6, H6, SvD, q6⟩ := hsp
      exact end_ SvD fun s7 J7 => ⟨_, _, J7, q6⟩
    | cont =>
      obtain ⟨σ6, H6, SvD, q6⟩ := hsp
      exact end_ SvD fun s7 J7 => ⟨_, _, J7, q6⟩
    | ret u =>
      obtain ⟨v6, σ6, H6, SvD, r6, q6⟩ := hsp
      exact end_ SvD fun s7 J7 => ⟨_, _, _, J7, r6, q6⟩
  · cases f with
    | next =>
      obtain ⟨σ', H', J', q⟩ := hsp
      exact wpAny_execs_nil ⟨σ', H', J'.ofTry okA, q⟩
    | brk =>
      obtain ⟨σ', H', J', q⟩ := hsp
      exact ⟨σ', H', J'.ofTry okA, q⟩
    | cont =>
      obtain ⟨σ', H', J', q⟩ := hsp
      exact ⟨σ', H', J'.ofTry okA, q⟩
    | ret u =>
      obtain ⟨v, σ', H',
          J', r, q⟩ := hsp
      exact ⟨v, σ', H', J'.ofTry okA, r, q⟩
end
end Tr3
namespace K1
open PySem PySem.Spec
open PyProof.Rows L2 EnT StX SmX TxS DuX XdI Tr3 CnB
/-- isinstance(e, c) in a suite, whatever the class -/
def rIsX (K : PySem.W.Frag) (a : Addr) (cls : Value) (d : Option Addr) : List V → Hp → VK → Prop := fun xs H Q => ∃ D, cls = .ref D ∧ ExcC K D ∧ rIsD K D a d xs H Q
theorem call_isX {X : Cx} {a : Addr} {d : Option Addr} {oe : Obj} {pn : List (Addr × Obj)} {cls : Value} (hz : Zc cls d oe) (hf : ∃ vs, oe.data = .fields vs) : CallR (X.suite a ((a, oe) :: pn)) (.builtin "isinstance") (rIsX X.K a cls d) := by
  intro pins s σ
      H xs us Q I r h
  obtain ⟨D, ec, C, h⟩ := h
  exact call_isD ec C hz hf pins s σ H xs us Q I r h
structure ErrK (K : PySem.W.Frag) (mg : Str → Option Value) (S1 S2 S3 CN CT : Addr) : Prop where
  g1 : mg "SetError" = some (.ref S1)
  g2 : mg "StateError" = some (.ref S2)
  g3 : mg "LimitError" = some (.ref S3)
  gN : mg "InvalidNames" = some (.ref CN)
  gT : mg "InvalidText" = some (.ref CT)
  gV : mg "ValueError" = none
  gL : mg "LookupError" = none
  gA : mg "ArithmeticError" = none
  each : ∀ D, D = CN ∨ D = CT → ExcC K D ∧ PySem.W.kitOne K (.ref D) (.ref S1) = some true ∧ PySem.W.kitOne K (.ref D) (.ref S2) = some false ∧ PySem.W.kitOne K (.ref D) (.ref S3) = some false ∧ PySem.W.kitOne K (.ref D) (.type "ValueError") = some true ∧
    PySem.W.kitOne K (.ref D) (.type "LookupError") = some false ∧ PySem.W.kitOne K (.ref D) (.type "ArithmeticError") = some false ∧ PySem.W.exmAny K (.ref D) [.ref S1, .ref S2, .ref S3] = some true
  nn : PySem.W.kitOne K (.ref CN) (.ref CN) = some true
  nt : PySem.W.kitOne K (.ref CN) (.ref CT) = some false
  tn : PySem.W.kitOne K (.ref CT) (.ref CN) = some false
  tt : PySem.W.kitOne K (.ref CT) (.ref CT) = some true
  fN : XfC K CN
  fT : XfC K CT
  iN : PySem.W.findIn K (.ref CN) "index" = some none
  iT : PySem.W.findIn K (.ref CT) "value" = some none
abbrev nmCaught : List Str := ["_law_ask", "_law_told", "e", "_law_sides", "_law_base", "_law_sorts", "_law_at"]
theorem scCaught : FnScope nmCaught ["_law_ask"] (defScope sCaught) := ⟨rfl, rfl, rfl, by decide +kernel, rfl, by decide +kernel, by decide +kernel⟩
/-- what is told of an error of the class at D, its attributes at d -/
def Told (K : PySem.W.Frag) (CN CT : Addr) (Q : VK) : XK := fun cls d H => ∃ (dd : Addr) (v : V) (dat : PyData) (nm : Str), d = some dd ∧ Dp K H v dat ∧ RpD.Shows dat ∧ ((cls = .ref CN ∧ nm = "InvalidNames" ∧ H dd = some (.xd [("index", v)])) ∨ (cls = .ref CT ∧ nm = "InvalidText" ∧ H dd = some (.xd [("value", v)]))) ∧
  ∀ (p : Addr) (H' : Hp), H p = none → Same H H' → H' p = some (.lst [.str nm, .str dat.shown]) → Q (.ref p) H'
/-- the reading of _law_caught(lambda: ..), where the lambda raises -/
def TTc (K : PySem.W.Frag) (CN CT : Addr) : (XK → Hp → VK → Prop) → Hp → VK → Prop := fun tl H Q => ∀ Q', tl (Told K CN CT Q) H Q'
section
variable {X : Cx}
abbrev cxK (X : Cx) (g : Addr) (cdg : Value) (s : Shared) (H : Hp) : Cx := (cxOf C8.CX0 X.prog X.w X.K X.mg X.base nmCaught "_law_caught" (defScope sCaught) g cdg X.A X.stack s H C8.E0).nox
abbrev suiteOf : List Stmt := match defBody sCaught with
  | (.Try _ [.ExceptHandler _ _ su _] _ _ _) :: _ => su
  | _ => []
mutual
theorem dp_same {K : PySem.W.Frag} {H H' : Hp} (s : Same H H') : ∀ {v : V} {d : PyData}, Dp K H v d → Dp K H' v d
  | _, _, .non => .non
  | _, _, .bl b => .bl b
  | _, _, .int i => .int i
  | _, _, .str x => .str x
  | _, _, .lst h r => .lst (s.seq h) (dpAll_same s r)
  | _, _, .tup h r => .tup (sameT s h) (dpAll_same s r)
theorem dpAll_same {K : PySem.W.Frag} {H H' : Hp} (s : Same H H') : ∀ {vs : List V} {ds : List PyData}, DpAll K H vs ds → DpAll K H' vs ds
  | _, _, .nil => .nil
  | _, _, .cons h r => .cons (dp_same s h) (dpAll_same s r)
end
/-- the suite: an error that Told knows -/
def tCau (K : PySem.W.Frag) (CN CT a : Addr) (cls : Value) (d : Option Addr) : TS := fun D σ H => (∃ σ' : L2.St, σ = σ'.set 2 (some (.ref a))) ∧ Told K CN CT D.rt cls d H
theorem suite_ok {g S1 S2 S3 CN CT : Addr} {cdg : Value} {s : Shared} {H0 : Hp} (hgd : X.A.guards = some []) (hu : X.A.units + 300 < cLine) (T : Free X.mg) (EK : ErrK X.K X.mg S1 S2 S3 CN CT)
    {a : Addr} {oe : Obj} {cls : Value} {d : Option Addr} {pn : List (Addr × Obj)} (hz : Zc cls d oe) (hf : ∃ vs, oe.data = .fields vs) :
    PSs ((cxK X g cdg s H0).suite a ((a, oe) :: pn)) suiteOf (tCau X.K CN CT a cls d) := by
  refine ⟨fun pins s' σ H D I h => ?_⟩
  obtain ⟨⟨σ', eσ⟩, dd, v, dat, nm, ed, hdp, hsh, hcase, q⟩ := h
  have hl : σ.length = 7 := I.len
  have hl' : σ'.length = 7 := by rw [eσ, List.length_set] at hl; exact hl
  obtain ⟨x0, x1, x2, x3, x4, x5, x6, e'⟩ : ∃ x0 x1 x2 x3 x4 x5 x6, σ' = [x0, x1, x2, x3, x4, x5, x6] := by
    match σ', hl' with
    | [x0, x1, x2, x3, x4, x5, x6], _ => exact ⟨x0, x1, x2, x3, x4, x5, x6, rfl⟩
  subst e'
  have eσ : σ = [x0, x1, some (.ref a), x3, x4, x5, x6] := eσ
  subst eσ
  obtain ⟨t, ht, hq⟩ : ∃ t, PSs ((cxK X g cdg s H0).suite a ((a, oe) :: pn)) suiteOf t ∧ t D [x0, x1, some (.ref a), x3, x4, x5, x6] H := by
    subst ed
    rcases hcase with ⟨rfl, rfl, hd⟩ | ⟨rfl, rfl, hd⟩
    rotate_left
    obtain ⟨eC, k1, k2, k3, kV, kL, kA, _⟩ := EK.each CT (.inr rfl)
    refine ⟨_, pss_cons (ps_set (i := 3) scCaught.nd rfl (.inl rfl) (pe_lst (pa_cons (pe_callB (call_isX (X := cxK X g cdg s H0) (a := a) (pn := pn) hz hf) (by rfl) T.isinstance (by decide +kernel) (pa_cons (pv 2) (pa_cons (pe_glob (v := .ref S1) (by rfl) EK.g1 rfl) pa_nil))) (pa_cons (pe_callB (call_isX (X := cxK X g cdg s H0) (a := a) (pn := pn) hz hf) (by rfl) T.isinstance (by decide +kernel) (pa_cons (pv 2) (pa_cons (pe_glob (v := .ref S2) (by rfl) EK.g2 rfl) pa_nil))) (pa_cons (pe_callB (call_isX (X := cxK X g cdg s H0) (a := a) (pn := pn) hz hf) (by rfl) T.isinstance (by decide +kernel) (pa_cons (pv 2) (pa_cons (pe_glob (v := .ref S3) (by rfl) EK.g3 rfl) pa_nil))) pa_nil)))))
        (pss_cons (ps_set (i := 4) scCaught.nd rfl (.inl rfl) (pe_lst (pa_cons (pe_callB (call_isX (X := cxK X g cdg s H0) (a := a) (pn := pn) hz hf) (by rfl) T.isinstance (by decide +kernel) (pa_cons (pv 2) (pa_cons (pe_bltn (v := .ty "ValueError") (u := .type "ValueError") (by rfl) EK.gV (by decide +kernel) rfl) pa_nil))) (pa_cons (pe_callB (call_isX (X := cxK X g cdg s H0) (a := a) (pn := pn) hz hf) (by rfl) T.isinstance (by decide +kernel) (pa_cons (pv 2) (pa_cons (pe_bltn (v := .ty "LookupError") (u := .type "LookupError") (by rfl) EK.gL (by decide +kernel) rfl) pa_nil))) pa_nil))))
        (pss_cons (ps_expr (pe_bm PySem.F.plainAttrs_list PySem.F.slot_list_append PySem.F.type_list_append mt_append (pv 4) (pa_cons (pe_callB (call_isX (X := cxK X g cdg s H0) (a := a) (pn := pn) hz hf) (by rfl) T.isinstance (by decide +kernel) (pa_cons (pv 2) (pa_cons (pe_bltn (v := .ty "ArithmeticError") (u := .type "ArithmeticError") (by rfl) EK.gA (by decide +kernel) rfl) pa_nil))) pa_nil)))
        (pss_cons (ps_set (i := 5) scCaught.nd rfl (.inl rfl) (pe_lst (pa_cons (pe_callB (call_isX (X := cxK X g cdg s H0) (a := a) (pn := pn) hz hf) (by rfl) T.isinstance (by decide +kernel) (pa_cons (pv 2) (pa_cons (pe_glob (v := .ref CN) (by rfl) EK.gN rfl) pa_nil))) pa_nil)))
        (pss_cons (ps_expr (pe_bm PySem.F.plainAttrs_list PySem.F.slot_list_append PySem.F.type_list_append mt_append (pv 5) (pa_cons (pe_callB (call_isX (X := cxK X g cdg s H0) (a := a) (pn := pn) hz hf) (by rfl) T.isinstance (by decide +kernel) (pa_cons (pv 2) (pa_cons (pe_glob (v := .ref CT) (by rfl) EK.gT rfl) pa_nil))) pa_nil)))
        (pss_cons (ps_if (PW.pt (pw_or (pt_cmpR op_ne (pe_bm PySem.F.plainAttrs_list PySem.F.slot_list_count PySem.F.type_list_count mt_lcountB (pv 5) (pa_cons pe_bl pa_nil)) pe_int (nomark _)) (pw_or (pt_cmpR (op_neD (by show X.A.units + 3 + 64 < cLine; omega)) (pv 3) (pv 4) (nomark _)) (pw_or1 (pt_cmpR op_ne (pe_bm PySem.F.plainAttrs_list PySem.F.slot_list_count PySem.F.type_list_count mt_lcountB (pv 3) (pa_cons pe_bl pa_nil)) pe_int (nomark _)))))) (pss_one (ps_ret (pe_lst (pa_cons pe_str pa_nil)))) pss_nil)
        (pss_cons (ps_set (i := 6) scCaught.nd rfl (.inl rfl) (pe_bm PySem.F.plainAttrs_list PySem.F.slot_list_index PySem.F.type_list_index mt_index (pv 5) (pa_cons pe_bl pa_nil)))
        (pss_cons (ps_if (pt_cmpR op_ne (pe_bm PySem.F.plainAttrs_list PySem.F.slot_list_index PySem.F.type_list_index mt_index (pv 3) (pa_cons pe_bl pa_nil)) (pe_ix ix_list (pe_lst (pa_cons pe_int (pa_cons pe_int pa_nil))) (pv 6) (fun _ _ => rfl)) (nomark _)) (pss_one (ps_ret (pe_lst (pa_cons pe_str pa_nil)))) pss_nil)
        (pss_cons (ps_if (pt_cmpR op_eq (pv 6) pe_int (nomark _)) (pss_one (ps_ret (pe_lst (pa_cons pe_str (pa_cons (pe_callB (RpD.call_reprD (by exact hgd) (by show X.A.units + 3 + 100 < cLine; omega)) (by rfl) T.repr (by decide +kernel) (pa_cons (pe_xf EK.fN EK.iN hz hf (pv 2)) pa_nil)) pa_nil))))) pss_nil)
        (pss_one (ps_if (pt_cmpR op_eq (pv 6) pe_int (nomark _)) (pss_one (ps_ret (pe_lst (pa_cons pe_str (pa_cons (pe_callB (RpD.call_reprD (by exact hgd) (by show X.A.units + 3 + 100 < cLine; omega)) (by rfl) T.repr (by decide +kernel) (pa_cons (pe_xf EK.fT EK.iT hz hf (pv 2)) pa_nil)) pa_nil))))) pss_nil)))))))))), ?_⟩
    refine ⟨_, rfl, CT, rfl, eC, _, _, _, dd, _, rfl, rfl, hd, (fun u h => h), k1, _, rfl, CT, rfl, eC, _, _, _, dd, _, rfl, rfl, hd, (fun u h => h), k2, _, rfl, CT, rfl, eC, _, _, _, dd, _, rfl, rfl, hd, (fun u h => h), k3, (by show 3 ≤ sizeLine; decide), fun p3 n3 => ?_⟩
    have s3 : Same H (upd H p3 (.lst [.bl true, .bl false, .bl false])) := same_upd n3
    generalize e3 : upd H p3 (.lst [.bl true, .bl false, .bl false]) = H3 at s3 ⊢
    have h3 : H3 p3 = some (.lst [.bl true, .bl false, .bl false]) := by rw [← e3]; exact upd_same
    clear e3
    have hd3 := s3 _ _ hd
    refine ⟨_, rfl, CT, rfl, eC, _, _, _, dd, _, rfl, rfl, hd3, (fun u h => h), kV, _, rfl, CT, rfl, eC, _, _, _, dd, _, rfl, rfl, hd3, (fun u h => h), kL, (by show 2 ≤ sizeLine; decide), fun p4 n4 => ?_⟩
    have hd4 : upd H3 p4 (.lst [.bl true, .bl false]) dd = some (.xd _) := same_upd n4 _ _ hd3
    refine ⟨_, rfl, .inl ⟨rfl, _, SqL.of upd_same⟩, _, rfl, CT, rfl, eC, _, _, _, dd, _, rfl, rfl, hd4, (fun u h => h), kA, p4, _, _, rfl, rfl, upd_same, (by show 2 < sizeLine; decide), ?_⟩
    have f4 : H p4 = none := by
      cases hh : H p4 with
      | none => rfl
      | some o =>
        rw [s3 _ _ hh] at n4
        cases n4
    have s4 : ∀ b o, b ≠ p4 → H3 b = some o → upd (upd H3 p4 (.lst [.bl true, .bl false])) p4 (.lst ([.bl true, .bl false] ++ [.bl false])) b = some o := fun b o n e => by
      rw [upd_ne n, upd_ne n]
      exact e
    generalize e4 : upd (upd H3 p4 (.lst [.bl true, .bl false])) p4 (.lst ([.bl true, .bl false] ++ [.bl false])) = H4 at s4 ⊢
    have h4 : H4 p4 = some (.lst [.bl true, .bl false, .bl false]) := by rw [← e4]; exact upd_same
    clear e4
    have t4 : Same H H4 := fun b o e => s4 b o (ne_of_none e f4) (s3 _ _ e)
    have h43 : H4 p3 = some (.lst [.bl true, .bl false, .bl false]) := s4 _ _ (ne_of_none h3 n4) h3
    have hd5 := t4 _ _ hd
    refine ⟨_, rfl, CT, rfl, eC, _, _, _, dd, _, rfl, rfl, hd5, (fun u h => h), EK.tn, (by show 1 ≤ sizeLine; decide), fun p5 n5 => ?_⟩
    have hd6 : upd H4 p5 (.lst [.bl false]) dd = some (.xd _) := same_upd n5 _ _ hd5
    refine ⟨_, rfl, .inl ⟨rfl, _, SqL.of upd_same⟩, _, rfl, CT, rfl, eC, _, _, _, dd, _, rfl, rfl, hd6, (fun u h => h), EK.tt, p5, _, _, rfl, rfl, upd_same, (by show 1 < sizeLine; decide), ?_⟩
    have f5 : H p5 = none := by
      cases hh : H p5 with
      | none => rfl
      | some o =>
        rw [t4 _ _ hh] at n5
        cases n5
    have s5 : ∀ b o, b ≠ p5 → H4 b = some o → upd (upd H4 p5 (.lst [.bl false])) p5 (.lst ([.bl false] ++ [.bl true])) b = some o := fun b o n e => by
      rw [upd_ne n, upd_ne n]
      exact e
    generalize e5 : upd (upd H4 p5 (.lst [.bl false])) p5 (.lst ([.bl false] ++ [.bl true])) = H5 at s5 ⊢
    have h5 : H5 p5 = some (.lst [.bl false, .bl true]) := by rw [← e5]; exact upd_same
    clear e5
    have t5 : Same H H5 := fun b o e => s5 b o (ne_of_none e f5) (t4 _ _ e)
    have h53 : H5 p3 = some (.lst [.bl true, .bl false, .bl false]) := s5 _ _ (ne_of_none h43 n5) h43
    have h54 : H5 p4 = some (.lst [.bl true, .bl false, .bl false]) := s5 _ _ (ne_of_none h4 n5) h4
    have hd7 := t5 _ _ hd
    have dp : ∀ {p : Addr}, H5 p = some (.lst [.bl true, .bl false, .bl false]) → Dp X.K H5 (.ref p) (.list [.bool true, .bool false, .bool false]) := fun e => .lst (SqL.of e) (.cons (.bl _) (.cons (.bl _) (.cons (.bl _) .nil)))
    refine ⟨_, rfl, .inl ⟨rfl, _, SqL.of h5⟩, p5, [false, true], rfl, rfl, SqL.of h5, rfl, _, rfl, ?_⟩
    refine iteF ?_
    refine ⟨_, rfl, _, rfl, _, _, dp h53, dp h54, by decide +kernel, by decide +kernel, _, rfl, ?_⟩
    refine iteF ?_
    refine ⟨_, rfl, .inl ⟨rfl, _, SqL.of h53⟩, p3, [true, false, false], rfl, rfl, SqL.of h53, rfl, _, rfl, ?_⟩
    refine iteF ?_
    refine ⟨_, rfl, .inl ⟨rfl, _, SqL.of h5⟩, p5, _, _, 1, .bl true, rfl, rfl, SqL.of h5, rfl, rfl, rfl, rfl, fun m z hm hz => (by have e : m = 0 := (by omega); subst e; cases hz; rfl), ?_⟩
    refine ⟨_, rfl, .inl ⟨rfl, _, SqL.of h53⟩, p3, _, _, 0, .bl true, rfl, rfl, SqL.of h53, rfl, rfl, rfl, rfl, fun m z hm => absurd hm (Nat.not_lt_zero m), (by show 2 ≤ sizeLine; decide), fun p7 n7 => ?_⟩
    have s7 : Same H5 (upd H5 p7 (.lst [.int 0, .int 0])) := same_upd n7
    refine ⟨_, rfl, p7, _, _, .int 0, rfl, rfl, SqL.of upd_same, atI_nat (j := 1) rfl, rfl, _, rfl, ?_⟩
    generalize upd H5 p7 (.lst [.int 0, .int 0]) = H7 at s7 ⊢
    have t7 : Same H H7 := t5.trans s7
    refine iteF ?_
    refine ⟨_, rfl, rfl, _, rfl, ?_⟩
    refine iteF ?_
    refine ⟨_, rfl, rfl, _, rfl, ?_⟩
    refine iteT ?_
    refine ⟨_, rfl, rfl, rfl, dd, _, v, rfl, t7 _ _ hd, rfl, v, dat, rfl, dp_same t7 hdp, hsh, (by show 2 ≤ sizeLine; decide), fun p n => ?_⟩
    have fp : H p = none := by
      cases hh : H p with
      | none => rfl
      | some o =>
        rw [t7 _ _ hh] at n
        cases n
    exact q p _ fp (t7.trans (same_upd n)) upd_same
    obtain ⟨eC, k1, k2, k3, kV, kL, kA, _⟩ := EK.each CN (.inl rfl)
    refine ⟨_, pss_cons (ps_set (i := 3) scCaught.nd rfl (.inl rfl) (pe_lst (pa_cons (pe_callB (call_isX (X := cxK X g cdg s H0) (a := a) (pn := pn) hz hf) (by rfl) T.isinstance (by decide +kernel) (pa_cons (pv 2) (pa_cons (pe_glob (v := .ref S1) (by rfl) EK.g1 rfl) pa_nil))) (pa_cons (pe_callB (call_isX (X := cxK X g cdg s H0) (a := a) (pn := pn) hz hf) (by rfl) T.isinstance (by decide +kernel) (pa_cons (pv 2) (pa_cons (pe_glob (v := .ref S2) (by rfl) EK.g2 rfl) pa_nil))) (pa_cons (pe_callB (call_isX (X := cxK X g cdg s H0) (a := a) (pn := pn) hz hf) (by rfl) T.isinstance (by decide +kernel) (pa_cons (pv 2) (pa_cons (pe_glob (v := .ref S3) (by rfl) EK.g3 rfl) pa_nil))) pa_nil)))))
        (pss_cons (ps_set (i := 4) scCaught.nd rfl (.inl rfl) (pe_lst (pa_cons (pe_callB (call_isX (X := cxK X g cdg s H0) (a := a) (pn := pn) hz hf) (by rfl) T.isinstance (by decide +kernel) (pa_cons (pv 2) (pa_cons (pe_bltn (v := .ty "ValueError") (u := .type "ValueError") (by rfl) EK.gV (by decide +kernel) rfl) pa_nil))) (pa_cons (pe_callB (call_isX (X := cxK X g cdg s H0) (a := a) (pn := pn) hz hf) (by rfl) T.isinstance (by decide +kernel) (pa_cons (pv 2) (pa_cons (pe_bltn (v := .ty "LookupError") (u := .type "LookupError") (by rfl) EK.gL (by decide +kernel) rfl) pa_nil))) pa_nil))))
        (pss_cons (ps_expr (pe_bm PySem.F.plainAttrs_list PySem.F.slot_list_append PySem.F.type_list_append mt_append (pv 4) (pa_cons (pe_callB (call_isX (X := cxK X g cdg s H0) (a := a) (pn := pn) hz hf) (by rfl) T.isinstance (by decide +kernel) (pa_cons (pv 2) (pa_cons (pe_bltn (v := .ty "ArithmeticError") (u := .type "ArithmeticError") (by rfl) EK.gA (by decide +kernel) rfl) pa_nil))) pa_nil)))
        (pss_cons (ps_set (i := 5) scCaught.nd rfl (.inl rfl) (pe_lst (pa_cons (pe_callB (call_isX (X := cxK X g cdg s H0) (a := a) (pn := pn) hz hf) (by rfl) T.isinstance (by decide +kernel) (pa_cons (pv 2) (pa_cons (pe_glob (v := .ref CN) (by rfl) EK.gN rfl) pa_nil))) pa_nil)))
        (pss_cons (ps_expr (pe_bm PySem.F.plainAttrs_list PySem.F.slot_list_append PySem.F.type_list_append mt_append (pv 5) (pa_cons (pe_callB (call_isX (X := cxK X g cdg s H0) (a := a) (pn := pn) hz hf) (by rfl) T.isinstance (by decide +kernel) (pa_cons (pv 2) (pa_cons (pe_glob (v := .ref CT) (by rfl) EK.gT rfl) pa_nil))) pa_nil)))
        (pss_cons (ps_if (PW.pt (pw_or (pt_cmpR op_ne (pe_bm PySem.F.plainAttrs_list PySem.F.slot_list_count PySem.F.type_list_count mt_lcountB (pv 5) (pa_cons pe_bl pa_nil)) pe_int (nomark _)) (pw_or (pt_cmpR (op_neD (by show X.A.units + 3 + 64 < cLine; omega)) (pv 3) (pv 4) (nomark _)) (pw_or1 (pt_cmpR op_ne (pe_bm PySem.F.plainAttrs_list PySem.F.slot_list_count PySem.F.type_list_count mt_lcountB (pv 3) (pa_cons pe_bl pa_nil)) pe_int (nomark _)))))) (pss_one (ps_ret (pe_lst (pa_cons pe_str pa_nil)))) pss_nil)
        (pss_cons (ps_set (i := 6) scCaught.nd rfl (.inl rfl) (pe_bm PySem.F.plainAttrs_list PySem.F.slot_list_index PySem.F.type_list_index mt_index (pv 5) (pa_cons pe_bl pa_nil)))
        (pss_cons (ps_if (pt_cmpR op_ne (pe_bm PySem.F.plainAttrs_list PySem.F.slot_list_index PySem.F.type_list_index mt_index (pv 3) (pa_cons pe_bl pa_nil)) (pe_ix ix_list (pe_lst (pa_cons pe_int (pa_cons pe_int pa_nil))) (pv 6) (fun _ _ => rfl)) (nomark _)) (pss_one (ps_ret (pe_lst (pa_cons pe_str pa_nil)))) pss_nil)
        (pss_cons (ps_if (pt_cmpR op_eq (pv 6) pe_int (nomark _)) (pss_one (ps_ret (pe_lst (pa_cons pe_str (pa_cons (pe_callB (RpD.call_reprD (by exact hgd) (by show X.A.units + 3 + 100 < cLine; omega)) (by rfl) T.repr (by decide +kernel) (pa_cons (pe_xf EK.fN EK.iN hz hf (pv 2)) pa_nil)) pa_nil))))) pss_nil)
        (pss_one (ps_if (pt_cmpR op_eq (pv 6) pe_int (nomark _)) (pss_one (ps_ret (pe_lst (pa_cons pe_str (pa_cons (pe_callB (RpD.call_reprD (by exact hgd) (by show X.A.units + 3 + 100 < cLine; omega)) (by rfl) T.repr (by decide +kernel) (pa_cons (pe_xf EK.fT EK.iT hz hf (pv 2)) pa_nil)) pa_nil))))) pss_nil)))))))))), ?_⟩
    refine ⟨_, rfl, CN, rfl, eC, _, _, _, dd, _, rfl, rfl, hd, (fun u h => h), k1, _, rfl, CN, rfl, eC, _, _, _, dd, _, rfl, rfl, hd, (fun u h => h), k2, _, rfl, CN, rfl, eC, _, _, _, dd, _, rfl, rfl, hd, (fun u h => h), k3, (by show 3 ≤ sizeLine; decide), fun p3 n3 => ?_⟩
    have s3 : Same H (upd H p3 (.lst [.bl true, .bl false, .bl false])) := same_upd n3
    generalize e3 : upd H p3 (.lst [.bl true, .bl false, .bl false]) = H3 at s3 ⊢
    have h3 : H3 p3 = some (.lst [.bl true, .bl false, .bl false]) := by rw [← e3]; exact upd_same
    clear e3
    have hd3 := s3 _ _ hd
    refine ⟨_, rfl, CN, rfl, eC, _, _, _, dd, _, rfl, rfl, hd3, (fun u h => h), kV, _, rfl, CN, rfl, eC, _, _, _, dd, _, rfl, rfl, hd3, (fun u h => h), kL, (by show 2 ≤ sizeLine; decide), fun p4 n4 => ?_⟩
    have hd4 : upd H3 p4 (.lst [.bl true, .bl false]) dd = some (.xd _) := same_upd n4 _ _ hd3
    refine ⟨_, rfl, .inl ⟨rfl, _, SqL.of upd_same⟩, _, rfl, CN, rfl, eC, _, _, _, dd, _, rfl, rfl, hd4, (fun u h => h), kA, p4, _, _, rfl, rfl, upd_same, (by show 2 < sizeLine; decide), ?_⟩
    have f4 : H p4 = none := by
      cases hh : H p4 with
      | none => rfl
      | some o =>
        rw [s3 _ _ hh] at n4
        cases n4
    have s4 : ∀ b o, b ≠ p4 → H3 b = some o → upd (upd H3 p4 (.lst [.bl true, .bl false])) p4 (.lst ([.bl true, .bl false] ++ [.bl false])) b = some o := fun b o n e => by
      rw [upd_ne n, upd_ne n]
      exact e
    generalize e4 : upd (upd H3 p4 (.lst [.bl true, .bl false])) p4 (.lst ([.bl true, .bl false] ++ [.bl false])) = H4 at s4 ⊢
    have h4 : H4 p4 = some (.lst [.bl true, .bl false, .bl false]) := by rw [← e4]; exact upd_same
    clear e4
    have t4 : Same H H4 := fun b o e => s4 b o (ne_of_none e f4) (s3 _ _ e)
    have h43 : H4 p3 = some (.lst [.bl true, .bl false, .bl false]) := s4 _ _ (ne_of_none h3 n4) h3
    have hd5 := t4 _ _ hd
    refine ⟨_, rfl, CN, rfl, eC, _, _, _, dd, _, rfl, rfl, hd5, (fun u h => h), EK.nn, (by show 1 ≤ sizeLine; decide), fun p5 n5 => ?_⟩
    have hd6 : upd H4 p5 (.lst [.bl true]) dd = some (.xd _) := same_upd n5 _ _ hd5
    refine ⟨_, rfl, .inl ⟨rfl, _, SqL.of upd_same⟩, _, rfl, CN, rfl, eC, _, _, _, dd, _, rfl, rfl, hd6, (fun u h => h), EK.nt, p5, _, _, rfl, rfl, upd_same, (by show 1 < sizeLine; decide), ?_⟩
    have f5 : H p5 = none := by
      cases hh : H p5 with
      | none => rfl
      | some o =>
        rw [t4 _ _ hh] at n5
        cases n5
    have s5 : ∀ b o, b ≠ p5 → H4 b = some o → upd (upd H4 p5 (.lst [.bl true])) p5 (.lst ([.bl true] ++ [.bl false])) b = some o := fun b o n e => by
      rw [upd_ne n, upd_ne n]
      exact e
    generalize e5 : upd (upd H4 p5 (.lst [.bl true])) p5 (.lst ([.bl true] ++ [.bl false])) = H5 at s5 ⊢
    have h5 : H5 p5 = some (.lst [.bl true, .bl false]) := by rw [← e5]; exact upd_same
    clear e5
    have t5 : Same H H5 := fun b o e => s5 b o (ne_of_none e f5) (t4 _ _ e)
    have h53 : H5 p3 = some (.lst [.bl true, .bl false, .bl false]) := s5 _ _ (ne_of_none h43 n5) h43
    have h54 : H5 p4 = some (.lst [.bl true, .bl false, .bl false]) := s5 _ _ (ne_of_none h4 n5) h4
    have hd7 := t5 _ _ hd
    have dp : ∀ {p : Addr}, H5 p = some (.lst [.bl true, .bl false, .bl false]) → Dp X.K H5 (.ref p) (.list [.bool true, .bool false, .bool false]) := fun e => .lst (SqL.of e) (.cons (.bl _) (.cons (.bl _) (.cons (.bl _) .nil)))
    refine ⟨_, rfl, .inl ⟨rfl, _, SqL.of h5⟩, p5, [true, false], rfl, rfl, SqL.of h5, rfl, _, rfl, ?_⟩
    refine iteF ?_
    refine ⟨_, rfl, _, rfl, _, _, dp h53, dp h54, by decide +kernel, by decide +kernel, _, rfl, ?_⟩
    refine iteF ?_
    refine ⟨_, rfl, .inl ⟨rfl, _, SqL.of h53⟩, p3, [true, false, false], rfl, rfl, SqL.of h53, rfl, _, rfl, ?_⟩
    refine iteF ?_
    refine ⟨_, rfl, .inl ⟨rfl, _, SqL.of h5⟩, p5, _, _, 0, .bl true, rfl, rfl, SqL.of h5, rfl, rfl, rfl, rfl, fun m z hm => absurd hm (Nat.not_lt_zero m), ?_⟩
    refine ⟨_, rfl, .inl ⟨rfl, _, SqL.of h53⟩, p3, _, _, 0, .bl true, rfl, rfl, SqL.of h53, rfl, rfl, rfl, rfl, fun m z hm => absurd hm (Nat.not_lt_zero m), (by show 2 ≤ sizeLine; decide), fun p7 n7 => ?_⟩
    have s7 : Same H5 (upd H5 p7 (.lst [.int 0, .int 0])) := same_upd n7
    refine ⟨_, rfl, p7, _, _, .int 0, rfl, rfl, SqL.of upd_same, atI_nat (j := 0) rfl, rfl, _, rfl, ?_⟩
    generalize upd H5 p7 (.lst [.int 0, .int 0]) = H7 at s7 ⊢
    have t7 : Same H H7 := t5.trans s7
    refine iteF ?_
    refine ⟨_, rfl, rfl, _, rfl, ?_⟩
    refine iteT ?_
    refine ⟨_, rfl, rfl, rfl, dd, _, v, rfl, t7 _ _ hd, rfl, v, dat, rfl, dp_same t7 hdp, hsh, (by show 2 ≤ sizeLine; decide), fun p n => ?_⟩
    have fp : H p = none := by
      cases hh : H p with
      | none => rfl
      | some o =>
        rw [t7 _ _ hh] at n
        cases n
    exact q p _ fp (t7.trans (same_upd n)) upd_same
  exact ht.run pins s' _ H D I hq
end
end K1
namespace K1
open PySem PySem.Spec
open PyProof.Rows L2 EnT StX SmX TxS DuX XdI Tr3 CnB
section
variable {X : Cx}
theorem caught_gives {g S1 S2 S3 CN CT : Addr} {cdg : Value} {q : Str} (hgd : X.A.guards = some []) (hu : X.A.units + 300 < cLine) (T : Free X.mg) (EK : ErrK X.K X.mg S1 S2 S3 CN CT) :
    LamX.GivesTo X nmCaught "_law_caught" (defScope sCaught) g cdg (defBody sCaught) "_law_ask" q (TTc X.K CN CT) := by
  intro f c' s H Q tl act hc h
  refine ⟨_, pss_cons (ps_try_as3 (X := cxK X g cdg s H) (i := 2) (c1 := .ref S1) (c2 := .ref S2) (c3 := .ref S3)
      (tb := fun W D σ H => ∃ Ech : XK, (∀ cls d σ' H', Ech cls d H' → W cls d σ' H') ∧ σ[0]? = some (some (.ref f)) ∧ H c' = some (LamX.CodeO c' q) ∧ ∀ Q', tl Ech H Q')
      (ts := fun a cls d => tCau X.K CN CT a cls d)
      rfl rfl scCaught.nd rfl rfl ⟨by rfl, by decide, .inl EK.g1⟩ ⟨by rfl, by decide, .inl EK.g2⟩ ⟨by rfl, by decide, .inl EK.g3⟩ (fun W pn xe tk _ => ⟨fun pins s' σ H' D I h' => ?_⟩)
      (fun a oe cls d pn hz hf => suite_ok hgd hu T EK hz hf))
    (pss_one (ps_ret (pe_lst (pa_cons pe_str (pa_cons (pe_callB (RpD.call_reprD (by exact hgd) (by show X.A.units + 3 + 100 < cLine; omega)) (by rfl) T.repr (by decide +kernel) (pa_cons (pv 1) pa_nil)) pa_nil))))), ?_⟩
  · obtain ⟨Ech, hW, h1, h2, h3⟩ := id h'
    exact (pss_one (ps_set (i := 1) scCaught.nd rfl (.inl rfl) (act W pn xe Ech _ _ tk hW))).run pins s' σ H' D I ⟨h1, h2, h3 _⟩
  · refine ⟨Told X.K CN CT Q, fun cls d σ' H' told => ?_, rfl, hc, h⟩
    have told2 := told
    obtain ⟨dd, v, dat, nm, ed, hdp, hsh, hcase, q⟩ := told2
    rcases hcase with ⟨rfl, rfl, hd⟩ | ⟨rfl, rfl, hd⟩
    · obtain ⟨_, _, _, _, _, _, _, kx⟩ := EK.each CN (.inl rfl)
      exact ⟨kx, fun a na => ⟨⟨_, rfl⟩, told⟩⟩
    · obtain ⟨_, _, _, _, _, _, _, kx⟩ := EK.each CT (.inr rfl)
      exact ⟨kx, fun a na => ⟨⟨_, rfl⟩, told⟩⟩
end
end K1
namespace K1
open PySem PySem.Spec
open PyProof.Rows L2 EnT StX SmX TxS DuX XdI Tr3 CnB ClX
/-! ### from heap to heap, the pool and the tables aside -/
structure RX (p : Addr) (H H' : Hp) : Prop where
  pool : PoolAt H' p
  keep : ∀ b o, b ≠ p → H b = some o → (∀ ps, o ≠ .tbl ps) → H' b = some o
/-- a move: all but the pool and the tables stays, the tables are tables -/
structure Mv (p : Addr) (Tb : List (Addr × Str)) (H H' : Hp) : Prop where
  rx : RX p H H'
  tabs : LamX.Tabs Tb H'
theorem Mv.trans {p : Addr} {Tb : List (Addr × Str)} {H H1 H2 : Hp} (a : Mv p Tb H H1) (b : Mv p Tb H1 H2) : Mv p Tb H H2 := ⟨⟨b.rx.pool, fun c o n e t => b.rx.keep c o n (a.rx.keep c o n e t) t⟩, b.tabs⟩
theorem Mv.refl {p : Addr} {Tb : List (Addr × Str)} {H : Hp} (hp : PoolAt H p) (t : LamX.Tabs Tb H) : Mv p Tb H H := ⟨⟨hp, fun _ _ _ e _ => e⟩, t⟩
theorem PoolAt.same {p : Addr} {H H' : Hp} (s : Same H H') (h : PoolAt H p) : PoolAt H' p := by
  obtain ⟨a, b, c, e⟩ := h
  exact ⟨a, b, c, s _ _ e⟩
theorem Mv.same {p : Addr} {Tb : List (Addr × Str)} {H H' : Hp} (s : Same H H') (hp : PoolAt H p) (t : LamX.Tabs Tb H) : Mv p Tb H H' := ⟨⟨hp.same s, fun b o _ e _ => s b o e⟩, t.ext s⟩
theorem tabs_ext {p : Addr} {Tb : List (Addr × Str)} {H H' : Hp} (x : Ext p H H') (hp : PoolAt H p) (t : LamX.Tabs Tb H) : LamX.Tabs Tb H' := fun q hq => by
  obtain ⟨ps, h1, h2, h3⟩ := t q hq
  obtain ⟨a, b, c, e⟩ := hp
  refine ⟨ps, x.at (fun z => by rw [z, e] at h1; cases h1) h1, h2, fun pos cv hc => ?_⟩
  obtain ⟨d, e1, e2⟩ := h3 pos cv hc
  exact ⟨d, e1, x.at (fun z => by rw [z, e] at e2; unfold LamX.CodeO at e2; cases e2) e2⟩
theorem Mv.ext {p : Addr} {Tb : List (Addr × Str)} {H H' : Hp} (x : Ext p H H') (hp : PoolAt H p) (t : LamX.Tabs Tb H) : Mv p Tb H H' := ⟨⟨x.pool, fun b o n e _ => x.at n e⟩, tabs_ext x hp t⟩
theorem Mv.lam {p : Addr} {Tb : List (Addr × Str)} {H H' : Hp} (x : LamX.ExtN H H') (hp : PoolAt H p) (t : LamX.Tabs Tb H') : Mv p Tb H H' := by
  obtain ⟨a, b, c, e⟩ := hp
  exact ⟨⟨⟨a, b, c, x _ _ e (fun ps z => by cases z)⟩, fun d o _ h n => x d o h n⟩, t⟩
theorem Mv.at {p q : Addr} {Tb : List (Addr × Str)} {H H' : Hp} {o : HO} (m : Mv p Tb H H') (hp : PoolAt H p) (h : H q = some o) (n : ∀ x y z : Int, o ≠ .lst [.int x, .int y, .int z]) (nt : ∀ ps, o ≠ .tbl ps) : H' q = some o := by
  refine m.rx.keep q o (fun e => ?_) h nt
  obtain ⟨a, b, c, e2⟩ := hp
  rw [e, e2] at h
  exact n a b c (Option.some.inj h).symm
theorem strs_nopool {zs : List Str} : ∀ x y z : Int, (HO.lst (zs.map V.str)) ≠ .lst [.int x, .int y, .int z] := fun x y z e => by
  have q := HO.lst.inj e
  cases zs with
  | nil => cases q
  | cons a r => cases q
theorem Mv.strs {p q : Addr} {Tb : List (Addr × Str)} {H H' : Hp} {zs : List Str} (m : Mv p Tb H H') (hp : PoolAt H p) (h : H q = some (.lst (zs.map V.str))) : H' q = some (.lst (zs.map V.str)) := m.at hp h strs_nopool (fun _ e => by cases e)
theorem Mv.mem {C p q : Addr} {Tb : List (Addr × Str)} {H H' : Hp} {zs : List Str} (m : Mv p Tb H H') (hp : PoolAt H p) (h : MemAt C H q zs) : MemAt C H' q zs := by
  obtain ⟨⟨dx, t, d, h1, h2, h3⟩, a, b, c, e⟩ := h
  exact ⟨⟨dx, t, d, m.at hp h1 (fun _ _ _ e => by cases e) (fun _ e => by cases e), m.at hp h2 (fun _ _ _ e => by cases e) (fun _ e => by cases e), m.at hp h3 (fun _ _ _ e => by cases e) (fun _ e => by cases e)⟩, a, b, c, e⟩
theorem Mv.vok {p : Addr} {Tb : List (Addr × Str)} {H H' : Hp} {v : V} (m : Mv p Tb H H') (n : v ≠ .ref p) (h : VOk H v) : VOk H' v := by
  refine h.elim .inl fun g => .inr ?_
  have np : ∀ {a : Addr}, v = .ref a → a ≠ p := fun e z => n (by rw [e, z])
  cases g with
  | non => exact .non
  | bl b => exact .bl b
  | int i => exact .int i
  | lst e => exact .lst (m.rx.keep _ _ (np rfl) e (fun _ e => by cases e))
  | tup e => exact .tup (m.rx.keep _ _ (np rfl) e (fun _ e => by cases e))
  | dK e => exact .dK (m.rx.keep _ _ (np rfl) e (fun _ e => by cases e))
/-! ### the names that are drawn -/
structure Tg (z : Str) : Prop where
  nm : nameB z = true
  ln : z.length ≤ 3 ∨ z.length = 8
theorem tag_tg {z : Str} (h : Tag z) : Tg z := ⟨tag_name h, .inl (by rw [len_tl]; exact h.hi)⟩
theorem eight_all : ((List.range 10).all fun d => nameB (Str.ofString "abcdefg" ++ (toString (d : Int) : Str)) && decide ((Str.ofString "abcdefg" ++ (toString (d : Int) : Str)).length = 8)) = true := by decide +kernel
theorem eight_tg {d : Int} (h0 : 0 ≤ d) (h1 : d < 10) : Tg (Str.ofString "abcdefg" ++ (toString d : Str)) := by
  obtain ⟨n, rfl⟩ := Int.eq_ofNat_of_zero_le
      h0
  have q := (List.all_eq_true.mp eight_all) n (List.mem_range.mpr (by omega))
  rw [Bool.and_eq_true] at q
  exact ⟨q.1, .inr (of_decide_eq_true q.2)⟩
/-- what the law has drawn -/
structure Core (C : Addr) (p : Addr) (Tb : List (Addr × Str)) (a1 a2 a3 a4 : Addr) (T dr ys : List Str) (H : Hp) : Prop where
  pool : PoolAt H p
  tabs : LamX.Tabs Tb H
  l1 : H a1 = some (.lst (T.map V.str))
  l2 : H a2 = some (.lst (dr.map V.str))
  l3 : H a3 = some (.lst (ys.map V.str))
  m4 : MemAt C H a4 ys
  tg : ∀ z ∈ T, Tg z
  tne : T ≠ []
  tfew : T.length ≤ 3
  sub : ∀ z ∈ dr, z ∈ T
  dfew : dr.length ≤ 4
  mem : ∀ z, z ∈ ys ↔ z ∈ dr
  yfew : ys.length ≤ 4
theorem Core.mv {C p a1 a2 a3 a4 : Addr} {Tb : List (Addr × Str)} {T dr ys : List Str} {H H' : Hp} (c : Core C p Tb a1 a2 a3 a4 T dr ys H) (m : Mv p Tb H H') : Core C p Tb a1 a2 a3 a4 T dr ys H' :=
  ⟨m.rx.pool, m.tabs, m.strs c.pool c.l1, m.strs c.pool c.l2, m.strs c.pool c.l3, m.mem c.pool c.m4, c.tg, c.tne, c.tfew, c.sub, c.dfew, c.mem, c.yfew⟩
theorem Core.ytg {C p a1 a2 a3 a4 : Addr} {Tb : List (Addr × Str)} {T dr ys : List Str} {H : Hp} (c : Core C p Tb a1 a2 a3 a4 T dr ys H) : ∀ z ∈ ys, Tg z := fun z hz => c.tg z (c.sub z ((c.mem z).mp hz))
theorem Core.dtg {C p a1 a2 a3 a4 : Addr} {Tb : List (Addr × Str)} {T dr ys : List Str} {H : Hp} (c : Core C p Tb a1 a2 a3 a4 T dr ys H) : ∀ z ∈ dr, Tg z := fun z hz => c.tg z (c.sub z hz)
/-! ### what is known of a def -/
structure Has (P : Program) (w : World) (K : PySem.W.Frag) (mg : Str → Option Value) (base : Heap) (CX : CXT) (k : Nat) (x : Str) (f : Addr) (ps : List Str) (sp : Sp) : Prop where
  gm : mg x = some (.ref f)
  kp : PySem.W.keepIn
      K (.ref f) = true
  ex : ∃ fd, FnOk P w K mg base CX k f fd ps sp ∧ L2.Binds K fd ps []
section
variable {X : Cx} {CX : CXT} {k : Nat} {x : Str} {f : Addr} {ps : List Str} {sp : Sp} {E : XK}
/-- x(e, ..) -/
theorem pe_has {e : Expr} {es : List Expr} {t : TA} {p pos : Pos} (F : Has X.prog X.w X.K X.mg X.base CX k x f ps sp) (hr : Room k X.A) (hg : Gl X x) (hx : Passes CX X E) (ha : PA X (e :: es) t) (hd : (x == ("__debug__" : Str)) = false := by decide)
    (hst : starEach (e :: es) X.env = (false, eval e X.env) :: starEach es X.env := by rfl) (hpl : (backTo pos (starEach es X.env)).any (·.1) = false := by rfl) :
    PE X (.Call (.Name x p) (e :: es) [] pos) (tCall sp [] E t) := by
  obtain ⟨gm, kp, fd, F, B⟩ := F
  exact pe_call F hr hg gm kp B .nil hx ha hd hst hpl
end
/-! ### the world of the law's own functions -/
structure Wd (P : Program) (w : World) (K : PySem.W.Frag) (mg : Str → Option Value) (base : Heap) (C CN CT S1 S2 S3 : Addr) (mc : Value) : Prop where
  T : Free mg
  M : MemC K mg C
  I : MemIs K C
  EK : ErrK K mg S1 S2 S3 CN CT
  draw : ∃ f, Has P w K mg base CX0 1 "_law_draw" f ["_law_pool_here", "_law_many"] spDraw
  names : ∃ f, Has P w K mg base CX0 2 "_law_names" f ["_law_pool_here", "_law_many"] spNames
  made : ∃ f, Has P w K mg base (L2.CX P w) 6 "_law_made" f ["_law_tags"] (spMade C CN)
  odd : ∃ f, Has P w K mg base CX0 2 "_law_odd" f ["_law_pool_here"] spOdd
  bad : ∃ f, Has P w K mg base CX0 2 "_law_bad_text" f ["_law_pool_here", "_law_tags"] spBad
  mkr : ∃ fI, MakeC P w K mg base C CN fI
  strM : ∃ g, OwnM K C "__str__" g ∧ FnR P w K mg base CX0 1 g (spStrM C)
  reprM : ∃ g, OwnM K C "__repr__" g ∧ FnR P w K mg base CX0 1 g (spReprM C)
  lenM : ∃ g, OwnM K C "__len__" g ∧ FnR P w K mg base CX0 1 g (spLenM C)
  hasM : ∃ g, OwnM K C "__contains__" g ∧ FnR P w K mg base CX0 1 g (spHasM C)
  eqM : ∃ g, OwnM K C "__eq__" g ∧ FnR P w K mg base CX0 3 g (spEqM C) ∧ ∃ fd, FnOk P w K mg base CX0 3 g fd ["self", "other"] (spEqM C) ∧ L2.Binds K fd ["self", "other"] []
  neM : NeM K C
  nbM : PySem.W.findIn K (.ref C) "__bool__" = some none
  prop : ∃ pN gN fdN, PropOf K C "names" pN gN ∧ FnOk P w K mg base CX0 1 gN fdN ["self"] (getSp C "_names") ∧ L2.Binds K fdN ["self"] []
  cr : CRead K C mc
  fromT : ∃ p g, SMet K C mc "from_names" p g ∧ FnR P w K mg base (L2.CX P w) 6 g (spFromT C CN) ∧ FnR P w K mg base (L2.CX P w) 6 g (spFromL CN) ∧ ∃ fd gg, FnOk P w K mg base (L2.CX P w) 6 g fd ["names"] (spFromT C CN) ∧ KBn K fd ["names"] 0 ["names"] gg fun _ zs => zs
  read : ∃ p g, SMet K C mc "read" p g ∧ FnR P w K mg base (L2.CX P w) 6 g (spReadT C CT) ∧ FnR P w K mg base (L2.CX P w) 6 g (spReadN CT) ∧ ∃ fd gg, FnOk P w K mg base (L2.CX P w) 6 g fd ["text"] (spReadT C CT) ∧ KBn K fd ["text"] 0 ["text"] gg fun _ zs => zs
abbrev nmRight : List Str := ["_law_pool_here", "_law_tags", "_law_drawn", "_law_due", "_law_some", "_law_told", "_law_others", "_law_odd_here", "_law_unlike", "_law_bad", "_law_at", "_law_wanted", "_law_k", "_law_each", "_law_name"]
theorem scRight : FnScope nmRight ["_law_pool_here"] (defScope sRight) := ⟨rfl, rfl, rfl, by decide +kernel, rfl, by decide +kernel, by decide +kernel⟩
abbrev cxR (P : Program) (w : World) (K : PySem.W.Frag) (mg : Str → Option Value) (base : Heap) (f : Addr) (cdv : Value) (A : Around) (outer : List Env) (s : Shared) (H : Hp) : Cx := (cxOf CX0 P w K mg base nmRight "_law_right" (defScope sRight) f cdv A outer s H E0).nox
/-- the law's right from its i-th statement on -/
def rest (i : Nat) : List Stmt := (defBody sRight).drop i
/-- where the law must come to -/
def Fin (p : Addr) (Tb : List (Addr × Str)) (H : Hp) (D : Ends) : Prop := ∀ H', Mv p Tb H H' → D.rt (.bl true) H'
theorem Fin.mv {p : Addr} {Tb : List (Addr × Str)} {H H1 : Hp} {D : Ends} (f : Fin p Tb H D) (m : Mv p Tb H H1) : Fin p Tb H1 D := fun H' m' => f H' (m.trans m')
end K1
namespace K1
open PySem PySem.Spec
open PyProof.Rows L2 EnT StX SmX TxS DuX XdI Tr3 CnB ClX
theorem mk_read {C CN : Addr} {zs ys : List Str} {H : Hp} {Q : VK} {E : XK} (nm : ∀ z ∈ zs, nameB z = true) (hl : zs.length ≤ 1000) (srt : sortedS ys = true) (nd : ys.Nodup) (hm : ∀ z, z ∈ ys ↔ z ∈ zs)
    (q : ∀ b H', H b = none → Same H H' → MemAt C H' b ys → Q (.ref b) H') : spMk C CN (zs.map V.str) H Q E := by
  have hw : wrongIx (zs.map V.str) = none := wrong_none (List.all_eq_true.mpr fun v hv => by
    obtain ⟨z, hz, rfl⟩ := List.mem_map.mp hv
    exact nm z hz)
  refine ⟨fun v hv => ?_, by rw [List.length_map]; exact hl, fun i hi => (by rw [hw] at hi; cases hi), fun _ us eu b ws H' nb s m MA => ?_⟩
  · obtain ⟨z, hz, rfl⟩ := List.mem_map.mp hv
    exact .inl ⟨z, rfl, by have := name_short (nm z hz); rw [sizeLine_eq]; omega⟩
  · have eu2 : us = zs := (List.map_inj_right (fun _ _ h => V.str.inj h)).mp eu.symm
    subst eu2
    have e : ws = ys := sorted_uniq MA.srt srt MA.nd nd fun z => (m z).trans (hm z).symm
    subst e
    exact q b H' nb s MA
theorem mk_bad {C CN : Addr} {zs : List Str} {v : V} {r : List V} {H : Hp} {Q : VK} {E : XK} (nm : ∀ z ∈ zs, nameB z = true) (hl : zs.length + r.length ≤ 900) (hv : VOk H v) (hn : nameV v = false) (hr : ∀ u ∈ r, VOk H u)
    (q : ErrAt CN "index" (.int (zs.length : Nat)) H E) : spMk C CN (zs.map V.str ++ v :: r) H Q E := by
  have hw : wrongIx (zs.map V.str ++ v :: r) = some zs.length := by
    refine wrong_some (v := v) ?_ hn ?_
    · rw [List.getElem?_append_right (by rw [List.length_map]; exact Nat.le_refl _), List.length_map, Nat.sub_self]
      rfl
    · have e : (zs.map V.str ++ v :: r).take zs.length = zs.map V.str := by
        have := List.take_left (l₁ := zs.map V.str) (l₂ := v :: r)
        rw [List.length_map] at this
        exact this
      rw [e]
      exact List.all_eq_true.mpr fun u hu => by
        obtain ⟨z, hz, rfl⟩ := List.mem_map.mp hu
        exact nm z hz
  refine ⟨fun u hu => ?_, by rw [List.length_append, List.length_map, List.length_cons]; omega, fun i hi => ?_, fun h => (by rw [hw] at h; cases h)⟩
  · rcases List.mem_append.mp hu with e | e
    · obtain ⟨z, hz, rfl⟩ := List.mem_map.mp e
      exact .inl ⟨z, rfl, by have := name_short (nm z hz); rw [sizeLine_eq]; omega⟩
    · rcases List.mem_cons.mp
          e with e | e
      · rw [e]
        exact hv
      · exact hr u e
  · rw [hw] at hi
    cases hi
    exact q
section
variable {X : Cx}
theorem ty_mem {C b : Addr} {ws : List Str} {H : Hp} (m : MemAt C H b ws) : ∀ (pins : List (Addr × Obj)) (σ : L2.St) (s : Shared) (u : Value), Inv X pins σ H s → RelV (.ref b) u → ∀ M : Model, PySem.W.Looks M s.heap (typeOf u) (.ref C) := by
  intro pins σ s u Iv r M
  obtain ⟨dx, t, d, h1, _, _⟩ := m.at_
  cases r
  obtain ⟨ox, od, J⟩ := inst_of Iv h1
  exact J.type
theorem ty_vok {H : Hp} {v : V} (h : VOk H v) : ∃ t, t ∈ baseTys ∧ ∀ (pins : List (Addr × Obj)) (σ : L2.St) (s : Shared) (u : Value), Inv X pins σ H s → RelV v u → ∀ M : Model, PySem.W.Looks M s.heap (typeOf u) (.type t) := by
  obtain ⟨t, ht, tx⟩ := h.ty (K := X.K)
  refine ⟨t, ht, fun pins σ s u Iv r M => ?_⟩
  obtain ⟨Pz, Z, pz, _⟩ := kit_of Iv r tx
  exact Z.ty M s.heap Iv.kIn pz
end
/-- the value that an ask tells: two texts in a list, four times -/
abbrev D2 : Eqv := DList (DList DFlat)
theorem flat_str (z : Str) (H : Hp) : DFlat (.str z) (.str z) H := ⟨rfl, rfl, by simp [eqV]⟩
theorem pair_eq {H : Hp} {a b : Addr} {x y : Str} (ha : H a = some (.lst [.str x, .str y])) (hb : H b = some (.lst [.str x, .str y])) : DList DFlat (.ref a) (.ref b) H :=
  ⟨a, b, _, _, rfl, rfl, ha, hb, .cons (flat_str x H) (.cons (flat_str y H) .nil)⟩
theorem rc_D2 {X : Cx} : RcG X 2 D2 := rcG_list (mon_list mon_flat) (eqG_list mon_flat eqG_flat)
end K1
namespace K1
open PySem PySem.Spec
open PyProof.Rows L2 EnT StX SmX TxS DuX XdI Tr3 CnB ClX
/-- a list of four pairs of texts -/
structure Pairs4 (H : Hp) (t : Addr) (ps : List (Str × Str)) : Prop where
  ex : ∃ as : List Addr, H t = some (.lst (as.map V.ref)) ∧ as.length = ps.length ∧ ∀ (i : Nat) (a : Addr) (q : Str × Str), as[i]? = some a → ps[i]? = some q → H a = some (.lst [.str q.1, .str q.2])
theorem pairs_eq {H : Hp} {t u : Addr} {ps : List (Str × Str)} (a : Pairs4 H t ps) (b : Pairs4 H u ps) : D2 (.ref t) (.ref u) H := by
  obtain ⟨as, h1, l1, k1⟩ := a
  obtain ⟨bs, h2, l2, k2⟩ := b
  refine ⟨t, u, _, _, rfl, rfl, h1, h2, by rw [List.length_map, List.length_map, l1, l2], fun i x y hx hy => ?_⟩
  rw [List.getElem?_map] at hx hy
  obtain ⟨a, ea, rfl⟩ := Option.map_eq_some_iff.mp hx
  obtain ⟨b, eb, rfl⟩ := Option.map_eq_some_iff.mp hy
  have hi : i < ps.length := by
    rw [← l1]
    exact (List.getElem?_eq_some_iff.mp ea).1
  exact pair_eq (k1 i a _ ea (List.getElem?_eq_getElem hi)) (k2 i b _ eb (List.getElem?_eq_getElem hi))
theorem refs_nopool {as : List Addr} : ∀ x y z : Int, (HO.lst (as.map V.ref)) ≠ .lst [.int x, .int y, .int z] := fun x y z e => by
  have q := HO.lst.inj e
  cases as with
  | nil => cases q
  | cons a r => cases q
theorem Pairs4.mv {p : Addr} {Tb : List (Addr × Str)} {H H' : Hp} {t : Addr} {ps : List (Str × Str)} (m : Mv p Tb H H') (hp : PoolAt H p) (a : Pairs4 H t ps) : Pairs4 H' t ps := by
  obtain ⟨as, h1, l1, k1⟩ := a
  exact ⟨as, m.at hp h1 refs_nopool (fun _ e => by cases e), l1, fun i b q e1 e2 => m.at hp (k1 i b q e1 e2) (fun _ _ _ e => by cases e) (fun _ e => by cases e)⟩
section
variable {w : World} {P : Program} {base : Heap} {mg : Str → Option Value} {K : PySem.W.Frag} {C CN CT S1 S2 S3 : Addr} {mc : Value}
variable {f : Addr} {cdv : Value} {A : Around} {outer : List Env} {s : Shared} {H0 : Hp} {p : Addr} {Tb : List (Addr × Str)}
/-- before the last row -/
structure At18 (C p : Addr) (Tb : List (Addr × Str)) (σ : L2.St) (H : Hp) (D : Ends) : Prop where
  ex : ∃ (a1 a2 a3 a4 at_ aw : Addr) (T dr ys : List Str) (ps : List (Str × Str)) (x6 x7 x8 x9 x10 x12 x13 x14 : Option V), σ = [some (.ref p), some (.ref a1), some (.ref a2), some (.ref a3), some (.ref a4), some (.ref at_), x6, x7, x8, x9, x10, some (.ref aw), x12, x13, x14] ∧
    Core C p Tb a1 a2 a3 a4 T dr ys H ∧ Pairs4 H at_ ps ∧ Pairs4 H aw ps ∧ Fin p Tb H D
theorem ext_same {H H' : Hp} (e : L2.Ext H H') : Same H H' := e
theorem seg18 (W : Wd P w K mg base C CN CT S1 S2 S3 mc) (hr : Room 8 (A.deeper (envOfC "_law_right" (defScope sRight) s.heap.objs.size f cdv))) : PSs (cxR P w K mg base f cdv A outer s H0) (rest 18) (fun D σ H => At18 C p Tb σ H D) := by
  refine ⟨fun pins s' σ H D I h => ?_⟩
  obtain ⟨a1, a2, a3, a4, at_, aw, T, dr, ys, ps, x6, x7, x8, x9, x10, x12, x13, x14, eσ, c, pt, pw, fin⟩ := h.ex
  obtain ⟨fM, hM⟩ := W.made
  obtain ⟨gE, mE, FE, _⟩ := W.eqM
  obtain ⟨t, ht, hq⟩ : ∃ t, PSs (cxR P w K mg base f cdv A outer s H0) (rest 18) t ∧ t D σ H := by
    refine ⟨_, pss_one (ps_ret (pe_and (pe_cmpR (op_eqG rc_D2 (hr.mono (by decide))) (pv 5) (pv 11) (nomark _)) (pe_one (pe_cmpR (op_eqO mE FE (hr.mono (by decide)) pass0) (pv 4) (pe_has (sp := spMade C CN) hM (hr.mono (by decide)) (by rfl) passL (pa_cons (pv 2) pa_nil)) (nomark _))))), ?_⟩
    subst eσ
    refine ⟨_, rfl, _, rfl, pairs_eq pt pw, fun H1 e1 => ⟨true, rfl, ?_⟩⟩
    have m1 : Mv p Tb H H1 := .same e1 c.pool c.tabs
    have c1 := c.mv m1
    refine iteT ?_
    refine ⟨_, rfl, _, rfl, a2, _, rfl, c1.l2, by rw [List.length_map]; exact c1.dfew, mk_read (fun z hz => (c1.dtg z hz).nm) (by have := c1.dfew; omega) c1.m4.srt c1.m4.nd c1.mem fun b H2 nb s2 MA => ?_⟩
    have m2 : Mv p Tb H1 H2 := .same s2 c1.pool c1.tabs
    have c2 := c1.mv m2
    obtain ⟨dx, t4, d4, k1, _, _⟩ := c2.m4.at_
    refine ⟨a4, dx, _, .ref C, rfl, k1, ty_mem MA, W.I.nfC, a4, ys, .ref b, rfl, c2.m4, .inl ⟨b, ys, rfl, MA, ?_⟩⟩
    refine ⟨_, rfl, ?_⟩
    rw [decide_eq_true rfl]
    exact fin H2 (m1.trans m2)
  exact ht.run pins s' σ H D I hq
end
end K1
namespace K1
open PySem PySem.Spec
open PyProof.Rows L2 EnT StX SmX TxS DuX XdI Tr3 CnB ClX
/-- the same, with the data that it is -/
inductive BadD (H : Hp) : V → PyData → Prop where
  | non : BadD H .non .none
  | five : BadD H (.int 5) (.int 5)
  | tup {a : Addr} (e : H a = some (.tup [.str (Str.ofString "a")])) : BadD H (.ref a) (.tuple [.str (Str.ofString "a")])
  | lst {a : Addr} (e : H a = some (.lst [.str (Str.ofString "a")])) : BadD H (.ref a) (.list [.str (Str.ofString "a")])
  | txt {ws : List Str} (b : BadT ws) : BadD H (.str (joinSp ws)) (.str (joinSp ws))
theorem BadV.dat {H : Hp} {v : V} (h : BadV H v) : ∃ d, BadD H v d := by
  cases h with
  | non => exact ⟨_, .non⟩
  | five => exact ⟨_, .five⟩
  | tup e => exact ⟨_, .tup e⟩
  | lst e => exact ⟨_, .lst e⟩
  | txt b => exact ⟨_, .txt b⟩
theorem BadD.mv {p : Addr} {Tb : List (Addr × Str)} {H H' : Hp} {v : V} {d : PyData} (m : Mv p Tb H H') (hp : PoolAt H p) (h : BadD H v d) : BadD H' v d := by
  cases h with
  | non => exact .non
  | five => exact .five
  | tup e => exact .tup (m.at hp e (fun _ _ _ e => by cases e) (fun _ e => by cases e))
  | lst e => exact .lst (m.at hp e (fun _ _ _ e => by cases e) (fun _ e => by cases e))
  | txt b => exact .txt b
theorem BadD.dp {K : PySem.W.Frag} {H : Hp} {v : V} {d : PyData} (h : BadD H v d) : Dp K H v d := by
  cases h with
  | non => exact .non
  | five => exact .int 5
  | tup e => exact .tup (SqT.of e) (.cons (.str _) .nil)
  | lst e => exact .lst (SqL.of e) (.cons (.str _) .nil)
  | txt b => exact .str _
theorem join_low : ∀ zs : List Str, (∀ z ∈ zs, ∀ c ∈ z.cps.toList, c < 128) → ∀ c ∈ (joinSp zs).cps.toList, c < 128
  | [], _ => by
    have e : (joinSp []).cps.toList = [] := by decide +kernel
    rw [e]
    intro c hc
    cases hc
  | [z], h => fun c hc => h z List.mem_cons_self c hc
  | z :: y :: r, h => fun c hc => by
    rw [join_two] at hc
    have e : (z ++ sp1 ++ joinSp (y :: r)).cps.toList = TL.tl z ++ TL.tl sp1 ++ TL.tl (joinSp (y :: r)) := by
      show TL.tl (z ++ sp1 ++ joinSp (y :: r)) = _
      rw [TL.tl_append, TL.tl_append]
    rw [e] at hc
    rcases List.mem_append.mp hc with q | q
    · rcases List.mem_append.mp
          q with q | q
      · exact h z List.mem_cons_self c q
      · rw [tl_sp1] at q
        have : c = 32 := List.mem_singleton.mp q
        omega
    · exact join_low (y :: r) (fun u hu => h u (List.mem_cons_of_mem _ hu)) c q
theorem join_small {ws : List Str} (hs : ∀ z ∈ ws, z.length ≤ 8) (hf : ws.length ≤ 20) : (joinSp ws).length ≤ 200 := by
  have a := join_len ws
  have b := sum_short ws hs
  omega
theorem str_plain {z : Str} (h : ∀ c ∈ z.cps.toList, c < 128) : RpD.plainD (.str z) = true := by
  unfold RpD.plainD
  exact List.all_eq_true.mpr fun c hc => decide_eq_true (Nat.lt_trans (h c hc) (by decide))
theorem BadD.shows {H : Hp} {v : V} {d : PyData} (h : BadD H v d) : RpD.Shows d := by
  cases h with
  | non => exact .of rfl (by decide) (by decide)
  | five => exact .of (by decide +kernel) (by decide) (by decide)
  | tup e => exact .of (by decide +kernel) (by decide +kernel) (by decide +kernel)
  | lst e => exact .of (by decide +kernel) (by decide +kernel) (by decide +kernel)
  | @txt ws b =>
    refine .of (str_plain (join_low ws b.lo)) (Nat.zero_le _) ?_
    show 10 * (joinSp ws).length + 2 ≤ 16000000
    have := join_small b.sh b.few
    omega
def told4 (zat : Str) (dat : PyData) : List (Str × Str) := [("InvalidNames", zat), ("InvalidNames", zat), ("InvalidNames", "None"), ("InvalidText", dat.shown)]
section
variable {w : World} {P : Program} {base : Heap} {mg : Str → Option Value} {K : PySem.W.Frag} {C CN CT S1 S2 S3 : Addr} {mc : Value}
variable {f : Addr} {cdv : Value} {A : Around} {outer : List Env} {s : Shared} {H0 : Hp} {p : Addr} {Tb : List (Addr × Str)}
structure At17 (C p : Addr) (Tb : List (Addr × Str)) (σ : L2.St) (H : Hp) (D : Ends) : Prop where
  ex : ∃ (a1 a2 a3 a4 at_ : Addr) (T dr ys : List Str) (zat : Str) (v : V) (dat : PyData) (x6 x7 x8 x11 x12 x13 x14 : Option V), σ = [some (.ref p), some (.ref a1), some (.ref a2), some (.ref a3), some (.ref a4), some (.ref at_), x6, x7, x8, some v, some (.str zat), x11, x12, x13, x14] ∧
    Core C p Tb a1 a2 a3 a4 T dr ys H ∧ BadD H v dat ∧ Pairs4 H at_ (told4 zat dat) ∧ Fin p Tb H D
theorem seg17 (W : Wd P w K mg base C CN CT S1 S2 S3 mc) (hgd : A.guards = some []) (hr : Room 8 (A.deeper (envOfC "_law_right" (defScope sRight) s.heap.objs.size f cdv))) : PSs (cxR P w K mg base f cdv A outer s H0) (rest 17) (fun D σ H => At17 C p Tb σ H D) := by
  refine ⟨fun pins s' σ H D I h => ?_⟩
  obtain ⟨a1, a2, a3, a4, at_, T, dr, ys, zat, v, dat, x6, x7, x8, x11, x12, x13, x14, eσ, c, bd, pt, fin⟩ := h.ex
  have hun := hr.un
  obtain ⟨t, ht, hq⟩ : ∃ t, PSs (cxR P w K mg base f cdv A outer s H0) (rest 17) t ∧ t D σ H := by
    refine ⟨_, pss_cons (ps_set (i := 11) scRight.nd rfl (.inl rfl) (pe_lst (pa_cons (pe_lst (pa_cons pe_str (pa_cons (pv 10) pa_nil))) (pa_cons (pe_lst (pa_cons pe_str (pa_cons (pv 10) pa_nil))) (pa_cons (pe_lst (pa_cons pe_str (pa_cons pe_str pa_nil))) (pa_cons (pe_lst (pa_cons pe_str (pa_cons (pe_callB (RpD.call_reprD (by exact hgd) (by show (A.deeper (envOfC "_law_right" (defScope sRight) s.heap.objs.size f cdv)).units + 100 < cLine; omega)) (by rfl) W.T.repr (by decide +kernel) (pa_cons (pv 9) pa_nil)) pa_nil))) pa_nil)))))) (seg18 (p := p) (Tb := Tb) W hr), ?_⟩
    subst eσ
    refine ⟨_, rfl, (by show 2 ≤ sizeLine; decide), fun q1 n1 => ⟨_, rfl, (by show 2 ≤ sizeLine; decide), fun q2 n2 => ⟨(by show 2 ≤ sizeLine; decide), fun q3 n3 => ?_⟩⟩⟩
    have e1 : Same H (upd H q1 (.lst [.str (Str.ofString "InvalidNames"), .str zat])) := same_upd n1
    generalize h1 : upd H q1 (.lst [.str (Str.ofString "InvalidNames"), .str zat]) = H1 at e1 n2 n3 ⊢
    have k1 : H1 q1 = some (.lst [.str (Str.ofString "InvalidNames"), .str zat]) := by rw [← h1]; exact upd_same
    clear h1
    have e2 : Same H1 (upd H1 q2 (.lst [.str (Str.ofString "InvalidNames"), .str zat])) := same_upd n2
    generalize h2 : upd H1 q2 (.lst [.str (Str.ofString "InvalidNames"), .str zat]) = H2 at e2 n3 ⊢
    have k2 : H2 q2 = some (.lst [.str (Str.ofString "InvalidNames"), .str zat]) := by rw [← h2]; exact upd_same
    clear h2
    have e3 : Same H2 (upd H2 q3 (.lst [.str (Str.ofString "InvalidNames"), .str (Str.ofString "None")])) := same_upd n3
    generalize h3 : upd H2 q3 (.lst [.str (Str.ofString "InvalidNames"), .str (Str.ofString "None")]) = H3 at e3 ⊢
    have k3 : H3 q3 = some (.lst [.str (Str.ofString "InvalidNames"), .str (Str.ofString "None")]) := by rw [← h3]; exact upd_same
    clear h3
    have s3 : Same H H3 := (e1.trans e2).trans e3
    have m3 : Mv p Tb H H3 := .same s3 c.pool c.tabs
    refine ⟨_, rfl, v, dat, rfl, (bd.mv m3 c.pool).dp, bd.shows, (by show 2 ≤ sizeLine; decide), fun q4 n4 => ⟨(by show 4 ≤ sizeLine; decide), fun q5 n5 => ?_⟩⟩
    have e4 : Same H3 (upd H3 q4 (.lst [.str (Str.ofString "InvalidText"), .str dat.shown])) := same_upd n4
    generalize h4 : upd H3 q4 (.lst [.str (Str.ofString "InvalidText"), .str dat.shown]) = H4 at e4 n5 ⊢
    have k4 : H4 q4 = some (.lst [.str (Str.ofString "InvalidText"), .str dat.shown]) := by rw [← h4]; exact upd_same
    clear h4
    have e5 : Same H4 (upd H4 q5 (.lst [.ref q1, .ref q2, .ref q3, .ref q4])) := same_upd n5
    generalize h5 : upd H4 q5 (.lst [.ref q1, .ref q2, .ref q3, .ref q4]) = H5 at e5 ⊢
    have k5 : H5 q5 = some (.lst [.ref q1, .ref q2, .ref q3, .ref q4]) := by rw [← h5]; exact upd_same
    clear h5
    have s5 : Same H H5 := (s3.trans e4).trans e5
    have m5 : Mv p Tb H H5 := .same s5 c.pool c.tabs
    refine ⟨a1, a2, a3, a4, at_, q5, T, dr, ys, told4 zat dat, _, _, _, _, _, _, _, _, rfl, c.mv m5, pt.mv m5 c.pool, ⟨[q1, q2, q3, q4], k5, rfl, fun i a q ha hq => ?_⟩, fin.mv m5⟩
    match i, ha, hq with
    | 0, ha, hq => cases ha; cases hq; exact e5 _ _ (e4 _ _ (e3 _ _ (e2 _ _ k1)))
    | 1, ha, hq => cases ha; cases hq; exact e5 _ _ (e4 _ _ (e3 _ _ k2))
    | 2, ha, hq => cases ha; cases hq; exact e5 _ _ (e4 _ _ k3)
    | 3, ha, hq => cases ha; cases hq; exact e5 _ _ k4
    | n + 4, ha, hq => simp at ha
  exact ht.run pins s' σ H D I hq
end
end K1
namespace K1
open PySem PySem.Spec
open PyProof.Rows L2 EnT StX SmX TxS DuX XdI Tr3 CnB ClX
theorem cut2 (xs : List V) : cutV xs none (some 2) = xs.take 2 := by
  unfold cutV
  have e : HT.sIx xs.length xs.length (some 2) = min 2 xs.length := HT.sIx_nat xs.length xs.length 2
  rw [e, HT.sIx_none, Nat.sub_zero, List.drop_zero]
  rcases Nat.le_total 2 xs.length with h | h
  · rw [Nat.min_eq_left h]
  · rw [Nat.min_eq_right h, List.take_of_length_le (Nat.le_refl _), List.take_of_length_le h]
def zatOf (ys : List Str) : Str := (toString ((ys.take 2).length : Int) : Str)
section
variable {w : World} {P : Program} {base : Heap} {mg : Str → Option Value} {K : PySem.W.Frag} {C CN CT S1 S2 S3 : Addr} {mc : Value}
variable {f : Addr} {cdv : Value} {A : Around} {outer : List Env} {s : Shared} {H0 : Hp} {p : Addr} {Tb : List (Addr × Str)}
structure At16 (C p : Addr) (Tb : List (Addr × Str)) (σ : L2.St) (H : Hp) (D : Ends) : Prop where
  ex : ∃ (a1 a2 a3 a4 at_ : Addr) (T dr ys : List Str) (v : V) (dat : PyData) (x6 x7 x8 x10 x11 x12 x13 x14 : Option V), σ = [some (.ref p), some (.ref a1), some (.ref a2), some (.ref a3), some (.ref a4), some (.ref at_), x6, x7, x8, some v, x10, x11, x12, x13, x14] ∧
    Core C p Tb a1 a2 a3 a4 T dr ys H ∧ BadD H v dat ∧ Pairs4 H at_ (told4 (zatOf ys) dat) ∧ Fin p Tb H D
theorem seg16 (W : Wd P w K mg base C CN CT S1 S2 S3 mc) (hgd : A.guards = some []) (hr : Room 8 (A.deeper (envOfC "_law_right" (defScope sRight) s.heap.objs.size f cdv))) : PSs (cxR P w K mg base f cdv A outer s H0) (rest 16) (fun D σ H => At16 C p Tb σ H D) := by
  refine ⟨fun pins s' σ H D I h => ?_⟩
  obtain ⟨a1, a2, a3, a4, at_, T, dr, ys, v, dat, x6, x7, x8, x10, x11, x12, x13, x14, eσ, c, bd, pt, fin⟩ := h.ex
  obtain ⟨t, ht, hq⟩ : ∃ t, PSs (cxR P w K mg base f cdv A outer s H0) (rest 16) t ∧ t D σ H := by
    refine ⟨_, pss_cons (ps_set (i := 10) scRight.nd rfl (.inl rfl) (pe_callTy call_str_int (by rfl) W.T.str (by decide +kernel) (pa_cons (pe_callB call_len_seq (by rfl) W.T.len PySem.boot_len (pa_cons (pe_slice sl_list (pv 3) po_none (po_some pe_int)) pa_nil)) pa_nil))) (seg17 (p := p) (Tb := Tb) W hgd hr), ?_⟩
    subst eσ
    refine ⟨_, rfl, _, rfl, a3, _, rfl, SqL.of c.l3, fun q nq => ?_⟩
    have e2 : cutV (ys.map V.str) none (some 2) = (ys.take 2).map V.str := by rw [cut2, List.map_take]
    rw [e2]
    have m1 : Mv p Tb H (upd H q (.lst ((ys.take 2).map V.str))) := .same (same_upd nq) c.pool c.tabs
    refine ⟨q, _, rfl, .inl (SqL.of upd_same), ?_⟩
    rw [List.length_map]
    refine ⟨_, rfl, RpD.log_small ⟨by omega, by have := c.yfew; rw [List.length_take]; omega⟩, ?_⟩
    exact ⟨a1, a2, a3, a4, at_, T, dr, ys, zatOf ys, v, dat, _, _, _, _, _, _, _, rfl, c.mv m1, bd.mv m1 c.pool, pt.mv m1 c.pool, fin.mv m1⟩
  exact ht.run pins s' σ H D I hq
end
end K1
namespace K1
open PySem PySem.Spec
open PyProof.Rows L2 EnT StX SmX TxS DuX XdI Tr3 CnB ClX
/-! ### the list of what is told grows -/
/-- told stands at t: not there when the law's right began -/
structure Fin0 (p : Addr) (Tb : List (Addr × Str)) (t : Addr) (H : Hp) (D : Ends) : Prop where
  ex : ∃ H00, Mv p Tb H00 H ∧ (∀ o, H00 t = some o → ∃ ps, o = .tbl ps) ∧ Fin p Tb H00 D
theorem Fin0.mv {p t : Addr} {Tb : List (Addr × Str)} {H H1 : Hp} {D : Ends} (f : Fin0 p Tb t H D) (m : Mv p Tb H H1) : Fin0 p Tb t H1 D := by
  obtain ⟨H00, a, b, c⟩ := f.ex
  exact ⟨H00, a.trans m, b, c⟩
theorem Fin0.new {p t : Addr} {Tb : List (Addr × Str)} {H : Hp} {D : Ends} (f : Fin p Tb H D) (hp : PoolAt H p) (T : LamX.Tabs Tb H) (n : H t = none) : Fin0 p Tb t H D := ⟨H, .refl hp T, fun o e => (by rw [n] at e; cases e), f⟩
theorem Fin0.fin {p t : Addr} {Tb : List (Addr × Str)} {H : Hp} {D : Ends} (f : Fin0 p Tb t H D) : Fin p Tb H D := by
  obtain ⟨H00, a, b, c⟩ := f.ex
  exact c.mv a
theorem tabs_upd {Tb : List (Addr × Str)} {H : Hp} {t : Addr} {xs : List V} {o : HO} (h : H t = some (.lst xs)) (T : LamX.Tabs Tb H) : LamX.Tabs Tb (upd H t o) := fun q hq => by
  obtain ⟨ps, h1, h2, h3⟩ := T q hq
  refine ⟨ps, by rw [upd_ne (fun z => by rw [z, h] at h1; cases h1)]; exact h1, h2, fun pos cv hc => ?_⟩
  obtain ⟨d, e1, e2⟩ := h3 pos cv hc
  exact ⟨d, e1, by rw [upd_ne (fun z => by rw [z, h] at e2; unfold LamX.CodeO at e2; cases e2)]; exact e2⟩
theorem Fin0.set {p t : Addr} {Tb : List (Addr × Str)} {H : Hp} {D : Ends} {as : List Addr} {o : HO} (f : Fin0 p Tb t H D) (h : H t = some (.lst (as.map V.ref))) : Fin0 p Tb t (upd H t o) D := by
  obtain ⟨H00, a, b, c⟩ := f.ex
  have tp : p ≠ t := fun e => by
    obtain ⟨x, y, z, hz⟩ := a.rx.pool
    rw [e, h] at hz
    exact refs_nopool x y z (Option.some.inj hz)
  refine ⟨H00, ⟨⟨?_, fun d q n e nt => ?_⟩, tabs_upd h a.tabs⟩, b, c⟩
  · obtain ⟨x, y, z, hz⟩ := a.rx.pool
    exact ⟨x, y, z, by rw [upd_ne tp]; exact hz⟩
  · rw [upd_ne (fun z => by
      rw [z] at e
      obtain ⟨ps, hps⟩ := b q e
      exact nt ps hps)]
    exact a.rx.keep d q n e nt
theorem strs_refs {zs : List Str} {as : List Addr} (hn : as ≠ []) : HO.lst (zs.map V.str) ≠ HO.lst (as.map V.ref) := fun e => by
  have q := HO.lst.inj e
  cases as with
  | nil => exact hn rfl
  | cons a r =>
    cases zs with
    | nil => cases q
    | cons z s => cases q
theorem upd_keep {H : Hp} {t b : Addr} {o1 o2 o : HO} (h : H t = some o1) (hb : H b = some o2) (n : o2 ≠ o1) : upd H t o b = some o2 := by
  rw [upd_ne (fun e => by rw [e, h] at hb; exact n (Option.some.inj hb).symm)]
  exact hb
theorem Core.set {C p a1 a2 a3 a4 t : Addr} {Tb : List (Addr × Str)} {T dr ys : List Str} {H : Hp} {as : List Addr} {o : HO} (c : Core C p Tb a1 a2 a3 a4 T dr ys H) (h : H t = some (.lst (as.map V.ref))) (hn : as ≠ []) : Core C p Tb a1 a2 a3 a4 T dr ys (upd H t o) := by
  refine ⟨?_, tabs_upd h c.tabs, upd_keep h c.l1 (strs_refs hn), upd_keep h c.l2 (strs_refs hn), upd_keep h c.l3 (strs_refs hn), ?_, c.tg, c.tne, c.tfew, c.sub, c.dfew, c.mem, c.yfew⟩
  · obtain ⟨x, y, z, hz⟩ := c.pool
    exact ⟨x, y, z, upd_keep h hz fun e => refs_nopool x y z e.symm⟩
  · obtain ⟨⟨dx, tt, d, h1, h2, h3⟩, a, b, cc, e⟩ := c.m4
    exact ⟨⟨dx, tt, d, upd_keep h h1 (fun e => by cases e), upd_keep h h2 (fun e => by cases e), upd_keep h h3 (fun e => by cases e)⟩, a, b, cc, e⟩
theorem BadD.set {H : Hp} {t : Addr} {as : List Addr} {o : HO} {v : V} {d : PyData} (h : H t = some (.lst (as.map V.ref))) (hn : as ≠ []) (b : BadD H v d) : BadD (upd H t o) v d := by
  cases b with
  | non => exact .non
  | five => exact .five
  | tup e => exact .tup (upd_keep h e (fun e => by cases e))
  | lst e => exact .lst (upd_keep h e (strs_refs (zs := [Str.ofString "a"]) hn))
  | txt b => exact .txt b
/-- one more pair -/
theorem Pairs4.app {H : Hp} {t q : Addr} {ps : List (Str × Str)} {as : List Addr} {z y : Str} (h : H t = some (.lst (as.map V.ref))) (hn : as ≠ []) (P : Pairs4 H t ps) (hq : H q = some (.lst [.str z, .str y])) :
    Pairs4 (upd H t (.lst (as.map V.ref ++ [.ref q]))) t (ps ++ [(z, y)]) := by
  obtain ⟨bs, h1, l1, k1⟩ := P
  rw [h] at h1
  have e1 : as.map V.ref = bs.map V.ref := HO.lst.inj (Option.some.inj h1)
  have e2 : as = bs := (List.map_inj_right (fun _ _ h => V.ref.inj h)).mp e1
  subst e2
  have two : ∀ {x1 y1 : Str}, (HO.lst [.str x1, .str y1]) ≠ HO.lst (as.map V.ref) := fun {x1 y1} => strs_refs (zs := [x1, y1]) hn
  refine ⟨as ++ [q], by rw [upd_same, List.map_append]; rfl, by rw [List.length_append, List.length_append, l1]; rfl, fun i a r ha hr => ?_⟩
  by_cases hi : i < as.length
  · rw [List.getElem?_append_left hi] at ha
    rw [List.getElem?_append_left (by rw [← l1]; exact hi)] at hr
    exact upd_keep h (k1 i a r ha hr) two
  · rw [List.getElem?_append_right (by omega)] at ha
    rw [List.getElem?_append_right (by rw [← l1]; omega)] at hr
    have e3 : i - as.length = 0 := by
      have := (List.getElem?_eq_some_iff.mp ha).1
      simp at this
      omega
    rw [e3] at ha
    rw [← l1, e3] at hr
    cases ha
    cases hr
    exact upd_keep h hq two
/-- a promise of two forms -/
theorem fnR_or {P : Program} {w : World} {K : PySem.W.Frag} {mg : Str → Option Value} {base : Heap} {CX : CXT} {k : Nat} {f : Addr} {sp sp' : Sp} (a : FnR P w K mg base CX k f sp) (b : FnR P w K mg base CX k f sp') : FnR P w K mg base CX k f (fun vs H Q E => sp vs H Q E ∨ sp' vs H Q E) := by
  intro A outer s H us vs Q E hr e0 r h
  rcases h with h | h
  · exact a A outer s H us vs Q E hr e0 r h
  · exact b A outer s H us vs Q E hr e0 r h
/-- what is known of the ask that catches, and of the lambdas' code -/
structure Asks (K : PySem.W.Frag) (mg : Str → Option Value) (base : Heap) (c Pt : Addr) : Prop where
  ex : ∃ g fd, mg "_law_caught" = some (.ref g) ∧ Fun K "_law_caught" "_law_caught" sCaught g fd
  tb : LamX.TabB base mg c Pt
end K1
namespace K1
open PySem PySem.Spec
open PyProof.Rows L2 EnT StX SmX TxS DuX XdI Tr3 CnB ClX
/-- the qualified name of the lambdas of the law's right -/
def lamQ : Str := (envOfC "_law_right" (defScope sRight) 0 0 .none).qual ++ "<lambda>"
abbrev TbR (Pt : Addr) : List (Addr × Str) := [(Pt, lamQ)]
section
variable {w : World} {P : Program} {base : Heap} {mg : Str → Option Value} {K : PySem.W.Frag} {C CN CT S1 S2 S3 : Addr} {mc : Value}
variable {f c Pt : Addr} {A : Around} {outer : List Env} {s : Shared} {H0 : Hp} {p : Addr}
theorem pe_ask (W : Wd P w K mg base C CN CT S1 S2 S3 mc) (AK : Asks K mg base c Pt) (hgd : A.guards = some []) (hr : Room 8 (A.deeper (envOfC "_law_right" (defScope sRight) s.heap.objs.size f (.ref c)))) {params : Arguments} {body : Expr} {scope : Scope} {t : XK → TE} {np lpos pos : Pos}
    (L : LamX.LamS (defScope sRight) scope)
    (hbody : ∀ (A' : Around) (outer' : List Env) (s' : Shared) (H' : Hp) (E : XK) (f' c' : Addr), Room 6 (A'.deeper (LamX.lamEnv (cxR P w K mg base f (.ref c) A outer s H0) scope s'.heap.objs.size f' c')) → PE (LamX.lamCx (cxR P w K mg base f (.ref c) A outer s H0) A' outer' s' H' E scope f' c') body (t E))
    (hdef : defaultsOf params (cxR P w K mg base f (.ref c) A outer s H0).env = ([], []) := by rfl)
    (hbind : ∀ (q : Str) (cl : List (Str × Addr)) (pm cv ctv : Value), bindArgs (PySem.W.kla_fn "<lambda>" q params body scope cl pm cv ctv) ⟨[], []⟩ = pure [] := by intros; rfl) :
    PE (cxR P w K mg base f (.ref c) A outer s H0) (.Call (.Name "_law_caught" np) [.Lambda params body scope lpos] [] pos) (LamX.tLam (TbR Pt) (TTc K CN CT) t) := by
  obtain ⟨g, fd, mgC, FC⟩ := AK.ex
  obtain ⟨oc, od, kV, doc, pm, an, cdv', ct, osl, efd, lk, hcd⟩ := FC.ex
  subst efd
  have hun := hr.un
  have bC : L2.Binds K (PySem.W.fnOf "_law_caught" "_law_caught" (defArgs sCaught) (defBody sCaught) (defScope sCaught) .none kV doc pm an cdv' ct) ["_law_ask"] [] := FC.binds (ps := ["_law_ask"]) fun _ _ _ _ _ _ us hl => match us, hl with | [_], _ => rfl
  exact LamX.pe_lamcall (X := cxR P w K mg base f (.ref c) A outer s H0) (T := TbR Pt) (TT := TTc K CN CT) (k := 6) (Ng := nmCaught) (a := "_law_ask") (c := c) (P := Pt) (by rfl) mgC FC.kp lk hcd bC scCaught (by rfl) (.inl rfl)
    (caught_gives (X := cxR P w K mg base f (.ref c) A outer s H0) (by exact hgd) (by show (A.deeper (envOfC "_law_right" (defScope sRight) s.heap.objs.size f (.ref c))).units + 300 < cLine; omega) W.T W.EK)
    AK.tb (by rfl) List.mem_cons_self (fun q hq _ => by rw [List.mem_singleton.mp hq]; rfl) hr L hdef hbind hbody
end
end K1
namespace K1
open PySem PySem.Spec
open PyProof.Rows L2 EnT StX SmX TxS DuX XdI Tr3 CnB ClX
theorem parts_bad {ws : List Str} (b : BadT ws) : partsOf (joinSp ws) = ws := parts_of b.ne b.sp b.pos
/-- read of what no Members are read from -/
theorem read_bad {C CT : Addr} {H : Hp} {Q : VK} {E : XK} {v : V} {d : PyData} (b : BadD H v d) (q : ErrAt CT "value" v H E) : spReadN CT ([v]) H Q E ∨ spReadT C CT [v] H Q E := by
  cases b with
  | non => exact .inl ⟨_, rfl, .non, q⟩
  | five => exact .inl ⟨_, rfl, .int 5, q⟩
  | tup e => exact .inl ⟨_, rfl, .tup e, q⟩
  | lst e => exact .inl ⟨_, rfl, .lst e, q⟩
  | @txt ws b =>
    have js := join_small b.sh b.few
    have ep := parts_bad b
    refine .inr ⟨joinSp ws, rfl, by rw [sizeLine_eq]; omega, by rw [ep]; have := b.few; omega, fun y hy => ?_, fun i hi => q, fun hw p ys H' np s m MA => ⟨fun _ => q, fun e => ?_⟩⟩
    · rw [ep] at hy
      have := b.sh y hy
      rw [sizeLine_eq]
      omega
    · rw [ep] at hw m
      rcases b.bad with ⟨i, hi⟩ | nb
      · rw [hi] at hw
        cases hw
      · have e2 : ys = ws := parts_sorted MA.nm (names_ok hw) e
        subst e2
        exact absurd ⟨MA.srt, MA.nd⟩ nb
section
variable {w : World} {P : Program} {base : Heap} {mg : Str → Option Value} {K : PySem.W.Frag} {C CN CT S1 S2 S3 : Addr} {mc : Value}
variable {f c Pt : Addr} {A : Around} {outer : List Env} {s : Shared} {H0 : Hp} {p : Addr}
def told3 (zat : Str) : List (Str × Str) := [("InvalidNames", zat), ("InvalidNames", zat), ("InvalidNames", "None")]
structure At15 (C p Pt : Addr) (σ : L2.St) (H : Hp) (D : Ends) : Prop where
  ex : ∃ (a1 a2 a3 a4 at_ : Addr) (as : List Addr) (T dr ys : List Str) (v : V) (dat : PyData) (x6 x7 x8 x10 x11 x12 x13 x14 : Option V), σ = [some (.ref p), some (.ref a1), some (.ref a2), some (.ref a3), some (.ref a4), some (.ref at_), x6, x7, x8, some v, x10, x11, x12, x13, x14] ∧
    Core C p (TbR Pt) a1 a2 a3 a4 T dr ys H ∧ BadD H v dat ∧ H at_ = some (.lst (as.map V.ref)) ∧ as.length = 3 ∧ Pairs4 H at_ (told3 (zatOf ys)) ∧ Fin0 p (TbR Pt) at_ H D
theorem seg15 (W : Wd P w K mg base C CN CT S1 S2 S3 mc) (AK : Asks K mg base c Pt) (hgd : A.guards = some []) (hr : Room 8 (A.deeper (envOfC "_law_right" (defScope sRight) s.heap.objs.size f (.ref c)))) : PSs (cxR P w K mg base f (.ref c) A outer s H0) (rest 15) (fun D σ H => At15 C p Pt σ H D) := by
  refine ⟨fun pins s' σ H D I h => ?_⟩
  obtain ⟨a1, a2, a3, a4, at_, as, T, dr, ys, v, dat, x6, x7, x8, x10, x11, x12, x13, x14, eσ, cc, bd, ht_, hl3, pt, fin⟩ := h.ex
  obtain ⟨pr, gr, mr, F1, F2, _⟩ := W.read
  obtain ⟨t, ht, hq⟩ : ∃ t, PSs (cxR P w K mg base f (.ref c) A outer s H0) (rest 15) t ∧ t D σ H := by
    refine ⟨_, pss_cons (ps_expr (pe_bm PySem.F.plainAttrs_list PySem.F.slot_list_append PySem.F.type_list_append mt_append (pv 5) (pa_cons
      (pe_ask W AK hgd hr (t := fun E => tSMeth C (fun vs H Q E => spReadN CT vs H Q E ∨ spReadT C CT vs H Q E) E (tC (.ref C)) (tCons (tVar 9) tNil)) (LamX.lamS_by (by decide +kernel))
        (fun A' outer' s' H' E f' c' hr' => pe_smeth (pe_glob (v := .ref C) (by rfl) W.M.g rfl) W.cr mr (fnR_or F2 F1) hr' (passes_call (takes_of rfl rfl rfl rfl) fun _ _ _ _ h => h) (pa_cons (pv 9) pa_nil))) pa_nil)))
      (seg16 (p := p) (Tb := TbR Pt) W hgd hr), ?_⟩
    subst eσ
    refine ⟨_, rfl, .inl ⟨rfl, _, SqL.of ht_⟩, cc.tabs, fun H1 eN T1 Q' => ⟨rfl, _, rfl, read_bad (C := C) (bd.mv (.lam eN cc.pool T1) cc.pool) fun d H2 s2 nd => ?_⟩⟩
    have m1 : Mv p (TbR Pt) H H1 := .lam eN cc.pool T1
    have c1 := cc.mv m1
    have m2 : Mv p (TbR Pt) H1 (upd H2 d (.xd [("value", v)])) := .same (s2.trans (same_upd nd)) c1.pool c1.tabs
    have m12 := m1.trans m2
    have c2 := cc.mv m12
    refine ⟨d, v, dat, "InvalidText", rfl, (bd.mv m12 cc.pool).dp, bd.shows, .inr ⟨rfl, rfl, upd_same⟩, fun q H3 nq s3 hq => ?_⟩
    have m3 : Mv p (TbR Pt) H H3 := m12.trans (.same s3 c2.pool c2.tabs)
    have c3 := cc.mv m3
    have t3 : H3 at_ = some (.lst (as.map V.ref)) := m3.at cc.pool ht_ refs_nopool (fun _ e => by cases e)
    have hn : as ≠ [] := fun e => by rw [e] at hl3; cases hl3
    refine ⟨at_, _, _, rfl, rfl, t3, by rw [List.length_map, hl3]; decide, ?_⟩
    exact ⟨a1, a2, a3, a4, at_, T, dr, ys, v, dat, _, _, _, _, _, _, _, _, rfl, c3.set t3 hn, (bd.mv m3 cc.pool).set t3 hn, Pairs4.app t3 hn (pt.mv m3 cc.pool) hq, ((fin.mv m3).set t3).fin⟩
  exact ht.run pins s' σ H D I hq
end
end K1
namespace K1
open PySem PySem.Spec
open PyProof.Rows L2 EnT StX SmX TxS DuX XdI Tr3 CnB ClX
section
variable {w : World} {P : Program} {base : Heap} {mg : Str → Option Value} {K : PySem.W.Frag} {C CN CT S1 S2 S3 : Addr} {mc : Value}
variable {f c Pt : Addr} {A : Around} {outer : List Env} {s : Shared} {H0 : Hp} {p : Addr}
/-- before the i-th ask (told so far: ps) and before the bad text; an odd value at hand -/
structure AtAsk (n : Nat) (told : Str → List (Str × Str)) (C p Pt : Addr) (σ : L2.St) (H : Hp) (D : Ends) : Prop where
  ex : ∃ (a1 a2 a3 a4 at_ : Addr) (as : List Addr) (T dr ys : List Str) (o : V) (x6 x8 x9 x10 x11 x12 x13 x14 : Option V), σ = [some (.ref p), some (.ref a1), some (.ref a2), some (.ref a3), some (.ref a4), some (.ref at_), x6, some o, x8, x9, x10, x11, x12, x13, x14] ∧
    Core C p (TbR Pt) a1 a2 a3 a4 T dr ys H ∧ VOk H o ∧ nameV o = false ∧ o ≠ .ref p ∧ H at_ = some (.lst (as.map V.ref)) ∧ as.length = n ∧ Pairs4 H at_ (told (zatOf ys)) ∧ Fin0 p (TbR Pt) at_ H D ∧ o ≠ .ref at_
abbrev At14 := AtAsk 3 told3
theorem seg14 (W : Wd P w K mg base C CN CT S1 S2 S3 mc) (AK : Asks K mg base c Pt) (hgd : A.guards = some []) (hr : Room 8 (A.deeper (envOfC "_law_right" (defScope sRight) s.heap.objs.size f (.ref c)))) : PSs (cxR P w K mg base f (.ref c) A outer s H0) (rest 14) (fun D σ H => At14 C p Pt σ H D) := by
  refine ⟨fun pins s' σ H D I h => ?_⟩
  obtain ⟨a1, a2, a3, a4, at_, as, T, dr, ys, o, x6, x8, x9, x10, x11, x12, x13, x14, eσ, cc, ov, on, op, ht_, hl3, pt, fin, oa⟩ := h.ex
  obtain ⟨fB, hB⟩ := W.bad
  obtain ⟨t, ht, hq⟩ : ∃ t, PSs (cxR P w K mg base f (.ref c) A outer s H0) (rest 14) t ∧ t D σ H := by
    refine ⟨_, pss_cons (ps_set (i := 9) scRight.nd rfl (.inr rfl) (pe_has hB (hr.mono (by decide)) (by rfl) pass0 (pa_cons (pv 0) (pa_cons (pe_op op_cat (pv 3) (pe_lst (pa_cons pe_str pa_nil))) pa_nil))))
      (seg15 (p := p) W AK hgd hr), ?_⟩
    subst eσ
    refine ⟨_, rfl, _, rfl, (by show 1 ≤ sizeLine; decide), fun q1 n1 => ?_⟩
    have s1 : Same H (upd H q1 (.lst [.str (Str.ofString "zzy")])) := same_upd n1
    have c1 := cc.mv (.same s1 cc.pool cc.tabs)
    refine ⟨a3, q1, _, _, rfl, rfl, c1.l3, upd_same, by rw [List.length_map]; have := cc.yfew; rw [sizeLine_eq]; show ys.length + 1 ≤ _; omega, fun q2 n2 => ?_⟩
    have e : ys.map V.str ++ [V.str (Str.ofString "zzy")] = (ys ++ [Str.ofString "zzy"]).map V.str := by rw [List.map_append]; rfl
    rw [e]
    have s2 := same_upd (o := .lst ((ys ++ [Str.ofString "zzy"]).map V.str)) n2
    have m2 : Mv p (TbR Pt) H (upd (upd H q1 (.lst [.str (Str.ofString "zzy")])) q2 (.lst ((ys ++ [Str.ofString "zzy"]).map V.str))) := .same (s1.trans s2) cc.pool cc.tabs
    have c2 := cc.mv m2
    have N : NmL (ys ++ [Str.ofString "zzy"]) := ⟨fun z hz => by
      rcases List.mem_append.mp hz with h | h
      · exact (cc.ytg z h).nm
      · rw [List.mem_singleton.mp h]
        decide +kernel, by simp, by rw [List.length_append]; have := cc.yfew; show ys.length + 1 ≤ 10; omega⟩
    refine ⟨p, q2, _, rfl, c2.pool, fun e => ?_, upd_same, N, fun v H3 x3 np bv => ?_⟩
    · obtain ⟨x, y, z, hz⟩ := c1.pool
      rw [← e, n2] at hz
      cases hz
    have m3 : Mv p (TbR Pt) H H3 := m2.trans (.ext x3 c2.pool c2.tabs)
    obtain ⟨dat, bd⟩ := bv.dat
    exact ⟨a1, a2, a3, a4, at_, as, T, dr, ys, v, dat, _, _, _, _, _, _, _, _, rfl, cc.mv m3, bd, m3.at cc.pool ht_ refs_nopool (fun _ e => by cases e), hl3, pt.mv m3 cc.pool, fin.mv m3⟩
  exact ht.run pins s' σ H D I hq
end
end K1
namespace K1
open PySem PySem.Spec
open PyProof.Rows L2 EnT StX SmX TxS DuX XdI Tr3 CnB ClX
def told1 (zat : Str) : List (Str × Str) := [("InvalidNames", zat)]
def told2 (zat : Str) : List (Str × Str) := [("InvalidNames", zat), ("InvalidNames", zat)]
theorem none_shows : RpD.Shows .none := .of rfl (by decide) (by decide)
theorem int_shows {ys : List Str} (h : ys.length ≤ 4) : RpD.Shows (.int ((ys.take 2).length : Nat)) := .of (decide_eq_true ⟨by omega, by rw [List.length_take]; omega⟩) (Nat.zero_le _) (show 5 ≤ 16000000 by decide)
theorem VOk.set {H : Hp} {t : Addr} {o : HO} {v : V} (n : v ≠ .ref t) (h : VOk H v) : VOk (upd H t o) v := by
  refine h.elim .inl fun g => .inr ?_
  have np : ∀ {a : Addr} {x : HO}, v = .ref a → H a = some x → upd H t o a = some x := fun e z => by
    rw [upd_ne (fun q => n (by rw [e, q]))]
    exact z
  cases g with
  | non => exact .non
  | bl b => exact .bl b
  | int i => exact .int i
  | lst e => exact .lst (np rfl e)
  | tup e => exact .tup (np rfl e)
  | dK e => exact .dK (np rfl e)
section
variable {w : World} {P : Program} {base : Heap} {mg : Str → Option Value} {K : PySem.W.Frag} {C CN CT S1 S2 S3 : Addr} {mc : Value}
variable {f c Pt : Addr} {A : Around} {outer : List Env} {s : Shared} {H0 : Hp} {p : Addr}
theorem seg13 (W : Wd P w K mg base C CN CT S1 S2 S3 mc) (AK : Asks K mg base c Pt) (hgd : A.guards = some []) (hr : Room 8 (A.deeper (envOfC "_law_right" (defScope sRight) s.heap.objs.size f (.ref c)))) : PSs (cxR P w K mg base f (.ref c) A outer s H0) (rest 13) (fun D σ H => AtAsk 2 told2 C p Pt σ H D) := by
  refine ⟨fun pins s' σ H D I h => ?_⟩
  obtain ⟨a1, a2, a3, a4, at_, as, T, dr, ys, o, x6, x8, x9, x10, x11, x12, x13, x14, eσ, cc, ov, on, op, ht_, hl3, pt, fin, oa⟩ := h.ex
  obtain ⟨pr, gr, mr, F1, F2, _⟩ := W.fromT
  obtain ⟨t, ht, hq⟩ : ∃ t, PSs (cxR P w K mg base f (.ref c) A outer s H0) (rest 13) t ∧ t D σ H := by
    refine ⟨_, pss_cons (ps_expr (pe_bm PySem.F.plainAttrs_list PySem.F.slot_list_append PySem.F.type_list_append mt_append (pv 5) (pa_cons
      (pe_ask W AK hgd hr (t := fun E => tSMeth C (spFromL CN) E (tC (.ref C)) (tCons (tLst (tCons (tOp (rIxL K) (tVar 1) (tC (.int 0))) tNil)) tNil)) (LamX.lamS_by (by decide +kernel))
        (fun A' outer' s' H' E f' c' hr' => pe_smeth (pe_glob (v := .ref C) (by rfl) W.M.g rfl) W.cr mr F2 hr' (passes_call (takes_of rfl rfl rfl rfl) fun _ _ _ _ h => h) (pa_cons (pe_lst (pa_cons (pe_ix ix_list (pv 1) pe_int (fun _ _ => rfl)) pa_nil)) pa_nil))) pa_nil)))
      (seg14 (p := p) W AK hgd hr), ?_⟩
    subst eσ
    obtain ⟨z0, hz0⟩ : ∃ z, T[0]? = some z := by
      cases T with
      | nil => exact absurd rfl cc.tne
      | cons z r => exact ⟨z, rfl⟩
    refine ⟨_, rfl, .inl ⟨rfl, _, SqL.of ht_⟩, cc.tabs, fun H1 eN T1 Q' => ?_⟩
    have m1 : Mv p (TbR Pt) H H1 := .lam eN cc.pool T1
    have c1 := cc.mv m1
    refine ⟨rfl, _, rfl, a1, _, _, .str z0, rfl, rfl, SqL.of c1.l1, atI_nat (j := 0) (by rw [List.getElem?_map, hz0]; rfl), (by show 1 ≤ sizeLine; decide), fun q1 n1 => ⟨q1, _, rfl, upd_same, fun d H2 s2 nd => ?_⟩⟩
    have m2 : Mv p (TbR Pt) H1 (upd H2 d (.xd [("index", .non)])) := .same (((same_upd n1).trans s2).trans (same_upd nd)) c1.pool c1.tabs
    have m12 := m1.trans m2
    have c2 := cc.mv m12
    refine ⟨d, .non, .none, "InvalidNames", rfl, .non, none_shows, .inl ⟨rfl, rfl, upd_same⟩, fun q H3 nq s3 hq => ?_⟩
    have m3 : Mv p (TbR Pt) H H3 := m12.trans (.same s3 c2.pool c2.tabs)
    have c3 := cc.mv m3
    have t3 : H3 at_ = some (.lst (as.map V.ref)) := m3.at cc.pool ht_ refs_nopool (fun _ e => by cases e)
    have hn : as ≠ [] := fun e => by rw [e] at hl3; cases hl3
    refine ⟨at_, _, _, rfl, rfl, t3, by rw [List.length_map, hl3]; decide, ?_⟩
    refine ⟨a1, a2, a3, a4, at_, as ++ [q], T, dr, ys, o, _, _, _, _, _, _, _, _, rfl, c3.set t3 hn, (m3.vok op ov).set oa, on, op, by rw [upd_same, List.map_append]; rfl, by rw [List.length_append, hl3]; rfl, Pairs4.app t3 hn (pt.mv m3 cc.pool) hq, (fin.mv m3).set t3, oa⟩
  exact ht.run pins s' σ H D I hq
end
end K1
namespace K1
open PySem PySem.Spec
open PyProof.Rows L2 EnT StX SmX TxS DuX XdI Tr3 CnB ClX
theorem Shown_zat {ys : List Str} : PyData.shown (.int ((ys.take 2).length : Nat)) = zatOf ys := rfl
/-- an error of the names at the place of the odd value -/
theorem told_ix {K : PySem.W.Frag} {CN CT p : Addr} {Tb : List (Addr × Str)} {H : Hp} {Q : VK} {ys : List Str} (hl : ys.length ≤ 4)
    (q : ∀ (a : Addr) (H' : Hp), Same H H' → H' a = some (.lst [.str "InvalidNames", .str (zatOf ys)]) → Q (.ref a) H') : ErrAt CN "index" (.int ((ys.take 2).length : Nat)) H (Told K CN CT Q) := fun d H2 s2 nd =>
  ⟨d, .int ((ys.take 2).length : Nat), .int ((ys.take 2).length : Nat), "InvalidNames", rfl, .int _, int_shows hl, .inl ⟨rfl, rfl, upd_same⟩, fun a H3 na s3 ha => q a H3 ((s2.trans (same_upd nd)).trans s3) ha⟩
section
variable {w : World} {P : Program} {base : Heap} {mg : Str → Option Value} {K : PySem.W.Frag} {C CN CT S1 S2 S3 : Addr} {mc : Value}
variable {f c Pt : Addr} {A : Around} {outer : List Env} {s : Shared} {H0 : Hp} {p : Addr}
theorem seg12 (W : Wd P w K mg base C CN CT S1 S2 S3 mc) (AK : Asks K mg base c Pt) (hgd : A.guards = some []) (hr : Room 8 (A.deeper (envOfC "_law_right" (defScope sRight) s.heap.objs.size f (.ref c)))) : PSs (cxR P w K mg base f (.ref c) A outer s H0) (rest 12) (fun D σ H => AtAsk 1 told1 C p Pt σ H D) := by
  refine ⟨fun pins s' σ H D I h => ?_⟩
  obtain ⟨a1, a2, a3, a4, at_, as, T, dr, ys, o, x6, x8, x9, x10, x11, x12, x13, x14, eσ, cc, ov, on, op, ht_, hl3, pt, fin, oa⟩ := h.ex
  obtain ⟨pr, gr, mr, F1, F2, _⟩ := W.fromT
  obtain ⟨t, ht, hq⟩ : ∃ t, PSs (cxR P w K mg base f (.ref c) A outer s H0) (rest 12) t ∧ t D σ H := by
    refine ⟨_, pss_cons (ps_expr (pe_bm PySem.F.plainAttrs_list PySem.F.slot_list_append PySem.F.type_list_append mt_append (pv 5) (pa_cons
      (pe_ask W AK hgd hr (t := fun E => tSMeth C (spFromT C CN) E (tC (.ref C)) (tCons (tOp (rCatA K) (tCB (fun xs H Q => ∃ p ys, xs = [.ref p] ∧ ((SqL K H p ys ∧ ∀ l, H l = none → Q (.ref l) (upd H l (.tup ys))) ∨ (SqT K H p ys ∧ Q (.ref p) H))) (tCons (tSl (rSlL K) (tVar 3) (fun _ H Q => Q none H) (fun σ H Q => tC (.int 2) σ H fun v H1 => ∃ i, v = .int i ∧ Q (some i) H1)) tNil)) (tTup (tCons (tVar 7) (tCons (tVar 7) tNil)))) tNil)) (LamX.lamS_by (by decide +kernel))
        (fun A' outer' s' H' E f' c' hr' => pe_smeth (pe_glob (v := .ref C) (by rfl) W.M.g rfl) W.cr mr F1 hr' (passes_call (takes_of rfl rfl rfl rfl) fun _ _ _ _ h => h)
          (pa_cons (pe_op op_catA (pe_callTy call_tuple_of (by rfl) W.T.tuple (by decide +kernel) (pa_cons (pe_slice sl_list (pv 3) po_none (po_some pe_int)) pa_nil)) (pe_tup (pa_cons (pv 7) (pa_cons (pv 7) pa_nil)))) pa_nil))) pa_nil)))
      (seg13 (p := p) W AK hgd hr), ?_⟩
    subst eσ
    refine ⟨_, rfl, .inl ⟨rfl, _, SqL.of ht_⟩, cc.tabs, fun H1 eN T1 Q' => ?_⟩
    have m1 : Mv p (TbR Pt) H H1 := .lam eN cc.pool T1
    have c1 := cc.mv m1
    refine ⟨rfl, _, rfl, 2, rfl, a3, _, rfl, SqL.of c1.l3, fun q1 n1 => ?_⟩
    have e2 : cutV (ys.map V.str) none (some 2) = (ys.take 2).map V.str := by rw [cut2, List.map_take]
    rw [e2]
    refine ⟨q1, _, rfl, .inl ⟨SqL.of upd_same, fun q2 n2 => ⟨_, rfl, _, rfl, (by show 2 ≤ sizeLine; decide), fun q3 n3 => ?_⟩⟩⟩
    have s1 : Same H1 (upd H1 q1 (.lst ((ys.take 2).map V.str))) := same_upd n1
    have s2 : Same (upd H1 q1 (.lst ((ys.take 2).map V.str))) (upd (upd H1 q1 (.lst ((ys.take 2).map V.str))) q2 (.tup ((ys.take 2).map V.str))) := same_upd n2
    generalize h2 : upd (upd H1 q1 (.lst ((ys.take 2).map V.str))) q2 (.tup ((ys.take 2).map V.str)) = H2 at s2 n3 ⊢
    have k2 : H2 q2 = some (.tup ((ys.take 2).map V.str)) := by rw [← h2]; exact upd_same
    clear h2
    have s3 : Same H2 (upd H2 q3 (.tup [o, o])) := same_upd n3
    generalize h3 : upd H2 q3 (.tup [o, o]) = H3 at s3 ⊢
    have k3 : H3 q3 = some (.tup [o, o]) := by rw [← h3]; exact upd_same
    clear h3
    have s13 : Same H1 H3 := (s1.trans s2).trans s3
    have m3 : Mv p (TbR Pt) H H3 := m1.trans (.same s13 c1.pool c1.tabs)
    have hn : as ≠ [] := fun e => by rw [e] at hl3; cases hl3
    have go : ∀ (b : Addr) (H4 : Hp), Same H3 H4 → H4 b = some (.tup ((ys.take 2).map V.str ++ o :: [o])) → spFromT C CN [.ref b] H4 Q' (Told K CN CT fun y H5 => rAppend (.ref at_) [y] H5 fun _ H6 => AtAsk 2 told2 C p Pt [some (.ref p), some (.ref a1), some (.ref a2), some (.ref a3), some (.ref a4), some (.ref at_), x6, some o, x8, x9, x10, x11, x12, x13, x14] H6 D) := fun b H4 s4 hb => by
      have m4 : Mv p (TbR Pt) H H4 := m3.trans (.same s4 (cc.mv m3).pool (cc.mv m3).tabs)
      have c4 := cc.mv m4
      have o4 := m4.vok op ov
      refine ⟨b, _, rfl, hb, mk_bad (fun z hz => (cc.ytg z (List.mem_of_mem_take hz)).nm) (by rw [List.length_take]; show min 2 ys.length + 1 ≤ 900; omega) o4 on (fun u hu => by rw [List.mem_singleton.mp hu]; exact o4) (told_ix (p := p) (Tb := TbR Pt) cc.yfew fun q H5 s5 hq => ?_)⟩
      have m5 : Mv p (TbR Pt) H H5 := m4.trans (.same s5 c4.pool c4.tabs)
      have c5 := cc.mv m5
      have t5 : H5 at_ = some (.lst (as.map V.ref)) := m5.at cc.pool ht_ refs_nopool (fun _ e => by cases e)
      refine ⟨at_, _, _, rfl, rfl, t5, by rw [List.length_map, hl3]; decide, ?_⟩
      exact ⟨a1, a2, a3, a4, at_, as ++ [q], T, dr, ys, o, _, _, _, _, _, _, _, _, rfl, c5.set t5 hn, (m5.vok op ov).set oa, on, op, by rw [upd_same, List.map_append]; rfl, by rw [List.length_append, hl3]; rfl, Pairs4.app t5 hn (pt.mv m5 cc.pool) hq, (fin.mv m5).set t5, oa⟩
    refine ⟨q2, q3, _, _, rfl, rfl, SqT.of (s3 _ _ k2), SqT.of k3, by rw [List.length_map, List.length_take, sizeLine_eq]; show min 2 ys.length + 2 ≤ _; omega, fun e => ?_, fun _ e => (by cases e), fun _ _ q4 n4 => ?_⟩
    · refine go q3 H3 (Same.refl H3) ?_
      rw [e]
      exact k3
    · exact go q4 _ (same_upd n4) upd_same
  exact ht.run pins s' σ H D I hq
end
end K1
namespace K1
open PySem PySem.Spec
open PyProof.Rows L2 EnT StX SmX TxS DuX XdI Tr3 CnB ClX
theorem VOk.ne {H : Hp} {v : V} {t : Addr} (h : VOk H v) (n : H t = none) : v ≠ .ref t := fun e => by
  subst e
  rcases h with ⟨z, e, _⟩ | h
  · cases e
  · cases h with
    | lst e => rw [n] at e; cases e
    | tup e => rw [n] at e; cases e
    | dK e => rw [n] at e; cases e
section
variable {w : World} {P : Program} {base : Heap} {mg : Str → Option Value} {K : PySem.W.Frag} {C CN CT S1 S2 S3 : Addr} {mc : Value}
variable {f c Pt : Addr} {A : Around} {outer : List Env} {s : Shared} {H0 : Hp} {p : Addr}
/-- an odd value has been drawn -/
structure AtOdd (C p Pt : Addr) (σ : L2.St) (H : Hp) (D : Ends) : Prop where
  ex : ∃ (a1 a2 a3 a4 : Addr) (T dr ys : List Str) (o : V) (x5 x6 x8 x9 x10 x11 x12 x13 x14 : Option V), σ = [some (.ref p), some (.ref a1), some (.ref a2), some (.ref a3), some (.ref a4), x5, x6, some o, x8, x9, x10, x11, x12, x13, x14] ∧
    Core C p (TbR Pt) a1 a2 a3 a4 T dr ys H ∧ VOk H o ∧ nameV o = false ∧ o ≠ .ref p ∧ Fin p (TbR Pt) H D
theorem seg11 (W : Wd P w K mg base C CN CT S1 S2 S3 mc) (AK : Asks K mg base c Pt) (hgd : A.guards = some []) (hr : Room 8 (A.deeper (envOfC "_law_right" (defScope sRight) s.heap.objs.size f (.ref c)))) : PSs (cxR P w K mg base f (.ref c) A outer s H0) (rest 11) (fun D σ H => AtOdd C p Pt σ H D) := by
  refine ⟨fun pins s' σ H D I h => ?_⟩
  obtain ⟨a1, a2, a3, a4, T, dr, ys, o, x5, x6, x8, x9, x10, x11, x12, x13, x14, eσ, cc, ov, on, op, fin⟩ := h.ex
  obtain ⟨fM, hM⟩ := W.made
  obtain ⟨t, ht, hq⟩ : ∃ t, PSs (cxR P w K mg base f (.ref c) A outer s H0) (rest 11) t ∧ t D σ H := by
    refine ⟨_, pss_cons (ps_set (i := 5) scRight.nd rfl (.inl rfl) (pe_lst (pa_cons
      (pe_ask W AK hgd hr (t := fun E => tCall (spMade C CN) [] E (tCons (tOp rCat (tSl (rSlL K) (tVar 3) (fun _ H Q => Q none H) (fun σ H Q => tC (.int 2) σ H fun v H1 => ∃ i, v = .int i ∧ Q (some i) H1)) (tLst (tCons (tVar 7) tNil))) tNil)) (LamX.lamS_by (by decide +kernel))
        (fun A' outer' s' H' E f' c' hr' => pe_has (x := "_law_made") (sp := spMade C CN) hM hr' (by rfl) (passes_call (takes_of rfl rfl rfl rfl) fun _ _ _ _ h => h)
          (pa_cons (pe_op op_cat (pe_slice sl_list (pv 3) po_none (po_some pe_int)) (pe_lst (pa_cons (pv 7) pa_nil))) pa_nil))) pa_nil)))
      (seg12 (p := p) W AK hgd hr), ?_⟩
    subst eσ
    refine ⟨cc.tabs, fun H1 eN T1 Q' => ?_⟩
    have m1 : Mv p (TbR Pt) H H1 := .lam eN cc.pool T1
    have c1 := cc.mv m1
    refine ⟨_, rfl, 2, rfl, a3, _, rfl, SqL.of c1.l3, fun q1 n1 => ?_⟩
    have e2 : cutV (ys.map V.str) none (some 2) = (ys.take 2).map V.str := by rw [cut2, List.map_take]
    rw [e2]
    refine ⟨_, rfl, (by show 1 ≤ sizeLine; decide), fun q2 n2 => ?_⟩
    have s1 : Same H1 (upd H1 q1 (.lst ((ys.take 2).map V.str))) := same_upd n1
    have s2 : Same (upd H1 q1 (.lst ((ys.take 2).map V.str))) (upd (upd H1 q1 (.lst ((ys.take 2).map V.str))) q2 (.lst [o])) := same_upd n2
    refine ⟨q1, q2, _, _, rfl, rfl, s2 _ _ upd_same, upd_same, by rw [List.length_map, List.length_take, sizeLine_eq]; show min 2 ys.length + 1 ≤ _; omega, fun q3 n3 => ?_⟩
    have s3 := same_upd (o := .lst ((ys.take 2).map V.str ++ [o])) n3
    have m3 : Mv p (TbR Pt) H _ := m1.trans (.same ((s1.trans s2).trans s3) c1.pool c1.tabs)
    have o3 := m3.vok op ov
    refine ⟨q3, _, rfl, upd_same, by rw [List.length_append, List.length_map, List.length_take]; show min 2 ys.length + 1 ≤ 4; omega, ?_⟩
    refine mk_bad (fun z hz => (cc.ytg z (List.mem_of_mem_take hz)).nm) (by rw [List.length_take]; show min 2 ys.length + 0 ≤ 900; omega) o3 on (fun u hu => by cases hu) (told_ix (p := p) (Tb := TbR Pt) cc.yfew fun q H5 s5 hq => ?_)
    have c3 := cc.mv m3
    have m5 : Mv p (TbR Pt) H H5 := m3.trans (.same s5 c3.pool c3.tabs)
    have c5 := cc.mv m5
    refine ⟨(by show 1 ≤ sizeLine; decide), fun at_ na => ?_⟩
    have s6 : Same H5 (upd H5 at_ (.lst [.ref q])) := same_upd na
    have m6 : Mv p (TbR Pt) H (upd H5 at_ (.lst [.ref q])) := m5.trans (.same s6 c5.pool c5.tabs)
    have f5 : Fin p (TbR Pt) H5 D := fin.mv m5
    have f0 : Fin0 p (TbR Pt) at_ H5 D := .new f5 c5.pool c5.tabs na
    refine ⟨a1, a2, a3, a4, at_, [q], T, dr, ys, o, _, _, _, _, _, _, _, _, rfl, cc.mv m6, m6.vok op ov, on, op, upd_same, rfl, ⟨[q], upd_same, rfl, fun i a r ha hr2 => ?_⟩, f0.mv (.same s6 c5.pool c5.tabs), (m5.vok op ov).ne na⟩
    match i, ha, hr2 with
    | 0, ha, hr2 => cases ha; cases hr2; exact s6 _ _ hq
    | n + 1, ha, hr2 => simp at ha
  exact ht.run pins s' σ H D I hq
end
end K1
namespace K1
open PySem PySem.Spec
open PyProof.Rows L2 EnT StX SmX TxS DuX XdI Tr3 CnB ClX
/-- o == v, told without the context -/
def rEqO (K : PySem.W.Frag) (C : Addr) (sp : Sp) : R2 := fun x y H Q => ∃ a dx fs t, x = .ref a ∧ H a = some (.ins C dx fs) ∧ TyX K H y t ∧ PySem.W.notFirst K C t = true ∧ sp [.ref a, y] H (fun v H' => ∃ b, v = .bl b ∧ Q (.bl b) H') E0
def rNeO (K : PySem.W.Frag) (C : Addr) (sp : Sp) : R2 := fun x y H Q => ∃ a dx fs t, x = .ref a ∧ H a = some (.ins C dx fs) ∧ TyX K H y t ∧ PySem.W.notFirst K C t = true ∧ sp [.ref a, y] H (fun v H' => ∃ b, v = .bl b ∧ Q (.bl (!b)) H') E0
def rInO (C : Addr) (sp : Sp) : R2 := fun x y H Q => ∃ a dx fs, y = .ref a ∧ H a = some (.ins C dx fs) ∧ sp [.ref a, x] H (fun v H' => ∃ b, v = .bl b ∧ Q (.bl b) H') E0
section
variable {X : Cx} {k : Nat} {g C : Addr} {sp : Sp}
theorem op_eqX (m : OwnM X.K C "__eq__" g) (F : FnR X.prog X.w X.K X.mg X.base CX0 k g sp) (hr : Room k X.A) : OpR X (compareOp .Eq) (rEqO X.K C sp) := by
  intro pins s σ H x y u v Q I rx ry h
  obtain ⟨a, dx, fs, t, h1, h2, h3, h4, q⟩ := h
  exact op_eqO m F hr pass0 pins s σ H x y u v Q I rx ry ⟨a, dx, fs, t, h1, h2, fun pins σ s u Iv r M => by
    obtain ⟨Pz, Z, pz, _⟩ := kit_of Iv r h3
    exact Z.ty M s.heap Iv.kIn pz, h4, q⟩
theorem op_neX (m : OwnM X.K C "__eq__" g) (n : NeM X.K C) (F : FnR X.prog X.w X.K X.mg X.base CX0 k g sp) (hr : Room (k + 1) X.A) : OpR X (compareOp .NotEq) (rNeO X.K C sp) := by
  intro pins s σ H x y u v Q I rx ry h
  obtain ⟨a, dx, fs, t, h1, h2, h3, h4, q⟩ := h
  exact op_neO m n F hr pass0 pins s σ H x y u v Q I rx ry ⟨a, dx, fs, t, h1, h2, fun pins σ s u Iv r M => by
    obtain ⟨Pz, Z, pz, _⟩ := kit_of Iv r h3
    exact Z.ty M s.heap Iv.kIn pz, h4, q⟩
theorem op_inX (m : OwnM X.K C "__contains__" g) (F : FnR X.prog X.w X.K X.mg X.base CX0 k g sp) (hr : Room k X.A) : OpR X (compareOp .In) (rInO C sp) := op_inO m F hr pass0
end
/-- what is not equal to the Members of ys -/
def Unl (C : Addr) (ys : List Str) (H : Hp) (u : V) : Prop := VOk H u ∨ ∃ b ws, u = .ref b ∧ MemAt C H b ws ∧ ws ≠ ys
theorem Unl.same {C : Addr} {ys : List Str} {H H' : Hp} {u : V} (s : Same H H') (h : Unl C ys H u) : Unl C ys H' u := by
  rcases h with h | ⟨b, ws, e, m, n⟩
  · exact .inl (h.same s)
  · exact .inr ⟨b, ws, e, m.same s, n⟩
section
variable {w : World} {P : Program} {base : Heap} {mg : Str → Option Value} {K : PySem.W.Frag} {C CN CT S1 S2 S3 : Addr} {mc : Value}
theorem Unl.ty (W : Wd P w K mg base C CN CT S1 S2 S3 mc) {ys : List Str} {H : Hp} {u : V} (h : Unl C ys H u) : ∃ t, TyX K H u t ∧ PySem.W.notFirst K C t = true := by
  rcases h with h | ⟨b, ws, rfl, m, n⟩
  · obtain ⟨t, ht, tx⟩ := h.ty (K := K)
    exact ⟨_, tx, W.I.nf t ht⟩
  · obtain ⟨dx, t, d, h1, _, _⟩ := m.at_
    exact ⟨_, .base (.ins h1 W.M.cl W.I.ha W.I.hn W.I.htk W.I.hm), W.I.nfC⟩
theorem Unl.eq {ys : List Str} {H : Hp} {u : V} {a4 : Addr} {Q : VK} (h : Unl C ys H u) (m : MemAt C H a4 ys) (q : Q (.bl false) H) : spEqM C [.ref a4, u] H Q E0 := by
  refine ⟨a4, ys, u, rfl, m, ?_⟩
  rcases h with h | ⟨b, ws, rfl, m2, n⟩
  · exact .inr ⟨h, q⟩
  · refine .inl ⟨b, ws, rfl, m2, ?_⟩
    rw [decide_eq_false (Ne.symm n)]
    exact q
theorem upd_upd {H : Hp} {d : Addr} {x y : HO} : upd (upd H d x) d y = upd H d y := by
  funext b
  by_cases h : b = d
  · rw [h, upd_same, upd_same]
  · rw [upd_ne h, upd_ne h, upd_ne h]
variable {f c Pt : Addr} {A : Around} {outer : List Env} {s : Shared} {H0 : Hp} {p : Addr}
/-- the values that are unlike stand in the list at u -/
structure At10 (C p Pt : Addr) (σ : L2.St) (H : Hp) (D : Ends) : Prop where
  ex : ∃ (a1 a2 a3 a4 u : Addr) (us : List V) (T dr ys : List Str) (o : V) (x5 x6 x9 x10 x11 x12 x13 x14 : Option V), σ = [some (.ref p), some (.ref a1), some (.ref a2), some (.ref a3), some (.ref a4), x5, x6, some o, some (.ref u), x9, x10, x11, x12, x13, x14] ∧
    Core C p (TbR Pt) a1 a2 a3 a4 T dr ys H ∧ VOk H o ∧ nameV o = false ∧ o ≠ .ref p ∧ Fin p (TbR Pt) H D ∧ H u = some (.lst us) ∧ us.length ≤ 20 ∧ ∀ v ∈ us, Unl C ys H v
theorem seg10 (W : Wd P w K mg base C CN CT S1 S2 S3 mc) (AK : Asks K mg base c Pt) (hgd : A.guards = some []) (hr : Room 8 (A.deeper (envOfC "_law_right" (defScope sRight) s.heap.objs.size f (.ref c)))) : PSs (cxR P w K mg base f (.ref c) A outer s H0) (rest 10) (fun D σ H => At10 C p Pt σ H D) := by
  refine ⟨fun pins s' σ H D I h => ?_⟩
  obtain ⟨a1, a2, a3, a4, u, us, T, dr, ys, o, x5, x6, x9, x10, x11, x12, x13, x14, eσ, cc, ov, on, op, fin, hu, hul, hun⟩ := h.ex
  obtain ⟨gE, mE, FE, _⟩ := W.eqM
  obtain ⟨gH, mH, FH⟩ := W.hasM
  obtain ⟨t, ht, hq⟩ : ∃ t, PSs (cxR P w K mg base f (.ref c) A outer s H0) (rest 10) t ∧ t D σ H := by
    refine ⟨_, pss_cons (ps_if (PW.pt (pw_or (pt_val (pe_callB (cr_any rfl) (by rfl) W.T.any (by decide +kernel) (pa_cons (pe_lc (own := [("_law_each", 13)]) (g := gName 13) (tt := tYes) (te := tOp (rEqO K C (spEqM C)) (tVar 4) (tVar 13)) rfl scRight.nd (pi_list (pv 8))
            (blkOk_by (own := [("_law_each", 13)]) (N := nmRight) (sc := defScope sRight) (by decide +kernel)) (fun _ _ _ _ _ => pg_name (i := 13) scRight.nd rfl (Or.inl rfl)) (fun _ _ _ _ _ => pts_nil)
            (fun _ _ _ _ _ => pe_cmpR (op_eqX mE FE (hr.mono (by decide))) (pv 4) (pv 13) (nomark _))) pa_nil)))
          (pw_or (pt_not (pt_val (pe_callB (cr_all rfl) (by rfl) W.T.all (by decide +kernel) (pa_cons (pe_lc (own := [("_law_each", 13)]) (g := gName 13) (tt := tYes) (te := tOp (rNeO K C (spEqM C)) (tVar 4) (tVar 13)) rfl scRight.nd (pi_list (pv 8))
            (blkOk_by (own := [("_law_each", 13)]) (N := nmRight) (sc := defScope sRight) (by decide +kernel)) (fun _ _ _ _ _ => pg_name (i := 13) scRight.nd rfl (Or.inl rfl)) (fun _ _ _ _ _ => pts_nil)
            (fun _ _ _ _ _ => pe_cmpR (op_neX mE W.neM FE (hr.mono (by decide))) (pv 4) (pv 13) (nomark _))) pa_nil))))
          (pw_or1 (pt_cmpR (op_inX mH FH (hr.mono (by decide))) (pv 7) (pv 4) (by rfl)))))) (pss_one (ps_ret pe_bl)) pss_nil)
      (seg11 (p := p) W AK hgd hr), ?_⟩
    subst eσ
    refine ⟨_, rfl, u, rfl, ⟨_, SqL.of hu⟩, fun d1 n1 => lc_list (K := K) (a := u) (xs := us) (fun i H' => H' = upd H d1 (.lst (List.replicate i (.bl false)))) rfl (fun i H' hi e => ?_) (fun i x H' hx e => ?_) (fun H' e => ?_)⟩
    · subst e
      exact SqL.of (same_upd n1 _ _ hu)
    · subst e
      have s1 : Same H (upd H d1 (.lst (List.replicate i (.bl false)))) := same_upd n1
      have c1 := cc.mv (.same s1 cc.pool cc.tabs)
      have ux := (hun x (List.mem_of_getElem? hx)).same s1
      obtain ⟨tt, e1, e2⟩ := ux.ty W
      obtain ⟨dx, t4, d4, k1, _, _⟩ := c1.m4.at_
      have hi : i < us.length := (List.getElem?_eq_some_iff.mp hx).1
      refine ⟨rfl, ?_⟩
      refine ⟨_, rfl, _, rfl, a4, dx, _, tt, rfl, k1, e1, e2, ux.eq c1.m4 ⟨false, rfl, ?_⟩⟩
      refine ⟨_, upd_same, by rw [List.length_replicate, sizeLine_eq]; omega, ?_⟩
      rw [upd_upd, ← List.replicate_succ']
    · subst e
      have s1 : Same H (upd H d1 (.lst (List.replicate us.length (.bl false)))) := same_upd n1
      have m1 : Mv p (TbR Pt) H (upd H d1 (.lst (List.replicate us.length (.bl false)))) := .same s1 cc.pool cc.tabs
      have c1 := cc.mv m1
      refine ⟨d1, List.replicate us.length false, rfl, by rw [List.map_replicate]; exact SqL.of upd_same, _, rfl, ?_⟩
      have e3 : (List.replicate us.length false).any id = false := by
        rw [List.any_eq_false]
        intro b hb
        rw [List.eq_of_mem_replicate hb]
        decide
      rw [e3]
      refine iteF ?_
      generalize upd H d1 (.lst (List.replicate us.length (.bl false))) = H1 at s1 m1 c1 ⊢
      have hu1 := s1 _ _ hu
      refine ⟨_, rfl, u, rfl, ⟨_, SqL.of hu1⟩, fun d2 n2 => lc_list (K := K) (a := u) (xs := us) (fun i H' => H' = upd H1 d2 (.lst (List.replicate i (.bl true)))) rfl (fun i H' hi e => ?_) (fun i x H' hx e => ?_) (fun H' e => ?_)⟩
      · subst e
        exact SqL.of (same_upd n2 _ _ hu1)
      · subst e
        have s2 : Same H1 (upd H1 d2 (.lst (List.replicate i (.bl true)))) := same_upd n2
        have c2 := c1.mv (.same s2 c1.pool c1.tabs)
        have ux := (hun x (List.mem_of_getElem? hx)).same (s1.trans s2)
        obtain ⟨tt, e1, e2⟩ := ux.ty W
        obtain ⟨dx, t4, d4, k1, _, _⟩ := c2.m4.at_
        have hi : i < us.length := (List.getElem?_eq_some_iff.mp hx).1
        refine ⟨rfl, ?_⟩
        refine ⟨_, rfl, _, rfl, a4, dx, _, tt, rfl, k1, e1, e2, ux.eq c2.m4 ⟨false, rfl, ?_⟩⟩
        refine ⟨_, upd_same, by rw [List.length_replicate, sizeLine_eq]; omega, ?_⟩
        show upd (upd H1 d2 _) d2 (.lst (List.replicate i (V.bl true) ++ [V.bl true])) = _
        rw [upd_upd, ← List.replicate_succ']
      · subst e
        have s2 : Same H1 (upd H1 d2 (.lst (List.replicate us.length (.bl true)))) := same_upd n2
        have m2 : Mv p (TbR Pt) H (upd H1 d2 (.lst (List.replicate us.length (.bl true)))) := m1.trans (.same s2 c1.pool c1.tabs)
        have c2 := cc.mv m2
        refine ⟨d2, List.replicate us.length true, rfl, by rw [List.map_replicate]; exact SqL.of upd_same, _, rfl, ?_⟩
        have e3 : (List.replicate us.length true).all id = true := by
          rw [List.all_eq_true]
          intro b hb
          rw [List.eq_of_mem_replicate hb]
          rfl
        rw [e3]
        refine iteF ?_
        obtain ⟨dx, t4, d4, k1, _, _⟩ := c2.m4.at_
        refine ⟨_, rfl, _, rfl, a4, dx, _, rfl, k1, a4, ys, o, rfl, c2.m4, m2.vok op ov, _, rfl, _, rfl, ?_⟩
        have e4 : hasV ys o = false := by
          cases o with
          | str z =>
            show decide (z ∈ ys) = false
            rw [decide_eq_false fun h => ?_]
            have := (cc.ytg z h).nm
            have on : nameB z = false := on
            rw [on] at this
            cases this
          | _ => rfl
        rw [e4]
        refine iteF ?_
        exact ⟨a1, a2, a3, a4, T, dr, ys, o, _, _, _, _, _, _, _, _, _, rfl, c2, m2.vok op ov, on, op, fin.mv m2⟩
  exact ht.run pins s' σ H D I hq
end
end K1
namespace K1
open PySem PySem.Spec
open PyProof.Rows L2 EnT StX SmX TxS DuX XdI Tr3 CnB ClX
abbrev tz9 : Str := "zzzz9"
abbrev tz8 : Str := "zzzz8"
theorem z98_names : ∀ z ∈ [tz9, tz8], nameB z = true := fun z hz => by
  have e : z = tz9 ∨ z = tz8 := by simpa using hz
  rcases e with rfl | rfl <;> decide +kernel
section
variable {w : World} {P : Program} {base : Heap} {mg : Str → Option Value} {K : PySem.W.Frag} {C CN CT S1 S2 S3 : Addr} {mc : Value}
variable {f c Pt : Addr} {A : Around} {outer : List Env} {s : Shared} {H0 : Hp} {p : Addr}
theorem seg9 (W : Wd P w K mg base C CN CT S1 S2 S3 mc) (AK : Asks K mg base c Pt) (hgd : A.guards = some []) (hr : Room 8 (A.deeper (envOfC "_law_right" (defScope sRight) s.heap.objs.size f (.ref c)))) : PSs (cxR P w K mg base f (.ref c) A outer s H0) (rest 9) (fun D σ H => AtOdd C p Pt σ H D) := by
  refine ⟨fun pins s' σ H D I h => ?_⟩
  obtain ⟨a1, a2, a3, a4, T, dr, ys, o, x5, x6, x8, x9, x10, x11, x12, x13, x14, eσ, cc, ov, on, op, fin⟩ := h.ex
  obtain ⟨fI, MM⟩ := W.mkr
  obtain ⟨pN, gN, fdN, pr, GN, bN⟩ := W.prop
  obtain ⟨t, ht, hq⟩ : ∃ t, PSs (cxR P w K mg base f (.ref c) A outer s H0) (rest 9) t ∧ t D σ H := by
    refine ⟨_, pss_cons (ps_set (i := 8) scRight.nd rfl (.inl rfl) (pe_lst (pa_cons (pv 7) (pa_cons (pv 3) (pa_cons (pe_callTy call_tuple_of (by rfl) W.T.tuple (by decide +kernel) (pa_cons (pv 3) pa_nil)) (pa_cons (pe_join pe_str (pv 3)) (pa_cons pe_non (pa_cons (pe_makeR MM.M MM.F (hr.mono (by decide)) (by rfl) W.M.g passL (pa_cons pe_str (pa_cons pe_str pa_nil)))
          (pa_cons (pe_prop (pv 4) W.M.cl pr GN (hr.mono (by decide)) bN .nil pass0 rfl) pa_nil)))))))))
      (seg10 (p := p) W AK hgd hr), ?_⟩
    subst eσ
    refine ⟨_, rfl, _, rfl, _, rfl, a3, _, rfl, .inl ⟨SqL.of cc.l3, fun q1 n1 => ?_⟩⟩
    have s1 : Same H (upd H q1 (.tup (ys.map V.str))) := same_upd n1
    generalize h1 : upd H q1 (.tup (ys.map V.str)) = H1 at s1 ⊢
    have k1 : H1 q1 = some (.tup (ys.map V.str)) := by rw [← h1]; exact upd_same
    clear h1
    have m1 : Mv p (TbR Pt) H H1 := .same s1 cc.pool cc.tabs
    have c1 := cc.mv m1
    have sh : ∀ z ∈ ys, z.length ≤ 8 := fun z hz => name_short (cc.ytg z hz).nm
    refine ⟨⟨_, rfl⟩, _, rfl, _, a3, ys, rfl, rfl, .inl (SqL.of c1.l3), join_fits sh (by have := cc.yfew; omega), ?_⟩
    have ej : Txt.join (Str.ofString " ") ys = joinSp ys := rfl
    rw [ej]
    refine make_at (C := C) (CN := CN) (xs := [tz9, tz8].map V.str) (mk_read (ys := [tz8, tz9]) z98_names (by decide) (by decide +kernel) (by decide +kernel) (fun z => by simp [or_comm]) fun b H2 nb s2 MA => ⟨b, rfl, ?_⟩)
    have m2 : Mv p (TbR Pt) H H2 := m1.trans (.same s2 c1.pool c1.tabs)
    have c2 := cc.mv m2
    obtain ⟨dx, t4, d4, j1, j2, _⟩ := c2.m4.at_
    refine ⟨_, rfl, a4, dx, _, rfl, j1, a4, dx, _, _, rfl, j1, flds_names t4 d4, (by show 7 ≤ sizeLine; decide), fun u nu => ?_⟩
    have s3 := same_upd (o := .lst [o, .ref a3, .ref q1, .str (joinSp ys), .non, .ref b, .ref t4]) nu
    have m3 : Mv p (TbR Pt) H (upd H2 u (.lst [o, .ref a3, .ref q1, .str (joinSp ys), .non, .ref b, .ref t4])) := m2.trans (.same s3 c2.pool c2.tabs)
    have c3 := cc.mv m3
    refine ⟨a1, a2, a3, a4, u, _, T, dr, ys, o, _, _, _, _, _, _, _, _, rfl, c3, m3.vok op ov, on, op, fin.mv m3, upd_same, (by show 7 ≤ 20; decide), fun v hv => ?_⟩
    simp only [List.mem_cons, List.not_mem_nil, or_false] at hv
    rcases hv with rfl | rfl | rfl | rfl | rfl | rfl | rfl
    · exact .inl (m3.vok op ov)
    · exact .inl (.inr (.lst c3.l3))
    · exact .inl (.inr (.tup (s3 _ _ (s2 _ _ k1))))
    · refine .inl (.inl ⟨_, rfl, ?_⟩)
      have := join_small sh (by have := cc.yfew; omega)
      rw [sizeLine_eq]
      omega
    · exact .inl (.inr .non)
    · refine .inr ⟨b, _, rfl, MA.same s3, fun e => ?_⟩
      have hz : tz8 ∈ ys := by rw [← e]; exact List.mem_cons_self
      have l5 : tz8.length = 5 := by decide +kernel
      rcases (cc.ytg _ hz).ln with h | h <;> omega
    · exact .inl (.inr (.tup (s3 _ _ j2)))
  exact ht.run pins s' σ H D I hq
/-- the Members have been looked at -/
structure AtD (C p Pt : Addr) (σ : L2.St) (H : Hp) (D : Ends) : Prop where
  ex : ∃ (a1 a2 a3 a4 : Addr) (T dr ys : List Str) (x5 x6 x7 x8 x9 x10 x11 x12 x13 x14 : Option V), σ = [some (.ref p), some (.ref a1), some (.ref a2), some (.ref a3), some (.ref a4), x5, x6, x7, x8, x9, x10, x11, x12, x13, x14] ∧
    Core C p (TbR Pt) a1 a2 a3 a4 T dr ys H ∧ Fin p (TbR Pt) H D
theorem seg8 (W : Wd P w K mg base C CN CT S1 S2 S3 mc) (AK : Asks K mg base c Pt) (hgd : A.guards = some []) (hr : Room 8 (A.deeper (envOfC "_law_right" (defScope sRight) s.heap.objs.size f (.ref c)))) : PSs (cxR P w K mg base f (.ref c) A outer s H0) (rest 8) (fun D σ H => AtD C p Pt σ H D) := by
  refine ⟨fun pins s' σ H D I h => ?_⟩
  obtain ⟨a1, a2, a3, a4, T, dr, ys, x5, x6, x7, x8, x9, x10, x11, x12, x13, x14, eσ, cc, fin⟩ := h.ex
  obtain ⟨fO, hO⟩ := W.odd
  obtain ⟨t, ht, hq⟩ : ∃ t, PSs (cxR P w K mg base f (.ref c) A outer s H0) (rest 8) t ∧ t D σ H := by
    refine ⟨_, pss_cons (ps_set (i := 7) scRight.nd rfl (.inr rfl) (pe_has hO (hr.mono (by decide)) (by rfl) pass0 (pa_cons (pv 0) pa_nil))) (seg9 (p := p) W AK hgd hr), ?_⟩
    subst eσ
    refine ⟨_, rfl, p, rfl, cc.pool, fun o H1 x1 ov on op => ?_⟩
    have m1 : Mv p (TbR Pt) H H1 := .ext x1 cc.pool cc.tabs
    exact ⟨a1, a2, a3, a4, T, dr, ys, o, _, _, _, _, _, _, _, _, _, rfl, cc.mv m1, ov, on, op, fin.mv m1⟩
  exact ht.run pins s' σ H D I hq
end
end K1
namespace K1
open PySem PySem.Spec
open PyProof.Rows L2 EnT StX SmX TxS DuX XdI Tr3 CnB ClX
def blD (bs : List Bool) : List PyData := bs.map PyData.bool
theorem dpAll_bl {K : PySem.W.Frag} {H : Hp} : ∀ bs : List Bool, DpAll K H (bs.map V.bl) (blD bs)
  | [] => .nil
  | b :: r => .cons (.bl b) (dpAll_bl r)
theorem blD_lay : ∀ bs : List Bool, PyData.canLayAll0 (blD bs) = true
  | [] => by simp [blD, PyData.canLayAll0]
  | b :: r => by
    have := blD_lay r
    simp only [blD] at this
    simp [blD, PyData.canLayAll0, PyData.canLay0, this]
theorem blD_depth : ∀ bs : List Bool, PyData.depthAll (blD bs) = 0
  | [] => by simp [blD, PyData.depthAll]
  | b :: r => by
    have := blD_depth r
    simp only [blD] at this
    simp [blD, PyData.depthAll, PyData.depth, this]
theorem blD_shaped (bs : List Bool) : SeqAt.shaped (.list (blD bs)) = true := by
  show (PyData.canLay0 (.list (blD bs)) && decide (PyData.depth (.list (blD bs)) ≤ 64)) = true
  rw [Bool.and_eq_true]
  refine ⟨by simp only [PyData.canLay0]; exact blD_lay bs, decide_eq_true ?_⟩
  simp only [PyData.depth]
  rw [blD_depth]
  omega
theorem blD_eqv (bs : List Bool) : PyData.eqv (.list (blD bs)) (.list (blD bs)) = true := SeqAt.eqv_refl _ (by simp only [PyData.canLay0]; exact blD_lay bs)
theorem inV_mem (z : Str) : ∀ ys : List Str, inV (.str z) (ys.map V.str) = decide (z ∈ ys)
  | [] => rfl
  | y :: r => by
    have ih := inV_mem z r
    unfold inV at ih ⊢
    rw [List.map_cons, List.any_cons, ih]
    by_cases h : y = z
    · subst h
      rw [decide_eq_true List.mem_cons_self]
      simp [eqV]
    · have e : eqV (V.str y) (V.str z) = false := by
        show (y == z) = false
        exact beq_eq_false_iff_ne.mpr h
      rw [e, Bool.false_or]
      by_cases m : z ∈ r
      · rw [decide_eq_true m, decide_eq_true (List.mem_cons_of_mem _ m)]
      · rw [decide_eq_false m, decide_eq_false fun q => by
          rcases List.mem_cons.mp q with q | q
          · exact h q.symm
          · exact m q]
section
variable {w : World} {P : Program} {base : Heap} {mg : Str → Option Value} {K : PySem.W.Frag} {C CN CT S1 S2 S3 : Addr} {mc : Value}
variable {f c Pt : Addr} {A : Around} {outer : List Env} {s : Shared} {H0 : Hp} {p : Addr}
theorem seg7 (W : Wd P w K mg base C CN CT S1 S2 S3 mc) (AK : Asks K mg base c Pt) (hgd : A.guards = some []) (hr : Room 8 (A.deeper (envOfC "_law_right" (defScope sRight) s.heap.objs.size f (.ref c)))) : PSs (cxR P w K mg base f (.ref c) A outer s H0) (rest 7) (fun D σ H => AtD C p Pt σ H D) := by
  refine ⟨fun pins s' σ H D I h => ?_⟩
  obtain ⟨a1, a2, a3, a4, T, dr, ys, x5, x6, x7, x8, x9, x10, x11, x12, x13, x14, eσ, cc, fin⟩ := h.ex
  obtain ⟨gH, mH, FH⟩ := W.hasM
  have hun := hr.un
  obtain ⟨t, ht, hq⟩ : ∃ t, PSs (cxR P w K mg base f (.ref c) A outer s H0) (rest 7) t ∧ t D σ H := by
    refine ⟨_, pss_cons (ps_if (pt_cmpR (op_neD (by show (A.deeper (envOfC "_law_right" (defScope sRight) s.heap.objs.size f (.ref c))).units + 64 < cLine; omega))
          (pe_lc (own := [("_law_name", 14)]) (g := gName 14) (tt := tYes) (te := tOp (rInO C (spHasM C)) (tVar 14) (tVar 4)) rfl scRight.nd (pi_list (pv 1))
            (blkOk_by (own := [("_law_name", 14)]) (N := nmRight) (sc := defScope sRight) (by decide +kernel)) (fun _ _ _ _ _ => pg_name (i := 14) scRight.nd rfl (Or.inl rfl)) (fun _ _ _ _ _ => pts_nil)
            (fun _ _ _ _ _ => pe_cmpR (op_inX mH FH (hr.mono (by decide))) (pv 14) (pv 4) (by rfl)))
          (pe_lc (own := [("_law_name", 14)]) (g := gName 14) (tt := tYes) (te := tOp (rIn K false) (tVar 14) (tVar 3)) rfl scRight.nd (pi_list (pv 1))
            (blkOk_by (own := [("_law_name", 14)]) (N := nmRight) (sc := defScope sRight) (by decide +kernel)) (fun _ _ _ _ _ => pg_name (i := 14) scRight.nd rfl (Or.inl rfl)) (fun _ _ _ _ _ => pts_nil)
            (fun _ _ _ _ _ => pe_cmpR op_in_seq (pv 14) (pv 3) (by rfl))) (nomark _)) (pss_one (ps_ret pe_bl)) pss_nil)
      (seg8 (p := p) W AK hgd hr), ?_⟩
    subst eσ
    have nx : ∀ (i : Nat) (z : Str), T[i]? = some z → ((T.take i).map fun z => decide (z ∈ ys)).map V.bl ++ [V.bl (decide (z ∈ ys))] = ((T.take (i + 1)).map fun z => decide (z ∈ ys)).map V.bl := fun i z hz => by
      rw [List.take_add_one, hz, List.map_append, List.map_append]
      rfl
    have ln : ∀ i : Nat, (((T.take i).map fun z => decide (z ∈ ys)).map V.bl).length < sizeLine := fun i => by
      rw [List.length_map, List.length_map, List.length_take, sizeLine_eq]
      have := cc.tfew
      omega
    refine ⟨_, rfl, a1, rfl, ⟨_, SqL.of cc.l1⟩, fun d1 n1 => lc_list (K := K) (a := a1) (xs := T.map V.str) (fun i H' => H' = upd H d1 (.lst (((T.take i).map fun z => decide (z ∈ ys)).map V.bl))) rfl (fun i H' hi e => ?_) (fun i x H' hx e => ?_) (fun H' e => ?_)⟩
    · subst e
      exact SqL.of (same_upd n1 _ _ cc.l1)
    · subst e
      have s1 : Same H (upd H d1 (.lst (((T.take i).map fun z => decide (z ∈ ys)).map V.bl))) := same_upd n1
      have c1 := cc.mv (.same s1 cc.pool cc.tabs)
      rw [List.getElem?_map] at hx
      obtain ⟨z, hz, rfl⟩ := Option.map_eq_some_iff.mp hx
      obtain ⟨dx, t4, d4, k1, _, _⟩ := c1.m4.at_
      have sz : z.length ≤ sizeLine := by
        have := name_short (cc.tg z (List.mem_of_getElem? hz)).nm
        rw [sizeLine_eq]
        omega
      refine ⟨rfl, ?_⟩
      refine ⟨_, rfl, _, rfl, a4, dx, _, rfl, k1, a4, ys, .str z, rfl, c1.m4, .inl ⟨z, rfl, sz⟩, _, rfl, ?_⟩
      refine ⟨_, upd_same, ln i, ?_⟩
      rw [upd_upd]
      show upd H d1 (.lst (((T.take i).map fun z => decide (z ∈ ys)).map V.bl ++ [V.bl (decide (z ∈ ys))])) = _
      rw [nx i z hz]
    · subst e
      rw [List.length_map, List.take_length]
      have s1 : Same H (upd H d1 (.lst ((T.map fun z => decide (z ∈ ys)).map V.bl))) := same_upd n1
      have m1 : Mv p (TbR Pt) H (upd H d1 (.lst ((T.map fun z => decide (z ∈ ys)).map V.bl))) := .same s1 cc.pool cc.tabs
      have c1 := cc.mv m1
      generalize h1 : upd H d1 (.lst ((T.map fun z => decide (z ∈ ys)).map V.bl)) = H1 at s1 m1 c1 ⊢
      have k1 : H1 d1 = some (.lst ((T.map fun z => decide (z ∈ ys)).map V.bl)) := by rw [← h1]; exact upd_same
      clear h1
      refine ⟨_, rfl, a1, rfl, ⟨_, SqL.of c1.l1⟩, fun d2 n2 => lc_list (K := K) (a := a1) (xs := T.map V.str) (fun i H' => H' = upd H1 d2 (.lst (((T.take i).map fun z => decide (z ∈ ys)).map V.bl))) rfl (fun i H' hi e => ?_) (fun i x H' hx e => ?_) (fun H' e => ?_)⟩
      · subst e
        exact SqL.of (same_upd n2 _ _ c1.l1)
      · subst e
        have s2 : Same H1 (upd H1 d2 (.lst (((T.take i).map fun z => decide (z ∈ ys)).map V.bl))) := same_upd n2
        have c2 := c1.mv (.same s2 c1.pool c1.tabs)
        rw [List.getElem?_map] at hx
        obtain ⟨z, hz, rfl⟩ := Option.map_eq_some_iff.mp hx
        refine ⟨rfl, ?_⟩
        refine ⟨_, rfl, _, rfl, a3, _, rfl, .inl (SqL.of c2.l3), rfl, by simp [flatV], ?_⟩
        refine ⟨_, upd_same, ln i, ?_⟩
        rw [upd_upd]
        show upd H1 d2 (.lst (((T.take i).map fun z => decide (z ∈ ys)).map V.bl ++ [V.bl (inV (.str z) (ys.map V.str))])) = _
        rw [inV_mem, nx i z hz]
      · subst e
        rw [List.length_map, List.take_length]
        have s2 : Same H1 (upd H1 d2 (.lst ((T.map fun z => decide (z ∈ ys)).map V.bl))) := same_upd n2
        have m2 : Mv p (TbR Pt) H (upd H1 d2 (.lst ((T.map fun z => decide (z ∈ ys)).map V.bl))) := m1.trans (.same s2 c1.pool c1.tabs)
        refine ⟨_, _, .lst (SqL.of (s2 _ _ k1)) (dpAll_bl _), .lst (SqL.of upd_same) (dpAll_bl _), blD_shaped _, blD_shaped _, _, rfl, ?_⟩
        rw [blD_eqv]
        refine iteF ?_
        exact ⟨a1, a2, a3, a4, T, dr, ys, _, _, _, _, _, _, _, _, _, _, rfl, cc.mv m2, fin.mv m2⟩
  exact ht.run pins s' σ H D I hq
end
end K1
namespace K1
open PySem PySem.Spec
open PyProof.Rows L2 EnT StX SmX TxS DuX XdI Tr3 CnB ClX
theorem read_good {C CT a : Addr} {ys : List Str} {H : Hp} {Q : VK} {E : XK} (m : MemAt C H a ys) (hf : ys.length ≤ 4) (q : ∀ b H', Same H H' → MemAt C H' b ys → Q (.ref b) H') : spReadT C CT [.str (joinSp ys)] H Q E := by
  have ep := parts_names m.nm
  have js := join_small (fun z hz => name_short (m.nm z hz)) (by omega : ys.length ≤ 20)
  have hw : wrongIx (ys.map V.str) = none := wrong_none (List.all_eq_true.mpr fun v hv => by
    obtain ⟨z, hz, rfl⟩ := List.mem_map.mp hv
    exact m.nm z hz)
  refine ⟨joinSp ys, rfl, by rw [sizeLine_eq]; omega, by rw [ep]; omega, fun y hy => ?_, fun i hi => ?_, fun _ p ws H' np s hm MA => ?_⟩
  · rw [ep] at hy
    have := name_short (m.nm y hy)
    rw [sizeLine_eq]
    omega
  · rw [ep, hw] at hi
    cases hi
  · rw [ep] at hm
    have e : ws = ys := sorted_uniq MA.srt m.srt MA.nd m.nd hm
    subst e
    exact ⟨fun n => absurd rfl n, fun _ => q p H' s MA⟩
/-- both are the Members of the same names -/
def SameMem (C : Addr) : Addr → Addr → Hp → Prop := fun a b H => ∃ ys, MemAt C H a ys ∧ MemAt C H b ys
theorem sameMem_mon (C : Addr) : ∀ a b H H', L2.Ext H H' → SameMem C a b H → SameMem C a b H' := fun a b H H' e h => by
  obtain ⟨ys, h1, h2⟩ := h
  exact ⟨ys, h1.same e, h2.same e⟩
theorem eq_same {P : Program} {w : World} {K : PySem.W.Frag} {mg : Str → Option Value} {base : Heap} {C g : Addr} {fd : FuncData} (F : FnOk P w K mg base CX0 3 g fd ["self", "other"] (spEqM C)) : FnOk P w K mg base CX0 3 g fd ["self", "other"] (spEq (SameMem C)) := by
  have imp : ∀ vs H Q E, spEq (SameMem C) vs H Q E → spEqM C vs H Q E := fun vs H Q E h => by
    obtain ⟨a, b, e, ⟨ys, h1, h2⟩, q⟩ := h
    refine ⟨a, ys, .ref b, e, h1, .inl ⟨b, ys, rfl, h2, ?_⟩⟩
    rw [decide_eq_true rfl]
    exact q H L2.Ext.rfl'
  exact ⟨fun vs H Q E h => F.len vs H Q E (imp vs H Q E h), fun A outer s H args us vs Q E hr e0 hb r h => F.run A outer s H args us vs Q E hr e0 hb r (imp vs H Q E h)⟩
end K1
namespace K1
open PySem PySem.Spec
open PyProof.Rows L2 EnT StX SmX TxS DuX XdI Tr3 CnB ClX
section
variable {w : World} {P : Program} {base : Heap} {mg : Str → Option Value} {K : PySem.W.Frag} {C CN CT S1 S2 S3 : Addr} {mc : Value}
variable {f c Pt : Addr} {A : Around} {outer : List Env} {s : Shared} {H0 : Hp} {p : Addr}
/-- the others stand in the list at v -/
structure At6 (C p Pt : Addr) (σ : L2.St) (H : Hp) (D : Ends) : Prop where
  ex : ∃ (a1 a2 a3 a4 v b1 b2 b3 : Addr) (T dr ys : List Str) (x5 x7 x8 x9 x10 x11 x12 x13 x14 : Option V), σ = [some (.ref p), some (.ref a1), some (.ref a2), some (.ref a3), some (.ref a4), x5, some (.ref v), x7, x8, x9, x10, x11, x12, x13, x14] ∧
    Core C p (TbR Pt) a1 a2 a3 a4 T dr ys H ∧ Fin p (TbR Pt) H D ∧ H v = some (.lst [.ref b1, .ref b2, .ref b3]) ∧ MemAt C H b1 ys ∧ MemAt C H b2 ys ∧ MemAt C H b3 ys
theorem din {C a b : Addr} {ys : List Str} {H : Hp} (h1 : MemAt C H a ys) (h2 : MemAt C H b ys) : DIns C (SameMem C) (.ref a) (.ref b) H := by
  obtain ⟨dx, t, d, e1, _, _⟩ := h1.at_
  obtain ⟨dy, t2, d2, e2, _, _⟩ := h2.at_
  exact ⟨a, b, dx, dy, _, _, rfl, rfl, e1, e2, ys, h1, h2⟩
theorem seg6 (W : Wd P w K mg base C CN CT S1 S2 S3 mc) (AK : Asks K mg base c Pt) (hgd : A.guards = some []) (hr : Room 8 (A.deeper (envOfC "_law_right" (defScope sRight) s.heap.objs.size f (.ref c)))) : PSs (cxR P w K mg base f (.ref c) A outer s H0) (rest 6) (fun D σ H => At6 C p Pt σ H D) := by
  refine ⟨fun pins s' σ H D I h => ?_⟩
  obtain ⟨a1, a2, a3, a4, v, b1, b2, b3, T, dr, ys, x5, x7, x8, x9, x10, x11, x12, x13, x14, eσ, cc, fin, hv, m1, m2, m3⟩ := h.ex
  obtain ⟨gE, mE, FE, fdE, FdE, bE⟩ := W.eqM
  obtain ⟨gS, mS, FS⟩ := W.strM
  obtain ⟨pr, gr, mr, F1, F2, fdR, gg, FR, kb⟩ := W.read
  obtain ⟨t, ht, hq⟩ : ∃ t, PSs (cxR P w K mg base f (.ref c) A outer s H0) (rest 6) t ∧ t D σ H := by
    refine ⟨_, pss_cons (ps_if (PW.pt (pw_or (pt_cmpR (NeL.op_neG (mon_ins (sameMem_mon C)) (eqG_ins (eq_same FdE) mE.at_ mE.fn bE pass0) (hr.mono (by decide))) (pv 6) (pe_lst (pa_cons (pv 4) (pa_cons (pv 4) (pa_cons (pv 4) pa_nil)))) (nomark _))
          (pw_or1 (pt_cmpR (op_neX mE W.neM FE (hr.mono (by decide))) (pe_smethK (pe_glob (v := .ref C) (by rfl) W.M.g rfl) W.cr mr FR kb (hr.mono (by decide)) passL (pk_cons (pe_callTy (call_strO mS FS (hr.mono (by decide)) pass0) (by rfl) W.T.str (by decide +kernel) (pa_cons (pv 4) pa_nil)) pk_nil)) (pv 4) (nomark _))))) (pss_one (ps_ret pe_bl)) pss_nil)
      (seg7 (p := p) W AK hgd hr), ?_⟩
    subst eσ
    refine ⟨_, rfl, _, rfl, _, rfl, _, rfl, (by show 3 ≤ sizeLine; decide), fun q nq => ?_⟩
    have s1 : Same H (upd H q (.lst [.ref a4, .ref a4, .ref a4])) := same_upd nq
    have n1 : Mv p (TbR Pt) H (upd H q (.lst [.ref a4, .ref a4, .ref a4])) := .same s1 cc.pool cc.tabs
    have c1 := cc.mv n1
    refine ⟨⟨v, q, _, _, rfl, rfl, s1 _ _ hv, upd_same, .cons (din (m1.same s1) c1.m4) (.cons (din (m2.same s1) c1.m4) (.cons (din (m3.same s1) c1.m4) .nil))⟩, fun H2 e2 => ⟨_, rfl, ?_⟩⟩
    refine iteF ?_
    have n2 : Mv p (TbR Pt) H H2 := n1.trans (.same e2 c1.pool c1.tabs)
    have c2 := cc.mv n2
    obtain ⟨dx, t4, d4, k1, _, _⟩ := c2.m4.at_
    refine ⟨rfl, _, rfl, a4, dx, _, rfl, k1, a4, ys, rfl, c2.m4, fun z hz => name_short (c2.m4.nm z hz), _, rfl, rfl, ?_⟩
    refine read_good c2.m4 c2.yfew fun b H3 s3 MB => ?_
    have n3 : Mv p (TbR Pt) H H3 := n2.trans (.same s3 c2.pool c2.tabs)
    have c3 := cc.mv n3
    obtain ⟨dy, t5, d5, j1, _, _⟩ := MB.at_
    obtain ⟨dz, t6, d6, j2, _, _⟩ := c3.m4.at_
    refine ⟨_, rfl, b, dy, _, .ref C, rfl, j1, .base (.ins j2 W.M.cl W.I.ha W.I.hn W.I.htk W.I.hm), W.I.nfC, b, ys, .ref a4, rfl, MB, .inl ⟨a4, ys, rfl, c3.m4, true, ?_, false, rfl, ?_⟩⟩
    · rw [decide_eq_true rfl]
    · refine iteF ?_
      exact ⟨a1, a2, a3, a4, T, dr, ys, _, _, _, _, _, _, _, _, _, _, rfl, c3, fin.mv n3⟩
  exact ht.run pins s' σ H D I hq
end
end K1
namespace K1
open PySem PySem.Spec
open PyProof.Rows L2 EnT StX SmX TxS DuX XdI Tr3 CnB ClX
section
variable {w : World} {P : Program} {base : Heap} {mg : Str → Option Value} {K : PySem.W.Frag} {C CN CT S1 S2 S3 : Addr} {mc : Value}
variable {f c Pt : Addr} {A : Around} {outer : List Env} {s : Shared} {H0 : Hp} {p : Addr}
theorem seg5 (W : Wd P w K mg base C CN CT S1 S2 S3 mc) (AK : Asks K mg base c Pt) (hgd : A.guards = some []) (hr : Room 8 (A.deeper (envOfC "_law_right" (defScope sRight) s.heap.objs.size f (.ref c)))) : PSs (cxR P w K mg base f (.ref c) A outer s H0) (rest 5) (fun D σ H => AtD C p Pt σ H D) := by
  refine ⟨fun pins s' σ H D I h => ?_⟩
  obtain ⟨a1, a2, a3, a4, T, dr, ys, x5, x6, x7, x8, x9, x10, x11, x12, x13, x14, eσ, cc, fin⟩ := h.ex
  obtain ⟨pr, gr, mr, F1, F2, fdR, gg, FR, kb⟩ := W.read
  obtain ⟨pf, gf, mf, G1, G2, fdF, gq, GF, kf⟩ := W.fromT
  obtain ⟨t, ht, hq⟩ : ∃ t, PSs (cxR P w K mg base f (.ref c) A outer s H0) (rest 5) t ∧ t D σ H := by
    refine ⟨_, pss_cons (ps_set (i := 6) scRight.nd rfl (.inl rfl) (pe_lst (pa_cons (pe_smeth (pe_glob (v := .ref C) (by rfl) W.M.g rfl) W.cr mf G1 (hr.mono (by decide)) passL (pa_cons (pe_callTy call_tuple_of (by rfl) W.T.tuple (by decide +kernel) (pa_cons (pv 2) pa_nil)) pa_nil))
        (pa_cons (pe_smethK (pe_glob (v := .ref C) (by rfl) W.M.g rfl) W.cr mf GF kf (hr.mono (by decide)) passL (pk_cons (pe_callTy call_tuple_of (by rfl) W.T.tuple (by decide +kernel) (pa_cons (pv 3) pa_nil)) pk_nil))
        (pa_cons (pe_smeth (pe_glob (v := .ref C) (by rfl) W.M.g rfl) W.cr mr F1 (hr.mono (by decide)) passL (pa_cons (pe_join pe_str (pv 3)) pa_nil)) pa_nil)))))
      (seg6 (p := p) W AK hgd hr), ?_⟩
    subst eσ
    refine ⟨rfl, _, rfl, a2, _, rfl, .inl ⟨SqL.of cc.l2, fun q1 n1 => ?_⟩⟩
    have s1 : Same H (upd H q1 (.tup (dr.map V.str))) := same_upd n1
    have m1 : Mv p (TbR Pt) H (upd H q1 (.tup (dr.map V.str))) := .same s1 cc.pool cc.tabs
    refine ⟨q1, _, rfl, upd_same, mk_read (fun z hz => (cc.dtg z hz).nm) (by have := cc.dfew; omega) cc.m4.srt cc.m4.nd cc.mem fun b1 H2 nb1 s2 MA1 => ?_⟩
    have m2 : Mv p (TbR Pt) H H2 := m1.trans (.same s2 (cc.mv m1).pool (cc.mv m1).tabs)
    have c2 := cc.mv m2
    refine ⟨rfl, _, rfl, a3, _, rfl, .inl ⟨SqL.of c2.l3, fun q3 n3 => ?_⟩⟩
    have s3 : Same H2 (upd H2 q3 (.tup (ys.map V.str))) := same_upd n3
    have m3 : Mv p (TbR Pt) H (upd H2 q3 (.tup (ys.map V.str))) := m2.trans (.same s3 c2.pool c2.tabs)
    have c3 := cc.mv m3
    refine ⟨rfl, q3, _, rfl, upd_same, mk_read (fun z hz => (cc.ytg z hz).nm) (by have := cc.yfew; omega) cc.m4.srt cc.m4.nd (fun _ => Iff.rfl) fun b2 H4 nb2 s4 MA2 => ?_⟩
    have m4 : Mv p (TbR Pt) H H4 := m3.trans (.same s4 c3.pool c3.tabs)
    have c4 := cc.mv m4
    refine ⟨rfl, ⟨_, rfl⟩, _, rfl, _, a3, ys, rfl, rfl, .inl (SqL.of c4.l3), join_fits (fun z hz => name_short (cc.ytg z hz).nm) (by have := cc.yfew; omega), ?_⟩
    have ej : Txt.join (Str.ofString " ") ys = joinSp ys := rfl
    rw [ej]
    dsimp only [tNil]
    refine read_good c4.m4 c4.yfew fun b3 H5 s5 MA3 => ?_
    have m5 : Mv p (TbR Pt) H H5 := m4.trans (.same s5 c4.pool c4.tabs)
    have c5 := cc.mv m5
    refine ⟨(by show 3 ≤ sizeLine; decide), fun v nv => ?_⟩
    have s6 : Same H5 (upd H5 v (.lst [.ref b1, .ref b2, .ref b3])) := same_upd nv
    have m6 : Mv p (TbR Pt) H (upd H5 v (.lst [.ref b1, .ref b2, .ref b3])) := m5.trans (.same s6 c5.pool c5.tabs)
    exact ⟨a1, a2, a3, a4, v, b1, b2, b3, T, dr, ys, _, _, _, _, _, _, _, _, _, rfl, cc.mv m6, fin.mv m6, upd_same, MA1.same (((s3.trans s4).trans s5).trans s6), MA2.same (s5.trans s6), MA3.same s6⟩
  exact ht.run pins s' σ H D I hq
end
end K1
namespace K1
open PySem PySem.Spec
open PyProof.Rows L2 EnT StX SmX TxS DuX XdI Tr3 CnB ClX
/-- the text that Members show of themselves -/
def rtx (n : Nat) : Str := Str.ofString "Members(" ++ (toString (n : Int) : Str) ++ Str.ofString ")"
theorem rtx_all : ((List.range 5).all fun n => RpD.plainD (.str (rtx n)) && decide ((rtx n).length ≤ 20)) = true := by decide +kernel
theorem rtx_ok {n : Nat} (h : n ≤ 4) : RpD.plainD (.str (rtx n)) = true ∧ (rtx n).length ≤ 20 := by
  have q := (List.all_eq_true.mp rtx_all) n (List.mem_range.mpr (by omega))
  rw [Bool.and_eq_true] at q
  exact ⟨q.1, of_decide_eq_true q.2⟩
theorem empty_app (x : Str) : Str.empty ++ x = x := TL.ext_tl (by
  rw [TL.tl_append]
  show [] ++ TL.tl x = TL.tl x
  rfl)
theorem rtx_eq (n : Nat) : Str.empty ++ ("Members(" : Str) ++ (toString (n : Int) : Str) ++ (")" : Str) = rtx n := by
  rw [empty_app]
  rfl
/-- what is told of the Members of ys -/
def datOf (ys : List Str) : PyData := .list [.tuple (strD ys), .str (joinSp ys), .int (ys.length : Nat), .str (rtx ys.length), .bool (!decide (ys = []))]
theorem strD_plain : ∀ ys : List Str, (∀ z ∈ ys, ∀ c ∈ z.cps.toList, c < 128) → RpD.plainAll (strD ys) = true
  | [], _ => rfl
  | z :: r, h => by
    show (RpD.plainD (.str z) && RpD.plainAll (strD r)) = true
    rw [str_plain (h z List.mem_cons_self), strD_plain r fun y hy => h y (List.mem_cons_of_mem _ hy)]
    rfl
theorem strD_wide : ∀ ys : List Str, (∀ z ∈ ys, z.length ≤ 8) → RpD.wideAll (strD ys) ≤ 84 * ys.length
  | [], _ => Nat.le_refl _
  | z :: r, h => by
    have ih := strD_wide r fun y hy => h y (List.mem_cons_of_mem _ hy)
    have := h z List.mem_cons_self
    show (10 * z.length + 2) + 2 + RpD.wideAll (strD r) ≤ 84 * (r.length + 1)
    omega
theorem datOf_shows {ys : List Str} (nm : ∀ z ∈ ys, nameB z = true) (hl : ys.length ≤ 4) : RpD.Shows (datOf ys) := by
  have sh : ∀ z ∈ ys, z.length ≤ 8 := fun z hz => name_short (nm z hz)
  have lo : ∀ z ∈ ys, ∀ c ∈ z.cps.toList, c < 128 := fun z hz => name_low (nm z hz)
  have js := join_small sh (by omega : ys.length ≤ 20)
  obtain ⟨r1, r2⟩ := rtx_ok hl
  have w1 := strD_wide ys sh
  refine .of ?_ ?_ ?_
  · show (RpD.plainAll (strD ys) && (RpD.plainD (.str (joinSp ys)) && (RpD.plainD (.int (ys.length : Nat)) && (RpD.plainD (.str (rtx ys.length)) && (true && true))))) = true
    have e : RpD.plainD (.int (ys.length : Nat)) = true := decide_eq_true ⟨by omega, by omega⟩
    rw [strD_plain ys lo, str_plain (join_low ys lo), e, r1]
    rfl
  · have d := strD_depth ys
    simp only [datOf, PyData.depth, PyData.depthAll]
    rw [d]
    simp
  · show (RpD.wideAll (strD ys) + 3) + 2 + ((10 * (joinSp ys).length + 2) + 2 + (5 + 2 + ((10 * (rtx ys.length).length + 2) + 2 + (5 + 2 + 0)))) + 3 ≤ 16000000
    omega
section
variable {w : World} {P : Program} {base : Heap} {mg : Str → Option Value} {K : PySem.W.Frag} {C CN CT S1 S2 S3 : Addr} {mc : Value}
variable {f c Pt : Addr} {A : Around} {outer : List Env} {s : Shared} {H0 : Hp} {p : Addr}
/-- what is told stands at tl -/
structure At4 (C p Pt : Addr) (σ : L2.St) (H : Hp) (D : Ends) : Prop where
  ex : ∃ (a1 a2 a3 a4 tl t4 : Addr) (T dr ys : List Str) (x6 x7 x8 x9 x10 x11 x12 x13 x14 : Option V), σ = [some (.ref p), some (.ref a1), some (.ref a2), some (.ref a3), some (.ref a4), some (.ref tl), x6, x7, x8, x9, x10, x11, x12, x13, x14] ∧
    Core C p (TbR Pt) a1 a2 a3 a4 T dr ys H ∧ Fin p (TbR Pt) H D ∧ H t4 = some (.tup (ys.map V.str)) ∧ H tl = some (.lst [.ref t4, .str (joinSp ys), .int (ys.length : Nat), .str (rtx ys.length), .bl (!decide (ys = []))])
theorem told_dp {H : Hp} {tl t4 : Addr} {ys : List Str} (h1 : H t4 = some (.tup (ys.map V.str))) (h2 : H tl = some (.lst [.ref t4, .str (joinSp ys), .int (ys.length : Nat), .str (rtx ys.length), .bl (!decide (ys = []))])) : Dp K H (.ref tl) (datOf ys) :=
  .lst (SqL.of h2) (.cons (.tup (SqT.of h1) (dpAll_str ys)) (.cons (.str _) (.cons (.int _) (.cons (.str _) (.cons (.bl _) .nil)))))
theorem seg4 (W : Wd P w K mg base C CN CT S1 S2 S3 mc) (AK : Asks K mg base c Pt) (hgd : A.guards = some []) (hr : Room 8 (A.deeper (envOfC "_law_right" (defScope sRight) s.heap.objs.size f (.ref c)))) : PSs (cxR P w K mg base f (.ref c) A outer s H0) (rest 4) (fun D σ H => At4 C p Pt σ H D) := by
  refine ⟨fun pins s' σ H D I h => ?_⟩
  obtain ⟨a1, a2, a3, a4, tl, t4, T, dr, ys, x6, x7, x8, x9, x10, x11, x12, x13, x14, eσ, cc, fin, h4, hl⟩ := h.ex
  have hun := hr.un
  have hu1 : (cxR P w K mg base f (.ref c) A outer s H0).A.units + 100 < cLine := by
    show (A.deeper (envOfC "_law_right" (defScope sRight) s.heap.objs.size f (.ref c))).units + 100 < cLine
    omega
  obtain ⟨t, ht, hq⟩ : ∃ t, PSs (cxR P w K mg base f (.ref c) A outer s H0) (rest 4) t ∧ t D σ H := by
    refine ⟨_, pss_cons (ps_if (pt_cmpR op_ne (pe_callB (RpD.call_reprD (by exact hgd) hu1) (by rfl) W.T.repr (by decide +kernel) (pa_cons (pv 5) pa_nil))
        (pe_callB (RpD.call_reprD (by exact hgd) hu1) (by rfl) W.T.repr (by decide +kernel) (pa_cons (pe_lst (pa_cons (pe_callTy call_tuple_of (by rfl) W.T.tuple (by decide +kernel) (pa_cons (pv 3) pa_nil)) (pa_cons (pe_join pe_str (pv 3)) (pa_cons (pe_callB call_len_seq (by rfl) W.T.len PySem.boot_len (pa_cons (pv 3) pa_nil))
          (pa_cons (pe_op op_add_str (pe_op op_add_str pe_str (pe_callTy call_str_int (by rfl) W.T.str (by decide +kernel) (pa_cons (pe_callB call_len_seq (by rfl) W.T.len PySem.boot_len (pa_cons (pv 3) pa_nil)) pa_nil))) pe_str)
          (pa_cons (pe_cmpR (op_neD (by show (A.deeper (envOfC "_law_right" (defScope sRight) s.heap.objs.size f (.ref c))).units + 64 < cLine; omega)) (pv 3) (pe_lst pa_nil) (nomark _)) pa_nil)))))) pa_nil)) (nomark _)) (pss_one (ps_ret pe_bl)) pss_nil)
      (seg5 (p := p) W AK hgd hr), ?_⟩
    subst eσ
    have nm : ∀ z ∈ ys, nameB z = true := fun z hz => (cc.ytg z hz).nm
    have sh := datOf_shows nm cc.yfew
    refine ⟨_, rfl, _, datOf ys, rfl, told_dp h4 hl, sh, ?_⟩
    refine ⟨_, rfl, a3, _, rfl, .inl ⟨SqL.of cc.l3, fun q1 n1 => ?_⟩⟩
    have s1 : Same H (upd H q1 (.tup (ys.map V.str))) := same_upd n1
    generalize h1 : upd H q1 (.tup (ys.map V.str)) = H1 at s1 ⊢
    have k1 : H1 q1 = some (.tup (ys.map V.str)) := by rw [← h1]; exact upd_same
    clear h1
    have m1 : Mv p (TbR Pt) H H1 := .same s1 cc.pool cc.tabs
    have c1 := cc.mv m1
    refine ⟨⟨_, rfl⟩, _, rfl, _, a3, ys, rfl, rfl, .inl (SqL.of c1.l3), join_fits (fun z hz => name_short (nm z hz)) (by have := cc.yfew; omega), ?_⟩
    have ej : Txt.join (Str.ofString " ") ys = joinSp ys := rfl
    rw [ej]
    refine ⟨_, rfl, a3, _, rfl, .inl (SqL.of c1.l3), ?_⟩
    rw [List.length_map]
    refine ⟨_, rfl, a3, _, rfl, .inl (SqL.of c1.l3), ?_⟩
    rw [List.length_map]
    obtain ⟨_, r2⟩ := rtx_ok cc.yfew
    have r3 : (rtx ys.length).length = (Str.ofString "Members(").length + (toString (ys.length : Int) : Str).length + (Str.ofString ")").length := by
      unfold rtx
      rw [strLen_append,
          strLen_append]
    refine ⟨_, rfl, RpD.log_small ⟨by omega, by have := cc.yfew; omega⟩, _, _, rfl, rfl, by rw [sizeLine_eq]; omega, _, _, rfl, rfl, by rw [strLen_append, sizeLine_eq]; omega, ?_⟩
    refine ⟨_, rfl, (by show 0 ≤ sizeLine; decide), fun q2 n2 => ?_⟩
    have s2 : Same H1 (upd H1 q2 (.lst [])) := same_upd n2
    have m2 : Mv p (TbR Pt) H (upd H1 q2 (.lst [])) := m1.trans (.same s2 c1.pool c1.tabs)
    have c2 := cc.mv m2
    refine ⟨.list (strD ys), .list [], .lst (SqL.of c2.l3) (dpAll_str ys), .lst (SqL.of upd_same) .nil, lstD_shaped (okS_names nm), by decide +kernel, ?_⟩
    have e5 : PyData.eqv (.list (strD ys)) (.list []) = decide (ys = []) := by
      simp only [PyData.eqv]
      exact strD_eqv ys []
    rw [e5]
    refine ⟨(by show 5 ≤ sizeLine; decide), fun q3 n3 => ?_⟩
    have s3 := same_upd (o := .lst [.ref q1, .str (joinSp ys), .int (ys.length : Nat), .str (rtx ys.length), .bl (!decide (ys = []))]) n3
    have m3 : Mv p (TbR Pt) H (upd (upd H1 q2 (.lst [])) q3 (.lst [.ref q1, .str (joinSp ys), .int (ys.length : Nat), .str (rtx ys.length), .bl (!decide (ys = []))])) := m2.trans (.same s3 c2.pool c2.tabs)
    refine ⟨.ref q3, datOf ys, rfl, told_dp (t4 := q1) (s3 _ _ (s2 _ _ k1)) upd_same, sh, rfl, _, rfl, ?_⟩
    have e6 : (!decide (V.str (datOf ys).shown = V.str (datOf ys).shown)) = false := by simp
    rw [e6]
    refine iteF ?_
    exact ⟨a1, a2, a3, a4, T, dr, ys, _, _, _, _, _, _, _, _, _, _, rfl, cc.mv m3, fin.mv m3⟩
  exact ht.run pins s' σ H D I hq
end
end K1
namespace K1
open PySem PySem.Spec
open PyProof.Rows L2 EnT StX SmX TxS DuX XdI Tr3 CnB ClX
section
variable {w : World} {P : Program} {base : Heap} {mg : Str → Option Value} {K : PySem.W.Frag} {C CN CT S1 S2 S3 : Addr} {mc : Value}
variable {f c Pt : Addr} {A : Around} {outer : List Env} {s : Shared} {H0 : Hp} {p : Addr}
theorem seg3 (W : Wd P w K mg base C CN CT S1 S2 S3 mc) (AK : Asks K mg base c Pt) (hgd : A.guards = some []) (hr : Room 8 (A.deeper (envOfC "_law_right" (defScope sRight) s.heap.objs.size f (.ref c)))) : PSs (cxR P w K mg base f (.ref c) A outer s H0) (rest 3) (fun D σ H => AtD C p Pt σ H D) := by
  refine ⟨fun pins s' σ H D I h => ?_⟩
  obtain ⟨a1, a2, a3, a4, T, dr, ys, x5, x6, x7, x8, x9, x10, x11, x12, x13, x14, eσ, cc, fin⟩ := h.ex
  obtain ⟨pN, gN, fdN, pr, GN, bN⟩ := W.prop
  obtain ⟨gS, mS, FS⟩ := W.strM
  obtain ⟨gL, mL, FL⟩ := W.lenM
  obtain ⟨gR, mR, FR⟩ := W.reprM
  obtain ⟨t, ht, hq⟩ : ∃ t, PSs (cxR P w K mg base f (.ref c) A outer s H0) (rest 3) t ∧ t D σ H := by
    refine ⟨_, pss_cons (ps_set (i := 5) scRight.nd rfl (.inl rfl) (pe_lst (pa_cons (pe_prop (pv 4) W.M.cl pr GN (hr.mono (by decide)) bN .nil pass0 rfl)
        (pa_cons (pe_callTy (call_strO mS FS (hr.mono (by decide)) pass0) (by rfl) W.T.str (by decide +kernel) (pa_cons (pv 4) pa_nil))
        (pa_cons (pe_callB (call_lenO mL FL (hr.mono (by decide)) pass0) (by rfl) W.T.len PySem.boot_len (pa_cons (pv 4) pa_nil))
        (pa_cons (pe_callB (call_reprO mR FR (hr.mono (by decide)) pass0) (by rfl) W.T.repr (by decide +kernel) (pa_cons (pv 4) pa_nil))
        (pa_cons (pe_callTy (call_boolO mL W.nbM FL (hr.mono (by decide)) pass0) (by rfl) W.T.bool (by decide +kernel) (pa_cons (pv 4) pa_nil)) pa_nil)))))))
      (seg4 (p := p) W AK hgd hr), ?_⟩
    subst eσ
    have m4 := cc.m4
    obtain ⟨dx, t4, d4, j1, j2, j3⟩ := m4.at_
    have few := cc.yfew
    refine ⟨_, rfl, a4, dx, _, rfl, j1, a4, dx, _, _, rfl, j1, flds_names t4 d4, ?_⟩
    refine ⟨_, rfl, a4, dx, _, rfl, j1, a4, ys, rfl, m4, fun z hz => name_short (m4.nm z hz), _, rfl, ?_⟩
    refine ⟨_, rfl, a4, dx, _, rfl, j1, a4, ys, rfl, m4, ys.length, rfl, by omega, ?_⟩
    refine ⟨_, rfl, a4, dx, _, rfl, j1, a4, ys, rfl, m4, _, rfl, ?_⟩
    rw [rtx_eq]
    refine ⟨_, rfl, a4, dx, _, rfl, j1, a4, ys, rfl, m4, ys.length, rfl, by omega, ?_⟩
    have eb : (ys.length != 0) = !decide (ys = []) := by
      cases ys with
      | nil => rfl
      | cons z r => rfl
    rw [eb]
    refine ⟨(by show 5 ≤ sizeLine; decide), fun tl nl => ?_⟩
    have s1 := same_upd (o := .lst [.ref t4, .str (joinSp ys), .int (ys.length : Nat), .str (rtx ys.length), .bl (!decide (ys = []))]) nl
    have m1 : Mv p (TbR Pt) H (upd H tl (.lst [.ref t4, .str (joinSp ys), .int (ys.length : Nat), .str (rtx ys.length), .bl (!decide (ys = []))])) := .same s1 cc.pool cc.tabs
    exact ⟨a1, a2, a3, a4, tl, t4, T, dr, ys, _, _, _, _, _, _, _, _, _, rfl, cc.mv m1, fin.mv m1, s1 _ _ j2, upd_same⟩
  exact ht.run pins s' σ H D I hq
end
end K1
namespace K1
open PySem PySem.Spec
open PyProof.Rows L2 EnT StX SmX TxS DuX XdI Tr3 CnB ClX
/-- the names are drawn -/
structure Pre2 (p : Addr) (Tb : List (Addr × Str)) (a1 a2 : Addr) (T dr : List Str) (H : Hp) : Prop where
  pool : PoolAt H p
  tabs : LamX.Tabs Tb H
  l1 : H a1 = some (.lst (T.map V.str))
  l2 : H a2 = some (.lst (dr.map V.str))
  tg : ∀ z ∈ T, Tg z
  tne : T ≠ []
  tfew : T.length ≤ 3
  sub : ∀ z ∈ dr, z ∈ T
  dfew : dr.length ≤ 4
theorem Pre2.mv {p a1 a2 : Addr} {Tb : List (Addr × Str)} {T dr : List Str} {H H' : Hp} (c : Pre2 p Tb a1 a2 T dr H) (m : Mv p Tb H H') : Pre2 p Tb a1 a2 T dr H' :=
  ⟨m.rx.pool, m.tabs, m.strs c.pool c.l1, m.strs c.pool c.l2, c.tg, c.tne, c.tfew, c.sub, c.dfew⟩
section
variable {w : World} {P : Program} {base : Heap} {mg : Str → Option Value} {K : PySem.W.Frag} {C CN CT S1 S2 S3 : Addr} {mc : Value}
variable {f c Pt : Addr} {A : Around} {outer : List Env} {s : Shared} {H0 : Hp} {p : Addr}
structure At2 (p Pt : Addr) (σ : L2.St) (H : Hp) (D : Ends) : Prop where
  ex : ∃ (a1 a2 : Addr) (T dr : List Str) (x3 x4 x5 x6 x7 x8 x9 x10 x11 x12 x13 x14 : Option V), σ = [some (.ref p), some (.ref a1), some (.ref a2), x3, x4, x5, x6, x7, x8, x9, x10, x11, x12, x13, x14] ∧
    Pre2 p (TbR Pt) a1 a2 T dr H ∧ Fin p (TbR Pt) H D
theorem seg2 (W : Wd P w K mg base C CN CT S1 S2 S3 mc) (AK : Asks K mg base c Pt) (hgd : A.guards = some []) (hr : Room 8 (A.deeper (envOfC "_law_right" (defScope sRight) s.heap.objs.size f (.ref c)))) : PSs (cxR P w K mg base f (.ref c) A outer s H0) (rest 2) (fun D σ H => At2 p Pt σ H D) := by
  refine ⟨fun pins s' σ H D I h => ?_⟩
  obtain ⟨a1, a2, T, dr, x3, x4, x5, x6, x7, x8, x9, x10, x11, x12, x13, x14, eσ, cc, fin⟩ := h.ex
  obtain ⟨fM, hM⟩ := W.made
  obtain ⟨t, ht, hq⟩ : ∃ t, PSs (cxR P w K mg base f (.ref c) A outer s H0) (rest 2) t ∧ t D σ H := by
    refine ⟨_, pss_cons (ps_asg (pe_tup (pa_cons (pe_sortSet rfl (by rfl) W.T.sorted (by rfl) W.T.set (pe_lc (own := [("_law_each", 13)]) (g := gName 13) (tt := tYes) rfl scRight.nd (pi_list (pv 2))
            (blkOk_by (own := [("_law_each", 13)]) (N := nmRight) (sc := defScope sRight) (by decide +kernel)) (fun _ _ _ _ _ => pg_name (i := 13) scRight.nd rfl (Or.inl rfl)) (fun _ _ _ _ _ => pts_nil)
            (fun _ _ _ _ _ => pe_callTy SkE.call_str_str (by rfl) W.T.str (by decide +kernel) (pa_cons (pv 13) pa_nil))))
          (pa_cons (pe_has (sp := spMade C CN) hM (hr.mono (by decide)) (by rfl) passL (pa_cons (pv 2) pa_nil)) pa_nil))) (pg_tup rfl (pgs_cons (pg_name (i := 3) scRight.nd rfl (.inr rfl)) (pgs_cons (pg_name (i := 4) scRight.nd rfl (.inr rfl)) pgs_nil))))
      (seg3 (p := p) W AK hgd hr), ?_⟩
    subst eσ
    refine ⟨_, rfl, a2, rfl, ⟨_, SqL.of cc.l2⟩, fun d1 n1 => lc_list (K := K) (a := a2) (xs := dr.map V.str) (fun i H' => H' = upd H d1 (.lst ((dr.take i).map V.str))) rfl (fun i H' hi e => ?_) (fun i x H' hx e => ?_) (fun H' e => ?_)⟩
    · subst e
      exact SqL.of (same_upd n1 _ _ cc.l2)
    · subst e
      rw [List.getElem?_map] at hx
      obtain ⟨z, hz, rfl⟩ := Option.map_eq_some_iff.mp hx
      refine ⟨rfl, ?_⟩
      refine ⟨_, rfl, z, rfl, _, upd_same, by rw [List.length_map, List.length_take, sizeLine_eq]; have := cc.dfew; omega, ?_⟩
      rw [upd_upd, List.take_add_one, hz, List.map_append]
      rfl
    · subst e
      rw [List.length_map, List.take_length]
      have s1 : Same H (upd H d1 (.lst (dr.map V.str))) := same_upd n1
      have m1 : Mv p (TbR Pt) H (upd H d1 (.lst (dr.map V.str))) := .same s1 cc.pool cc.tabs
      have c1 := cc.mv m1
      refine ⟨d1, dr, rfl, .inl (SqL.of upd_same), by have := cc.dfew; omega, fun ys a3 y1 y2 y3 y4 n3 => ?_⟩
      have s2 := same_upd (o := .lst (ys.map V.str)) n3
      have m2 : Mv p (TbR Pt) H (upd (upd H d1 (.lst (dr.map V.str))) a3 (.lst (ys.map V.str))) := m1.trans (.same s2 c1.pool c1.tabs)
      have c2 := cc.mv m2
      refine ⟨_, rfl, a2, _, rfl, c2.l2, by rw [List.length_map]; exact c2.dfew, mk_read (fun z hz => (cc.tg z (cc.sub z hz)).nm) (by have := cc.dfew; omega) y1 y2 y3 fun b H3 nb s3 MA => ?_⟩
      have m3 : Mv p (TbR Pt) H H3 := m2.trans (.same s3 c2.pool c2.tabs)
      have c3 := cc.mv m3
      refine ⟨(by show 2 ≤ sizeLine; decide), fun t nt => ?_⟩
      have s4 : Same H3 (upd H3 t (.tup [.ref a3, .ref b])) := same_upd nt
      have m4 : Mv p (TbR Pt) H (upd H3 t (.tup [.ref a3, .ref b])) := m3.trans (.same s4 c3.pool c3.tabs)
      have c4 := cc.mv m4
      refine ⟨t, _, rfl, SqT.of upd_same, rfl, _, _, rfl, _, _, rfl, rfl, ?_⟩
      exact ⟨a1, a2, a3, b, T, dr, ys, _, _, _, _, _, _, _, _, _, _, rfl, ⟨c4.pool, c4.tabs, c4.l1, c4.l2, s4 _ _ (s3 _ _ upd_same), MA.same s4, cc.tg, cc.tne, cc.tfew, cc.sub, cc.dfew, y3, by have := cc.dfew; omega⟩, fin.mv m4⟩
  exact ht.run pins s' σ H D I hq
end
end K1
namespace K1
open PySem PySem.Spec
open PyProof.Rows L2 EnT StX SmX TxS DuX XdI Tr3 CnB ClX
def rLenS (K : PySem.W.Frag) : List V → Hp → VK → Prop := fun xs H Q => ∃ (a : Addr) (zs : List V), xs = [.ref a] ∧ (SqL K H a zs ∨ SqT K H a zs) ∧ Q (.int (zs.length : Nat)) H
theorem call_lenS {X : Cx} : CallR X (.builtin "len") (rLenS X.K) := call_len_seq
section
variable {w : World} {P : Program} {base : Heap} {mg : Str → Option Value} {K : PySem.W.Frag} {C CN CT S1 S2 S3 : Addr} {mc : Value}
variable {f c Pt : Addr} {A : Around} {outer : List Env} {s : Shared} {H0 : Hp} {p : Addr}
structure Pre1 (p : Addr) (Tb : List (Addr × Str)) (a1 : Addr) (T : List Str) (H : Hp) : Prop where
  pool : PoolAt H p
  tabs : LamX.Tabs Tb H
  l1 : H a1 = some (.lst (T.map V.str))
  tg : ∀ z ∈ T, Tg z
  tne : T ≠ []
  tfew : T.length ≤ 3
theorem Pre1.mv {p a1 : Addr} {Tb : List (Addr × Str)} {T : List Str} {H H' : Hp} (c : Pre1 p Tb a1 T H) (m : Mv p Tb H H') : Pre1 p Tb a1 T H' :=
  ⟨m.rx.pool, m.tabs, m.strs c.pool c.l1, c.tg, c.tne, c.tfew⟩
structure At1 (p Pt : Addr) (σ : L2.St) (H : Hp) (D : Ends) : Prop where
  ex : ∃ (a1 : Addr) (T : List Str) (x2 x3 x4 x5 x6 x7 x8 x9 x10 x11 x12 x13 x14 : Option V), σ = [some (.ref p), some (.ref a1), x2, x3, x4, x5, x6, x7, x8, x9, x10, x11, x12, x13, x14] ∧
    Pre1 p (TbR Pt) a1 T H ∧ Fin p (TbR Pt) H D
theorem seg1 (W : Wd P w K mg base C CN CT S1 S2 S3 mc) (AK : Asks K mg base c Pt) (hgd : A.guards = some []) (hr : Room 8 (A.deeper (envOfC "_law_right" (defScope sRight) s.heap.objs.size f (.ref c)))) : PSs (cxR P w K mg base f (.ref c) A outer s H0) (rest 1) (fun D σ H => At1 p Pt σ H D) := by
  refine ⟨fun pins s' σ H D I h => ?_⟩
  obtain ⟨a1, T, x2, x3, x4, x5, x6, x7, x8, x9, x10, x11, x12, x13, x14, eσ, cc, fin⟩ := h.ex
  obtain ⟨fD, hD⟩ := W.draw
  obtain ⟨t, ht, hq⟩ : ∃ t, PSs (cxR P w K mg base f (.ref c) A outer s H0) (rest 1) t ∧ t D σ H := by
    refine ⟨_, pss_cons (ps_setLc (i := 2) (own := [("_law_k", 12)]) (g := gName 12) (tt := tYes) (te := tOp (rIxL K) (tVar 1) (tCall spDraw [] E0 (tCons (tVar 0) (tCons (tCB (rLenS K) (tCons (tVar 1) tNil)) tNil)))) rfl scRight.nd rfl rfl (sw_true rfl rfl rfl (by decide +kernel))
          (pi_range1 rfl W.T.range (pa_cons (pe_has hD (hr.mono (by decide)) (by rfl) pass0 (pa_cons (pv 0) (pa_cons pe_int pa_nil))) pa_nil))
          (blkOk_by (own := [("_law_k", 12)]) (N := nmRight) (sc := defScope sRight) (by decide +kernel)) (fun _ _ _ _ _ => pg_name (i := 12) scRight.nd rfl (Or.inl rfl)) (fun _ _ _ _ _ => pts_nil)
          (fun _ _ _ _ _ => pe_ix ix_list (pv 1) (pe_has (x := "_law_draw") (sp := spDraw) hD (hr.mono (by decide)) (by rfl) pass0 (pa_cons (pv 0) (pa_cons (pe_callB call_lenS (by rfl) W.T.len PySem.boot_len (pa_cons (pv 1) pa_nil)) pa_nil))) (fun _ _ => rfl)))
      (seg2 (p := p) W AK hgd hr), ?_⟩
    subst eσ
    refine ⟨_, rfl, p, 5, rfl, cc.pool, by decide, by decide, fun d H1 e1 d0 d1 => ?_⟩
    have m1 : Mv p (TbR Pt) H H1 := .ext e1 cc.pool cc.tabs
    have c1 := cc.mv m1
    obtain ⟨n, rfl⟩ := Int.eq_ofNat_of_zero_le d0
    refine ⟨n, rfl, by omega, by omega, fun L nL => ?_⟩
    have nLp : L ≠ p := c1.pool.ne nL
    refine lc_range (lo := 0) (n := ((n : Nat) : Int).toNat) (fun i H' => Mv p (TbR Pt) H1 H' ∧ ∃ dr : List Str, H' L = some (.lst (dr.map V.str)) ∧ dr.length = i ∧ ∀ z ∈ dr, z ∈ T) ?_ ?_ ?_
    · exact ⟨.same (same_upd nL) c1.pool c1.tabs, [], upd_same, rfl, fun z hz => by cases hz⟩
    · rintro i H' hi ⟨mm, dr, hL, hl, hs⟩
      have c2 := c1.mv mm
      refine ⟨rfl, ?_⟩
      have tn : 0 < T.length := List.length_pos_iff.mpr cc.tne
      refine ⟨_, rfl, _, rfl, _, rfl, a1, _, rfl, .inl (SqL.of c2.l1), p, _, rfl, c2.pool, by rw [List.length_map]; omega, by rw [List.length_map]; have := cc.tfew; omega, fun e H3 x3 e0 e1 => ?_⟩
      have m3 : Mv p (TbR Pt) H' H3 := .ext x3 c2.pool c2.tabs
      have c3 := c2.mv m3
      rw [List.length_map] at e1
      obtain ⟨j, rfl⟩ := Int.eq_ofNat_of_zero_le e0
      have hj : j < T.length := by omega
      refine ⟨a1, _, _, .str T[j], rfl, rfl, SqL.of c3.l1, atI_nat (by rw [List.getElem?_map, List.getElem?_eq_getElem hj]; rfl), ?_⟩
      have hL3 := m3.strs c2.pool hL
      refine ⟨_, hL3, by rw [List.length_map, hl, sizeLine_eq]; omega, ?_⟩
      refine ⟨⟨⟨?_, fun b o nb hb nt => ?_⟩, tabs_upd hL3 c3.tabs⟩, dr ++ [T[j]], by rw [upd_same, List.map_append]; rfl, by rw [List.length_append, hl]; rfl, fun z hz => ?_⟩
      · obtain ⟨x, y, z, hz⟩ := c3.pool
        exact ⟨x, y, z, by rw [upd_ne (Ne.symm nLp)]; exact hz⟩
      · rw [upd_ne (ne_of_none hb nL)]
        exact (mm.trans m3).rx.keep b o nb hb nt
      · rcases List.mem_append.mp hz with h | h
        · exact hs z h
        · rw [List.mem_singleton.mp h]
          exact List.getElem_mem hj
    · rintro H2 ⟨mm, dr, hL, hl, hs⟩
      have m2 := m1.trans mm
      have c2 := cc.mv m2
      exact ⟨a1, L, T, dr, _, _, _, _, _, _, _, _, _, _, _, _, rfl, ⟨c2.pool, c2.tabs, c2.l1, hL, cc.tg, cc.tne, cc.tfew, hs, by omega⟩, fin.mv m2⟩
  exact ht.run pins s' σ H D I hq
end
end K1
namespace K1
open PySem PySem.Spec
open PyProof.Rows L2 EnT StX SmX TxS DuX XdI Tr3 CnB ClX
section
variable {w : World} {P : Program} {base : Heap} {mg : Str → Option Value} {K : PySem.W.Frag} {C CN CT S1 S2 S3 : Addr} {mc : Value}
variable {f c Pt : Addr} {A : Around} {outer : List Env} {s : Shared} {H0 : Hp} {p : Addr}
structure At0 (p Pt : Addr) (σ : L2.St) (H : Hp) (D : Ends) : Prop where
  eσ : σ = [some (.ref p), none, none, none, none, none, none, none, none, none, none, none, none, none, none]
  pool : PoolAt H p
  tabs : LamX.Tabs (TbR Pt) H
  fin : Fin p (TbR Pt) H D
theorem seg0 (W : Wd P w K mg base C CN CT S1 S2 S3 mc) (AK : Asks K mg base c Pt) (hgd : A.guards = some []) (hr : Room 8 (A.deeper (envOfC "_law_right" (defScope sRight) s.heap.objs.size f (.ref c)))) : PSs (cxR P w K mg base f (.ref c) A outer s H0) (rest 0) (fun D σ H => At0 p Pt σ H D) := by
  refine ⟨fun pins s' σ H D I h => ?_⟩
  obtain ⟨eσ, hp, hT, fin⟩ := h
  obtain ⟨fD, hD⟩ := W.draw
  obtain ⟨fN, hN⟩ := W.names
  obtain ⟨t, ht, hq⟩ : ∃ t, PSs (cxR P w K mg base f (.ref c) A outer s H0) (rest 0) t ∧ t D σ H := by
    refine ⟨_, pss_cons (ps_set (i := 1) scRight.nd rfl (.inr rfl) (pe_op op_cat (pe_has hN (hr.mono (by decide)) (by rfl) pass0 (pa_cons (pv 0) (pa_cons (pe_has hD (hr.mono (by decide)) (by rfl) pass0 (pa_cons (pv 0) (pa_cons pe_int pa_nil))) pa_nil)))
        (pe_lst (pa_cons (pe_op op_add_str pe_str (pe_callTy call_str_int (by rfl) W.T.str (by decide +kernel) (pa_cons (pe_has hD (hr.mono (by decide)) (by rfl) pass0 (pa_cons (pv 0) (pa_cons pe_int pa_nil))) pa_nil))) pa_nil))))
      (seg1 (p := p) W AK hgd hr), ?_⟩
    subst eσ
    refine ⟨_, rfl, _, rfl, p, 3, rfl, hp, by decide, by decide, fun d H1 x1 d0 d1 => ?_⟩
    have m1 : Mv p (TbR Pt) H H1 := .ext x1 hp hT
    obtain ⟨n, rfl⟩ := Int.eq_ofNat_of_zero_le d0
    refine ⟨p, n, rfl, m1.rx.pool, by omega, fun q zs H2 x2 nq hq hl ht => ?_⟩
    have m2 : Mv p (TbR Pt) H H2 := m1.trans (.ext x2 m1.rx.pool m1.tabs)
    refine ⟨_, rfl, p, 10, rfl, m2.rx.pool, by decide, by decide, fun e H3 x3 e0 e1 => ?_⟩
    have m3 : Mv p (TbR Pt) H H3 := m2.trans (.ext x3 m2.rx.pool m2.tabs)
    have hq3 : H3 q = some (.lst (zs.map V.str)) := (Mv.ext x3 m2.rx.pool m2.tabs).strs m2.rx.pool hq
    refine ⟨e, rfl, RpD.log_small ⟨e0, by omega⟩, _, _, rfl, rfl, ?_, ?_⟩
    · have z := RpD.shown_int (i := e) ⟨e0, by omega⟩
      have z2 : (Str.ofString "abcdefg").length = 7 := by decide +kernel
      rw [z2, sizeLine_eq]
      omega
    · have tz := eight_tg e0 e1
      generalize (Str.ofString "abcdefg" ++ (toString e : Str)) = zE at tz ⊢
      refine ⟨(by show 1 ≤ sizeLine; decide), fun q2 n2 => ?_⟩
      have s4 : Same H3 (upd H3 q2 (.lst [.str zE])) := same_upd n2
      have m4 : Mv p (TbR Pt) H (upd H3 q2 (.lst [.str zE])) := m3.trans (.same s4 m3.rx.pool m3.tabs)
      refine ⟨q, q2, _, _, rfl, rfl, s4 _ _ hq3, upd_same, by rw [List.length_map, hl, sizeLine_eq]; show n + 1 ≤ _; omega, fun q3 n3 => ?_⟩
      have eL : zs.map V.str ++ [V.str zE] = (zs ++ [zE]).map V.str := by rw [List.map_append]; rfl
      rw [eL]
      have s5 := same_upd (o := .lst ((zs ++ [zE]).map V.str)) n3
      have m5 : Mv p (TbR Pt) H (upd (upd H3 q2 (.lst [.str zE])) q3 (.lst ((zs ++ [zE]).map V.str))) := m4.trans (.same s5 m4.rx.pool m4.tabs)
      refine ⟨q3, zs ++ [zE], _, _, _, _, _, _, _, _, _, _, _, _, _, rfl, ⟨m5.rx.pool, m5.tabs, upd_same, fun z hz => ?_, by simp, by rw [List.length_append, hl]; show n + 1 ≤ 3; omega⟩, fin.mv m5⟩
      rcases List.mem_append.mp hz with h | h
      · exact tag_tg (ht z h)
      · rw [List.mem_singleton.mp h]
        exact tz
  exact ht.run pins s' σ H D I hq
/-! ### the def -/
def spRight (Pt : Addr) : Sp := fun vs H Q _ => ∃ p, vs = [.ref p] ∧ PoolAt H p ∧ LamX.Tabs (TbR Pt) H ∧ ∀ H', Mv p (TbR Pt) H H' → Q (.bl true) H'
/-- a promise where no text is being made around -/
def FnG (P : Program) (w : World) (K : PySem.W.Frag) (mg : Str → Option Value) (base : Heap) (CX : CXT) (k : Nat) (f : Addr) (sp : Sp) : Prop :=
  ∀ (A : Around) (outer : List Env) (s : Shared) (H : Hp) (us : List Value) (vs : List V) (Q : VK) (E : XK), A.guards = some [] → Room k A → Env0 P w K mg base A outer s H → Vals vs us → sp vs H Q E →
    codeAny (model P w) A (.call (.ref
        f) ⟨us, []⟩) (CR CX outer P w H s Q E) s
/-- the def of the law's right, its code object at c -/
structure FunC (K : PySem.W.Frag) (x qual : Str) (st : Stmt) (f c : Addr) : Prop where
  ex : ∃ (oc : Value) (od : Option Addr) (kV doc pm : Value) (an : Option Addr) (ct : Value) (osl : Array (Option Value)), K.lookup f = some ⟨oc, od, .func (PySem.W.fnOf x qual (defArgs st) (defBody st) (defScope st) .none kV doc pm an (.ref c) ct), osl⟩ ∧ PySem.W.codeIn K (.ref c) qual = true
theorem ok_right (W : Wd P w K mg base C CN CT S1 S2 S3 mc) (AK : Asks K mg base c Pt) (FR : FunC K "_law_right" "_law_right" sRight f c) : FnG P w K mg base CX0 9 f (spRight Pt) := by
  intro A outer s H us vs Q E hgd hr e0 r h
  obtain ⟨p, rfl, hp, hT, q⟩ := h
  obtain ⟨oc, od, kV, doc, pm, an, ct, osl, lk, hcd⟩ := FR.ex
  refine LamX.run_ofS (N := nmRight) (ps := ["_law_pool_here"]) (us := us) (vs := [.ref p]) lk hcd scRight hr e0 ?_ r rfl fun hr' => ⟨_, (seg0 (p := p) (Pt := Pt) W AK hgd hr').nox, ?_⟩
  · have b : L2.Binds K (PySem.W.fnOf "_law_right" "_law_right" (defArgs sRight) (defBody sRight) (defScope sRight) .none kV doc pm an (.ref c) ct) ["_law_pool_here"] [] := .all fun us hl => match us, hl with | [_], _ => rfl
    have hl : us.length = 1 := by rw [← r.length]; rfl
    have z := b s us (e0.mod.kin.keeps fun b o e => (e0.bs b o e).1) (by rw [List.append_nil]; exact hl)
    rw [List.append_nil] at z
    exact z
  · exact ⟨rfl, hp, hT, fun H' m => q H' m⟩
end
end K1
namespace K1
open PySem PySem.Spec
open PyProof.Rows L2 EnT StX SmX TxS DuX XdI Tr3 CnB ClX
section
variable {X : Cx} {k : Nat} {x : Str} {f : Addr} {sp : Sp}
/-- x(e, ..), where no text is being made around -/
theorem pe_callG {e : Expr} {es : List Expr} {t : TA} {p pos : Pos} (F : FnG X.prog X.w X.K X.mg X.base CX0 k f sp) (hgd : X.A.guards = some []) (hr : Room k X.A) (hg : Gl X x) (hm : X.mg x = some (.ref f)) (hk : PySem.W.keepIn X.K (.ref f) = true) (ha : PA X (e :: es) t)
    (hd : (x == ("__debug__" : Str)) = false := by decide) (hst : starEach (e :: es) X.env = (false, eval e X.env) :: starEach es X.env := by rfl) (hpl : (backTo pos (starEach es X.env)).any (·.1) = false := by rfl) :
    PE X (.Call (.Name x p) (e :: es) [] pos) (tCall sp [] E0 t) := by
  refine ⟨fun pins
      s σ H Q I h => ?_⟩
  refine wpAny_Call_Name_kw
      (ld_glob I hg hm ?_ hd)
  refine PySem.W.callWith_K (h₀ := X.base) I.ok.mod.kin hk (thn (ha.run pos pins s σ H _ I h) fun us s1 ⟨vs, H1, I1, rv, q⟩ => ⟨I1.kIn, ?_⟩) hst hpl
  have q : sp vs H1 Q E0 := by
    have q : sp (vs ++ []) H1 Q E0 := q
    rw [List.append_nil] at q
    exact q
  refine wpAny_call (codeAny_mono (F X.A X.stack s1 H1 us vs Q E0 hgd hr I1.env0 rv q) fun r s' hq => ?_)
  cases r with
  | error e => exact hq.elim
  | ok fl =>
    cases fl with
    | ret u => exact I1.after hq
    | next => exact False.elim hq
    | brk => exact False.elim hq
    | cont => exact False.elim hq
end
abbrev nmLaw : List Str := ["_law_cells", "_law_k"]
theorem scLaw : FnScope nmLaw ["_law_cells"] (defScope sLaw) := ⟨rfl, rfl, rfl, by decide +kernel, rfl, by decide +kernel, by decide +kernel⟩
/-- the law's promise: it tells True -/
def spLaw (K : PySem.W.Frag) (Pt : Addr) : Sp := fun vs H Q _ => ∃ (a : Addr) (ns : List Int), vs = [.ref a] ∧ SqL K H a (ns.map V.int) ∧ ns.length < 2 ^ 60 ∧ LamX.Tabs (TbR Pt) H ∧ ∀ H', Q (.bl true) H'
/-- all but the tables stays -/
structure LX (Pt : Addr) (H H' : Hp) : Prop where
  keep : ∀ b o, H b = some o → (∀ ps, o ≠ .tbl ps) → H' b = some o
  tabs : LamX.Tabs (TbR Pt) H'
theorem LX.seq {K : PySem.W.Frag} {Pt a : Addr} {H H' : Hp} {xs : List V} (x : LX Pt H H') (h : SqL K H a xs) : SqL K H' a xs := by
  rcases h with h | h
  · rcases h with h | ⟨o, h⟩
    · exact .inl (.inl (x.keep _ _ h (fun _ e => by cases e)))
    · exact .inl (.inr ⟨o, x.keep _ _ h (fun _ e => by cases e)⟩)
  · exact .inr h
section
variable {w : World} {P : Program} {base : Heap} {mg : Str → Option Value} {K : PySem.W.Frag} {C CN CT S1 S2 S3 : Addr} {mc : Value}
variable {fL fR c Pt : Addr}
/-- what the law itself calls -/
structure Top (P : Program) (w : World) (K : PySem.W.Frag) (mg : Str → Option Value) (base : Heap) (Pt : Addr) : Prop where
  cell : ∃ f, Has P w K mg base CX0 1 "_law_cell" f ["_law_cells", "_law_k"] (spCell K)
  pool : ∃ f, Has P w K mg base CX0 1 "_law_pool" f ["_law_cell_here"] spPool
  right : ∃ f, mg "_law_right" = some (.ref f) ∧ PySem.W.keepIn K (.ref f) = true ∧ FnG P w K mg base CX0 9 f (spRight Pt)
theorem ok_law (T : Free mg) (TP : Top P w K mg base Pt) {cL : Addr} (FL : FunC K "law" "law" sLaw fL cL) : FnG P w K mg base CX0 10 fL (spLaw K Pt) := by
  intro A outer s H us vs Q E hgd hr e0 r h
  obtain ⟨a, ns, rfl, hS, hlen, hT, q⟩ := h
  obtain ⟨oc, od, kV, doc, pm, an, ct, osl, lk, hcd⟩ := FL.ex
  obtain ⟨fC, hC⟩ := TP.cell
  obtain ⟨fP, hP⟩ := TP.pool
  obtain ⟨fR, mgR, kpR, GR⟩ := TP.right
  have body : ∀ hr' : Room 9 (A.deeper (envOfC "law" (defScope sLaw) s.heap.objs.size fL (.ref cL))), ∃ t, PSs (cxOf CX0 P w K mg base nmLaw "law" (defScope sLaw) fL (.ref cL) A outer s H E).nox (defBody sLaw) t ∧ t { nx := fun _ H' => Q .non H', rt := Q } (L2.start nmLaw [.ref a]) H := fun hr' => by
    refine ⟨_, pss_one (ps_ret (pe_callB (cr_all rfl) (by rfl) T.all (by decide +kernel) (pa_cons (pe_lc (own := [("_law_k", 1)]) (g := gName 1) (tt := tYes) (te := tCall (spRight Pt) [] E0 (tCons (tCall spPool [] E0 (tCons (tCall (spCell K) [] E0 (tCons (tVar 0) (tCons (tVar 1) tNil))) tNil)) tNil)) rfl scLaw.nd
        (pi_range1 rfl T.range (pa_cons (pe_callB (call_max2 rfl) (by rfl) T.max (by decide +kernel) (pa_cons pe_int (pa_cons (pe_callB (call_min2 rfl) (by rfl) T.min (by decide +kernel) (pa_cons (pe_callB call_len_seq (by rfl) T.len PySem.boot_len (pa_cons (pv 0) pa_nil)) (pa_cons pe_int pa_nil))) pa_nil))) pa_nil))
        (blkOk_by (own := [("_law_k", 1)]) (N := nmLaw) (sc := defScope sLaw) (by decide +kernel)) (fun _ _ _ _ _ => pg_name (i := 1) scLaw.nd rfl (Or.inl rfl)) (fun _ _ _ _ _ => pts_nil)
        (fun _ _ _ _ _ => pe_callG (x := "_law_right") GR (by exact hgd) hr' (by rfl) mgR kpR (pa_cons (pe_has (x := "_law_pool") (sp := spPool) hP (hr'.mono (by decide)) (by rfl) pass0 (pa_cons (pe_has (x := "_law_cell") (sp := spCell K) hC (hr'.mono (by decide)) (by rfl) pass0 (pa_cons (pv 0) (pa_cons (pv 1) pa_nil))) pa_nil)) pa_nil))) pa_nil))), ?_⟩
    refine ⟨_, rfl, a, _, rfl, .inl hS, _, _, rfl, ?_⟩
    rw [List.length_map]
    generalize eN : (if (6 : Int) < ((ns.length : Nat) : Int) then (6 : Int) else ((ns.length : Nat) : Int)) = n6
    have b6 : n6 ≤ 6 := by
      rw [← eN]
      split <;> omega
    refine ⟨_, _, rfl, ?_⟩
    generalize eM : (if n6 > (2 : Int) then n6 else (2 : Int)) = m
    have m0 : 0 ≤ m ∧ m ≤ 6 := by
      rw [← eM]
      split <;> omega
    obtain ⟨n, rfl⟩ := Int.eq_ofNat_of_zero_le m0.1
    refine ⟨n, rfl, by omega, by omega, fun L nL => ?_⟩
    refine lc_range (lo := 0) (n := ((n : Nat) : Int).toNat) (fun i H' => LX Pt H H' ∧ H' L = some (.lst ((List.replicate i true).map V.bl))) ?_ ?_ ?_
    · exact ⟨⟨fun b o e _ => (same_upd nL) b o e, hT.ext (same_upd nL)⟩, upd_same⟩
    · rintro i H' hi ⟨x, hL⟩
      refine ⟨rfl, ?_⟩
      refine ⟨_, rfl, _, rfl, a, ns, i, (by rw [Int.zero_add]; rfl), x.seq hS, fun z => ?_⟩
      refine ⟨z, rfl, fun p np d1 d2 d3 => ?_⟩
      have s1 : Same H' (upd H' p (.lst [.int d1, .int d2, .int d3])) := same_upd np
      refine ⟨p, rfl, ⟨d1, d2, d3, upd_same⟩, x.tabs.ext s1, fun H2 m2 => ?_⟩
      have hL2 : H2 L = some (.lst ((List.replicate i true).map V.bl)) := m2.rx.keep _ _ (fun e => by rw [e, np] at hL; cases hL) (s1 _ _ hL) (fun _ e => by cases e)
      refine ⟨_, hL2, by rw [List.length_map, List.length_replicate, sizeLine_eq]; omega, ?_⟩
      refine ⟨⟨fun b o e nt => ?_, tabs_upd hL2 m2.tabs⟩, by rw [upd_same, List.replicate_succ', List.map_append]; rfl⟩
      have hb := x.keep b o e nt
      rw [upd_ne (fun z => by rw [z, nL] at e; cases e)]
      exact m2.rx.keep b o (fun z => by rw [z, np] at hb; cases hb) (s1 _ _ hb) nt
    · rintro H2 ⟨x, hL⟩
      refine ⟨L, _, rfl, SqL.of hL, ?_⟩
      have e3 : (List.replicate (((n : Nat) : Int).toNat) true).all id = true := by
        rw [List.all_eq_true]
        intro b hb
        rw [List.eq_of_mem_replicate hb]
        rfl
      rw [e3]
      exact q H2
  refine LamX.run_ofS (N := nmLaw) (ps := ["_law_cells"]) (us := us) (vs := [.ref a]) lk hcd scLaw hr e0 ?_ r rfl fun hr' => ?_
  · have b : L2.Binds K (PySem.W.fnOf "law" "law" (defArgs sLaw) (defBody sLaw) (defScope sLaw) .none kV doc pm an (.ref cL) ct) ["_law_cells"] [] := .all fun us hl => match us, hl with | [_], _ => rfl
    have hl : us.length = 1 := by rw [← r.length]; rfl
    have z := b s us (e0.mod.kin.keeps fun b o e => (e0.bs b o e).1) (by rw [List.append_nil]; exact hl)
    rw [List.append_nil] at z
    exact z
  · obtain ⟨t, ht, hq⟩ := body hr'
    exact ⟨t, ht.nox, hq⟩
end
end K1
set_option maxHeartbeats
    2000000
/-! the end, for a law that makes texts of what it holds -/
namespace EnG
open PySem PySem.Spec
open PyProof.Rows L2 LamX
theorem call_tabs {P : Program} {w : World} {K : PySem.W.Frag} {mg mb : Str → Option Value} {k : Nat} {fa a : Addr} {cs : List (Addr × Addr)} {sp : Sp} {s₁ : Shared} {vs : List Value} {ns : List Int}
    (kInS : K.In s₁.heap) (nsG : s₁.heap.Ns mainGlobals mg) (nsB : s₁.heap.Ns builtinsNs mb) (bltB : ∀ x : Str, x ≠ "__name__" → mb x = bootBuiltins x) (noLim : s₁.heap.NoLimit) (gen0 : s₁.gens = #[])
    (tabE : ∀ p ∈ cs, s₁.heap.get? p.2 = some { cls := .none, data := .fields #[] }) (tabN : ∀ p ∈ cs, K.lookup p.2 = none) (C : ∀ p ∈ cs, PySem.W.CodeHd s₁.heap p.1 p.2)
    (modB : ∃ (bm : Addr) (ob : Obj), mg "__builtins__" = some (.ref bm) ∧ bm ≠ builtinsNs ∧ s₁.heap.get? bm = some ob ∧ ob.cls = .type "module" ∧ ob.dict = some builtinsNs ∧ ob.data = .plain)
    (lstA : s₁.heap.get? a = some { cls := .type "list", data := .seq vs.toArray }) (intA : IntsAre vs ns) (lenA : ns.length ≤ sizeLine) (roomA : Room k callerA)
    (F : ∀ base : Heap, K.In base → base.Ns mainGlobals mg → (∀ p ∈ cs, TabB base mg p.1 p.2) → K1.FnG P w K mg base CX0 k fa sp)
    (askS : ∀ H : Hp, (∀ p ∈ cs, H p.2 = some (.tbl #[])) → SqL K H a (ns.map V.int) → sp [.ref a] H (fun v _ => v = .bl true) fun _ _ _ => False) :
    codeAny (model P w) callerA (.call (.ref fa) ⟨[.ref a], []⟩) (fun r s' => r
        = .ok (.ret (.bool true)) ∧ OldK s₁.heap s'.heap ∧ s'.os = s₁.os ∧ AllBare s'.gens) s₁ := by
  have relA := vals_ints intA
  have lenI := intA.length
  have isTab : ∀ b : Addr, b ∈ cs.map (·.2) → s₁.heap.get? b = some { cls := .none, data := .fields #[] } := fun b nsB => by
    obtain ⟨p, hp, e⟩ := List.mem_map.mp nsB
    rw [← e]
    exact tabE p hp
  have aNot : a ∉ cs.map (·.2) := fun z => by
    have q := isTab a z
    rw [lstA] at q
    have z' : Data.seq vs.toArray _ = Data.fields
        #[] := congrArg Obj.data (Option.some.inj q)
    cases z'
  have memTab : ∀ p ∈ cs, p.2 ∈ cs.map (·.2) := fun p hp => List.mem_map.mpr ⟨p, hp, rfl⟩
  have coreH : ∀ H : Hp, (∀ p ∈ cs, H p.2 = some (.tbl #[])) → (∀ b, H b = none ∨ b ∈ cs.map (·.2) ∨ ∃ o xs, H b = some (.frz o (.lst xs))) → SqL K H a (ns.map V.int) → HOk P w H s₁.heap → (∀ b, H b ≠ none → b = a ∨ b ∈ cs.map (·.2)) → (H a ≠ none → K.lookup a = none) →
      codeAny (model P w) callerA (.call (.ref fa) ⟨[.ref a], []⟩) (fun r s' => r
          = .ok (.ret (.bool true)) ∧ OldK s₁.heap s'.heap ∧ s'.os = s₁.os ∧ AllBare s'.gens) s₁ := by
    intro H tabH onlyH seqH okH hasH keyH
    have baseOf : ∀ {b : Addr} {o : Obj}, s₁.heap.get? b = some o → H b = none → (hidT s₁.heap H).get? b = some o := fun e n => hidT_get e n
    have noDat : ∀ {b : Addr} {o : Obj}, s₁.heap.get? b = some o → (∀ vs n, o.data ≠ .seq vs n) → o.data ≠ .fields #[] → H b = none := fun {b o} e h1 h2 => by
      cases q : H b with
      | none => rfl
      | some u =>
        rcases hasH b (by rw [q]; simp) with e' | e'
        · rw [e', lstA] at e
          cases e
          exact (h1 _ _ rfl).elim
        · rw [isTab b e'] at e
          cases e
          exact (h2 rfl).elim
    have noDic : ∀ {b : Addr} {o : Obj} {es : Array DictEntry} {ep : Nat}, s₁.heap.get? b = some o → o.data = .dict es ep → H b = none := fun {b o es ep} e d => by
      refine noDat e (fun vs n z => ?_) fun z => ?_
      · rw [d] at z
        cases z
      · rw [d] at z
        cases z
    have nsKeep : ∀ {b : Addr} {m : Str → Option Value}, s₁.heap.Ns b m → (hidT s₁.heap H).Ns b m := fun {b m} ⟨o, es, ep, e, d, r⟩ => ⟨o, es, ep, baseOf e (noDic e d), d, r⟩
    have kInB : K.In (hidT s₁.heap H) := fun b o e => baseOf (kInS b o e) (by
      cases q : H b with
      | none => rfl
      | some u =>
        rcases hasH b (by rw [q]; simp) with e' | e'
        · rw [e'] at e q
          rw [keyH (by rw [q]; simp)] at e
          cases e
        · obtain ⟨p, hp, ep⟩
              := List.mem_map.mp e'
          rw [← ep, tabN p hp] at e
          cases e)
    have modM : L2.Mod K mg (hidT s₁.heap H) := ⟨kInB, nsKeep nsG, ⟨mb, nsKeep nsB, bltB⟩, let ⟨mc, h1, h2⟩ := noLim; ⟨mc, nsKeep h1, h2⟩⟩
    have tabB : ∀ p ∈ cs, TabB (hidT s₁.heap H) mg p.1 p.2 := fun p hp => by
      have hTp := tabE p hp
      refine ⟨?_, ?_, fun z => ?_⟩
      · obtain ⟨o, us, file, tf, flags, tg, inF, text,
            tt, e1, r1, r2, r3, r4, r5, r6, r7, r8, hne⟩ := C p hp
        refine ⟨o, us, file, tf, flags, tg, inF, text, tt, baseOf e1 (noDat e1 (fun vs n z => ?_) fun z => ?_), r1, r2, r3, r4, r5, r6, r7, r8, hne⟩
        · rw [r2] at z
          cases z
        · rw [r2] at z
          cases z
          simp at r3
      · obtain ⟨bm, ob, b1, b2, b3, b4, b5, b6⟩ := modB
        have nG : bm ≠ mainGlobals
            := fun q => by
          obtain ⟨o, es, ep, e, hd, _⟩ := nsG
          rw [q, e] at b3
          cases b3
          rw [hd] at b6
          cases b6
        have nP : bm ≠
            p.2 := fun q => by
          rw [q, hTp] at b3
          cases b3
          cases b6
        refine ⟨bm, ob, b1, b2, nG, nP, baseOf b3 (noDat b3 (fun vs n z => ?_) fun z => ?_), b4, b5, b6⟩
        · rw [b6] at z
          cases z
        · rw [b6] at z
          cases z
      · obtain ⟨o, es, ep, e, hd, _⟩ := nsG
        rw [z, hTp] at e
        cases e
        cases hd
    have env0 : Env0 P w K mg (hidT s₁.heap H) callerA [] s₁ H := ⟨rfl, modM, fun b o e => of_hidT e, Nat.le_of_eq (hidT_size _ _), trivial, fun b nsB => absurd (show b ∈ ([] : List Addr) from nsB) (by simp), okH, .of_eq gen0⟩
    refine codeAny_mono (F _ kInB (nsKeep nsG) tabB callerA [] s₁ H [.ref a] [.ref a] _ _ rfl roomA env0 (.cons rfl .nil) (askS H tabH seqH)) fun r s' h => ?_
    cases r with
    | error e => exact (show False from h).elim
    | ok fl =>
      cases fl with
      | next => exact False.elim h
      | brk => exact False.elim h
      | cont => exact False.elim h
      | ret u =>
        obtain ⟨v, H', osA, barA, unA, hok', r', q⟩ := h
        have q' : v = .bl true := q
        subst q'
        obtain rfl : u = Value.bool
            true := r'
        have keyB : ∀ b o, b ∉ cs.map (·.2) → s₁.heap.get? b = some o → s'.heap.get? b = some o := fun b o nb e => by
          cases q : H b with
          | none => exact unA.keep b o e q (by intro z; exact absurd (show b ∈ ([] : List Addr) from z) (by simp)) (by simp)
          | some u =>
            rcases onlyH b with z | z | ⟨ob, xs, z⟩
            · rw [q] at z; cases z
            · exact absurd z nb
            · have z2 := unA.frzs b ob _ z
              obtain ⟨e1, _⟩ := okH b _ z
              obtain ⟨e2, _⟩ := hok' b _ z2
              rw [e] at e1; cases e1
              exact e2
        have grewT : ∀ p ∈ cs, ∃ more : Array Value, s'.heap.get? p.2 = some { cls := .none, data := .fields more } := fun p hp => by
          obtain ⟨more, z⟩ := unA.tbls p.2 #[] (tabH p hp)
          exact ⟨_, hok' p.2 _ z⟩
        refine ⟨rfl, ⟨fun b o e => ?_, fun b o e => ?_⟩, osA, barA⟩
        · by_cases nsB : b ∈ cs.map (·.2)
          · obtain ⟨p, hp, ep⟩ := List.mem_map.mp nsB
            obtain ⟨more, hm⟩ := grewT p hp
            rw [← ep] at e ⊢
            rw [tabE p hp] at e
            cases e
            exact .inr (.inl ⟨((C p hp).tab (tabE p hp)).isCodeTable, rfl, #[], more, rfl, by rw [Array.empty_append]; exact hm⟩)
          · exact .inl (keyB b o nsB e)
        · by_cases nsB : b ∈ cs.map (·.2)
          · obtain ⟨p, hp, ep⟩ := List.mem_map.mp nsB
            obtain ⟨more, hm⟩ := grewT p hp
            rw [← ep]
            exact ⟨_, hm⟩
          · exact ⟨o, keyB b o nsB e⟩
  cases hk : K.lookup a with
  | some o =>
    have e := kInS a o hk
    rw [lstA] at e
    cases e
    refine coreH (fun b => if b ∈ cs.map (·.2) then some (.tbl #[]) else none) (fun p hp => if_pos (memTab p hp)) (fun b => ?_) (.inr ⟨_, vs.toArray, _, hk, rfl, rfl, rfl, by rw [List.size_toArray, lenI]; exact lenA, by simpa using relA⟩) (fun b u z => ?_) (fun b z => ?_) fun z => absurd (show (if a ∈ cs.map (·.2) then some (HO.tbl #[]) else none) = none from if_neg aNot) z
    · by_cases nsB : b ∈ cs.map (·.2)
      · exact .inr (.inl nsB)
      · exact .inl (if_neg nsB)
    · by_cases nsB : b ∈ cs.map (·.2)
      · have z' := (if_pos nsB).symm.trans z
        cases z'
        exact isTab b nsB
      · have z' := (if_neg nsB).symm.trans z
        cases z'
    · by_cases nsB : b ∈ cs.map (·.2)
      · exact .inr nsB
      · exact absurd (if_neg nsB) z
  | none =>
    refine coreH (fun b => if b = a then some (.frz { cls := .type "list", data := .seq vs.toArray } (.lst (ns.map V.int))) else if b ∈ cs.map (·.2) then some (.tbl #[]) else none) (fun p hp => (if_neg (show ¬ p.2 = a from fun z => aNot (by rw [← z]; exact memTab p hp))).trans (if_pos (memTab p hp))) (fun b => ?_)
      (.inl (.inr ⟨{ cls := .type "list", data := .seq vs.toArray
          }, if_pos rfl⟩)) (fun b u z => ?_) (fun b z => ?_) fun _ => hk
    · by_cases nsB : b = a
      · exact .inr (.inr ⟨_, _, if_pos nsB⟩)
      · by_cases hb2
            : b ∈ cs.map (·.2)
        · exact .inr (.inl hb2)
        · exact .inl ((if_neg nsB).trans (if_neg hb2))
    · by_cases nsB : b = a
      · have z' := (if_pos nsB).symm.trans z
        cases z'
        rw [nsB]
        exact ⟨lstA, by rw [List.length_map]; exact lenA, vs, _, relA, lstA⟩
      · have z1 := (if_neg nsB).symm.trans z
        by_cases hb2 :
            b ∈ cs.map (·.2)
        · have z' := (if_pos
              hb2).symm.trans z1
          cases z'
          exact isTab b hb2
        · have z' := (if_neg
              hb2).symm.trans z1
          cases z'
    · by_cases nsB : b = a
      · exact .inl nsB
      · by_cases hb2
            : b ∈ cs.map (·.2)
        · exact .inr hb2
        · exact absurd ((if_neg nsB).trans (if_neg hb2)) z
end EnG
namespace EnG
open PySem PySem.Spec
open PyProof.Rows L2 LamX
/-- the defs of the top as the head leaves them -/
def TabsAt (q : Program) (mg : Str → Option Value) (h : Heap) : Prop := ∀ d ∈ recsOf q, ∃ a o fd c P, mg d.name = some (.ref a) ∧ h.get? a = some o ∧ o.data = .func fd ∧ fd.code = .ref c ∧ h.IsCode c P #[] ∧ h.TableAt c P #[]
structure LawG (l : PySem.W.OpenLaw) (w : World) (k n : Nat) (mg : Str → Option Value) (fa : Addr) (h : Heap) : Prop where
  ex : ∃ (K : PySem.W.Frag) (cs : List (Addr × Addr)) (sp : Sp), K.In h ∧ (∀ p ∈ cs, h.get? p.2 = some { cls := .none, data := .fields #[] }) ∧ (∀ p ∈ cs, K.lookup p.2 = none) ∧ (∀ p ∈ cs, PySem.W.CodeHd h p.1 p.2) ∧
    (∀ (H : Hp) (a : Addr) (ns : List Int), ns.length ≤ n → (∀ p ∈ cs, H p.2 = some (.tbl #[])) → SqL K H a (ns.map V.int) → sp [.ref a] H (fun v _ => v = .bl true) fun _ _ _ => False) ∧
    ∀ base : Heap, K.In base → base.Ns mainGlobals mg → (∀ p ∈ cs, TabB base mg p.1 p.2) → K1.FnG l.prog w K mg base CX0 k fa sp
theorem walk_G {l : PySem.W.OpenLaw} {n k : Nat} {q : Program} {loose : List Str} {XP : (Str → Option Value) → Heap → Prop} {YP : World → Heap → Prop} {d : DefRec}
    (hn : l.most = some n) (hn2 : n ≤ sizeLine)
        (hdf : d.params.defaults = []) (hr : Room k callerA)
    (F : ∀ (w : World) (mg : Str → Option Value) (fa : Addr) (h : Heap), YP w h → h.Ns mainGlobals mg → mg d.name = some (.ref fa) → TabsAt q mg h → LawG l w k n mg fa h) :
    PySem.W.WalkO q loose XP YP l.row.toRowW
        d [] (fun f vs => PySem.call f vs) := by
  refine Att.attach_callB hn hdf fun w s₀ s₁ mg mb fa o
      pm cd doc a vs ns G Y ho hd hcd hmg hobj hints hlen hbits hg => ?_
  obtain ⟨K, cs, sp, KX, hT, nT, C, hsp, hF⟩ := (F w mg fa _ Y G.T.g hmg G.T.tab).ex
  exact call_tabs KX G.T.g G.T.b G.T.builtins G.T.nolimit hg hT nT C G.T.bmain hobj hints (Nat.le_trans hlen hn2) hr hF (fun H hH hS => hsp H a ns hlen hH hS)
/-- the table of a def's code object -/
theorem tab_of {K : PySem.W.Frag} {q : Program} {mg : Str → Option Value} {h : Heap} {f c P : Addr} {x : Str} {o : Obj} {fd : FuncData} {ec : Value} {dc : Option Addr} {vc : Array Value} {slc : Array (Option Value)} (KX : K.In h) (T : TabsAt q mg h) (hrec : ((recsOf q).any fun e => e.name == x) = true)
    (hx : mg x = some (.ref f)) (lk : K.lookup f = some o) (hd : o.data = .func fd) (hc : fd.code = .ref c) (lc : K.lookup c = some ⟨ec, dc, .fields vc, slc⟩) (h11 : vc[11]? = some (.ref P)) :
    h.get? P = some { cls := .none, data := .fields #[] } ∧ PySem.W.CodeHd h c P := by
  obtain ⟨d, hm, hn⟩ := List.any_eq_true.mp hrec
  have hn : d.name = x := beq_iff_eq.mp hn
  obtain ⟨a', o', fd', c', P', h1, h2, h3, h4, h5, h6⟩ := T d hm
  rw [hn, hx] at h1
  cases h1
  have g1 := KX _ _ lk
  rw [g1] at h2
  cases h2
  rw [hd] at h3
  cases h3
  rw [hc] at h4
  cases h4
  have h6' := h6
  obtain ⟨⟨oc, us, e1, _, e3, e4⟩, hP⟩ := h6
  have g2 := KX _ _ lc
  rw [g2] at e1
  cases e1
  cases e3
  rw [h11] at e4
  cases e4
  exact ⟨hP, PySem.W.CodeHd.of h5 h6'⟩
end EnG
namespace K1
open PySem PySem.Spec
open PyProof.Rows L2 EnT StX SmX TxS DuX XdI Tr3 CnB ClX
section
variable {K : PySem.W.Frag}
/-- a def where it stands -/
structure DefR (K : PySem.W.Frag) (x qual : Str) (st : Stmt) (f : Addr) : Prop where
  ex : ∃ (oc : Value) (od : Option Addr) (kV doc pm : Value) (an : Option Addr) (cdv ct : Value) (osl : Array (Option Value)), K.lookup f = some ⟨oc, od, .func (PySem.W.fnOf x qual (defArgs st) (defBody st) (defScope st) .none kV doc pm an cdv ct), osl⟩ ∧ PySem.W.codeIn K cdv qual = true
  kp : PySem.W.keepIn
      K (.ref f) = true
theorem DefR.fun_ {x qual : Str} {st : Stmt} {f : Addr} (d : DefR K x qual st f) : ∃ fd, Fun K x qual st f fd := by
  obtain ⟨oc, od, kV, doc, pm, an, cdv, ct, osl, l, c⟩ := d.ex
  exact ⟨_, fun_mk l c d.kp⟩
/-- a def of the top -/
def GloD (K : PySem.W.Frag) (x : Str) (st : Stmt) : Prop := ∃ f, PySem.W.nsIn K mainGlobals x = some (some (.ref f)) ∧ DefR K x x st f
theorem gloD_mk {x : Str} {st : Stmt} {f : Addr} {oc kV doc pm cdv ct : Value} {od an : Option Addr} {osl : Array (Option Value)} (a : PySem.W.nsIn K mainGlobals x = some (some (.ref f)))
    (l : K.lookup f = some ⟨oc, od, .func (PySem.W.fnOf x x (defArgs st) (defBody st) (defScope st) .none kV doc pm an cdv ct), osl⟩) (c : PySem.W.codeIn K cdv x = true) (k : PySem.W.keepIn K (.ref f) = true) : GloD K x st := ⟨f, a, ⟨oc, od, kV, doc, pm, an, cdv, ct, osl, l, c⟩, k⟩
/-- a method of
    the class at C -/
def MethD (K : PySem.W.Frag) (C : Addr) (x qual : Str) (st : Stmt) : Prop := ∃ f, PySem.W.findIn K (.ref C) x = some (some (.ref f)) ∧ PySem.W.isFn K (.ref f) = true ∧ DefR K x qual st f
theorem methD_mk {C : Addr} {x qual : Str} {st : Stmt} {f : Addr} {oc kV doc pm cdv ct : Value} {od an : Option Addr} {osl : Array (Option Value)} (a : PySem.W.findIn K (.ref C) x = some (some (.ref f))) (i : PySem.W.isFn K (.ref f) = true)
    (l : K.lookup f = some ⟨oc, od, .func (PySem.W.fnOf x qual (defArgs st) (defBody st) (defScope st) .none kV doc pm an cdv ct), osl⟩) (c : PySem.W.codeIn K cdv qual = true) (k : PySem.W.keepIn K (.ref f) = true) : MethD K C x qual st := ⟨f, a, i, ⟨oc, od, kV, doc, pm, an, cdv, ct, osl, l, c⟩, k⟩
/-- a property -/
def PropD (K : PySem.W.Frag) (C : Addr) (x qual : Str) (st : Stmt) : Prop := ∃ p g, PropOf K C x p g ∧ DefR K x qual st g
theorem propD_mk {C : Addr} {x qual : Str} {st : Stmt} {p f : Addr} {rest : List Value} {oc kV doc pm cdv ct : Value} {od an : Option Addr} {osl : Array (Option Value)} (a : PySem.W.findIn K (.ref C) x = some (some (.ref p))) (g : PySem.W.specialIn K (.ref p) "__get__" = some (some (.builtin "property.__get__")))
    (t : PySem.W.takesIn K (.ref p) = some true) (r : PySem.W.recIn K p "property" = some (.ref f :: rest))
    (l : K.lookup f = some ⟨oc, od, .func (PySem.W.fnOf x qual (defArgs st) (defBody st) (defScope st) .none kV doc pm an cdv ct), osl⟩) (c : PySem.W.codeIn K cdv qual = true) (k : PySem.W.keepIn K (.ref f) = true) : PropD K C x qual st := ⟨p, f, ⟨a, g, t, rest, r⟩, ⟨oc, od, kV, doc, pm, an, cdv, ct, osl, l, c⟩, k⟩
/-- a static method -/
def StatD (K : PySem.W.Frag) (C : Addr) (mc : Value) (x qual : Str) (st : Stmt) : Prop := ∃ p g, SMet K C mc x p g ∧ DefR K x qual st g
theorem statD_mk {C : Addr} {mc : Value} {x qual : Str} {st : Stmt} {p f : Addr} {rest : List Value} {oc kV doc pm cdv ct : Value} {od an : Option Addr} {osl : Array (Option Value)} (a : PySem.W.findCls K (.ref C) mc x = some (.get (.builtin "staticmethod.__get__") (.ref p) .none (.ref C)))
    (r : PySem.W.recIn K p "staticmethod" = some (.ref f :: rest))
    (l : K.lookup f = some ⟨oc, od, .func (PySem.W.fnOf x qual (defArgs st) (defBody st) (defScope st) .none kV doc pm an cdv ct), osl⟩) (c : PySem.W.codeIn K cdv qual = true) (k : PySem.W.keepIn K (.ref f) = true) : StatD K C mc x qual st := ⟨p, f, ⟨a, ⟨rest, r⟩, k⟩, ⟨oc, od, kV, doc, pm, an, cdv, ct, osl, l, c⟩, k⟩
/-- an error's class -/
structure ErrD (K : PySem.W.Frag) (x fld qual : Str) (st : Stmt) (D S1 S2 S3 : Addr) : Prop where
  g : PySem.W.nsIn K mainGlobals x = some (some (.ref D))
  ox : OexC K D
  no : PySem.W.findIn K (.ref D) fld = some none
  ini : ∃ f, PySem.W.findIn K (.ref D) "__init__" = some (some (.ref f)) ∧ PySem.W.typeIn K (.ref f) = some (.type "function") ∧ DefR K "__init__" qual st f
  xc : ExcC K D
  xf : XfC K D
  k1 : PySem.W.kitOne K (.ref D) (.ref S1) = some true
  k2 : PySem.W.kitOne K (.ref D) (.ref S2) = some false
  k3 : PySem.W.kitOne K (.ref D) (.ref S3) = some false
  kV : PySem.W.kitOne K (.ref D) (.type "ValueError") = some true
  kL : PySem.W.kitOne K (.ref D) (.type "LookupError") = some false
  kA : PySem.W.kitOne K (.ref D) (.type "ArithmeticError") = some false
  kx : PySem.W.exmAny K (.ref D) [.ref S1, .ref S2, .ref S3] = some true
theorem errD_mk {x fld qual : Str} {st : Stmt} {D S1 S2 S3 f : Addr} {oc kV doc pm cdv ct : Value} {od an : Option Addr} {osl : Array (Option Value)} {oD : Obj} (g : PySem.W.nsIn K mainGlobals x = some (some (.ref D)))
    (lD : K.lookup D = some oD) (sh : ∃ nm q N bs bm sn sub ab col dd k0 k1 k2 k3 k5, oD = PySem.excClassObj nm q D N bs bm true sn sub ab col dd k0 k1 k2 k3 k5 "ValueError.__new__" ∧ PySem.HandSPX.refsVE bm = true)
    (sa : PySem.W.findIn K (.ref D) "__setattr__" = some (some (.builtin "object.__setattr__"))) (exC : PySem.W.subIn K (.ref D) (.type "BaseException") = some true) (tyC : PySem.W.typeIn K (.ref D) = some (.type "type")) (kC : PySem.W.keepIn K (.ref D) = true)
    (no : PySem.W.findIn K (.ref D) fld = some none) (a : PySem.W.findIn K (.ref D) "__init__" = some (some (.ref f))) (ty : PySem.W.typeIn K (.ref f) = some (.type "function"))
    (l : K.lookup f = some ⟨oc, od, .func (PySem.W.fnOf "__init__" qual (defArgs st) (defBody st) (defScope st) .none kV doc pm an cdv ct), osl⟩) (c : PySem.W.codeIn K cdv qual = true) (k : PySem.W.keepIn K (.ref f) = true)
    (hg : PySem.W.findIn K (.ref D) "__getattribute__" = some (some (.builtin "BaseException.__getattribute__"))) (hk : PySem.W.findIn K (.ref D) "__getattr__" = some none) (hd : PySem.W.hasDictIn K D = true)
    (ha : PySem.W.findIn K (.ref D) "__class__" = some (some (.builtin "object.__class__"))) (hn : PySem.W.specialIn K (.builtin "object.__class__") "__get__" = some (some (.builtin "getset_descriptor.__get__"))) (ht : PySem.W.takesIn K (.builtin "object.__class__") = some true) (hm : PySem.W.mroIn K D (.type "object") = some true)
    (k1 : PySem.W.kitOne K (.ref D) (.ref S1) = some true) (k2 : PySem.W.kitOne K (.ref D) (.ref S2) = some false) (k3 : PySem.W.kitOne K (.ref D) (.ref S3) = some false) (kV' : PySem.W.kitOne K (.ref D) (.type "ValueError") = some true) (kL : PySem.W.kitOne K (.ref D) (.type "LookupError") = some false) (kA : PySem.W.kitOne K (.ref D) (.type "ArithmeticError") = some false)
    (kx : PySem.W.exmAny K (.ref D) [.ref S1, .ref S2, .ref S3] = some true) : ErrD K x fld qual st D S1 S2 S3 := by
  refine ⟨g, ⟨?_, sa, exC, tyC, kC⟩, no, ⟨f, a, ty, ⟨oc, od, kV, doc, pm, an, cdv, ct, osl, l, c⟩, k⟩, ⟨hg, hk, exC, hd, ha, hn, ht, hm⟩, ⟨hg, hk, exC, hd⟩, k1, k2, k3, kV', kL, kA, kx⟩
  obtain ⟨nm, q, N, bs, bm, sn, sub, ab, col, dd, k0, k1', k2', k3', k5, e, r⟩ := sh
  exact ⟨nm, q, N, bs, bm, sn, sub, ab, col, dd, k0, k1', k2', k3', k5, by rw [lD, e], r⟩
/-- the class Members -/
structure MemD (K : PySem.W.Frag) (C : Addr) : Prop where
  g : PySem.W.nsIn K mainGlobals "Members" = some (some (.ref C))
  cl : Cls K C
  nN : PySem.W.findIn K (.ref C) "_names" = some none
  nT : PySem.W.findIn K (.ref C) "_table" = some none
  mk' : PySem.W.makesIn K C = true
  kC : PySem.W.keepIn
      K (.ref C) = true
  is : MemIs K C
  ne : NeM K C
  nb : PySem.W.findIn K (.ref C) "__bool__" = some none
  cr : CRead K C (.type "type")
theorem memD_mk {C : Addr} (g : PySem.W.nsIn K mainGlobals "Members" = some (some (.ref C))) (pg : PySem.W.plainGet K C Str.empty = true) (hd : PySem.W.hasDictIn K C = true) (po : PySem.W.plainOver K C = true) (sa : PySem.W.findIn K (.ref C) "__setattr__" = some (some (.builtin "object.__setattr__")))
    (nN : PySem.W.findIn K (.ref C) "_names" = some none) (nT : PySem.W.findIn K (.ref C) "_table" = some none) (mk' : PySem.W.makesIn K C = true) (kC : PySem.W.keepIn K (.ref C) = true)
    (ha : PySem.W.findIn K (.ref C) "__class__" = some (some (.builtin "object.__class__"))) (hn : PySem.W.specialIn K (.builtin "object.__class__") "__get__" = some (some (.builtin "getset_descriptor.__get__"))) (ht : PySem.W.takesIn K (.builtin "object.__class__") = some true) (hm : PySem.W.mroIn K C (.type "object") = some true)
    (yes : PySem.W.kitOne K (.ref C) (.ref C) = some true) (o1 : PySem.W.kitOne K (.type "NoneType") (.ref C) = some false) (o2 : PySem.W.kitOne K (.type "bool") (.ref C) = some false) (o3 : PySem.W.kitOne K (.type "int") (.ref C) = some false) (o4 : PySem.W.kitOne K (.type "str") (.ref C) = some false) (o5 : PySem.W.kitOne K (.type "list") (.ref C) = some false) (o6 : PySem.W.kitOne K (.type "tuple") (.ref C) = some false) (o7 : PySem.W.kitOne K (.type "dict") (.ref C) = some false)
    (f1 : PySem.W.notFirst K C (.type "NoneType") = true) (f2 : PySem.W.notFirst K C (.type "bool") = true) (f3 : PySem.W.notFirst K C (.type "int") = true) (f4 : PySem.W.notFirst K C (.type "str") = true) (f5 : PySem.W.notFirst K C (.type "list") = true) (f6 : PySem.W.notFirst K C (.type "tuple") = true) (f7 : PySem.W.notFirst K C (.type "dict") = true) (fC : PySem.W.notFirst K C (.ref C) = true)
    (ne : PySem.W.findIn K (.ref C) "__ne__" = some (some (.builtin "object.__ne__"))) (nb : PySem.W.findIn K (.ref C) "__bool__" = some none) (rd : PySem.W.readsIn K C (.type "type") = true) (ga : PySem.W.specialIn K (.ref C) "__getattribute__" = some (some (.builtin "type.__getattribute__"))) : MemD K C := by
  refine ⟨g, ⟨pg, hd, po, sa⟩, nN, nT, mk', kC, ⟨ha, hn, ht, hm, yes, fun t h => ?_, fun t h => ?_, fC⟩, ⟨ne, hm⟩, nb, ⟨rd, ga⟩⟩
  · simp only [baseTys, List.mem_cons, List.not_mem_nil, or_false] at h
    rcases h with rfl | rfl | rfl | rfl | rfl | rfl | rfl
    · exact o1
    · exact o2
    · exact o3
    · exact o4
    · exact o5
    · exact o6
    · exact o7
  · simp only [baseTys, List.mem_cons, List.not_mem_nil, or_false] at h
    rcases h with rfl | rfl | rfl | rfl | rfl | rfl | rfl
    · exact f1
    · exact f2
    · exact f3
    · exact f4
    · exact f5
    · exact f6
    · exact f7
end
end K1
namespace K1
open PySem PySem.Spec
open PyProof.Rows L2 EnT StX SmX TxS DuX XdI Tr3 CnB ClX
structure Raw (K : PySem.W.Frag) (C CN CT S1 S2 S3 : Addr) : Prop where
  mem : MemD K C
  ini : MethD K C "__init__" "Members.__init__" sInit
  str : MethD K C "__str__" "Members.__str__" sStrM
  repr : MethD K C "__repr__" "Members.__repr__" sReprM
  len : MethD K C "__len__" "Members.__len__" sLenM
  has : MethD K C "__contains__" "Members.__contains__" sHasM
  eq : MethD K C "__eq__" "Members.__eq__" sEqM
  prop : PropD K C "names" "Members.names" sNamesP
  frm : StatD K C (.type "type") "from_names" "Members.from_names" sFromN
  rd : StatD K C (.type "type") "read" "Members.read" sReadM
  s1 : PySem.W.nsIn K mainGlobals "SetError" = some (some (.ref S1))
  s2 : PySem.W.nsIn K mainGlobals "StateError" = some (some (.ref S2))
  s3 : PySem.W.nsIn K mainGlobals "LimitError" = some (some (.ref S3))
  eN : ErrD K "InvalidNames" "index" "InvalidNames.__init__" sErrNames CN S1 S2 S3
  eT : ErrD K "InvalidText" "value" "InvalidText.__init__" sErrText CT S1 S2 S3
  nn : PySem.W.kitOne K (.ref CN) (.ref CN) = some true
  nt : PySem.W.kitOne K (.ref CN) (.ref CT) = some false
  tn : PySem.W.kitOne K (.ref CT) (.ref CN) = some false
  tt : PySem.W.kitOne K (.ref CT) (.ref CT) = some true
  isn : GloD K "is_name" sIsName
  wrg : GloD K "wrong_at" sWrong
  cell : GloD K "_law_cell" sCell
  pool : GloD K "_law_pool" sPool
  draw : GloD K "_law_draw" sDraw
  names : GloD K "_law_names" sNames
  caught : GloD K "_law_caught" sCaught
  made : GloD K "_law_made" sMade
  odd : GloD K "_law_odd" sOdd
  bad : GloD K "_law_bad_text" sBad
  ln : ∃ t, PySem.W.nsIn K mainGlobals "LONGEST_NAME" = some (some (.int 8 t))
  free : ∀ x ∈ (["len", "int", "abs", "range", "list", "str", "set", "sorted", "tuple", "isinstance", "enumerate", "repr", "bool", "any", "all", "max", "min", "ValueError", "LookupError", "ArithmeticError"] : List Str), PySem.W.nsIn K mainGlobals x = some none
/-- the def at f, its code object at c, the table at P -/
structure CodeD (K : PySem.W.Frag) (x : Str) (st : Stmt) (f c P : Addr) : Prop where
  g : PySem.W.nsIn K mainGlobals x = some (some (.ref f))
  fn : FunC K x x st f c
  kp : PySem.W.keepIn
      K (.ref f) = true
  cd : ∃ ec dc vc slc, K.lookup c = some ⟨ec, dc, .fields vc, slc⟩ ∧ vc[11]? = some (.ref P)
  no : K.lookup P = none
theorem codeD_mk {K : PySem.W.Frag} {x : Str} {st : Stmt} {f c P : Addr} {oc kV doc pm ct ec : Value} {od an dc : Option Addr} {osl slc : Array (Option Value)} {vc : Array Value} (a : PySem.W.nsIn K mainGlobals x = some (some (.ref f)))
    (l : K.lookup f = some ⟨oc, od, .func (PySem.W.fnOf x x (defArgs st) (defBody st) (defScope st) .none kV doc pm an (.ref c) ct), osl⟩) (cc : PySem.W.codeIn K (.ref c) x = true) (k : PySem.W.keepIn K (.ref f) = true)
    (lc : K.lookup c = some ⟨ec, dc, .fields vc, slc⟩) (h : vc[11]? = some (.ref P)) (no : K.lookup P = none) : CodeD K x st f c P :=
  ⟨a, ⟨oc, od, kV, doc, pm, an, ct, osl, l, cc⟩, k, ⟨ec, dc, vc, slc, lc, h⟩, no⟩
theorem free_of {K : PySem.W.Frag} {mg : Str → Option Value} {h : Heap} {C CN CT S1 S2 S3 : Addr} (R : Raw K C CN CT S1 S2 S3) (X : K.In h) (G : h.Ns mainGlobals mg) : Free mg := by
  have z : ∀ x ∈ (["len", "int", "abs", "range", "list", "str", "set", "sorted", "tuple", "isinstance", "enumerate", "repr", "bool", "any", "all", "max", "min", "ValueError", "LookupError", "ArithmeticError"] : List Str), mg x = none := fun x hx => PySem.W.mg_none_of X G (R.free x hx)
  exact ⟨z _ (by simp), z _ (by simp), z _ (by simp), z _ (by simp), z _ (by simp), z _ (by simp), z _ (by simp), z _ (by simp), z _ (by simp), z _ (by simp), z _ (by simp), z _ (by simp), z _ (by simp), z _ (by simp), z _ (by simp), z _ (by simp), z _ (by simp)⟩
section
variable {w : World} {P : Program} {base : Heap} {mg : Str → Option Value} {K : PySem.W.Frag} {C CN CT S1 S2 S3 : Addr}
theorem wd_of {h : Heap} (R : Raw K C CN CT S1 S2 S3) (X : K.In h) (G : h.Ns mainGlobals mg) : Wd P w K mg base C CN CT S1 S2 S3 (.type "type") := by
  have T : Free mg := free_of R X G
  have MC : MemC K mg C := ⟨PySem.W.mg_of X G R.mem.g, R.mem.cl, R.mem.nN, R.mem.nT⟩
  obtain ⟨fN, iN1, iN2, dN⟩ := R.eN.ini
  obtain ⟨fT, iT1, iT2, dT⟩ := R.eT.ini
  obtain ⟨fdN, FN⟩ := dN.fun_
  obtain ⟨fdT, FT⟩ := dT.fun_
  have EN : ErrC K mg "InvalidNames" "index" CN fN := ⟨PySem.W.mg_of X G R.eN.g, R.eN.ox, R.eN.no, iN1, iN2⟩
  have ET : ErrC K mg "InvalidText" "value" CT fT := ⟨PySem.W.mg_of X G R.eT.g, R.eT.ox, R.eT.no, iT1, iT2⟩
  have EK : ErrK K mg S1 S2 S3 CN CT := ⟨PySem.W.mg_of X G R.s1, PySem.W.mg_of X G R.s2, PySem.W.mg_of X G R.s3, PySem.W.mg_of X G R.eN.g, PySem.W.mg_of X G R.eT.g,
    PySem.W.mg_none_of X G (R.free _ (by simp)), PySem.W.mg_none_of X G (R.free _ (by simp)), PySem.W.mg_none_of X G (R.free _ (by simp)), fun D hD => by
      rcases hD with rfl | rfl
      · exact ⟨R.eN.xc, R.eN.k1, R.eN.k2, R.eN.k3, R.eN.kV, R.eN.kL, R.eN.kA, R.eN.kx⟩
      · exact ⟨R.eT.xc, R.eT.k1, R.eT.k2, R.eT.k3, R.eT.kV, R.eT.kL, R.eT.kA, R.eT.kx⟩,
    R.nn, R.nt, R.tn, R.tt, R.eN.xf, R.eT.xf, R.eN.no, R.eT.no⟩
  obtain ⟨fI, aI, dI⟩ := R.isn
  obtain ⟨fdI, FI⟩ := dI.fun_
  obtain ⟨tL, lL⟩ := R.ln
  have GI := ok_isname (P := P) (w := w) (base := base) FI T ⟨tL, PySem.W.mg_of X G lL⟩
  obtain ⟨fW, aW, dW⟩ := R.wrg
  obtain ⟨fdW, FW⟩ := dW.fun_
  have mgI := PySem.W.mg_of X G aI
  have mgW := PySem.W.mg_of X G aW
  have GWT := ok_wrongT FW T GI FI mgI
  have GWL := ok_wrongL FW T GI FI mgI
  obtain ⟨f0, a0, i0, d0⟩ := R.ini
  obtain ⟨fd0, F0⟩ := d0.fun_
  have MM : MakeC P w K mg base C CN f0 := ⟨⟨R.mem.mk', a0, i0, R.mem.kC⟩, ok_init F0 T MC GWT FW mgW EN FN⟩
  obtain ⟨fS, aS, iS, dS⟩ := R.str
  obtain ⟨fdS, FS⟩ := dS.fun_
  have bS : L2.Binds K fdS ["self"] [] := FS.binds (ps := ["self"]) fun _ _ _ _ _ _ us hl => match us, hl with | [_], _ => rfl
  have RS : FnR P w K mg base CX0 1 fS (spStrM C) := ((ok_strM FS MC).raw bS .nil).imp fun vs H Q E h => by rw [List.append_nil]; exact h
  obtain ⟨fR, aR, iR, dR⟩ := R.repr
  obtain ⟨fdR, FR⟩ := dR.fun_
  have bR : L2.Binds K fdR ["self"] [] := FR.binds (ps := ["self"]) fun _ _ _ _ _ _ us hl => match us, hl with | [_], _ => rfl
  have RR : FnR P w K mg base CX0 1 fR (spReprM C) := ((ok_reprM FR T MC).raw bR .nil).imp fun vs H Q E h => by rw [List.append_nil]; exact h
  obtain ⟨fL, aL, iL, dL⟩ := R.len
  obtain ⟨fdL, FL⟩ := dL.fun_
  have bL : L2.Binds K fdL ["self"] [] := FL.binds (ps := ["self"]) fun _ _ _ _ _ _ us hl => match us, hl with | [_], _ => rfl
  have RL : FnR P w K mg base CX0 1 fL (spLenM C) := ((ok_lenM FL T MC).raw bL .nil).imp fun vs H Q E h => by rw [List.append_nil]; exact h
  obtain ⟨fH, aH, iH, dH⟩ := R.has
  obtain ⟨fdH, FH⟩ := dH.fun_
  have bH : L2.Binds K fdH ["self", "value"] [] := FH.binds (ps := ["self", "value"]) fun _ _ _ _ _ _ us hl => match us, hl with | [_, _], _ => rfl
  have RH : FnR P w K mg base CX0 1 fH (spHasM C) := ((ok_hasM FH T MC).raw bH .nil).imp fun vs H Q E h => by rw [List.append_nil]; exact h
  obtain ⟨pP, fP, prP, dP⟩ := R.prop
  obtain ⟨fdP, FP⟩ := dP.fun_
  have bP : L2.Binds K fdP ["self"] [] := FP.binds (ps := ["self"]) fun _ _ _ _ _ _ us hl => match us, hl with | [_], _ => rfl
  have GP := ok_namesP (P := P) (w := w) (base := base) FP MC
  obtain ⟨fE, aE, iE, dE⟩ := R.eq
  obtain ⟨fdE, FE⟩ := dE.fun_
  have bE : L2.Binds K fdE ["self", "other"] [] := FE.binds (ps := ["self", "other"]) fun _ _ _ _ _ _ us hl => match us, hl with | [_, _], _ => rfl
  have GE := ok_eqM FE T MC R.mem.is prP GP FP
  have RE : FnR P w K mg base CX0 3 fE (spEqM C) := (GE.raw bE .nil).imp fun vs H Q E h => by rw [List.append_nil]; exact h
  have mS : OwnM K C "__str__" fS := ⟨aS, iS⟩
  obtain ⟨pF, fF, mF, dF⟩ := R.frm
  obtain ⟨ocF, odF, kVF, docF, pmF, anF, cdF, ctF, oslF, lF, cF⟩ := dF.ex
  have FF := fun_mk (st := sFromN) lF cF dF.kp
  have bF : L2.Binds K _ ["names"] [] := FF.binds (ps := ["names"]) fun _ _ _ _ _ _ us hl => match us, hl with | [_], _ => rfl
  have GF1 := ok_fromT FF T MC MM EN FN
  have GF2 := ok_fromL FF T MC MM EN FN
  obtain ⟨pD, fD, mD, dD⟩ := R.rd
  obtain ⟨ocD, odD, kVD, docD, pmD, anD, cdD, ctD, oslD, lD, cD⟩ := dD.ex
  have FD := fun_mk (st := sReadM) lD cD dD.kp
  have bD : L2.Binds K _ ["text"] [] := FD.binds (ps := ["text"]) fun _ _ _ _ _ _ us hl => match us, hl with | [_], _ => rfl
  have GD1 := ok_readT (fdS := fdS) FD T MC MM ET FT GWL FW mgW mS RS
  have GD2 := ok_readN FD T ET FT GWL FW mgW MC MM mS RS
  obtain ⟨fDr, aDr, dDr⟩ := R.draw
  obtain ⟨fdDr, FDr⟩ := dDr.fun_
  have mgDr := PySem.W.mg_of X G aDr
  have bDr : L2.Binds K fdDr ["_law_pool_here", "_law_many"] [] := FDr.binds (ps := ["_law_pool_here", "_law_many"]) fun _ _ _ _ _ _ us hl => match us, hl with | [_, _], _ => rfl
  obtain ⟨fNm, aNm, dNm⟩ := R.names
  obtain ⟨fdNm, FNm⟩ := dNm.fun_
  have bNm : L2.Binds K fdNm ["_law_pool_here", "_law_many"] [] := FNm.binds (ps := ["_law_pool_here", "_law_many"]) fun _ _ _ _ _ _ us hl => match us, hl with | [_, _], _ => rfl
  obtain ⟨fMd, aMd, dMd⟩ := R.made
  obtain ⟨fdMd, FMd⟩ := dMd.fun_
  have bMd : L2.Binds K fdMd ["_law_tags"] [] := FMd.binds (ps := ["_law_tags"]) fun _ _ _ _ _ _ us hl => match us, hl with | [_], _ => rfl
  obtain ⟨fOd, aOd, dOd⟩ := R.odd
  obtain ⟨fdOd, FOd⟩ := dOd.fun_
  have bOd : L2.Binds K fdOd ["_law_pool_here"] [] := FOd.binds (ps := ["_law_pool_here"]) fun _ _ _ _ _ _ us hl => match us, hl with | [_], _ => rfl
  obtain ⟨fBd, aBd, dBd⟩ := R.bad
  obtain ⟨fdBd, FBd⟩ := dBd.fun_
  have bBd : L2.Binds K fdBd ["_law_pool_here", "_law_tags"] [] := FBd.binds (ps := ["_law_pool_here", "_law_tags"]) fun _ _ _ _ _ _ us hl => match us, hl with | [_, _], _ => rfl
  exact {
    T := T
    M := MC
    I := R.mem.is
    EK := EK
    draw := ⟨fDr, mgDr, FDr.kp, fdDr, ok_draw FDr T, bDr⟩
    names := ⟨fNm, PySem.W.mg_of X G aNm, FNm.kp, fdNm, ok_names FNm T FDr mgDr, bNm⟩
    made := ⟨fMd, PySem.W.mg_of X G aMd, FMd.kp, fdMd, ok_made FMd T MC MM, bMd⟩
    odd := ⟨fOd, PySem.W.mg_of X G aOd, FOd.kp, fdOd, ok_odd FOd T FDr mgDr, bOd⟩
    bad := ⟨fBd, PySem.W.mg_of X G aBd, FBd.kp, fdBd, ok_bad FBd T FDr mgDr, bBd⟩
    mkr := ⟨f0, MM⟩
    strM := ⟨fS, mS, RS⟩
    reprM := ⟨fR, ⟨aR, iR⟩, RR⟩
    lenM := ⟨fL, ⟨aL, iL⟩, RL⟩
    hasM := ⟨fH, ⟨aH, iH⟩, RH⟩
    eqM := ⟨fE, ⟨aE, iE⟩, RE, fdE, GE, bE⟩
    neM := R.mem.ne
    nbM := R.mem.nb
    prop := ⟨pP, fP, fdP, prP, GP, bP⟩
    cr := R.mem.cr
    fromT := ⟨pF, fF, mF, (GF1.raw bF .nil).imp fun vs H Q E h => by rw [List.append_nil]; exact h, (GF2.raw bF .nil).imp fun vs H Q E h => by rw [List.append_nil]; exact h, _, fun _ ws => ws, GF1,
      ⟨fun s us ws X hu hw => match us, ws, hu, hw with | [], [_], _, _ => .of_eq rfl, fun _ r => r⟩⟩
    read := ⟨pD, fD, mD, (GD1.raw bD .nil).imp fun vs H Q E h => by rw [List.append_nil]; exact h, (GD2.raw bD .nil).imp fun vs H Q E h => by rw [List.append_nil]; exact h, _, fun _ ws => ws, GD1,
      ⟨fun s us ws X hu hw => match us, ws, hu, hw with | [], [_], _, _ => .of_eq rfl, fun _ r => r⟩⟩ }
end
end K1
namespace K1
open PySem PySem.Spec
open PyProof.Rows L2 EnT StX SmX TxS DuX XdI Tr3 CnB ClX
theorem law_end {l : PySem.W.OpenLaw} {q : Program} {w : World} {mg : Str → Option Value} {fa : Addr} {h : Heap} {K : PySem.W.Frag} {C CN CT S1 S2 S3 fR cR Pt fL cL PL : Addr} (R : Raw K C CN CT S1 S2 S3) (DR : CodeD K "_law_right" sRight fR cR Pt) (DL : CodeD K "law" sLaw fL cL PL)
    (X : K.In h) (G : h.Ns mainGlobals mg) (hmg : mg "law" = some (.ref fa)) (TB : EnG.TabsAt q mg h) (hrec : ((recsOf q).any fun e => e.name == ("_law_right" : Str)) = true) : EnG.LawG l w 10 63 mg fa h := by
  have e := hmg.symm.trans (PySem.W.mg_of X G DL.g)
  cases e
  have mgR := PySem.W.mg_of X G DR.g
  obtain ⟨oc, od, kV, doc, pm, an, ct, osl, lk, hcd⟩ := DR.fn.ex
  obtain ⟨ec, dc, vc, slc, lc, h11⟩ := DR.cd
  obtain ⟨tabP, codP⟩ := EnG.tab_of X TB hrec mgR lk rfl rfl lc h11
  refine ⟨K, [(cR, Pt)], spLaw K Pt, X, fun p hp => ?_, fun p hp => ?_, fun p hp => ?_, fun H a ns hl hH hS => ?_, fun base hb hG hT => ?_⟩
  · rw [List.mem_singleton.mp
        hp]
    exact tabP
  · rw [List.mem_singleton.mp
        hp]
    exact DR.no
  · rw [List.mem_singleton.mp
        hp]
    exact codP
  · refine ⟨a, ns, rfl, hS, by omega, fun p hp => ?_, fun _ => rfl⟩
    rw [List.mem_singleton.mp hp]
    exact LamX.TabS.nil (hH (cR, Pt) List.mem_cons_self)
  · have W : Wd l.prog w K mg base C CN CT S1 S2 S3 (.type "type") := wd_of R X G
    have tb := hT (cR, Pt) List.mem_cons_self
    obtain ⟨fC, aC, dC⟩ := R.caught
    obtain ⟨fdC, FC⟩ := dC.fun_
    have AK : Asks K mg base cR Pt := ⟨⟨fC, fdC, PySem.W.mg_of X G aC, FC⟩, tb⟩
    have GR : FnG l.prog w K mg base CX0 9 fR (spRight Pt) := ok_right W AK DR.fn
    have T := W.T
    obtain ⟨fE, aE, dE⟩ := R.cell
    obtain ⟨fdE, FE⟩ := dE.fun_
    have bE : L2.Binds K fdE ["_law_cells", "_law_k"] [] := FE.binds (ps := ["_law_cells", "_law_k"]) fun _ _ _ _ _ _ us hl => match us, hl with | [_, _], _ => rfl
    obtain ⟨fP, aP, dP⟩ := R.pool
    obtain ⟨fdP, FP⟩ := dP.fun_
    have bP : L2.Binds K fdP ["_law_cell_here"] [] := FP.binds (ps := ["_law_cell_here"]) fun _ _ _ _ _ _ us hl => match us, hl with | [_], _ => rfl
    exact ok_law T ⟨⟨fE, PySem.W.mg_of X G aE, FE.kp, fdE, ok_cell FE T, bE⟩, ⟨fP, PySem.W.mg_of X G aP, FP.kp, fdP, ok_pool FP T, bP⟩, ⟨fR, mgR, DR.kp, GR⟩⟩ DL.fn
end K1
theorem K1.ex1 {α : Sort _} {p : α → Prop} {a : α} (h : p a) : ∃ x, p x := ⟨a, h⟩
set_option maxHeartbeats 0
open PySem PySem.W PyProof.Rows
open_top hdk01 for PySem.Challenge.rw_onemember_k01_members_made
theorem PySem.Challenge.cw_onemember_k01_members_made_holds : PySem.Challenge.rw_onemember_k01_members_made.Holds := by
  refine hdk01 ?_
  k_fill
  refine EnG.walk_G (l := PySem.Challenge.rw_onemember_k01_members_made) (n := 63) (k := 10) rfl (by decide) rfl ⟨rfl, by decide, by decide⟩ ?F
  intro w mg fa h Y G hmg TB
  have KX := km_in_of Y
  refine' K1.law_end ?R ?DR ?DL KX G hmg TB ?hrec
  (case hrec => decide +kernel)
  case DR =>
    refine' K1.codeD_mk ?a ?l ?c ?k ?lc ?h ?no
    (case a => k_is)
    (case l => k_is)
    (case c => k_is)
    (case k => k_is)
    (case lc => k_is)
    (case h => exact rfl)
    (case no => exact rfl)
  case DL =>
    refine' K1.codeD_mk ?a ?l ?c ?k ?lc ?h ?no
    (case a => k_is)
    (case l => k_is)
    (case c => k_is)
    (case k => k_is)
    (case lc => k_is)
    (case h => exact rfl)
    (case no => exact rfl)
  case R =>
    refine' { s1 := ?z_s1, s2 := ?z_s2, s3 := ?z_s3, mem := ?z_mem, eN := ?z_eN, eT := ?z_eT, ini := ?z_i, str := ?z_st, repr := ?z_re, len := ?z_le, has := ?z_ha, eq := ?z_eq, prop := ?z_pr, frm := ?z_fr, rd := ?z_rd, nn := ?z_nn, nt := ?z_nt, tn := ?z_tn, tt := ?z_tt, isn := ?z_d1, wrg := ?z_d2, cell := ?z_d3, pool := ?z_d4, draw := ?z_d5, names := ?z_d6, caught := ?z_d7, made := ?z_d8, odd := ?z_d9, bad := ?z_d10, ln := ?z_ln, free := ?z_free }
    (case z_s1 => k_is)
    (case z_s2 => k_is)
    (case z_s3 => k_is)
    case z_mem =>
      refine' K1.memD_mk ?g ?pg ?hd ?po ?sa ?nN ?nT ?mk ?kC ?ha ?hn ?ht ?hm ?yes ?o1 ?o2 ?o3 ?o4 ?o5 ?o6 ?o7 ?f1 ?f2 ?f3 ?f4 ?f5 ?f6 ?f7 ?fC ?ne ?nb ?rd ?ga
      (case g => k_is)
      (case pg => k_is)
      (case hd => k_is)
      (case po => k_is)
      (case sa => k_is)
      (case nN => k_is)
      (case nT => k_is)
      (case mk => k_is)
      (case kC => k_is)
      (case ha => k_is)
      (case hn => k_is)
      (case ht => k_is)
      (case hm => k_is)
      (case yes => kit_is)
      (case o1 => kit_is)
      (case o2 => kit_is)
      (case o3 => kit_is)
      (case o4 => kit_is)
      (case o5 => kit_is)
      (case o6 => kit_is)
      (case o7 => kit_is)
      (case f1 => k_is)
      (case f2 => k_is)
      (case f3 => k_is)
      (case f4 => k_is)
      (case f5 => k_is)
      (case f6 => k_is)
      (case f7 => k_is)
      (case fC => k_is)
      (case ne => k_is)
      (case nb => k_is)
      (case rd => k_is)
      (case ga => k_is)
    case z_eN =>
      refine' K1.errD_mk ?g ?lD ?sh ?sa ?exC ?tyC ?kC ?no ?a ?ty ?l ?c ?k ?hg ?hk ?hd ?ha ?hn ?ht ?hm ?k1 ?k2 ?k3 ?kV ?kL ?kA ?kx
      (case g => k_is)
      (case lD => k_is)
      (case sh => exact ⟨_, _, _, _, _, _, _, _, _, _, _, _, _, _, _, rfl, by decide⟩)
      (case sa => k_is)
      (case exC => k_is)
      (case tyC => k_is)
      (case kC => k_is)
      (case no => k_is)
      (case a => k_is)
      (case ty => k_is)
      (case l => k_is)
      (case c => k_is)
      (case k => k_is)
      (case hg => k_is)
      (case hk => k_is)
      (case hd => k_is)
      (case ha => k_is)
      (case hn => k_is)
      (case ht => k_is)
      (case hm => k_is)
      (case k1 => kit_is)
      (case k2 => kit_is)
      (case k3 => kit_is)
      (case kV => kit_is)
      (case kL => kit_is)
      (case kA => kit_is)
      (case kx => kts_exm)
    case z_eT =>
      refine' K1.errD_mk ?g ?lD ?sh ?sa ?exC ?tyC ?kC ?no ?a ?ty ?l ?c ?k ?hg ?hk ?hd ?ha ?hn ?ht ?hm ?k1 ?k2 ?k3 ?kV ?kL ?kA ?kx
      (case g => k_is)
      (case lD => k_is)
      (case sh => exact ⟨_, _, _, _, _, _, _, _, _, _, _, _, _, _, _, rfl, by decide⟩)
      (case sa => k_is)
      (case exC => k_is)
      (case tyC => k_is)
      (case kC => k_is)
      (case no => k_is)
      (case a => k_is)
      (case ty => k_is)
      (case l => k_is)
      (case c => k_is)
      (case k => k_is)
      (case hg => k_is)
      (case hk => k_is)
      (case hd => k_is)
      (case ha => k_is)
      (case hn => k_is)
      (case ht => k_is)
      (case hm => k_is)
      (case k1 => kit_is)
      (case k2 => kit_is)
      (case k3 => kit_is)
      (case kV => kit_is)
      (case kL => kit_is)
      (case kA => kit_is)
      (case kx => kts_exm)
    case z_i =>
      refine' K1.methD_mk ?a ?i ?l ?c ?k
      (case a => k_is)
      (case i => k_is)
      (case l => k_is)
      (case c => k_is)
      (case k => k_is)
    case z_st =>
      refine' K1.methD_mk ?a ?i ?l ?c ?k
      (case a => k_is)
      (case i => k_is)
      (case l => k_is)
      (case c => k_is)
      (case k => k_is)
    case z_re =>
      refine' K1.methD_mk ?a ?i ?l ?c ?k
      (case a => k_is)
      (case i => k_is)
      (case l => k_is)
      (case c => k_is)
      (case k => k_is)
    case z_le =>
      refine' K1.methD_mk ?a ?i ?l ?c ?k
      (case a => k_is)
      (case i => k_is)
      (case l => k_is)
      (case c => k_is)
      (case k => k_is)
    case z_ha =>
      refine' K1.methD_mk ?a ?i ?l ?c ?k
      (case a => k_is)
      (case i => k_is)
      (case l => k_is)
      (case c => k_is)
      (case k => k_is)
    case z_eq =>
      refine' K1.methD_mk ?a ?i ?l ?c ?k
      (case a => k_is)
      (case i => k_is)
      (case l => k_is)
      (case c => k_is)
      (case k => k_is)
    case z_pr =>
      refine' K1.propD_mk ?a ?g ?t ?r ?l ?c ?k
      (case a => k_is)
      (case g => k_is)
      (case t => k_is)
      (case r => k_is)
      (case l => k_is)
      (case c => k_is)
      (case k => k_is)
    case z_fr =>
      refine' K1.statD_mk ?a ?r ?l ?c ?k
      (case a => k_is)
      (case r => k_is)
      (case l => k_is)
      (case c => k_is)
      (case k => k_is)
    case z_rd =>
      refine' K1.statD_mk ?a ?r ?l ?c ?k
      (case a => k_is)
      (case r => k_is)
      (case l => k_is)
      (case c => k_is)
      (case k => k_is)
    (case z_nn => kit_is)
    (case z_nt => kit_is)
    (case z_tn => kit_is)
    (case z_tt => kit_is)
    case z_d1 =>
      refine' K1.gloD_mk ?a ?l ?c ?k
      (case a => k_is)
      (case l => k_is)
      (case c => k_is)
      (case k => k_is)
    case z_d2 =>
      refine' K1.gloD_mk ?a ?l ?c ?k
      (case a => k_is)
      (case l => k_is)
      (case c => k_is)
      (case k => k_is)
    case z_d3 =>
      refine' K1.gloD_mk ?a ?l ?c ?k
      (case a => k_is)
      (case l => k_is)
      (case c => k_is)
      (case k => k_is)
    case z_d4 =>
      refine' K1.gloD_mk ?a ?l ?c ?k
      (case a => k_is)
      (case l => k_is)
      (case c => k_is)
      (case k => k_is)
    case z_d5 =>
      refine' K1.gloD_mk ?a ?l ?c ?k
      (case a => k_is)
      (case l => k_is)
      (case c => k_is)
      (case k => k_is)
    case z_d6 =>
      refine' K1.gloD_mk ?a ?l ?c ?k
      (case a => k_is)
      (case l => k_is)
      (case c => k_is)
      (case k => k_is)
    case z_d7 =>
      refine' K1.gloD_mk ?a ?l ?c ?k
      (case a => k_is)
      (case l => k_is)
      (case c => k_is)
      (case k => k_is)
    case z_d8 =>
      refine' K1.gloD_mk ?a ?l ?c ?k
      (case a => k_is)
      (case l => k_is)
      (case c => k_is)
      (case k => k_is)
    case z_d9 =>
      refine' K1.gloD_mk ?a ?l ?c ?k
      (case a => k_is)
      (case l => k_is)
      (case c => k_is)
      (case k => k_is)
    case z_d10 =>
      refine' K1.gloD_mk ?a ?l ?c ?k
      (case a => k_is)
      (case l => k_is)
      (case c => k_is)
      (case k => k_is)
    (case z_ln => refine' K1.ex1 ?a; (case a => k_is))
    (case z_free =>
      intro x hx
      simp only [List.mem_cons, List.not_mem_nil,
          or_false] at hx
      rcases hx with rfl | rfl | rfl | rfl | rfl | rfl | rfl | rfl | rfl | rfl | rfl | rfl | rfl | rfl | rfl | rfl | rfl | rfl | rfl | rfl <;> k_is)
