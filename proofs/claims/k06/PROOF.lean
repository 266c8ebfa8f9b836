import PyProof.Rows.All
import Wide.All
import OpenK.AllK
import Wide.FinOn
import HandS.ForMost
import HandS.ForExc
import HandS.Walk
import KE.GoesMore
import KE.GoesEnum
import HandS.StrMore
import HandS.IsInst
import KE.KxStill
import HandS.Star
import HandS.ClsMeth
import HandS.MakeKwOnly
import HandS.Set
import HandS.Strs
import HandS.SetFor
import HandS.ExcInit
import HandS.DictComp
import HandS.OwnEq
import KE.KCallOwn
import PyProof.InstEq
import PyProof.ListTruth
import PyProof.Conv_bool
import PyProof.ListNew
import HandS.Deep
import HandS.RaiseMore
import PyProof.ReprRoads
import KE.DatumIndex
import PyProof.ReprLen
import PyProof.StrLawsRepr
import HandS.FStr
import HandS.Property
import HandS.Small
import HandS.WordsExc
import KE.KOpsOwn
import HandS.SlotsOwn
import PyProof.Rows.StrMeet
import HandS.TupAny
import PyProof.NeKinds
import HandS.ExcIs
import KE.KTryMore
import PyProof.Rows.FactsN_abs
import HandS.HotCalls
import HandS.Dict
import HandS.Lambda
import HandS.NoneIn
import HandS.ExcField
import HandS.Flow
import HandS.Defaults
import HandS.Style
import HandS.ListItems
import HandS.Conv
import KE.KDictList
import HandS.EndTab
import KE.KSortAny
import KE.OsRunLaw
import PySem.Challenge.RW_onemember_k06_whole_expressions_of_sets
set_option Elab.async false
set_option linter.all false
set_option maxRecDepth 100000
set_option maxHeartbeats 0
section
universe u
open PySem PySem.W PySem.Calls PyProof.Rows HeadRun
noncomputable def K1.tk {α : Type u} (n : Nat) (l : List α) : List α := List.rec (motive := fun _ => Nat → List α) (fun _ => []) (fun a _ ih n => Nat.rec [] (fun m _ => a :: ih m) n) l n
noncomputable def K1.dp {α : Type u} (n : Nat) (l : List α) : List α := List.rec (motive := fun _ => Nat → List α) (fun _ => []) (fun a t ih n => Nat.rec (a :: t) (fun m _ => ih m) n) l n
theorem K1.tk_eq {α : Type u} (l : List α) : ∀ n, K1.tk n l = l.take n := by
  induction l with
  | nil => intro n; cases n <;> rfl
  | cons a t ih => intro n; cases n with
    | zero => rfl
    | succ n => exact congrArg (a :: ·) (ih n)
theorem K1.dp_eq {α : Type u} (l : List α) : ∀ n, K1.dp n l = l.drop n := by
  induction l with
  | nil => intro n; cases n <;> rfl
  | cons a t ih => intro n; cases n with
    | zero => rfl
    | succ n => exact ih n
theorem K1.all_cut {α : Type u} {l : List α} {f : α → Bool} (n : Nat) (h1 : PySem.W.R.allR (K1.tk n l) f = true) (h2 : PySem.W.R.allR (K1.dp n l) f = true) : PySem.W.R.allR l f = true := by
  rw [K1.tk_eq] at h1
  rw [K1.dp_eq] at h2
  have e : ∀ l : List α, PySem.W.R.allR l f = l.all f := fun l => (congrFun (congrFun (congrFun PySem.W.R.allR_eq α) l) f).symm
  rw [e] at h1 h2 ⊢
  rw [← List.take_append_drop n l, List.all_append, h1, h2]
  rfl
theorem K1.three {α : Type u} {l e : List α} {n m : Nat} (h1 : K1.tk n l = e.take n) (h2 : K1.tk m (K1.dp n l) = (e.drop n).take m) (h3 : K1.dp m (K1.dp n l) = (e.drop n).drop m) : l = e := by
  rw [K1.tk_eq] at h1
  rw [K1.dp_eq, K1.tk_eq] at h2
  rw [K1.dp_eq, K1.dp_eq] at h3
  rw [← List.take_append_drop n l, ← List.take_append_drop m (l.drop n), h1, h2, h3, List.take_append_drop, List.take_append_drop]
theorem K1.seen_defs {a b : PyProof.Rows.Seen} (h4 : a.defs = b.defs) (h2 : { a with defs := [] } = { b with defs := [] }) : a = b := by
  cases a
  cases b
  simp only [PyProof.Rows.Seen.mk.injEq] at h2 ⊢
  exact ⟨h4, h2.2⟩
noncomputable abbrev K1.keyOk (a b c d : List PySem.Str) : PySem.Str → Bool := fun k =>
  @PySem.W.Fast.tw3471404346716756564 PySem.Str (@instBEqOfDecidableEq PySem.Str PySem.W.Fast.sDec) PySem.W.Fast.tw12749700546528644094 k || @PySem.W.Fast.tw3471404346716756564 PySem.Str (@instBEqOfDecidableEq PySem.Str PySem.W.Fast.sDec) a k || @PySem.W.Fast.tw3471404346716756564 PySem.Str (@instBEqOfDecidableEq PySem.Str PySem.W.Fast.sDec) b k || @PySem.W.Fast.tw3471404346716756564 PySem.Str (@instBEqOfDecidableEq PySem.Str PySem.W.Fast.sDec) c k || @PySem.W.Fast.tw3471404346716756564 PySem.Str (@instBEqOfDecidableEq PySem.Str PySem.W.Fast.sDec) d k
theorem K1.gd {α : Type} {o : Option SharedT} {f : SharedT → List α} {E : List α} {n m : Nat}
    (d1 : o.map (fun s => K1.tk n (f s)) = some (E.take n)) (d2 : o.map (fun s => K1.tk m (K1.dp n (f s))) = some ((E.drop n).take m)) (d3 : o.map (fun s => K1.dp m (K1.dp n (f s))) = some ((E.drop n).drop m)) : o.map f = some E := by
  cases o with
  | none => cases d1
  | some s => exact congrArg some (K1.three (Option.some.inj d1) (Option.some.inj d2) (Option.some.inj d3))
theorem K1.gk {o : Option SharedT} {n : Nat} {a b c d : List PySem.Str}
    (k1 : o.map (fun s => PySem.W.R.allR (K1.tk n (s.abs.heap.nsKeys mainGlobals)) (K1.keyOk a b c d)) = some true)
    (k2 : o.map (fun s => PySem.W.R.allR (K1.dp n (s.abs.heap.nsKeys mainGlobals)) (K1.keyOk a b c d)) = some true) : o.map (fun s => PySem.W.Fast.tw10880121769531294198 s.abs.heap a b c d) = some true := by
  cases o with
  | none => cases k1
  | some s => exact congrArg some (K1.all_cut n (Option.some.inj k1) (Option.some.inj k2))
theorem K1.ga {α : Type} {o : Option SharedT} {n m : Nat} {l : List α} {f : SharedT → α → Bool}
    (a4 : o.map (fun s => PySem.W.R.allR (K1.tk n l) (f s)) = some true) (a5 : o.map (fun s => PySem.W.R.allR (K1.tk m (K1.dp n l)) (f s)) = some true) (a6 : o.map (fun s => PySem.W.R.allR (K1.dp m (K1.dp n l)) (f s)) = some true) : o.map (fun s => PySem.W.R.allR l (f s)) = some true := by
  cases o with
  | none => cases a4
  | some s => exact congrArg some (K1.all_cut n (Option.some.inj a4) (K1.all_cut m (Option.some.inj a5) (Option.some.inj a6)))
theorem K1.gate9 {p q : Program} {loose mods : List PySem.Str} {Xt : Shared → Bool} {h0 : Heap} {o : Option SharedT}
    (x1 : o.map (fun s => (looksF p h0 s.abs, (seenQ q loose mods Xt s.abs).2.1, (seenQ q loose mods Xt s.abs).2.2.2.2.2.2.2.2)) = some (true, bltViewBooted, clsGoodW q loose))
    (x2 : o.map (fun s => ((seenQ q loose mods Xt s.abs).2.2.2.2.1, (seenQ q loose mods Xt s.abs).2.2.2.2.2.2.1)) = some (pinGoodD (drecsOf q), plainGoodD q loose))
    (d : o.map (fun s => (seenQ q loose mods Xt s.abs).1.defs) = some (expectedOf q).defs)
    (c : o.map (fun s => (({ (seenQ q loose mods Xt s.abs).1 with defs := [] } : PyProof.Rows.Seen), (PySem.W.Fast.tw14722251495701143533 s.abs.heap mods && Heap.isNs s.abs.heap mainGlobals && Heap.isNs s.abs.heap builtinsNs && PySem.W.Fast.tw10994771534591457954 q s.abs.heap && Xt s.abs && (s.abs.gens.size == 0) && PySem.W.Fast.tw5244371056499926238 s.abs.heap && PySem.W.Fast.tw2578726214315757710 q s.abs.heap && (!PySem.W.Fast.tw2458874890965802552 q || PySem.W.Fast.tw9649274521512697073 s.abs.heap)))) = some ({ (expectedOf q) with defs := [] }, true))
    (a3 : o.map (fun s => PySem.W.Fast.tw10880121769531294198 s.abs.heap (PySem.W.Fast.tw821141287760084731 q loose) (PySem.W.R.mapR (fun x => DefRec.name x) (PySem.W.Fast.tw3399658132070893891 q)) (PySem.W.R.mapR (fun x => Prod.fst x) (PySem.W.Fast.tw7409074990110511671 q)) (PySem.W.R.mapR (fun x => ClsRec.name x) (PySem.W.Fast.tw13664370479719496447 q (PySem.W.Fast.tw821141287760084731 q loose)))) = some true)
    (a4 : o.map (fun s => PySem.W.R.allR (PySem.W.Fast.tw3399658132070893891 q) fun d => PySem.W.Fast.tw5930804224584009831 s.abs.heap (DefRec.name d)) = some true)
    (h4 : plainsOf q (looseW q loose) = [])
    (e1 : o.map (fun s => (seenQ q loose mods Xt s.abs).2.2.2.2.2.2.2.1.1) = some (wideGood q).1)
    (e2 : o.map (fun s => (seenQ q loose mods Xt s.abs).2.2.2.2.2.2.2.1.2) = some (wideGood q).2) :
    o.map (fun s => (looksF p h0 s.abs, (seenQ q loose mods Xt s.abs))) = some (true, openGood q loose) := by
  cases o with
  | none => cases a3
  | some s =>
    simp only [Option.map_some, Option.some.injEq, Prod.mk.injEq] at x1 x2 d c a3 a4 e1 e2 ⊢
    obtain ⟨b1, b2, b5⟩ := x1
    obtain ⟨b3, b4⟩ := x2
    obtain ⟨c1, c2⟩ := c
    simp only [Bool.and_eq_true] at c2
    obtain ⟨⟨⟨⟨⟨⟨⟨⟨m1, m2⟩, m3⟩, m4⟩, m5⟩, m6⟩, m7⟩, m8⟩, m9⟩ := c2
    have k3 : (seenQ q loose mods Xt s.abs).2.2.1 = true := by
      show (PySem.W.Fast.tw10880121769531294198 s.abs.heap (PySem.W.Fast.tw821141287760084731 q loose) (PySem.W.R.mapR (fun x => DefRec.name x) (PySem.W.Fast.tw3399658132070893891 q)) (PySem.W.R.mapR (fun x => Prod.fst x) (PySem.W.Fast.tw7409074990110511671 q)) (PySem.W.R.mapR (fun x => ClsRec.name x) (PySem.W.Fast.tw13664370479719496447 q (PySem.W.Fast.tw821141287760084731 q loose))) && _ && _ && _ && _ && _ && _) = true
      simp only [Bool.and_eq_true]
      exact ⟨⟨⟨⟨⟨⟨a3, m1⟩, m2⟩, m3⟩, m4⟩, m5⟩, m6⟩
    have k4 : (seenQ q loose mods Xt s.abs).2.2.2.1 = true := by
      show (_ && _ && _ && _) = true
      simp only [Bool.and_eq_true]
      exact ⟨⟨⟨a4, m7⟩, m8⟩, m9⟩
    have h6 : (seenQ q loose mods Xt s.abs).2.2.2.2.2.1 = plainGoodE q (looseW q loose) := by
      rw [← seenQ_eq]
      show plainSeenE q (looseW q loose) s.abs = _
      unfold plainSeenE plainGoodE
      rw [h4]
      rfl
    exact ⟨b1, Prod.ext (K1.seen_defs d c1) (Prod.ext b2 (Prod.ext k3 (Prod.ext k4 (Prod.ext b3 (Prod.ext h6 (Prod.ext b4 (Prod.ext (Prod.ext e1 e2) b5)))))))⟩
theorem K1.gate3 {p p' q q' : Program} {loose loose' mods mods' : List PySem.Str} {Xt Xt' : Shared → Bool} {M M' : Nat} {as : List Addr} {v : List (Option Obj)} {S : World → OsState → SharedT}
    (ran : ∀ (w : World) (os : OsState), endF (stepQ (denQ tabQ) p' w) M' p' w os = some (S w os))
    (pre : ∀ (w : World) (os : OsState), (some (S w os)).map (fun s => (looksF p' (boot_heap w.params) s.abs, seenQ q' loose' mods' Xt' s.abs)) = some (true, openGood q' loose'))
    {w : World} {os : OsState}
    (h : as.map (getT (S w os)) = v)
    (e0 : endF (stepQ (denQ tabQ) p w) M p w os = endF (stepQ (denQ tabQ) p' w) M' p' w os)
    (e1 : (some (S w os)).map (fun s => (looksF p (boot_heap w.params) s.abs, seenQ q loose mods Xt s.abs)) = (some (S w os)).map (fun s => (looksF p' (boot_heap w.params) s.abs, seenQ q' loose' mods' Xt' s.abs)))
    (e2 : (some (true, openGood q' loose') : Option (Bool × _)) = some (true, openGood q loose)) :
    (endF (stepQ (denQ tabQ) p w) M p w os).map (fun s => (looksF p (boot_heap w.params) s.abs, seenQ q loose mods Xt s.abs, as.map (getT s))) = some (true, openGood q loose, v) := by
  have z := e1.trans ((pre w os).trans e2)
  rw [e0, ran w os]
  simp only [Option.map_some, Option.some.injEq, Prod.mk.injEq] at z ⊢
  exact ⟨z.1, z.2, h⟩
theorem K1.swap {q : Program} {loose : List PySem.Str} {XP : (PySem.Str → Option Value) → Heap → Prop} {K : Params → Frag} {as : List Addr} {e : ∀ P, as = (K P).map (·.1)} {r : RowW} {d : DefRec} {kwd : List (PySem.Str × Expr)} {run : Value → List Value → Sem Value} (e' : ∀ P, as = (K P).map (·.1)) (z : WalkO q loose XP (kHook K as e').says r d kwd run) : WalkO q loose XP (kHook K as e).says r d kwd run := z
structure K1.HeadTag (T : Prop) : Prop where
  out : T
end
noncomputable section
open PySem PySem.W PySem.Calls PyProof.Rows HeadRun
namespace K1.Hs
def goS (st : SharedT → Thread → Option (SharedT × Thread)) (n0 : Nat) (ann : Option Value) : Nat → SharedT → Thread → Option (SharedT × Thread)
  | 0, s, t => some (s, t)
  | m + 1, s, t => match through t with
    | true => none
    | false => match stepOk n0 ann t with
      | false => none
      | true => match st s t with
        | some (s', t') => frS s' fun s' => goS st n0 ann m s' t'
        | none => none
theorem goS_goF {st : SharedT → Thread → Option (SharedT × Thread)} {n0 : Nat} {ann : Option Value} : ∀ {m N : Nat} {s s' : SharedT} {t t' : Thread} {r : SharedT}, goS st n0 ann m s t = some (s', t') → goF st n0 ann N s' t' = some r → goF st n0 ann (m + N) s t = some r
  | 0, N, s, s', t, t', r, h, k => by
    cases h
    rw [Nat.zero_add]
    exact k
  | m + 1, N, s, s', t, t', r, h, k => by
    rw [show m + 1 + N = m + N + 1 by omega]
    unfold goS at h
    unfold goF
    cases ht : through t with
    | true => rw [ht] at h; cases h
    | false =>
      rw [ht] at h
      cases hk : stepOk n0 ann t with
      | false => rw [hk] at h; cases h
      | true =>
        rw [hk] at h
        cases hs : st s t with
        | none => rw [hs] at h; cases h
        | some x =>
          obtain ⟨s2, t2⟩ := x
          rw [hs] at h
          have h3 : (frS s2 fun s' => goS st n0 ann m s' t2) = some (s', t') := h
          rw [frS_eq] at h3
          show (frS s2 fun s' => goF st n0 ann (m + N) s' t2) = some r
          rw [frS_eq]
          exact goS_goF h3 k
theorem end_of {st : SharedT → Thread → Option (SharedT × Thread)} {M : Nat} {p : Program} {w : World} {os : OsState} {t : BT} {n : Nat} {r : SharedT} (h : putAll (boot_heap w.params).objs.toList .nil 0 = some (t, n)) (k : goF st n (bootAnn w) M (bootT w os (t, n)) (topStub p) = some r) : endF st M p w os = some r := by
  unfold endF
  rw [h]
  show (frNat n fun n0 => goF st n0 (bootAnn w) M (bootT w os (t, n0)) (topStub p)) = some r
  rw [frNat_eq]
  exact k
abbrev RR : OpenRow := OpenLaw.row PySem.Challenge.rw_onemember_k06_whole_expressions_of_sets
abbrev N : Value := .none
abbrev I (i : Int) : Value := .int i 0
abbrev S (x : String) (t : Nat) : Value := .str (PySem.Str.ofString x) t
abbrev u (x : String) : PySem.Str := .ofString x
abbrev T (x : String) : Value := .type x
abbrev B (x : String) : Value := .builtin x
abbrev R (a : Nat) : Value := .ref a
abbrev E (P : Params) (x : String) (t : Nat) (v : Value) : DictEntry := ⟨PyData.keyHash P (.ofString x), .str (.ofString x) t, v⟩
def bd : List Stmt := behindTheImports RR.prog
def A (i : Nat) : Stmt := bd.getD i (.Pass default)
def C (i j : Nat) : Stmt := match A i with
  | .ClassDef _ _ _ b _ _ _ _ _ _ _ => b.getD j (.Pass default)
  | s => s
def F (s : Stmt) (nm q : PySem.Str) (g : Nat) (cl : List (PySem.Str × Addr)) (dv kv doc md : Value) (an : Option Addr) (co ct : Value) (bl : Nat) : Data := match s with
  | .FunctionDef _ a b _ _ _ sc _ _ _ => .func ⟨nm, q, a, .stmts b, sc, g, cl, dv, kv, doc, md, an, co, ct, bl⟩
  | _ => .plain
abbrev n (o : Obj) (l r : BT) : BT := .node o l r
abbrev z : BT := .nil
def ev : Env := { scope := RR.prog.main.scope, locals := mainNs, globals := mainNs, cells := [], code := (R 13), frame := some 14 }
def th (i : Nat) (p : Pos) : Thread := ⟨denQ tabQ (.body (bd.drop i) ev), .body bd ev, p, [topFrame ⟨0, 0, 0, 0⟩]⟩
def sh (w : World) (os : OsState) (t : BT) (n k : Nat) : SharedT := ⟨t, n, (boot_heap w.params).life, #[], boot_drawn, k, os⟩
def t0 (P : Params) : BT := (n (boot_o_0 P) (n (boot_o_1 P) (n (boot_o_3 P) (n (boot_o_7 P) z z) z) (n (boot_o_5 P) (n (boot_o_9 P) z z) z)) (n (boot_o_2 P) (n (boot_o_4 P) (n (boot_o_8 P) z z) z) (n (boot_o_6 P) (n (boot_o_10 P) z z) z)))

def o2_1 (P : Params) : Obj := ⟨N, none, (.dict ⟨[E P "type.__subclasses__.ArithmeticError.0" 248 (I 57), E P "type.__subclasses__.ArithmeticError.n" 249 (I 1)]⟩ 2), ⟨[]⟩⟩
def o3_1 (P : Params) : Obj := ⟨(T "dict"), none, (.dict ⟨[E P "__name__" 165 (S "onemember.errors" 194), E P "__doc__" 166 N, E P "__package__" 167 N, E P "__loader__" 168 (B "__main__.__loader__#opaque"), E P "__spec__" 169 N, E P "__annotations__" 170 (R 6), E P "__builtins__" 171 (R 4), E P "__file__" 173 (S "/claim/cut.py" 172), E P "__cached__" 174 N, E P "_wall" 193 (R 21), E P "SetError" 213 (R 31), E P "StateError" 231 (R 44), E P "LimitError" 251 (R 57), E P "NotMembers" 276 (R 77), E P "NotAChange" 301 (R 96), E P "NotAnExpression" 326 (R 115), E P "InvalidForm" 351 (R 134), E P "InvalidText" 376 (R 153), E P "UnknownField" 401 (R 172), E P "InvalidNames" 426 (R 191), E P "InvalidSets" 451 (R 210)]⟩ 21), ⟨[]⟩⟩
def o11 : Obj := ⟨(T "tuple"), none, (.seq ⟨[]⟩ 0), ⟨[]⟩⟩
def o12 : Obj := ⟨N, none, (.fields ⟨[(I 1), (I 0), (R 20), (I 5), (I 0), (R 27), (I 7), (I 0), (R 40), (I 9), (I 0), (R 53), (I 11), (I 0), (R 66), (I 15), (I 0), (R 85), (I 19), (I 0), (R 104), (I 23), (I 0), (R 123), (I 27), (I 0), (R 142), (I 31), (I 0), (R 161), (I 35), (I 0), (R 180), (I 39), (I 0), (R 199)]⟩), ⟨[]⟩⟩
def o13 : Obj := ⟨(T "code"), none, (.fields ⟨[(S "<module>" 182), (S "<module>" 183), (S "/claim/cut.py" 184), (I 1), (I 0), (I 0), (I 0), (I 0), (R 11), (.bool false), (I 181), (R 12), N, N, N, N, (I 185), (I 1), (S "/claim/cut.py" 186)]⟩), ⟨[]⟩⟩
def o14 : Obj := ⟨(T "frame"), none, .plain, ⟨[some (R 13), some (R 3), some (R 3), none, some (S "__main__" 164), none, some (R 0)]⟩⟩
def o15 : Obj := ⟨(T "tuple"), none, (.seq ⟨[]⟩ 0), ⟨[]⟩⟩
def o16 : Obj := ⟨N, none, (.fields ⟨[]⟩), ⟨[]⟩⟩
def o17 : Obj := ⟨(T "tuple"), none, (.seq ⟨[(S "k" 190)]⟩ 0), ⟨[]⟩⟩
def o18 : Obj := ⟨(T "tuple"), none, (.seq ⟨[]⟩ 0), ⟨[]⟩⟩
def o19 : Obj := ⟨N, none, (F (A 0) (u "_wall") (u "_wall") 0 [] N N N N none N N 0), ⟨[]⟩⟩
def o20 : Obj := ⟨(T "code"), none, (.fields ⟨[(S "_wall" 187), (S "_wall" 188), (S "/claim/cut.py" 189), (I 1), (I 1), (I 0), (I 0), (I 3), (R 15), (.bool true), (I 181), (R 16), N, (R 17), (R 18), (R 19), (I 191), (I 1), (S "/claim/cut.py" 192)]⟩), ⟨[]⟩⟩
def o21 : Obj := ⟨(T "function"), none, (F (A 0) (u "_wall") (u "_wall") 3 [] N N N (S "__main__" 164) none (R 20) N 0), ⟨[]⟩⟩
def o22 : Obj := ⟨(T "tuple"), none, (.seq ⟨[(T "ValueError")]⟩ 0), ⟨[]⟩⟩
def o23 : Obj := ⟨(T "builtin_function_or_method"), none, (.fields ⟨[(B "type.__prepare__"), (T "type")]⟩), ⟨[]⟩⟩
def o24 (P : Params) : Obj := ⟨(T "dict"), none, (.dict ⟨[E P "__module__" 203 (S "onemember.errors" 194), E P "__qualname__" 205 (S "SetError" 204), E P "__firstlineno__" 207 (.int 5 206), E P "__static_attributes__" 208 (R 29)]⟩ 4), ⟨[]⟩⟩
def o25 : Obj := ⟨(T "tuple"), none, (.seq ⟨[]⟩ 0), ⟨[]⟩⟩
def o26 : Obj := ⟨N, none, (.fields ⟨[]⟩), ⟨[]⟩⟩
def o27 : Obj := ⟨(T "code"), none, (.fields ⟨[(S "SetError" 198), (S "SetError" 199), (S "/claim/cut.py" 200), (I 5), (I 0), (I 0), (I 0), (I 0), (R 25), (.bool false), (I 181), (R 26), N, N, N, N, (I 201), (I 5), (S "/claim/cut.py" 202)]⟩), ⟨[]⟩⟩
def o28 : Obj := ⟨(T "frame"), none, .plain, ⟨[some (R 27), some (R 3), some (R 24), none, some (S "onemember.errors" 194), none, some (R 0)]⟩⟩
def o29 : Obj := ⟨(T "tuple"), none, (.seq ⟨[]⟩ 0), ⟨[]⟩⟩
def o30 (P : Params) : Obj := ⟨(T "dict"), none, (.dict ⟨[E P "__module__" 203 (S "onemember.errors" 194), E P "__firstlineno__" 207 (.int 5 206), E P "__static_attributes__" 208 (R 29), E P "__weakref__" 210 (R 32), E P "__doc__" 211 N]⟩ 3), ⟨[]⟩⟩
def o31 : Obj := ⟨(T "type"), none, (.cls ⟨(u "SetError"), [(T "ValueError")], [(R 31), (T "ValueError"), (T "Exception"), (T "BaseException"), (T "object")], 30, (u "SetError"), true, [], [(R 77), (R 96), (R 115), (R 134), (R 153), (R 172), (R 191), (R 210)], false, none, false⟩), ⟨[some (R 22), none, some (S "SetError" 196), some (S "SetError" 204), some (B "ValueError.__new__"), some (.bool true)]⟩⟩
def o32 : Obj := ⟨(T "getset_descriptor"), none, (.fields ⟨[(S "__weakref__" 209), (R 31), (B "ExceptionGroup.__weakref__"), N]⟩), ⟨[]⟩⟩
def o33 : Obj := ⟨(T "super"), none, (.fields ⟨[(R 31), (R 31), (R 31)]⟩), ⟨[]⟩⟩
def o34 : Obj := ⟨(T "builtin_function_or_method"), none, (.fields ⟨[(B "object.__init_subclass__"), (R 31)]⟩), ⟨[]⟩⟩
def o35 : Obj := ⟨(T "tuple"), none, (.seq ⟨[(T "LookupError")]⟩ 0), ⟨[]⟩⟩
def o36 : Obj := ⟨(T "builtin_function_or_method"), none, (.fields ⟨[(B "type.__prepare__"), (T "type")]⟩), ⟨[]⟩⟩
def o37 (P : Params) : Obj := ⟨(T "dict"), none, (.dict ⟨[E P "__module__" 221 (S "onemember.errors" 194), E P "__qualname__" 223 (S "StateError" 222), E P "__firstlineno__" 225 (.int 7 224), E P "__static_attributes__" 226 (R 42)]⟩ 4), ⟨[]⟩⟩
def o38 : Obj := ⟨(T "tuple"), none, (.seq ⟨[]⟩ 0), ⟨[]⟩⟩
def o39 : Obj := ⟨N, none, (.fields ⟨[]⟩), ⟨[]⟩⟩
def o40 : Obj := ⟨(T "code"), none, (.fields ⟨[(S "StateError" 216), (S "StateError" 217), (S "/claim/cut.py" 218), (I 7), (I 0), (I 0), (I 0), (I 0), (R 38), (.bool false), (I 181), (R 39), N, N, N, N, (I 219), (I 7), (S "/claim/cut.py" 220)]⟩), ⟨[]⟩⟩
def o41 : Obj := ⟨(T "frame"), none, .plain, ⟨[some (R 40), some (R 3), some (R 37), none, some (S "onemember.errors" 194), none, some (R 0)]⟩⟩
def o42 : Obj := ⟨(T "tuple"), none, (.seq ⟨[]⟩ 0), ⟨[]⟩⟩
def o43 (P : Params) : Obj := ⟨(T "dict"), none, (.dict ⟨[E P "__module__" 221 (S "onemember.errors" 194), E P "__firstlineno__" 225 (.int 7 224), E P "__static_attributes__" 226 (R 42), E P "__weakref__" 228 (R 45), E P "__doc__" 229 N]⟩ 3), ⟨[]⟩⟩
def o44 : Obj := ⟨(T "type"), none, (.cls ⟨(u "StateError"), [(T "LookupError")], [(R 44), (T "LookupError"), (T "Exception"), (T "BaseException"), (T "object")], 43, (u "StateError"), true, [], [], false, none, false⟩), ⟨[some (R 35), none, some (S "StateError" 214), some (S "StateError" 222), some (B "LookupError.__new__"), some (.bool true)]⟩⟩
def o45 : Obj := ⟨(T "getset_descriptor"), none, (.fields ⟨[(S "__weakref__" 227), (R 44), (B "ExceptionGroup.__weakref__"), N]⟩), ⟨[]⟩⟩
def o46 : Obj := ⟨(T "super"), none, (.fields ⟨[(R 44), (R 44), (R 44)]⟩), ⟨[]⟩⟩
def o47 : Obj := ⟨(T "builtin_function_or_method"), none, (.fields ⟨[(B "object.__init_subclass__"), (R 44)]⟩), ⟨[]⟩⟩
def o48 : Obj := ⟨(T "tuple"), none, (.seq ⟨[(T "ArithmeticError")]⟩ 0), ⟨[]⟩⟩
def o49 : Obj := ⟨(T "builtin_function_or_method"), none, (.fields ⟨[(B "type.__prepare__"), (T "type")]⟩), ⟨[]⟩⟩
def o50 (P : Params) : Obj := ⟨(T "dict"), none, (.dict ⟨[E P "__module__" 239 (S "onemember.errors" 194), E P "__qualname__" 241 (S "LimitError" 240), E P "__firstlineno__" 243 (.int 9 242), E P "__static_attributes__" 244 (R 55)]⟩ 4), ⟨[]⟩⟩
def o51 : Obj := ⟨(T "tuple"), none, (.seq ⟨[]⟩ 0), ⟨[]⟩⟩
def o52 : Obj := ⟨N, none, (.fields ⟨[]⟩), ⟨[]⟩⟩
def o53 : Obj := ⟨(T "code"), none, (.fields ⟨[(S "LimitError" 234), (S "LimitError" 235), (S "/claim/cut.py" 236), (I 9), (I 0), (I 0), (I 0), (I 0), (R 51), (.bool false), (I 181), (R 52), N, N, N, N, (I 237), (I 9), (S "/claim/cut.py" 238)]⟩), ⟨[]⟩⟩
def o54 : Obj := ⟨(T "frame"), none, .plain, ⟨[some (R 53), some (R 3), some (R 50), none, some (S "onemember.errors" 194), none, some (R 0)]⟩⟩
def o55 : Obj := ⟨(T "tuple"), none, (.seq ⟨[]⟩ 0), ⟨[]⟩⟩
def o56 (P : Params) : Obj := ⟨(T "dict"), none, (.dict ⟨[E P "__module__" 239 (S "onemember.errors" 194), E P "__firstlineno__" 243 (.int 9 242), E P "__static_attributes__" 244 (R 55), E P "__weakref__" 246 (R 58), E P "__doc__" 247 N]⟩ 3), ⟨[]⟩⟩
def o57 : Obj := ⟨(T "type"), none, (.cls ⟨(u "LimitError"), [(T "ArithmeticError")], [(R 57), (T "ArithmeticError"), (T "Exception"), (T "BaseException"), (T "object")], 56, (u "LimitError"), true, [], [], false, none, false⟩), ⟨[some (R 48), none, some (S "LimitError" 232), some (S "LimitError" 240), some (B "ArithmeticError.__new__"), some (.bool true)]⟩⟩
def o58 : Obj := ⟨(T "getset_descriptor"), none, (.fields ⟨[(S "__weakref__" 245), (R 57), (B "ExceptionGroup.__weakref__"), N]⟩), ⟨[]⟩⟩
def o59 : Obj := ⟨(T "super"), none, (.fields ⟨[(R 57), (R 57), (R 57)]⟩), ⟨[]⟩⟩
def o60 : Obj := ⟨(T "builtin_function_or_method"), none, (.fields ⟨[(B "object.__init_subclass__"), (R 57)]⟩), ⟨[]⟩⟩
def o61 : Obj := ⟨(T "tuple"), none, (.seq ⟨[(R 31)]⟩ 0), ⟨[]⟩⟩
def o62 : Obj := ⟨(T "builtin_function_or_method"), none, (.fields ⟨[(B "type.__prepare__"), (T "type")]⟩), ⟨[]⟩⟩
def o63 (P : Params) : Obj := ⟨(T "dict"), none, (.dict ⟨[E P "__module__" 259 (S "onemember.errors" 194), E P "__qualname__" 261 (S "NotMembers" 260), E P "__firstlineno__" 263 (.int 11 262), E P "__init__" 271 (R 74), E P "__static_attributes__" 273 (R 75)]⟩ 5), ⟨[]⟩⟩
def o64 : Obj := ⟨(T "tuple"), none, (.seq ⟨[]⟩ 0), ⟨[]⟩⟩
def o65 : Obj := ⟨N, none, (.fields ⟨[(I 13), (I 4), (R 73)]⟩), ⟨[]⟩⟩
def o66 : Obj := ⟨(T "code"), none, (.fields ⟨[(S "NotMembers" 254), (S "NotMembers" 255), (S "/claim/cut.py" 256), (I 11), (I 0), (I 0), (I 0), (I 0), (R 64), (.bool false), (I 181), (R 65), N, N, N, N, (I 257), (I 11), (S "/claim/cut.py" 258)]⟩), ⟨[]⟩⟩
def o67 : Obj := ⟨(T "frame"), none, .plain, ⟨[some (R 66), some (R 3), some (R 63), none, some (S "onemember.errors" 194), none, some (R 0)]⟩⟩
def o68 : Obj := ⟨(T "tuple"), none, (.seq ⟨[]⟩ 0), ⟨[]⟩⟩
def o69 : Obj := ⟨N, none, (.fields ⟨[]⟩), ⟨[]⟩⟩
def o70 : Obj := ⟨(T "tuple"), none, (.seq ⟨[(S "self" 267), (S "value" 268)]⟩ 0), ⟨[]⟩⟩
def o71 : Obj := ⟨(T "tuple"), none, (.seq ⟨[]⟩ 0), ⟨[]⟩⟩
def o72 : Obj := ⟨N, none, (F (C 5 0) (u "__init__") (u "NotMembers.__init__") 0 [] N N N N none N N 0), ⟨[]⟩⟩
def o73 : Obj := ⟨(T "code"), none, (.fields ⟨[(S "__init__" 264), (S "NotMembers.__init__" 265), (S "/claim/cut.py" 266), (I 13), (I 2), (I 0), (I 0), (I 3), (R 68), (.bool true), (I 181), (R 69), N, (R 70), (R 71), (R 72), (I 269), (I 13), (S "/claim/cut.py" 270)]⟩), ⟨[]⟩⟩
def o74 : Obj := ⟨(T "function"), none, (F (C 5 0) (u "__init__") (u "NotMembers.__init__") 3 [] N N N (S "onemember.errors" 194) none (R 73) N 0), ⟨[]⟩⟩
def o75 : Obj := ⟨(T "tuple"), none, (.seq ⟨[(S "value" 272)]⟩ 0), ⟨[]⟩⟩
def o76 (P : Params) : Obj := ⟨(T "dict"), none, (.dict ⟨[E P "__module__" 259 (S "onemember.errors" 194), E P "__firstlineno__" 263 (.int 11 262), E P "__init__" 271 (R 74), E P "__static_attributes__" 273 (R 75), E P "__doc__" 274 N]⟩ 2), ⟨[]⟩⟩
def o77 : Obj := ⟨(T "type"), none, (.cls ⟨(u "NotMembers"), [(R 31)], [(R 77), (R 31), (T "ValueError"), (T "Exception"), (T "BaseException"), (T "object")], 76, (u "NotMembers"), true, [], [], false, none, false⟩), ⟨[some (R 61), none, some (S "NotMembers" 252), some (S "NotMembers" 260), some (B "ValueError.__new__"), some (.bool true)]⟩⟩
def o78 : Obj := ⟨(T "super"), none, (.fields ⟨[(R 77), (R 77), (R 77)]⟩), ⟨[]⟩⟩
def o79 : Obj := ⟨(T "builtin_function_or_method"), none, (.fields ⟨[(B "object.__init_subclass__"), (R 77)]⟩), ⟨[]⟩⟩
def o80 : Obj := ⟨(T "tuple"), none, (.seq ⟨[(R 31)]⟩ 0), ⟨[]⟩⟩
def o81 : Obj := ⟨(T "builtin_function_or_method"), none, (.fields ⟨[(B "type.__prepare__"), (T "type")]⟩), ⟨[]⟩⟩
def o82 (P : Params) : Obj := ⟨(T "dict"), none, (.dict ⟨[E P "__module__" 284 (S "onemember.errors" 194), E P "__qualname__" 286 (S "NotAChange" 285), E P "__firstlineno__" 288 (.int 15 287), E P "__init__" 296 (R 93), E P "__static_attributes__" 298 (R 94)]⟩ 5), ⟨[]⟩⟩
def o83 : Obj := ⟨(T "tuple"), none, (.seq ⟨[]⟩ 0), ⟨[]⟩⟩
def o84 : Obj := ⟨N, none, (.fields ⟨[(I 17), (I 4), (R 92)]⟩), ⟨[]⟩⟩
def o85 : Obj := ⟨(T "code"), none, (.fields ⟨[(S "NotAChange" 279), (S "NotAChange" 280), (S "/claim/cut.py" 281), (I 15), (I 0), (I 0), (I 0), (I 0), (R 83), (.bool false), (I 181), (R 84), N, N, N, N, (I 282), (I 15), (S "/claim/cut.py" 283)]⟩), ⟨[]⟩⟩
def o86 : Obj := ⟨(T "frame"), none, .plain, ⟨[some (R 85), some (R 3), some (R 82), none, some (S "onemember.errors" 194), none, some (R 0)]⟩⟩
def o87 : Obj := ⟨(T "tuple"), none, (.seq ⟨[]⟩ 0), ⟨[]⟩⟩
def o88 : Obj := ⟨N, none, (.fields ⟨[]⟩), ⟨[]⟩⟩
def o89 : Obj := ⟨(T "tuple"), none, (.seq ⟨[(S "self" 292), (S "value" 293)]⟩ 0), ⟨[]⟩⟩
def o90 : Obj := ⟨(T "tuple"), none, (.seq ⟨[]⟩ 0), ⟨[]⟩⟩
def o91 : Obj := ⟨N, none, (F (C 6 0) (u "__init__") (u "NotAChange.__init__") 0 [] N N N N none N N 0), ⟨[]⟩⟩
def o92 : Obj := ⟨(T "code"), none, (.fields ⟨[(S "__init__" 289), (S "NotAChange.__init__" 290), (S "/claim/cut.py" 291), (I 17), (I 2), (I 0), (I 0), (I 3), (R 87), (.bool true), (I 181), (R 88), N, (R 89), (R 90), (R 91), (I 294), (I 17), (S "/claim/cut.py" 295)]⟩), ⟨[]⟩⟩
def o93 : Obj := ⟨(T "function"), none, (F (C 6 0) (u "__init__") (u "NotAChange.__init__") 3 [] N N N (S "onemember.errors" 194) none (R 92) N 0), ⟨[]⟩⟩
def o94 : Obj := ⟨(T "tuple"), none, (.seq ⟨[(S "value" 297)]⟩ 0), ⟨[]⟩⟩
def o95 (P : Params) : Obj := ⟨(T "dict"), none, (.dict ⟨[E P "__module__" 284 (S "onemember.errors" 194), E P "__firstlineno__" 288 (.int 15 287), E P "__init__" 296 (R 93), E P "__static_attributes__" 298 (R 94), E P "__doc__" 299 N]⟩ 2), ⟨[]⟩⟩
def o96 : Obj := ⟨(T "type"), none, (.cls ⟨(u "NotAChange"), [(R 31)], [(R 96), (R 31), (T "ValueError"), (T "Exception"), (T "BaseException"), (T "object")], 95, (u "NotAChange"), true, [], [], false, none, false⟩), ⟨[some (R 80), none, some (S "NotAChange" 277), some (S "NotAChange" 285), some (B "ValueError.__new__"), some (.bool true)]⟩⟩
def o97 : Obj := ⟨(T "super"), none, (.fields ⟨[(R 96), (R 96), (R 96)]⟩), ⟨[]⟩⟩
def o98 : Obj := ⟨(T "builtin_function_or_method"), none, (.fields ⟨[(B "object.__init_subclass__"), (R 96)]⟩), ⟨[]⟩⟩
def o99 : Obj := ⟨(T "tuple"), none, (.seq ⟨[(R 31)]⟩ 0), ⟨[]⟩⟩
def o100 : Obj := ⟨(T "builtin_function_or_method"), none, (.fields ⟨[(B "type.__prepare__"), (T "type")]⟩), ⟨[]⟩⟩
def o101 (P : Params) : Obj := ⟨(T "dict"), none, (.dict ⟨[E P "__module__" 309 (S "onemember.errors" 194), E P "__qualname__" 311 (S "NotAnExpression" 310), E P "__firstlineno__" 313 (.int 19 312), E P "__init__" 321 (R 112), E P "__static_attributes__" 323 (R 113)]⟩ 5), ⟨[]⟩⟩
def o102 : Obj := ⟨(T "tuple"), none, (.seq ⟨[]⟩ 0), ⟨[]⟩⟩
def o103 : Obj := ⟨N, none, (.fields ⟨[(I 21), (I 4), (R 111)]⟩), ⟨[]⟩⟩
def o104 : Obj := ⟨(T "code"), none, (.fields ⟨[(S "NotAnExpression" 304), (S "NotAnExpression" 305), (S "/claim/cut.py" 306), (I 19), (I 0), (I 0), (I 0), (I 0), (R 102), (.bool false), (I 181), (R 103), N, N, N, N, (I 307), (I 19), (S "/claim/cut.py" 308)]⟩), ⟨[]⟩⟩
def o105 : Obj := ⟨(T "frame"), none, .plain, ⟨[some (R 104), some (R 3), some (R 101), none, some (S "onemember.errors" 194), none, some (R 0)]⟩⟩
def o106 : Obj := ⟨(T "tuple"), none, (.seq ⟨[]⟩ 0), ⟨[]⟩⟩
def o107 : Obj := ⟨N, none, (.fields ⟨[]⟩), ⟨[]⟩⟩
def o108 : Obj := ⟨(T "tuple"), none, (.seq ⟨[(S "self" 317), (S "value" 318)]⟩ 0), ⟨[]⟩⟩
def o109 : Obj := ⟨(T "tuple"), none, (.seq ⟨[]⟩ 0), ⟨[]⟩⟩
def o110 : Obj := ⟨N, none, (F (C 7 0) (u "__init__") (u "NotAnExpression.__init__") 0 [] N N N N none N N 0), ⟨[]⟩⟩
def o111 : Obj := ⟨(T "code"), none, (.fields ⟨[(S "__init__" 314), (S "NotAnExpression.__init__" 315), (S "/claim/cut.py" 316), (I 21), (I 2), (I 0), (I 0), (I 3), (R 106), (.bool true), (I 181), (R 107), N, (R 108), (R 109), (R 110), (I 319), (I 21), (S "/claim/cut.py" 320)]⟩), ⟨[]⟩⟩
def o112 : Obj := ⟨(T "function"), none, (F (C 7 0) (u "__init__") (u "NotAnExpression.__init__") 3 [] N N N (S "onemember.errors" 194) none (R 111) N 0), ⟨[]⟩⟩
def o113 : Obj := ⟨(T "tuple"), none, (.seq ⟨[(S "value" 322)]⟩ 0), ⟨[]⟩⟩
def o114 (P : Params) : Obj := ⟨(T "dict"), none, (.dict ⟨[E P "__module__" 309 (S "onemember.errors" 194), E P "__firstlineno__" 313 (.int 19 312), E P "__init__" 321 (R 112), E P "__static_attributes__" 323 (R 113), E P "__doc__" 324 N]⟩ 2), ⟨[]⟩⟩
def o115 : Obj := ⟨(T "type"), none, (.cls ⟨(u "NotAnExpression"), [(R 31)], [(R 115), (R 31), (T "ValueError"), (T "Exception"), (T "BaseException"), (T "object")], 114, (u "NotAnExpression"), true, [], [], false, none, false⟩), ⟨[some (R 99), none, some (S "NotAnExpression" 302), some (S "NotAnExpression" 310), some (B "ValueError.__new__"), some (.bool true)]⟩⟩
def o116 : Obj := ⟨(T "super"), none, (.fields ⟨[(R 115), (R 115), (R 115)]⟩), ⟨[]⟩⟩
def o117 : Obj := ⟨(T "builtin_function_or_method"), none, (.fields ⟨[(B "object.__init_subclass__"), (R 115)]⟩), ⟨[]⟩⟩
def o118 : Obj := ⟨(T "tuple"), none, (.seq ⟨[(R 31)]⟩ 0), ⟨[]⟩⟩
def o119 : Obj := ⟨(T "builtin_function_or_method"), none, (.fields ⟨[(B "type.__prepare__"), (T "type")]⟩), ⟨[]⟩⟩
def o120 (P : Params) : Obj := ⟨(T "dict"), none, (.dict ⟨[E P "__module__" 334 (S "onemember.errors" 194), E P "__qualname__" 336 (S "InvalidForm" 335), E P "__firstlineno__" 338 (.int 23 337), E P "__init__" 346 (R 131), E P "__static_attributes__" 348 (R 132)]⟩ 5), ⟨[]⟩⟩
def o121 : Obj := ⟨(T "tuple"), none, (.seq ⟨[]⟩ 0), ⟨[]⟩⟩
def o122 : Obj := ⟨N, none, (.fields ⟨[(I 25), (I 4), (R 130)]⟩), ⟨[]⟩⟩
def o123 : Obj := ⟨(T "code"), none, (.fields ⟨[(S "InvalidForm" 329), (S "InvalidForm" 330), (S "/claim/cut.py" 331), (I 23), (I 0), (I 0), (I 0), (I 0), (R 121), (.bool false), (I 181), (R 122), N, N, N, N, (I 332), (I 23), (S "/claim/cut.py" 333)]⟩), ⟨[]⟩⟩
def o124 : Obj := ⟨(T "frame"), none, .plain, ⟨[some (R 123), some (R 3), some (R 120), none, some (S "onemember.errors" 194), none, some (R 0)]⟩⟩
def o125 : Obj := ⟨(T "tuple"), none, (.seq ⟨[]⟩ 0), ⟨[]⟩⟩
def o126 : Obj := ⟨N, none, (.fields ⟨[]⟩), ⟨[]⟩⟩
def o127 : Obj := ⟨(T "tuple"), none, (.seq ⟨[(S "self" 342), (S "value" 343)]⟩ 0), ⟨[]⟩⟩
def o128 : Obj := ⟨(T "tuple"), none, (.seq ⟨[]⟩ 0), ⟨[]⟩⟩
def o129 : Obj := ⟨N, none, (F (C 8 0) (u "__init__") (u "InvalidForm.__init__") 0 [] N N N N none N N 0), ⟨[]⟩⟩
def o130 : Obj := ⟨(T "code"), none, (.fields ⟨[(S "__init__" 339), (S "InvalidForm.__init__" 340), (S "/claim/cut.py" 341), (I 25), (I 2), (I 0), (I 0), (I 3), (R 125), (.bool true), (I 181), (R 126), N, (R 127), (R 128), (R 129), (I 344), (I 25), (S "/claim/cut.py" 345)]⟩), ⟨[]⟩⟩
def o131 : Obj := ⟨(T "function"), none, (F (C 8 0) (u "__init__") (u "InvalidForm.__init__") 3 [] N N N (S "onemember.errors" 194) none (R 130) N 0), ⟨[]⟩⟩
def o132 : Obj := ⟨(T "tuple"), none, (.seq ⟨[(S "value" 347)]⟩ 0), ⟨[]⟩⟩
def o133 (P : Params) : Obj := ⟨(T "dict"), none, (.dict ⟨[E P "__module__" 334 (S "onemember.errors" 194), E P "__firstlineno__" 338 (.int 23 337), E P "__init__" 346 (R 131), E P "__static_attributes__" 348 (R 132), E P "__doc__" 349 N]⟩ 2), ⟨[]⟩⟩
def o134 : Obj := ⟨(T "type"), none, (.cls ⟨(u "InvalidForm"), [(R 31)], [(R 134), (R 31), (T "ValueError"), (T "Exception"), (T "BaseException"), (T "object")], 133, (u "InvalidForm"), true, [], [], false, none, false⟩), ⟨[some (R 118), none, some (S "InvalidForm" 327), some (S "InvalidForm" 335), some (B "ValueError.__new__"), some (.bool true)]⟩⟩
def o135 : Obj := ⟨(T "super"), none, (.fields ⟨[(R 134), (R 134), (R 134)]⟩), ⟨[]⟩⟩
def o136 : Obj := ⟨(T "builtin_function_or_method"), none, (.fields ⟨[(B "object.__init_subclass__"), (R 134)]⟩), ⟨[]⟩⟩
def o137 : Obj := ⟨(T "tuple"), none, (.seq ⟨[(R 31)]⟩ 0), ⟨[]⟩⟩
def o138 : Obj := ⟨(T "builtin_function_or_method"), none, (.fields ⟨[(B "type.__prepare__"), (T "type")]⟩), ⟨[]⟩⟩
def o139 (P : Params) : Obj := ⟨(T "dict"), none, (.dict ⟨[E P "__module__" 359 (S "onemember.errors" 194), E P "__qualname__" 361 (S "InvalidText" 360), E P "__firstlineno__" 363 (.int 27 362), E P "__init__" 371 (R 150), E P "__static_attributes__" 373 (R 151)]⟩ 5), ⟨[]⟩⟩
def o140 : Obj := ⟨(T "tuple"), none, (.seq ⟨[]⟩ 0), ⟨[]⟩⟩
def o141 : Obj := ⟨N, none, (.fields ⟨[(I 29), (I 4), (R 149)]⟩), ⟨[]⟩⟩
def o142 : Obj := ⟨(T "code"), none, (.fields ⟨[(S "InvalidText" 354), (S "InvalidText" 355), (S "/claim/cut.py" 356), (I 27), (I 0), (I 0), (I 0), (I 0), (R 140), (.bool false), (I 181), (R 141), N, N, N, N, (I 357), (I 27), (S "/claim/cut.py" 358)]⟩), ⟨[]⟩⟩
def o143 : Obj := ⟨(T "frame"), none, .plain, ⟨[some (R 142), some (R 3), some (R 139), none, some (S "onemember.errors" 194), none, some (R 0)]⟩⟩
def o144 : Obj := ⟨(T "tuple"), none, (.seq ⟨[]⟩ 0), ⟨[]⟩⟩
def o145 : Obj := ⟨N, none, (.fields ⟨[]⟩), ⟨[]⟩⟩
def o146 : Obj := ⟨(T "tuple"), none, (.seq ⟨[(S "self" 367), (S "value" 368)]⟩ 0), ⟨[]⟩⟩
def o147 : Obj := ⟨(T "tuple"), none, (.seq ⟨[]⟩ 0), ⟨[]⟩⟩
def o148 : Obj := ⟨N, none, (F (C 9 0) (u "__init__") (u "InvalidText.__init__") 0 [] N N N N none N N 0), ⟨[]⟩⟩
def o149 : Obj := ⟨(T "code"), none, (.fields ⟨[(S "__init__" 364), (S "InvalidText.__init__" 365), (S "/claim/cut.py" 366), (I 29), (I 2), (I 0), (I 0), (I 3), (R 144), (.bool true), (I 181), (R 145), N, (R 146), (R 147), (R 148), (I 369), (I 29), (S "/claim/cut.py" 370)]⟩), ⟨[]⟩⟩
def o150 : Obj := ⟨(T "function"), none, (F (C 9 0) (u "__init__") (u "InvalidText.__init__") 3 [] N N N (S "onemember.errors" 194) none (R 149) N 0), ⟨[]⟩⟩
def o151 : Obj := ⟨(T "tuple"), none, (.seq ⟨[(S "value" 372)]⟩ 0), ⟨[]⟩⟩
def o152 (P : Params) : Obj := ⟨(T "dict"), none, (.dict ⟨[E P "__module__" 359 (S "onemember.errors" 194), E P "__firstlineno__" 363 (.int 27 362), E P "__init__" 371 (R 150), E P "__static_attributes__" 373 (R 151), E P "__doc__" 374 N]⟩ 2), ⟨[]⟩⟩
def o153 : Obj := ⟨(T "type"), none, (.cls ⟨(u "InvalidText"), [(R 31)], [(R 153), (R 31), (T "ValueError"), (T "Exception"), (T "BaseException"), (T "object")], 152, (u "InvalidText"), true, [], [], false, none, false⟩), ⟨[some (R 137), none, some (S "InvalidText" 352), some (S "InvalidText" 360), some (B "ValueError.__new__"), some (.bool true)]⟩⟩
def o154 : Obj := ⟨(T "super"), none, (.fields ⟨[(R 153), (R 153), (R 153)]⟩), ⟨[]⟩⟩
def o155 : Obj := ⟨(T "builtin_function_or_method"), none, (.fields ⟨[(B "object.__init_subclass__"), (R 153)]⟩), ⟨[]⟩⟩
def o156 : Obj := ⟨(T "tuple"), none, (.seq ⟨[(R 31)]⟩ 0), ⟨[]⟩⟩
def o157 : Obj := ⟨(T "builtin_function_or_method"), none, (.fields ⟨[(B "type.__prepare__"), (T "type")]⟩), ⟨[]⟩⟩
def o158 (P : Params) : Obj := ⟨(T "dict"), none, (.dict ⟨[E P "__module__" 384 (S "onemember.errors" 194), E P "__qualname__" 386 (S "UnknownField" 385), E P "__firstlineno__" 388 (.int 31 387), E P "__init__" 396 (R 169), E P "__static_attributes__" 398 (R 170)]⟩ 5), ⟨[]⟩⟩
def o159 : Obj := ⟨(T "tuple"), none, (.seq ⟨[]⟩ 0), ⟨[]⟩⟩
def o160 : Obj := ⟨N, none, (.fields ⟨[(I 33), (I 4), (R 168)]⟩), ⟨[]⟩⟩
def o161 : Obj := ⟨(T "code"), none, (.fields ⟨[(S "UnknownField" 379), (S "UnknownField" 380), (S "/claim/cut.py" 381), (I 31), (I 0), (I 0), (I 0), (I 0), (R 159), (.bool false), (I 181), (R 160), N, N, N, N, (I 382), (I 31), (S "/claim/cut.py" 383)]⟩), ⟨[]⟩⟩
def o162 : Obj := ⟨(T "frame"), none, .plain, ⟨[some (R 161), some (R 3), some (R 158), none, some (S "onemember.errors" 194), none, some (R 0)]⟩⟩
def o163 : Obj := ⟨(T "tuple"), none, (.seq ⟨[]⟩ 0), ⟨[]⟩⟩
def o164 : Obj := ⟨N, none, (.fields ⟨[]⟩), ⟨[]⟩⟩
def o165 : Obj := ⟨(T "tuple"), none, (.seq ⟨[(S "self" 392), (S "value" 393)]⟩ 0), ⟨[]⟩⟩
def o166 : Obj := ⟨(T "tuple"), none, (.seq ⟨[]⟩ 0), ⟨[]⟩⟩
def o167 : Obj := ⟨N, none, (F (C 10 0) (u "__init__") (u "UnknownField.__init__") 0 [] N N N N none N N 0), ⟨[]⟩⟩
def o168 : Obj := ⟨(T "code"), none, (.fields ⟨[(S "__init__" 389), (S "UnknownField.__init__" 390), (S "/claim/cut.py" 391), (I 33), (I 2), (I 0), (I 0), (I 3), (R 163), (.bool true), (I 181), (R 164), N, (R 165), (R 166), (R 167), (I 394), (I 33), (S "/claim/cut.py" 395)]⟩), ⟨[]⟩⟩
def o169 : Obj := ⟨(T "function"), none, (F (C 10 0) (u "__init__") (u "UnknownField.__init__") 3 [] N N N (S "onemember.errors" 194) none (R 168) N 0), ⟨[]⟩⟩
def o170 : Obj := ⟨(T "tuple"), none, (.seq ⟨[(S "value" 397)]⟩ 0), ⟨[]⟩⟩
def o171 (P : Params) : Obj := ⟨(T "dict"), none, (.dict ⟨[E P "__module__" 384 (S "onemember.errors" 194), E P "__firstlineno__" 388 (.int 31 387), E P "__init__" 396 (R 169), E P "__static_attributes__" 398 (R 170), E P "__doc__" 399 N]⟩ 2), ⟨[]⟩⟩
def o172 : Obj := ⟨(T "type"), none, (.cls ⟨(u "UnknownField"), [(R 31)], [(R 172), (R 31), (T "ValueError"), (T "Exception"), (T "BaseException"), (T "object")], 171, (u "UnknownField"), true, [], [], false, none, false⟩), ⟨[some (R 156), none, some (S "UnknownField" 377), some (S "UnknownField" 385), some (B "ValueError.__new__"), some (.bool true)]⟩⟩
def o173 : Obj := ⟨(T "super"), none, (.fields ⟨[(R 172), (R 172), (R 172)]⟩), ⟨[]⟩⟩
def o174 : Obj := ⟨(T "builtin_function_or_method"), none, (.fields ⟨[(B "object.__init_subclass__"), (R 172)]⟩), ⟨[]⟩⟩
def o175 : Obj := ⟨(T "tuple"), none, (.seq ⟨[(R 31)]⟩ 0), ⟨[]⟩⟩
def o176 : Obj := ⟨(T "builtin_function_or_method"), none, (.fields ⟨[(B "type.__prepare__"), (T "type")]⟩), ⟨[]⟩⟩
def o177 (P : Params) : Obj := ⟨(T "dict"), none, (.dict ⟨[E P "__module__" 409 (S "onemember.errors" 194), E P "__qualname__" 411 (S "InvalidNames" 410), E P "__firstlineno__" 413 (.int 35 412), E P "__init__" 421 (R 188), E P "__static_attributes__" 423 (R 189)]⟩ 5), ⟨[]⟩⟩
def o178 : Obj := ⟨(T "tuple"), none, (.seq ⟨[]⟩ 0), ⟨[]⟩⟩
def o179 : Obj := ⟨N, none, (.fields ⟨[(I 37), (I 4), (R 187)]⟩), ⟨[]⟩⟩
def o180 : Obj := ⟨(T "code"), none, (.fields ⟨[(S "InvalidNames" 404), (S "InvalidNames" 405), (S "/claim/cut.py" 406), (I 35), (I 0), (I 0), (I 0), (I 0), (R 178), (.bool false), (I 181), (R 179), N, N, N, N, (I 407), (I 35), (S "/claim/cut.py" 408)]⟩), ⟨[]⟩⟩
def o181 : Obj := ⟨(T "frame"), none, .plain, ⟨[some (R 180), some (R 3), some (R 177), none, some (S "onemember.errors" 194), none, some (R 0)]⟩⟩
def o182 : Obj := ⟨(T "tuple"), none, (.seq ⟨[]⟩ 0), ⟨[]⟩⟩
def o183 : Obj := ⟨N, none, (.fields ⟨[]⟩), ⟨[]⟩⟩
def o184 : Obj := ⟨(T "tuple"), none, (.seq ⟨[(S "self" 417), (S "index" 418)]⟩ 0), ⟨[]⟩⟩
def o185 : Obj := ⟨(T "tuple"), none, (.seq ⟨[]⟩ 0), ⟨[]⟩⟩
def o186 : Obj := ⟨N, none, (F (C 11 0) (u "__init__") (u "InvalidNames.__init__") 0 [] N N N N none N N 0), ⟨[]⟩⟩
def o187 : Obj := ⟨(T "code"), none, (.fields ⟨[(S "__init__" 414), (S "InvalidNames.__init__" 415), (S "/claim/cut.py" 416), (I 37), (I 2), (I 0), (I 0), (I 3), (R 182), (.bool true), (I 181), (R 183), N, (R 184), (R 185), (R 186), (I 419), (I 37), (S "/claim/cut.py" 420)]⟩), ⟨[]⟩⟩
def o188 : Obj := ⟨(T "function"), none, (F (C 11 0) (u "__init__") (u "InvalidNames.__init__") 3 [] N N N (S "onemember.errors" 194) none (R 187) N 0), ⟨[]⟩⟩
def o189 : Obj := ⟨(T "tuple"), none, (.seq ⟨[(S "index" 422)]⟩ 0), ⟨[]⟩⟩
def o190 (P : Params) : Obj := ⟨(T "dict"), none, (.dict ⟨[E P "__module__" 409 (S "onemember.errors" 194), E P "__firstlineno__" 413 (.int 35 412), E P "__init__" 421 (R 188), E P "__static_attributes__" 423 (R 189), E P "__doc__" 424 N]⟩ 2), ⟨[]⟩⟩
def o191 : Obj := ⟨(T "type"), none, (.cls ⟨(u "InvalidNames"), [(R 31)], [(R 191), (R 31), (T "ValueError"), (T "Exception"), (T "BaseException"), (T "object")], 190, (u "InvalidNames"), true, [], [], false, none, false⟩), ⟨[some (R 175), none, some (S "InvalidNames" 402), some (S "InvalidNames" 410), some (B "ValueError.__new__"), some (.bool true)]⟩⟩
def o192 : Obj := ⟨(T "super"), none, (.fields ⟨[(R 191), (R 191), (R 191)]⟩), ⟨[]⟩⟩
def o193 : Obj := ⟨(T "builtin_function_or_method"), none, (.fields ⟨[(B "object.__init_subclass__"), (R 191)]⟩), ⟨[]⟩⟩
def o194 : Obj := ⟨(T "tuple"), none, (.seq ⟨[(R 31)]⟩ 0), ⟨[]⟩⟩
def o195 : Obj := ⟨(T "builtin_function_or_method"), none, (.fields ⟨[(B "type.__prepare__"), (T "type")]⟩), ⟨[]⟩⟩
def o196 (P : Params) : Obj := ⟨(T "dict"), none, (.dict ⟨[E P "__module__" 434 (S "onemember.errors" 194), E P "__qualname__" 436 (S "InvalidSets" 435), E P "__firstlineno__" 438 (.int 39 437), E P "__init__" 446 (R 207), E P "__static_attributes__" 448 (R 208)]⟩ 5), ⟨[]⟩⟩
def o197 : Obj := ⟨(T "tuple"), none, (.seq ⟨[]⟩ 0), ⟨[]⟩⟩
def o198 : Obj := ⟨N, none, (.fields ⟨[(I 41), (I 4), (R 206)]⟩), ⟨[]⟩⟩
def o199 : Obj := ⟨(T "code"), none, (.fields ⟨[(S "InvalidSets" 429), (S "InvalidSets" 430), (S "/claim/cut.py" 431), (I 39), (I 0), (I 0), (I 0), (I 0), (R 197), (.bool false), (I 181), (R 198), N, N, N, N, (I 432), (I 39), (S "/claim/cut.py" 433)]⟩), ⟨[]⟩⟩
def o200 : Obj := ⟨(T "frame"), none, .plain, ⟨[some (R 199), some (R 3), some (R 196), none, some (S "onemember.errors" 194), none, some (R 0)]⟩⟩
def o201 : Obj := ⟨(T "tuple"), none, (.seq ⟨[]⟩ 0), ⟨[]⟩⟩
def o202 : Obj := ⟨N, none, (.fields ⟨[]⟩), ⟨[]⟩⟩
def o203 : Obj := ⟨(T "tuple"), none, (.seq ⟨[(S "self" 442), (S "index" 443)]⟩ 0), ⟨[]⟩⟩
def o204 : Obj := ⟨(T "tuple"), none, (.seq ⟨[]⟩ 0), ⟨[]⟩⟩
def o205 : Obj := ⟨N, none, (F (C 12 0) (u "__init__") (u "InvalidSets.__init__") 0 [] N N N N none N N 0), ⟨[]⟩⟩
def o206 : Obj := ⟨(T "code"), none, (.fields ⟨[(S "__init__" 439), (S "InvalidSets.__init__" 440), (S "/claim/cut.py" 441), (I 41), (I 2), (I 0), (I 0), (I 3), (R 201), (.bool true), (I 181), (R 202), N, (R 203), (R 204), (R 205), (I 444), (I 41), (S "/claim/cut.py" 445)]⟩), ⟨[]⟩⟩
def o207 : Obj := ⟨(T "function"), none, (F (C 12 0) (u "__init__") (u "InvalidSets.__init__") 3 [] N N N (S "onemember.errors" 194) none (R 206) N 0), ⟨[]⟩⟩
def o208 : Obj := ⟨(T "tuple"), none, (.seq ⟨[(S "index" 447)]⟩ 0), ⟨[]⟩⟩
def o209 (P : Params) : Obj := ⟨(T "dict"), none, (.dict ⟨[E P "__module__" 434 (S "onemember.errors" 194), E P "__firstlineno__" 438 (.int 39 437), E P "__init__" 446 (R 207), E P "__static_attributes__" 448 (R 208), E P "__doc__" 449 N]⟩ 2), ⟨[]⟩⟩
def o210 : Obj := ⟨(T "type"), none, (.cls ⟨(u "InvalidSets"), [(R 31)], [(R 210), (R 31), (T "ValueError"), (T "Exception"), (T "BaseException"), (T "object")], 209, (u "InvalidSets"), true, [], [], false, none, false⟩), ⟨[some (R 194), none, some (S "InvalidSets" 427), some (S "InvalidSets" 435), some (B "ValueError.__new__"), some (.bool true)]⟩⟩
def o211 : Obj := ⟨(T "super"), none, (.fields ⟨[(R 210), (R 210), (R 210)]⟩), ⟨[]⟩⟩
def o212 : Obj := ⟨(T "builtin_function_or_method"), none, (.fields ⟨[(B "object.__init_subclass__"), (R 210)]⟩), ⟨[]⟩⟩
def t1 (P : Params) : BT := (n (boot_o_0 P) (n (boot_o_1 P) (n (o3_1 P) (n (boot_o_7 P) (n o15 (n o31 (n (o63 P) (n o127 z z) (n o191 z z)) (n (o95 P) (n o159 z z) z)) (n o47 (n o79 (n o143 z z) (n o207 z z)) (n o111 (n o175 z z) z))) (n o23 (n o39 (n o71 (n o135 z z) (n o199 z z)) (n o103 (n o167 z z) z)) (n o55 (n o87 (n o151 z z) z) (n o119 (n o183 z z) z)))) (n o11 (n o19 (n o35 (n o67 (n o131 z z) (n o195 z z)) (n o99 (n o163 z z) z)) (n o51 (n o83 (n o147 z z) (n o211 z z)) (n o115 (n o179 z z) z))) (n o27 (n (o43 P) (n o75 (n (o139 P) z z) (n o203 z z)) (n o107 (n (o171 P) z z) z)) (n o59 (n o91 (n o155 z z) z) (n o123 (n o187 z z) z))))) (n (boot_o_5 P) (n (boot_o_9 P) (n o17 (n o33 (n o65 (n o129 z z) (n o193 z z)) (n o97 (n o161 z z) z)) (n o49 (n o81 (n o145 z z) (n (o209 P) z z)) (n o113 (n (o177 P) z z) z))) (n o25 (n o41 (n o73 (n o137 z z) (n o201 z z)) (n o105 (n o169 z z) z)) (n o57 (n o89 (n o153 z z) z) (n o121 (n o185 z z) z)))) (n o13 (n o21 (n (o37 P) (n o69 (n (o133 P) z z) (n o197 z z)) (n (o101 P) (n o165 z z) z)) (n o53 (n o85 (n o149 z z) z) (n o117 (n o181 z z) z))) (n o29 (n o45 (n o77 (n o141 z z) (n o205 z z)) (n o109 (n o173 z z) z)) (n o61 (n o93 (n o157 z z) z) (n o125 (n o189 z z) z)))))) (n (o2_1 P) (n (boot_o_4 P) (n (boot_o_8 P) (n o16 (n o32 (n o64 (n o128 z z) (n o192 z z)) (n o96 (n o160 z z) z)) (n o48 (n o80 (n o144 z z) (n o208 z z)) (n o112 (n o176 z z) z))) (n (o24 P) (n o40 (n o72 (n o136 z z) (n o200 z z)) (n o104 (n o168 z z) z)) (n (o56 P) (n o88 (n (o152 P) z z) z) (n (o120 P) (n o184 z z) z)))) (n o12 (n o20 (n o36 (n o68 (n o132 z z) (n (o196 P) z z)) (n o100 (n o164 z z) z)) (n o52 (n o84 (n o148 z z) (n o212 z z)) (n o116 (n o180 z z) z))) (n o28 (n o44 (n (o76 P) (n o140 z z) (n o204 z z)) (n o108 (n o172 z z) z)) (n o60 (n o92 (n o156 z z) z) (n o124 (n o188 z z) z))))) (n (boot_o_6 P) (n (boot_o_10 P) (n o18 (n o34 (n o66 (n o130 z z) (n o194 z z)) (n o98 (n o162 z z) z)) (n (o50 P) (n (o82 P) (n o146 z z) (n o210 z z)) (n (o114 P) (n o178 z z) z))) (n o26 (n o42 (n o74 (n o138 z z) (n o202 z z)) (n o106 (n o170 z z) z)) (n o58 (n o90 (n o154 z z) z) (n o122 (n o186 z z) z)))) (n o14 (n o22 (n o38 (n o70 (n o134 z z) (n o198 z z)) (n o102 (n o166 z z) z)) (n o54 (n o86 (n o150 z z) z) (n o118 (n o182 z z) z))) (n (o30 P) (n o46 (n o78 (n o142 z z) (n o206 z z)) (n o110 (n o174 z z) z)) (n o62 (n o94 (n (o158 P) z z) z) (n o126 (n (o190 P) z z) z)))))))
def o3_2 (P : Params) : Obj := ⟨(T "dict"), none, (.dict ⟨[E P "__name__" 165 (S "onemember.members" 686), E P "__doc__" 166 N, E P "__package__" 167 N, E P "__loader__" 168 (B "__main__.__loader__#opaque"), E P "__spec__" 169 N, E P "__annotations__" 170 (R 6), E P "__builtins__" 171 (R 4), E P "__file__" 173 (S "/claim/cut.py" 172), E P "__cached__" 174 N, E P "_wall" 193 (R 21), E P "SetError" 213 (R 31), E P "StateError" 231 (R 44), E P "LimitError" 251 (R 57), E P "NotMembers" 276 (R 77), E P "NotAChange" 301 (R 96), E P "NotAnExpression" 326 (R 115), E P "InvalidForm" 351 (R 134), E P "InvalidText" 376 (R 153), E P "UnknownField" 401 (R 172), E P "InvalidNames" 426 (R 191), E P "InvalidSets" 451 (R 210), E P "NotComparable" 467 (R 222), E P "TooManyLeaves" 492 (R 241), E P "TooManyLevels" 517 (R 260), E P "MOST_LEAVES" 519 (.int 200 518), E P "MOST_DEPTH" 521 (.int 20 520), E P "LONGEST_NAME" 525 (.int 8 524), E P "is_name" 532 (R 269), E P "wrong_at" 541 (R 276), E P "wrong_or_twice_at" 551 (R 283), E P "SIGNS" 558 (R 284), E P "GIVEN" 560 (S "given" 559), E P "NONE" 562 (S "none" 561), E P "is_field" 569 (R 291), E P "form_size" 575 (R 296), E P "is_triple" 582 (R 303), E P "check_leaves" 589 (R 310), E P "check_depth" 596 (R 317), E P "form_text" 606 (R 324), E P "side_text" 613 (R 331), E P "read_counted" 624 (R 338), E P "take_word" 633 (R 345), E P "joined" 645 (R 352), E P "form_leaves" 652 (R 359), E P "form_fields" 658 (R 364), E P "form_meets" 672 (R 371), E P "form_value" 685 (R 378), E P "Members" 906 (R 548)]⟩ 48), ⟨[]⟩⟩
def o12_2 : Obj := ⟨N, none, (.fields ⟨[(I 1), (I 0), (R 20), (I 5), (I 0), (R 27), (I 7), (I 0), (R 40), (I 9), (I 0), (R 53), (I 11), (I 0), (R 66), (I 15), (I 0), (R 85), (I 19), (I 0), (R 104), (I 23), (I 0), (R 123), (I 27), (I 0), (R 142), (I 31), (I 0), (R 161), (I 35), (I 0), (R 180), (I 39), (I 0), (R 199), (I 43), (I 0), (R 218), (I 45), (I 0), (R 230), (I 49), (I 0), (R 249), (I 57), (I 0), (R 268), (I 63), (I 0), (R 275), (I 68), (I 0), (R 282), (I 79), (I 0), (R 290), (I 81), (I 0), (R 295), (I 96), (I 0), (R 302), (I 98), (I 0), (R 309), (I 101), (I 0), (R 316), (I 104), (I 0), (R 323), (I 109), (I 0), (R 330), (I 113), (I 0), (R 337), (I 127), (I 0), (R 344), (I 141), (I 0), (R 351), (I 144), (I 0), (R 358), (I 148), (I 0), (R 363), (I 151), (I 0), (R 370), (I 168), (I 0), (R 377), (I 182), (I 0), (R 384)]⟩), ⟨[]⟩⟩
def o44_2 : Obj := ⟨(T "type"), none, (.cls ⟨(u "StateError"), [(T "LookupError")], [(R 44), (T "LookupError"), (T "Exception"), (T "BaseException"), (T "object")], 43, (u "StateError"), true, [], [(R 222)], false, none, false⟩), ⟨[some (R 35), none, some (S "StateError" 214), some (S "StateError" 222), some (B "LookupError.__new__"), some (.bool true)]⟩⟩
def o57_2 : Obj := ⟨(T "type"), none, (.cls ⟨(u "LimitError"), [(T "ArithmeticError")], [(R 57), (T "ArithmeticError"), (T "Exception"), (T "BaseException"), (T "object")], 56, (u "LimitError"), true, [], [(R 241), (R 260)], false, none, false⟩), ⟨[some (R 48), none, some (S "LimitError" 232), some (S "LimitError" 240), some (B "ArithmeticError.__new__"), some (.bool true)]⟩⟩
def o213 : Obj := ⟨(T "tuple"), none, (.seq ⟨[(R 44)]⟩ 0), ⟨[]⟩⟩
def o214 : Obj := ⟨(T "builtin_function_or_method"), none, (.fields ⟨[(B "type.__prepare__"), (T "type")]⟩), ⟨[]⟩⟩
def o215 (P : Params) : Obj := ⟨(T "dict"), none, (.dict ⟨[E P "__module__" 459 (S "onemember.errors" 194), E P "__qualname__" 461 (S "NotComparable" 460), E P "__firstlineno__" 463 (.int 43 462), E P "__static_attributes__" 464 (R 220)]⟩ 4), ⟨[]⟩⟩
def o216 : Obj := ⟨(T "tuple"), none, (.seq ⟨[]⟩ 0), ⟨[]⟩⟩
def o217 : Obj := ⟨N, none, (.fields ⟨[]⟩), ⟨[]⟩⟩
def o218 : Obj := ⟨(T "code"), none, (.fields ⟨[(S "NotComparable" 454), (S "NotComparable" 455), (S "/claim/cut.py" 456), (I 43), (I 0), (I 0), (I 0), (I 0), (R 216), (.bool false), (I 181), (R 217), N, N, N, N, (I 457), (I 43), (S "/claim/cut.py" 458)]⟩), ⟨[]⟩⟩
def o219 : Obj := ⟨(T "frame"), none, .plain, ⟨[some (R 218), some (R 3), some (R 215), none, some (S "onemember.errors" 194), none, some (R 0)]⟩⟩
def o220 : Obj := ⟨(T "tuple"), none, (.seq ⟨[]⟩ 0), ⟨[]⟩⟩
def o221 (P : Params) : Obj := ⟨(T "dict"), none, (.dict ⟨[E P "__module__" 459 (S "onemember.errors" 194), E P "__firstlineno__" 463 (.int 43 462), E P "__static_attributes__" 464 (R 220), E P "__doc__" 465 N]⟩ 2), ⟨[]⟩⟩
def o222 : Obj := ⟨(T "type"), none, (.cls ⟨(u "NotComparable"), [(R 44)], [(R 222), (R 44), (T "LookupError"), (T "Exception"), (T "BaseException"), (T "object")], 221, (u "NotComparable"), true, [], [], false, none, false⟩), ⟨[some (R 213), none, some (S "NotComparable" 452), some (S "NotComparable" 460), some (B "LookupError.__new__"), some (.bool true)]⟩⟩
def o223 : Obj := ⟨(T "super"), none, (.fields ⟨[(R 222), (R 222), (R 222)]⟩), ⟨[]⟩⟩
def o224 : Obj := ⟨(T "builtin_function_or_method"), none, (.fields ⟨[(B "object.__init_subclass__"), (R 222)]⟩), ⟨[]⟩⟩
def o225 : Obj := ⟨(T "tuple"), none, (.seq ⟨[(R 57)]⟩ 0), ⟨[]⟩⟩
def o226 : Obj := ⟨(T "builtin_function_or_method"), none, (.fields ⟨[(B "type.__prepare__"), (T "type")]⟩), ⟨[]⟩⟩
def o227 (P : Params) : Obj := ⟨(T "dict"), none, (.dict ⟨[E P "__module__" 475 (S "onemember.errors" 194), E P "__qualname__" 477 (S "TooManyLeaves" 476), E P "__firstlineno__" 479 (.int 45 478), E P "__init__" 487 (R 238), E P "__static_attributes__" 489 (R 239)]⟩ 5), ⟨[]⟩⟩
def o228 : Obj := ⟨(T "tuple"), none, (.seq ⟨[]⟩ 0), ⟨[]⟩⟩
def o229 : Obj := ⟨N, none, (.fields ⟨[(I 47), (I 4), (R 237)]⟩), ⟨[]⟩⟩
def o230 : Obj := ⟨(T "code"), none, (.fields ⟨[(S "TooManyLeaves" 470), (S "TooManyLeaves" 471), (S "/claim/cut.py" 472), (I 45), (I 0), (I 0), (I 0), (I 0), (R 228), (.bool false), (I 181), (R 229), N, N, N, N, (I 473), (I 45), (S "/claim/cut.py" 474)]⟩), ⟨[]⟩⟩
def o231 : Obj := ⟨(T "frame"), none, .plain, ⟨[some (R 230), some (R 3), some (R 227), none, some (S "onemember.errors" 194), none, some (R 0)]⟩⟩
def o232 : Obj := ⟨(T "tuple"), none, (.seq ⟨[]⟩ 0), ⟨[]⟩⟩
def o233 : Obj := ⟨N, none, (.fields ⟨[]⟩), ⟨[]⟩⟩
def o234 : Obj := ⟨(T "tuple"), none, (.seq ⟨[(S "self" 483), (S "limit" 484)]⟩ 0), ⟨[]⟩⟩
def o235 : Obj := ⟨(T "tuple"), none, (.seq ⟨[]⟩ 0), ⟨[]⟩⟩
def o236 : Obj := ⟨N, none, (F (C 14 0) (u "__init__") (u "TooManyLeaves.__init__") 0 [] N N N N none N N 0), ⟨[]⟩⟩
def o237 : Obj := ⟨(T "code"), none, (.fields ⟨[(S "__init__" 480), (S "TooManyLeaves.__init__" 481), (S "/claim/cut.py" 482), (I 47), (I 2), (I 0), (I 0), (I 3), (R 232), (.bool true), (I 181), (R 233), N, (R 234), (R 235), (R 236), (I 485), (I 47), (S "/claim/cut.py" 486)]⟩), ⟨[]⟩⟩
def o238 : Obj := ⟨(T "function"), none, (F (C 14 0) (u "__init__") (u "TooManyLeaves.__init__") 3 [] N N N (S "onemember.errors" 194) none (R 237) N 0), ⟨[]⟩⟩
def o239 : Obj := ⟨(T "tuple"), none, (.seq ⟨[(S "limit" 488)]⟩ 0), ⟨[]⟩⟩
def o240 (P : Params) : Obj := ⟨(T "dict"), none, (.dict ⟨[E P "__module__" 475 (S "onemember.errors" 194), E P "__firstlineno__" 479 (.int 45 478), E P "__init__" 487 (R 238), E P "__static_attributes__" 489 (R 239), E P "__doc__" 490 N]⟩ 2), ⟨[]⟩⟩
def o241 : Obj := ⟨(T "type"), none, (.cls ⟨(u "TooManyLeaves"), [(R 57)], [(R 241), (R 57), (T "ArithmeticError"), (T "Exception"), (T "BaseException"), (T "object")], 240, (u "TooManyLeaves"), true, [], [], false, none, false⟩), ⟨[some (R 225), none, some (S "TooManyLeaves" 468), some (S "TooManyLeaves" 476), some (B "ArithmeticError.__new__"), some (.bool true)]⟩⟩
def o242 : Obj := ⟨(T "super"), none, (.fields ⟨[(R 241), (R 241), (R 241)]⟩), ⟨[]⟩⟩
def o243 : Obj := ⟨(T "builtin_function_or_method"), none, (.fields ⟨[(B "object.__init_subclass__"), (R 241)]⟩), ⟨[]⟩⟩
def o244 : Obj := ⟨(T "tuple"), none, (.seq ⟨[(R 57)]⟩ 0), ⟨[]⟩⟩
def o245 : Obj := ⟨(T "builtin_function_or_method"), none, (.fields ⟨[(B "type.__prepare__"), (T "type")]⟩), ⟨[]⟩⟩
def o246 (P : Params) : Obj := ⟨(T "dict"), none, (.dict ⟨[E P "__module__" 500 (S "onemember.errors" 194), E P "__qualname__" 502 (S "TooManyLevels" 501), E P "__firstlineno__" 504 (.int 49 503), E P "__init__" 512 (R 257), E P "__static_attributes__" 514 (R 258)]⟩ 5), ⟨[]⟩⟩
def o247 : Obj := ⟨(T "tuple"), none, (.seq ⟨[]⟩ 0), ⟨[]⟩⟩
def o248 : Obj := ⟨N, none, (.fields ⟨[(I 51), (I 4), (R 256)]⟩), ⟨[]⟩⟩
def o249 : Obj := ⟨(T "code"), none, (.fields ⟨[(S "TooManyLevels" 495), (S "TooManyLevels" 496), (S "/claim/cut.py" 497), (I 49), (I 0), (I 0), (I 0), (I 0), (R 247), (.bool false), (I 181), (R 248), N, N, N, N, (I 498), (I 49), (S "/claim/cut.py" 499)]⟩), ⟨[]⟩⟩
def o250 : Obj := ⟨(T "frame"), none, .plain, ⟨[some (R 249), some (R 3), some (R 246), none, some (S "onemember.errors" 194), none, some (R 0)]⟩⟩
def o251 : Obj := ⟨(T "tuple"), none, (.seq ⟨[]⟩ 0), ⟨[]⟩⟩
def o252 : Obj := ⟨N, none, (.fields ⟨[]⟩), ⟨[]⟩⟩
def o253 : Obj := ⟨(T "tuple"), none, (.seq ⟨[(S "self" 508), (S "limit" 509)]⟩ 0), ⟨[]⟩⟩
def o254 : Obj := ⟨(T "tuple"), none, (.seq ⟨[]⟩ 0), ⟨[]⟩⟩
def o255 : Obj := ⟨N, none, (F (C 15 0) (u "__init__") (u "TooManyLevels.__init__") 0 [] N N N N none N N 0), ⟨[]⟩⟩
def o256 : Obj := ⟨(T "code"), none, (.fields ⟨[(S "__init__" 505), (S "TooManyLevels.__init__" 506), (S "/claim/cut.py" 507), (I 51), (I 2), (I 0), (I 0), (I 3), (R 251), (.bool true), (I 181), (R 252), N, (R 253), (R 254), (R 255), (I 510), (I 51), (S "/claim/cut.py" 511)]⟩), ⟨[]⟩⟩
def o257 : Obj := ⟨(T "function"), none, (F (C 15 0) (u "__init__") (u "TooManyLevels.__init__") 3 [] N N N (S "onemember.errors" 194) none (R 256) N 0), ⟨[]⟩⟩
def o258 : Obj := ⟨(T "tuple"), none, (.seq ⟨[(S "limit" 513)]⟩ 0), ⟨[]⟩⟩
def o259 (P : Params) : Obj := ⟨(T "dict"), none, (.dict ⟨[E P "__module__" 500 (S "onemember.errors" 194), E P "__firstlineno__" 504 (.int 49 503), E P "__init__" 512 (R 257), E P "__static_attributes__" 514 (R 258), E P "__doc__" 515 N]⟩ 2), ⟨[]⟩⟩
def o260 : Obj := ⟨(T "type"), none, (.cls ⟨(u "TooManyLevels"), [(R 57)], [(R 260), (R 57), (T "ArithmeticError"), (T "Exception"), (T "BaseException"), (T "object")], 259, (u "TooManyLevels"), true, [], [], false, none, false⟩), ⟨[some (R 244), none, some (S "TooManyLevels" 493), some (S "TooManyLevels" 501), some (B "ArithmeticError.__new__"), some (.bool true)]⟩⟩
def o261 : Obj := ⟨(T "super"), none, (.fields ⟨[(R 260), (R 260), (R 260)]⟩), ⟨[]⟩⟩
def o262 : Obj := ⟨(T "builtin_function_or_method"), none, (.fields ⟨[(B "object.__init_subclass__"), (R 260)]⟩), ⟨[]⟩⟩
def o263 : Obj := ⟨(T "tuple"), none, (.seq ⟨[]⟩ 0), ⟨[]⟩⟩
def o264 : Obj := ⟨N, none, (.fields ⟨[]⟩), ⟨[]⟩⟩
def o265 : Obj := ⟨(T "tuple"), none, (.seq ⟨[(S "value" 529)]⟩ 0), ⟨[]⟩⟩
def o266 : Obj := ⟨(T "tuple"), none, (.seq ⟨[]⟩ 0), ⟨[]⟩⟩
def o267 : Obj := ⟨N, none, (F (A 20) (u "is_name") (u "is_name") 0 [] N N N N none N N 0), ⟨[]⟩⟩
def o268 : Obj := ⟨(T "code"), none, (.fields ⟨[(S "is_name" 526), (S "is_name" 527), (S "/claim/cut.py" 528), (I 57), (I 1), (I 0), (I 0), (I 3), (R 263), (.bool true), (I 181), (R 264), N, (R 265), (R 266), (R 267), (I 530), (I 57), (S "/claim/cut.py" 531)]⟩), ⟨[]⟩⟩
def o269 : Obj := ⟨(T "function"), none, (F (A 20) (u "is_name") (u "is_name") 3 [] N N N (S "onemember.names" 522) none (R 268) N 0), ⟨[]⟩⟩
def o270 : Obj := ⟨(T "tuple"), none, (.seq ⟨[]⟩ 0), ⟨[]⟩⟩
def o271 : Obj := ⟨N, none, (.fields ⟨[]⟩), ⟨[]⟩⟩
def o272 : Obj := ⟨(T "tuple"), none, (.seq ⟨[(S "values" 536), (S "at" 537), (S "value" 538)]⟩ 0), ⟨[]⟩⟩
def o273 : Obj := ⟨(T "tuple"), none, (.seq ⟨[]⟩ 0), ⟨[]⟩⟩
def o274 : Obj := ⟨N, none, (F (A 21) (u "wrong_at") (u "wrong_at") 0 [] N N N N none N N 0), ⟨[]⟩⟩
def o275 : Obj := ⟨(T "code"), none, (.fields ⟨[(S "wrong_at" 533), (S "wrong_at" 534), (S "/claim/cut.py" 535), (I 63), (I 1), (I 0), (I 0), (I 3), (R 270), (.bool true), (I 181), (R 271), N, (R 272), (R 273), (R 274), (I 539), (I 63), (S "/claim/cut.py" 540)]⟩), ⟨[]⟩⟩
def o276 : Obj := ⟨(T "function"), none, (F (A 21) (u "wrong_at") (u "wrong_at") 3 [] N N N (S "onemember.names" 522) none (R 275) N 0), ⟨[]⟩⟩
def o277 : Obj := ⟨(T "tuple"), none, (.seq ⟨[]⟩ 0), ⟨[]⟩⟩
def o278 : Obj := ⟨N, none, (.fields ⟨[]⟩), ⟨[]⟩⟩
def o279 : Obj := ⟨(T "tuple"), none, (.seq ⟨[(S "values" 545), (S "seen" 546), (S "at" 547), (S "value" 548)]⟩ 0), ⟨[]⟩⟩
def o280 : Obj := ⟨(T "tuple"), none, (.seq ⟨[]⟩ 0), ⟨[]⟩⟩
def o281 : Obj := ⟨N, none, (F (A 22) (u "wrong_or_twice_at") (u "wrong_or_twice_at") 0 [] N N N N none N N 0), ⟨[]⟩⟩
def o282 : Obj := ⟨(T "code"), none, (.fields ⟨[(S "wrong_or_twice_at" 542), (S "wrong_or_twice_at" 543), (S "/claim/cut.py" 544), (I 68), (I 1), (I 0), (I 0), (I 3), (R 277), (.bool true), (I 181), (R 278), N, (R 279), (R 280), (R 281), (I 549), (I 68), (S "/claim/cut.py" 550)]⟩), ⟨[]⟩⟩
def o283 : Obj := ⟨(T "function"), none, (F (A 22) (u "wrong_or_twice_at") (u "wrong_or_twice_at") 3 [] N N N (S "onemember.names" 522) none (R 282) N 0), ⟨[]⟩⟩
def o284 : Obj := ⟨(T "tuple"), none, (.seq ⟨[(S "|" 554), (S "&" 555), (S "-" 556), (S "^" 557)]⟩ 0), ⟨[]⟩⟩
def o285 : Obj := ⟨(T "tuple"), none, (.seq ⟨[]⟩ 0), ⟨[]⟩⟩
def o286 : Obj := ⟨N, none, (.fields ⟨[]⟩), ⟨[]⟩⟩
def o287 : Obj := ⟨(T "tuple"), none, (.seq ⟨[(S "value" 566)]⟩ 0), ⟨[]⟩⟩
def o288 : Obj := ⟨(T "tuple"), none, (.seq ⟨[]⟩ 0), ⟨[]⟩⟩
def o289 : Obj := ⟨N, none, (F (A 27) (u "is_field") (u "is_field") 0 [] N N N N none N N 0), ⟨[]⟩⟩
def o290 : Obj := ⟨(T "code"), none, (.fields ⟨[(S "is_field" 563), (S "is_field" 564), (S "/claim/cut.py" 565), (I 79), (I 1), (I 0), (I 0), (I 3), (R 285), (.bool true), (I 181), (R 286), N, (R 287), (R 288), (R 289), (I 567), (I 79), (S "/claim/cut.py" 568)]⟩), ⟨[]⟩⟩
def o291 : Obj := ⟨(T "function"), none, (F (A 27) (u "is_field") (u "is_field") 3 [] N N N (S "onemember.forms" 552) none (R 290) N 0), ⟨[]⟩⟩
def o292 : Obj := ⟨(T "tuple"), none, (.seq ⟨[]⟩ 0), ⟨[]⟩⟩
def o293 : Obj := ⟨N, none, (.fields ⟨[]⟩), ⟨[]⟩⟩
def o294 : Obj := ⟨N, none, (F (A 28) (u "form_size") (u "form_size") 0 [] N N N N none N N 0), ⟨[]⟩⟩
def o295 : Obj := ⟨(T "code"), none, (.fields ⟨[(S "form_size" 570), (S "form_size" 571), (S "/claim/cut.py" 572), (I 81), (I 1), (I 0), (I 0), (I 3), (R 292), (.bool true), (I 181), (R 293), N, N, N, (R 294), (I 573), (I 81), (S "/claim/cut.py" 574)]⟩), ⟨[]⟩⟩
def o296 : Obj := ⟨(T "function"), none, (F (A 28) (u "form_size") (u "form_size") 3 [] N N N (S "onemember.forms" 552) none (R 295) N 0), ⟨[]⟩⟩
def o297 : Obj := ⟨(T "tuple"), none, (.seq ⟨[]⟩ 0), ⟨[]⟩⟩
def o298 : Obj := ⟨N, none, (.fields ⟨[]⟩), ⟨[]⟩⟩
def o299 : Obj := ⟨(T "tuple"), none, (.seq ⟨[(S "value" 579)]⟩ 0), ⟨[]⟩⟩
def o300 : Obj := ⟨(T "tuple"), none, (.seq ⟨[]⟩ 0), ⟨[]⟩⟩
def o301 : Obj := ⟨N, none, (F (A 29) (u "is_triple") (u "is_triple") 0 [] N N N N none N N 0), ⟨[]⟩⟩
def o302 : Obj := ⟨(T "code"), none, (.fields ⟨[(S "is_triple" 576), (S "is_triple" 577), (S "/claim/cut.py" 578), (I 96), (I 1), (I 0), (I 0), (I 3), (R 297), (.bool true), (I 181), (R 298), N, (R 299), (R 300), (R 301), (I 580), (I 96), (S "/claim/cut.py" 581)]⟩), ⟨[]⟩⟩
def o303 : Obj := ⟨(T "function"), none, (F (A 29) (u "is_triple") (u "is_triple") 3 [] N N N (S "onemember.forms" 552) none (R 302) N 0), ⟨[]⟩⟩
def o304 : Obj := ⟨(T "tuple"), none, (.seq ⟨[]⟩ 0), ⟨[]⟩⟩
def o305 : Obj := ⟨N, none, (.fields ⟨[]⟩), ⟨[]⟩⟩
def o306 : Obj := ⟨(T "tuple"), none, (.seq ⟨[(S "leaves" 586)]⟩ 0), ⟨[]⟩⟩
def o307 : Obj := ⟨(T "tuple"), none, (.seq ⟨[]⟩ 0), ⟨[]⟩⟩
def o308 : Obj := ⟨N, none, (F (A 30) (u "check_leaves") (u "check_leaves") 0 [] N N N N none N N 0), ⟨[]⟩⟩
def o309 : Obj := ⟨(T "code"), none, (.fields ⟨[(S "check_leaves" 583), (S "check_leaves" 584), (S "/claim/cut.py" 585), (I 98), (I 1), (I 0), (I 0), (I 3), (R 304), (.bool true), (I 181), (R 305), N, (R 306), (R 307), (R 308), (I 587), (I 98), (S "/claim/cut.py" 588)]⟩), ⟨[]⟩⟩
def o310 : Obj := ⟨(T "function"), none, (F (A 30) (u "check_leaves") (u "check_leaves") 3 [] N N N (S "onemember.forms" 552) none (R 309) N 0), ⟨[]⟩⟩
def o311 : Obj := ⟨(T "tuple"), none, (.seq ⟨[]⟩ 0), ⟨[]⟩⟩
def o312 : Obj := ⟨N, none, (.fields ⟨[]⟩), ⟨[]⟩⟩
def o313 : Obj := ⟨(T "tuple"), none, (.seq ⟨[(S "depth" 593)]⟩ 0), ⟨[]⟩⟩
def o314 : Obj := ⟨(T "tuple"), none, (.seq ⟨[]⟩ 0), ⟨[]⟩⟩
def o315 : Obj := ⟨N, none, (F (A 31) (u "check_depth") (u "check_depth") 0 [] N N N N none N N 0), ⟨[]⟩⟩
def o316 : Obj := ⟨(T "code"), none, (.fields ⟨[(S "check_depth" 590), (S "check_depth" 591), (S "/claim/cut.py" 592), (I 101), (I 1), (I 0), (I 0), (I 3), (R 311), (.bool true), (I 181), (R 312), N, (R 313), (R 314), (R 315), (I 594), (I 101), (S "/claim/cut.py" 595)]⟩), ⟨[]⟩⟩
def o317 : Obj := ⟨(T "function"), none, (F (A 31) (u "check_depth") (u "check_depth") 3 [] N N N (S "onemember.forms" 552) none (R 316) N 0), ⟨[]⟩⟩
def o318 : Obj := ⟨(T "tuple"), none, (.seq ⟨[]⟩ 0), ⟨[]⟩⟩
def o319 : Obj := ⟨N, none, (.fields ⟨[]⟩), ⟨[]⟩⟩
def o320 : Obj := ⟨(T "tuple"), none, (.seq ⟨[(S "form" 600), (S "sign" 601), (S "left" 602), (S "right" 603)]⟩ 0), ⟨[]⟩⟩
def o321 : Obj := ⟨(T "tuple"), none, (.seq ⟨[]⟩ 0), ⟨[]⟩⟩
def o322 : Obj := ⟨N, none, (F (A 32) (u "form_text") (u "form_text") 0 [] N N N N none N N 0), ⟨[]⟩⟩
def o323 : Obj := ⟨(T "code"), none, (.fields ⟨[(S "form_text" 597), (S "form_text" 598), (S "/claim/cut.py" 599), (I 104), (I 1), (I 0), (I 0), (I 3), (R 318), (.bool true), (I 181), (R 319), N, (R 320), (R 321), (R 322), (I 604), (I 104), (S "/claim/cut.py" 605)]⟩), ⟨[]⟩⟩
def o324 : Obj := ⟨(T "function"), none, (F (A 32) (u "form_text") (u "form_text") 3 [] N N N (S "onemember.forms" 552) none (R 323) N 0), ⟨[]⟩⟩
def o325 : Obj := ⟨(T "tuple"), none, (.seq ⟨[]⟩ 0), ⟨[]⟩⟩
def o326 : Obj := ⟨N, none, (.fields ⟨[]⟩), ⟨[]⟩⟩
def o327 : Obj := ⟨(T "tuple"), none, (.seq ⟨[(S "form" 610)]⟩ 0), ⟨[]⟩⟩
def o328 : Obj := ⟨(T "tuple"), none, (.seq ⟨[]⟩ 0), ⟨[]⟩⟩
def o329 : Obj := ⟨N, none, (F (A 33) (u "side_text") (u "side_text") 0 [] N N N N none N N 0), ⟨[]⟩⟩
def o330 : Obj := ⟨(T "code"), none, (.fields ⟨[(S "side_text" 607), (S "side_text" 608), (S "/claim/cut.py" 609), (I 109), (I 1), (I 0), (I 0), (I 3), (R 325), (.bool true), (I 181), (R 326), N, (R 327), (R 328), (R 329), (I 611), (I 109), (S "/claim/cut.py" 612)]⟩), ⟨[]⟩⟩
def o331 : Obj := ⟨(T "function"), none, (F (A 33) (u "side_text") (u "side_text") 3 [] N N N (S "onemember.forms" 552) none (R 330) N 0), ⟨[]⟩⟩
def o332 : Obj := ⟨(T "tuple"), none, (.seq ⟨[]⟩ 0), ⟨[]⟩⟩
def o333 : Obj := ⟨N, none, (.fields ⟨[]⟩), ⟨[]⟩⟩
def o334 : Obj := ⟨(T "tuple"), none, (.seq ⟨[(S "text" 617), (S "words" 618), (S "opened" 619), (S "word" 620), (S "outermost" 621)]⟩ 0), ⟨[]⟩⟩
def o335 : Obj := ⟨(T "tuple"), none, (.seq ⟨[]⟩ 0), ⟨[]⟩⟩
def o336 : Obj := ⟨N, none, (F (A 34) (u "read_counted") (u "read_counted") 0 [] N N N N none N N 0), ⟨[]⟩⟩
def o337 : Obj := ⟨(T "code"), none, (.fields ⟨[(S "read_counted" 614), (S "read_counted" 615), (S "/claim/cut.py" 616), (I 113), (I 1), (I 0), (I 0), (I 3), (R 332), (.bool true), (I 181), (R 333), N, (R 334), (R 335), (R 336), (I 622), (I 113), (S "/claim/cut.py" 623)]⟩), ⟨[]⟩⟩
def o338 : Obj := ⟨(T "function"), none, (F (A 34) (u "read_counted") (u "read_counted") 3 [] N N N (S "onemember.forms" 552) none (R 337) N 0), ⟨[]⟩⟩
def o339 : Obj := ⟨(T "tuple"), none, (.seq ⟨[]⟩ 0), ⟨[]⟩⟩
def o340 : Obj := ⟨N, none, (.fields ⟨[]⟩), ⟨[]⟩⟩
def o341 : Obj := ⟨(T "tuple"), none, (.seq ⟨[(S "opened" 628), (S "word" 629), (S "innermost" 630)]⟩ 0), ⟨[]⟩⟩
def o342 : Obj := ⟨(T "tuple"), none, (.seq ⟨[]⟩ 0), ⟨[]⟩⟩
def o343 : Obj := ⟨N, none, (F (A 35) (u "take_word") (u "take_word") 0 [] N N N N none N N 0), ⟨[]⟩⟩
def o344 : Obj := ⟨(T "code"), none, (.fields ⟨[(S "take_word" 625), (S "take_word" 626), (S "/claim/cut.py" 627), (I 127), (I 2), (I 0), (I 0), (I 3), (R 339), (.bool true), (I 181), (R 340), N, (R 341), (R 342), (R 343), (I 631), (I 127), (S "/claim/cut.py" 632)]⟩), ⟨[]⟩⟩
def o345 : Obj := ⟨(T "function"), none, (F (A 35) (u "take_word") (u "take_word") 3 [] N N N (S "onemember.forms" 552) none (R 344) N 0), ⟨[]⟩⟩
def o346 : Obj := ⟨(T "tuple"), none, (.seq ⟨[]⟩ 0), ⟨[]⟩⟩
def o347 : Obj := ⟨N, none, (.fields ⟨[]⟩), ⟨[]⟩⟩
def o348 : Obj := ⟨(T "tuple"), none, (.seq ⟨[(S "parts" 637), (S "left" 638), (S "left_leaves" 639), (S "sign" 640), (S "right" 641), (S "right_leaves" 642)]⟩ 0), ⟨[]⟩⟩
def o349 : Obj := ⟨(T "tuple"), none, (.seq ⟨[]⟩ 0), ⟨[]⟩⟩
def o350 : Obj := ⟨N, none, (F (A 36) (u "joined") (u "joined") 0 [] N N N N none N N 0), ⟨[]⟩⟩
def o351 : Obj := ⟨(T "code"), none, (.fields ⟨[(S "joined" 634), (S "joined" 635), (S "/claim/cut.py" 636), (I 141), (I 1), (I 0), (I 0), (I 3), (R 346), (.bool true), (I 181), (R 347), N, (R 348), (R 349), (R 350), (I 643), (I 141), (S "/claim/cut.py" 644)]⟩), ⟨[]⟩⟩
def o352 : Obj := ⟨(T "function"), none, (F (A 36) (u "joined") (u "joined") 3 [] N N N (S "onemember.forms" 552) none (R 351) N 0), ⟨[]⟩⟩
def o353 : Obj := ⟨(T "tuple"), none, (.seq ⟨[]⟩ 0), ⟨[]⟩⟩
def o354 : Obj := ⟨N, none, (.fields ⟨[]⟩), ⟨[]⟩⟩
def o355 : Obj := ⟨(T "tuple"), none, (.seq ⟨[(S "form" 649)]⟩ 0), ⟨[]⟩⟩
def o356 : Obj := ⟨(T "tuple"), none, (.seq ⟨[]⟩ 0), ⟨[]⟩⟩
def o357 : Obj := ⟨N, none, (F (A 37) (u "form_leaves") (u "form_leaves") 0 [] N N N N none N N 0), ⟨[]⟩⟩
def o358 : Obj := ⟨(T "code"), none, (.fields ⟨[(S "form_leaves" 646), (S "form_leaves" 647), (S "/claim/cut.py" 648), (I 144), (I 1), (I 0), (I 0), (I 3), (R 353), (.bool true), (I 181), (R 354), N, (R 355), (R 356), (R 357), (I 650), (I 144), (S "/claim/cut.py" 651)]⟩), ⟨[]⟩⟩
def o359 : Obj := ⟨(T "function"), none, (F (A 37) (u "form_leaves") (u "form_leaves") 3 [] N N N (S "onemember.forms" 552) none (R 358) N 0), ⟨[]⟩⟩
def o360 : Obj := ⟨(T "tuple"), none, (.seq ⟨[]⟩ 0), ⟨[]⟩⟩
def o361 : Obj := ⟨N, none, (.fields ⟨[]⟩), ⟨[]⟩⟩
def o362 : Obj := ⟨N, none, (F (A 38) (u "form_fields") (u "form_fields") 0 [] N N N N none N N 0), ⟨[]⟩⟩
def o363 : Obj := ⟨(T "code"), none, (.fields ⟨[(S "form_fields" 653), (S "form_fields" 654), (S "/claim/cut.py" 655), (I 148), (I 1), (I 0), (I 0), (I 3), (R 360), (.bool true), (I 181), (R 361), N, N, N, (R 362), (I 656), (I 148), (S "/claim/cut.py" 657)]⟩), ⟨[]⟩⟩
def o364 : Obj := ⟨(T "function"), none, (F (A 38) (u "form_fields") (u "form_fields") 3 [] N N N (S "onemember.forms" 552) none (R 363) N 0), ⟨[]⟩⟩
def o365 : Obj := ⟨(T "tuple"), none, (.seq ⟨[]⟩ 0), ⟨[]⟩⟩
def o366 : Obj := ⟨N, none, (.fields ⟨[]⟩), ⟨[]⟩⟩
def o367 : Obj := ⟨(T "tuple"), none, (.seq ⟨[(S "form" 662), (S "inside" 663), (S "given" 664), (S "sign" 665), (S "left" 666), (S "right" 667), (S "one" 668), (S "other" 669)]⟩ 0), ⟨[]⟩⟩
def o368 : Obj := ⟨(T "tuple"), none, (.seq ⟨[]⟩ 0), ⟨[]⟩⟩
def o369 : Obj := ⟨N, none, (F (A 39) (u "form_meets") (u "form_meets") 0 [] N N N N none N N 0), ⟨[]⟩⟩
def o370 : Obj := ⟨(T "code"), none, (.fields ⟨[(S "form_meets" 659), (S "form_meets" 660), (S "/claim/cut.py" 661), (I 151), (I 3), (I 0), (I 0), (I 3), (R 365), (.bool true), (I 181), (R 366), N, (R 367), (R 368), (R 369), (I 670), (I 151), (S "/claim/cut.py" 671)]⟩), ⟨[]⟩⟩
def o371 : Obj := ⟨(T "function"), none, (F (A 39) (u "form_meets") (u "form_meets") 3 [] N N N (S "onemember.forms" 552) none (R 370) N 0), ⟨[]⟩⟩
def o372 : Obj := ⟨(T "tuple"), none, (.seq ⟨[]⟩ 0), ⟨[]⟩⟩
def o373 : Obj := ⟨N, none, (.fields ⟨[]⟩), ⟨[]⟩⟩
def o374 : Obj := ⟨(T "tuple"), none, (.seq ⟨[(S "form" 676), (S "table" 677), (S "sign" 678), (S "left" 679), (S "right" 680), (S "one" 681), (S "other" 682)]⟩ 0), ⟨[]⟩⟩
def o375 : Obj := ⟨(T "tuple"), none, (.seq ⟨[]⟩ 0), ⟨[]⟩⟩
def o376 : Obj := ⟨N, none, (F (A 40) (u "form_value") (u "form_value") 0 [] N N N N none N N 0), ⟨[]⟩⟩
def o377 : Obj := ⟨(T "code"), none, (.fields ⟨[(S "form_value" 673), (S "form_value" 674), (S "/claim/cut.py" 675), (I 168), (I 2), (I 0), (I 0), (I 3), (R 372), (.bool true), (I 181), (R 373), N, (R 374), (R 375), (R 376), (I 683), (I 168), (S "/claim/cut.py" 684)]⟩), ⟨[]⟩⟩
def o378 : Obj := ⟨(T "function"), none, (F (A 40) (u "form_value") (u "form_value") 3 [] N N N (S "onemember.forms" 552) none (R 377) N 0), ⟨[]⟩⟩
def o379 : Obj := ⟨(T "tuple"), none, (.seq ⟨[]⟩ 0), ⟨[]⟩⟩
def o380 : Obj := ⟨(T "builtin_function_or_method"), none, (.fields ⟨[(B "type.__prepare__"), (T "type")]⟩), ⟨[]⟩⟩
def o381 (P : Params) : Obj := ⟨(T "dict"), none, (.dict ⟨[E P "__module__" 695 (S "onemember.members" 686), E P "__qualname__" 697 (S "Members" 696), E P "__firstlineno__" 699 (.int 182 698), E P "__init__" 705 (R 390), E P "from_names" 724 (R 399), E P "read" 745 (R 409), E P "names" 753 (R 418), E P "__str__" 760 (R 425), E P "__repr__" 767 (R 432), E P "__len__" 774 (R 439), E P "__iter__" 781 (R 446), E P "__contains__" 789 (R 453), E P "__eq__" 797 (R 460), E P "__or__" 805 (R 467), E P "__and__" 811 (R 472), E P "__sub__" 817 (R 477), E P "__xor__" 825 (R 484), E P "__ior__" 833 (R 491), E P "__iand__" 841 (R 498), E P "__isub__" 849 (R 505), E P "__ixor__" 857 (R 512), E P "__le__" 863 (R 517), E P "__lt__" 871 (R 524), E P "__ge__" 879 (R 531), E P "__gt__" 887 (R 538), E P "__add__" 895 (R 545), E P "__static_attributes__" 898 (R 546)]⟩ 27), ⟨[]⟩⟩
def o382 : Obj := ⟨(T "tuple"), none, (.seq ⟨[]⟩ 0), ⟨[]⟩⟩
def o383 : Obj := ⟨N, none, (.fields ⟨[(I 184), (I 4), (R 389), (I 192), (I 4), (R 396), (I 198), (I 4), (R 406), (I 210), (I 4), (R 416), (I 213), (I 4), (R 424), (I 216), (I 4), (R 431), (I 219), (I 4), (R 438), (I 222), (I 4), (R 445), (I 225), (I 4), (R 452), (I 228), (I 4), (R 459), (I 231), (I 4), (R 466), (I 235), (I 4), (R 471), (I 239), (I 4), (R 476), (I 243), (I 4), (R 483), (I 246), (I 4), (R 490), (I 249), (I 4), (R 497), (I 252), (I 4), (R 504), (I 255), (I 4), (R 511), (I 258), (I 4), (R 516), (I 262), (I 4), (R 523), (I 265), (I 4), (R 530), (I 269), (I 4), (R 537), (I 273), (I 4), (R 544)]⟩), ⟨[]⟩⟩
def o384 : Obj := ⟨(T "code"), none, (.fields ⟨[(S "Members" 690), (S "Members" 691), (S "/claim/cut.py" 692), (I 182), (I 0), (I 0), (I 0), (I 0), (R 382), (.bool false), (I 181), (R 383), N, N, N, N, (I 693), (I 182), (S "/claim/cut.py" 694)]⟩), ⟨[]⟩⟩
def o385 : Obj := ⟨(T "frame"), none, .plain, ⟨[some (R 384), some (R 3), some (R 381), none, some (S "onemember.members" 686), none, some (R 0)]⟩⟩
def o386 : Obj := ⟨(T "tuple"), none, (.seq ⟨[]⟩ 0), ⟨[]⟩⟩
def o387 : Obj := ⟨N, none, (.fields ⟨[]⟩), ⟨[]⟩⟩
def o388 : Obj := ⟨N, none, (F (C 42 0) (u "__init__") (u "Members.__init__") 0 [] N N N N none N N 0), ⟨[]⟩⟩
def o389 : Obj := ⟨(T "code"), none, (.fields ⟨[(S "__init__" 700), (S "Members.__init__" 701), (S "/claim/cut.py" 702), (I 184), (I 1), (I 0), (I 0), (I 7), (R 386), (.bool true), (I 181), (R 387), N, N, N, (R 388), (I 703), (I 184), (S "/claim/cut.py" 704)]⟩), ⟨[]⟩⟩
def o390 : Obj := ⟨(T "function"), none, (F (C 42 0) (u "__init__") (u "Members.__init__") 3 [] N N N (S "onemember.members" 686) none (R 389) N 0), ⟨[]⟩⟩
def o391 : Obj := ⟨(T "tuple"), none, (.seq ⟨[]⟩ 0), ⟨[]⟩⟩
def o392 : Obj := ⟨N, none, (.fields ⟨[]⟩), ⟨[]⟩⟩
def o393 : Obj := ⟨(T "tuple"), none, (.seq ⟨[(S "names" 709)]⟩ 0), ⟨[]⟩⟩
def o394 : Obj := ⟨(T "tuple"), none, (.seq ⟨[]⟩ 0), ⟨[]⟩⟩
def o395 : Obj := ⟨N, none, (F (C 42 1) (u "from_names") (u "Members.from_names") 0 [] N N N N none N N 0), ⟨[]⟩⟩
def o396 : Obj := ⟨(T "code"), none, (.fields ⟨[(S "from_names" 706), (S "Members.from_names" 707), (S "/claim/cut.py" 708), (I 191), (I 1), (I 0), (I 0), (I 3), (R 391), (.bool true), (I 181), (R 392), N, (R 393), (R 394), (R 395), (I 710), (I 191), (S "/claim/cut.py" 711)]⟩), ⟨[]⟩⟩
def o397 : Obj := ⟨(T "function"), none, (F (C 42 1) (u "from_names") (u "Members.from_names") 3 [] N N N (S "onemember.members" 686) (some 400) (R 396) N 0), ⟨[]⟩⟩
def o398 (P : Params) : Obj := ⟨(T "dict"), none, (.dict ⟨[E P "__module__" 713 (S "onemember.members" 686), E P "__name__" 716 (S "from_names" 715), E P "__qualname__" 719 (S "Members.from_names" 718), E P "__doc__" 721 N, E P "__annotations__" 723 (R 400)]⟩ 5), ⟨[]⟩⟩
def o399 : Obj := ⟨(T "staticmethod"), (some 398), (.fields ⟨[(R 397), (.bool false)]⟩), ⟨[]⟩⟩
def o400 (P : Params) : Obj := ⟨(T "dict"), none, (.dict ⟨[]⟩ 0), ⟨[]⟩⟩
def o401 : Obj := ⟨(T "tuple"), none, (.seq ⟨[]⟩ 0), ⟨[]⟩⟩
def o402 : Obj := ⟨N, none, (.fields ⟨[]⟩), ⟨[]⟩⟩
def o403 : Obj := ⟨(T "tuple"), none, (.seq ⟨[(S "text" 728), (S "names" 729), (S "members" 730)]⟩ 0), ⟨[]⟩⟩
def o404 : Obj := ⟨(T "tuple"), none, (.seq ⟨[]⟩ 0), ⟨[]⟩⟩
def o405 : Obj := ⟨N, none, (F (C 42 2) (u "read") (u "Members.read") 0 [] N N N N none N N 0), ⟨[]⟩⟩
def o406 : Obj := ⟨(T "code"), none, (.fields ⟨[(S "read" 725), (S "Members.read" 726), (S "/claim/cut.py" 727), (I 197), (I 1), (I 0), (I 0), (I 3), (R 401), (.bool true), (I 181), (R 402), N, (R 403), (R 404), (R 405), (I 731), (I 197), (S "/claim/cut.py" 732)]⟩), ⟨[]⟩⟩
def o407 : Obj := ⟨(T "function"), none, (F (C 42 2) (u "read") (u "Members.read") 3 [] N N N (S "onemember.members" 686) (some 410) (R 406) N 0), ⟨[]⟩⟩
def o408 (P : Params) : Obj := ⟨(T "dict"), none, (.dict ⟨[E P "__module__" 734 (S "onemember.members" 686), E P "__name__" 737 (S "read" 736), E P "__qualname__" 740 (S "Members.read" 739), E P "__doc__" 742 N, E P "__annotations__" 744 (R 410)]⟩ 5), ⟨[]⟩⟩
def o409 : Obj := ⟨(T "staticmethod"), (some 408), (.fields ⟨[(R 407), (.bool false)]⟩), ⟨[]⟩⟩
def o410 (P : Params) : Obj := ⟨(T "dict"), none, (.dict ⟨[]⟩ 0), ⟨[]⟩⟩
def o411 : Obj := ⟨(T "tuple"), none, (.seq ⟨[]⟩ 0), ⟨[]⟩⟩
def o412 : Obj := ⟨N, none, (.fields ⟨[]⟩), ⟨[]⟩⟩
def o413 : Obj := ⟨(T "tuple"), none, (.seq ⟨[(S "self" 749)]⟩ 0), ⟨[]⟩⟩
def o414 : Obj := ⟨(T "tuple"), none, (.seq ⟨[]⟩ 0), ⟨[]⟩⟩
def o415 : Obj := ⟨N, none, (F (C 42 3) (u "names") (u "Members.names") 0 [] N N N N none N N 0), ⟨[]⟩⟩
def o416 : Obj := ⟨(T "code"), none, (.fields ⟨[(S "names" 746), (S "Members.names" 747), (S "/claim/cut.py" 748), (I 209), (I 1), (I 0), (I 0), (I 3), (R 411), (.bool true), (I 181), (R 412), N, (R 413), (R 414), (R 415), (I 750), (I 209), (S "/claim/cut.py" 751)]⟩), ⟨[]⟩⟩
def o417 : Obj := ⟨(T "function"), none, (F (C 42 3) (u "names") (u "Members.names") 3 [] N N N (S "onemember.members" 686) none (R 416) N 0), ⟨[]⟩⟩
def o418 : Obj := ⟨(T "property"), none, (.fields ⟨[(R 417), N, N, N, (S "names" 753), (.bool false)]⟩), ⟨[]⟩⟩
def o419 : Obj := ⟨(T "tuple"), none, (.seq ⟨[]⟩ 0), ⟨[]⟩⟩
def o420 : Obj := ⟨N, none, (.fields ⟨[]⟩), ⟨[]⟩⟩
def o421 : Obj := ⟨(T "tuple"), none, (.seq ⟨[(S "self" 757)]⟩ 0), ⟨[]⟩⟩
def o422 : Obj := ⟨(T "tuple"), none, (.seq ⟨[]⟩ 0), ⟨[]⟩⟩
def o423 : Obj := ⟨N, none, (F (C 42 4) (u "__str__") (u "Members.__str__") 0 [] N N N N none N N 0), ⟨[]⟩⟩
def o424 : Obj := ⟨(T "code"), none, (.fields ⟨[(S "__str__" 754), (S "Members.__str__" 755), (S "/claim/cut.py" 756), (I 213), (I 1), (I 0), (I 0), (I 3), (R 419), (.bool true), (I 181), (R 420), N, (R 421), (R 422), (R 423), (I 758), (I 213), (S "/claim/cut.py" 759)]⟩), ⟨[]⟩⟩
def o425 : Obj := ⟨(T "function"), none, (F (C 42 4) (u "__str__") (u "Members.__str__") 3 [] N N N (S "onemember.members" 686) none (R 424) N 0), ⟨[]⟩⟩
def o426 : Obj := ⟨(T "tuple"), none, (.seq ⟨[]⟩ 0), ⟨[]⟩⟩
def o427 : Obj := ⟨N, none, (.fields ⟨[]⟩), ⟨[]⟩⟩
def o428 : Obj := ⟨(T "tuple"), none, (.seq ⟨[(S "self" 764)]⟩ 0), ⟨[]⟩⟩
def o429 : Obj := ⟨(T "tuple"), none, (.seq ⟨[]⟩ 0), ⟨[]⟩⟩
def o430 : Obj := ⟨N, none, (F (C 42 5) (u "__repr__") (u "Members.__repr__") 0 [] N N N N none N N 0), ⟨[]⟩⟩
def o431 : Obj := ⟨(T "code"), none, (.fields ⟨[(S "__repr__" 761), (S "Members.__repr__" 762), (S "/claim/cut.py" 763), (I 216), (I 1), (I 0), (I 0), (I 3), (R 426), (.bool true), (I 181), (R 427), N, (R 428), (R 429), (R 430), (I 765), (I 216), (S "/claim/cut.py" 766)]⟩), ⟨[]⟩⟩
def o432 : Obj := ⟨(T "function"), none, (F (C 42 5) (u "__repr__") (u "Members.__repr__") 3 [] N N N (S "onemember.members" 686) none (R 431) N 0), ⟨[]⟩⟩
def o433 : Obj := ⟨(T "tuple"), none, (.seq ⟨[]⟩ 0), ⟨[]⟩⟩
def o434 : Obj := ⟨N, none, (.fields ⟨[]⟩), ⟨[]⟩⟩
def o435 : Obj := ⟨(T "tuple"), none, (.seq ⟨[(S "self" 771)]⟩ 0), ⟨[]⟩⟩
def o436 : Obj := ⟨(T "tuple"), none, (.seq ⟨[]⟩ 0), ⟨[]⟩⟩
def o437 : Obj := ⟨N, none, (F (C 42 6) (u "__len__") (u "Members.__len__") 0 [] N N N N none N N 0), ⟨[]⟩⟩
def o438 : Obj := ⟨(T "code"), none, (.fields ⟨[(S "__len__" 768), (S "Members.__len__" 769), (S "/claim/cut.py" 770), (I 219), (I 1), (I 0), (I 0), (I 3), (R 433), (.bool true), (I 181), (R 434), N, (R 435), (R 436), (R 437), (I 772), (I 219), (S "/claim/cut.py" 773)]⟩), ⟨[]⟩⟩
def o439 : Obj := ⟨(T "function"), none, (F (C 42 6) (u "__len__") (u "Members.__len__") 3 [] N N N (S "onemember.members" 686) none (R 438) N 0), ⟨[]⟩⟩
def o440 : Obj := ⟨(T "tuple"), none, (.seq ⟨[]⟩ 0), ⟨[]⟩⟩
def o441 : Obj := ⟨N, none, (.fields ⟨[]⟩), ⟨[]⟩⟩
def o442 : Obj := ⟨(T "tuple"), none, (.seq ⟨[(S "self" 778)]⟩ 0), ⟨[]⟩⟩
def o443 : Obj := ⟨(T "tuple"), none, (.seq ⟨[]⟩ 0), ⟨[]⟩⟩
def o444 : Obj := ⟨N, none, (F (C 42 7) (u "__iter__") (u "Members.__iter__") 0 [] N N N N none N N 0), ⟨[]⟩⟩
def o445 : Obj := ⟨(T "code"), none, (.fields ⟨[(S "__iter__" 775), (S "Members.__iter__" 776), (S "/claim/cut.py" 777), (I 222), (I 1), (I 0), (I 0), (I 3), (R 440), (.bool true), (I 181), (R 441), N, (R 442), (R 443), (R 444), (I 779), (I 222), (S "/claim/cut.py" 780)]⟩), ⟨[]⟩⟩
def o446 : Obj := ⟨(T "function"), none, (F (C 42 7) (u "__iter__") (u "Members.__iter__") 3 [] N N N (S "onemember.members" 686) none (R 445) N 0), ⟨[]⟩⟩
def o447 : Obj := ⟨(T "tuple"), none, (.seq ⟨[]⟩ 0), ⟨[]⟩⟩
def o448 : Obj := ⟨N, none, (.fields ⟨[]⟩), ⟨[]⟩⟩
def o449 : Obj := ⟨(T "tuple"), none, (.seq ⟨[(S "self" 785), (S "value" 786)]⟩ 0), ⟨[]⟩⟩
def o450 : Obj := ⟨(T "tuple"), none, (.seq ⟨[]⟩ 0), ⟨[]⟩⟩
def o451 : Obj := ⟨N, none, (F (C 42 8) (u "__contains__") (u "Members.__contains__") 0 [] N N N N none N N 0), ⟨[]⟩⟩
def o452 : Obj := ⟨(T "code"), none, (.fields ⟨[(S "__contains__" 782), (S "Members.__contains__" 783), (S "/claim/cut.py" 784), (I 225), (I 2), (I 0), (I 0), (I 3), (R 447), (.bool true), (I 181), (R 448), N, (R 449), (R 450), (R 451), (I 787), (I 225), (S "/claim/cut.py" 788)]⟩), ⟨[]⟩⟩
def o453 : Obj := ⟨(T "function"), none, (F (C 42 8) (u "__contains__") (u "Members.__contains__") 3 [] N N N (S "onemember.members" 686) none (R 452) N 0), ⟨[]⟩⟩
def o454 : Obj := ⟨(T "tuple"), none, (.seq ⟨[]⟩ 0), ⟨[]⟩⟩
def o455 : Obj := ⟨N, none, (.fields ⟨[]⟩), ⟨[]⟩⟩
def o456 : Obj := ⟨(T "tuple"), none, (.seq ⟨[(S "self" 793), (S "other" 794)]⟩ 0), ⟨[]⟩⟩
def o457 : Obj := ⟨(T "tuple"), none, (.seq ⟨[]⟩ 0), ⟨[]⟩⟩
def o458 : Obj := ⟨N, none, (F (C 42 9) (u "__eq__") (u "Members.__eq__") 0 [] N N N N none N N 0), ⟨[]⟩⟩
def o459 : Obj := ⟨(T "code"), none, (.fields ⟨[(S "__eq__" 790), (S "Members.__eq__" 791), (S "/claim/cut.py" 792), (I 228), (I 2), (I 0), (I 0), (I 3), (R 454), (.bool true), (I 181), (R 455), N, (R 456), (R 457), (R 458), (I 795), (I 228), (S "/claim/cut.py" 796)]⟩), ⟨[]⟩⟩
def o460 : Obj := ⟨(T "function"), none, (F (C 42 9) (u "__eq__") (u "Members.__eq__") 3 [] N N N (S "onemember.members" 686) none (R 459) N 0), ⟨[]⟩⟩
def o461 : Obj := ⟨(T "tuple"), none, (.seq ⟨[]⟩ 0), ⟨[]⟩⟩
def o462 : Obj := ⟨N, none, (.fields ⟨[]⟩), ⟨[]⟩⟩
def o463 : Obj := ⟨(T "tuple"), none, (.seq ⟨[(S "self" 801), (S "other" 802)]⟩ 0), ⟨[]⟩⟩
def o464 : Obj := ⟨(T "tuple"), none, (.seq ⟨[]⟩ 0), ⟨[]⟩⟩
def o465 : Obj := ⟨N, none, (F (C 42 10) (u "__or__") (u "Members.__or__") 0 [] N N N N none N N 0), ⟨[]⟩⟩
def o466 : Obj := ⟨(T "code"), none, (.fields ⟨[(S "__or__" 798), (S "Members.__or__" 799), (S "/claim/cut.py" 800), (I 231), (I 2), (I 0), (I 0), (I 3), (R 461), (.bool true), (I 181), (R 462), N, (R 463), (R 464), (R 465), (I 803), (I 231), (S "/claim/cut.py" 804)]⟩), ⟨[]⟩⟩
def o467 : Obj := ⟨(T "function"), none, (F (C 42 10) (u "__or__") (u "Members.__or__") 3 [] N N N (S "onemember.members" 686) none (R 466) N 0), ⟨[]⟩⟩
def o468 : Obj := ⟨(T "tuple"), none, (.seq ⟨[]⟩ 0), ⟨[]⟩⟩
def o469 : Obj := ⟨N, none, (.fields ⟨[]⟩), ⟨[]⟩⟩
def o470 : Obj := ⟨N, none, (F (C 42 11) (u "__and__") (u "Members.__and__") 0 [] N N N N none N N 0), ⟨[]⟩⟩
def o471 : Obj := ⟨(T "code"), none, (.fields ⟨[(S "__and__" 806), (S "Members.__and__" 807), (S "/claim/cut.py" 808), (I 235), (I 2), (I 0), (I 0), (I 3), (R 468), (.bool true), (I 181), (R 469), N, N, N, (R 470), (I 809), (I 235), (S "/claim/cut.py" 810)]⟩), ⟨[]⟩⟩
def o472 : Obj := ⟨(T "function"), none, (F (C 42 11) (u "__and__") (u "Members.__and__") 3 [] N N N (S "onemember.members" 686) none (R 471) N 0), ⟨[]⟩⟩
def o473 : Obj := ⟨(T "tuple"), none, (.seq ⟨[]⟩ 0), ⟨[]⟩⟩
def o474 : Obj := ⟨N, none, (.fields ⟨[]⟩), ⟨[]⟩⟩
def o475 : Obj := ⟨N, none, (F (C 42 12) (u "__sub__") (u "Members.__sub__") 0 [] N N N N none N N 0), ⟨[]⟩⟩
def o476 : Obj := ⟨(T "code"), none, (.fields ⟨[(S "__sub__" 812), (S "Members.__sub__" 813), (S "/claim/cut.py" 814), (I 239), (I 2), (I 0), (I 0), (I 3), (R 473), (.bool true), (I 181), (R 474), N, N, N, (R 475), (I 815), (I 239), (S "/claim/cut.py" 816)]⟩), ⟨[]⟩⟩
def o477 : Obj := ⟨(T "function"), none, (F (C 42 12) (u "__sub__") (u "Members.__sub__") 3 [] N N N (S "onemember.members" 686) none (R 476) N 0), ⟨[]⟩⟩
def o478 : Obj := ⟨(T "tuple"), none, (.seq ⟨[]⟩ 0), ⟨[]⟩⟩
def o479 : Obj := ⟨N, none, (.fields ⟨[]⟩), ⟨[]⟩⟩
def o480 : Obj := ⟨(T "tuple"), none, (.seq ⟨[(S "self" 821), (S "other" 822)]⟩ 0), ⟨[]⟩⟩
def o481 : Obj := ⟨(T "tuple"), none, (.seq ⟨[]⟩ 0), ⟨[]⟩⟩
def o482 : Obj := ⟨N, none, (F (C 42 13) (u "__xor__") (u "Members.__xor__") 0 [] N N N N none N N 0), ⟨[]⟩⟩
def o483 : Obj := ⟨(T "code"), none, (.fields ⟨[(S "__xor__" 818), (S "Members.__xor__" 819), (S "/claim/cut.py" 820), (I 243), (I 2), (I 0), (I 0), (I 3), (R 478), (.bool true), (I 181), (R 479), N, (R 480), (R 481), (R 482), (I 823), (I 243), (S "/claim/cut.py" 824)]⟩), ⟨[]⟩⟩
def o484 : Obj := ⟨(T "function"), none, (F (C 42 13) (u "__xor__") (u "Members.__xor__") 3 [] N N N (S "onemember.members" 686) none (R 483) N 0), ⟨[]⟩⟩
def o485 : Obj := ⟨(T "tuple"), none, (.seq ⟨[]⟩ 0), ⟨[]⟩⟩
def o486 : Obj := ⟨N, none, (.fields ⟨[]⟩), ⟨[]⟩⟩
def o487 : Obj := ⟨(T "tuple"), none, (.seq ⟨[(S "self" 829), (S "other" 830)]⟩ 0), ⟨[]⟩⟩
def o488 : Obj := ⟨(T "tuple"), none, (.seq ⟨[]⟩ 0), ⟨[]⟩⟩
def o489 : Obj := ⟨N, none, (F (C 42 14) (u "__ior__") (u "Members.__ior__") 0 [] N N N N none N N 0), ⟨[]⟩⟩
def o490 : Obj := ⟨(T "code"), none, (.fields ⟨[(S "__ior__" 826), (S "Members.__ior__" 827), (S "/claim/cut.py" 828), (I 246), (I 2), (I 0), (I 0), (I 3), (R 485), (.bool true), (I 181), (R 486), N, (R 487), (R 488), (R 489), (I 831), (I 246), (S "/claim/cut.py" 832)]⟩), ⟨[]⟩⟩
def o491 : Obj := ⟨(T "function"), none, (F (C 42 14) (u "__ior__") (u "Members.__ior__") 3 [] N N N (S "onemember.members" 686) none (R 490) N 0), ⟨[]⟩⟩
def o492 : Obj := ⟨(T "tuple"), none, (.seq ⟨[]⟩ 0), ⟨[]⟩⟩
def o493 : Obj := ⟨N, none, (.fields ⟨[]⟩), ⟨[]⟩⟩
def o494 : Obj := ⟨(T "tuple"), none, (.seq ⟨[(S "self" 837), (S "other" 838)]⟩ 0), ⟨[]⟩⟩
def o495 : Obj := ⟨(T "tuple"), none, (.seq ⟨[]⟩ 0), ⟨[]⟩⟩
def o496 : Obj := ⟨N, none, (F (C 42 15) (u "__iand__") (u "Members.__iand__") 0 [] N N N N none N N 0), ⟨[]⟩⟩
def o497 : Obj := ⟨(T "code"), none, (.fields ⟨[(S "__iand__" 834), (S "Members.__iand__" 835), (S "/claim/cut.py" 836), (I 249), (I 2), (I 0), (I 0), (I 3), (R 492), (.bool true), (I 181), (R 493), N, (R 494), (R 495), (R 496), (I 839), (I 249), (S "/claim/cut.py" 840)]⟩), ⟨[]⟩⟩
def o498 : Obj := ⟨(T "function"), none, (F (C 42 15) (u "__iand__") (u "Members.__iand__") 3 [] N N N (S "onemember.members" 686) none (R 497) N 0), ⟨[]⟩⟩
def o499 : Obj := ⟨(T "tuple"), none, (.seq ⟨[]⟩ 0), ⟨[]⟩⟩
def o500 : Obj := ⟨N, none, (.fields ⟨[]⟩), ⟨[]⟩⟩
def o501 : Obj := ⟨(T "tuple"), none, (.seq ⟨[(S "self" 845), (S "other" 846)]⟩ 0), ⟨[]⟩⟩
def o502 : Obj := ⟨(T "tuple"), none, (.seq ⟨[]⟩ 0), ⟨[]⟩⟩
def o503 : Obj := ⟨N, none, (F (C 42 16) (u "__isub__") (u "Members.__isub__") 0 [] N N N N none N N 0), ⟨[]⟩⟩
def o504 : Obj := ⟨(T "code"), none, (.fields ⟨[(S "__isub__" 842), (S "Members.__isub__" 843), (S "/claim/cut.py" 844), (I 252), (I 2), (I 0), (I 0), (I 3), (R 499), (.bool true), (I 181), (R 500), N, (R 501), (R 502), (R 503), (I 847), (I 252), (S "/claim/cut.py" 848)]⟩), ⟨[]⟩⟩
def o505 : Obj := ⟨(T "function"), none, (F (C 42 16) (u "__isub__") (u "Members.__isub__") 3 [] N N N (S "onemember.members" 686) none (R 504) N 0), ⟨[]⟩⟩
def o506 : Obj := ⟨(T "tuple"), none, (.seq ⟨[]⟩ 0), ⟨[]⟩⟩
def o507 : Obj := ⟨N, none, (.fields ⟨[]⟩), ⟨[]⟩⟩
def o508 : Obj := ⟨(T "tuple"), none, (.seq ⟨[(S "self" 853), (S "other" 854)]⟩ 0), ⟨[]⟩⟩
def o509 : Obj := ⟨(T "tuple"), none, (.seq ⟨[]⟩ 0), ⟨[]⟩⟩
def o510 : Obj := ⟨N, none, (F (C 42 17) (u "__ixor__") (u "Members.__ixor__") 0 [] N N N N none N N 0), ⟨[]⟩⟩
def o511 : Obj := ⟨(T "code"), none, (.fields ⟨[(S "__ixor__" 850), (S "Members.__ixor__" 851), (S "/claim/cut.py" 852), (I 255), (I 2), (I 0), (I 0), (I 3), (R 506), (.bool true), (I 181), (R 507), N, (R 508), (R 509), (R 510), (I 855), (I 255), (S "/claim/cut.py" 856)]⟩), ⟨[]⟩⟩
def o512 : Obj := ⟨(T "function"), none, (F (C 42 17) (u "__ixor__") (u "Members.__ixor__") 3 [] N N N (S "onemember.members" 686) none (R 511) N 0), ⟨[]⟩⟩
def o513 : Obj := ⟨(T "tuple"), none, (.seq ⟨[]⟩ 0), ⟨[]⟩⟩
def o514 : Obj := ⟨N, none, (.fields ⟨[]⟩), ⟨[]⟩⟩
def o515 : Obj := ⟨N, none, (F (C 42 18) (u "__le__") (u "Members.__le__") 0 [] N N N N none N N 0), ⟨[]⟩⟩
def o516 : Obj := ⟨(T "code"), none, (.fields ⟨[(S "__le__" 858), (S "Members.__le__" 859), (S "/claim/cut.py" 860), (I 258), (I 2), (I 0), (I 0), (I 3), (R 513), (.bool true), (I 181), (R 514), N, N, N, (R 515), (I 861), (I 258), (S "/claim/cut.py" 862)]⟩), ⟨[]⟩⟩
def o517 : Obj := ⟨(T "function"), none, (F (C 42 18) (u "__le__") (u "Members.__le__") 3 [] N N N (S "onemember.members" 686) none (R 516) N 0), ⟨[]⟩⟩
def o518 : Obj := ⟨(T "tuple"), none, (.seq ⟨[]⟩ 0), ⟨[]⟩⟩
def o519 : Obj := ⟨N, none, (.fields ⟨[]⟩), ⟨[]⟩⟩
def o520 : Obj := ⟨(T "tuple"), none, (.seq ⟨[(S "self" 867), (S "other" 868)]⟩ 0), ⟨[]⟩⟩
def o521 : Obj := ⟨(T "tuple"), none, (.seq ⟨[]⟩ 0), ⟨[]⟩⟩
def o522 : Obj := ⟨N, none, (F (C 42 19) (u "__lt__") (u "Members.__lt__") 0 [] N N N N none N N 0), ⟨[]⟩⟩
def o523 : Obj := ⟨(T "code"), none, (.fields ⟨[(S "__lt__" 864), (S "Members.__lt__" 865), (S "/claim/cut.py" 866), (I 262), (I 2), (I 0), (I 0), (I 3), (R 518), (.bool true), (I 181), (R 519), N, (R 520), (R 521), (R 522), (I 869), (I 262), (S "/claim/cut.py" 870)]⟩), ⟨[]⟩⟩
def o524 : Obj := ⟨(T "function"), none, (F (C 42 19) (u "__lt__") (u "Members.__lt__") 3 [] N N N (S "onemember.members" 686) none (R 523) N 0), ⟨[]⟩⟩
def o525 : Obj := ⟨(T "tuple"), none, (.seq ⟨[]⟩ 0), ⟨[]⟩⟩
def o526 : Obj := ⟨N, none, (.fields ⟨[]⟩), ⟨[]⟩⟩
def o527 : Obj := ⟨(T "tuple"), none, (.seq ⟨[(S "self" 875), (S "other" 876)]⟩ 0), ⟨[]⟩⟩
def o528 : Obj := ⟨(T "tuple"), none, (.seq ⟨[]⟩ 0), ⟨[]⟩⟩
def o529 : Obj := ⟨N, none, (F (C 42 20) (u "__ge__") (u "Members.__ge__") 0 [] N N N N none N N 0), ⟨[]⟩⟩
def o530 : Obj := ⟨(T "code"), none, (.fields ⟨[(S "__ge__" 872), (S "Members.__ge__" 873), (S "/claim/cut.py" 874), (I 265), (I 2), (I 0), (I 0), (I 3), (R 525), (.bool true), (I 181), (R 526), N, (R 527), (R 528), (R 529), (I 877), (I 265), (S "/claim/cut.py" 878)]⟩), ⟨[]⟩⟩
def o531 : Obj := ⟨(T "function"), none, (F (C 42 20) (u "__ge__") (u "Members.__ge__") 3 [] N N N (S "onemember.members" 686) none (R 530) N 0), ⟨[]⟩⟩
def o532 : Obj := ⟨(T "tuple"), none, (.seq ⟨[]⟩ 0), ⟨[]⟩⟩
def o533 : Obj := ⟨N, none, (.fields ⟨[]⟩), ⟨[]⟩⟩
def o534 : Obj := ⟨(T "tuple"), none, (.seq ⟨[(S "self" 883), (S "other" 884)]⟩ 0), ⟨[]⟩⟩
def o535 : Obj := ⟨(T "tuple"), none, (.seq ⟨[]⟩ 0), ⟨[]⟩⟩
def o536 : Obj := ⟨N, none, (F (C 42 21) (u "__gt__") (u "Members.__gt__") 0 [] N N N N none N N 0), ⟨[]⟩⟩
def o537 : Obj := ⟨(T "code"), none, (.fields ⟨[(S "__gt__" 880), (S "Members.__gt__" 881), (S "/claim/cut.py" 882), (I 269), (I 2), (I 0), (I 0), (I 3), (R 532), (.bool true), (I 181), (R 533), N, (R 534), (R 535), (R 536), (I 885), (I 269), (S "/claim/cut.py" 886)]⟩), ⟨[]⟩⟩
def o538 : Obj := ⟨(T "function"), none, (F (C 42 21) (u "__gt__") (u "Members.__gt__") 3 [] N N N (S "onemember.members" 686) none (R 537) N 0), ⟨[]⟩⟩
def o539 : Obj := ⟨(T "tuple"), none, (.seq ⟨[]⟩ 0), ⟨[]⟩⟩
def o540 : Obj := ⟨N, none, (.fields ⟨[]⟩), ⟨[]⟩⟩
def o541 : Obj := ⟨(T "tuple"), none, (.seq ⟨[(S "self" 891), (S "other" 892)]⟩ 0), ⟨[]⟩⟩
def o542 : Obj := ⟨(T "tuple"), none, (.seq ⟨[]⟩ 0), ⟨[]⟩⟩
def o543 : Obj := ⟨N, none, (F (C 42 22) (u "__add__") (u "Members.__add__") 0 [] N N N N none N N 0), ⟨[]⟩⟩
def o544 : Obj := ⟨(T "code"), none, (.fields ⟨[(S "__add__" 888), (S "Members.__add__" 889), (S "/claim/cut.py" 890), (I 273), (I 2), (I 0), (I 0), (I 3), (R 539), (.bool true), (I 181), (R 540), N, (R 541), (R 542), (R 543), (I 893), (I 273), (S "/claim/cut.py" 894)]⟩), ⟨[]⟩⟩
def o545 : Obj := ⟨(T "function"), none, (F (C 42 22) (u "__add__") (u "Members.__add__") 3 [] N N N (S "onemember.members" 686) none (R 544) N 0), ⟨[]⟩⟩
def o546 : Obj := ⟨(T "tuple"), none, (.seq ⟨[(S "_names" 896), (S "_table" 897)]⟩ 0), ⟨[]⟩⟩
def o547 (P : Params) : Obj := ⟨(T "dict"), none, (.dict ⟨[E P "__module__" 695 (S "onemember.members" 686), E P "__firstlineno__" 699 (.int 182 698), E P "__init__" 705 (R 390), E P "from_names" 724 (R 399), E P "read" 745 (R 409), E P "names" 753 (R 418), E P "__str__" 760 (R 425), E P "__repr__" 767 (R 432), E P "__len__" 774 (R 439), E P "__iter__" 781 (R 446), E P "__contains__" 789 (R 453), E P "__eq__" 797 (R 460), E P "__or__" 805 (R 467), E P "__and__" 811 (R 472), E P "__sub__" 817 (R 477), E P "__xor__" 825 (R 484), E P "__ior__" 833 (R 491), E P "__iand__" 841 (R 498), E P "__isub__" 849 (R 505), E P "__ixor__" 857 (R 512), E P "__le__" 863 (R 517), E P "__lt__" 871 (R 524), E P "__ge__" 879 (R 531), E P "__gt__" 887 (R 538), E P "__add__" 895 (R 545), E P "__static_attributes__" 898 (R 546), E P "__dict__" 900 (R 549), E P "__weakref__" 902 (R 550), E P "__doc__" 903 N, E P "__hash__" 904 N]⟩ 5), ⟨[]⟩⟩
def o548 : Obj := ⟨(T "type"), none, (.cls ⟨(u "Members"), [(T "object")], [(R 548), (T "object")], 547, (u "Members"), true, [], [], false, none, false⟩), ⟨[none, none, some (S "Members" 688), some (S "Members" 696), some (B "object.__new__"), some (.bool true)]⟩⟩
def o549 : Obj := ⟨(T "getset_descriptor"), none, (.fields ⟨[(S "__dict__" 899), (R 548), (B "function.__dict__"), (B "function.__dict__#set")]⟩), ⟨[]⟩⟩
def o550 : Obj := ⟨(T "getset_descriptor"), none, (.fields ⟨[(S "__weakref__" 901), (R 548), (B "ExceptionGroup.__weakref__"), N]⟩), ⟨[]⟩⟩
def o551 : Obj := ⟨(T "super"), none, (.fields ⟨[(R 548), (R 548), (R 548)]⟩), ⟨[]⟩⟩
def o552 : Obj := ⟨(T "builtin_function_or_method"), none, (.fields ⟨[(B "object.__init_subclass__"), (R 548)]⟩), ⟨[]⟩⟩
def t2 (P : Params) : BT := (n (boot_o_0 P) (n (boot_o_1 P) (n (o3_2 P) (n (boot_o_7 P) (n o15 (n o31 (n (o63 P) (n o127 (n o255 (n o511 z z) z) (n o383 z z)) (n o191 (n o319 z z) (n o447 z z))) (n (o95 P) (n o159 (n o287 (n o543 z z) z) (n o415 z z)) (n o223 (n o351 z z) (n o479 z z)))) (n o47 (n o79 (n o143 (n o271 (n o527 z z) z) (n o399 z z)) (n o207 (n o335 z z) (n o463 z z))) (n o111 (n o175 (n o303 z z) (n o431 z z)) (n o239 (n o367 z z) (n o495 z z))))) (n o23 (n o39 (n o71 (n o135 (n o263 (n o519 z z) z) (n o391 z z)) (n o199 (n o327 z z) (n o455 z z))) (n o103 (n o167 (n o295 (n o551 z z) z) (n o423 z z)) (n o231 (n o359 z z) (n o487 z z)))) (n o55 (n o87 (n o151 (n o279 (n o535 z z) z) (n o407 z z)) (n (o215 P) (n o343 z z) (n o471 z z))) (n o119 (n o183 (n o311 z z) (n o439 z z)) (n o247 (n o375 z z) (n o503 z z)))))) (n o11 (n o19 (n o35 (n o67 (n o131 (n (o259 P) (n o515 z z) z) (n o387 z z)) (n o195 (n o323 z z) (n o451 z z))) (n o99 (n o163 (n o291 (n (o547 P) z z) z) (n o419 z z)) (n (o227 P) (n o355 z z) (n o483 z z)))) (n o51 (n o83 (n o147 (n o275 (n o531 z z) z) (n o403 z z)) (n o211 (n o339 z z) (n o467 z z))) (n o115 (n o179 (n o307 z z) (n o435 z z)) (n o243 (n o371 z z) (n o499 z z))))) (n o27 (n (o43 P) (n o75 (n (o139 P) (n o267 (n o523 z z) z) (n o395 z z)) (n o203 (n o331 z z) (n o459 z z))) (n o107 (n (o171 P) (n o299 z z) (n o427 z z)) (n o235 (n o363 z z) (n o491 z z)))) (n o59 (n o91 (n o155 (n o283 (n o539 z z) z) (n o411 z z)) (n o219 (n o347 z z) (n o475 z z))) (n o123 (n o187 (n o315 z z) (n o443 z z)) (n o251 (n o379 z z) (n o507 z z))))))) (n (boot_o_5 P) (n (boot_o_9 P) (n o17 (n o33 (n o65 (n o129 (n o257 (n o513 z z) z) (n o385 z z)) (n o193 (n o321 z z) (n o449 z z))) (n o97 (n o161 (n o289 (n o545 z z) z) (n o417 z z)) (n o225 (n o353 z z) (n o481 z z)))) (n o49 (n o81 (n o145 (n o273 (n o529 z z) z) (n o401 z z)) (n (o209 P) (n o337 z z) (n o465 z z))) (n o113 (n (o177 P) (n o305 z z) (n o433 z z)) (n o241 (n o369 z z) (n o497 z z))))) (n o25 (n o41 (n o73 (n o137 (n o265 (n o521 z z) z) (n o393 z z)) (n o201 (n o329 z z) (n o457 z z))) (n o105 (n o169 (n o297 z z) (n o425 z z)) (n o233 (n o361 z z) (n o489 z z)))) (n o57_2 (n o89 (n o153 (n o281 (n o537 z z) z) (n o409 z z)) (n o217 (n o345 z z) (n o473 z z))) (n o121 (n o185 (n o313 z z) (n o441 z z)) (n o249 (n o377 z z) (n o505 z z)))))) (n o13 (n o21 (n (o37 P) (n o69 (n (o133 P) (n o261 (n o517 z z) z) (n o389 z z)) (n o197 (n o325 z z) (n o453 z z))) (n (o101 P) (n o165 (n o293 (n o549 z z) z) (n o421 z z)) (n o229 (n o357 z z) (n o485 z z)))) (n o53 (n o85 (n o149 (n o277 (n o533 z z) z) (n o405 z z)) (n o213 (n o341 z z) (n o469 z z))) (n o117 (n o181 (n o309 z z) (n o437 z z)) (n o245 (n o373 z z) (n o501 z z))))) (n o29 (n o45 (n o77 (n o141 (n o269 (n o525 z z) z) (n o397 z z)) (n o205 (n o333 z z) (n o461 z z))) (n o109 (n o173 (n o301 z z) (n o429 z z)) (n o237 (n o365 z z) (n o493 z z)))) (n o61 (n o93 (n o157 (n o285 (n o541 z z) z) (n o413 z z)) (n (o221 P) (n o349 z z) (n o477 z z))) (n o125 (n o189 (n o317 z z) (n o445 z z)) (n o253 (n (o381 P) z z) (n o509 z z)))))))) (n (o2_1 P) (n (boot_o_4 P) (n (boot_o_8 P) (n o16 (n o32 (n o64 (n o128 (n o256 (n o512 z z) z) (n o384 z z)) (n o192 (n o320 z z) (n o448 z z))) (n o96 (n o160 (n o288 (n o544 z z) z) (n o416 z z)) (n o224 (n o352 z z) (n o480 z z)))) (n o48 (n o80 (n o144 (n o272 (n o528 z z) z) (n (o400 P) z z)) (n o208 (n o336 z z) (n o464 z z))) (n o112 (n o176 (n o304 z z) (n o432 z z)) (n (o240 P) (n o368 z z) (n o496 z z))))) (n (o24 P) (n o40 (n o72 (n o136 (n o264 (n o520 z z) z) (n o392 z z)) (n o200 (n o328 z z) (n o456 z z))) (n o104 (n o168 (n o296 (n o552 z z) z) (n o424 z z)) (n o232 (n o360 z z) (n o488 z z)))) (n (o56 P) (n o88 (n (o152 P) (n o280 (n o536 z z) z) (n (o408 P) z z)) (n o216 (n o344 z z) (n o472 z z))) (n (o120 P) (n o184 (n o312 z z) (n o440 z z)) (n o248 (n o376 z z) (n o504 z z)))))) (n o12_2 (n o20 (n o36 (n o68 (n o132 (n o260 (n o516 z z) z) (n o388 z z)) (n (o196 P) (n o324 z z) (n o452 z z))) (n o100 (n o164 (n o292 (n o548 z z) z) (n o420 z z)) (n o228 (n o356 z z) (n o484 z z)))) (n o52 (n o84 (n o148 (n o276 (n o532 z z) z) (n o404 z z)) (n o212 (n o340 z z) (n o468 z z))) (n o116 (n o180 (n o308 z z) (n o436 z z)) (n o244 (n o372 z z) (n o500 z z))))) (n o28 (n o44_2 (n (o76 P) (n o140 (n o268 (n o524 z z) z) (n o396 z z)) (n o204 (n o332 z z) (n o460 z z))) (n o108 (n o172 (n o300 z z) (n o428 z z)) (n o236 (n o364 z z) (n o492 z z)))) (n o60 (n o92 (n o156 (n o284 (n o540 z z) z) (n o412 z z)) (n o220 (n o348 z z) (n o476 z z))) (n o124 (n o188 (n o316 z z) (n o444 z z)) (n o252 (n o380 z z) (n o508 z z))))))) (n (boot_o_6 P) (n (boot_o_10 P) (n o18 (n o34 (n o66 (n o130 (n o258 (n o514 z z) z) (n o386 z z)) (n o194 (n o322 z z) (n o450 z z))) (n o98 (n o162 (n o290 (n o546 z z) z) (n o418 z z)) (n o226 (n o354 z z) (n o482 z z)))) (n (o50 P) (n (o82 P) (n o146 (n o274 (n o530 z z) z) (n o402 z z)) (n o210 (n o338 z z) (n o466 z z))) (n (o114 P) (n o178 (n o306 z z) (n o434 z z)) (n o242 (n o370 z z) (n o498 z z))))) (n o26 (n o42 (n o74 (n o138 (n o266 (n o522 z z) z) (n o394 z z)) (n o202 (n o330 z z) (n o458 z z))) (n o106 (n o170 (n o298 z z) (n o426 z z)) (n o234 (n o362 z z) (n o490 z z)))) (n o58 (n o90 (n o154 (n o282 (n o538 z z) z) (n (o410 P) z z)) (n o218 (n o346 z z) (n o474 z z))) (n o122 (n o186 (n o314 z z) (n o442 z z)) (n o250 (n o378 z z) (n o506 z z)))))) (n o14 (n o22 (n o38 (n o70 (n o134 (n o262 (n o518 z z) z) (n o390 z z)) (n o198 (n o326 z z) (n o454 z z))) (n o102 (n o166 (n o294 (n o550 z z) z) (n o422 z z)) (n o230 (n o358 z z) (n o486 z z)))) (n o54 (n o86 (n o150 (n o278 (n o534 z z) z) (n o406 z z)) (n o214 (n o342 z z) (n o470 z z))) (n o118 (n o182 (n o310 z z) (n o438 z z)) (n (o246 P) (n o374 z z) (n o502 z z))))) (n (o30 P) (n o46 (n o78 (n o142 (n o270 (n o526 z z) z) (n (o398 P) z z)) (n o206 (n o334 z z) (n o462 z z))) (n o110 (n o174 (n o302 z z) (n o430 z z)) (n o238 (n o366 z z) (n o494 z z)))) (n o62 (n o94 (n (o158 P) (n o286 (n o542 z z) z) (n o414 z z)) (n o222 (n o350 z z) (n o478 z z))) (n o126 (n (o190 P) (n o318 z z) (n o446 z z)) (n o254 (n o382 z z) (n o510 z z)))))))))
def o3_3 (P : Params) : Obj := ⟨(T "dict"), none, (.dict ⟨[E P "__name__" 165 (S "law_onemember_k06_whole_expressions_of_sets" 1263), E P "__doc__" 166 N, E P "__package__" 167 N, E P "__loader__" 168 (B "__main__.__loader__#opaque"), E P "__spec__" 169 N, E P "__annotations__" 170 (R 6), E P "__builtins__" 171 (R 4), E P "__file__" 173 (S "/claim/cut.py" 172), E P "__cached__" 174 N, E P "_wall" 193 (R 21), E P "SetError" 213 (R 31), E P "StateError" 231 (R 44), E P "LimitError" 251 (R 57), E P "NotMembers" 276 (R 77), E P "NotAChange" 301 (R 96), E P "NotAnExpression" 326 (R 115), E P "InvalidForm" 351 (R 134), E P "InvalidText" 376 (R 153), E P "UnknownField" 401 (R 172), E P "InvalidNames" 426 (R 191), E P "InvalidSets" 451 (R 210), E P "NotComparable" 467 (R 222), E P "TooManyLeaves" 492 (R 241), E P "TooManyLevels" 517 (R 260), E P "MOST_LEAVES" 519 (.int 200 518), E P "MOST_DEPTH" 521 (.int 20 520), E P "LONGEST_NAME" 525 (.int 8 524), E P "is_name" 532 (R 269), E P "wrong_at" 541 (R 276), E P "wrong_or_twice_at" 551 (R 283), E P "SIGNS" 558 (R 284), E P "GIVEN" 560 (S "given" 559), E P "NONE" 562 (S "none" 561), E P "is_field" 569 (R 291), E P "form_size" 575 (R 296), E P "is_triple" 582 (R 303), E P "check_leaves" 589 (R 310), E P "check_depth" 596 (R 317), E P "form_text" 606 (R 324), E P "side_text" 613 (R 331), E P "read_counted" 624 (R 338), E P "take_word" 633 (R 345), E P "joined" 645 (R 352), E P "form_leaves" 652 (R 359), E P "form_fields" 658 (R 364), E P "form_meets" 672 (R 371), E P "form_value" 685 (R 378), E P "Members" 906 (R 548), E P "Change" 1020 (R 637), E P "check_members" 1027 (R 648), E P "check_change" 1034 (R 655), E P "Expression" 1218 (R 794), E P "check_expression" 1225 (R 805), E P "with_sign" 1234 (R 812), E P "all_sets" 1245 (R 819), E P "field_sets" 1255 (R 826), E P "is_field_set" 1262 (R 833), E P "_law_cell" 1274 (R 840), E P "_law_pool" 1281 (R 847), E P "_law_draw" 1291 (R 854), E P "_law_names" 1297 (R 859), E P "_law_form" 1307 (R 866), E P "_law_in" 1318 (R 873), E P "_law_caught" 1331 (R 880), E P "_law_sets" 1337 (R 885), E P "_law_pairs" 1343 (R 890), E P "_law_wanted" 1349 (R 895), E P "_law_bent" 1362 (R 902)]⟩ 68), ⟨[]⟩⟩
def o12_3 : Obj := ⟨N, none, (.fields ⟨[(I 1), (I 0), (R 20), (I 5), (I 0), (R 27), (I 7), (I 0), (R 40), (I 9), (I 0), (R 53), (I 11), (I 0), (R 66), (I 15), (I 0), (R 85), (I 19), (I 0), (R 104), (I 23), (I 0), (R 123), (I 27), (I 0), (R 142), (I 31), (I 0), (R 161), (I 35), (I 0), (R 180), (I 39), (I 0), (R 199), (I 43), (I 0), (R 218), (I 45), (I 0), (R 230), (I 49), (I 0), (R 249), (I 57), (I 0), (R 268), (I 63), (I 0), (R 275), (I 68), (I 0), (R 282), (I 79), (I 0), (R 290), (I 81), (I 0), (R 295), (I 96), (I 0), (R 302), (I 98), (I 0), (R 309), (I 101), (I 0), (R 316), (I 104), (I 0), (R 323), (I 109), (I 0), (R 330), (I 113), (I 0), (R 337), (I 127), (I 0), (R 344), (I 141), (I 0), (R 351), (I 144), (I 0), (R 358), (I 148), (I 0), (R 363), (I 151), (I 0), (R 370), (I 168), (I 0), (R 377), (I 182), (I 0), (R 384), (I 276), (I 0), (R 558), (I 320), (I 0), (R 647), (I 323), (I 0), (R 654), (I 327), (I 0), (R 661), (I 405), (I 0), (R 804), (I 408), (I 0), (R 811), (I 411), (I 0), (R 818), (I 421), (I 0), (R 825), (I 430), (I 0), (R 832), (I 435), (I 0), (R 839), (I 442), (I 0), (R 846), (I 444), (I 0), (R 853), (I 453), (I 0), (R 858), (I 462), (I 0), (R 865), (I 467), (I 0), (R 872), (I 474), (I 0), (R 879), (I 499), (I 0), (R 884), (I 501), (I 0), (R 889), (I 503), (I 0), (R 894), (I 510), (I 0), (R 901)]⟩), ⟨[]⟩⟩
def o553 : Obj := ⟨(T "tuple"), none, (.seq ⟨[]⟩ 0), ⟨[]⟩⟩
def o554 : Obj := ⟨(T "builtin_function_or_method"), none, (.fields ⟨[(B "type.__prepare__"), (T "type")]⟩), ⟨[]⟩⟩
def o555 (P : Params) : Obj := ⟨(T "dict"), none, (.dict ⟨[E P "__module__" 914 (S "onemember.members" 686), E P "__qualname__" 916 (S "Change" 915), E P "__firstlineno__" 918 (.int 276 917), E P "__init__" 927 (R 566), E P "between" 947 (R 575), E P "came" 955 (R 584), E P "went" 963 (R 592), E P "__repr__" 970 (R 599), E P "__bool__" 977 (R 606), E P "__abs__" 984 (R 613), E P "__eq__" 992 (R 620), E P "__neg__" 999 (R 627), E P "__add__" 1009 (R 634), E P "__static_attributes__" 1012 (R 635)]⟩ 14), ⟨[]⟩⟩
def o556 : Obj := ⟨(T "tuple"), none, (.seq ⟨[]⟩ 0), ⟨[]⟩⟩
def o557 : Obj := ⟨N, none, (.fields ⟨[(I 278), (I 4), (R 565), (I 287), (I 4), (R 572), (I 293), (I 4), (R 582), (I 297), (I 4), (R 590), (I 300), (I 4), (R 598), (I 303), (I 4), (R 605), (I 306), (I 4), (R 612), (I 309), (I 4), (R 619), (I 312), (I 4), (R 626), (I 315), (I 4), (R 633)]⟩), ⟨[]⟩⟩
def o558 : Obj := ⟨(T "code"), none, (.fields ⟨[(S "Change" 909), (S "Change" 910), (S "/claim/cut.py" 911), (I 276), (I 0), (I 0), (I 0), (I 0), (R 556), (.bool false), (I 181), (R 557), N, N, N, N, (I 912), (I 276), (S "/claim/cut.py" 913)]⟩), ⟨[]⟩⟩
def o559 : Obj := ⟨(T "frame"), none, .plain, ⟨[some (R 558), some (R 3), some (R 555), none, some (S "onemember.members" 686), none, some (R 0)]⟩⟩
def o560 : Obj := ⟨(T "tuple"), none, (.seq ⟨[]⟩ 0), ⟨[]⟩⟩
def o561 : Obj := ⟨N, none, (.fields ⟨[]⟩), ⟨[]⟩⟩
def o562 : Obj := ⟨(T "tuple"), none, (.seq ⟨[(S "self" 922), (S "came" 923), (S "went" 924)]⟩ 0), ⟨[]⟩⟩
def o563 : Obj := ⟨(T "tuple"), none, (.seq ⟨[]⟩ 0), ⟨[]⟩⟩
def o564 : Obj := ⟨N, none, (F (C 43 0) (u "__init__") (u "Change.__init__") 0 [] N N N N none N N 0), ⟨[]⟩⟩
def o565 : Obj := ⟨(T "code"), none, (.fields ⟨[(S "__init__" 919), (S "Change.__init__" 920), (S "/claim/cut.py" 921), (I 278), (I 3), (I 0), (I 0), (I 3), (R 560), (.bool true), (I 181), (R 561), N, (R 562), (R 563), (R 564), (I 925), (I 278), (S "/claim/cut.py" 926)]⟩), ⟨[]⟩⟩
def o566 : Obj := ⟨(T "function"), none, (F (C 43 0) (u "__init__") (u "Change.__init__") 3 [] N N N (S "onemember.members" 686) none (R 565) N 0), ⟨[]⟩⟩
def o567 : Obj := ⟨(T "tuple"), none, (.seq ⟨[]⟩ 0), ⟨[]⟩⟩
def o568 : Obj := ⟨N, none, (.fields ⟨[]⟩), ⟨[]⟩⟩
def o569 : Obj := ⟨(T "tuple"), none, (.seq ⟨[(S "before" 931), (S "after" 932)]⟩ 0), ⟨[]⟩⟩
def o570 : Obj := ⟨(T "tuple"), none, (.seq ⟨[]⟩ 0), ⟨[]⟩⟩
def o571 : Obj := ⟨N, none, (F (C 43 1) (u "between") (u "Change.between") 0 [] N N N N none N N 0), ⟨[]⟩⟩
def o572 : Obj := ⟨(T "code"), none, (.fields ⟨[(S "between" 928), (S "Change.between" 929), (S "/claim/cut.py" 930), (I 286), (I 2), (I 0), (I 0), (I 3), (R 567), (.bool true), (I 181), (R 568), N, (R 569), (R 570), (R 571), (I 933), (I 286), (S "/claim/cut.py" 934)]⟩), ⟨[]⟩⟩
def o573 : Obj := ⟨(T "function"), none, (F (C 43 1) (u "between") (u "Change.between") 3 [] N N N (S "onemember.members" 686) (some 576) (R 572) N 0), ⟨[]⟩⟩
def o574 (P : Params) : Obj := ⟨(T "dict"), none, (.dict ⟨[E P "__module__" 936 (S "onemember.members" 686), E P "__name__" 939 (S "between" 938), E P "__qualname__" 942 (S "Change.between" 941), E P "__doc__" 944 N, E P "__annotations__" 946 (R 576)]⟩ 5), ⟨[]⟩⟩
def o575 : Obj := ⟨(T "staticmethod"), (some 574), (.fields ⟨[(R 573), (.bool false)]⟩), ⟨[]⟩⟩
def o576 (P : Params) : Obj := ⟨(T "dict"), none, (.dict ⟨[]⟩ 0), ⟨[]⟩⟩
def o577 : Obj := ⟨(T "tuple"), none, (.seq ⟨[]⟩ 0), ⟨[]⟩⟩
def o578 : Obj := ⟨N, none, (.fields ⟨[]⟩), ⟨[]⟩⟩
def o579 : Obj := ⟨(T "tuple"), none, (.seq ⟨[(S "self" 951)]⟩ 0), ⟨[]⟩⟩
def o580 : Obj := ⟨(T "tuple"), none, (.seq ⟨[]⟩ 0), ⟨[]⟩⟩
def o581 : Obj := ⟨N, none, (F (C 43 2) (u "came") (u "Change.came") 0 [] N N N N none N N 0), ⟨[]⟩⟩
def o582 : Obj := ⟨(T "code"), none, (.fields ⟨[(S "came" 948), (S "Change.came" 949), (S "/claim/cut.py" 950), (I 292), (I 1), (I 0), (I 0), (I 3), (R 577), (.bool true), (I 181), (R 578), N, (R 579), (R 580), (R 581), (I 952), (I 292), (S "/claim/cut.py" 953)]⟩), ⟨[]⟩⟩
def o583 : Obj := ⟨(T "function"), none, (F (C 43 2) (u "came") (u "Change.came") 3 [] N N N (S "onemember.members" 686) none (R 582) N 0), ⟨[]⟩⟩
def o584 : Obj := ⟨(T "property"), none, (.fields ⟨[(R 583), N, N, N, (S "came" 955), (.bool false)]⟩), ⟨[]⟩⟩
def o585 : Obj := ⟨(T "tuple"), none, (.seq ⟨[]⟩ 0), ⟨[]⟩⟩
def o586 : Obj := ⟨N, none, (.fields ⟨[]⟩), ⟨[]⟩⟩
def o587 : Obj := ⟨(T "tuple"), none, (.seq ⟨[(S "self" 959)]⟩ 0), ⟨[]⟩⟩
def o588 : Obj := ⟨(T "tuple"), none, (.seq ⟨[]⟩ 0), ⟨[]⟩⟩
def o589 : Obj := ⟨N, none, (F (C 43 3) (u "went") (u "Change.went") 0 [] N N N N none N N 0), ⟨[]⟩⟩
def o590 : Obj := ⟨(T "code"), none, (.fields ⟨[(S "went" 956), (S "Change.went" 957), (S "/claim/cut.py" 958), (I 296), (I 1), (I 0), (I 0), (I 3), (R 585), (.bool true), (I 181), (R 586), N, (R 587), (R 588), (R 589), (I 960), (I 296), (S "/claim/cut.py" 961)]⟩), ⟨[]⟩⟩
def o591 : Obj := ⟨(T "function"), none, (F (C 43 3) (u "went") (u "Change.went") 3 [] N N N (S "onemember.members" 686) none (R 590) N 0), ⟨[]⟩⟩
def o592 : Obj := ⟨(T "property"), none, (.fields ⟨[(R 591), N, N, N, (S "went" 963), (.bool false)]⟩), ⟨[]⟩⟩
def o593 : Obj := ⟨(T "tuple"), none, (.seq ⟨[]⟩ 0), ⟨[]⟩⟩
def o594 : Obj := ⟨N, none, (.fields ⟨[]⟩), ⟨[]⟩⟩
def o595 : Obj := ⟨(T "tuple"), none, (.seq ⟨[(S "self" 967)]⟩ 0), ⟨[]⟩⟩
def o596 : Obj := ⟨(T "tuple"), none, (.seq ⟨[]⟩ 0), ⟨[]⟩⟩
def o597 : Obj := ⟨N, none, (F (C 43 4) (u "__repr__") (u "Change.__repr__") 0 [] N N N N none N N 0), ⟨[]⟩⟩
def o598 : Obj := ⟨(T "code"), none, (.fields ⟨[(S "__repr__" 964), (S "Change.__repr__" 965), (S "/claim/cut.py" 966), (I 300), (I 1), (I 0), (I 0), (I 3), (R 593), (.bool true), (I 181), (R 594), N, (R 595), (R 596), (R 597), (I 968), (I 300), (S "/claim/cut.py" 969)]⟩), ⟨[]⟩⟩
def o599 : Obj := ⟨(T "function"), none, (F (C 43 4) (u "__repr__") (u "Change.__repr__") 3 [] N N N (S "onemember.members" 686) none (R 598) N 0), ⟨[]⟩⟩
def o600 : Obj := ⟨(T "tuple"), none, (.seq ⟨[]⟩ 0), ⟨[]⟩⟩
def o601 : Obj := ⟨N, none, (.fields ⟨[]⟩), ⟨[]⟩⟩
def o602 : Obj := ⟨(T "tuple"), none, (.seq ⟨[(S "self" 974)]⟩ 0), ⟨[]⟩⟩
def o603 : Obj := ⟨(T "tuple"), none, (.seq ⟨[]⟩ 0), ⟨[]⟩⟩
def o604 : Obj := ⟨N, none, (F (C 43 5) (u "__bool__") (u "Change.__bool__") 0 [] N N N N none N N 0), ⟨[]⟩⟩
def o605 : Obj := ⟨(T "code"), none, (.fields ⟨[(S "__bool__" 971), (S "Change.__bool__" 972), (S "/claim/cut.py" 973), (I 303), (I 1), (I 0), (I 0), (I 3), (R 600), (.bool true), (I 181), (R 601), N, (R 602), (R 603), (R 604), (I 975), (I 303), (S "/claim/cut.py" 976)]⟩), ⟨[]⟩⟩
def o606 : Obj := ⟨(T "function"), none, (F (C 43 5) (u "__bool__") (u "Change.__bool__") 3 [] N N N (S "onemember.members" 686) none (R 605) N 0), ⟨[]⟩⟩
def o607 : Obj := ⟨(T "tuple"), none, (.seq ⟨[]⟩ 0), ⟨[]⟩⟩
def o608 : Obj := ⟨N, none, (.fields ⟨[]⟩), ⟨[]⟩⟩
def o609 : Obj := ⟨(T "tuple"), none, (.seq ⟨[(S "self" 981)]⟩ 0), ⟨[]⟩⟩
def o610 : Obj := ⟨(T "tuple"), none, (.seq ⟨[]⟩ 0), ⟨[]⟩⟩
def o611 : Obj := ⟨N, none, (F (C 43 6) (u "__abs__") (u "Change.__abs__") 0 [] N N N N none N N 0), ⟨[]⟩⟩
def o612 : Obj := ⟨(T "code"), none, (.fields ⟨[(S "__abs__" 978), (S "Change.__abs__" 979), (S "/claim/cut.py" 980), (I 306), (I 1), (I 0), (I 0), (I 3), (R 607), (.bool true), (I 181), (R 608), N, (R 609), (R 610), (R 611), (I 982), (I 306), (S "/claim/cut.py" 983)]⟩), ⟨[]⟩⟩
def o613 : Obj := ⟨(T "function"), none, (F (C 43 6) (u "__abs__") (u "Change.__abs__") 3 [] N N N (S "onemember.members" 686) none (R 612) N 0), ⟨[]⟩⟩
def o614 : Obj := ⟨(T "tuple"), none, (.seq ⟨[]⟩ 0), ⟨[]⟩⟩
def o615 : Obj := ⟨N, none, (.fields ⟨[]⟩), ⟨[]⟩⟩
def o616 : Obj := ⟨(T "tuple"), none, (.seq ⟨[(S "self" 988), (S "other" 989)]⟩ 0), ⟨[]⟩⟩
def o617 : Obj := ⟨(T "tuple"), none, (.seq ⟨[]⟩ 0), ⟨[]⟩⟩
def o618 : Obj := ⟨N, none, (F (C 43 7) (u "__eq__") (u "Change.__eq__") 0 [] N N N N none N N 0), ⟨[]⟩⟩
def o619 : Obj := ⟨(T "code"), none, (.fields ⟨[(S "__eq__" 985), (S "Change.__eq__" 986), (S "/claim/cut.py" 987), (I 309), (I 2), (I 0), (I 0), (I 3), (R 614), (.bool true), (I 181), (R 615), N, (R 616), (R 617), (R 618), (I 990), (I 309), (S "/claim/cut.py" 991)]⟩), ⟨[]⟩⟩
def o620 : Obj := ⟨(T "function"), none, (F (C 43 7) (u "__eq__") (u "Change.__eq__") 3 [] N N N (S "onemember.members" 686) none (R 619) N 0), ⟨[]⟩⟩
def o621 : Obj := ⟨(T "tuple"), none, (.seq ⟨[]⟩ 0), ⟨[]⟩⟩
def o622 : Obj := ⟨N, none, (.fields ⟨[]⟩), ⟨[]⟩⟩
def o623 : Obj := ⟨(T "tuple"), none, (.seq ⟨[(S "self" 996)]⟩ 0), ⟨[]⟩⟩
def o624 : Obj := ⟨(T "tuple"), none, (.seq ⟨[]⟩ 0), ⟨[]⟩⟩
def o625 : Obj := ⟨N, none, (F (C 43 8) (u "__neg__") (u "Change.__neg__") 0 [] N N N N none N N 0), ⟨[]⟩⟩
def o626 : Obj := ⟨(T "code"), none, (.fields ⟨[(S "__neg__" 993), (S "Change.__neg__" 994), (S "/claim/cut.py" 995), (I 312), (I 1), (I 0), (I 0), (I 3), (R 621), (.bool true), (I 181), (R 622), N, (R 623), (R 624), (R 625), (I 997), (I 312), (S "/claim/cut.py" 998)]⟩), ⟨[]⟩⟩
def o627 : Obj := ⟨(T "function"), none, (F (C 43 8) (u "__neg__") (u "Change.__neg__") 3 [] N N N (S "onemember.members" 686) none (R 626) N 0), ⟨[]⟩⟩
def o628 : Obj := ⟨(T "tuple"), none, (.seq ⟨[]⟩ 0), ⟨[]⟩⟩
def o629 : Obj := ⟨N, none, (.fields ⟨[]⟩), ⟨[]⟩⟩
def o630 : Obj := ⟨(T "tuple"), none, (.seq ⟨[(S "self" 1003), (S "other" 1004), (S "came" 1005), (S "went" 1006)]⟩ 0), ⟨[]⟩⟩
def o631 : Obj := ⟨(T "tuple"), none, (.seq ⟨[]⟩ 0), ⟨[]⟩⟩
def o632 : Obj := ⟨N, none, (F (C 43 9) (u "__add__") (u "Change.__add__") 0 [] N N N N none N N 0), ⟨[]⟩⟩
def o633 : Obj := ⟨(T "code"), none, (.fields ⟨[(S "__add__" 1000), (S "Change.__add__" 1001), (S "/claim/cut.py" 1002), (I 315), (I 2), (I 0), (I 0), (I 3), (R 628), (.bool true), (I 181), (R 629), N, (R 630), (R 631), (R 632), (I 1007), (I 315), (S "/claim/cut.py" 1008)]⟩), ⟨[]⟩⟩
def o634 : Obj := ⟨(T "function"), none, (F (C 43 9) (u "__add__") (u "Change.__add__") 3 [] N N N (S "onemember.members" 686) none (R 633) N 0), ⟨[]⟩⟩
def o635 : Obj := ⟨(T "tuple"), none, (.seq ⟨[(S "_came" 1010), (S "_went" 1011)]⟩ 0), ⟨[]⟩⟩
def o636 (P : Params) : Obj := ⟨(T "dict"), none, (.dict ⟨[E P "__module__" 914 (S "onemember.members" 686), E P "__firstlineno__" 918 (.int 276 917), E P "__init__" 927 (R 566), E P "between" 947 (R 575), E P "came" 955 (R 584), E P "went" 963 (R 592), E P "__repr__" 970 (R 599), E P "__bool__" 977 (R 606), E P "__abs__" 984 (R 613), E P "__eq__" 992 (R 620), E P "__neg__" 999 (R 627), E P "__add__" 1009 (R 634), E P "__static_attributes__" 1012 (R 635), E P "__dict__" 1014 (R 638), E P "__weakref__" 1016 (R 639), E P "__doc__" 1017 N, E P "__hash__" 1018 N]⟩ 5), ⟨[]⟩⟩
def o637 : Obj := ⟨(T "type"), none, (.cls ⟨(u "Change"), [(T "object")], [(R 637), (T "object")], 636, (u "Change"), true, [], [], false, none, false⟩), ⟨[none, none, some (S "Change" 907), some (S "Change" 915), some (B "object.__new__"), some (.bool true)]⟩⟩
def o638 : Obj := ⟨(T "getset_descriptor"), none, (.fields ⟨[(S "__dict__" 1013), (R 637), (B "function.__dict__"), (B "function.__dict__#set")]⟩), ⟨[]⟩⟩
def o639 : Obj := ⟨(T "getset_descriptor"), none, (.fields ⟨[(S "__weakref__" 1015), (R 637), (B "ExceptionGroup.__weakref__"), N]⟩), ⟨[]⟩⟩
def o640 : Obj := ⟨(T "super"), none, (.fields ⟨[(R 637), (R 637), (R 637)]⟩), ⟨[]⟩⟩
def o641 : Obj := ⟨(T "builtin_function_or_method"), none, (.fields ⟨[(B "object.__init_subclass__"), (R 637)]⟩), ⟨[]⟩⟩
def o642 : Obj := ⟨(T "tuple"), none, (.seq ⟨[]⟩ 0), ⟨[]⟩⟩
def o643 : Obj := ⟨N, none, (.fields ⟨[]⟩), ⟨[]⟩⟩
def o644 : Obj := ⟨(T "tuple"), none, (.seq ⟨[(S "value" 1024)]⟩ 0), ⟨[]⟩⟩
def o645 : Obj := ⟨(T "tuple"), none, (.seq ⟨[]⟩ 0), ⟨[]⟩⟩
def o646 : Obj := ⟨N, none, (F (A 44) (u "check_members") (u "check_members") 0 [] N N N N none N N 0), ⟨[]⟩⟩
def o647 : Obj := ⟨(T "code"), none, (.fields ⟨[(S "check_members" 1021), (S "check_members" 1022), (S "/claim/cut.py" 1023), (I 320), (I 1), (I 0), (I 0), (I 3), (R 642), (.bool true), (I 181), (R 643), N, (R 644), (R 645), (R 646), (I 1025), (I 320), (S "/claim/cut.py" 1026)]⟩), ⟨[]⟩⟩
def o648 : Obj := ⟨(T "function"), none, (F (A 44) (u "check_members") (u "check_members") 3 [] N N N (S "onemember.members" 686) none (R 647) N 0), ⟨[]⟩⟩
def o649 : Obj := ⟨(T "tuple"), none, (.seq ⟨[]⟩ 0), ⟨[]⟩⟩
def o650 : Obj := ⟨N, none, (.fields ⟨[]⟩), ⟨[]⟩⟩
def o651 : Obj := ⟨(T "tuple"), none, (.seq ⟨[(S "value" 1031)]⟩ 0), ⟨[]⟩⟩
def o652 : Obj := ⟨(T "tuple"), none, (.seq ⟨[]⟩ 0), ⟨[]⟩⟩
def o653 : Obj := ⟨N, none, (F (A 45) (u "check_change") (u "check_change") 0 [] N N N N none N N 0), ⟨[]⟩⟩
def o654 : Obj := ⟨(T "code"), none, (.fields ⟨[(S "check_change" 1028), (S "check_change" 1029), (S "/claim/cut.py" 1030), (I 323), (I 1), (I 0), (I 0), (I 3), (R 649), (.bool true), (I 181), (R 650), N, (R 651), (R 652), (R 653), (I 1032), (I 323), (S "/claim/cut.py" 1033)]⟩), ⟨[]⟩⟩
def o655 : Obj := ⟨(T "function"), none, (F (A 45) (u "check_change") (u "check_change") 3 [] N N N (S "onemember.members" 686) none (R 654) N 0), ⟨[]⟩⟩
def o656 : Obj := ⟨(T "tuple"), none, (.seq ⟨[]⟩ 0), ⟨[]⟩⟩
def o657 : Obj := ⟨(T "builtin_function_or_method"), none, (.fields ⟨[(B "type.__prepare__"), (T "type")]⟩), ⟨[]⟩⟩
def o658 (P : Params) : Obj := ⟨(T "dict"), none, (.dict ⟨[E P "__module__" 1044 (S "onemember.expressions" 1035), E P "__qualname__" 1046 (S "Expression" 1045), E P "__firstlineno__" 1048 (.int 327 1047), E P "__init__" 1059 (R 669), E P "read" 1081 (R 678), E P "form" 1089 (R 687), E P "leaves" 1097 (R 695), E P "depth" 1105 (R 703), E P "fields" 1113 (R 711), E P "has_given" 1121 (R 719), E P "__str__" 1128 (R 726), E P "__repr__" 1135 (R 733), E P "__eq__" 1143 (R 740), E P "__or__" 1151 (R 747), E P "__and__" 1159 (R 754), E P "__sub__" 1167 (R 761), E P "__xor__" 1175 (R 768), E P "within" 1183 (R 775), E P "of" 1193 (R 783), E P "meets" 1204 (R 791), E P "__static_attributes__" 1210 (R 792)]⟩ 21), ⟨[]⟩⟩
def o659 : Obj := ⟨(T "tuple"), none, (.seq ⟨[]⟩ 0), ⟨[]⟩⟩
def o660 : Obj := ⟨N, none, (.fields ⟨[(I 329), (I 4), (R 668), (I 343), (I 4), (R 675), (I 352), (I 4), (R 685), (I 356), (I 4), (R 693), (I 360), (I 4), (R 701), (I 364), (I 4), (R 709), (I 368), (I 4), (R 717), (I 371), (I 4), (R 725), (I 374), (I 4), (R 732), (I 377), (I 4), (R 739), (I 380), (I 4), (R 746), (I 383), (I 4), (R 753), (I 386), (I 4), (R 760), (I 389), (I 4), (R 767), (I 392), (I 4), (R 774), (I 395), (I 4), (R 782), (I 398), (I 4), (R 790)]⟩), ⟨[]⟩⟩
def o661 : Obj := ⟨(T "code"), none, (.fields ⟨[(S "Expression" 1039), (S "Expression" 1040), (S "/claim/cut.py" 1041), (I 327), (I 0), (I 0), (I 0), (I 0), (R 659), (.bool false), (I 181), (R 660), N, N, N, N, (I 1042), (I 327), (S "/claim/cut.py" 1043)]⟩), ⟨[]⟩⟩
def o662 : Obj := ⟨(T "frame"), none, .plain, ⟨[some (R 661), some (R 3), some (R 658), none, some (S "onemember.expressions" 1035), none, some (R 0)]⟩⟩
def o663 : Obj := ⟨(T "tuple"), none, (.seq ⟨[]⟩ 0), ⟨[]⟩⟩
def o664 : Obj := ⟨N, none, (.fields ⟨[]⟩), ⟨[]⟩⟩
def o665 : Obj := ⟨(T "tuple"), none, (.seq ⟨[(S "self" 1052), (S "form" 1053), (S "size" 1054), (S "leaves" 1055), (S "depth" 1056)]⟩ 0), ⟨[]⟩⟩
def o666 : Obj := ⟨(T "tuple"), none, (.seq ⟨[]⟩ 0), ⟨[]⟩⟩
def o667 : Obj := ⟨N, none, (F (C 47 0) (u "__init__") (u "Expression.__init__") 0 [] N N N N none N N 0), ⟨[]⟩⟩
def o668 : Obj := ⟨(T "code"), none, (.fields ⟨[(S "__init__" 1049), (S "Expression.__init__" 1050), (S "/claim/cut.py" 1051), (I 329), (I 2), (I 0), (I 0), (I 3), (R 663), (.bool true), (I 181), (R 664), N, (R 665), (R 666), (R 667), (I 1057), (I 329), (S "/claim/cut.py" 1058)]⟩), ⟨[]⟩⟩
def o669 : Obj := ⟨(T "function"), none, (F (C 47 0) (u "__init__") (u "Expression.__init__") 3 [] N N N (S "onemember.expressions" 1035) none (R 668) N 0), ⟨[]⟩⟩
def o670 : Obj := ⟨(T "tuple"), none, (.seq ⟨[]⟩ 0), ⟨[]⟩⟩
def o671 : Obj := ⟨N, none, (.fields ⟨[]⟩), ⟨[]⟩⟩
def o672 : Obj := ⟨(T "tuple"), none, (.seq ⟨[(S "text" 1063), (S "counted" 1064), (S "form" 1065), (S "leaves" 1066)]⟩ 0), ⟨[]⟩⟩
def o673 : Obj := ⟨(T "tuple"), none, (.seq ⟨[]⟩ 0), ⟨[]⟩⟩
def o674 : Obj := ⟨N, none, (F (C 47 1) (u "read") (u "Expression.read") 0 [] N N N N none N N 0), ⟨[]⟩⟩
def o675 : Obj := ⟨(T "code"), none, (.fields ⟨[(S "read" 1060), (S "Expression.read" 1061), (S "/claim/cut.py" 1062), (I 342), (I 1), (I 0), (I 0), (I 3), (R 670), (.bool true), (I 181), (R 671), N, (R 672), (R 673), (R 674), (I 1067), (I 342), (S "/claim/cut.py" 1068)]⟩), ⟨[]⟩⟩
def o676 : Obj := ⟨(T "function"), none, (F (C 47 1) (u "read") (u "Expression.read") 3 [] N N N (S "onemember.expressions" 1035) (some 679) (R 675) N 0), ⟨[]⟩⟩
def o677 (P : Params) : Obj := ⟨(T "dict"), none, (.dict ⟨[E P "__module__" 1070 (S "onemember.expressions" 1035), E P "__name__" 1073 (S "read" 1072), E P "__qualname__" 1076 (S "Expression.read" 1075), E P "__doc__" 1078 N, E P "__annotations__" 1080 (R 679)]⟩ 5), ⟨[]⟩⟩
def o678 : Obj := ⟨(T "staticmethod"), (some 677), (.fields ⟨[(R 676), (.bool false)]⟩), ⟨[]⟩⟩
def o679 (P : Params) : Obj := ⟨(T "dict"), none, (.dict ⟨[]⟩ 0), ⟨[]⟩⟩
def o680 : Obj := ⟨(T "tuple"), none, (.seq ⟨[]⟩ 0), ⟨[]⟩⟩
def o681 : Obj := ⟨N, none, (.fields ⟨[]⟩), ⟨[]⟩⟩
def o682 : Obj := ⟨(T "tuple"), none, (.seq ⟨[(S "self" 1085)]⟩ 0), ⟨[]⟩⟩
def o683 : Obj := ⟨(T "tuple"), none, (.seq ⟨[]⟩ 0), ⟨[]⟩⟩
def o684 : Obj := ⟨N, none, (F (C 47 2) (u "form") (u "Expression.form") 0 [] N N N N none N N 0), ⟨[]⟩⟩
def o685 : Obj := ⟨(T "code"), none, (.fields ⟨[(S "form" 1082), (S "Expression.form" 1083), (S "/claim/cut.py" 1084), (I 351), (I 1), (I 0), (I 0), (I 3), (R 680), (.bool true), (I 181), (R 681), N, (R 682), (R 683), (R 684), (I 1086), (I 351), (S "/claim/cut.py" 1087)]⟩), ⟨[]⟩⟩
def o686 : Obj := ⟨(T "function"), none, (F (C 47 2) (u "form") (u "Expression.form") 3 [] N N N (S "onemember.expressions" 1035) none (R 685) N 0), ⟨[]⟩⟩
def o687 : Obj := ⟨(T "property"), none, (.fields ⟨[(R 686), N, N, N, (S "form" 1089), (.bool false)]⟩), ⟨[]⟩⟩
def o688 : Obj := ⟨(T "tuple"), none, (.seq ⟨[]⟩ 0), ⟨[]⟩⟩
def o689 : Obj := ⟨N, none, (.fields ⟨[]⟩), ⟨[]⟩⟩
def o690 : Obj := ⟨(T "tuple"), none, (.seq ⟨[(S "self" 1093)]⟩ 0), ⟨[]⟩⟩
def o691 : Obj := ⟨(T "tuple"), none, (.seq ⟨[]⟩ 0), ⟨[]⟩⟩
def o692 : Obj := ⟨N, none, (F (C 47 3) (u "leaves") (u "Expression.leaves") 0 [] N N N N none N N 0), ⟨[]⟩⟩
def o693 : Obj := ⟨(T "code"), none, (.fields ⟨[(S "leaves" 1090), (S "Expression.leaves" 1091), (S "/claim/cut.py" 1092), (I 355), (I 1), (I 0), (I 0), (I 3), (R 688), (.bool true), (I 181), (R 689), N, (R 690), (R 691), (R 692), (I 1094), (I 355), (S "/claim/cut.py" 1095)]⟩), ⟨[]⟩⟩
def o694 : Obj := ⟨(T "function"), none, (F (C 47 3) (u "leaves") (u "Expression.leaves") 3 [] N N N (S "onemember.expressions" 1035) none (R 693) N 0), ⟨[]⟩⟩
def o695 : Obj := ⟨(T "property"), none, (.fields ⟨[(R 694), N, N, N, (S "leaves" 1097), (.bool false)]⟩), ⟨[]⟩⟩
def o696 : Obj := ⟨(T "tuple"), none, (.seq ⟨[]⟩ 0), ⟨[]⟩⟩
def o697 : Obj := ⟨N, none, (.fields ⟨[]⟩), ⟨[]⟩⟩
def o698 : Obj := ⟨(T "tuple"), none, (.seq ⟨[(S "self" 1101)]⟩ 0), ⟨[]⟩⟩
def o699 : Obj := ⟨(T "tuple"), none, (.seq ⟨[]⟩ 0), ⟨[]⟩⟩
def o700 : Obj := ⟨N, none, (F (C 47 4) (u "depth") (u "Expression.depth") 0 [] N N N N none N N 0), ⟨[]⟩⟩
def o701 : Obj := ⟨(T "code"), none, (.fields ⟨[(S "depth" 1098), (S "Expression.depth" 1099), (S "/claim/cut.py" 1100), (I 359), (I 1), (I 0), (I 0), (I 3), (R 696), (.bool true), (I 181), (R 697), N, (R 698), (R 699), (R 700), (I 1102), (I 359), (S "/claim/cut.py" 1103)]⟩), ⟨[]⟩⟩
def o702 : Obj := ⟨(T "function"), none, (F (C 47 4) (u "depth") (u "Expression.depth") 3 [] N N N (S "onemember.expressions" 1035) none (R 701) N 0), ⟨[]⟩⟩
def o703 : Obj := ⟨(T "property"), none, (.fields ⟨[(R 702), N, N, N, (S "depth" 1105), (.bool false)]⟩), ⟨[]⟩⟩
def o704 : Obj := ⟨(T "tuple"), none, (.seq ⟨[]⟩ 0), ⟨[]⟩⟩
def o705 : Obj := ⟨N, none, (.fields ⟨[]⟩), ⟨[]⟩⟩
def o706 : Obj := ⟨(T "tuple"), none, (.seq ⟨[(S "self" 1109)]⟩ 0), ⟨[]⟩⟩
def o707 : Obj := ⟨(T "tuple"), none, (.seq ⟨[]⟩ 0), ⟨[]⟩⟩
def o708 : Obj := ⟨N, none, (F (C 47 5) (u "fields") (u "Expression.fields") 0 [] N N N N none N N 0), ⟨[]⟩⟩
def o709 : Obj := ⟨(T "code"), none, (.fields ⟨[(S "fields" 1106), (S "Expression.fields" 1107), (S "/claim/cut.py" 1108), (I 363), (I 1), (I 0), (I 0), (I 3), (R 704), (.bool true), (I 181), (R 705), N, (R 706), (R 707), (R 708), (I 1110), (I 363), (S "/claim/cut.py" 1111)]⟩), ⟨[]⟩⟩
def o710 : Obj := ⟨(T "function"), none, (F (C 47 5) (u "fields") (u "Expression.fields") 3 [] N N N (S "onemember.expressions" 1035) none (R 709) N 0), ⟨[]⟩⟩
def o711 : Obj := ⟨(T "property"), none, (.fields ⟨[(R 710), N, N, N, (S "fields" 1113), (.bool false)]⟩), ⟨[]⟩⟩
def o712 : Obj := ⟨(T "tuple"), none, (.seq ⟨[]⟩ 0), ⟨[]⟩⟩
def o713 : Obj := ⟨N, none, (.fields ⟨[]⟩), ⟨[]⟩⟩
def o714 : Obj := ⟨(T "tuple"), none, (.seq ⟨[(S "self" 1117)]⟩ 0), ⟨[]⟩⟩
def o715 : Obj := ⟨(T "tuple"), none, (.seq ⟨[]⟩ 0), ⟨[]⟩⟩
def o716 : Obj := ⟨N, none, (F (C 47 6) (u "has_given") (u "Expression.has_given") 0 [] N N N N none N N 0), ⟨[]⟩⟩
def o717 : Obj := ⟨(T "code"), none, (.fields ⟨[(S "has_given" 1114), (S "Expression.has_given" 1115), (S "/claim/cut.py" 1116), (I 367), (I 1), (I 0), (I 0), (I 3), (R 712), (.bool true), (I 181), (R 713), N, (R 714), (R 715), (R 716), (I 1118), (I 367), (S "/claim/cut.py" 1119)]⟩), ⟨[]⟩⟩
def o718 : Obj := ⟨(T "function"), none, (F (C 47 6) (u "has_given") (u "Expression.has_given") 3 [] N N N (S "onemember.expressions" 1035) none (R 717) N 0), ⟨[]⟩⟩
def o719 : Obj := ⟨(T "property"), none, (.fields ⟨[(R 718), N, N, N, (S "has_given" 1121), (.bool false)]⟩), ⟨[]⟩⟩
def o720 : Obj := ⟨(T "tuple"), none, (.seq ⟨[]⟩ 0), ⟨[]⟩⟩
def o721 : Obj := ⟨N, none, (.fields ⟨[]⟩), ⟨[]⟩⟩
def o722 : Obj := ⟨(T "tuple"), none, (.seq ⟨[(S "self" 1125)]⟩ 0), ⟨[]⟩⟩
def o723 : Obj := ⟨(T "tuple"), none, (.seq ⟨[]⟩ 0), ⟨[]⟩⟩
def o724 : Obj := ⟨N, none, (F (C 47 7) (u "__str__") (u "Expression.__str__") 0 [] N N N N none N N 0), ⟨[]⟩⟩
def o725 : Obj := ⟨(T "code"), none, (.fields ⟨[(S "__str__" 1122), (S "Expression.__str__" 1123), (S "/claim/cut.py" 1124), (I 371), (I 1), (I 0), (I 0), (I 3), (R 720), (.bool true), (I 181), (R 721), N, (R 722), (R 723), (R 724), (I 1126), (I 371), (S "/claim/cut.py" 1127)]⟩), ⟨[]⟩⟩
def o726 : Obj := ⟨(T "function"), none, (F (C 47 7) (u "__str__") (u "Expression.__str__") 3 [] N N N (S "onemember.expressions" 1035) none (R 725) N 0), ⟨[]⟩⟩
def o727 : Obj := ⟨(T "tuple"), none, (.seq ⟨[]⟩ 0), ⟨[]⟩⟩
def o728 : Obj := ⟨N, none, (.fields ⟨[]⟩), ⟨[]⟩⟩
def o729 : Obj := ⟨(T "tuple"), none, (.seq ⟨[(S "self" 1132)]⟩ 0), ⟨[]⟩⟩
def o730 : Obj := ⟨(T "tuple"), none, (.seq ⟨[]⟩ 0), ⟨[]⟩⟩
def o731 : Obj := ⟨N, none, (F (C 47 8) (u "__repr__") (u "Expression.__repr__") 0 [] N N N N none N N 0), ⟨[]⟩⟩
def o732 : Obj := ⟨(T "code"), none, (.fields ⟨[(S "__repr__" 1129), (S "Expression.__repr__" 1130), (S "/claim/cut.py" 1131), (I 374), (I 1), (I 0), (I 0), (I 3), (R 727), (.bool true), (I 181), (R 728), N, (R 729), (R 730), (R 731), (I 1133), (I 374), (S "/claim/cut.py" 1134)]⟩), ⟨[]⟩⟩
def o733 : Obj := ⟨(T "function"), none, (F (C 47 8) (u "__repr__") (u "Expression.__repr__") 3 [] N N N (S "onemember.expressions" 1035) none (R 732) N 0), ⟨[]⟩⟩
def o734 : Obj := ⟨(T "tuple"), none, (.seq ⟨[]⟩ 0), ⟨[]⟩⟩
def o735 : Obj := ⟨N, none, (.fields ⟨[]⟩), ⟨[]⟩⟩
def o736 : Obj := ⟨(T "tuple"), none, (.seq ⟨[(S "self" 1139), (S "other" 1140)]⟩ 0), ⟨[]⟩⟩
def o737 : Obj := ⟨(T "tuple"), none, (.seq ⟨[]⟩ 0), ⟨[]⟩⟩
def o738 : Obj := ⟨N, none, (F (C 47 9) (u "__eq__") (u "Expression.__eq__") 0 [] N N N N none N N 0), ⟨[]⟩⟩
def o739 : Obj := ⟨(T "code"), none, (.fields ⟨[(S "__eq__" 1136), (S "Expression.__eq__" 1137), (S "/claim/cut.py" 1138), (I 377), (I 2), (I 0), (I 0), (I 3), (R 734), (.bool true), (I 181), (R 735), N, (R 736), (R 737), (R 738), (I 1141), (I 377), (S "/claim/cut.py" 1142)]⟩), ⟨[]⟩⟩
def o740 : Obj := ⟨(T "function"), none, (F (C 47 9) (u "__eq__") (u "Expression.__eq__") 3 [] N N N (S "onemember.expressions" 1035) none (R 739) N 0), ⟨[]⟩⟩
def o741 : Obj := ⟨(T "tuple"), none, (.seq ⟨[]⟩ 0), ⟨[]⟩⟩
def o742 : Obj := ⟨N, none, (.fields ⟨[]⟩), ⟨[]⟩⟩
def o743 : Obj := ⟨(T "tuple"), none, (.seq ⟨[(S "self" 1147), (S "other" 1148)]⟩ 0), ⟨[]⟩⟩
def o744 : Obj := ⟨(T "tuple"), none, (.seq ⟨[]⟩ 0), ⟨[]⟩⟩
def o745 : Obj := ⟨N, none, (F (C 47 10) (u "__or__") (u "Expression.__or__") 0 [] N N N N none N N 0), ⟨[]⟩⟩
def o746 : Obj := ⟨(T "code"), none, (.fields ⟨[(S "__or__" 1144), (S "Expression.__or__" 1145), (S "/claim/cut.py" 1146), (I 380), (I 2), (I 0), (I 0), (I 3), (R 741), (.bool true), (I 181), (R 742), N, (R 743), (R 744), (R 745), (I 1149), (I 380), (S "/claim/cut.py" 1150)]⟩), ⟨[]⟩⟩
def o747 : Obj := ⟨(T "function"), none, (F (C 47 10) (u "__or__") (u "Expression.__or__") 3 [] N N N (S "onemember.expressions" 1035) none (R 746) N 0), ⟨[]⟩⟩
def o748 : Obj := ⟨(T "tuple"), none, (.seq ⟨[]⟩ 0), ⟨[]⟩⟩
def o749 : Obj := ⟨N, none, (.fields ⟨[]⟩), ⟨[]⟩⟩
def o750 : Obj := ⟨(T "tuple"), none, (.seq ⟨[(S "self" 1155), (S "other" 1156)]⟩ 0), ⟨[]⟩⟩
def o751 : Obj := ⟨(T "tuple"), none, (.seq ⟨[]⟩ 0), ⟨[]⟩⟩
def o752 : Obj := ⟨N, none, (F (C 47 11) (u "__and__") (u "Expression.__and__") 0 [] N N N N none N N 0), ⟨[]⟩⟩
def o753 : Obj := ⟨(T "code"), none, (.fields ⟨[(S "__and__" 1152), (S "Expression.__and__" 1153), (S "/claim/cut.py" 1154), (I 383), (I 2), (I 0), (I 0), (I 3), (R 748), (.bool true), (I 181), (R 749), N, (R 750), (R 751), (R 752), (I 1157), (I 383), (S "/claim/cut.py" 1158)]⟩), ⟨[]⟩⟩
def o754 : Obj := ⟨(T "function"), none, (F (C 47 11) (u "__and__") (u "Expression.__and__") 3 [] N N N (S "onemember.expressions" 1035) none (R 753) N 0), ⟨[]⟩⟩
def o755 : Obj := ⟨(T "tuple"), none, (.seq ⟨[]⟩ 0), ⟨[]⟩⟩
def o756 : Obj := ⟨N, none, (.fields ⟨[]⟩), ⟨[]⟩⟩
def o757 : Obj := ⟨(T "tuple"), none, (.seq ⟨[(S "self" 1163), (S "other" 1164)]⟩ 0), ⟨[]⟩⟩
def o758 : Obj := ⟨(T "tuple"), none, (.seq ⟨[]⟩ 0), ⟨[]⟩⟩
def o759 : Obj := ⟨N, none, (F (C 47 12) (u "__sub__") (u "Expression.__sub__") 0 [] N N N N none N N 0), ⟨[]⟩⟩
def o760 : Obj := ⟨(T "code"), none, (.fields ⟨[(S "__sub__" 1160), (S "Expression.__sub__" 1161), (S "/claim/cut.py" 1162), (I 386), (I 2), (I 0), (I 0), (I 3), (R 755), (.bool true), (I 181), (R 756), N, (R 757), (R 758), (R 759), (I 1165), (I 386), (S "/claim/cut.py" 1166)]⟩), ⟨[]⟩⟩
def o761 : Obj := ⟨(T "function"), none, (F (C 47 12) (u "__sub__") (u "Expression.__sub__") 3 [] N N N (S "onemember.expressions" 1035) none (R 760) N 0), ⟨[]⟩⟩
def o762 : Obj := ⟨(T "tuple"), none, (.seq ⟨[]⟩ 0), ⟨[]⟩⟩
def o763 : Obj := ⟨N, none, (.fields ⟨[]⟩), ⟨[]⟩⟩
def o764 : Obj := ⟨(T "tuple"), none, (.seq ⟨[(S "self" 1171), (S "other" 1172)]⟩ 0), ⟨[]⟩⟩
def o765 : Obj := ⟨(T "tuple"), none, (.seq ⟨[]⟩ 0), ⟨[]⟩⟩
def o766 : Obj := ⟨N, none, (F (C 47 13) (u "__xor__") (u "Expression.__xor__") 0 [] N N N N none N N 0), ⟨[]⟩⟩
def o767 : Obj := ⟨(T "code"), none, (.fields ⟨[(S "__xor__" 1168), (S "Expression.__xor__" 1169), (S "/claim/cut.py" 1170), (I 389), (I 2), (I 0), (I 0), (I 3), (R 762), (.bool true), (I 181), (R 763), N, (R 764), (R 765), (R 766), (I 1173), (I 389), (S "/claim/cut.py" 1174)]⟩), ⟨[]⟩⟩
def o768 : Obj := ⟨(T "function"), none, (F (C 47 13) (u "__xor__") (u "Expression.__xor__") 3 [] N N N (S "onemember.expressions" 1035) none (R 767) N 0), ⟨[]⟩⟩
def o769 : Obj := ⟨(T "tuple"), none, (.seq ⟨[]⟩ 0), ⟨[]⟩⟩
def o770 : Obj := ⟨N, none, (.fields ⟨[]⟩), ⟨[]⟩⟩
def o771 : Obj := ⟨(T "tuple"), none, (.seq ⟨[(S "self" 1179), (S "other" 1180)]⟩ 0), ⟨[]⟩⟩
def o772 : Obj := ⟨(T "tuple"), none, (.seq ⟨[]⟩ 0), ⟨[]⟩⟩
def o773 : Obj := ⟨N, none, (F (C 47 14) (u "within") (u "Expression.within") 0 [] N N N N none N N 0), ⟨[]⟩⟩
def o774 : Obj := ⟨(T "code"), none, (.fields ⟨[(S "within" 1176), (S "Expression.within" 1177), (S "/claim/cut.py" 1178), (I 392), (I 2), (I 0), (I 0), (I 3), (R 769), (.bool true), (I 181), (R 770), N, (R 771), (R 772), (R 773), (I 1181), (I 392), (S "/claim/cut.py" 1182)]⟩), ⟨[]⟩⟩
def o775 : Obj := ⟨(T "function"), none, (F (C 47 14) (u "within") (u "Expression.within") 3 [] N N N (S "onemember.expressions" 1035) none (R 774) N 0), ⟨[]⟩⟩
def o776 (P : Params) : Obj := ⟨(T "dict"), none, (.dict ⟨[E P "given" 1184 N]⟩ 1), ⟨[]⟩⟩
def o777 : Obj := ⟨(T "tuple"), none, (.seq ⟨[]⟩ 0), ⟨[]⟩⟩
def o778 : Obj := ⟨N, none, (.fields ⟨[]⟩), ⟨[]⟩⟩
def o779 : Obj := ⟨(T "tuple"), none, (.seq ⟨[(S "self" 1188), (S "sets" 1189), (S "given" 1190)]⟩ 0), ⟨[]⟩⟩
def o780 : Obj := ⟨(T "tuple"), none, (.seq ⟨[]⟩ 0), ⟨[]⟩⟩
def o781 : Obj := ⟨N, none, (F (C 47 15) (u "of") (u "Expression.of") 0 [] N N N N none N N 0), ⟨[]⟩⟩
def o782 : Obj := ⟨(T "code"), none, (.fields ⟨[(S "of" 1185), (S "Expression.of" 1186), (S "/claim/cut.py" 1187), (I 395), (I 2), (I 0), (I 1), (I 3), (R 777), (.bool true), (I 181), (R 778), N, (R 779), (R 780), (R 781), (I 1191), (I 395), (S "/claim/cut.py" 1192)]⟩), ⟨[]⟩⟩
def o783 : Obj := ⟨(T "function"), none, (F (C 47 15) (u "of") (u "Expression.of") 3 [] N (R 776) N (S "onemember.expressions" 1035) none (R 782) N 0), ⟨[]⟩⟩
def o784 (P : Params) : Obj := ⟨(T "dict"), none, (.dict ⟨[E P "given" 1194 (.bool false)]⟩ 1), ⟨[]⟩⟩
def o785 : Obj := ⟨(T "tuple"), none, (.seq ⟨[]⟩ 0), ⟨[]⟩⟩
def o786 : Obj := ⟨N, none, (.fields ⟨[]⟩), ⟨[]⟩⟩
def o787 : Obj := ⟨(T "tuple"), none, (.seq ⟨[(S "self" 1198), (S "inside" 1199), (S "given" 1200), (S "at" 1201)]⟩ 0), ⟨[]⟩⟩
def o788 : Obj := ⟨(T "tuple"), none, (.seq ⟨[]⟩ 0), ⟨[]⟩⟩
def o789 : Obj := ⟨N, none, (F (C 47 16) (u "meets") (u "Expression.meets") 0 [] N N N N none N N 0), ⟨[]⟩⟩
def o790 : Obj := ⟨(T "code"), none, (.fields ⟨[(S "meets" 1195), (S "Expression.meets" 1196), (S "/claim/cut.py" 1197), (I 398), (I 2), (I 0), (I 1), (I 3), (R 785), (.bool true), (I 181), (R 786), N, (R 787), (R 788), (R 789), (I 1202), (I 398), (S "/claim/cut.py" 1203)]⟩), ⟨[]⟩⟩
def o791 : Obj := ⟨(T "function"), none, (F (C 47 16) (u "meets") (u "Expression.meets") 3 [] N (R 784) N (S "onemember.expressions" 1035) none (R 790) N 0), ⟨[]⟩⟩
def o792 : Obj := ⟨(T "tuple"), none, (.seq ⟨[(S "_depth" 1205), (S "_fields" 1206), (S "_form" 1207), (S "_has_given" 1208), (S "_leaves" 1209)]⟩ 0), ⟨[]⟩⟩
def o793 (P : Params) : Obj := ⟨(T "dict"), none, (.dict ⟨[E P "__module__" 1044 (S "onemember.expressions" 1035), E P "__firstlineno__" 1048 (.int 327 1047), E P "__init__" 1059 (R 669), E P "read" 1081 (R 678), E P "form" 1089 (R 687), E P "leaves" 1097 (R 695), E P "depth" 1105 (R 703), E P "fields" 1113 (R 711), E P "has_given" 1121 (R 719), E P "__str__" 1128 (R 726), E P "__repr__" 1135 (R 733), E P "__eq__" 1143 (R 740), E P "__or__" 1151 (R 747), E P "__and__" 1159 (R 754), E P "__sub__" 1167 (R 761), E P "__xor__" 1175 (R 768), E P "within" 1183 (R 775), E P "of" 1193 (R 783), E P "meets" 1204 (R 791), E P "__static_attributes__" 1210 (R 792), E P "__dict__" 1212 (R 795), E P "__weakref__" 1214 (R 796), E P "__doc__" 1215 N, E P "__hash__" 1216 N]⟩ 5), ⟨[]⟩⟩
def o794 : Obj := ⟨(T "type"), none, (.cls ⟨(u "Expression"), [(T "object")], [(R 794), (T "object")], 793, (u "Expression"), true, [], [], false, none, false⟩), ⟨[none, none, some (S "Expression" 1037), some (S "Expression" 1045), some (B "object.__new__"), some (.bool true)]⟩⟩
def o795 : Obj := ⟨(T "getset_descriptor"), none, (.fields ⟨[(S "__dict__" 1211), (R 794), (B "function.__dict__"), (B "function.__dict__#set")]⟩), ⟨[]⟩⟩
def o796 : Obj := ⟨(T "getset_descriptor"), none, (.fields ⟨[(S "__weakref__" 1213), (R 794), (B "ExceptionGroup.__weakref__"), N]⟩), ⟨[]⟩⟩
def o797 : Obj := ⟨(T "super"), none, (.fields ⟨[(R 794), (R 794), (R 794)]⟩), ⟨[]⟩⟩
def o798 : Obj := ⟨(T "builtin_function_or_method"), none, (.fields ⟨[(B "object.__init_subclass__"), (R 794)]⟩), ⟨[]⟩⟩
def o799 : Obj := ⟨(T "tuple"), none, (.seq ⟨[]⟩ 0), ⟨[]⟩⟩
def o800 : Obj := ⟨N, none, (.fields ⟨[]⟩), ⟨[]⟩⟩
def o801 : Obj := ⟨(T "tuple"), none, (.seq ⟨[(S "value" 1222)]⟩ 0), ⟨[]⟩⟩
def o802 : Obj := ⟨(T "tuple"), none, (.seq ⟨[]⟩ 0), ⟨[]⟩⟩
def o803 : Obj := ⟨N, none, (F (A 48) (u "check_expression") (u "check_expression") 0 [] N N N N none N N 0), ⟨[]⟩⟩
def o804 : Obj := ⟨(T "code"), none, (.fields ⟨[(S "check_expression" 1219), (S "check_expression" 1220), (S "/claim/cut.py" 1221), (I 405), (I 1), (I 0), (I 0), (I 3), (R 799), (.bool true), (I 181), (R 800), N, (R 801), (R 802), (R 803), (I 1223), (I 405), (S "/claim/cut.py" 1224)]⟩), ⟨[]⟩⟩
def o805 : Obj := ⟨(T "function"), none, (F (A 48) (u "check_expression") (u "check_expression") 3 [] N N N (S "onemember.expressions" 1035) none (R 804) N 0), ⟨[]⟩⟩
def o806 : Obj := ⟨(T "tuple"), none, (.seq ⟨[]⟩ 0), ⟨[]⟩⟩
def o807 : Obj := ⟨N, none, (.fields ⟨[]⟩), ⟨[]⟩⟩
def o808 : Obj := ⟨(T "tuple"), none, (.seq ⟨[(S "sign" 1229), (S "one" 1230), (S "other" 1231)]⟩ 0), ⟨[]⟩⟩
def o809 : Obj := ⟨(T "tuple"), none, (.seq ⟨[]⟩ 0), ⟨[]⟩⟩
def o810 : Obj := ⟨N, none, (F (A 49) (u "with_sign") (u "with_sign") 0 [] N N N N none N N 0), ⟨[]⟩⟩
def o811 : Obj := ⟨(T "code"), none, (.fields ⟨[(S "with_sign" 1226), (S "with_sign" 1227), (S "/claim/cut.py" 1228), (I 408), (I 3), (I 0), (I 0), (I 3), (R 806), (.bool true), (I 181), (R 807), N, (R 808), (R 809), (R 810), (I 1232), (I 408), (S "/claim/cut.py" 1233)]⟩), ⟨[]⟩⟩
def o812 : Obj := ⟨(T "function"), none, (F (A 49) (u "with_sign") (u "with_sign") 3 [] N N N (S "onemember.expressions" 1035) none (R 811) N 0), ⟨[]⟩⟩
def o813 : Obj := ⟨(T "tuple"), none, (.seq ⟨[]⟩ 0), ⟨[]⟩⟩
def o814 : Obj := ⟨N, none, (.fields ⟨[]⟩), ⟨[]⟩⟩
def o815 : Obj := ⟨(T "tuple"), none, (.seq ⟨[(S "fields" 1238), (S "sets" 1239), (S "given" 1240), (S "table" 1241), (S "field" 1242)]⟩ 0), ⟨[]⟩⟩
def o816 : Obj := ⟨(T "tuple"), none, (.seq ⟨[]⟩ 0), ⟨[]⟩⟩
def o817 : Obj := ⟨N, none, (F (A 50) (u "all_sets") (u "all_sets") 0 [] N N N N none N N 0), ⟨[]⟩⟩
def o818 : Obj := ⟨(T "code"), none, (.fields ⟨[(S "all_sets" 1235), (S "all_sets" 1236), (S "/claim/cut.py" 1237), (I 411), (I 3), (I 0), (I 0), (I 3), (R 813), (.bool true), (I 181), (R 814), N, (R 815), (R 816), (R 817), (I 1243), (I 411), (S "/claim/cut.py" 1244)]⟩), ⟨[]⟩⟩
def o819 : Obj := ⟨(T "function"), none, (F (A 50) (u "all_sets") (u "all_sets") 3 [] N N N (S "onemember.expressions" 1035) none (R 818) N 0), ⟨[]⟩⟩
def o820 : Obj := ⟨(T "tuple"), none, (.seq ⟨[]⟩ 0), ⟨[]⟩⟩
def o821 : Obj := ⟨N, none, (.fields ⟨[]⟩), ⟨[]⟩⟩
def o822 : Obj := ⟨(T "tuple"), none, (.seq ⟨[(S "sets" 1249), (S "table" 1250), (S "at" 1251), (S "pair" 1252)]⟩ 0), ⟨[]⟩⟩
def o823 : Obj := ⟨(T "tuple"), none, (.seq ⟨[]⟩ 0), ⟨[]⟩⟩
def o824 : Obj := ⟨N, none, (F (A 51) (u "field_sets") (u "field_sets") 0 [] N N N N none N N 0), ⟨[]⟩⟩
def o825 : Obj := ⟨(T "code"), none, (.fields ⟨[(S "field_sets" 1246), (S "field_sets" 1247), (S "/claim/cut.py" 1248), (I 421), (I 1), (I 0), (I 0), (I 3), (R 820), (.bool true), (I 181), (R 821), N, (R 822), (R 823), (R 824), (I 1253), (I 421), (S "/claim/cut.py" 1254)]⟩), ⟨[]⟩⟩
def o826 : Obj := ⟨(T "function"), none, (F (A 51) (u "field_sets") (u "field_sets") 3 [] N N N (S "onemember.expressions" 1035) none (R 825) N 0), ⟨[]⟩⟩
def o827 : Obj := ⟨(T "tuple"), none, (.seq ⟨[]⟩ 0), ⟨[]⟩⟩
def o828 : Obj := ⟨N, none, (.fields ⟨[]⟩), ⟨[]⟩⟩
def o829 : Obj := ⟨(T "tuple"), none, (.seq ⟨[(S "value" 1259)]⟩ 0), ⟨[]⟩⟩
def o830 : Obj := ⟨(T "tuple"), none, (.seq ⟨[]⟩ 0), ⟨[]⟩⟩
def o831 : Obj := ⟨N, none, (F (A 52) (u "is_field_set") (u "is_field_set") 0 [] N N N N none N N 0), ⟨[]⟩⟩
def o832 : Obj := ⟨(T "code"), none, (.fields ⟨[(S "is_field_set" 1256), (S "is_field_set" 1257), (S "/claim/cut.py" 1258), (I 430), (I 1), (I 0), (I 0), (I 3), (R 827), (.bool true), (I 181), (R 828), N, (R 829), (R 830), (R 831), (I 1260), (I 430), (S "/claim/cut.py" 1261)]⟩), ⟨[]⟩⟩
def o833 : Obj := ⟨(T "function"), none, (F (A 52) (u "is_field_set") (u "is_field_set") 3 [] N N N (S "onemember.expressions" 1035) none (R 832) N 0), ⟨[]⟩⟩
def o834 : Obj := ⟨(T "tuple"), none, (.seq ⟨[]⟩ 0), ⟨[]⟩⟩
def o835 : Obj := ⟨N, none, (.fields ⟨[]⟩), ⟨[]⟩⟩
def o836 : Obj := ⟨(T "tuple"), none, (.seq ⟨[(S "_law_cells" 1268), (S "_law_k" 1269), (S "_law_mixed" 1270), (S "_law_cell_here" 1271)]⟩ 0), ⟨[]⟩⟩
def o837 : Obj := ⟨(T "tuple"), none, (.seq ⟨[]⟩ 0), ⟨[]⟩⟩
def o838 : Obj := ⟨N, none, (F (A 54) (u "_law_cell") (u "_law_cell") 0 [] N N N N none N N 0), ⟨[]⟩⟩
def o839 : Obj := ⟨(T "code"), none, (.fields ⟨[(S "_law_cell" 1265), (S "_law_cell" 1266), (S "/claim/cut.py" 1267), (I 435), (I 2), (I 0), (I 0), (I 3), (R 834), (.bool true), (I 181), (R 835), N, (R 836), (R 837), (R 838), (I 1272), (I 435), (S "/claim/cut.py" 1273)]⟩), ⟨[]⟩⟩
def o840 : Obj := ⟨(T "function"), none, (F (A 54) (u "_law_cell") (u "_law_cell") 3 [] N N N (S "law_onemember_k06_whole_expressions_of_sets" 1263) none (R 839) N 0), ⟨[]⟩⟩
def o841 : Obj := ⟨(T "tuple"), none, (.seq ⟨[]⟩ 0), ⟨[]⟩⟩
def o842 : Obj := ⟨N, none, (.fields ⟨[]⟩), ⟨[]⟩⟩
def o843 : Obj := ⟨(T "tuple"), none, (.seq ⟨[(S "_law_cell_here" 1278)]⟩ 0), ⟨[]⟩⟩
def o844 : Obj := ⟨(T "tuple"), none, (.seq ⟨[]⟩ 0), ⟨[]⟩⟩
def o845 : Obj := ⟨N, none, (F (A 55) (u "_law_pool") (u "_law_pool") 0 [] N N N N none N N 0), ⟨[]⟩⟩
def o846 : Obj := ⟨(T "code"), none, (.fields ⟨[(S "_law_pool" 1275), (S "_law_pool" 1276), (S "/claim/cut.py" 1277), (I 442), (I 1), (I 0), (I 0), (I 3), (R 841), (.bool true), (I 181), (R 842), N, (R 843), (R 844), (R 845), (I 1279), (I 442), (S "/claim/cut.py" 1280)]⟩), ⟨[]⟩⟩
def o847 : Obj := ⟨(T "function"), none, (F (A 55) (u "_law_pool") (u "_law_pool") 3 [] N N N (S "law_onemember_k06_whole_expressions_of_sets" 1263) none (R 846) N 0), ⟨[]⟩⟩
def o848 : Obj := ⟨(T "tuple"), none, (.seq ⟨[]⟩ 0), ⟨[]⟩⟩
def o849 : Obj := ⟨N, none, (.fields ⟨[]⟩), ⟨[]⟩⟩
def o850 : Obj := ⟨(T "tuple"), none, (.seq ⟨[(S "_law_pool_here" 1285), (S "_law_many" 1286), (S "_law_mixed" 1287), (S "_law_digit" 1288)]⟩ 0), ⟨[]⟩⟩
def o851 : Obj := ⟨(T "tuple"), none, (.seq ⟨[]⟩ 0), ⟨[]⟩⟩
def o852 : Obj := ⟨N, none, (F (A 56) (u "_law_draw") (u "_law_draw") 0 [] N N N N none N N 0), ⟨[]⟩⟩
def o853 : Obj := ⟨(T "code"), none, (.fields ⟨[(S "_law_draw" 1282), (S "_law_draw" 1283), (S "/claim/cut.py" 1284), (I 444), (I 2), (I 0), (I 0), (I 3), (R 848), (.bool true), (I 181), (R 849), N, (R 850), (R 851), (R 852), (I 1289), (I 444), (S "/claim/cut.py" 1290)]⟩), ⟨[]⟩⟩
def o854 : Obj := ⟨(T "function"), none, (F (A 56) (u "_law_draw") (u "_law_draw") 3 [] N N N (S "law_onemember_k06_whole_expressions_of_sets" 1263) none (R 853) N 0), ⟨[]⟩⟩
def o855 : Obj := ⟨(T "tuple"), none, (.seq ⟨[]⟩ 0), ⟨[]⟩⟩
def o856 : Obj := ⟨N, none, (.fields ⟨[]⟩), ⟨[]⟩⟩
def o857 : Obj := ⟨N, none, (F (A 57) (u "_law_names") (u "_law_names") 0 [] N N N N none N N 0), ⟨[]⟩⟩
def o858 : Obj := ⟨(T "code"), none, (.fields ⟨[(S "_law_names" 1292), (S "_law_names" 1293), (S "/claim/cut.py" 1294), (I 453), (I 2), (I 0), (I 0), (I 3), (R 855), (.bool true), (I 181), (R 856), N, N, N, (R 857), (I 1295), (I 453), (S "/claim/cut.py" 1296)]⟩), ⟨[]⟩⟩
def o859 : Obj := ⟨(T "function"), none, (F (A 57) (u "_law_names") (u "_law_names") 3 [] N N N (S "law_onemember_k06_whole_expressions_of_sets" 1263) none (R 858) N 0), ⟨[]⟩⟩
def o860 : Obj := ⟨(T "tuple"), none, (.seq ⟨[]⟩ 0), ⟨[]⟩⟩
def o861 : Obj := ⟨N, none, (.fields ⟨[]⟩), ⟨[]⟩⟩
def o862 : Obj := ⟨(T "tuple"), none, (.seq ⟨[(S "_law_pool_here" 1301), (S "_law_words" 1302), (S "_law_deep" 1303), (S "_law_sign" 1304)]⟩ 0), ⟨[]⟩⟩
def o863 : Obj := ⟨(T "tuple"), none, (.seq ⟨[]⟩ 0), ⟨[]⟩⟩
def o864 : Obj := ⟨N, none, (F (A 58) (u "_law_form") (u "_law_form") 0 [] N N N N none N N 0), ⟨[]⟩⟩
def o865 : Obj := ⟨(T "code"), none, (.fields ⟨[(S "_law_form" 1298), (S "_law_form" 1299), (S "/claim/cut.py" 1300), (I 462), (I 3), (I 0), (I 0), (I 3), (R 860), (.bool true), (I 181), (R 861), N, (R 862), (R 863), (R 864), (I 1305), (I 462), (S "/claim/cut.py" 1306)]⟩), ⟨[]⟩⟩
def o866 : Obj := ⟨(T "function"), none, (F (A 58) (u "_law_form") (u "_law_form") 3 [] N N N (S "law_onemember_k06_whole_expressions_of_sets" 1263) none (R 865) N 0), ⟨[]⟩⟩
def o867 : Obj := ⟨(T "tuple"), none, (.seq ⟨[]⟩ 0), ⟨[]⟩⟩
def o868 : Obj := ⟨N, none, (.fields ⟨[]⟩), ⟨[]⟩⟩
def o869 : Obj := ⟨(T "tuple"), none, (.seq ⟨[(S "_law_shape" 1311), (S "_law_among" 1312), (S "_law_gotten" 1313), (S "_law_low" 1314), (S "_law_high" 1315)]⟩ 0), ⟨[]⟩⟩
def o870 : Obj := ⟨(T "tuple"), none, (.seq ⟨[]⟩ 0), ⟨[]⟩⟩
def o871 : Obj := ⟨N, none, (F (A 59) (u "_law_in") (u "_law_in") 0 [] N N N N none N N 0), ⟨[]⟩⟩
def o872 : Obj := ⟨(T "code"), none, (.fields ⟨[(S "_law_in" 1308), (S "_law_in" 1309), (S "/claim/cut.py" 1310), (I 467), (I 3), (I 0), (I 0), (I 3), (R 867), (.bool true), (I 181), (R 868), N, (R 869), (R 870), (R 871), (I 1316), (I 467), (S "/claim/cut.py" 1317)]⟩), ⟨[]⟩⟩
def o873 : Obj := ⟨(T "function"), none, (F (A 59) (u "_law_in") (u "_law_in") 3 [] N N N (S "law_onemember_k06_whole_expressions_of_sets" 1263) none (R 872) N 0), ⟨[]⟩⟩
def o874 : Obj := ⟨(T "tuple"), none, (.seq ⟨[]⟩ 0), ⟨[]⟩⟩
def o875 : Obj := ⟨N, none, (.fields ⟨[]⟩), ⟨[]⟩⟩
def o876 : Obj := ⟨(T "tuple"), none, (.seq ⟨[(S "_law_ask" 1322), (S "_law_told" 1323), (S "e" 1324), (S "_law_sides" 1325), (S "_law_base" 1326), (S "_law_sorts" 1327), (S "_law_at" 1328)]⟩ 0), ⟨[]⟩⟩
def o877 : Obj := ⟨(T "tuple"), none, (.seq ⟨[]⟩ 0), ⟨[]⟩⟩
def o878 : Obj := ⟨N, none, (F (A 60) (u "_law_caught") (u "_law_caught") 0 [] N N N N none N N 0), ⟨[]⟩⟩
def o879 : Obj := ⟨(T "code"), none, (.fields ⟨[(S "_law_caught" 1319), (S "_law_caught" 1320), (S "/claim/cut.py" 1321), (I 474), (I 1), (I 0), (I 0), (I 3), (R 874), (.bool true), (I 181), (R 875), N, (R 876), (R 877), (R 878), (I 1329), (I 474), (S "/claim/cut.py" 1330)]⟩), ⟨[]⟩⟩
def o880 : Obj := ⟨(T "function"), none, (F (A 60) (u "_law_caught") (u "_law_caught") 3 [] N N N (S "law_onemember_k06_whole_expressions_of_sets" 1263) none (R 879) N 0), ⟨[]⟩⟩
def o881 : Obj := ⟨(T "tuple"), none, (.seq ⟨[]⟩ 0), ⟨[]⟩⟩
def o882 : Obj := ⟨N, none, (.fields ⟨[]⟩), ⟨[]⟩⟩
def o883 : Obj := ⟨N, none, (F (A 61) (u "_law_sets") (u "_law_sets") 0 [] N N N N none N N 0), ⟨[]⟩⟩
def o884 : Obj := ⟨(T "code"), none, (.fields ⟨[(S "_law_sets" 1332), (S "_law_sets" 1333), (S "/claim/cut.py" 1334), (I 499), (I 3), (I 0), (I 0), (I 3), (R 881), (.bool true), (I 181), (R 882), N, N, N, (R 883), (I 1335), (I 499), (S "/claim/cut.py" 1336)]⟩), ⟨[]⟩⟩
def o885 : Obj := ⟨(T "function"), none, (F (A 61) (u "_law_sets") (u "_law_sets") 3 [] N N N (S "law_onemember_k06_whole_expressions_of_sets" 1263) none (R 884) N 0), ⟨[]⟩⟩
def o886 : Obj := ⟨(T "tuple"), none, (.seq ⟨[]⟩ 0), ⟨[]⟩⟩
def o887 : Obj := ⟨N, none, (.fields ⟨[]⟩), ⟨[]⟩⟩
def o888 : Obj := ⟨N, none, (F (A 62) (u "_law_pairs") (u "_law_pairs") 0 [] N N N N none N N 0), ⟨[]⟩⟩
def o889 : Obj := ⟨(T "code"), none, (.fields ⟨[(S "_law_pairs" 1338), (S "_law_pairs" 1339), (S "/claim/cut.py" 1340), (I 501), (I 1), (I 0), (I 0), (I 3), (R 886), (.bool true), (I 181), (R 887), N, N, N, (R 888), (I 1341), (I 501), (S "/claim/cut.py" 1342)]⟩), ⟨[]⟩⟩
def o890 : Obj := ⟨(T "function"), none, (F (A 62) (u "_law_pairs") (u "_law_pairs") 3 [] N N N (S "law_onemember_k06_whole_expressions_of_sets" 1263) none (R 889) N 0), ⟨[]⟩⟩
def o891 : Obj := ⟨(T "tuple"), none, (.seq ⟨[]⟩ 0), ⟨[]⟩⟩
def o892 : Obj := ⟨N, none, (.fields ⟨[]⟩), ⟨[]⟩⟩
def o893 : Obj := ⟨N, none, (F (A 63) (u "_law_wanted") (u "_law_wanted") 0 [] N N N N none N N 0), ⟨[]⟩⟩
def o894 : Obj := ⟨(T "code"), none, (.fields ⟨[(S "_law_wanted" 1344), (S "_law_wanted" 1345), (S "/claim/cut.py" 1346), (I 503), (I 4), (I 0), (I 0), (I 3), (R 891), (.bool true), (I 181), (R 892), N, N, N, (R 893), (I 1347), (I 503), (S "/claim/cut.py" 1348)]⟩), ⟨[]⟩⟩
def o895 : Obj := ⟨(T "function"), none, (F (A 63) (u "_law_wanted") (u "_law_wanted") 3 [] N N N (S "law_onemember_k06_whole_expressions_of_sets" 1263) none (R 894) N 0), ⟨[]⟩⟩
def o896 : Obj := ⟨(T "tuple"), none, (.seq ⟨[]⟩ 0), ⟨[]⟩⟩
def o897 : Obj := ⟨N, none, (.fields ⟨[]⟩), ⟨[]⟩⟩
def o898 : Obj := ⟨(T "tuple"), none, (.seq ⟨[(S "_law_pool_here" 1353), (S "_law_pairs_here" 1354), (S "_law_way" 1355), (S "_law_at" 1356), (S "_law_field" 1357), (S "_law_members" 1358), (S "_law_bad" 1359)]⟩ 0), ⟨[]⟩⟩
def o899 : Obj := ⟨(T "tuple"), none, (.seq ⟨[]⟩ 0), ⟨[]⟩⟩
def o900 : Obj := ⟨N, none, (F (A 64) (u "_law_bent") (u "_law_bent") 0 [] N N N N none N N 0), ⟨[]⟩⟩
def o901 : Obj := ⟨(T "code"), none, (.fields ⟨[(S "_law_bent" 1350), (S "_law_bent" 1351), (S "/claim/cut.py" 1352), (I 510), (I 2), (I 0), (I 0), (I 3), (R 896), (.bool true), (I 181), (R 897), N, (R 898), (R 899), (R 900), (I 1360), (I 510), (S "/claim/cut.py" 1361)]⟩), ⟨[]⟩⟩
def o902 : Obj := ⟨(T "function"), none, (F (A 64) (u "_law_bent") (u "_law_bent") 3 [] N N N (S "law_onemember_k06_whole_expressions_of_sets" 1263) none (R 901) N 0), ⟨[]⟩⟩
def t3 (P : Params) : BT := (n (boot_o_0 P) (n (boot_o_1 P) (n (o3_3 P) (n (boot_o_7 P) (n o15 (n o31 (n (o63 P) (n o127 (n o255 (n o511 z z) (n o767 z z)) (n o383 (n o639 z z) (n o895 z z))) (n o191 (n o319 (n o575 z z) (n o831 z z)) (n o447 (n o703 z z) z))) (n (o95 P) (n o159 (n o287 (n o543 z z) (n o799 z z)) (n o415 (n o671 z z) z)) (n o223 (n o351 (n o607 z z) (n o863 z z)) (n o479 (n o735 z z) z)))) (n o47 (n o79 (n o143 (n o271 (n o527 z z) (n o783 z z)) (n o399 (n o655 z z) z)) (n o207 (n o335 (n o591 z z) (n o847 z z)) (n o463 (n o719 z z) z))) (n o111 (n o175 (n o303 (n o559 z z) (n o815 z z)) (n o431 (n o687 z z) z)) (n o239 (n o367 (n o623 z z) (n o879 z z)) (n o495 (n o751 z z) z))))) (n o23 (n o39 (n o71 (n o135 (n o263 (n o519 z z) (n o775 z z)) (n o391 (n o647 z z) z)) (n o199 (n o327 (n o583 z z) (n o839 z z)) (n o455 (n o711 z z) z))) (n o103 (n o167 (n o295 (n o551 z z) (n o807 z z)) (n o423 (n (o679 P) z z) z)) (n o231 (n o359 (n o615 z z) (n o871 z z)) (n o487 (n o743 z z) z)))) (n o55 (n o87 (n o151 (n o279 (n o535 z z) (n o791 z z)) (n o407 (n o663 z z) z)) (n (o215 P) (n o343 (n o599 z z) (n o855 z z)) (n o471 (n o727 z z) z))) (n o119 (n o183 (n o311 (n o567 z z) (n o823 z z)) (n o439 (n o695 z z) z)) (n o247 (n o375 (n o631 z z) (n o887 z z)) (n o503 (n o759 z z) z)))))) (n o11 (n o19 (n o35 (n o67 (n o131 (n (o259 P) (n o515 z z) (n o771 z z)) (n o387 (n o643 z z) (n o899 z z))) (n o195 (n o323 (n o579 z z) (n o835 z z)) (n o451 (n o707 z z) z))) (n o99 (n o163 (n o291 (n (o547 P) z z) (n o803 z z)) (n o419 (n o675 z z) z)) (n (o227 P) (n o355 (n o611 z z) (n o867 z z)) (n o483 (n o739 z z) z)))) (n o51 (n o83 (n o147 (n o275 (n o531 z z) (n o787 z z)) (n o403 (n o659 z z) z)) (n o211 (n o339 (n o595 z z) (n o851 z z)) (n o467 (n o723 z z) z))) (n o115 (n o179 (n o307 (n o563 z z) (n o819 z z)) (n o435 (n o691 z z) z)) (n o243 (n o371 (n o627 z z) (n o883 z z)) (n o499 (n o755 z z) z))))) (n o27 (n (o43 P) (n o75 (n (o139 P) (n o267 (n o523 z z) (n o779 z z)) (n o395 (n o651 z z) z)) (n o203 (n o331 (n o587 z z) (n o843 z z)) (n o459 (n o715 z z) z))) (n o107 (n (o171 P) (n o299 (n (o555 P) z z) (n o811 z z)) (n o427 (n o683 z z) z)) (n o235 (n o363 (n o619 z z) (n o875 z z)) (n o491 (n o747 z z) z)))) (n o59 (n o91 (n o155 (n o283 (n o539 z z) (n o795 z z)) (n o411 (n o667 z z) z)) (n o219 (n o347 (n o603 z z) (n o859 z z)) (n o475 (n o731 z z) z))) (n o123 (n o187 (n o315 (n o571 z z) (n o827 z z)) (n o443 (n o699 z z) z)) (n o251 (n o379 (n o635 z z) (n o891 z z)) (n o507 (n o763 z z) z))))))) (n (boot_o_5 P) (n (boot_o_9 P) (n o17 (n o33 (n o65 (n o129 (n o257 (n o513 z z) (n o769 z z)) (n o385 (n o641 z z) (n o897 z z))) (n o193 (n o321 (n o577 z z) (n o833 z z)) (n o449 (n o705 z z) z))) (n o97 (n o161 (n o289 (n o545 z z) (n o801 z z)) (n o417 (n o673 z z) z)) (n o225 (n o353 (n o609 z z) (n o865 z z)) (n o481 (n o737 z z) z)))) (n o49 (n o81 (n o145 (n o273 (n o529 z z) (n o785 z z)) (n o401 (n o657 z z) z)) (n (o209 P) (n o337 (n o593 z z) (n o849 z z)) (n o465 (n o721 z z) z))) (n o113 (n (o177 P) (n o305 (n o561 z z) (n o817 z z)) (n o433 (n o689 z z) z)) (n o241 (n o369 (n o625 z z) (n o881 z z)) (n o497 (n o753 z z) z))))) (n o25 (n o41 (n o73 (n o137 (n o265 (n o521 z z) (n o777 z z)) (n o393 (n o649 z z) z)) (n o201 (n o329 (n o585 z z) (n o841 z z)) (n o457 (n o713 z z) z))) (n o105 (n o169 (n o297 (n o553 z z) (n o809 z z)) (n o425 (n o681 z z) z)) (n o233 (n o361 (n o617 z z) (n o873 z z)) (n o489 (n o745 z z) z)))) (n o57_2 (n o89 (n o153 (n o281 (n o537 z z) (n (o793 P) z z)) (n o409 (n o665 z z) z)) (n o217 (n o345 (n o601 z z) (n o857 z z)) (n o473 (n o729 z z) z))) (n o121 (n o185 (n o313 (n o569 z z) (n o825 z z)) (n o441 (n o697 z z) z)) (n o249 (n o377 (n o633 z z) (n o889 z z)) (n o505 (n o761 z z) z)))))) (n o13 (n o21 (n (o37 P) (n o69 (n (o133 P) (n o261 (n o517 z z) (n o773 z z)) (n o389 (n o645 z z) (n o901 z z))) (n o197 (n o325 (n o581 z z) (n o837 z z)) (n o453 (n o709 z z) z))) (n (o101 P) (n o165 (n o293 (n o549 z z) (n o805 z z)) (n o421 (n (o677 P) z z) z)) (n o229 (n o357 (n o613 z z) (n o869 z z)) (n o485 (n o741 z z) z)))) (n o53 (n o85 (n o149 (n o277 (n o533 z z) (n o789 z z)) (n o405 (n o661 z z) z)) (n o213 (n o341 (n o597 z z) (n o853 z z)) (n o469 (n o725 z z) z))) (n o117 (n o181 (n o309 (n o565 z z) (n o821 z z)) (n o437 (n o693 z z) z)) (n o245 (n o373 (n o629 z z) (n o885 z z)) (n o501 (n o757 z z) z))))) (n o29 (n o45 (n o77 (n o141 (n o269 (n o525 z z) (n o781 z z)) (n o397 (n o653 z z) z)) (n o205 (n o333 (n o589 z z) (n o845 z z)) (n o461 (n o717 z z) z))) (n o109 (n o173 (n o301 (n o557 z z) (n o813 z z)) (n o429 (n o685 z z) z)) (n o237 (n o365 (n o621 z z) (n o877 z z)) (n o493 (n o749 z z) z)))) (n o61 (n o93 (n o157 (n o285 (n o541 z z) (n o797 z z)) (n o413 (n o669 z z) z)) (n (o221 P) (n o349 (n o605 z z) (n o861 z z)) (n o477 (n o733 z z) z))) (n o125 (n o189 (n o317 (n o573 z z) (n o829 z z)) (n o445 (n o701 z z) z)) (n o253 (n (o381 P) (n o637 z z) (n o893 z z)) (n o509 (n o765 z z) z)))))))) (n (o2_1 P) (n (boot_o_4 P) (n (boot_o_8 P) (n o16 (n o32 (n o64 (n o128 (n o256 (n o512 z z) (n o768 z z)) (n o384 (n o640 z z) (n o896 z z))) (n o192 (n o320 (n (o576 P) z z) (n o832 z z)) (n o448 (n o704 z z) z))) (n o96 (n o160 (n o288 (n o544 z z) (n o800 z z)) (n o416 (n o672 z z) z)) (n o224 (n o352 (n o608 z z) (n o864 z z)) (n o480 (n o736 z z) z)))) (n o48 (n o80 (n o144 (n o272 (n o528 z z) (n (o784 P) z z)) (n (o400 P) (n o656 z z) z)) (n o208 (n o336 (n o592 z z) (n o848 z z)) (n o464 (n o720 z z) z))) (n o112 (n o176 (n o304 (n o560 z z) (n o816 z z)) (n o432 (n o688 z z) z)) (n (o240 P) (n o368 (n o624 z z) (n o880 z z)) (n o496 (n o752 z z) z))))) (n (o24 P) (n o40 (n o72 (n o136 (n o264 (n o520 z z) (n (o776 P) z z)) (n o392 (n o648 z z) z)) (n o200 (n o328 (n o584 z z) (n o840 z z)) (n o456 (n o712 z z) z))) (n o104 (n o168 (n o296 (n o552 z z) (n o808 z z)) (n o424 (n o680 z z) z)) (n o232 (n o360 (n o616 z z) (n o872 z z)) (n o488 (n o744 z z) z)))) (n (o56 P) (n o88 (n (o152 P) (n o280 (n o536 z z) (n o792 z z)) (n (o408 P) (n o664 z z) z)) (n o216 (n o344 (n o600 z z) (n o856 z z)) (n o472 (n o728 z z) z))) (n (o120 P) (n o184 (n o312 (n o568 z z) (n o824 z z)) (n o440 (n o696 z z) z)) (n o248 (n o376 (n o632 z z) (n o888 z z)) (n o504 (n o760 z z) z)))))) (n o12_3 (n o20 (n o36 (n o68 (n o132 (n o260 (n o516 z z) (n o772 z z)) (n o388 (n o644 z z) (n o900 z z))) (n (o196 P) (n o324 (n o580 z z) (n o836 z z)) (n o452 (n o708 z z) z))) (n o100 (n o164 (n o292 (n o548 z z) (n o804 z z)) (n o420 (n o676 z z) z)) (n o228 (n o356 (n o612 z z) (n o868 z z)) (n o484 (n o740 z z) z)))) (n o52 (n o84 (n o148 (n o276 (n o532 z z) (n o788 z z)) (n o404 (n o660 z z) z)) (n o212 (n o340 (n o596 z z) (n o852 z z)) (n o468 (n o724 z z) z))) (n o116 (n o180 (n o308 (n o564 z z) (n o820 z z)) (n o436 (n o692 z z) z)) (n o244 (n o372 (n o628 z z) (n o884 z z)) (n o500 (n o756 z z) z))))) (n o28 (n o44_2 (n (o76 P) (n o140 (n o268 (n o524 z z) (n o780 z z)) (n o396 (n o652 z z) z)) (n o204 (n o332 (n o588 z z) (n o844 z z)) (n o460 (n o716 z z) z))) (n o108 (n o172 (n o300 (n o556 z z) (n o812 z z)) (n o428 (n o684 z z) z)) (n o236 (n o364 (n o620 z z) (n o876 z z)) (n o492 (n o748 z z) z)))) (n o60 (n o92 (n o156 (n o284 (n o540 z z) (n o796 z z)) (n o412 (n o668 z z) z)) (n o220 (n o348 (n o604 z z) (n o860 z z)) (n o476 (n o732 z z) z))) (n o124 (n o188 (n o316 (n o572 z z) (n o828 z z)) (n o444 (n o700 z z) z)) (n o252 (n o380 (n (o636 P) z z) (n o892 z z)) (n o508 (n o764 z z) z))))))) (n (boot_o_6 P) (n (boot_o_10 P) (n o18 (n o34 (n o66 (n o130 (n o258 (n o514 z z) (n o770 z z)) (n o386 (n o642 z z) (n o898 z z))) (n o194 (n o322 (n o578 z z) (n o834 z z)) (n o450 (n o706 z z) z))) (n o98 (n o162 (n o290 (n o546 z z) (n o802 z z)) (n o418 (n o674 z z) z)) (n o226 (n o354 (n o610 z z) (n o866 z z)) (n o482 (n o738 z z) z)))) (n (o50 P) (n (o82 P) (n o146 (n o274 (n o530 z z) (n o786 z z)) (n o402 (n (o658 P) z z) z)) (n o210 (n o338 (n o594 z z) (n o850 z z)) (n o466 (n o722 z z) z))) (n (o114 P) (n o178 (n o306 (n o562 z z) (n o818 z z)) (n o434 (n o690 z z) z)) (n o242 (n o370 (n o626 z z) (n o882 z z)) (n o498 (n o754 z z) z))))) (n o26 (n o42 (n o74 (n o138 (n o266 (n o522 z z) (n o778 z z)) (n o394 (n o650 z z) z)) (n o202 (n o330 (n o586 z z) (n o842 z z)) (n o458 (n o714 z z) z))) (n o106 (n o170 (n o298 (n o554 z z) (n o810 z z)) (n o426 (n o682 z z) z)) (n o234 (n o362 (n o618 z z) (n o874 z z)) (n o490 (n o746 z z) z)))) (n o58 (n o90 (n o154 (n o282 (n o538 z z) (n o794 z z)) (n (o410 P) (n o666 z z) z)) (n o218 (n o346 (n o602 z z) (n o858 z z)) (n o474 (n o730 z z) z))) (n o122 (n o186 (n o314 (n o570 z z) (n o826 z z)) (n o442 (n o698 z z) z)) (n o250 (n o378 (n o634 z z) (n o890 z z)) (n o506 (n o762 z z) z)))))) (n o14 (n o22 (n o38 (n o70 (n o134 (n o262 (n o518 z z) (n o774 z z)) (n o390 (n o646 z z) (n o902 z z))) (n o198 (n o326 (n o582 z z) (n o838 z z)) (n o454 (n o710 z z) z))) (n o102 (n o166 (n o294 (n o550 z z) (n o806 z z)) (n o422 (n o678 z z) z)) (n o230 (n o358 (n o614 z z) (n o870 z z)) (n o486 (n o742 z z) z)))) (n o54 (n o86 (n o150 (n o278 (n o534 z z) (n o790 z z)) (n o406 (n o662 z z) z)) (n o214 (n o342 (n o598 z z) (n o854 z z)) (n o470 (n o726 z z) z))) (n o118 (n o182 (n o310 (n o566 z z) (n o822 z z)) (n o438 (n o694 z z) z)) (n (o246 P) (n o374 (n o630 z z) (n o886 z z)) (n o502 (n o758 z z) z))))) (n (o30 P) (n o46 (n o78 (n o142 (n o270 (n o526 z z) (n o782 z z)) (n (o398 P) (n o654 z z) z)) (n o206 (n o334 (n o590 z z) (n o846 z z)) (n o462 (n o718 z z) z))) (n o110 (n o174 (n o302 (n o558 z z) (n o814 z z)) (n o430 (n o686 z z) z)) (n o238 (n o366 (n o622 z z) (n o878 z z)) (n o494 (n o750 z z) z)))) (n o62 (n o94 (n (o158 P) (n o286 (n o542 z z) (n o798 z z)) (n o414 (n o670 z z) z)) (n o222 (n o350 (n o606 z z) (n o862 z z)) (n o478 (n o734 z z) z))) (n o126 (n (o190 P) (n o318 (n (o574 P) z z) (n o830 z z)) (n o446 (n o702 z z) z)) (n o254 (n o382 (n o638 z z) (n o894 z z)) (n o510 (n o766 z z) z)))))))))
def o3_4 (P : Params) : Obj := ⟨(T "dict"), none, (.dict ⟨[E P "__name__" 165 (S "law_onemember_k06_whole_expressions_of_sets" 1263), E P "__doc__" 166 N, E P "__package__" 167 N, E P "__loader__" 168 (B "__main__.__loader__#opaque"), E P "__spec__" 169 N, E P "__annotations__" 170 (R 6), E P "__builtins__" 171 (R 4), E P "__file__" 173 (S "/claim/cut.py" 172), E P "__cached__" 174 N, E P "_wall" 193 (R 21), E P "SetError" 213 (R 31), E P "StateError" 231 (R 44), E P "LimitError" 251 (R 57), E P "NotMembers" 276 (R 77), E P "NotAChange" 301 (R 96), E P "NotAnExpression" 326 (R 115), E P "InvalidForm" 351 (R 134), E P "InvalidText" 376 (R 153), E P "UnknownField" 401 (R 172), E P "InvalidNames" 426 (R 191), E P "InvalidSets" 451 (R 210), E P "NotComparable" 467 (R 222), E P "TooManyLeaves" 492 (R 241), E P "TooManyLevels" 517 (R 260), E P "MOST_LEAVES" 519 (.int 200 518), E P "MOST_DEPTH" 521 (.int 20 520), E P "LONGEST_NAME" 525 (.int 8 524), E P "is_name" 532 (R 269), E P "wrong_at" 541 (R 276), E P "wrong_or_twice_at" 551 (R 283), E P "SIGNS" 558 (R 284), E P "GIVEN" 560 (S "given" 559), E P "NONE" 562 (S "none" 561), E P "is_field" 569 (R 291), E P "form_size" 575 (R 296), E P "is_triple" 582 (R 303), E P "check_leaves" 589 (R 310), E P "check_depth" 596 (R 317), E P "form_text" 606 (R 324), E P "side_text" 613 (R 331), E P "read_counted" 624 (R 338), E P "take_word" 633 (R 345), E P "joined" 645 (R 352), E P "form_leaves" 652 (R 359), E P "form_fields" 658 (R 364), E P "form_meets" 672 (R 371), E P "form_value" 685 (R 378), E P "Members" 906 (R 548), E P "Change" 1020 (R 637), E P "check_members" 1027 (R 648), E P "check_change" 1034 (R 655), E P "Expression" 1218 (R 794), E P "check_expression" 1225 (R 805), E P "with_sign" 1234 (R 812), E P "all_sets" 1245 (R 819), E P "field_sets" 1255 (R 826), E P "is_field_set" 1262 (R 833), E P "_law_cell" 1274 (R 840), E P "_law_pool" 1281 (R 847), E P "_law_draw" 1291 (R 854), E P "_law_names" 1297 (R 859), E P "_law_form" 1307 (R 866), E P "_law_in" 1318 (R 873), E P "_law_caught" 1331 (R 880), E P "_law_sets" 1337 (R 885), E P "_law_pairs" 1343 (R 890), E P "_law_wanted" 1349 (R 895), E P "_law_bent" 1362 (R 902), E P "_law_odd_right" 1368 (R 907), E P "_law_right" 1374 (R 912), E P "law" 1380 (R 917)]⟩ 71), ⟨[]⟩⟩
def o12_4 : Obj := ⟨N, none, (.fields ⟨[(I 1), (I 0), (R 20), (I 5), (I 0), (R 27), (I 7), (I 0), (R 40), (I 9), (I 0), (R 53), (I 11), (I 0), (R 66), (I 15), (I 0), (R 85), (I 19), (I 0), (R 104), (I 23), (I 0), (R 123), (I 27), (I 0), (R 142), (I 31), (I 0), (R 161), (I 35), (I 0), (R 180), (I 39), (I 0), (R 199), (I 43), (I 0), (R 218), (I 45), (I 0), (R 230), (I 49), (I 0), (R 249), (I 57), (I 0), (R 268), (I 63), (I 0), (R 275), (I 68), (I 0), (R 282), (I 79), (I 0), (R 290), (I 81), (I 0), (R 295), (I 96), (I 0), (R 302), (I 98), (I 0), (R 309), (I 101), (I 0), (R 316), (I 104), (I 0), (R 323), (I 109), (I 0), (R 330), (I 113), (I 0), (R 337), (I 127), (I 0), (R 344), (I 141), (I 0), (R 351), (I 144), (I 0), (R 358), (I 148), (I 0), (R 363), (I 151), (I 0), (R 370), (I 168), (I 0), (R 377), (I 182), (I 0), (R 384), (I 276), (I 0), (R 558), (I 320), (I 0), (R 647), (I 323), (I 0), (R 654), (I 327), (I 0), (R 661), (I 405), (I 0), (R 804), (I 408), (I 0), (R 811), (I 411), (I 0), (R 818), (I 421), (I 0), (R 825), (I 430), (I 0), (R 832), (I 435), (I 0), (R 839), (I 442), (I 0), (R 846), (I 444), (I 0), (R 853), (I 453), (I 0), (R 858), (I 462), (I 0), (R 865), (I 467), (I 0), (R 872), (I 474), (I 0), (R 879), (I 499), (I 0), (R 884), (I 501), (I 0), (R 889), (I 503), (I 0), (R 894), (I 510), (I 0), (R 901), (I 520), (I 0), (R 906), (I 536), (I 0), (R 911), (I 565), (I 0), (R 916)]⟩), ⟨[]⟩⟩
def o903 : Obj := ⟨(T "tuple"), none, (.seq ⟨[]⟩ 0), ⟨[]⟩⟩
def o904 : Obj := ⟨N, none, (.fields ⟨[]⟩), ⟨[]⟩⟩
def o905 : Obj := ⟨N, none, (F (A 65) (u "_law_odd_right") (u "_law_odd_right") 0 [] N N N N none N N 0), ⟨[]⟩⟩
def o906 : Obj := ⟨(T "code"), none, (.fields ⟨[(S "_law_odd_right" 1363), (S "_law_odd_right" 1364), (S "/claim/cut.py" 1365), (I 520), (I 4), (I 0), (I 0), (I 3), (R 903), (.bool true), (I 181), (R 904), N, N, N, (R 905), (I 1366), (I 520), (S "/claim/cut.py" 1367)]⟩), ⟨[]⟩⟩
def o907 : Obj := ⟨(T "function"), none, (F (A 65) (u "_law_odd_right") (u "_law_odd_right") 3 [] N N N (S "law_onemember_k06_whole_expressions_of_sets" 1263) none (R 906) N 0), ⟨[]⟩⟩
def o908 : Obj := ⟨(T "tuple"), none, (.seq ⟨[]⟩ 0), ⟨[]⟩⟩
def o909 : Obj := ⟨N, none, (.fields ⟨[]⟩), ⟨[]⟩⟩
def o910 : Obj := ⟨N, none, (F (A 66) (u "_law_right") (u "_law_right") 0 [] N N N N none N N 0), ⟨[]⟩⟩
def o911 : Obj := ⟨(T "code"), none, (.fields ⟨[(S "_law_right" 1369), (S "_law_right" 1370), (S "/claim/cut.py" 1371), (I 536), (I 1), (I 0), (I 0), (I 3), (R 908), (.bool true), (I 181), (R 909), N, N, N, (R 910), (I 1372), (I 536), (S "/claim/cut.py" 1373)]⟩), ⟨[]⟩⟩
def o912 : Obj := ⟨(T "function"), none, (F (A 66) (u "_law_right") (u "_law_right") 3 [] N N N (S "law_onemember_k06_whole_expressions_of_sets" 1263) none (R 911) N 0), ⟨[]⟩⟩
def o913 : Obj := ⟨(T "tuple"), none, (.seq ⟨[]⟩ 0), ⟨[]⟩⟩
def o914 : Obj := ⟨N, none, (.fields ⟨[]⟩), ⟨[]⟩⟩
def o915 : Obj := ⟨N, none, (F (A 67) (u "law") (u "law") 0 [] N N N N none N N 0), ⟨[]⟩⟩
def o916 : Obj := ⟨(T "code"), none, (.fields ⟨[(S "law" 1375), (S "law" 1376), (S "/claim/cut.py" 1377), (I 565), (I 1), (I 0), (I 0), (I 3), (R 913), (.bool true), (I 181), (R 914), N, N, N, (R 915), (I 1378), (I 565), (S "/claim/cut.py" 1379)]⟩), ⟨[]⟩⟩
def o917 : Obj := ⟨(T "function"), none, (F (A 67) (u "law") (u "law") 3 [] N N N (S "law_onemember_k06_whole_expressions_of_sets" 1263) none (R 916) N 0), ⟨[]⟩⟩
def t4 (P : Params) : BT := (n (boot_o_0 P) (n (boot_o_1 P) (n (o3_4 P) (n (boot_o_7 P) (n o15 (n o31 (n (o63 P) (n o127 (n o255 (n o511 z z) (n o767 z z)) (n o383 (n o639 z z) (n o895 z z))) (n o191 (n o319 (n o575 z z) (n o831 z z)) (n o447 (n o703 z z) z))) (n (o95 P) (n o159 (n o287 (n o543 z z) (n o799 z z)) (n o415 (n o671 z z) z)) (n o223 (n o351 (n o607 z z) (n o863 z z)) (n o479 (n o735 z z) z)))) (n o47 (n o79 (n o143 (n o271 (n o527 z z) (n o783 z z)) (n o399 (n o655 z z) (n o911 z z))) (n o207 (n o335 (n o591 z z) (n o847 z z)) (n o463 (n o719 z z) z))) (n o111 (n o175 (n o303 (n o559 z z) (n o815 z z)) (n o431 (n o687 z z) z)) (n o239 (n o367 (n o623 z z) (n o879 z z)) (n o495 (n o751 z z) z))))) (n o23 (n o39 (n o71 (n o135 (n o263 (n o519 z z) (n o775 z z)) (n o391 (n o647 z z) (n o903 z z))) (n o199 (n o327 (n o583 z z) (n o839 z z)) (n o455 (n o711 z z) z))) (n o103 (n o167 (n o295 (n o551 z z) (n o807 z z)) (n o423 (n (o679 P) z z) z)) (n o231 (n o359 (n o615 z z) (n o871 z z)) (n o487 (n o743 z z) z)))) (n o55 (n o87 (n o151 (n o279 (n o535 z z) (n o791 z z)) (n o407 (n o663 z z) z)) (n (o215 P) (n o343 (n o599 z z) (n o855 z z)) (n o471 (n o727 z z) z))) (n o119 (n o183 (n o311 (n o567 z z) (n o823 z z)) (n o439 (n o695 z z) z)) (n o247 (n o375 (n o631 z z) (n o887 z z)) (n o503 (n o759 z z) z)))))) (n o11 (n o19 (n o35 (n o67 (n o131 (n (o259 P) (n o515 z z) (n o771 z z)) (n o387 (n o643 z z) (n o899 z z))) (n o195 (n o323 (n o579 z z) (n o835 z z)) (n o451 (n o707 z z) z))) (n o99 (n o163 (n o291 (n (o547 P) z z) (n o803 z z)) (n o419 (n o675 z z) z)) (n (o227 P) (n o355 (n o611 z z) (n o867 z z)) (n o483 (n o739 z z) z)))) (n o51 (n o83 (n o147 (n o275 (n o531 z z) (n o787 z z)) (n o403 (n o659 z z) (n o915 z z))) (n o211 (n o339 (n o595 z z) (n o851 z z)) (n o467 (n o723 z z) z))) (n o115 (n o179 (n o307 (n o563 z z) (n o819 z z)) (n o435 (n o691 z z) z)) (n o243 (n o371 (n o627 z z) (n o883 z z)) (n o499 (n o755 z z) z))))) (n o27 (n (o43 P) (n o75 (n (o139 P) (n o267 (n o523 z z) (n o779 z z)) (n o395 (n o651 z z) (n o907 z z))) (n o203 (n o331 (n o587 z z) (n o843 z z)) (n o459 (n o715 z z) z))) (n o107 (n (o171 P) (n o299 (n (o555 P) z z) (n o811 z z)) (n o427 (n o683 z z) z)) (n o235 (n o363 (n o619 z z) (n o875 z z)) (n o491 (n o747 z z) z)))) (n o59 (n o91 (n o155 (n o283 (n o539 z z) (n o795 z z)) (n o411 (n o667 z z) z)) (n o219 (n o347 (n o603 z z) (n o859 z z)) (n o475 (n o731 z z) z))) (n o123 (n o187 (n o315 (n o571 z z) (n o827 z z)) (n o443 (n o699 z z) z)) (n o251 (n o379 (n o635 z z) (n o891 z z)) (n o507 (n o763 z z) z))))))) (n (boot_o_5 P) (n (boot_o_9 P) (n o17 (n o33 (n o65 (n o129 (n o257 (n o513 z z) (n o769 z z)) (n o385 (n o641 z z) (n o897 z z))) (n o193 (n o321 (n o577 z z) (n o833 z z)) (n o449 (n o705 z z) z))) (n o97 (n o161 (n o289 (n o545 z z) (n o801 z z)) (n o417 (n o673 z z) z)) (n o225 (n o353 (n o609 z z) (n o865 z z)) (n o481 (n o737 z z) z)))) (n o49 (n o81 (n o145 (n o273 (n o529 z z) (n o785 z z)) (n o401 (n o657 z z) (n o913 z z))) (n (o209 P) (n o337 (n o593 z z) (n o849 z z)) (n o465 (n o721 z z) z))) (n o113 (n (o177 P) (n o305 (n o561 z z) (n o817 z z)) (n o433 (n o689 z z) z)) (n o241 (n o369 (n o625 z z) (n o881 z z)) (n o497 (n o753 z z) z))))) (n o25 (n o41 (n o73 (n o137 (n o265 (n o521 z z) (n o777 z z)) (n o393 (n o649 z z) (n o905 z z))) (n o201 (n o329 (n o585 z z) (n o841 z z)) (n o457 (n o713 z z) z))) (n o105 (n o169 (n o297 (n o553 z z) (n o809 z z)) (n o425 (n o681 z z) z)) (n o233 (n o361 (n o617 z z) (n o873 z z)) (n o489 (n o745 z z) z)))) (n o57_2 (n o89 (n o153 (n o281 (n o537 z z) (n (o793 P) z z)) (n o409 (n o665 z z) z)) (n o217 (n o345 (n o601 z z) (n o857 z z)) (n o473 (n o729 z z) z))) (n o121 (n o185 (n o313 (n o569 z z) (n o825 z z)) (n o441 (n o697 z z) z)) (n o249 (n o377 (n o633 z z) (n o889 z z)) (n o505 (n o761 z z) z)))))) (n o13 (n o21 (n (o37 P) (n o69 (n (o133 P) (n o261 (n o517 z z) (n o773 z z)) (n o389 (n o645 z z) (n o901 z z))) (n o197 (n o325 (n o581 z z) (n o837 z z)) (n o453 (n o709 z z) z))) (n (o101 P) (n o165 (n o293 (n o549 z z) (n o805 z z)) (n o421 (n (o677 P) z z) z)) (n o229 (n o357 (n o613 z z) (n o869 z z)) (n o485 (n o741 z z) z)))) (n o53 (n o85 (n o149 (n o277 (n o533 z z) (n o789 z z)) (n o405 (n o661 z z) (n o917 z z))) (n o213 (n o341 (n o597 z z) (n o853 z z)) (n o469 (n o725 z z) z))) (n o117 (n o181 (n o309 (n o565 z z) (n o821 z z)) (n o437 (n o693 z z) z)) (n o245 (n o373 (n o629 z z) (n o885 z z)) (n o501 (n o757 z z) z))))) (n o29 (n o45 (n o77 (n o141 (n o269 (n o525 z z) (n o781 z z)) (n o397 (n o653 z z) (n o909 z z))) (n o205 (n o333 (n o589 z z) (n o845 z z)) (n o461 (n o717 z z) z))) (n o109 (n o173 (n o301 (n o557 z z) (n o813 z z)) (n o429 (n o685 z z) z)) (n o237 (n o365 (n o621 z z) (n o877 z z)) (n o493 (n o749 z z) z)))) (n o61 (n o93 (n o157 (n o285 (n o541 z z) (n o797 z z)) (n o413 (n o669 z z) z)) (n (o221 P) (n o349 (n o605 z z) (n o861 z z)) (n o477 (n o733 z z) z))) (n o125 (n o189 (n o317 (n o573 z z) (n o829 z z)) (n o445 (n o701 z z) z)) (n o253 (n (o381 P) (n o637 z z) (n o893 z z)) (n o509 (n o765 z z) z)))))))) (n (o2_1 P) (n (boot_o_4 P) (n (boot_o_8 P) (n o16 (n o32 (n o64 (n o128 (n o256 (n o512 z z) (n o768 z z)) (n o384 (n o640 z z) (n o896 z z))) (n o192 (n o320 (n (o576 P) z z) (n o832 z z)) (n o448 (n o704 z z) z))) (n o96 (n o160 (n o288 (n o544 z z) (n o800 z z)) (n o416 (n o672 z z) z)) (n o224 (n o352 (n o608 z z) (n o864 z z)) (n o480 (n o736 z z) z)))) (n o48 (n o80 (n o144 (n o272 (n o528 z z) (n (o784 P) z z)) (n (o400 P) (n o656 z z) (n o912 z z))) (n o208 (n o336 (n o592 z z) (n o848 z z)) (n o464 (n o720 z z) z))) (n o112 (n o176 (n o304 (n o560 z z) (n o816 z z)) (n o432 (n o688 z z) z)) (n (o240 P) (n o368 (n o624 z z) (n o880 z z)) (n o496 (n o752 z z) z))))) (n (o24 P) (n o40 (n o72 (n o136 (n o264 (n o520 z z) (n (o776 P) z z)) (n o392 (n o648 z z) (n o904 z z))) (n o200 (n o328 (n o584 z z) (n o840 z z)) (n o456 (n o712 z z) z))) (n o104 (n o168 (n o296 (n o552 z z) (n o808 z z)) (n o424 (n o680 z z) z)) (n o232 (n o360 (n o616 z z) (n o872 z z)) (n o488 (n o744 z z) z)))) (n (o56 P) (n o88 (n (o152 P) (n o280 (n o536 z z) (n o792 z z)) (n (o408 P) (n o664 z z) z)) (n o216 (n o344 (n o600 z z) (n o856 z z)) (n o472 (n o728 z z) z))) (n (o120 P) (n o184 (n o312 (n o568 z z) (n o824 z z)) (n o440 (n o696 z z) z)) (n o248 (n o376 (n o632 z z) (n o888 z z)) (n o504 (n o760 z z) z)))))) (n o12_4 (n o20 (n o36 (n o68 (n o132 (n o260 (n o516 z z) (n o772 z z)) (n o388 (n o644 z z) (n o900 z z))) (n (o196 P) (n o324 (n o580 z z) (n o836 z z)) (n o452 (n o708 z z) z))) (n o100 (n o164 (n o292 (n o548 z z) (n o804 z z)) (n o420 (n o676 z z) z)) (n o228 (n o356 (n o612 z z) (n o868 z z)) (n o484 (n o740 z z) z)))) (n o52 (n o84 (n o148 (n o276 (n o532 z z) (n o788 z z)) (n o404 (n o660 z z) (n o916 z z))) (n o212 (n o340 (n o596 z z) (n o852 z z)) (n o468 (n o724 z z) z))) (n o116 (n o180 (n o308 (n o564 z z) (n o820 z z)) (n o436 (n o692 z z) z)) (n o244 (n o372 (n o628 z z) (n o884 z z)) (n o500 (n o756 z z) z))))) (n o28 (n o44_2 (n (o76 P) (n o140 (n o268 (n o524 z z) (n o780 z z)) (n o396 (n o652 z z) (n o908 z z))) (n o204 (n o332 (n o588 z z) (n o844 z z)) (n o460 (n o716 z z) z))) (n o108 (n o172 (n o300 (n o556 z z) (n o812 z z)) (n o428 (n o684 z z) z)) (n o236 (n o364 (n o620 z z) (n o876 z z)) (n o492 (n o748 z z) z)))) (n o60 (n o92 (n o156 (n o284 (n o540 z z) (n o796 z z)) (n o412 (n o668 z z) z)) (n o220 (n o348 (n o604 z z) (n o860 z z)) (n o476 (n o732 z z) z))) (n o124 (n o188 (n o316 (n o572 z z) (n o828 z z)) (n o444 (n o700 z z) z)) (n o252 (n o380 (n (o636 P) z z) (n o892 z z)) (n o508 (n o764 z z) z))))))) (n (boot_o_6 P) (n (boot_o_10 P) (n o18 (n o34 (n o66 (n o130 (n o258 (n o514 z z) (n o770 z z)) (n o386 (n o642 z z) (n o898 z z))) (n o194 (n o322 (n o578 z z) (n o834 z z)) (n o450 (n o706 z z) z))) (n o98 (n o162 (n o290 (n o546 z z) (n o802 z z)) (n o418 (n o674 z z) z)) (n o226 (n o354 (n o610 z z) (n o866 z z)) (n o482 (n o738 z z) z)))) (n (o50 P) (n (o82 P) (n o146 (n o274 (n o530 z z) (n o786 z z)) (n o402 (n (o658 P) z z) (n o914 z z))) (n o210 (n o338 (n o594 z z) (n o850 z z)) (n o466 (n o722 z z) z))) (n (o114 P) (n o178 (n o306 (n o562 z z) (n o818 z z)) (n o434 (n o690 z z) z)) (n o242 (n o370 (n o626 z z) (n o882 z z)) (n o498 (n o754 z z) z))))) (n o26 (n o42 (n o74 (n o138 (n o266 (n o522 z z) (n o778 z z)) (n o394 (n o650 z z) (n o906 z z))) (n o202 (n o330 (n o586 z z) (n o842 z z)) (n o458 (n o714 z z) z))) (n o106 (n o170 (n o298 (n o554 z z) (n o810 z z)) (n o426 (n o682 z z) z)) (n o234 (n o362 (n o618 z z) (n o874 z z)) (n o490 (n o746 z z) z)))) (n o58 (n o90 (n o154 (n o282 (n o538 z z) (n o794 z z)) (n (o410 P) (n o666 z z) z)) (n o218 (n o346 (n o602 z z) (n o858 z z)) (n o474 (n o730 z z) z))) (n o122 (n o186 (n o314 (n o570 z z) (n o826 z z)) (n o442 (n o698 z z) z)) (n o250 (n o378 (n o634 z z) (n o890 z z)) (n o506 (n o762 z z) z)))))) (n o14 (n o22 (n o38 (n o70 (n o134 (n o262 (n o518 z z) (n o774 z z)) (n o390 (n o646 z z) (n o902 z z))) (n o198 (n o326 (n o582 z z) (n o838 z z)) (n o454 (n o710 z z) z))) (n o102 (n o166 (n o294 (n o550 z z) (n o806 z z)) (n o422 (n o678 z z) z)) (n o230 (n o358 (n o614 z z) (n o870 z z)) (n o486 (n o742 z z) z)))) (n o54 (n o86 (n o150 (n o278 (n o534 z z) (n o790 z z)) (n o406 (n o662 z z) z)) (n o214 (n o342 (n o598 z z) (n o854 z z)) (n o470 (n o726 z z) z))) (n o118 (n o182 (n o310 (n o566 z z) (n o822 z z)) (n o438 (n o694 z z) z)) (n (o246 P) (n o374 (n o630 z z) (n o886 z z)) (n o502 (n o758 z z) z))))) (n (o30 P) (n o46 (n o78 (n o142 (n o270 (n o526 z z) (n o782 z z)) (n (o398 P) (n o654 z z) (n o910 z z))) (n o206 (n o334 (n o590 z z) (n o846 z z)) (n o462 (n o718 z z) z))) (n o110 (n o174 (n o302 (n o558 z z) (n o814 z z)) (n o430 (n o686 z z) z)) (n o238 (n o366 (n o622 z z) (n o878 z z)) (n o494 (n o750 z z) z)))) (n o62 (n o94 (n (o158 P) (n o286 (n o542 z z) (n o798 z z)) (n o414 (n o670 z z) z)) (n o222 (n o350 (n o606 z z) (n o862 z z)) (n o478 (n o734 z z) z))) (n o126 (n (o190 P) (n o318 (n (o574 P) z z) (n o830 z z)) (n o446 (n o702 z z) z)) (n o254 (n o382 (n o638 z z) (n o894 z z)) (n o510 (n o766 z z) z)))))))))
theorem g1 (w : World) (os : OsState) : goS (stepQ (denQ tabQ) RR.prog w) 11 (bootAnn w) 2578 (bootT w os (t0 w.params, 11)) (topStub RR.prog) = some ((sh w os (t1 w.params) 213 452), (th 13 ⟨39, 0, 42, 26⟩)) := by kernel_rfl
theorem g2 (w : World) (os : OsState) : goS (stepQ (denQ tabQ) RR.prog w) 11 (bootAnn w) 2542 (sh w os (t1 w.params) 213 452) (th 13 ⟨39, 0, 42, 26⟩) = some ((sh w os (t2 w.params) 553 907), (th 43 ⟨182, 0, 275, 45⟩)) := by kernel_rfl
theorem g3 (w : World) (os : OsState) : goS (stepQ (denQ tabQ) RR.prog w) 11 (bootAnn w) 2501 (sh w os (t2 w.params) 553 907) (th 43 ⟨182, 0, 275, 45⟩) = some ((sh w os (t3 w.params) 903 1363), (th 65 ⟨510, 0, 519, 85⟩)) := by kernel_rfl
theorem gz (w : World) (os : OsState) : goF (stepQ (denQ tabQ) RR.prog w) 11 (bootAnn w) 7879 (sh w os (t3 w.params) 903 1363) (th 65 ⟨510, 0, 519, 85⟩) = some (sh w os (t4 w.params) 918 1381) := by kernel_rfl
def Sf (w : World) (os : OsState) : SharedT := (sh w os (t4 w.params) 918 1381)
theorem p0 (w : World) : putAll (boot_heap w.params).objs.toList .nil 0 = some (t0 w.params, 11) := by kernel_rfl
theorem ran (w : World) (os : OsState) : endF (stepQ (denQ tabQ) RR.prog w) 15500 RR.prog w os = some (Sf w os) := end_of (p0 w) (goS_goF (g1 w os) (goS_goF (g2 w os) (goS_goF (g3 w os) (gz w os))))
end K1.Hs
end
namespace K1.Hd
open PySem PySem.W PySem.Calls PyProof.Rows HeadRun
abbrev RR : OpenRow := OpenLaw.row PySem.Challenge.rw_onemember_k06_whole_expressions_of_sets
def qW : Program := view RR.prog [0, 2, 3, 4, 5, 6, 7, 8, 9, 10, 11, 12, 13, 14, 15, 16, 17, 19, 20, 21, 22, 24, 25, 26, 27, 28, 29, 30, 31, 32, 33, 34, 35, 36, 37, 38, 39, 40, 42, 43, 44, 45, 47, 48, 49, 50, 51, 52, 54, 55, 56, 57, 58, 59, 60, 61, 62, 63, 64, 65, 66, 67]
def lW : List PySem.Str := [PySem.Str.ofString "Members", PySem.Str.ofString "Change", PySem.Str.ofString "Expression"]
def xW : Shared → Bool := fun s => xlAt qW [] s && recOk RR.toRowW.records s
theorem pL {α β γ : Type} {o : Option α} {f : α → β} {g : α → γ} {b : β} {c : γ} (h : o.map (fun s => (f s, g s)) = some (b, c)) : o.map f = some b := by
  cases o with
  | none => cases h
  | some a => exact congrArg some (congrArg Prod.fst (Option.some.inj h))
theorem pR {α β γ : Type} {o : Option α} {f : α → β} {g : α → γ} {b : β} {c : γ} (h : o.map (fun s => (f s, g s)) = some (b, c)) : o.map g = some c := by
  cases o with
  | none => cases h
  | some a => exact congrArg some (congrArg Prod.snd (Option.some.inj h))
theorem ax (w : World) (os : OsState) : (some (K1.Hs.Sf w os)).map (fun s => ((looksF RR.prog (boot_heap w.params) s.abs, (seenQ qW lW (importedModules RR.prog.main.body) xW s.abs).2.1, (seenQ qW lW (importedModules RR.prog.main.body) xW s.abs).2.2.2.2.2.2.2.2), PySem.W.R.allR (K1.tk 17 (PySem.W.Fast.tw3399658132070893891 qW)) fun d => PySem.W.Fast.tw5930804224584009831 s.abs.heap (DefRec.name d))) = some ((true, bltViewBooted, clsGoodW qW lW), true) := by kernel_rfl
theorem d3 (w : World) (os : OsState) : (some (K1.Hs.Sf w os)).map (fun s => K1.dp 14 (K1.dp 17 (seenQ qW lW (importedModules RR.prog.main.body) xW s.abs).1.defs)) = some (((expectedOf qW).defs.drop 17).drop 14) := by kernel_rfl
theorem e2 (w : World) (os : OsState) : (some (K1.Hs.Sf w os)).map (fun s => (seenQ qW lW (importedModules RR.prog.main.body) xW s.abs).2.2.2.2.2.2.2.1.2) = some ((wideGood qW).2) := by kernel_rfl
theorem d2 (w : World) (os : OsState) : (some (K1.Hs.Sf w os)).map (fun s => K1.tk 14 (K1.dp 17 (seenQ qW lW (importedModules RR.prog.main.body) xW s.abs).1.defs)) = some (((expectedOf qW).defs.drop 17).take 14) := by kernel_rfl
theorem a6 (w : World) (os : OsState) : (some (K1.Hs.Sf w os)).map (fun s => PySem.W.R.allR (K1.dp 14 (K1.dp 17 (PySem.W.Fast.tw3399658132070893891 qW))) fun d => PySem.W.Fast.tw5930804224584009831 s.abs.heap (DefRec.name d)) = some (true) := by kernel_rfl
theorem x2 (w : World) (os : OsState) : (some (K1.Hs.Sf w os)).map (fun s => ((seenQ qW lW (importedModules RR.prog.main.body) xW s.abs).2.2.2.2.1, (seenQ qW lW (importedModules RR.prog.main.body) xW s.abs).2.2.2.2.2.2.1)) = some (pinGoodD (drecsOf qW), plainGoodD qW lW) := by kernel_rfl
theorem a5 (w : World) (os : OsState) : (some (K1.Hs.Sf w os)).map (fun s => PySem.W.R.allR (K1.tk 14 (K1.dp 17 (PySem.W.Fast.tw3399658132070893891 qW))) fun d => PySem.W.Fast.tw5930804224584009831 s.abs.heap (DefRec.name d)) = some (true) := by kernel_rfl
theorem e1 (w : World) (os : OsState) : (some (K1.Hs.Sf w os)).map (fun s => (seenQ qW lW (importedModules RR.prog.main.body) xW s.abs).2.2.2.2.2.2.2.1.1) = some ((wideGood qW).1) := by kernel_rfl
theorem k1 (w : World) (os : OsState) : (some (K1.Hs.Sf w os)).map (fun s => PySem.W.R.allR (K1.tk 38 (s.abs.heap.nsKeys mainGlobals)) (K1.keyOk (PySem.W.Fast.tw821141287760084731 qW lW) (PySem.W.R.mapR (fun x => DefRec.name x) (PySem.W.Fast.tw3399658132070893891 qW)) (PySem.W.R.mapR (fun x => Prod.fst x) (PySem.W.Fast.tw7409074990110511671 qW)) (PySem.W.R.mapR (fun x => ClsRec.name x) (PySem.W.Fast.tw13664370479719496447 qW (PySem.W.Fast.tw821141287760084731 qW lW))))) = some (true) := by kernel_rfl
theorem k2 (w : World) (os : OsState) : (some (K1.Hs.Sf w os)).map (fun s => PySem.W.R.allR (K1.dp 38 (s.abs.heap.nsKeys mainGlobals)) (K1.keyOk (PySem.W.Fast.tw821141287760084731 qW lW) (PySem.W.R.mapR (fun x => DefRec.name x) (PySem.W.Fast.tw3399658132070893891 qW)) (PySem.W.R.mapR (fun x => Prod.fst x) (PySem.W.Fast.tw7409074990110511671 qW)) (PySem.W.R.mapR (fun x => ClsRec.name x) (PySem.W.Fast.tw13664370479719496447 qW (PySem.W.Fast.tw821141287760084731 qW lW))))) = some (true) := by kernel_rfl
theorem dc (w : World) (os : OsState) : (some (K1.Hs.Sf w os)).map (fun s => (K1.tk 17 (seenQ qW lW (importedModules RR.prog.main.body) xW s.abs).1.defs, (({ (seenQ qW lW (importedModules RR.prog.main.body) xW s.abs).1 with defs := [] } : PyProof.Rows.Seen), (PySem.W.Fast.tw14722251495701143533 s.abs.heap (importedModules RR.prog.main.body) && Heap.isNs s.abs.heap mainGlobals && Heap.isNs s.abs.heap builtinsNs && PySem.W.Fast.tw10994771534591457954 qW s.abs.heap && xW s.abs && (s.abs.gens.size == 0) && PySem.W.Fast.tw5244371056499926238 s.abs.heap && PySem.W.Fast.tw2578726214315757710 qW s.abs.heap && (!PySem.W.Fast.tw2458874890965802552 qW || PySem.W.Fast.tw9649274521512697073 s.abs.heap))))) = some ((expectedOf qW).defs.take 17, ({ (expectedOf qW) with defs := [] }, true)) := by kernel_rfl
theorem r4 : plainsOf qW (looseW qW lW) = [] := by kernel_rfl
theorem pre (w : World) (os : OsState) : (some (K1.Hs.Sf w os)).map (fun s => (looksF RR.prog (boot_heap w.params) s.abs, (seenQ qW lW (importedModules RR.prog.main.body) xW s.abs))) = some (true, openGood qW lW) := K1.gate9 (pL (ax w os)) (x2 w os) (K1.gd (pL (dc w os)) (d2 w os) (d3 w os)) (pR (dc w os)) (K1.gk (k1 w os) (k2 w os)) (K1.ga (pR (ax w os)) (a5 w os) (a6 w os)) r4 (e1 w os) (e2 w os)
end K1.Hd
section
open PySem PySem.W PySem.Calls PyProof.Rows HeadRun
local macro_rules
  | `(tactic| kernel_rfl) => `(tactic| (with_reducible refine K1.gate3 K1.Hs.ran K1.Hd.pre ?_ ?_ ?_ ?_) <;> kernel_rfl)
local macro_rules
  | `(tactic| kernel_rfl) => `(tactic| (with_reducible refine (fun (_ : K1.HeadTag _) => Eq.symm (?_ : List.map (fun x => x.1) (_ : List (Nat × Obj)) = _)) (by assumption)) <;> kernel_rfl)

noncomputable def K1.hdT : PSigma fun T : Prop => K1.HeadTag T → PySem.Challenge.rw_onemember_k06_whole_expressions_of_sets.Holds := by
  apply PSigma.mk
  case snd =>
    intro h
    w_on; o_law; k_headL
    (case hw => w_witness2)
    apply K1.swap
    case e' => intro P; apply Eq.symm; kernel_rfl
    exact h.out
end
set_option maxHeartbeats 4000000
namespace K1
open PySem PySem.Spec
open PyProof.Rows L2
/-! ### the text by places -/
def top (i : Nat) : Stmt := PySem.Challenge.pw_onemember_k06_whole_expressions_of_sets.main.body.getD i (.Pass ⟨0, 0, 0, 0⟩)
abbrev s__wall : Stmt := top 0
abbrev sErrMem : Stmt := inClass (top 5) 0
abbrev sErrChg : Stmt := inClass (top 6) 0
abbrev s_NotAnExpression___init__ : Stmt := inClass (top 7) 0
abbrev s_InvalidForm___init__ : Stmt := inClass (top 8) 0
abbrev sErrText : Stmt := inClass (top 9) 0
abbrev s_UnknownField___init__ : Stmt := inClass (top 10) 0
abbrev sErrNames : Stmt := inClass (top 11) 0
abbrev s_InvalidSets___init__ : Stmt := inClass (top 12) 0
abbrev s_TooManyLeaves___init__ : Stmt := inClass (top 14) 0
abbrev s_TooManyLevels___init__ : Stmt := inClass (top 15) 0
abbrev sIsName : Stmt := top 20
abbrev sWrong : Stmt := top 21
abbrev sWrong2 : Stmt := top 22
abbrev s_is_field : Stmt := top 27
abbrev s_form_size : Stmt := top 28
abbrev s_is_triple : Stmt := top 29
abbrev s_check_leaves : Stmt := top 30
abbrev s_check_depth : Stmt := top 31
abbrev s_form_text : Stmt := top 32
abbrev s_side_text : Stmt := top 33
abbrev s_read_counted : Stmt := top 34
abbrev s_take_word : Stmt := top 35
abbrev s_joined : Stmt := top 36
abbrev s_form_leaves : Stmt := top 37
abbrev s_form_fields : Stmt := top 38
abbrev s_form_meets : Stmt := top 39
abbrev s_form_value : Stmt := top 40
abbrev sInit : Stmt := inClass (top 42) 0
abbrev sFromN : Stmt := inClass (top 42) 1
abbrev sReadM : Stmt := inClass (top 42) 2
abbrev sNamesP : Stmt := inClass (top 42) 3
abbrev sStrM : Stmt := inClass (top 42) 4
abbrev sReprM : Stmt := inClass (top 42) 5
abbrev sLenM : Stmt := inClass (top 42) 6
abbrev sIterM : Stmt := inClass (top 42) 7
abbrev sHasM : Stmt := inClass (top 42) 8
abbrev sEqM : Stmt := inClass (top 42) 9
abbrev sOrM : Stmt := inClass (top 42) 10
abbrev sAndM : Stmt := inClass (top 42) 11
abbrev sSubM : Stmt := inClass (top 42) 12
abbrev sXorM : Stmt := inClass (top 42) 13
abbrev sIorM : Stmt := inClass (top 42) 14
abbrev sIandM : Stmt := inClass (top 42) 15
abbrev sIsubM : Stmt := inClass (top 42) 16
abbrev sIxorM : Stmt := inClass (top 42) 17
abbrev sLeM : Stmt := inClass (top 42) 18
abbrev sLtM : Stmt := inClass (top 42) 19
abbrev sGeM : Stmt := inClass (top 42) 20
abbrev sGtM : Stmt := inClass (top 42) 21
abbrev sAddM : Stmt := inClass (top 42) 22
abbrev sInitC : Stmt := inClass (top 43) 0
abbrev sBetC : Stmt := inClass (top 43) 1
abbrev sCameP : Stmt := inClass (top 43) 2
abbrev sWentP : Stmt := inClass (top 43) 3
abbrev sReprC : Stmt := inClass (top 43) 4
abbrev sBoolC : Stmt := inClass (top 43) 5
abbrev sAbsC : Stmt := inClass (top 43) 6
abbrev sEqC : Stmt := inClass (top 43) 7
abbrev sNegC : Stmt := inClass (top 43) 8
abbrev sAddC : Stmt := inClass (top 43) 9
abbrev sChkM : Stmt := top 44
abbrev sChkC : Stmt := top 45
abbrev s_Expression___init__ : Stmt := inClass (top 47) 0
abbrev s_Expression_read : Stmt := inClass (top 47) 1
abbrev s_Expression_form : Stmt := inClass (top 47) 2
abbrev s_Expression_leaves : Stmt := inClass (top 47) 3
abbrev s_Expression_depth : Stmt := inClass (top 47) 4
abbrev s_Expression_fields : Stmt := inClass (top 47) 5
abbrev s_Expression_has_given : Stmt := inClass (top 47) 6
abbrev s_Expression___str__ : Stmt := inClass (top 47) 7
abbrev s_Expression___repr__ : Stmt := inClass (top 47) 8
abbrev s_Expression___eq__ : Stmt := inClass (top 47) 9
abbrev s_Expression___or__ : Stmt := inClass (top 47) 10
abbrev s_Expression___and__ : Stmt := inClass (top 47) 11
abbrev s_Expression___sub__ : Stmt := inClass (top 47) 12
abbrev s_Expression___xor__ : Stmt := inClass (top 47) 13
abbrev s_Expression_within : Stmt := inClass (top 47) 14
abbrev s_Expression_of : Stmt := inClass (top 47) 15
abbrev s_Expression_meets : Stmt := inClass (top 47) 16
abbrev s_check_expression : Stmt := top 48
abbrev s_with_sign : Stmt := top 49
abbrev s_all_sets : Stmt := top 50
abbrev s_field_sets : Stmt := top 51
abbrev s_is_field_set : Stmt := top 52
abbrev sCell : Stmt := top 54
abbrev sPool : Stmt := top 55
abbrev sDraw : Stmt := top 56
abbrev sNames : Stmt := top 57
abbrev s_L_form : Stmt := top 58
abbrev s_L_in : Stmt := top 59
abbrev sCaught : Stmt := top 60
abbrev s_L_sets : Stmt := top 61
abbrev s_L_pairs : Stmt := top 62
abbrev s_L_wanted : Stmt := top 63
abbrev s_L_bent : Stmt := top 64
abbrev s_L_odd_right : Stmt := top 65
abbrev sRight : Stmt := top 66
abbrev sLaw : Stmt := top 67
abbrev sIsField : Stmt := top 27
abbrev sSize : Stmt := top 28
abbrev sTriple : Stmt := top 29
abbrev sChkL : Stmt := top 30
abbrev sChkD : Stmt := top 31
abbrev sLeavesF : Stmt := top 37
abbrev sFieldsF : Stmt := top 38
abbrev sInitE : Stmt := inClass (top 47) 0
abbrev sFormP : Stmt := inClass (top 47) 2
abbrev sFieldsP : Stmt := inClass (top 47) 5
abbrev sOrE : Stmt := inClass (top 47) 10
abbrev sAndE : Stmt := inClass (top 47) 11
abbrev sSubE : Stmt := inClass (top 47) 12
abbrev sXorE : Stmt := inClass (top 47) 13
abbrev sChkE : Stmt := top 48
abbrev sSign : Stmt := top 49
abbrev sForm : Stmt := top 58
end K1
namespace K1
open PySem PySem.Spec
open PyProof.Rows L2
/-! ### which names are the built-ins' -/
structure Free (mg : Str → Option Value) : Prop where
  len : mg "len" = none
  int : mg "int" = none
  abs : mg "abs" = none
  range : mg "range" = none
  list : mg "list" = none
  str : mg "str" = none
  set : mg "set" = none
  sorted : mg "sorted" = none
  tuple : mg "tuple" = none
  isinstance : mg "isinstance" = none
  enumerate : mg "enumerate" = none
  repr : mg "repr" = none
  bool : mg "bool" = none
  any : mg "any" = none
  all : mg "all" = none
  max : mg "max" = none
  min : mg "min" = none
/-! ### the pool: a list of three ints -/
def PoolAt (H : Hp) (p : Addr) : Prop := ∃ a b c : Int, H p = some (.lst [.int a, .int b, .int c])
def spCell (K : PySem.W.Frag) : Sp := fun vs H Q _ => ∃ (a : Addr) (ns : List Int) (k : Nat), vs = [.ref a, .int k] ∧ SqL K H a (ns.map V.int) ∧ ∀ z : Int, Q (.int z) H
def spPool : Sp := fun vs H Q _ => ∃ z : Int, vs = [.int z] ∧ ∀ p, H p = none → ∀ a b c : Int, Q (.ref p) (upd H p (.lst [.int a, .int b, .int c]))
/-- all but the pool stays, the pool is a pool -/
structure Ext (p : Addr) (H H' : Hp) : Prop where
  pool : PoolAt H' p
  keep : ∀ b o, b ≠ p → H b = some o → H' b = some o
theorem PoolAt.ne {H : Hp} {p q : Addr} (h : PoolAt H p) (n : H q = none) : q ≠ p := fun e => by
  obtain ⟨a, b, c, h⟩ := h
  rw [e, h] at n
  cases n
theorem Ext.refl {p : Addr} {H : Hp} (h : PoolAt H p) : Ext p H H := ⟨h, fun _ _ _ e => e⟩
theorem Ext.trans {p : Addr} {H H1 H2 : Hp} (a : Ext p H H1) (b : Ext p H1 H2) : Ext p H H2 := ⟨b.pool, fun c o n e => b.keep c o n (a.keep c o n e)⟩
theorem Ext.free {p q : Addr} {H H' : Hp} (e : Ext p H H') (n : H' q = none) : H q = none := by
  have n2 := e.pool.ne n
  cases h : H q with
  | none => rfl
  | some o =>
    rw [e.keep q o n2 h] at n
    cases n
theorem Ext.same {p : Addr} {H H1 H2 : Hp} (a : Ext p H H1) (s : Same H1 H2) : Ext p H H2 := ⟨by
  obtain ⟨x, y, z, h⟩ := a.pool
  exact ⟨x, y, z, s _ _ h⟩, fun c o n e => s c o (a.keep c o n e)⟩
theorem same_upd {H : Hp} {p : Addr} {o : HO} (h : H p = none) : Same H (upd H p o) := fun b x e => by
  rw [upd_ne (ne_of_none e h)]
  exact e
theorem Ext.of {p : Addr} {H : Hp} (a b c : Int) : Ext p H (upd H p (.lst [.int a, .int b, .int c])) := ⟨⟨a, b, c, upd_same⟩, fun d o n e => by
  rw [upd_ne n]
  exact e⟩
theorem Ext.at {p q : Addr} {H H' : Hp} {o : HO} (e : Ext p H H') (n : q ≠ p) (h : H q = some o) : H' q = some o := e.keep q o n h
def spDraw : Sp := fun vs H Q _ => ∃ (p : Addr) (m : Int), vs = [.ref p, .int m] ∧ PoolAt H p ∧ 0 < m ∧ m < 1000 ∧ ∀ (d : Int) (H' : Hp), Ext p H H' → 0 ≤ d → d < m → Q (.int d) H'
section
variable {w : World} {P : Program}
variable {base : Heap} {mg : Str → Option Value} {K : PySem.W.Frag}
theorem scCell : FnScope ["_law_cells", "_law_k", "_law_mixed", "_law_cell_here"] ["_law_cells", "_law_k"] (defScope sCell) := ⟨rfl, rfl, rfl, by decide +kernel, rfl, by decide +kernel, by decide +kernel⟩
theorem ok_cell {f : Addr} {fd : FuncData} (F : Fun K "_law_cell" "_law_cell" sCell f fd) (T : Free mg) : FnOk P w K mg base CX0 1 f fd ["_law_cells", "_law_k"] (spCell K) := by
  refine F.ok scCell (fun vs H Q E h => ?_) (fun cdv A outer s H vs Q E hr h => ?_)
  · obtain ⟨a, ns, k, rfl, _⟩ := h
    rfl
  · obtain ⟨a, ns, k, rfl, hS, q⟩ := h
    refine ⟨_, pss_cons (ps_if (pt_cmpR op_lt (pv 1) (pe_callB call_len_seq (by rfl) T.len PySem.boot_len (pa_cons (pv 0) pa_nil)) (nomark _)) (pss_one (ps_ret (pe_ix ix_list (pv 0) (pv 1) (fun _ _ => rfl)))) pss_nil)
      (pss_cons (ps_set (i := 2) scCell.nd rfl (.inl rfl) (pe_op op_add pe_int (pe_op op_mul pe_int (pv 1))))
      (pss_cons (ps_for PassesOwn.never rfl (pi_list (pv 0)) (pg_name (i := 3) scCell.nd rfl (.inl rfl))
        (pss_one (ps_set (i := 2) scCell.nd rfl (.inl rfl) (pe_op op_mod (pe_callTy call_int1 (by rfl) T.int (by decide +kernel) (pa_cons (pe_op op_add (pe_op op_mul (pv 2) pe_int) (pe_callB call_abs (by rfl) T.abs (by decide +kernel) (pa_cons (pv 3) pa_nil))) pa_nil)) pe_int))))
      (pss_one (ps_ret (pe_op op_add (pe_op op_mul (pv 2) pe_int) (pv 1)))))), ?_⟩
    refine ⟨_, rfl, _, rfl, a, _, rfl, .inl hS, _, _, rfl, rfl, _, rfl, ?_⟩
    by_cases hk : (k : Int) < ((ns.map V.int).length : Nat)
    · rw [decide_eq_true hk]
      refine iteT ⟨_, rfl, _, rfl, a, _, _, V.int (ns.getD k 0), rfl, rfl, hS, ?_, q _⟩
      have hk2 : k < ns.length := by
        rw [List.length_map] at hk
        omega
      exact atI_nat (by rw [List.getElem?_map, List.getElem?_eq_getElem hk2, List.getD_eq_getElem?_getD, List.getElem?_eq_getElem hk2]; rfl)
    · rw [decide_eq_false hk]
      refine iteF ?_
      refine ⟨_, rfl, _, _, rfl, rfl, .inl (by decide), _, _, rfl, rfl, ?_⟩
      refine ⟨_, rfl, a, rfl, ⟨_, hS⟩, ?_⟩
      refine for_list (xs := ns.map V.int) (K := K) (a := a) (fun i σ H' => H' = H ∧ ∃ (z : Int) (o : Option V), σ = [some (.ref a), some (.int k), some (.int z), o]) ?_ ?_ ?_ ?_
      · exact ⟨rfl, _, none, rfl⟩
      · rintro i σ H' hi ⟨rfl, _⟩
        exact hS
      · rintro i x σ H' hx ⟨rfl, z, o, rfl⟩
        rw [List.getElem?_map] at hx
        obtain ⟨n, _, rfl⟩ := Option.map_eq_some_iff.mp hx
        refine ⟨_, rfl, _, _, rfl, rfl, .inr (by decide), ?_⟩
        refine ⟨_, rfl, n, rfl, _, _, rfl, rfl, ?_⟩
        refine .inl ⟨_, rfl, _, _, rfl, rfl, (by show (0 : Int) < 2147483629; decide), ?_⟩
        exact ⟨rfl, _, _, rfl⟩
      · rintro σ H' ⟨rfl, z, o, rfl⟩
        refine ⟨_, rfl, _, _, rfl, rfl, .inr (by decide), _, rfl, _, _, rfl, rfl, q _⟩
theorem scPool : FnScope ["_law_cell_here"] ["_law_cell_here"] (defScope sPool) := ⟨rfl, rfl, rfl, by decide +kernel, rfl, by decide +kernel, by decide +kernel⟩
theorem ok_pool {f : Addr} {fd : FuncData} (F : Fun K "_law_pool" "_law_pool" sPool f fd) (T : Free mg) : FnOk P w K mg base CX0 1 f fd ["_law_cell_here"] spPool := by
  refine F.ok scPool (fun vs H Q E h => ?_) (fun cdv A outer s H vs Q E hr h => ?_)
  · obtain ⟨z, rfl, _⟩ := h
    rfl
  · obtain ⟨z, rfl, q⟩ := h
    refine ⟨_, pss_one (ps_ret (pe_lst (pa_cons (pe_op op_mod (pe_callTy call_int1 (by rfl) T.int (by decide +kernel) (pa_cons (pv 0) pa_nil)) pe_int)
      (pa_cons (pe_ifExp (PW.pt (pw_or (pt_cmpR op_lt (pv 0) pe_int (nomark _)) (pw_or1 (pt_cmpR op_ge (pv 0) (pe_op op_pow pe_int pe_int) (nomark _))))) (pe_callB call_abs (by rfl) T.abs (by decide +kernel) (pa_cons (pv 0) pa_nil)) pe_int)
      (pa_cons pe_int pa_nil))))), ?_⟩
    refine ⟨_, rfl, .inl ⟨_, rfl, _, _, rfl, rfl, (by show (0 : Int) < 2147483629; decide), ?_⟩⟩
    have fin : ∀ b : Int, ([V.int (z % 2147483629), V.int b, V.int 0] : List V).length ≤ sizeLine ∧ ∀ p, H p = none → Q (.ref p) (upd H p (.lst [V.int (z % 2147483629), V.int b, V.int 0])) := fun b => ⟨by show 3 ≤ sizeLine; decide, fun p hp => q p hp _ _ _⟩
    refine ⟨_, rfl, _, _, rfl, rfl, _, rfl, ?_⟩
    refine ite2 (fun _ => ?_) (fun _ => ?_)
    · refine iteT ⟨_, rfl, _, rfl, fin _⟩
    · refine ⟨_, rfl, _, _, rfl, rfl, ⟨by decide, by decide, by decide⟩, _, _, rfl, rfl, _, rfl, ?_⟩
      refine ite2 (fun _ => ?_) (fun _ => ?_)
      · exact ⟨_, rfl, _, rfl, fin _⟩
      · exact fin 0
theorem scDraw : FnScope ["_law_pool_here", "_law_many", "_law_mixed", "_law_digit"] ["_law_pool_here", "_law_many"] (defScope sDraw) := ⟨rfl, rfl, rfl, by decide +kernel, rfl, by decide +kernel, by decide +kernel⟩
theorem at3 {a b c : V} {j : Nat} {v : V} (h : [a, b, c][j]? = some v) : atI [a, b, c] (j : Int) = some v := atI_nat h
theorem ok_draw {f : Addr} {fd : FuncData} (F : Fun K "_law_draw" "_law_draw" sDraw f fd) (T : Free mg) : FnOk P w K mg base CX0 1 f fd ["_law_pool_here", "_law_many"] spDraw := by
  refine F.ok scDraw (fun vs H Q E h => ?_) (fun cdv A outer s H vs Q E hr h => ?_)
  · obtain ⟨p, m, rfl, _⟩ := h
    rfl
  · obtain ⟨p, m, rfl, ⟨a, b, c, hp⟩, hm, hm2, q⟩ := h
    refine ⟨_, pss_cons (ps_asg (pe_op op_add (pe_ix ix_list (pv 0) pe_int (fun _ _ => rfl)) pe_int) (pg_sub (pv 0) pe_int set_list))
      (pss_cons (ps_set (i := 2) scDraw.nd rfl (.inl rfl) (pe_op op_mod (pe_callTy call_int1 (by rfl) T.int (by decide +kernel) (pa_cons (pe_op op_add (pe_op op_mul (pe_ix ix_list (pv 0) pe_int (fun _ _ => rfl)) pe_int) (pe_op op_mul (pe_ix ix_list (pv 0) pe_int (fun _ _ => rfl)) pe_int)) pa_nil)) pe_int))
      (pss_cons (ps_asg (pe_op op_mod (pe_callTy call_int1 (by rfl) T.int (by decide +kernel) (pa_cons (pe_op op_add (pe_op op_mul (pv 2) (pe_op op_add (pe_op op_fdiv (pv 2) pe_int) pe_int)) pe_int) pa_nil)) pe_int) (pg_sub (pv 0) pe_int set_list))
      (pss_cons (ps_if (pt_cmpR op_gt (pe_ix ix_list (pv 0) pe_int (fun _ _ => rfl)) pe_int (nomark _))
          (pss_cons (ps_set (i := 3) scDraw.nd rfl (.inl rfl) (pe_op op_modN (pe_callTy call_int1 (by rfl) T.int (by decide +kernel) (pa_cons (pe_ix ix_list (pv 0) pe_int (fun _ _ => rfl)) pa_nil)) (pv 1)))
          (pss_cons (ps_asg (pe_op op_fdivN (pe_callTy call_int1 (by rfl) T.int (by decide +kernel) (pa_cons (pe_ix ix_list (pv 0) pe_int (fun _ _ => rfl)) pa_nil)) (pv 1)) (pg_sub (pv 0) pe_int set_list))
          (pss_one (ps_ret (pv 3))))) pss_nil)
      (pss_one (ps_ret (pe_op op_modN (pe_callTy call_int1 (by rfl) T.int (by decide +kernel) (pa_cons (pe_op op_fdiv (pe_ix ix_list (pv 0) pe_int (fun _ _ => rfl)) pe_int) pa_nil)) (pv 1))))))), ?_⟩
    -- pool[2] = pool[2] + 1
    refine ⟨_, rfl, p, _, _, _, rfl, rfl, SqL.of hp, at3 (j := 2) rfl, _, _, rfl, rfl, _, rfl, p, _, _, 2, rfl, rfl, hp, rfl, ?_⟩
    generalize e1 : upd H p _ = H1
    have h1 : H1 p = some (.lst [.int a, .int b, .int (c + 1)]) := by rw [← e1]; exact upd_same
    have x1 : Ext p H H1 := by rw [← e1]; exact Ext.of a b (c + 1)
    clear e1
    -- mixed
    refine ⟨_, rfl, p, _, _, _, rfl, rfl, SqL.of h1, at3 (j := 0) rfl, _, _, rfl, rfl, .inr (by decide), ?_⟩
    refine ⟨_, rfl, p, _, _, _, rfl, rfl, SqL.of h1, at3 (j := 2) rfl, _, _, rfl, rfl, .inr (by decide), ?_⟩
    refine ⟨_, _, rfl, rfl, .inl ⟨_, rfl, _, _, rfl, rfl, (by show (0 : Int) < 2147483629; decide), ?_⟩⟩
    have hx : ∃ x : Int, x = (a * 48271 + (c + 1) * 69997) % 2147483629 ∧ 0 ≤ x ∧ x < 2147483629 := ⟨_, rfl, by omega, by omega⟩
    obtain ⟨x, ex, x0, xl⟩ := hx
    show tSeq _ _ _ (List.set _ _ (some (V.int ((a * 48271 + (c + 1) * 69997) % 2147483629)))) H1
    rw [← ex]
    -- pool[0]
    refine ⟨_, rfl, _, rfl, _, _, rfl, rfl, ⟨by decide, by decide⟩, _, _, rfl, rfl, _, _, rfl, rfl, .inl ⟨by omega, by omega⟩, _, _, rfl, rfl, .inl ⟨_, rfl, _, _, rfl, rfl, (by show (0 : Int) < 2147483629; decide), ?_⟩⟩
    refine ⟨_, rfl, p, _, _, 0, rfl, rfl, h1, rfl, ?_⟩
    generalize e2 : upd H1 p _ = H2
    obtain ⟨a2, h2, x2⟩ : ∃ a2 : Int, H2 p = some (.lst [.int a2, .int b, .int (c + 1)]) ∧ Ext p H H2 := ⟨(x * (x / 7 + 30011) + 12345) % 2147483629, by rw [← e2]; exact upd_same, x1.trans (by rw [← e2]; exact Ext.of _ b (c + 1))⟩
    clear e2
    -- the digits
    refine ⟨_, rfl, p, _, _, _, rfl, rfl, SqL.of h2, at3 (j := 1) rfl, _, _, rfl, rfl, _, rfl, ?_⟩
    have md : ∀ y : Int, 0 ≤ y.fmod m ∧ y.fmod m < m := fun y => ⟨Int.fmod_nonneg_of_pos _ hm, Int.fmod_lt_of_pos _ hm⟩
    refine ite2 (fun _ => ?_) (fun _ => ?_)
    · refine ⟨_, rfl, p, _, _, _, rfl, rfl, SqL.of h2, at3 (j := 1) rfl, .inl ⟨_, rfl, _, rfl, _, _, rfl, rfl, (by omega), ?_⟩⟩
      refine ⟨_, rfl, p, _, _, _, rfl, rfl, SqL.of h2, at3 (j := 1) rfl, .inl ⟨_, rfl, _, rfl, _, _, rfl, rfl, ⟨by omega, by omega⟩, ?_⟩⟩
      refine ⟨_, rfl, p, _, _, 1, rfl, rfl, h2, rfl, _, rfl, ?_⟩
      exact q _ _ (x2.trans (Ext.of a2 _ (c + 1))) (md _).1 (md _).2
    · refine ⟨_, rfl, p, _, _, _, rfl, rfl, SqL.of h2, at3 (j := 0) rfl, _, _, rfl, rfl, ⟨by decide, by decide⟩, .inl ⟨_, rfl, _, rfl, _, _, rfl, rfl, (by omega), ?_⟩⟩
      exact q _ _ x2 (md _).1 (md _).2
end
end K1
namespace K1
open PySem PySem.Spec PyProof.Rows L2 TL
/-! ### tags: texts of one to three lower-case letters -/
def Low (z : Str) : Prop := ∀ c ∈ tl z, 97 ≤ c ∧ c ≤ 122
structure Tag (z : Str) : Prop where
  lo : 1 ≤ (tl z).length
  hi : (tl z).length ≤ 3
  low : Low z
/-- a sign's text -/
abbrev sg (c : Nat) : Str := ⟨#[c]⟩
theorem len_tl (z : Str) : z.length = (tl z).length := by simp [Str.length]
theorem joinL_sg : ∀ cs : List Nat, joinL [] (cs.map fun c => [c]) = cs
  | [] => rfl
  | [c] => rfl
  | c :: d :: r => by
    show [c] ++ ([] ++ joinL [] ((d :: r).map fun c => [c])) = c :: d :: r
    rw [joinL_sg (d :: r)]
    rfl
theorem join_sg (cs : List Nat) : tl (Txt.join (Str.ofString "") (cs.map sg)) = cs := by
  rw [join_eq, tl_join, List.map_map]
  have e : tl (Str.ofString "") = [] := by decide +kernel
  rw [e]
  exact joinL_sg cs
abbrev letters : Str := Str.ofString "abcdefghijklmnopqrstuvwxyz"
theorem letters_len : letters.length = 26 := by decide +kernel
theorem letters_cps : letters.cps = (((List.range 26).map fun i => 97 + i).toArray) := by decide +kernel
theorem letters_at {i : Nat} (h : i < 26) : letters.cps[i]? = some (97 + i) := by
  rw [letters_cps]
  simp [h]
theorem sum_sg : ∀ cs : List Nat, ((cs.map sg).map (·.length)).sum = cs.length
  | [] => rfl
  | c :: r => by
    have ih := sum_sg r
    rw [List.map_cons, List.map_cons, List.sum_cons, ih, List.length_cons]
    show 1 + r.length
        = r.length + 1
    omega
theorem nodup_at {zs : List Str} {t : Nat} {b : Int} (hl : zs.length ≤ 26) (h : ∀ (k : Nat) (z : Str), zs[k]? = some z → (tl z)[t]? = some (97 + ((b + (0 + (k : Int))) % 26).toNat)) : zs.Nodup := by
  refine List.pairwise_iff_getElem.mpr fun i j hi hj hij e => ?_
  have a := h i _ (List.getElem?_eq_getElem hi)
  have b := h j _ (List.getElem?_eq_getElem hj)
  rw [e] at a
  have c := Option.some.inj (a.symm.trans b)
  omega
def spNames : Sp := fun vs H Q _ => ∃ (p : Addr) (m : Nat), vs = [.ref p, .int m] ∧ PoolAt H p ∧ m ≤ 26 ∧ ∀ (q : Addr) (zs : List Str) (H' : Hp), Ext p H H' → H q = none → H' q = some (.lst (zs.map V.str)) → zs.length = m → (∀ z ∈ zs, Tag z) → zs.Nodup → Q (.ref q) H'
section
variable {w : World} {P : Program}
variable {base : Heap} {mg : Str → Option Value} {K : PySem.W.Frag}
abbrev nmNames : List Str := ["_law_pool_here", "_law_many", "_law_letters", "_law_found", "_law_k", "_law_stem", "_law_at", "_law_base", "_law_own"]
theorem scNames : FnScope nmNames ["_law_pool_here", "_law_many"] (defScope sNames) := ⟨rfl, rfl, rfl, by decide +kernel, rfl, by decide +kernel, by decide +kernel⟩
theorem ok_names {f fD : Addr} {fd fdD : FuncData} (F : Fun K "_law_names" "_law_names" sNames f fd) (T : Free mg) (FD : Fun K "_law_draw" "_law_draw" sDraw fD fdD) (mgD : mg "_law_draw" = some (.ref fD)) :
    FnOk P w K mg base CX0 2 f fd ["_law_pool_here", "_law_many"] spNames := by
  have GD : FnOk P w K mg base CX0 1 fD fdD ["_law_pool_here", "_law_many"] spDraw := ok_draw FD T
  have bD : Binds K fdD ["_law_pool_here", "_law_many"] [] := FD.binds (ps := ["_law_pool_here", "_law_many"]) fun _ _ _ _ _ _ us hl => match us, hl with | [_, _], _ => rfl
  refine F.ok scNames (fun vs H Q E h => ?_) (fun cdv A outer s H vs Q E hr h => ?_)
  · obtain ⟨p, m, rfl, _⟩ := h
    rfl
  · obtain ⟨p, m, rfl, hp, hm, q⟩ := h
    refine ⟨_, pss_cons (ps_asg (pe_tup (pa_cons pe_str (pa_cons (pe_lst pa_nil) pa_nil))) (pg_tup rfl (pgs_cons (pg_name (i := 2) scNames.nd rfl (.inr rfl)) (pgs_cons (pg_name (i := 3) scNames.nd rfl (.inl rfl)) pgs_nil))))
      (pss_cons (ps_setLc (i := 5) (own := [("_law_k", 4)]) (g := gName 4) rfl scNames.nd rfl rfl (sw_true rfl rfl rfl (by decide +kernel))
          (pi_range1 rfl T.range (pa_cons (pe_op op_add pe_int (pe_call GD hr rfl mgD FD.kp bD .nil pass0 (pa_cons (pv 0) (pa_cons pe_int pa_nil)))) pa_nil))
          (blkOk_by (own := [("_law_k", 4)]) (N := nmNames) (sc := defScope sNames) (by decide +kernel)) (fun _ _ _ _ _ => pg_name (i := 4) scNames.nd rfl (Or.inl rfl)) (fun _ _ _ _ _ => pts_nil)
          (fun _ _ _ _ _ => pe_item_str (pv 2) (pe_call GD hr rfl mgD FD.kp bD .nil pass0 (pa_cons (pv 0) (pa_cons pe_int pa_nil))) (fun _ _ => rfl)))
      (pss_cons (ps_par (i := 6) (j := 7) rfl scNames.nd rfl rfl (by decide) rfl rfl (pa_cons (pe_call GD hr rfl mgD FD.kp bD .nil pass0 (pa_cons (pv 0) (pa_cons (pe_callB call_len_seq (by rfl) T.len PySem.boot_len (pa_cons (pv 5) pa_nil)) pa_nil))) (pa_cons (pe_call GD hr rfl mgD FD.kp bD .nil pass0 (pa_cons (pv 0) (pa_cons pe_int pa_nil))) pa_nil)) (by rfl))
      (pss_cons (ps_for PassesOwn.never rfl (pi_range1 rfl T.range (pa_cons (pv 1) pa_nil)) (pg_name (i := 4) scNames.nd rfl (.inl rfl))
          (pss_cons (ps_set (i := 8) scNames.nd rfl (.inl rfl) (pe_callTy call_list_of (by rfl) T.list (by decide +kernel) (pa_cons (pv 5) pa_nil)))
          (pss_cons (ps_asg (pe_item_str (pv 2) (pe_op op_mod (pe_callTy call_int1 (by rfl) T.int (by decide +kernel) (pa_cons (pe_op op_add (pv 7) (pv 4)) pa_nil)) pe_int) (fun _ _ => rfl)) (pg_sub (pv 8) (pv 6) set_list))
          (pss_one (ps_expr (pe_bm PySem.F.plainAttrs_list PySem.F.slot_list_append PySem.F.type_list_append mt_append (pv 3) (pa_cons (pe_join pe_str (pv 8)) pa_nil)))))))
      (pss_one (ps_ret (pv 3)))))), ?_⟩
    -- letters, found
    refine ⟨(by show 0 ≤ sizeLine; decide), fun F nF => ⟨(by show 2 ≤ sizeLine; decide), fun t nt => ?_⟩⟩
    refine ⟨t, _, rfl, SqT.of upd_same, rfl, ?_⟩
    have nFp : F ≠ p := hp.ne nF
    have ntF : t ≠ F := fun e => by
      rw [e, upd_same] at nt
      cases nt
    have s1 : Same H (upd H F (.lst [])) := same_upd nF
    have s2 : Same (upd H F (.lst [])) (upd (upd H F (.lst [])) t (.tup [.str letters, .ref F])) := same_upd nt
    have hF : (upd (upd H F (.lst [])) t (.tup [.str letters, .ref F])) F = some (.lst []) := by rw [upd_ne (Ne.symm ntF), upd_same]
    have x1 : Ext p H (upd (upd H F (.lst [])) t (.tup [.str letters, .ref F])) := ((Ext.refl hp).same s1).same s2
    generalize (upd (upd H F (.lst [])) t (.tup [.str letters, .ref F])) = H1 at hF x1 ⊢
    -- stem
    refine ⟨_, _, rfl, _, _, rfl, rfl, ?_⟩
    refine ⟨_, rfl, p, 3, rfl, x1.pool, by decide, by decide, fun d H2 x2 d0 d1 => ?_⟩
    refine ⟨_, _, rfl, rfl, _, rfl, by omega, by omega, fun S nS => ?_⟩
    have hF2 : H2 F = some (.lst []) := x2.at nFp hF
    have nSF : S ≠ F := fun e => by
      rw [e, hF2] at nS
      cases nS
    have nSp : S ≠ p := x2.pool.ne nS
    have xx : Ext p H H2 := x1.trans x2
    refine lc_range (lo := 0) (n := (1 + d).toNat) (fun i H' => Ext p H2 H' ∧ ∃ cs : List Nat, H' S = some (.lst ((cs.map sg).map V.str)) ∧ cs.length = i ∧ ∀ c ∈ cs, 97 ≤ c ∧ c ≤ 122) ?_ ?_ ?_
    · exact ⟨(Ext.refl x2.pool).same (same_upd nS), [], upd_same, rfl, fun c z => by cases z⟩
    · rintro i H' hi ⟨xe, cs, hS, hl, hc⟩
      refine ⟨rfl, ?_⟩
      refine ⟨_, rfl, _, rfl, p, 26, rfl, xe.pool, by decide, by decide, fun e H3 x3 e0 e1 => ?_⟩
      refine ⟨letters, e, 97 + e.toNat, rfl, rfl, e0, by omega, ?_, letters_at (by omega), (cs.map sg).map V.str, x3.at nSp hS, ?_, ?_⟩
      · rw [letters_len]
        exact e1
      · rw [List.length_map, List.length_map, hl]
        exact small1000 (by omega)
      · have hS3 : (H3 S) = some (.lst ((cs.map sg).map V.str)) := x3.at nSp hS
        refine ⟨⟨?_, fun b o n z => ?_⟩, cs ++ [97 + e.toNat], ?_, ?_, ?_⟩
        · obtain ⟨a, b, c, z⟩ := x3.pool
          exact ⟨a, b, c, by rw [upd_ne (Ne.symm nSp)]; exact z⟩
        · have nb : b ≠ S := ne_of_none z nS
          rw [upd_ne nb]
          exact x3.keep b o n (xe.keep b o n z)
        · rw [upd_same, List.map_append, List.map_append]
          rfl
        · rw [List.length_append, hl]
          rfl
        · intro c hc2
          rcases List.mem_append.mp hc2 with z | z
          · exact hc c z
          · have z2 : c = 97 + e.toNat := List.mem_singleton.mp z
            omega
    · rintro H3 ⟨xe, cs, hS, hl, hc⟩
      have hF3 : H3 F = some (.lst []) := xe.at nFp hF2
      -- at, base
      have hS2 : SqL K H3 S ((cs.map sg).map V.str) := SqL.of hS
      have hlS : (((cs.map sg).map V.str).length : Nat) = (1 + d).toNat := by rw [List.length_map, List.length_map, hl]
      refine ⟨_, rfl, _, rfl, S, _, rfl, .inl hS2, p, _, rfl, xe.pool, by omega, by omega, fun t1 H4 x4 t0 t2 => ?_⟩
      refine ⟨_, rfl, p, 26, rfl, x4.pool, by decide, by decide, fun b1 H5 x5 b0 b2 => ?_⟩
      refine ⟨_, _, rfl, ?_⟩
      have x45 : Ext p H3 H5 := x4.trans x5
      have xa : Ext p H H5 := xx.trans (xe.trans x45)
      -- the loop
      refine ⟨_, rfl, m, rfl, by omega, by omega, ?_⟩
      refine for_range (lo := 0) (n := ((m : Nat) : Int).toNat) (fun i σ H' => Ext p H H' ∧ H' S = some (.lst ((cs.map sg).map V.str)) ∧ (∃ zs : List Str, H' F = some (.lst (zs.map V.str)) ∧ zs.length = i ∧ (∀ z ∈ zs, Tag z) ∧ ∀ (k : Nat) (z : Str), zs[k]? = some z → (tl z)[t1.toNat]? = some (97 + ((b1 + (0 + (k : Int))) % 26).toNat)) ∧
        ∃ o1 o2 : Option V, σ = [some (.ref p), some (.int m), some (.str letters), some (.ref F), o1, some (.ref S), some (.int t1), some (.int b1), o2]) ?_ ?_ ?_
      · exact ⟨xa, x45.at nSp hS, ⟨[], x45.at nFp hF3, rfl, fun z hz => (by cases hz), fun k z hk => by cases hk⟩, none, none, rfl⟩
      · rintro i σ H' hi ⟨xf, hS', ⟨zs, hF', hz, ht, hk⟩, o1, o2, rfl⟩
        -- own = list(stem)
        refine ⟨_, rfl, S, _, rfl, .inl (SqL.of hS'), fun W nW => ?_⟩
        have nWp : W ≠ p := xf.pool.ne nW
        have nWF : W ≠ F := fun e => by
          rw [e, hF'] at nW
          cases nW
        refine ⟨_, rfl, _, rfl, _, rfl, _, _, rfl, rfl, .inl ⟨_, rfl, _, _, rfl, rfl, (by show (0 : Int) < 26; decide), ?_⟩⟩
        have r0 : 0 ≤ (b1 + (0 + (i : Int))) % 26 := by omega
        have r1 : (b1 + (0 + (i : Int))) % 26 < 26 := by omega
        refine ⟨letters, _, 97 + ((b1 + (0 + (i : Int))) % 26).toNat, rfl, rfl, r0, by omega, ?_, letters_at (by omega), ?_⟩
        · rw [letters_len]
          exact r1
        have ht1 : t1.toNat < cs.length := by
          rw [hl]
          omega
        refine ⟨_, rfl, _, rfl, W, _, _, t1.toNat, rfl, rfl, upd_same, ?_, ?_⟩
        · rw [List.length_map, List.length_map]
          unfold ixN
          rw [if_pos t0, if_pos (by omega)]
        have eset : ((cs.map sg).map V.str).set t1.toNat (V.str (sg (97 + ((b1 + (0 + (i : Int))) % 26).toNat))) = ((cs.set t1.toNat (97 + ((b1 + (0 + (i : Int))) % 26).toNat)).map sg).map V.str := by
          rw [List.map_set, List.map_set]
        have hcs : ∀ c ∈ cs.set t1.toNat (97 + ((b1 + (0 + (i : Int))) % 26).toNat), 97 ≤ c ∧ c ≤ 122 := fun c z => by
          rcases List.mem_or_eq_of_mem_set z with z | z
          · exact hc c z
          · omega
        have hln : (cs.set t1.toNat (97 + ((b1 + (0 + (i : Int))) % 26).toNat)).length = cs.length := List.length_set
        have hat : (cs.set t1.toNat (97 + ((b1 + (0 + (i : Int))) % 26).toNat))[t1.toNat]? = some (97 + ((b1 + (0 + (i : Int))) % 26).toNat) := List.getElem?_set_self ht1
        generalize cs.set t1.toNat (97 + ((b1 + (0 + (i : Int))) % 26).toNat) = cs2 at eset hcs hln hat
        generalize eW : upd (upd H' W _) W _ = H6
        have hW : H6 W = some (.lst ((cs2.map sg).map V.str)) := by
          rw [← eW, ← eset]
          exact upd_same
        have sm : Same H' H6 := fun b o z => by
          have nb : b ≠ W := ne_of_none z nW
          rw [← eW, upd_ne nb, upd_ne nb]
          exact z
        clear eW
        refine ⟨_, rfl, .inl ⟨rfl, _, SqL.of (sm _ _ hF')⟩, ⟨_, rfl⟩, _, rfl, _, W, cs2.map sg, rfl, rfl, .inl (SqL.of hW), ?_, ?_⟩
        · have e0 := sum_sg cs2
          have e2 : (Str.ofString "").length = 0 := by decide +kernel
          rw [e0, e2]
          omega
        refine ⟨F, _, _, rfl, rfl, sm _ _ hF', ?_, ?_⟩
        · rw [List.length_map, hz]
          exact small1000 (by omega)
        refine ⟨⟨?_, fun b o n z => ?_⟩, ?_, ⟨zs ++ [Txt.join (Str.ofString "") (cs2.map sg)], ?_, ?_, ?_, ?_⟩, _, _, rfl⟩
        · obtain ⟨a, b, c, z⟩ := xf.pool
          exact ⟨a, b, c, by rw [upd_ne (Ne.symm nFp)]; exact sm _ _ z⟩
        · rw [upd_ne (ne_of_none z nF)]
          exact sm _ _ (xf.keep b o n z)
        · rw [upd_ne nSF]
          exact sm _ _ hS'
        · rw [upd_same, List.map_append]
          rfl
        · rw [List.length_append, hz]
          rfl
        · intro z hz2
          rcases List.mem_append.mp hz2 with y | y
          · exact ht z y
          · have y2 : z = Txt.join (Str.ofString "") (cs2.map sg) := List.mem_singleton.mp y
            subst y2
            have ej := join_sg cs2
            refine ⟨?_, ?_, fun c hc2 => ?_⟩
            · rw [ej]
              omega
            · rw [ej]
              omega
            · rw [ej] at hc2
              exact hcs c hc2
        · intro k z hz2
          by_cases hlt : k < zs.length
          · rw [List.getElem?_append_left hlt] at hz2
            exact hk k z hz2
          · rw [List.getElem?_append_right (by omega)] at hz2
            have e3 : k - zs.length = 0 := by
              have := (List.getElem?_eq_some_iff.mp hz2).1
              simp at this
              omega
            rw [e3] at hz2
            cases hz2
            have e4 : k = i := by omega
            subst e4
            rw [join_sg cs2]
            exact hat
      · rintro σ H' ⟨xf, hS', ⟨zs, hF', hz, ht, hk⟩, o1, o2, rfl⟩
        exact ⟨_, rfl, q F zs H' xf nF hF' (by omega) ht (nodup_at (by omega) hk)⟩
end
end K1
/-! enumerate over a tuple -/
namespace EnT
open PySem PySem.Spec
open PyProof.Rows L2
open Builtin
set_option maxHeartbeats
    4000000 in
theorem meets_enumerate_newB1 {v : Value} {o : Obj} {H : Heap → Prop} (B : Begins v o H) :
    Meets (Builtin.«enumerate.__new__» ⟨[.type "enumerate", v], []⟩) (fun _ R s => H s.heap ∧
      R (.ok (.ret (.ref (s.heap.push o).objs.size))) { s with heap := (s.heap.push o).push { cls := .type "enumerate", data := .fields #[.none, .bool false, .ref s.heap.objs.size, rawInt 0, .none, .none] } }) :=
  .of_wp fun prog w A R s hyp => by
    obtain ⟨hp, g, d, tk, os⟩ := s; obtain ⟨h1, hyp⟩ := hyp
    have hsub := sub_enumerate
    have q1 : ∀ {A' : Around} {E : Value → Shared → Prop} {Q : Value → Shared → Prop}, Q (.ref
        hp.objs.size) ⟨hp.push o, g, d, tk, os⟩ → wpAny (model prog w) A' (pyIter v) Q E ⟨hp, g, d, tk, os⟩ :=
      fun q => B.iter prog w _
          _ ⟨hp, g, d, tk, os⟩ _ h1 q
    wp_walk using q1
    refine wpAny_stack_any fun stA => wpAny_pure ?_
    split
    · rename_i c _ _ _ _ _
      cases (c == Value.type
          "enumerate")
      · wp_walk using q1
        exact ⟨_, rfl, hyp⟩
      · wp_walk using q1
        exact ⟨_, rfl, hyp⟩
    · wp_walk using q1
      exact ⟨_, rfl, hyp⟩
section
variable {prog : Program} {w : World} {A
    : Around} {E : Value → Shared → Prop} {s : Shared}
theorem enum_begins1 {v : Value} {o : Obj} {H : Heap → Prop} {Q : Value → Shared → Prop} (B : Begins v o H) (h1 : H s.heap)
    (hyp : ∀ h', IsEnum h' (s.heap.objs.size + 1) s.heap.objs.size 0 .none → h'.get? s.heap.objs.size = some o → h'.objs.size = s.heap.objs.size + 2 →
      (∀ b o, s.heap.get? b = some o → h'.get? b = some
          o) → Q (.ref (s.heap.objs.size + 1)) { s with heap := h' }) :
    wpAny (model prog w) A (call (.type "enumerate") [v]) Q E s := by
  refine callType_new F.called_enumerate (by decide) (F.typeCall_enumerate_1
      _) (F.newCall_enumerate_1 _) (fun obj => F.args_object_init_2 obj _) F.entry_enumerate_new
    (meets_enumerate_newB1 B) ⟨h1, ?_⟩
  have szA : (s.heap.push o).objs.size = s.heap.objs.size + 1 := Heap.size_push ..
  show _ ∧ _
  rw [szA]
  have enA : IsEnum ((s.heap.push o).push { cls := .type "enumerate", data := .fields #[.none, .bool false, .ref s.heap.objs.size, rawInt 0, .none, .none] }) (s.heap.objs.size + 1) s.heap.objs.size 0 .none := by
    have := Heap.get?_push_size (s.heap.push o) (o := { cls := .type "enumerate", data := .fields #[.none, .bool false, .ref s.heap.objs.size, rawInt 0, .none, .none] }) rfl
    rw [szA] at this; exact this
  refine ⟨⟨_, enA, rfl⟩, hyp _ enA (Heap.get?_push_of_some _ (Heap.get?_push_size _ B.free)) (by rw [Heap.size_push, szA]) fun b o x => Heap.get?_push_of_some _ (Heap.get?_push_of_some _ x)⟩
end
/-- the tuple at a, each item in a new pair -/
def Itet (K : PySem.W.Frag) (a : Addr) : It :=
  ⟨fun i H => ∃ (xs : List V) (x : V), SqT K H a xs ∧ xs[i]? = some x, fun i H v H' => ∃ T x, v = .ref T ∧ H T = none ∧ H' = upd H T (.tup [.int (i : Nat), x]) ∧ ∀ xs, SqT K H a xs → xs[i]? = some x, fun i H => ∃ xs : List V, SqT K H a xs ∧ xs.length ≤ i⟩
theorem turn_enumT {P : Program} {w : World} {K : PySem.W.Frag} {elts : List Expr} {kk : Nat} {tpos : Pos} (a e it : Addr) (hai : a ≠ it) (hae : e ≠ a) :
    Turn P w K (.Tuple elts kk tpos) (Itet K a) [e, it] e (fun i hyp => (∃ old, IsEnum hyp e it ((i : Nat) : Int) old) ∧ hyp.IsTupleIter it a i ∧ e ≠ it) where
  mem := by simp
  obj := fun i hyp stA b memB => by
    obtain ⟨⟨old, enA⟩, ⟨o, obA, clA, dtA⟩, _⟩ := stA
    have eqB : b = e ∨ b = it := by simpa using memB
    rcases eqB with zA | zA
    · rw [zA]; exact ⟨_, enA, fun v q => nomatch q⟩
    · rw [zA]; exact ⟨o, obA, fun v q => by rw [dtA] at q; cases q⟩
  keep := fun i hyp h' stA k => let ⟨⟨old, enA⟩, hi, neA⟩ := stA; ⟨⟨old, k e (by simp) _ enA⟩, hi.at fun o q => k it (by simp) o q, neA⟩
  item := by
    intro X hP hw hK clA i pins s σ H E Iv fpA stA hg
    subst hP hw hK
    obtain ⟨⟨old, enA⟩, itA, neA⟩ := stA
    obtain ⟨xs, x, seqA, hx⟩ := hg
    obtain ⟨vsA, relA, p, szA⟩ := Iv.tuple seqA
    obtain ⟨u, getA, rlA⟩ := relA.get hx
    have ltE : e < s.heap.objs.size := Heap.lt_size enA
    have ltI : it < s.heap.objs.size := by obtain ⟨_, q, _⟩ := itA; exact Heap.lt_size q
    have hlt : i < vsA.toArray.size := by
      have := (List.getElem?_eq_some_iff.mp getA).1
      simpa using this
    refine wpAny_pyNext_enum_itemD (Draws.tuple (A := X.A.in1) (prog := X.prog) (w := X.w) (show X.A.in1.handled = none from Iv.ok.hd clA) it a hai vsA.toArray) enA ⟨itA, p⟩ hlt neA (by simp [neA, hae]) fun x' h' tk hx' obA st' tyA hsz kpA => ?_
    have ex : x' = u := by
      have : vsA[i]? = some x' := by simpa using hx'
      rw [getA] at this
      exact (Option.some.inj
          this).symm
    subst ex
    refine ⟨_, rfl, wpAny_letOwnedTupleGo_enum (s := { s with heap := h', toks := tk + 1 }) obA fun h'' he' sameB => ?_⟩
    have hT2 : h''.get? s.heap.objs.size = some { cls := .type "tuple", data := .seq #[.int i tk, x'] } := (sameB.2 _ (Nat.ne_of_gt ltE)).trans tyA
    have new : ObjOk X.prog X.w (upd H s.heap.objs.size (.tup [.int
        (i : Nat), x])) h'' s.heap.objs.size (.tup [.int (i : Nat), x]) :=
      ⟨by show 2 ≤ sizeLine; decide, [.int i tk, x'], .cons ⟨_, rfl⟩ (.cons rlA .nil), ⟨_, hT2, rfl, _, rfl⟩⟩
    have Iv1 : Inv X pins σ (upd H s.heap.objs.size (.tup [.int (i : Nat), x])) { s with heap := h'', toks := tk + 1 } :=
      Iv.turnedNew (ch := [e, it]) (fun b ob memB q => (sameB.2 b (fun zA => memB (by simp [zA]))).trans (kpA b ob (fun zA => memB (by simp [zA])) (fun zA => memB (by simp [zA])) q)) fpA (Nat.le_refl _) new
    refine ⟨.ref s.heap.objs.size, _, Iv1, rfl, ⟨_, x, rfl, Iv.hok.fresh (Nat.le_refl _), rfl, fun ys hy => by rw [Iv.tuple_inj hy seqA]; exact hx⟩, ⟨⟨x', ?_⟩, st'.1.at fun o q => (sameB.2 it (Ne.symm neA)).trans q, neA⟩, fun b memB => ?_⟩
    · have eqA : ((i + 1 : Nat) : Int) = (i : Int) + 1 := by omega
      rw [eqA]; exact he'
    · have ltB : b < s.heap.objs.size := by
        have eqB : b = e ∨ b = it := by simpa using memB
        rcases eqB with zA | zA
        · rw [zA]; exact ltE
        · rw [zA]; exact ltI
      rw [upd_ne (Nat.ne_of_lt ltB)]
      exact (fpA b memB).1
  done := by
    intro X hP hw hK clA i pins s σ H E Iv fpA stA hg
    subst hP hw hK
    obtain ⟨⟨old, enA⟩, itA, neA⟩ := stA
    obtain ⟨xs, seqA, hx⟩ := hg
    obtain ⟨vsA, relA, p, szA⟩ := Iv.tuple seqA
    obtain ⟨f0, f1, f2, f3, f4, f5⟩ := fpA it (by simp)
    have hl := relA.length
    have tyA : s.TypeIs (.ref e) "enumerate" := ⟨_, enA, rfl⟩
    unfold pyNext
    refine wpAny_bind (wpAny_attempt (wpAny_callSpecial?_slot (name := Str.ofString "__next__") tyA F.slot_enumerate_next
      (wpAny_call_entry F.slot_enumerate_next tyA F.entry_enumerate_next ?_ (F.args_enumerate_next_1 _))))
    show wpAny _ _ (field
        (.ref e) 2 >>= _) _ _ _
    refine wpAny_bind (wpAny_field enA rfl (x := .ref it) rfl ?_)
    refine wpAny_bind (wpAny_nextOf_tuple_end (A := X.A.in1) (show X.A.in1.handled = none from Iv.ok.hd clA) itA p (by simp; omega) fun h' x he' hx' => ?_)
    obtain ⟨o, obA, hcl⟩ := hx'
    refine wpAny_bind (wpAny_isInstance (T := "StopIteration") (b := true) ⟨o, obA, hcl⟩ isSubtype_stop ?_)
    exact wpAny_pure ⟨rfl, Iv.turned (t' := s.toks) (fun b o memB q => he' b o memB q) f0 f1 f3 f4 f5⟩
  self := fun A i s Q E stA hyp => let ⟨⟨_, enA⟩, _⟩ := stA; wpAny_pyIter_enum enA hyp
def iEnumT (K : PySem.W.Frag) (ta : TA) : TI := fun σ H R => ta σ H fun vs H1 => ∃ a xs, vs = [.ref a] ∧ SqT K H1 a xs ∧ R (Itet K a) H1
theorem pi_enumT {X : Cx} {e : Expr} {ta : TA} {p pos tpos : Pos} {elts : List Expr} {kk : Nat} (hg : Gl X "enumerate") (hm : X.mg "enumerate" = none) (ha : PA X [e] ta) (hs : starEach [e] X.env = [(false, eval e X.env)] := by rfl) :
    PI X (.Tuple elts kk tpos) (.Call (.Name "enumerate" p) [e] [] pos) (iEnumT X.K ta) := by
  refine ⟨fun pins s σ H R Iv hyp => ?_⟩
  refine Call_ (ld_blt Iv hg hm boot_enumerate (PyProof.Rows.callWith_type1 (thn (ha.run pos pins s σ H _ Iv hyp) fun us s1 ⟨vs, H1, Iv1, r1, q1⟩ => ?_) hs rfl))
  obtain ⟨a, xs, ex, seqA, q⟩ := q1
  subst ex
  cases r1 with
  | cons r rr =>
    cases rr
    cases r
    obtain ⟨vsA, relA, p', szA⟩ := Iv1.tuple seqA
    have hal : a < s1.heap.objs.size := by
      obtain ⟨_, q, _⟩ := p'
      exact Heap.lt_size q
    refine enum_begins1 (begins_tuple a vsA.toArray) p' fun h' enA itA hsz kpA => wpAny_pyIter_enum enA ?_
    have Iv2 : Inv X pins σ H1 { s1 with heap := h' } := Iv1.kept (t' := s1.toks) kpA
    refine ⟨s1.heap.objs.size + 1, [s1.heap.objs.size + 1, s1.heap.objs.size], _, _, H1, rfl, Iv2, turn_enumT a (s1.heap.objs.size + 1) s1.heap.objs.size (Nat.ne_of_lt hal) (Nat.ne_of_gt (Nat.lt_succ_of_lt hal)), ⟨⟨.none, enA⟩, ⟨_, itA, rfl, rfl⟩, Nat.succ_ne_self _⟩, fun b memB => ?_, q⟩
    have eqB : b = s1.heap.objs.size + 1 ∨ b = s1.heap.objs.size := by simpa using memB
    have leB : s1.heap.objs.size ≤ b := by
      rcases eqB with zA | zA
      · rw [zA]; exact Nat.le_add_right _ _
      · rw [zA]; exact Nat.le_refl _
    exact Iv1.fpOk leB (Iv1.hok.fresh leB)
theorem walk_enumT {K : PySem.W.Frag} {a : Addr} {xs : List V} : Walk (Itet K a) xs.length (fun H => SqT K H a xs) (YPair (fun i => some (.int (i : Nat))) (fun i => xs[i]?)) := by
  refine ⟨fun i _ hi q => ⟨xs, xs[i], q, by simp [hi]⟩,
      fun _ q => ⟨xs, q, Nat.le_refl _⟩, fun i H v H' _ q y => ?_⟩
  obtain ⟨T, x, h1,
      h2, h3, h4⟩ := y
  exact ⟨T, .int (i : Nat),
      x, h1, h2, h3, rfl, h4 xs q⟩
end EnT
namespace K1
open PySem PySem.Spec
open PyProof.Rows L2
open TL hiding len_tl
/-! ### what a name is -/
def nameB (z : Str) : Bool := if 8 < z.length then false else if Txt.isascii z = false then false else if Txt.isalnum z = false then false else if Txt.isalpha (sg (z.cps.getD 0 0)) = false then false else decide (z = Txt.lower z)
theorem alnum_all : ((List.range 128).all fun c => !((97 ≤ c && c ≤ 122) || (48 ≤ c && c ≤ 57)) || Unicode.isAlnum c) = true := by decide +kernel
theorem alpha_all : ((List.range 128).all fun c => !(97 ≤ c && c ≤ 122) || Unicode.isAlpha c) = true := by decide +kernel
theorem lo1_all : ((List.range 128).all fun c => !((97 ≤ c && c ≤ 122) || (48 ≤ c && c ≤ 57)) || PyProof.Rows.lo1 c == c) = true := by decide +kernel
theorem small_at {p : Nat → Bool} (h : ((List.range 128).all p) = true) {c : Nat} (hc : c < 128) : p c = true := (List.all_eq_true.mp h) c (List.mem_range.mpr hc)
def NameCh (c : Nat) : Prop := (97 ≤ c ∧ c ≤ 122) ∨ (48 ≤ c ∧ c ≤ 57)
theorem name_of {z : Str} (h1 : 1 ≤ (tl z).length) (h8 : (tl z).length ≤ 8) (ha : ∀ c ∈ tl z, NameCh c) (hf : ∀ c r, tl z = c :: r → 97 ≤ c ∧ c ≤ 122) : nameB z = true := by
  have hl : z.length = (tl z).length := TL.len_tl z
  have h128 : ∀ c ∈ tl z, c < 128 := fun c hc => by
    rcases ha c hc with q | q <;> omega
  have e1 : Txt.isascii z = true := by
    show z.cps.all (· < 128) = true
    rw [← Array.all_toList]
    exact List.all_eq_true.mpr fun c hc => decide_eq_true (h128 c hc)
  have e2 : Txt.isalnum z = true := by
    show (decide (z.length > 0) && z.cps.all Unicode.isAlnum) = true
    rw [decide_eq_true (by omega), ← Array.all_toList, Bool.true_and]
    refine List.all_eq_true.mpr fun c hc => ?_
    have q := small_at alnum_all (h128 c hc)
    rcases ha c hc with y | y
    · simpa [y.1, y.2] using q
    · simpa [y.1, y.2] using q
  obtain ⟨c, r, er⟩ : ∃ c r, tl z = c :: r := by
    cases e : tl z with
    | nil =>
      rw [e] at h1
      cases h1
    | cons c r => exact ⟨c, r, rfl⟩
  have e0 : z.cps.getD 0 0 = c := by
    have q : z.cps.getD 0 0 = (tl z).getD 0 0 := by simp [Array.getD_eq_getD_getElem?]
    rw [q, er]
    rfl
  have e3 : Txt.isalpha (sg c) = true := by
    have hc := hf c r er
    have q := small_at alpha_all (h128 c (by rw [er]; exact List.mem_cons_self))
    have q2 : Unicode.isAlpha c = true := by simpa [hc.1, hc.2] using q
    show (decide ((sg c).length > 0) && (sg c).cps.all Unicode.isAlpha) = true
    have e : (sg c).cps.all Unicode.isAlpha = true := by simp [q2]
    rw [e]
    rfl
  have e4 : Txt.lower z = z := by
    rw [lower_ascii h128]
    refine ext_tl ?_
    show (z.cps.map lo1).toList = tl z
    rw [Array.toList_map]
    have q : ∀ l : List Nat, (∀ c ∈ l, NameCh c) → l.map lo1 = l := fun l => by
      induction l with
      | nil => exact fun _ => rfl
      | cons a t ih =>
        intro h
        rw [List.map_cons, ih fun c hc => h c (List.mem_cons_of_mem _ hc)]
        have hn := h a List.mem_cons_self
        have h128 : a < 128 := by rcases hn with y | y <;> omega
        have q := small_at lo1_all h128
        have q2 : lo1 a = a := by
          rcases hn with y | y
          · simpa [y.1, y.2] using q
          · simpa [y.1, y.2] using q
        rw [q2]
    exact q _ ha
  unfold nameB
  rw [if_neg (by omega), e1, if_neg (by decide), e2, if_neg (by decide), e0, e3, if_neg (by decide), e4]
  exact decide_eq_true rfl
theorem tag_name {z : Str} (h : Tag z) : nameB z = true := name_of h.lo (Nat.le_trans h.hi (by decide)) (fun c hc => .inl (h.low c hc)) fun c r e => h.low c (by rw [e]; exact List.mem_cons_self)
/-! ### is_name -/
/-! ### values that are no texts -/
inductive NoStr (H : Hp) : V → Prop where
  | non : NoStr H .non
  | bl (b : Bool) : NoStr H (.bl b)
  | int (i : Int) : NoStr H (.int i)
  | lst {a : Addr} {xs : List V} (e : H a = some (.lst xs)) : NoStr H (.ref a)
  | tup {a : Addr} {xs : List V} (e : H a = some (.tup xs)) : NoStr H (.ref a)
  | dK {a : Addr} {kvs : List (Key × V)} (e : H a = some (.dK kvs)) : NoStr H (.ref a)
theorem NoStr.same {H H' : Hp} {v : V} (s : Same H H') (h : NoStr H v) : NoStr H' v := by
  cases h with
  | non => exact .non
  | bl b => exact .bl b
  | int i => exact .int i
  | lst e => exact .lst (s _ _ e)
  | tup e => exact .tup (s _ _ e)
  | dK e => exact .dK (s _ _ e)
theorem NoStr.ty {K : PySem.W.Frag} {H : Hp} {v : V} (h : NoStr H v) : ∃ t, TyX K H v t ∧ PySem.W.kitOne K t (.type "str") = some false := by
  cases h with
  | non => exact ⟨_, .base .non, kit_ty (by decide +kernel)⟩
  | bl b => exact ⟨_, .base (.bl b), kit_ty (by decide +kernel)⟩
  | int i => exact ⟨_, .base (.int i), kit_ty (by decide +kernel)⟩
  | lst e => exact ⟨_, .base (.lst e), kit_ty (by decide +kernel)⟩
  | tup e => exact ⟨_, .base (.tup e), kit_ty (by decide +kernel)⟩
  | dK e => exact ⟨_, .base (.dK e), kit_ty (by decide +kernel)⟩
def nameV : V → Bool
  | .str z => nameB z
  | _ => false
theorem NoStr.name {H : Hp} {v : V} (h : NoStr H v) : nameV v = false := by
  cases h <;> rfl
/-- a value that is_name may be asked of -/
def VOk (H : Hp) (v : V) : Prop := (∃ z, v = .str z ∧ z.length ≤ sizeLine) ∨ NoStr H v
theorem VOk.same {H H' : Hp} {v : V} (s : Same H H') (h : VOk H v) : VOk H' v := h.elim .inl fun n => .inr (n.same s)
def spIsName : Sp := fun vs H Q _ => ∃ v, vs = [v] ∧ VOk H v ∧ Q (.bl (nameV v)) H
section
variable {w : World} {P : Program}
variable {base : Heap} {mg : Str → Option Value} {K : PySem.W.Frag}
theorem scIsName : FnScope ["value"] ["value"] (defScope sIsName) := ⟨rfl, rfl, rfl, by decide +kernel, rfl, by decide +kernel, by decide +kernel⟩
theorem ok_isname {f : Addr} {fd : FuncData} (F : Fun K "is_name" "is_name" sIsName f fd) (T : Free mg) (mgL : ∃ t, mg "LONGEST_NAME" = some (.int 8 t)) : FnOk P w K mg base CX0 1 f fd ["value"] spIsName := by
  obtain ⟨tL, mgL⟩ := mgL
  refine F.ok scIsName (fun vs H Q E h => ?_) (fun cdv A outer s H vs Q E hr h => ?_)
  · obtain ⟨v, rfl, _⟩ := h
    rfl
  · obtain ⟨v, rfl, h⟩ := h
    refine ⟨_, pss_cons (ps_if (PW.pt (pw_or (pt_not (pt_val (pe_callB call_isi (by rfl) T.isinstance (by decide +kernel) (pa_cons (pv 0) (pa_cons (pe_bltn (v := .ty "str") (u := .type "str") (by rfl) T.str (by decide +kernel) rfl) pa_nil)))))
          (pw_or1 (pt_cmpR op_gt (pe_callB call_len_str (by rfl) T.len PySem.boot_len (pa_cons (pv 0) pa_nil)) (pe_glob (v := .int 8) rfl mgL ⟨_, rfl⟩) (nomark _))))) (pss_one (ps_ret pe_bl)) pss_nil)
      (pss_cons (ps_if (PW.pt (pw_or (pt_not (pt_val (pe_m0 PySem.F.slot_str_isascii PySem.F.type_str_isascii mt_isascii (pv 0)))) (pw_or1 (pt_not (pt_val (pe_m0 PySem.F.slot_str_isalnum PySem.F.type_str_isalnum mt_isalnum (pv 0))))))) (pss_one (ps_ret pe_bl)) pss_nil)
      (pss_one (ps_ret (pe_and (pe_m0 PySem.F.slot_str_isalpha PySem.F.type_str_isalpha mt_isalpha (pe_item_str (pv 0) pe_int (fun _ _ => rfl))) (pe_one (pe_cmpR op_eq (pv 0) (pe_lower (pv 0)) (nomark _))))))), ?_⟩
    obtain ⟨hv, q⟩ := h
    rcases hv with ⟨z, rfl, hz⟩ | n
    · refine ⟨_, rfl, _, _, _, _, true, rfl, .ty _, .base (.str z), kit_ty (by decide +kernel), true, rfl, ?_⟩
      refine iteF ?_
      refine ⟨_, rfl, z, rfl, hz, _, _, rfl, rfl, _, rfl, ?_⟩
      have q : Q (.bl (nameB z)) H := q
      unfold nameB at q
      by_cases h8 : 8 < z.length
      · rw [decide_eq_true (by omega)]
        rw [if_pos h8] at q
        exact iteT q
      rw [decide_eq_false
          (by omega)]
      rw [if_neg h8] at q
      refine iteF ?_
      refine ⟨_, rfl, ⟨_, rfl⟩, _, rfl, rfl, True.intro, _, rfl, ?_⟩
      cases ea : Txt.isascii z with
      | false =>
        rw [ea, if_pos rfl] at q
        exact iteT (iteT q)
      | true =>
        rw [ea, if_neg (by decide)] at q
        refine iteF ?_
        refine ⟨_, rfl, ⟨_, rfl⟩, _, rfl, rfl, True.intro, _, rfl, ?_⟩
        cases en : Txt.isalnum z with
        | false =>
          rw [en, if_pos rfl] at q
          exact iteT q
        | true =>
          rw [en, if_neg (by decide)] at q
          refine iteF ?_
          have hpos : 0 < z.length := by
            have e : (decide (z.length > 0) && z.cps.all Unicode.isAlnum) = true := en
            simp only [Bool.and_eq_true, decide_eq_true_eq] at e
            exact e.1
          have hcp : z.cps[(0 : Int).toNat]? = some (z.cps.getD 0 0) := by
            have h0 : 0 < z.cps.size := hpos
            show z.cps[0]? = _
            rw [Array.getD_eq_getD_getElem?, Array.getElem?_eq_getElem h0]
            rfl
          refine ⟨_, rfl, z, 0, z.cps.getD 0 0, rfl, rfl, by decide, by decide, by omega, hcp, ⟨_, rfl⟩, _, rfl, rfl, True.intro, _, rfl, ?_⟩
          cases el : Txt.isalpha (sg (z.cps.getD 0 0)) with
          | false =>
            rw [el, if_pos rfl] at q
            exact iteF q
          | true =>
            rw [el, if_neg (by decide)] at q
            refine iteT ?_
            refine ⟨_, rfl, _, rfl, ⟨_, rfl⟩, _, rfl, rfl, by omega, rfl, ?_⟩
            have e : decide (V.str z = V.str (Txt.lower z)) = decide (z = Txt.lower z) := by
              by_cases h : z = Txt.lower z
              · rw [decide_eq_true h, decide_eq_true (congrArg V.str h)]
              · rw [decide_eq_false h, decide_eq_false fun y => h (V.str.inj y)]
            show Q (V.bl (decide (V.str z = V.str (Txt.lower z)))) H
            rw [e]
            exact q
    · obtain ⟨t, ty, kt⟩ := n.ty (K := K)
      rw [n.name] at q
      refine ⟨_, rfl, _, _, _, _, false, rfl, .ty _, ty, kt, false, rfl, ?_⟩
      exact iteT (iteT q)
end
end K1
namespace K1
open PySem PySem.Spec PyProof.Rows L2 EnT
/-! ### wrong_at -/
def wrongIx (xs : List V) : Option Nat := xs.findIdx? fun v => !nameV v
def optInt : Option Nat → V
  | some i => .int i
  | none => .non
theorem wrong_some {xs : List V} {i : Nat} {v : V} (hv : xs[i]? = some v) (hn : nameV v = false) (h : (xs.take i).all nameV = true) : wrongIx xs = some i := by
  unfold wrongIx
  rw [List.findIdx?_eq_some_iff_getElem]
  obtain ⟨hi, e⟩ := List.getElem?_eq_some_iff.mp hv
  refine ⟨hi, by rw [e, hn]; rfl, fun j hj => ?_⟩
  have q := (List.all_eq_true.mp h) (xs[j]'(Nat.lt_trans hj hi)) (List.mem_iff_getElem.mpr ⟨j, by rw [List.length_take]; omega, by rw [List.getElem_take]⟩)
  rw [q]
  decide
theorem wrong_none {xs : List V} (h : xs.all nameV = true) : wrongIx xs = none := by
  unfold wrongIx
  rw [List.findIdx?_eq_none_iff]
  intro x hx
  rw [(List.all_eq_true.mp h) x hx]
  rfl
theorem take_all_succ {xs : List V} {i : Nat} {v : V} (hv : xs[i]? = some v) (hn : nameV v = true) (h : (xs.take i).all nameV = true) : (xs.take (i + 1)).all nameV = true := by
  rw [List.take_succ, hv, List.all_append, h]
  simp [hn]
def spWrongT (K : PySem.W.Frag) : Sp := fun vs H Q _ => ∃ (a : Addr) (xs : List V), vs = [.ref a] ∧ SqT K H a xs ∧ (∀ v ∈ xs, VOk H v) ∧ ∀ H', Same H H' → Q (optInt (wrongIx xs)) H'
def spWrongL (K : PySem.W.Frag) : Sp := fun vs H Q _ => ∃ (a : Addr) (xs : List V), vs = [.ref a] ∧ SqL K H a xs ∧ (∀ v ∈ xs, VOk H v) ∧ ∀ H', Same H H' → Q (optInt (wrongIx xs)) H'
theorem sameT {K : PySem.W.Frag} {H H' : Hp} {a : Addr} {xs : List V} (e : Same H H') (h : SqT K H a xs) : SqT K H' a xs := by
  rcases h with h | h
  · rcases h with h | ⟨o, h⟩
    · exact .inl (.inl (e _ _ h))
    · exact .inl (.inr
          ⟨o, e _ _ h⟩)
  · exact .inr h
section
variable {w : World} {P : Program}
variable {base : Heap} {mg : Str → Option Value} {K : PySem.W.Frag}
theorem scWrong : FnScope ["values", "at", "value"] ["values"] (defScope sWrong) := ⟨rfl, rfl, rfl, by decide +kernel, rfl, by decide +kernel, by decide +kernel⟩
theorem ok_wrongT {f fN : Addr} {fd fdN : FuncData} (F : Fun K "wrong_at" "wrong_at" sWrong f fd) (T : Free mg) (GN : FnOk P w K mg base CX0 1 fN fdN ["value"] spIsName) (FN : Fun K "is_name" "is_name" sIsName fN fdN) (mgN : mg "is_name" = some (.ref fN)) :
    FnOk P w K mg base CX0 2 f fd ["values"] (spWrongT K) := by
  have bN : Binds K fdN ["value"] [] := FN.binds (ps := ["value"]) fun _ _ _ _ _ _ us hl => match us, hl with | [_], _ => rfl
  refine F.ok scWrong (fun vs H Q E h => ?_) (fun cdv A outer s H vs Q E hr h => ?_)
  · obtain ⟨a, xs, rfl, _⟩ := h
    rfl
  · obtain ⟨a, xs, rfl, hS, hv, q⟩ := h
    refine ⟨_, pss_cons (ps_for PassesOwn.never rfl (pi_enumT (by rfl) T.enumerate (pa_cons (pv 0) pa_nil)) (pg_tup rfl (pgs_cons (pg_name (i := 1) scWrong.nd rfl (.inl rfl)) (pgs_cons (pg_name (i := 2) scWrong.nd rfl (.inl rfl)) pgs_nil)))
        (pss_one (ps_if (pt_not (pt_val (pe_call GN hr rfl mgN FN.kp bN .nil pass0 (pa_cons (pv 2) pa_nil)))) (pss_one (ps_ret (pv 1))) pss_nil)))
      (pss_one (ps_ret pe_non)), ?_⟩
    refine ⟨_, rfl, a, xs, rfl, hS, ?_⟩
    refine for_it (walk_enumT (xs := xs)) (fun i σ H' => Same H H' ∧ (xs.take i).all nameV = true ∧ ∃ o1 o2 : Option V, σ = [some (.ref a), o1, o2]) ?_ ?_ ?_ ?_
    · exact ⟨Same.refl H, rfl, none, none, rfl⟩
    · rintro i σ H' hi ⟨sm, _⟩
      exact sameT sm hS
    · rintro i x σ H1 H2 hi ⟨sm, ha, o1, o2, rfl⟩ ⟨t, y1, y2, rfl, nt, rfl, e1, e2⟩
      cases e1
      refine ⟨t, _, rfl, SqT.of upd_same, rfl, _, _, rfl, _, _, rfl, rfl, ?_⟩
      have sm2 : Same H (upd H1 t (.tup [.int (i : Nat), y2])) := sm.trans (same_upd nt)
      have hm : y2 ∈ xs := List.mem_of_getElem? e2
      refine ⟨_, rfl, _, rfl, (hv y2 hm).same sm2, _, rfl, ?_⟩
      cases en : nameV y2 with
      | false =>
        refine iteT ⟨_, rfl, ?_⟩
        have z := q _ sm2
        rw [wrong_some e2 en ha] at z
        exact z
      | true =>
        refine iteF ⟨sm2, take_all_succ e2 en ha, _, _, rfl⟩
    · rintro σ H' ⟨sm, ha, o1, o2, rfl⟩
      have z := q _ sm
      rw [List.take_length] at ha
      rw [wrong_none ha] at z
      exact z
theorem ok_wrongL {f fN : Addr} {fd fdN : FuncData} (F : Fun K "wrong_at" "wrong_at" sWrong f fd) (T : Free mg) (GN : FnOk P w K mg base CX0 1 fN fdN ["value"] spIsName) (FN : Fun K "is_name" "is_name" sIsName fN fdN) (mgN : mg "is_name" = some (.ref fN)) :
    FnOk P w K mg base CX0 2 f fd ["values"] (spWrongL K) := by
  have bN : Binds K fdN ["value"] [] := FN.binds (ps := ["value"]) fun _ _ _ _ _ _ us hl => match us, hl with | [_], _ => rfl
  refine F.ok scWrong (fun vs H Q E h => ?_) (fun cdv A outer s H vs Q E hr h => ?_)
  · obtain ⟨a, xs, rfl, _⟩ := h
    rfl
  · obtain ⟨a, xs, rfl, hS, hv, q⟩ := h
    refine ⟨_, pss_cons (ps_for PassesOwn.never rfl (pi_enum (by rfl) T.enumerate (pa_cons (pv 0) pa_nil)) (pg_tup rfl (pgs_cons (pg_name (i := 1) scWrong.nd rfl (.inl rfl)) (pgs_cons (pg_name (i := 2) scWrong.nd rfl (.inl rfl)) pgs_nil)))
        (pss_one (ps_if (pt_not (pt_val (pe_call GN hr rfl mgN FN.kp bN .nil pass0 (pa_cons (pv 2) pa_nil)))) (pss_one (ps_ret (pv 1))) pss_nil)))
      (pss_one (ps_ret pe_non)), ?_⟩
    refine ⟨_, rfl, a, xs, rfl, hS, ?_⟩
    refine for_it (walk_enum (xs := xs)) (fun i σ H' => Same H H' ∧ (xs.take i).all nameV = true ∧ ∃ o1 o2 : Option V, σ = [some (.ref a), o1, o2]) ?_ ?_ ?_ ?_
    · exact ⟨Same.refl H, rfl, none, none, rfl⟩
    · rintro i σ H' hi ⟨sm, _⟩
      exact sm.seq hS
    · rintro i x σ H1 H2 hi ⟨sm, ha, o1, o2, rfl⟩ ⟨t, y1, y2, rfl, nt, rfl, e1, e2⟩
      cases e1
      refine ⟨t, _, rfl, SqT.of upd_same, rfl, _, _, rfl, _, _, rfl, rfl, ?_⟩
      have sm2 : Same H (upd H1 t (.tup [.int (i : Nat), y2])) := sm.trans (same_upd nt)
      have hm : y2 ∈ xs := List.mem_of_getElem? e2
      refine ⟨_, rfl, _, rfl, (hv y2 hm).same sm2, _, rfl, ?_⟩
      cases en : nameV y2 with
      | false =>
        refine iteT ⟨_, rfl, ?_⟩
        have z := q _ sm2
        rw [wrong_some e2 en ha] at z
        exact z
      | true =>
        refine iteF ⟨sm2, take_all_succ e2 en ha, _, _, rfl⟩
    · rintro σ H' ⟨sm, ha, o1, o2, rfl⟩
      have z := q _ sm
      rw [List.take_length] at ha
      rw [wrong_none ha] at z
      exact z
end
end K1
/-! static methods called through their class; instances made by a starred or an empty argument list -/
namespace SmX
open PySem PySem.Spec PyProof.Rows L2 StX ClX
section
variable {X : Cx} {CX : CXT} {k i : Nat} {f C : Addr} {sp : Sp} {E : XK}
    {x m : Str} {e o : Expr} {es : List Expr} {te ta : TE} {t : TA} {p sp_ pos apos : Pos}
/-- C(*y) -/
theorem pe_makeS1 (M : Mk X.K C f) (F : FnR X.prog X.w X.K X.mg X.base CX k f sp) (hr : Room (k + 1) X.A) (hg : Gl X x) (hm : X.mg x = some (.ref C)) (hx : Passes CX X E) (he : PE X e te) (hd : (x == ("__debug__" : Str)) = false := by decide)
    (hst : starEach [.Starred e sp_] X.env
        = [(true, eval e X.env)] := by rfl) :
    PE X (.Call (.Name x p) [.Starred e sp_] [] pos) (fun σ H Q => te σ H fun y H1 => ∃ a xs, y = V.ref a ∧ (SqT X.K H1 a xs ∨ SqL X.K H1 a xs) ∧ ∀ x dx, H1 x = Option.none → H1 dx = Option.none → dx ≠ x →
      sp (V.ref x :: xs) (upd (upd H1 dx (.own x)) x (.ins C dx [])) (fun v H2 => v = .non ∧ Q (.ref x) H2) E) := by
  refine ⟨fun pins s σ H Q Iv hyp => ?_⟩
  refine wpAny_Call_Name_kw (ld_glob Iv hg hm ?_ hd)
  refine PySem.W.callWith_S (h₀ := X.base) Iv.ok.mod.kin M.kp (thn (he.run pins s σ H _ Iv hyp) fun v st1 ⟨y, H1, Iv1, relY, a, xs, ey, hxs, cont⟩ => ?_) hst
  subst ey
  obtain rfl : v = Value.ref a := relY
  exact star_any Iv1 hxs fun us st2 Iv2 rv => ⟨Iv2.kIn, run_makeR M F hr hx Iv2 rv cont⟩
/-- C() -/
theorem pe_makeR0 (M : Mk X.K C f) (F : FnR X.prog X.w X.K X.mg X.base CX k f sp) (hr : Room (k + 1) X.A) (hg : Gl X x) (hm : X.mg x = some (.ref C)) (hx : Passes CX X E) (hd : (x == ("__debug__" : Str)) = false := by decide) :
    PE X (.Call (.Name x p) [] [] pos) (tMakeR C sp E tNil) := by
  refine ⟨fun pins s σ H Q Iv hyp => ?_⟩
  refine wpAny_Call_Name_kw (ld_glob Iv hg hm ?_ hd)
  exact PySem.W.callWith_K0 Iv.kIn M.kp (run_makeR (us := []) (vs := []) M F hr hx Iv .nil hyp)
end
/-- C.m is a staticmethod: its record at p, its def at g -/
structure SMet (K : PySem.W.Frag) (C : Addr) (mc : Value) (m : Str) (p g : Addr) : Prop where
  at_ : PySem.W.findCls K (.ref C) mc m = some (.get (.builtin "staticmethod.__get__") (.ref p) .none (.ref C))
  rc : ∃ rest, PySem.W.recIn K p "staticmethod" = some (.ref g :: rest)
  kp : PySem.W.keepIn K (.ref g) = true
def tSMeth (C : Addr) (sp : Sp) (E : XK) (ta : TE) (t : TA) : TE := fun σ H Q => ta σ H fun x H1 => x = .ref C ∧ t σ H1 fun vs H2 => sp vs H2 Q E
def tSMethK (C : Addr) (m : Nat) (sp : Sp) (gV : List V → List V → List V) (E : XK) (ta : TE) (tk : TA) : TE := fun σ H Q => ta σ H fun x H1 => x = .ref C ∧ tk σ H1 fun zs H2 => zs.length = m ∧ sp (gV [] zs) H2 Q E
section
variable {X : Cx} {CX : CXT} {k : Nat} {C p g : Addr} {mc : Value} {sp : Sp} {E : XK} {o e : Expr} {es : List Expr} {f m : Str} {pos apos : Pos} {ta : TE} {t tk : TA} {pl : Sem Bool} {pins : List (Addr × Obj)} {σ : L2.St} {H : Hp} {s : Shared} {A : Around} {E' : Value → Shared → Prop}
theorem getmethsm_ok {Q : Value × List Value → Shared → Prop} (Iv : Inv X pins σ H s) (r : CRead X.K C mc) (k : SMet X.K C mc m p g) (hyp : ∀ s', Inv X pins σ H s' → Q (.ref g, []) s') : wpAny (model X.prog X.w) A (getMethod (.ref C) m pl) Q E' s := by
  obtain ⟨rest, hp⟩ := k.rc
  refine PySem.W.method_cls Iv.kIn r.ga (PySem.W.cls_bind Iv.kIn r.rd k.at_ ?_)
  exact wpAny_call (PySem.W.sm_get (s := { s with toks := s.toks + 1 }) Iv.kIn hp (PySem.W.handed_on rfl (hyp _ (Iv.tok _))))
theorem pe_smeth (he : PE X o ta) (r : CRead X.K C mc) (c : SMet X.K C mc m p g) (F : FnR X.prog X.w X.K X.mg X.base CX k g sp) (hr : Room k X.A) (hx : Passes CX X E) (ha : PA X (e :: es) t)
    (hst : starEach (e :: es) X.env = (false, eval e X.env) :: starEach es
        X.env := by rfl) (hpl : (backTo pos (starEach es X.env)).any (·.1) = false := by rfl)
    (ht : eval (.Call (.Attribute o
        m apos) (e :: es) [] pos) X.env = (do
      let ov ← eval o X.env
      standAt apos.atName
      let (f, first) ← holding
          [ov] (getMethod ov m pl)
      callWith pos f first (backTo pos (starEach (e :: es)
          X.env)) (backToKw pos (keywordEach [] X.env))) := by rfl) :
    PE X (.Call (.Attribute o m apos) (e :: es) [] pos) (tSMeth C sp E ta t) := by
  refine ⟨fun pins s σ H Q Iv hyp => ?_⟩
  refine PySem.W.methodCall_KW (pl := pl) (thn (he.run pins s σ H _ Iv hyp) fun usV st1 ⟨x, H1, Iv1, relX, ex, cont⟩ => ?_) ht
  subst ex
  obtain rfl : usV = Value.ref C := relX
  refine getmethsm_ok Iv1 r c fun st2 Iv2 => ?_
  refine PySem.W.callWith_K (h₀ := X.base) Iv.ok.mod.kin c.kp (thn (ha.run pos pins st2 σ H1 _ Iv2 cont) fun us st3 ⟨vs, H2, Iv3, rv, q2⟩ => ⟨Iv3.kIn, ?_⟩) hst hpl
  exact wpAny_call (run_fnR F hr hx Iv3 rv q2)
theorem pe_smethK {fd : FuncData} {ps ks : List Str} {kws : List Keyword} {gg : List Value → List Value → List Value} {gV : List V → List V → List V} (he : PE X o ta) (r : CRead X.K C mc) (c : SMet X.K C mc m p g) (F : FnOk X.prog X.w X.K X.mg X.base CX k g fd ps sp) (hb : KBn X.K fd ps 0 ks gg gV) (hr : Room k X.A) (hx : Passes CX X E) (hkw : PK X kws tk)
    (hall : (backToKw pos (keywordEach kws X.env)).all (·.1.isSome) = true := by rfl) (hks : (backToKw pos (keywordEach kws X.env)).filterMap (·.1) = ks := by rfl)
    (hpl : ((backTo pos (starEach [] X.env)).any (·.1) || (backToKw pos (keywordEach kws X.env)).any (·.1.isNone)) = false := by rfl)
    (ht : eval (.Call (.Attribute o m apos) [] kws pos) X.env = (do
      let ov ← eval o X.env
      standAt apos.atName
      let (f, first) ← holding
          [ov] (getMethod ov m pl)
      callWith pos f first (backTo pos (starEach [] X.env)) (backToKw pos (keywordEach kws X.env))) := by rfl) :
    PE X (.Call (.Attribute o m apos) [] kws pos) (tSMethK C ks.length sp gV E ta tk) := by
  refine ⟨fun pins s σ H Q Iv hyp => ?_⟩
  refine PySem.W.methodCall_KW (pl := pl) (thn (he.run pins s σ H _ Iv hyp) fun usV st1 ⟨x, H1, Iv1, relX, ex, cont⟩ => ?_) ht
  subst ex
  obtain rfl : usV = Value.ref C := relX
  refine getmethsm_ok Iv1 r c fun st2 Iv2 => ?_
  refine PySem.W.callWith_KW0 (h₀ := X.base) Iv.ok.mod.kin c.kp hall ?_ hpl
  refine thn (hkw.run pos pins st2 σ H1 _ Iv2 cont) fun ws st3 ⟨zs, H2, Iv3, rz, l2, q2⟩ => ⟨Iv3.kIn, ?_⟩
  rw [hks]
  exact run_fnN (us := []) (vs := []) (n := 0) F hr hb hx Iv3 .nil rz rfl l2 q2
end
end SmX
/-! sorted(set(texts)) -/
namespace TxS
open PySem PySem.Spec
open PyProof.Rows L2
/-- a set whose table can be walked; its members and their hashes are ms -/
def Tbl (w : World) (hp : Heap) (S : Addr) (ms : Array (Int × Value)) : Prop :=
  ∃ (ob : Obj) (ep : Nat) (tb : SetTable), hp.get? S = some ob ∧ ob.ExactSet ∧ ob.data = .set ms ep tb ∧ ms.size < scanBound ∧ tb.fits ms.size = true ∧ Ris tb.place.toList ∧ (w.params.followText "set-order" = true ∨ tb.led = true)
theorem Tbl.moved {w : World} {hp hp' : Heap} {S : Addr} {ms : Array (Int × Value)} (T : Tbl w hp S ms) (kp : ∀ ob, hp.get? S = some ob → hp'.get? S = some ob) : Tbl w hp' S ms := by
  obtain ⟨ob, ep, tb, h0, rest⟩ := T
  exact ⟨ob, ep, tb, kp ob h0, rest⟩
section
variable {P : Program} {w : World} {A : Around} {Er : Value → Shared → Prop} {st : Shared} {S : Addr}
theorem gave_ok {Q1 : Unit → Shared → Prop} {s1 : Shared} (gv : Bool) (cont : Q1 () s1) : wpAny (model P w) A (match gv with | true => rule "set.scan.the-table-gave-way" | false => pure ()) Q1 Er s1 := by
  cases gv with
  | true => exact wpAny_rule cont
  | false => exact wpAny_pure cont
/-- the table laid, and laid anew where it is too full -/
theorem tail_ok {ms ms1 : Array (Int × Value)} {ob : Obj} {ep : Nat} {tb t1 : SetTable} (h0 : st.heap.get? S = some ob) (hx : ob.ExactSet) (hd : ob.data = .set ms ep tb) (b1 : ms1.size < scanBound) (f1 : t1.fits ms1.size = true) (r1 : Ris t1.place.toList)
    (l1 : w.params.followText "set-order" = true ∨ t1.led = true) (wd : Bool) {R : Option Bool → Shared → Prop}
    (hR : ∀ hp' ms', Heap.SameBut S st.heap hp' → Tbl w hp' S ms' → ms'.toList.Perm ms1.toList → R (some true) { st with heap := hp' }) :
    wpAny (model P w) A (do
      storeSet S ms1 t1
      if (!wd && t1.tooFull) = true then do
        (match (relayAll t1 ms1 (SetTable.grown ms1.size)).2.2 with | true => rule "set.scan.the-table-gave-way" | false => pure ())
        storeSet S (relayAll t1 ms1 (SetTable.grown ms1.size)).1 (relayAll t1 ms1 (SetTable.grown ms1.size)).2.1
        pure (some true)
      else pure (some true)) R Er st := by
  refine wpAny_bind (wpAny_storeSet_of h0 hd ?_ (fits_of_scanBound b1))
  have a1 := store_at (es' := ms1) (t' := t1) h0 hd
  have k1 := Heap.SameBut.update st.heap S (Obj.putSet ms1 t1)
  by_cases full : (!wd && t1.tooFull) = true
  · rw [if_pos full]
    have p2 := relayAll_perm t1 ms1 (SetTable.grown ms1.size)
    have n2 : (relayAll t1 ms1 (SetTable.grown ms1.size)).1.size = ms1.size := by
      have cont := p2.length_eq
      simpa using cont
    refine wpAny_bind (gave_ok _ ?_)
    refine wpAny_bind (wpAny_storeSet_of a1 rfl ?_ (fits_of_scanBound (by rw [n2]; exact b1)))
    have a2 := store_at (es' := (relayAll t1 ms1 (SetTable.grown ms1.size)).1) (t' := (relayAll t1 ms1 (SetTable.grown ms1.size)).2.1) a1 rfl
    refine wpAny_pure (hR _ _ (k1.trans (Heap.SameBut.update _ S _)) ⟨_, _, _, a2, hx, rfl, by rw [n2]; exact b1, relayAll_fits t1 ms1 _, relayAll_ris t1 ms1 _, ?_⟩ p2)
    rw [relayAll_led t1 ms1 _]
    exact l1
  · rw [if_neg full]
    exact wpAny_pure (hR _ _ k1 ⟨_, _, _, a1, hx, rfl, b1, f1, r1, l1⟩ .rfl)
variable {κ : Type} [DecidableEq κ] [BEq κ] [LawfulBEq κ] {knd : KeyKind P w κ}
theorem add_ok {ms : Array (Int × Value)} {k : κ} {v : Value} {Q : Bool → Shared → Prop} (T : Tbl w st.heap S ms) (el : ElemsOf knd ms.toList) (hk : knd.is k v = true) (sc : v.scannable = true) (room : ms.size + 1 < scanBound)
    (old : (∃ e ∈ ms.toList, knd.is k e.2 = true) → Q false st)
    (new : (∀ e ∈ ms.toList, knd.is k e.2 = false) → ∀ hp' ms', Heap.SameBut S st.heap hp' → Tbl w hp' S ms' → ms'.toList.Perm ((knd.hash k, v) :: ms.toList) → Q true { st with heap := hp' }) :
    wpAny (model P w) A (setAddHashed S v (knd.hash k)) Q Er st := by
  obtain ⟨ob, ep, tb, h0, hx, hd, b0, f0, r0, l0⟩ := T
  unfold setAddHashed
      setAddHashedIn
  refine wpAny_holding (wpAny_bind (wpAny_setState_of h0 hd f0 ?_))
  dsimp only
  rw [byScan_of sc b0 el]
  simp only [↓reduceIte]
  unfold setAddByScan
  refine wpAny_bind (wpAny_bind (wpAny_rule (wpAny_bind (wpAny_setScan_of hk h0 hd f0 el ?_))))
  cases fdA : List.findIdx? (fun e => knd.is k e.2) ms.toList with
  | some j =>
    obtain ⟨jA, pA, _⟩ := List.findIdx?_eq_some_iff_getElem.mp fdA
    exact wpAny_pure (wpAny_pure (old ⟨_, List.getElem_mem jA, pA⟩))
  | none =>
    have none_ : ∀ e ∈ ms.toList, knd.is k e.2 = false := fun e he => List.findIdx?_eq_none_iff.mp fdA e he
    dsimp only
    have pm := layNew_perm tb ms (knd.hash k) v
    have hf1 := layNew_fits tb ms (knd.hash k) v
    have hr1 := layNew_ris tb ms (knd.hash k) v r0
    have hl1 := layNew_led tb ms (knd.hash k) v
    generalize layNew tb ms (knd.hash k) v = Z at pm hf1 hr1 hl1 ⊢
    obtain ⟨ms1, t1, wd, gv⟩ := Z
    dsimp only at pm hl1 hr1 hf1 ⊢
    have pc : ms1.toList.Perm ((knd.hash k, v) :: ms.toList) := by
      rw [Array.toList_push] at pm
      exact pm.trans (List.perm_append_singleton _ _)
    have n1 : ms1.size = ms.size + 1 := by
      have cont := pc.length_eq
      simpa using cont
    have fin : ∀ hp' ms', Heap.SameBut S st.heap hp' → Tbl w hp' S ms' → ms'.toList.Perm ms1.toList → Q true { st with heap := hp' } := fun hp' ms' sb T' pp => new none_ hp' ms' sb T' (pp.trans pc)
    have led1 : w.params.followText "set-order" = true ∨ t1.led = true := by
      rw [hl1]
      exact l0
    refine wpAny_bind (gave_ok _ ?_)
    by_cases pl : t1.plain = true
    · rw [if_pos pl, hashByValue_scannable 8 sc]
      refine wpAny_bind
          (wpAny_pure ?_)
      by_cases pk : plainKind v = true
      · rw [pk]
        exact tail_ok h0 hx hd (by rw [n1]; exact room) hf1 hr1 led1 wd fun hp' ms' sb T' pp => wpAny_pure (fin hp' ms' sb T' pp)
      · have pk' : plainKind v = false := by simpa using pk
        rw [pk']
        exact tail_ok (t1 := { t1 with plain := false }) h0 hx hd (by rw [n1]; exact room) (SetTable.fits_plain_off hf1) hr1 led1 wd fun hp' ms' sb T' pp => wpAny_pure (fin hp' ms' sb T' pp)
    · rw [if_neg pl]
      refine wpAny_bind
          (wpAny_pure ?_)
      exact tail_ok h0 hx hd (by rw [n1]; exact room) hf1 hr1 led1 wd fun hp' ms' sb T' pp => wpAny_pure (fin hp' ms' sb T' pp)
end
/-! ### texts -/
def txt (e : Int × Value) : Str := match e.2 with
  | .str z _ => z
  | _ => Str.empty
def Txts (P : Program) (w : World) (ms : List (Int × Value)) : Prop := ∀ e ∈ ms, ∃ z t, e.2 = Value.str z t ∧ e.1 = (PySem.strKind P w).hash z
theorem Txts.el {P : Program} {w : World} {ms : List (Int × Value)} (g : Txts P w ms) : ElemsOf (PySem.strKind P w) ms := fun e he => by
  obtain ⟨z, t, e1, e2⟩ := g e he
  exact ⟨⟨z, by rw [e1]; exact strKind_is P w z t, e2⟩, by rw [e1]; rfl⟩
theorem is_txt {P : Program} {w : World} {e : Int × Value} {z y : Str} {t : Tok} (e1 : e.2 = Value.str z t) : (PySem.strKind P w).is y e.2 = true ↔ txt e = y := by
  have cont : txt e = z := by
    unfold txt
    rw [e1]
  rw [cont]
  constructor
  · intro hyp
    have h2 := strKind_is P w z t
    rw [← e1] at h2
    exact (PySem.strKind P w).inj _ _ _ h2 hyp
  · rintro rfl
    rw [e1]
    exact strKind_is P w z t
/-- the set at S holds just the texts in zs -/
def SetTx (P : Program) (w : World) (hp : Heap) (S : Addr) (zs : List Str) (n : Nat) : Prop :=
  ∃ ms, Tbl w hp S ms ∧ Txts P w ms.toList ∧ (ms.toList.map txt).Nodup ∧ (∀ z, z ∈ ms.toList.map txt ↔ z ∈ zs) ∧ ms.size ≤ n
theorem SetTx.moved {P : Program} {w : World} {hp hp' : Heap} {S : Addr} {zs : List Str} {n : Nat} (T : SetTx P w hp S zs n) (kp : ∀ ob, hp.get? S = some ob → hp'.get? S = some ob) : SetTx P w hp' S zs n := by
  obtain ⟨ms, T0, rest⟩ := T
  exact ⟨ms, T0.moved kp, rest⟩
section
variable {P : Program} {w : World} {A : Around} {Er : Value → Shared → Prop} {st : Shared} {S : Addr}
theorem add_text {zs : List Str} {n : Nat} {y : Str} {t : Tok} {Q : Bool → Shared → Prop} (T : SetTx P w st.heap S zs n) (room : n + 1 < scanBound)
    (cont : ∀ b hp', Heap.SameBut S st.heap hp' → SetTx P w hp' S (zs ++ [y]) (n + 1) → Q b { st with heap := hp' }) :
    wpAny (model P w) A (setAddHashed S (.str y t) ((PySem.strKind P w).hash y)) Q Er st := by
  obtain ⟨ms, T0, g, nd, hm, hn⟩ := T
  refine add_ok (knd := PySem.strKind P w) T0 g.el (strKind_is P w y t) rfl (by omega) (fun ⟨e, he, hy⟩ => ?_) (fun no hp' ms' sb T' pp => ?_)
  · obtain ⟨z, t', e1, _⟩ := g e he
    have ey := (is_txt (P := P) (w := w) e1).mp hy
    refine cont false st.heap (Heap.SameBut.refl S st.heap) ⟨ms, T0, g, nd, fun x => ?_, by omega⟩
    rw [hm x, List.mem_append, List.mem_singleton]
    refine ⟨.inl, fun hyp => hyp.elim id fun h2 => ?_⟩
    rw [h2, ← ey]
    exact (hm _).mp (List.mem_map.mpr ⟨e, he, rfl⟩)
  · have nin : y ∉ ms.toList.map txt := fun hyp => by
      obtain ⟨e, he, ey⟩ := List.mem_map.mp hyp
      obtain ⟨z, t', e1, _⟩ := g e he
      have b := (is_txt (P := P) (w := w) (y := y) e1).mpr ey
      rw [no e he] at b
      cases b
    have pk : (ms'.toList.map txt).Perm (y :: ms.toList.map txt) := pp.map txt
    refine cont true hp' sb ⟨ms', T', fun e he => ?_, pk.nodup_iff.mpr (List.nodup_cons.mpr ⟨nin, nd⟩), fun x => ?_, ?_⟩
    · rcases List.mem_cons.mp (pp.mem_iff.mp he) with hyp | hyp
      · rw [hyp]
        exact ⟨y, t, rfl, rfl⟩
      · exact g e hyp
    · rw [pk.mem_iff, List.mem_cons, hm x, List.mem_append, List.mem_singleton]
      exact Or.comm
    · have cont := pp.length_eq
      rw [Array.length_toList, List.length_cons, Array.length_toList] at cont
      omega
/-- all that is walked is added -/
theorem loop_texts {Iv : Addr} {fp wr : List Addr} {G : Array GenState → Array GenState → Prop} {n : Nat} {Pv : Nat → Value → Prop} {Sv : Nat → Shared → Prop} {R : Result → Shared → Prop} (Wk : WalksS P w A.in1 Iv fp wr G n Pv Sv) (far : S ∉ fp)
    (zs : List Str) (hz : zs.length = n) (room : n + 1 < scanBound) (val : ∀ i v, Pv i v → ∃ z t, zs[i]? = some z ∧ v = Value.str z t)
    (fin : ∀ s1, Moved (S :: wr) G st s1 → SetTx P w s1.heap S zs n → R (.ok (.ret .none)) s1) :
    ∀ (left i : Nat) (s1 : Shared), i + left = n → Sv i s1 → Moved (S :: wr) G st s1 → SetTx P w s1.heap S (zs.take i) i → codeAny (model P w) A (.builtin "set.update.loop" ⟨[.ref S, .ref Iv], []⟩) R s1 := by
  have farw : S ∉ wr := fun hyp => far (Wk.sub _ hyp)
  have inc : ∀ b ∈ wr, b ∈ S :: wr := fun b hb => List.mem_cons_of_mem _ hb
  intro left
  induction left with
  | zero =>
    intro i s1 e hs mv T
    have ei : i = n := by omega
    subst ei
    refine codeAny_builtin
        F.entry_set_update_loop ?_
    rw [Around.under_plainId
        F.plain_set_update_loop _]
    show wpAny _ A.in1 (pyNext (.ref Iv) >>= _) _ _ s1
    refine wpAny_bind (Wk.done s1 _ _ hs fun s2 m2 => ?_)
    rw [List.take_of_length_le (by omega)] at T
    exact wpAny_pure (fin s2 (Moved.trans Wk.gtrans mv (m2.mono inc)) (T.moved fun ob hb => m2.heap S ob farw hb))
  | succ left ih =>
    intro i s1 e hs mv T
    refine codeAny_builtin
        F.entry_set_update_loop ?_
    rw [Around.under_plainId
        F.plain_set_update_loop _]
    show wpAny _ A.in1 (pyNext (.ref Iv) >>= _) _ _ s1
    refine wpAny_bind (Wk.item i s1 _ _ (by omega) hs fun v s2 hv hs2 m2 => ?_)
    obtain ⟨z, t, ez, rfl⟩ := val i v hv
    show wpAny _ A.in1 (holding [Value.str z t] (setAdd S (.str z t)) >>= _) _ _ s2
    refine wpAny_bind
        (wpAny_holding ?_)
    unfold setAdd
    refine wpAny_holding (wpAny_bind ((PySem.strKind P w).pyHash (k := z) (strKind_is P w z t) ?_))
    refine add_text (st := { s2 with toks := s2.toks + 1 }) (T.moved fun ob hb => m2.heap S ob farw hb) (by omega) fun b hp' sb T' => ?_
    have et : zs.take i ++ [z] = zs.take (i + 1) := by
      rw [List.take_add_one, ez]
      rfl
    rw [et] at T'
    have apart : ∀ b ∈ fp, b ≠ S := fun b hb hyp => far (hyp ▸ hb)
    refine wpAny_pure ⟨plainId_quiet F.plain_set_update_loop _, ih (i + 1) _ (by omega) (Wk.frame _ s2 _ _ hs2 (Nat.le_succ _) fun b hb ob eb => (sb.2 b (apart b hb)).trans eb) ?_ T'⟩
    exact Moved.trans Wk.gtrans mv ((m2.mono inc).then_heap (Nat.le_succ _) fun b ob hb eb => (sb.2 b fun hyp => hb (hyp ▸ List.mem_cons_self)).trans eb)
/-- a set as it is made -/
abbrev fresh0 (w : World) : Obj := { cls := .type "set", dict := none, data := .set #[] 0 (.fresh 0 0 (!w.params.followText "set-order")) }
theorem fresh_tx {hp : Heap} {zs : List Str} (hyp : hp.get? S = some (fresh0 w)) : SetTx P w hp S (zs.take 0) 0 := by
  refine ⟨#[], ⟨_, 0, _, hyp, ⟨rfl, rfl, rfl⟩, rfl, by decide, rfl, List.Pairwise.nil, ?_⟩, fun e he => by simp at he, by simp, fun z => by simp, Nat.le_refl _⟩
  show _ ∨ (!w.params.followText
      "set-order") = true
  cases w.params.followText "set-order" with
  | false => exact .inr rfl
  | true => exact .inl rfl
/-- what a list and a tuple have alike, to be made a set of -/
structure Src (P : Program) (w : World) (l : Addr) (items : Array Value) (T : String) (it : Obj) (Sv : Addr → Nat → Heap → Prop) (Is : Heap → Prop) : Prop where
  s1 : isSubtype (.type T) (.type "set") = pure false
  s2 : isSubtype (.type T) (.type "frozenset") = pure false
  nd : (Value.type T == Value.type "dict") = false
  beg : Begins (.ref l) it Is
  walk : ∀ (A' : Around) (Iv : Addr), A'.handled = none → l ≠ Iv → Walks P w A' Iv [Iv, l] [Iv] items.size (fun i v => items[i]? = some v) (Sv Iv)
  st0 : ∀ (Iv : Addr) (hp : Heap), Is hp → hp.get? Iv = some it → Sv Iv 0 hp
set_option maxHeartbeats 6400000 in
theorem call_set_any {l : Addr} {items : Array Value} {T : String} {it : Obj} {Sv : Addr → Nat → Heap → Prop} {Is : Heap → Prop} {zs : List Str} {Q : Value → Shared → Prop} {od : Option Addr} {dt : Data} {sl : Array (Option Value)} (src : Src P w l items T it Sv Is) (hh : A.handled = none)
    (hol : st.heap.get? l = some { cls := .type T, dict := od, data := dt, slots := sl }) (is0 : Is st.heap) (val : ∀ (i : Nat) (v : Value), items[i]? = some v → ∃ (z : Str) (t : Tok), zs[i]? = some z ∧ v = Value.str z t) (hz : zs.length = items.size) (room : items.size + 1 < scanBound)
    (cont : ∀ (hp' : Heap) (tk : Nat), SetTx P w hp' st.heap.objs.size zs items.size → (∀ b ob, st.heap.get? b = some ob → hp'.get? b = some ob) → Q (.ref st.heap.objs.size) { st with heap := hp', toks := tk }) :
    wpAny (model P w) A (call (.type "set") [.ref l]) Q Er st := by
  obtain ⟨c, tl, hmro⟩
      := F.called_set.mro
  have hmade :=
      F.called_set.made
  have hsub := F.called_set.sub
  refine wpAny_call
      (codeAny_of_tree ?_)
  show wpAny _ _ (callAny
      (.type "set") _) _ _ _
  refine wpAny_pure ⟨Code.quiet_builtin _ (by decide +kernel),
      codeAny_builtin F.entry_type_call ?_⟩
  rw [Around.under_plain (weight_type_call_type
      "set" [.ref l] []) rfl]
  have nt := F.called_set.notType
  have cc := F.called_set.canCreate
  have tc := F.typeCall_set_1 (.ref l)
  repeat (any_goals (first
      | assumption | wp_step))
  refine codeAny_mono (code_set_led1 (.ref l) (E := Er) (Q₁ := fun obj sx => obj = .ref st.heap.objs.size ∧ sx = { st with heap := st.heap.push (fresh0 w) }) ⟨rfl, rfl⟩) fun r sx hr => ?_
  cases r with
  | error e => exact hr
  | ok fl =>
    cases fl with
    | ret obj =>
      obtain ⟨rfl, rfl⟩ := hr
      have hS : (st.heap.push (fresh0 w)).get? st.heap.objs.size = some (fresh0 w) := Heap.get?_push_size _ rfl
      have hT : Shared.TypeIs { st with heap := st.heap.push (fresh0 w) } (.ref st.heap.objs.size) "set" := ⟨_, hS, rfl⟩
      have li := F.called_set.init.lookup
      have bi := F.called_set.init.bind (.ref st.heap.objs.size)
      repeat (any_goals (first
          | assumption | wp_step))
      refine codeAny_mono (codeAny_call_builtin (R := wants (fun r s₂ => r = .none ∧ ∃ hp' tk, s₂ = { st with heap := hp', toks := tk } ∧ SetTx P w hp' st.heap.objs.size zs items.size ∧ (∀ b ob, st.heap.get? b = some ob → hp'.get? b = some ob)) Er)
        F.called_set.init.plain F.entry_set_init (check_set_init_1 hT ?_)) fun r₂ s₂ hr₂ => ?_
      · have hol2 : (st.heap.push (fresh0 w)).get? l = some { cls := .type T, dict := od, data := dt, slots := sl } := Heap.get?_push_of_some _ hol
        have e1 := src.s1
        have e2 := src.s2
        have e3 := src.nd
        have is1 : Is (st.heap.push (fresh0 w)) := src.beg.keeps _ _ is0 fun b ob e => Heap.get?_push_of_some _ e
        unfold Builtin.«set.__init__» noKeywords
            Builtin.Frozenset.updateFrom
        generalize hPI : pyIter = PI
        wp_walk
        subst hPI
        refine src.beg.iter P w _ _ _ _ is1 ?_
        refine wpAny_bind
            (wpAny_runValue ?_)
        have ls : l < st.heap.objs.size := Heap.lt_size hol
        have z1 : (st.heap.push (fresh0 w)).objs.size = st.heap.objs.size + 1 := Heap.size_push ..
        have hget : ((st.heap.push (fresh0 w)).push it).get? st.heap.objs.size = some (fresh0 w) := Heap.get?_push_of_some _ hS
        have lI : l ≠ (st.heap.push (fresh0 w)).objs.size := by
          rw [z1]
          exact Nat.ne_of_lt (Nat.lt_succ_of_lt ls)
        refine loop_texts (st := { st with heap := (st.heap.push (fresh0 w)).push it }) ((src.walk _ _ (by simp [hh]) lI).toS) ?_ zs hz room val (fun s1 mv T' => ?_) items.size 0 _ (by omega) ?_ ⟨fun _ _ _ e => e, rfl, rfl, rfl, Nat.le_refl _⟩ (fresh_tx hget)
        · rw [z1]
          intro hm
          rcases List.mem_cons.mp hm with hyp | hyp
          · exact Nat.ne_of_lt (Nat.lt_succ_self _) hyp
          · exact Nat.ne_of_gt ls (List.mem_singleton.mp hyp)
        · obtain ⟨hp', g', d', tk', os'⟩ := s1
          obtain rfl : g' = st.gens := mv.gens
          obtain rfl : d' = st.drawn := mv.drawn
          obtain rfl : os' = st.os := mv.os
          show wpAny _ _ _ _ _ _
          refine wpAny_pure ?_
          show wpAny _ _ (ret
              Value.none) _ _ _
          refine wpAny_pure ⟨rfl, hp', tk', rfl, T', fun b ob e => ?_⟩
          have bl := Heap.lt_size e
          refine mv.heap b ob ?_ (Heap.get?_push_of_some _ (Heap.get?_push_of_some _ e))
          rw [z1]
          intro hm
          rcases List.mem_cons.mp hm with hyp | hyp
          · exact Nat.ne_of_lt bl hyp
          · exact Nat.ne_of_lt (Nat.lt_succ_of_lt bl) (List.mem_singleton.mp hyp)
        · exact src.st0 _ _ (src.beg.keeps _ _ is1 fun b ob e => Heap.get?_push_of_some _ e) (Heap.get?_push_size _ src.beg.free)
      · cases r₂ with
        | error e => exact hr₂
        | ok fl₂ =>
          cases fl₂ with
          | ret r =>
            obtain ⟨rfl, hp', tk, rfl, T', kp⟩ := hr₂
            repeat (any_goals (first
                | assumption | wp_step))
            exact cont hp' tk T' kp
          | _ => exact hr₂.elim
    | _ => exact hr.elim
theorem src_list (l : Addr) (items : Array Value) : Src P w l items "list" { cls := .type "list_iterator", data := .fields #[.ref l, .int 0 0] } (fun Iv i hp => hp.IsListIter Iv l i ∧ hp.IsList l items) (fun hp => hp.IsList l items) :=
  ⟨F.sub_list_set, F.sub_list_frozenset, by decide, begins_list l items, fun A' Iv hh hne => Walks.list hh Iv l hne items, fun Iv hp h1 h2 => ⟨⟨_, h2, rfl, rfl⟩, h1⟩⟩
theorem src_tuple (l : Addr) (items : Array Value) : Src P w l items "tuple" { cls := .type "tuple_iterator", data := .fields #[.ref l, .int 0 0] } (fun Iv i hp => hp.IsTupleIter Iv l i ∧ hp.IsTuple l items) (fun hp => hp.IsTuple l items) :=
  ⟨F.sub_tuple_set, F.sub_tuple_frozenset, by decide, begins_tuple l items, fun A' Iv hh hne => Walks.tuple hh Iv l hne items, fun Iv hp h1 h2 => ⟨⟨_, h2, rfl, rfl⟩, h1⟩⟩
theorem strs_of_txts : ∀ (l : List (Int × Value)), Txts P w l → StrsAre (l.map (·.2)) (l.map txt)
  | [], _ => .nil
  | e :: l, g => by
    obtain ⟨z, t, e1, _⟩ := g e List.mem_cons_self
    have cont : txt e = z := by
      unfold txt
      rw [e1]
    rw [List.map_cons, List.map_cons, e1, cont]
    exact .cons z t (strs_of_txts l fun x hx => g x (List.mem_cons_of_mem _ hx))
theorem sorted_setTx {zs : List Str} {n : Nat} {Q : Value → Shared → Prop} (T : SetTx P w st.heap S zs n) (hh : A.handled = none)
    (cont : ∀ s1 p (out : Array Value) (c : Nat) (ys : List Str), (∀ b ob, st.heap.get? b = some ob → s1.heap.get? b = some ob) → s1.gens = st.gens → s1.os = st.os → st.heap.objs.size ≤ p → s1.heap.get? p = some (seqObj "list" out c) →
      StrsAre out.toList ys → sortedS ys = true → ys.Nodup → (∀ z, z ∈ ys ↔ z ∈ zs) → ys.length ≤ n → Q (.ref p) s1) :
    wpAny (model P w) A (call (.builtin "sorted") [.ref S]) Q Er st := by
  obtain ⟨ms, ⟨ob, ep, tb, h0, hx, hd, b0, f0, r0, l0⟩, g, nd, hm, hn⟩ := T
  refine Calls.call_function_entry kind_sorted
      plain_sorted entry_sorted (args_sorted1 _) ?_
  unfold Builtin.«sorted»
  refine wpAny_bind (m := checkCount "sorted" 1 1 _) (wpAny_pure (wpAny_bind (collect_set (A := A.in1) hh ⟨ob, h0, hx.1, hd⟩ f0 b0 r0 l0 fun s1 vs k1 z1 g1 o1 pm => ?_)))
  have lv : vs.length ≤ n := by
    rw [pm.length_eq, List.length_map, Array.length_toList]
    exact hn
  have lv2 : vs.length ≤ sizeLine := by
    rw [pm.length_eq, List.length_map, Array.length_toList]
    exact fits_of_scanBound b0
  have hS : StrsAre vs (vs.map strOf) := strsAre_map vs fun v hv => by
    obtain ⟨e, he, ev⟩ := List.mem_map.mp (pm.mem_iff.mp hv)
    obtain ⟨z, t, e1, _⟩ := g e he
    exact ⟨z, t, by rw [← ev, e1]⟩
  have pk : (vs.map strOf).Perm (ms.toList.map txt) := by
    have q1 := pm.map strOf
    rw [(strs_of_txts ms.toList g).strs] at q1
    exact q1
  refine wpAny_bind (wpAny_newList ?_ lv2)
  have hL : (s1.heap.push (seqObj "list" vs.toArray 0)).get? s1.heap.objs.size = some (seqObj "list" vs.toArray 0) := Heap.get?_push_size _ rfl
  refine wpAny_bind (wpAny_holding (wpAny_call_entry PyProof.Rows.slot_list_sort ⟨_, hL, rfl⟩ PyProof.Rows.entry_list_sort
    (list_sort_treeKAny strKind_oneLt hL hS.keysOf (fun v₁ v₂ rest e => keyKind_strs (by rw [← e]; exact hS)) lv2 fun sx hp hs => ⟨_, rfl, ?_⟩) (PyProof.Rows.args_list_sort _)))
  obtain ⟨ys, y1, y2, y3⟩ := sorted_out_str hS hp hs
  obtain ⟨c, hc⟩ := sortedHeap_at (vs := vs) (out := (arrOf sx).map (·.2)) hL
  have py := y2.trans pk
  refine wpAny_pure ⟨_, rfl, cont _ s1.heap.objs.size _ c ys (fun b u e => ?_) g1 o1 z1 hc y1 y3 (py.nodup_iff.mpr nd) (fun z => by rw [py.mem_iff, hm z]) ?_⟩
  · have e1 := k1 b u e
    have lt := Heap.lt_size e1
    show (sortedHeap (s1.heap.push (seqObj "list" vs.toArray 0)) s1.heap.objs.size vs ((arrOf sx).map (·.2))).get? b = some u
    rw [sortedHeap_old (Nat.ne_of_lt lt) (by rw [size_push']; exact Nat.lt_succ_of_lt lt)]
    exact Heap.get?_push_of_some _ e1
  · rw [y2.length_eq, List.length_map]
    exact lv
end
/-! ### the rule -/
/-- sorted(set(a)), a list or a tuple of texts -/
def tSortSet (K : PySem.W.Frag) (ta : TE) : TE := fun σ H Q => ta σ H fun x H1 => ∃ (l : Addr) (zs : List Str), x = .ref l ∧ (SqL K H1 l (zs.map V.str) ∨ SqT K H1 l (zs.map V.str)) ∧ zs.length ≤ 1000 ∧
  ∀ (ys : List Str) (p : Addr), sortedS ys = true → ys.Nodup → (∀ z, z ∈ ys ↔ z ∈ zs) → ys.length ≤ zs.length → H1 p = none → Q (.ref p) (upd H1 p (.lst (ys.map V.str)))
section
variable {X : Cx}
theorem vals_get {zs : List Str} {its : List Value} (r : Vals (zs.map V.str) its) (i : Nat) (v : Value) (hyp : its[i]? = some v) : ∃ (z : Str) (t : Tok), zs[i]? = some z ∧ v = Value.str z t := by
  have hl := r.length
  rw [List.length_map] at hl
  have hi : i < zs.length := by
    rw [hl]
    exact (List.getElem?_eq_some_iff.mp hyp).1
  obtain ⟨u, hu, ru⟩ := r.get (i := i) (x := V.str zs[i]) (by rw [List.getElem?_map, List.getElem?_eq_getElem hi]; rfl)
  rw [hyp] at hu
  obtain rfl : v = u := Option.some.inj hu
  obtain ⟨t, et⟩ := ru
  exact ⟨zs[i], t, List.getElem?_eq_getElem hi, et⟩
theorem len_of {zs : List Str} {its : List Value} (r : Vals (zs.map V.str) its) : zs.length = its.toArray.size := by
  have cont := r.length
  rw [List.length_map] at cont
  rw [List.size_toArray, cont]
theorem room_of {zs : List Str} {its : List Value} (r : Vals (zs.map V.str) its) (hyp : zs.length ≤ 1000) : its.toArray.size + 1 < scanBound := by
  rw [← len_of r]
  unfold scanBound
  omega
theorem pe_sortSet {a : Expr} {ta : TE} {p p2 q2 pos : Pos} (hc : X.calm = true) (hg : Gl X "sorted") (hm : X.mg "sorted" = none) (hg2 : Gl X "set") (hm2 : X.mg "set" = none) (ha : PE X a ta) (na : starEach [a] X.env = (false, eval a X.env) :: starEach [] X.env := by rfl) :
    PE X (.Call (.Name "sorted" p) [.Call (.Name "set" p2) [a] [] q2] [] pos) (tSortSet X.K ta) := by
  refine ⟨fun pins s σ H Q Iv hyp => ?_⟩
  refine Call_ (ld_blt Iv hg hm (show bootBuiltins "sorted" = some (.builtin "sorted") by decide +kernel) (PyProof.Rows.callWith_builtin1 (PyProof.Rows.args_cons ?_ rfl) rfl rfl))
  refine Call_ (ld_blt Iv hg2 hm2 boot_set (PyProof.Rows.callWith_type1 (PyProof.Rows.args_cons (thn (ha.run pins s σ H _ Iv hyp) fun v s1 ⟨x, H1, Iv1, r1, q1⟩ => PyProof.Rows.args_nil ?_) na) na rfl))
  obtain ⟨l, zs, rfl, hq, h1, q1⟩ := q1
  cases r1
  have fin : ∀ (its : List Value), Vals (zs.map V.str) its → ∀ (hp' : Heap) (tk : Nat), SetTx X.prog X.w hp' s1.heap.objs.size zs its.toArray.size → (∀ b ob, s1.heap.get? b = some ob → hp'.get? b = some ob) →
      wpAny (model X.prog X.w) X.A (spliced (backTo pos (starEach [] X.env))) (fun vs s₂ => wpAny (model X.prog X.w) X.A (call (.builtin "sorted") (Value.ref s1.heap.objs.size :: vs)) (EP X pins σ Q) X.xe s₂) X.xe { s1 with heap := hp', toks := tk } := fun its r hp' tk T kp => by
    refine PyProof.Rows.args_nil
        ?_
    have Iv2 : Inv X pins σ H1 { s1 with heap := hp', toks := tk } := Iv1.kept kp
    have n1 : its.toArray.size = zs.length := by
      have cont := r.length
      rw [List.length_map] at cont
      rw [List.size_toArray, cont]
    rw [n1] at T
    refine sorted_setTx T (Iv1.ok.hd hc) fun s3 p' out c ys k3 g3 o3 z3 hp3 y1 y2 y3 y4 y5 => ?_
    have Iv3 := Iv2.tok tk
    have hn : H1 p' = none := Iv2.hok.fresh z3
    have big : (ys.map V.str).length ≤ sizeLine := by
      rw [List.length_map,
          sizeLine_eq]
      omega
    obtain ⟨hp4, g4, d4, t4, o4⟩ := s3
    obtain rfl : o4 = s1.os := o3
    have bare4 : AllBare g4 := by
      rw [show g4 = s1.gens from g3]
      exact Iv2.bare
    have un : Un X.fs [] H1 (upd H1 p' (.lst (ys.map V.str))) hp' hp4 := Un.laid k3 z3 hn
    have ok4 : HOk X.prog X.w (upd H1 p' (.lst (ys.map V.str))) hp4 := Iv2.hok.laid k3 z3 ⟨big, out.toList, c, vals_of_strs y1, hp3⟩
    exact ⟨.ref p', _, L2.Inv.call (s := { s1 with heap := hp', toks := tk }) Iv2 (ch := []) (Un.laid k3 z3 hn) ok4 bare4 (fun _ z => nomatch z), rfl, q1 ys p' y2 y3 y4 y5 hn⟩
  rcases hq with hq | hq
  · obtain ⟨its, r, pl, hz⟩ := Iv1.list hq
    obtain ⟨⟨c0, d0, dt0, sl0⟩, ho, hc0, n0, hd0⟩ := pl.isList
    obtain rfl : c0 = Value.type "list" := hc0
    exact call_set_any (src_list l its.toArray) (Iv1.ok.hd hc) ho pl.isList (fun i v hv => vals_get r i v (by simpa using hv)) (len_of r) (room_of r h1) fun hp' tk T kp => fin its r hp' tk T kp
  · obtain ⟨its, r, pl, hz⟩ := Iv1.tuple hq
    obtain ⟨⟨c0, d0, dt0, sl0⟩, ho, hc0, n0, hd0⟩ := id pl
    obtain rfl : c0 = Value.type "tuple" := hc0
    exact call_set_any (src_tuple l its.toArray) (Iv1.ok.hd hc) ho pl (fun i v hv => vals_get r i v (by simpa using hv)) (len_of r) (room_of r h1) fun hp' tk T kp => fin its r hp' tk T kp
end
end TxS
namespace K1
open PySem PySem.Spec PyProof.Rows L2 EnT StX SmX TxS
/-! ### errors of the program -/
structure ErrC (K : PySem.W.Frag) (mg : Str → Option Value) (x f : Str) (C fI : Addr) : Prop where
  g : mg x = some (.ref C)
  ox : OexC K C
  no : PySem.W.findIn K (.ref C) f = some none
  ini : PySem.W.findIn K (.ref C) "__init__" = some (some (.ref fI))
  ty : PySem.W.typeIn K (.ref fI) = some (.type "function")
/-- an error of the class at C with one field, let go from the heap H -/
def ErrAt (C : Addr) (f : Str) (v : V) (H : Hp) (E : XK) : Prop := ∀ (d : Addr) (H' : Hp), Same H H' → H' d = none → E (.ref C) (some d) (upd H' d (.xd [(f, v)]))
def spErr (C : Addr) (f : Str) : Sp := fun vs H Q _ => ∃ (a : Addr) (v : V), vs = [.ref a, v] ∧ H a = some (exo a C none) ∧ ∀ d, H d = none → d ≠ a → Q .non (upd (upd H d (exd d [(f, v)])) a (exo a C (some d)))
theorem raise_heap {H : Hp} {a d : Addr} {o1 o2 o3 o4 : HO} (n : H a = none) (hd : d ≠ a) : upd (del (upd (upd (upd H a o1) d o2) a o3) a) d o4 = upd H d o4 := by
  funext b
  by_cases h1 : b = d
  · rw [h1, upd_same, upd_same]
  · rw [upd_ne h1, upd_ne h1]
    by_cases h2 : b = a
    · rw [h2, del_same, n]
    · rw [del_ne h2, upd_ne h2, upd_ne h1, upd_ne h2]
section
variable {w : World} {P : Program}
variable {base : Heap} {mg : Str → Option Value} {K : PySem.W.Frag}
theorem scErrN : FnScope ["self", "index"] ["self", "index"] (defScope sErrNames) := ⟨rfl, rfl, rfl, by decide +kernel, rfl, by decide +kernel, by decide +kernel⟩
theorem scErrT : FnScope ["self", "value"] ["self", "value"] (defScope sErrText) := ⟨rfl, rfl, rfl, by decide +kernel, rfl, by decide +kernel, by decide +kernel⟩
theorem ok_errN {f C fI : Addr} {fd : FuncData} (F : Fun K "__init__" "InvalidNames.__init__" sErrNames f fd) (T : ErrC K mg "InvalidNames" "index" C fI) : FnOk P w K mg base CX0 1 f fd ["self", "index"] (spErr C "index") := by
  refine F.ok scErrN (fun vs H Q E h => ?_) (fun cdv A outer s H vs Q E hr h => ?_)
  · obtain ⟨a, v, rfl, _⟩ := h
    rfl
  · obtain ⟨a, v, rfl, ha, q⟩ := h
    exact ⟨_, pss_one (ps_ost (pv 0) (pv 1)), _, rfl, _, rfl, a, C, rfl, T.ox, T.no, .inl ⟨ha, fun d nd ne => q d nd ne⟩⟩
theorem ok_errT {f C fI : Addr} {fd : FuncData} (F : Fun K "__init__" "InvalidText.__init__" sErrText f fd) (T : ErrC K mg "InvalidText" "value" C fI) : FnOk P w K mg base CX0 1 f fd ["self", "value"] (spErr C "value") := by
  refine F.ok scErrT (fun vs H Q E h => ?_) (fun cdv A outer s H vs Q E hr h => ?_)
  · obtain ⟨a, v, rfl, _⟩ := h
    rfl
  · obtain ⟨a, v, rfl, ha, q⟩ := h
    exact ⟨_, pss_one (ps_ost (pv 0) (pv 1)), _, rfl, _, rfl, a, C, rfl, T.ox, T.no, .inl ⟨ha, fun d nd ne => q d nd ne⟩⟩
end
/-! ### Members -/
def flds (t d : Addr) : List (Str × V) := putF "_table" (.ref d) (putF "_names" (.ref t) [])
def tabOf (zs : List Str) : List (Key × V) := zs.map fun z => (Sum.inr z, V.bl true)
structure MemAt (C : Addr) (H : Hp) (p : Addr) (zs : List Str) : Prop where
  at_ : ∃ dx t d, H p = some (.ins C dx (flds t d)) ∧ H t = some (.tup (zs.map V.str)) ∧ H d = some (.dK (tabOf zs))
  srt : sortedS zs = true
  nd : zs.Nodup
  few : zs.length ≤ 1000
  nm : ∀ z ∈ zs, nameB z = true
theorem MemAt.same {C : Addr} {H H' : Hp} {p : Addr} {zs : List Str} (s : Same H H') (m : MemAt C H p zs) : MemAt C H' p zs := by
  obtain ⟨⟨dx, t, d, h1, h2, h3⟩, a, b, c, e⟩ := m
  exact ⟨⟨dx, t, d, s _ _ h1, s _ _ h2, s _ _ h3⟩, a, b, c, e⟩
/-- what Members(..) gives: new Members of these texts -/
def Makes (C : Addr) (zs : List Str) (H : Hp) (Q : VK) : Prop := ∀ (p : Addr) (ys : List Str) (H' : Hp), H p = none → Same H H' → (∀ z, z ∈ ys ↔ z ∈ zs) → MemAt C H' p ys → Q (.ref p) H'
structure MemC (K : PySem.W.Frag) (mg : Str → Option Value) (C : Addr) : Prop where
  g : mg "Members" = some (.ref C)
  cl : Cls K C
  nN : NoAttr K C "_names"
  nT : NoAttr K C "_table"
/-- __init__, its names a tuple at t -/
def spInit0 (K : PySem.W.Frag) (C CN : Addr) : Sp := fun vs H Q E => ∃ (p t dx : Addr) (xs : List V), vs = [.ref p, .ref t] ∧ H p = some (.ins C dx []) ∧ SqT K H t xs ∧ (∀ v ∈ xs, VOk H v) ∧ xs.length ≤ 1000 ∧
  (∀ i, wrongIx xs = some i → ErrAt CN "index" (.int i) H E) ∧ (wrongIx xs = none → ∀ zs : List Str, xs = zs.map V.str → ∀ (ys : List Str) (H' : Hp), (∀ b o, b ≠ p → H b = some o → H' b = some o) → (∀ z, z ∈ ys ↔ z ∈ zs) → MemAt C H' p ys → Q .non H')
theorem all_texts : ∀ {xs : List V}, wrongIx xs = none → ∃ zs : List Str, xs = zs.map V.str
  | [], _ => ⟨[], rfl⟩
  | x :: r, h => by
    unfold wrongIx at h
    rw [List.findIdx?_eq_none_iff] at h
    have hr : wrongIx r = none := by
      unfold wrongIx
      rw [List.findIdx?_eq_none_iff]
      exact fun y hy => h y (List.mem_cons_of_mem _ hy)
    obtain ⟨zs, e⟩ := all_texts hr
    have hx := h x List.mem_cons_self
    cases x with
    | str z => exact ⟨z :: zs, by rw [e]; rfl⟩
    | _ => simp [nameV] at hx
theorem names_ok {zs : List Str} (h : wrongIx (zs.map V.str) = none) : ∀ z ∈ zs, nameB z = true := fun z hz => by
  unfold wrongIx at h
  rw [List.findIdx?_eq_none_iff] at h
  simpa [nameV] using h (V.str z) (List.mem_map.mpr ⟨z, hz, rfl⟩)
section
variable {w : World} {P : Program}
variable {base : Heap} {mg : Str → Option Value} {K : PySem.W.Frag}
theorem kNT : ¬ (("_names" : Str) = "_table") := by decide +kernel
theorem look_names (u : Addr) : (putF "_names" (V.ref u) []).lookup ("_names" : Str) = some (.ref u) := by
  rw [lookup_putF, if_pos rfl]
theorem tab_none {zs : List Str} {z : Str} (h : z ∉ zs) : valV (tabOf zs) (Sum.inr z : Key) = none := by
  induction zs with
  | nil => rfl
  | cons a r ih =>
    have ha : ¬ a = z := fun e => h (e ▸ List.mem_cons_self)
    show valV ((Sum.inr a, V.bl true) :: tabOf r) (Sum.inr z : Key) = none
    rw [valV_neg (fun e => ha (Sum.inr.inj e))]
    exact ih fun m => h (List.mem_cons_of_mem _ m)
theorem take_nodup_none {ys : List Str} {i : Nat} {z : Str} (nd : ys.Nodup) (h : ys[i]? = some z) : z ∉ ys.take i := by
  intro m
  obtain ⟨ltX, e⟩ := List.getElem?_eq_some_iff.mp h
  obtain ⟨j, hj, ej⟩ := List.mem_iff_getElem.mp m
  rw [List.length_take] at hj
  rw [List.getElem_take] at ej
  have := (List.getElem_inj nd).mp (ej.trans e.symm)
  omega
abbrev nmInit : List Str := ["self", "names", "at", "name"]
theorem scInit : FnScope nmInit ((["self"] : List Str) ++ (["names"] : List Str)) (defScope sInit) := ⟨rfl, rfl, rfl, by decide +kernel, rfl, by decide +kernel, by decide +kernel⟩
theorem ok_init {f fW fE C CN : Addr} {fd fdW fdE : FuncData} (F : Fun K "__init__" "Members.__init__" sInit f fd) (T : Free mg) (M : MemC K mg C) (GW : FnOk P w K mg base CX0 2 fW fdW ["values"] (spWrongT K)) (FW : Fun K "wrong_at" "wrong_at" sWrong fW fdW) (mgW : mg "wrong_at" = some (.ref fW))
    (EN : ErrC K mg "InvalidNames" "index" CN fE) (FE : Fun K "__init__" "InvalidNames.__init__" sErrNames fE fdE) :
    FnR P w K mg base (L2.CX P w) 4 f (fun vs H Q E => ∃ ws rest, vs = ws ++ rest ∧ ws.length = (["self"] : List Str).length ∧ rest.length ≤ sizeLine ∧ ∀ p, H p = Option.none → spInit0 K C CN (ws ++ [V.ref p]) (upd H p (.tup rest)) Q E) := by
  have bW : Binds K fdW ["values"] [] := FW.binds (ps := ["values"]) fun _ _ _ _ _ _ us hl => match us, hl with | [_], _ => rfl
  have bE : Binds K fdE ["self", "index"] [] := FE.binds (ps := ["self", "index"]) fun _ _ _ _ _ _ us hl => match us, hl with | [_, _], _ => rfl
  have GE : FnOk P w K mg base CX0 1 fE fdE ["self", "index"] (spErr CN "index") := ok_errN FE EN
  obtain ⟨oc, oD, kV, doc, pm, an, cdv, ct, osl, rfl, lk, hcd⟩ := F.ex
  refine fn_star (ps := ["self"]) (pv := "names") (sp := spInit0 K C CN) lk hcd scInit cxUp (bind_star1 (B := fun us => bindArgs (PySem.W.fnOf "__init__" "Members.__init__" (defArgs sInit) (defBody sInit) (defScope sInit) .none kV doc pm an cdv ct) ⟨us, []⟩) (p1 := "self") (pv := "names") (fun a => rfl) fun a r rs => rfl) fun A outer s H vs Q E hr h => ?_
  obtain ⟨p, t, dx, xs, rfl, hp, hS, hv, hl, qE, q⟩ := h
  refine ⟨_, pss_cons (ps_set (i := 2) scInit.nd rfl (.inl rfl) (pe_call GW (hr.mono (by decide)) rfl mgW FW.kp bW .nil pass0 (pa_cons (pv 1) pa_nil)))
    (pss_cons (ps_if (pt_cmp (pc_notN (pv 2))) (pss_one (ps_raise rfl (takes_of rfl rfl rfl rfl) (pmk_oex EN.ox EN.ini EN.ty GE (hr.mono (by decide)) bE .nil pass0 rfl EN.g (pa_cons (pv 2) pa_nil)))) pss_nil)
    (pss_cons (ps_fld (pv 0) (pe_callTy call_tuple_of (by rfl) T.tuple (by decide +kernel) (pa_cons (pe_sortSet rfl (by rfl) T.sorted (by rfl) T.set (pv 1)) pa_nil)) rfl)
    (pss_one (ps_fld (pv 0) (pe_dc (own := [("name", 3)]) (g := gName 3) (tt := tYes) rfl scInit.nd (pi_tup (pe_fld (pv 0) rfl)) (blkOk_by (own := [("name", 3)]) (N := nmInit) (sc := defScope sInit) (by decide +kernel)) (fun _ _ _ _ _ => pg_name (i := 3) scInit.nd rfl (Or.inl rfl)) (fun _ _ _ _ _ => pts_nil) (fun _ _ _ _ _ => pv 3) (fun _ _ _ _ _ => pe_bl)) rfl)))), ?_⟩
  refine ⟨_, rfl, t, xs, rfl, hS, hv, fun H1 sm => ?_⟩
  refine ⟨_, rfl, _, rfl, ?_⟩
  cases hw : wrongIx xs with
  | some i =>
    refine iteT ?_
    refine ⟨_, rfl, (by show 1 ≤ 1000; decide), fun a na => ⟨a, _, rfl, upd_same, fun d nd ne => ⟨rfl, d, [("index", .int i)], upd_same, ?_, ?_, ?_⟩⟩⟩
    · rw [upd_ne ne, upd_same]
      rfl
    · rw [upd_ne ne] at nd
      exact nd
    · rw [raise_heap na ne]
      rw [upd_ne ne] at nd
      exact qE i hw d H1 sm nd
  | none =>
    refine iteF ?_
    obtain ⟨zs, rfl⟩ := all_texts hw
    have hS1 : SqT K H1 t (zs.map V.str) := sameT sm hS
    have hp1 := sm _ _ hp
    refine ⟨_, rfl, t, zs, rfl, .inr hS1, by rw [List.length_map] at hl; exact hl, fun ys l y1 y2 y3 y4 nl => ?_⟩
    refine ⟨l, _, rfl, .inl ⟨SqL.of upd_same, fun u nu => ?_⟩⟩
    have nu1 : H1 u = none := by
      by_cases e : u = l
      · rw [e, upd_same] at nu
        cases nu
      · rw [upd_ne e] at nu
        exact nu
    have pu : p ≠ u := ne_of_none hp1 nu1
    have pl : p ≠ l := ne_of_none hp1 nl
    have s1 : Same H1 (upd H1 l (.lst (ys.map V.str))) := same_upd nl
    have s2 : Same (upd H1 l (.lst (ys.map V.str))) (upd (upd H1 l (.lst (ys.map V.str))) u (.tup (ys.map V.str))) := same_upd nu
    refine ⟨_, rfl, p, C, dx, [], rfl, s2 _ _ (s1 _ _ hp1), M.cl, M.nN, (by show 0 < 1000; decide), ?_⟩
    generalize e4 : upd (upd (upd H1 l _) u _) p _ = H4
    have h4p : H4 p = some (.ins C dx (putF "_names" (.ref u) [])) := by
      rw [← e4]
      exact upd_same
    have h4u : H4 u = some (.tup (ys.map V.str)) := by
      rw [← e4, upd_ne (Ne.symm pu)]
      exact upd_same
    have kp : ∀ b o, b ≠ p → H b = some o → H4 b = some o := fun b o n z => by
      rw [← e4, upd_ne n]
      exact s2 _ _ (s1 _ _ (sm _ _ z))
    clear e4
    refine ⟨_, rfl, p, C, dx, _, _, rfl, h4p, M.cl, M.nN, look_names u, u, rfl, ⟨_, SqT.of h4u⟩, fun D nD => ?_⟩
    have Dp : D ≠ p := fun e => by
      rw [e, h4p] at nD
      cases nD
    have Du : D ≠ u := fun e => by
      rw [e, h4u] at nD
      cases nD
    have few : ys.length ≤ 1000 := Nat.le_trans y4 (by rw [List.length_map] at hl; exact hl)
    refine dc_tup (K := K) (a := u) (xs := ys.map V.str) (fun i H' => (∀ b o, b ≠ D → H4 b = some o → H' b = some o) ∧ H' D = some (.dK (tabOf (ys.take i)))) ?_ ?_ ?_ ?_
    · exact ⟨fun b o n z => by rw [upd_ne n]; exact z, upd_same⟩
    · rintro i H' ltX ⟨k, hD⟩
      exact SqT.of (k _ _ (Ne.symm Du) h4u)
    · rintro i x H' hx ⟨k, hD⟩
      rw [List.getElem?_map] at hx
      obtain ⟨z, ez, rfl⟩ := Option.map_eq_some_iff.mp hx
      have ltX : i < ys.length := (List.getElem?_eq_some_iff.mp ez).1
      refine ⟨rfl, ?_⟩
      refine ⟨_, rfl, tabOf (ys.take i), Sum.inr z, rfl, hD, ?_, ?_, ?_⟩
      · unfold tabOf
        rw [List.length_map, List.length_take]
        exact small1000 (by omega)
      · intro b o n q2
        rw [upd_ne n]
        exact k b o n q2
      · rw [upd_same, putK_new _ (tab_none (take_nodup_none y2 ez))]
        unfold tabOf
        rw [List.take_add_one, ez, List.map_append]
        rfl
    · rintro H' ⟨k, hD⟩
      rw [List.length_map, List.take_length] at hD
      refine ⟨_, rfl, p, C, dx, _, rfl, k _ _ (Ne.symm Dp) h4p, M.cl, M.nT, (by rw [show (putF "_names" (V.ref u) []).length = 1 from rfl]; decide), ?_⟩
      refine q hw zs rfl ys _ (fun b o n z => ?_) y3 ⟨⟨dx, u, D, upd_same, ?_, ?_⟩, y1, y2, few, fun z hz => names_ok hw z ((y3 z).mp hz)⟩
      · rw [upd_ne n]
        exact k b o (fun e => by rw [e] at z; have := kp D o (e ▸ n) z; rw [nD] at this; cases this) (kp b o n z)
      · rw [upd_ne (Ne.symm pu)]
        exact k _ _ (Ne.symm Du) h4u
      · rw [upd_ne Dp]
        exact hD
end
end K1
/-! str(o), repr(o), len(o), bool(o), v in o, o == v, o != v by an own class's methods -/
namespace DuX
open PySem PySem.Spec
open PyProof.Rows L2
section
variable {X : Cx} {CX : CXT} {k : Nat} {g C : Addr} {sp : Sp} {Ek : XK} {pins : List (Addr × Obj)} {σ : L2.St} {H : Hp} {s : Shared}
/-- a method is run somewhere below the body that runs -/
theorem run_below {A : Around} {valsU : List Value} {vs : List V} {Q : VK} (F : FnR X.prog X.w X.K X.mg X.base CX k g sp) (hr : Room k A) (hf : A.frames = X.A.frames) (hx : Passes CX X Ek) (Iv : Inv X pins σ H s) (r : Vals vs valsU) (hyp : sp vs H Q Ek) :
    wpAny (model X.prog X.w) A (call (.ref g) valsU) (EP X pins σ Q) X.xe s := by
  have e0 : Env0 X.prog X.w X.K
      X.mg X.base A X.stack s H := by
    obtain ⟨a1, a2, a3, a4, a5, a6, a7, a8⟩ := Iv.env0
    exact ⟨by rw [hf]; exact a1, a2, a3, a4, a5, a6, a7, a8⟩
  refine wpAny_call (codeAny_mono (F A X.stack s H valsU vs Q Ek hr e0 r hyp) fun res s1 hq => ?_)
  match res, hq with
  | .error e, hq => exact hx pins σ H s e s1 Iv hq
  | .ok (.ret u), hq => exact Iv.after hq
  | .ok .next, hq => exact False.elim hq
  | .ok .brk, hq => exact False.elim hq
  | .ok .cont, hq => exact False.elim hq
/-- the class at C has the method m, at g -/
structure OwnM (K : PySem.W.Frag) (C : Addr) (m : Str) (g : Addr) : Prop where
  at_ : PySem.W.findIn K (.ref C) m = some (some (.ref g))
  fn : PySem.W.isFn
      K (.ref g) = true
theorem inst_of {a dx : Addr} {fs : List (Str × V)} (Iv : Inv X pins σ H s) (hyp : H a = some (.ins C dx fs)) : ∃ ox od, PySem.W.InstAt s.heap a ox C (some od) := by
  obtain ⟨mA, O, _⟩ := ins_get Iv.hok hyp
  obtain ⟨od, J, _⟩ := O.look
  exact ⟨_, od, J⟩
/-- str(o) -/
theorem call_strO (m : OwnM X.K C "__str__" g) (F : FnR X.prog X.w X.K X.mg X.base CX k g sp) (hr : Room (k + 2) X.A) (hx : Passes CX X Ek) :
    CallR X (.type "str") (fun xs H Q => ∃ a dx fs, xs = [.ref a] ∧ H a = some (.ins C dx fs) ∧ sp [.ref a] H (fun v H' => ∃ z, v = .str z ∧ Q (.str z) H') Ek) := by
  intro pins s σ H xs valsU Q Iv r hyp
  obtain ⟨a, dx, fs, rfl, atA, cont⟩ := hyp
  rw [Vals.ref1 r]
  obtain ⟨ox, od, J⟩ := inst_of Iv atA
  refine PySem.W.kso_call hr.in1.in1.units0 Iv.kIn J m.at_ m.fn ?_
  refine wpAny_mono (run_below F hr.in1.in1 rfl hx Iv (vs := [V.ref a]) (.cons rfl .nil) cont) (fun u s1 hu => ?_) fun _ _ e => e
  obtain ⟨v, H1, Iv1, rv, z, rfl, q1⟩ := hu
  obtain ⟨t, rfl⟩ := rv
  exact ⟨.str z, H1, Iv1, ⟨t, rfl⟩, q1⟩
/-- repr(o) -/
theorem call_reprO (m : OwnM X.K C "__repr__" g) (F : FnR X.prog X.w X.K X.mg X.base CX k g sp) (hr : Room (k + 1) X.A) (hx : Passes CX X Ek) :
    CallR X (.builtin "repr") (fun xs H Q => ∃ a dx fs, xs = [.ref a] ∧ H a = some (.ins C dx fs) ∧ sp [.ref a] H (fun v H' => ∃ z, v = .str z ∧ Q (.str z) H') Ek) := by
  intro pins s σ H xs valsU Q Iv r hyp
  obtain ⟨a, dx, fs, rfl, atA, cont⟩ := hyp
  rw [Vals.ref1 r]
  obtain ⟨ox, od, J⟩ := inst_of Iv atA
  obtain ⟨mm, hF⟩ := Iv.fr
  refine PySem.W.repr_K hr.in1.units0 hF Iv.ok.mod.kin J m.at_ m.fn ?_
  refine wpAny_mono (run_below F hr.in1 rfl hx Iv (vs := [V.ref a]) (.cons rfl .nil) cont) (fun u s1 hu => ?_) fun _ _ e => e
  obtain ⟨v, H1, Iv1, rv, z, rfl, q1⟩ := hu
  obtain ⟨t, rfl⟩ := rv
  exact ⟨.str z, H1, Iv1, ⟨t, rfl⟩, q1⟩
/-- len(o) -/
theorem call_lenO (m : OwnM X.K C "__len__" g) (F : FnR X.prog X.w X.K X.mg X.base CX k g sp) (hr : Room (k + 1) X.A) (hx : Passes CX X Ek) :
    CallR X (.builtin "len") (fun xs H Q => ∃ a dx fs, xs = [.ref a] ∧ H a = some (.ins C dx fs) ∧ sp [.ref a] H (fun v H' => ∃ n : Nat, v = .int n ∧ n < 2 ^ 62 ∧ Q (.int n) H') Ek) := by
  intro pins s σ H xs valsU Q Iv r hyp
  obtain ⟨a, dx, fs, rfl, atA, cont⟩ := hyp
  rw [Vals.ref1 r]
  obtain ⟨ox, od, J⟩ := inst_of Iv atA
  obtain ⟨mm, hF⟩ := Iv.fr
  refine PySem.W.len_K hF Iv.ok.mod.kin J m.at_ m.fn ?_
  refine wpAny_mono (run_below F hr.in1 rfl hx Iv (vs := [V.ref a]) (.cons rfl .nil) cont) (fun u s1 hu => ?_) fun _ _ e => e
  obtain ⟨v, H1, Iv1, rv, n, rfl, hn, q1⟩ := hu
  obtain ⟨t, rfl⟩ := rv
  exact ⟨⟨by omega, by omega⟩, .int n, H1, Iv1.tok _, ⟨_, rfl⟩, q1⟩
/-- v in o -/
theorem op_inO (m : OwnM X.K C "__contains__" g) (F : FnR X.prog X.w X.K X.mg X.base CX k g sp) (hr : Room k X.A) (hx : Passes CX X Ek) :
    OpR X (compareOp .In) (fun x y H Q => ∃ a dx fs, y = .ref a ∧ H a = some (.ins C dx fs) ∧ sp [.ref a, x] H (fun v H' => ∃ b, v = .bl b ∧ Q (.bl b) H') Ek) := by
  intro pins s σ H x y u v Q Iv rx ry hyp
  obtain ⟨a, dx, fs, rfl, atA, cont⟩ := hyp
  cases ry
  obtain ⟨ox, od, J⟩ := inst_of Iv atA
  obtain ⟨mm, hF⟩ := Iv.fr
  refine PySem.W.in_K hF Iv.ok.mod.kin J m.at_ m.fn ?_
  refine wpAny_mono (run_below F hr rfl hx Iv (vs := [V.ref a, x]) (.cons rfl (.cons rx .nil)) cont) (fun u' s1 hu => ?_) fun _ _ e => e
  obtain ⟨v', H1, Iv1, rv, b, rfl, q1⟩ := hu
  cases rv
  exact wpAny_truthy_bool ⟨.bl b, H1, Iv1, rfl, q1⟩
/-- o == v: the own method answers with a truth value -/
theorem rc_eq {A : Around} {a dx : Addr} {fs : List (Str × V)} {y : V} {u t : Value} {Q : Bool → Hp → Prop} (m : OwnM X.K C "__eq__" g) (F : FnR X.prog X.w X.K X.mg X.base CX k g sp) (hr : Room k A) (hf : A.frames = X.A.frames) (hx : Passes CX X Ek) (Iv : Inv X pins σ H s) (atA : H a = some (.ins C dx fs))
    (ry : RelV y u) (ty : ∀ M : Model, PySem.W.Looks M s.heap (typeOf u) t) (nf : PySem.W.notFirst X.K C t = true) (cont : sp [.ref a, y] H (fun v H' => ∃ b, v = .bl b ∧ Q b H') Ek) :
    wpAny (model X.prog X.w) A (richCompare .Eq (.ref a) u) (fun r s1 => ∃ b, r = .bool b ∧ ∃ H', Inv X pins σ H' s1 ∧ Q b H') X.xe s := by
  obtain ⟨ox, od, J⟩ := inst_of Iv atA
  obtain ⟨mm, hF⟩ := Iv.fr
  refine PySem.W.cmp_K (op := .Eq) hr.units0 hF Iv.ok.mod.kin J (ty _) nf m.at_ m.fn ?_
  refine wpAny_mono (run_below F hr hf hx Iv (vs := [V.ref a, y]) (.cons rfl (.cons ry .nil)) cont) (fun w s1 hu => ?_) fun _ _ e => e
  obtain ⟨v, H1, Iv1, rv, b, rfl, q1⟩ := hu
  cases rv
  exact ⟨b, rfl, H1, Iv1, q1⟩
theorem op_eqO (m : OwnM X.K C "__eq__" g) (F : FnR X.prog X.w X.K X.mg X.base CX k g sp) (hr : Room k X.A) (hx : Passes CX X Ek) :
    OpR X (compareOp .Eq) (fun x y H Q => ∃ a dx fs t, x = .ref a ∧ H a = some (.ins C dx fs) ∧ (∀ pins σ s u, Inv X pins σ H s → RelV y u → ∀ M : Model, PySem.W.Looks M s.heap (typeOf u) t) ∧ PySem.W.notFirst X.K C t = true ∧ sp [.ref a, y] H (fun v H' => ∃ b, v = .bl b ∧ Q (.bl b) H') Ek) := by
  intro pins s σ H x y u v Q Iv rx ry hyp
  obtain ⟨a, dx, fs, t, rfl, atA, ty, nf, cont⟩ := hyp
  cases rx
  refine wpAny_mono (rc_eq (Q := fun b H' => Q (.bl b) H') m F hr rfl hx Iv atA ry (ty pins σ s _ Iv ry) nf cont) (fun r s1 z => ?_) fun _ _ e => e
  obtain ⟨b, rfl, H1, Iv1, q1⟩ := z
  exact ⟨.bl b, H1, Iv1, rfl, q1⟩
/-- a special method that is a built-in's -/
theorem bound_bi {M : Model} {A : Around} {E : Value → Shared → Prop} {a : Addr} {ox : Obj} {od : Option Obj} {name : Str} {id : String} {args : List Value} {Q : Option Value → Shared → Prop} {Kf : PySem.W.Frag} (kin : Kf.In s.heap) (J : PySem.W.InstAt s.heap a ox C od) (hs : PySem.W.findIn Kf (.ref C) name = some (some (.builtin id)))
    (hb : ∀ self, bindSpecial (.builtin id) self = pure (.builtin id, [self])) (hyp : wpAny M A (call (.builtin id) (.ref a :: args)) (fun v => Q (some v)) E s) : wpAny M A (callSpecialIfBound? (.ref a) name args) Q E s := by
  simp only [callSpecialIfBound?,
      bindSpecialIfBound?]
  refine wpAny_holding (wpAny_bind (wpAny_bind (wpAny_bind (J.type.here ((PySem.W.looks_findIn kin hs).here ?_)))))
  have go : wpAny M A (call (.builtin id) ([.ref a] ++ args) >>= fun v => pure (some v)) Q E s := wpAny_bind (wpAny_mono hyp (fun v s1 z => wpAny_pure z) fun _ _ z => z)
  refine wpAny_bind (wpAny_askSetting
      (wpAny_ite ?_))
  split
  · exact wpAny_bind ((PySem.W.Looks.of_pure (hb _)).here (wpAny_pure go))
  · exact wpAny_tryCatch (wpAny_bind ((PySem.W.Looks.of_pure (hb _)).here (wpAny_pure go)))
/-- object.__ne__(o, v), where o's class has its own == -/
theorem one_ne {A : Around} {a dx : Addr} {fs : List (Str × V)} {y : V} {u : Value} {Q : Bool → Hp → Prop} (m : OwnM X.K C "__eq__" g) (hm : PySem.W.mroIn X.K C (.type "object") = some true) (F : FnR X.prog X.w X.K X.mg X.base CX k g sp) (hr : Room (k + 1) A) (hf : A.frames = X.A.frames) (hx : Passes CX X Ek) (Iv : Inv X pins σ H s) (atA : H a = some (.ins C dx fs))
    (ry : RelV y u) (cont : sp [.ref a, y] H (fun v H' => ∃ b, v = .bl b ∧ Q b H') Ek) :
    wpAny (model X.prog X.w) A (call (.builtin "object.__ne__") [.ref a, u]) (fun r s1 => ∃ b, r = .bool (!b) ∧ ∃ H', Inv X pins σ H' s1 ∧ Q b H') X.xe s := by
  obtain ⟨ox, od, J⟩ := inst_of Iv atA
  refine wpAny_call (codeAny_call_builtin PySem.F.slot_object_ne.plain PySem.F.cmpEntry_ne (PySem.W.check_slot (i := "object.__ne__") (owner := "object") (n := "__ne__") (by decide +kernel) (by decide +kernel) (J.type.andThen (PySem.W.looks_mroIn Iv.kIn hm)) (PySem.F.cmpArgs_ne _ _) ?_))
  unfold
    Builtin.«object.__ne__»
  refine wpAny_bind (m := slotArgs "__ne__" 1 _) (wpAny_pure ?_)
  refine wpAny_bind (m := cRoomFor _ _) (wpAny_cRoomFor hr.in1.units0 ?_)
  refine wpAny_bind (m := callSpecialIfBound? (.ref a) (Str.ofString "__eq__") _) (PySem.W.ifBound_K Iv.kIn J m.at_ m.fn ?_)
  refine wpAny_mono (run_below F hr.in1 hf hx Iv (vs := [V.ref a, y]) (.cons rfl (.cons ry .nil)) cont) (fun w s1 hu => ?_) fun _ _ e => e
  obtain ⟨v, H1, Iv1, rv, b, rfl, q1⟩ := hu
  cases rv
  refine wpAny_bind (wpAny_truthy_bool ?_)
  exact wpAny_pure ⟨_, rfl, H1, Iv1, q1⟩
theorem rc_ne {A : Around} {a dx : Addr} {fs : List (Str × V)} {y : V} {u t : Value} {Q : Bool → Hp → Prop} (m : OwnM X.K C "__eq__" g) (hn : PySem.W.findIn X.K (.ref C) "__ne__" = some (some (.builtin "object.__ne__"))) (hm : PySem.W.mroIn X.K C (.type "object") = some true) (F : FnR X.prog X.w X.K X.mg X.base CX k g sp) (hr : Room (k + 1) A) (hf : A.frames = X.A.frames)
    (hx : Passes CX X Ek) (Iv : Inv X pins σ H s) (atA : H a = some (.ins C dx fs)) (ry : RelV y u) (ty : ∀ M : Model, PySem.W.Looks M s.heap (typeOf u) t) (nf : PySem.W.notFirst X.K C t = true) (cont : sp [.ref a, y] H (fun v H' => ∃ b, v = .bl b ∧ Q b H') Ek) :
    wpAny (model X.prog X.w) A (richCompare .NotEq (.ref a) u) (fun r s1 => ∃ b, r = .bool (!b) ∧ ∃ H', Inv X pins σ H' s1 ∧ Q b H') X.xe s := by
  obtain ⟨ox, od, J⟩ := inst_of Iv atA
  have one : wpAny (model X.prog X.w) A (tryCompare (.ref a) (cmpInfo .NotEq).2.1 u) (fun r s1 => ∃ b, r = some (.bool (!b)) ∧ ∃ H', Inv X pins σ H' s1 ∧ Q b H') X.xe s := by
    unfold tryCompare
    refine wpAny_bind (bound_bi Iv.kIn J hn PySem.F.slot_object_ne.bind (wpAny_mono (one_ne m hm F hr hf hx Iv atA ry cont) (fun r s1 z => ?_) fun _ _ e => e))
    obtain ⟨b, rfl, z⟩ := z
    exact wpAny_pure ⟨b, rfl, z⟩
  unfold richCompare
  simp only [oneThing_ref]
  refine wpAny_holding (wpAny_bind (wpAny_cRoomFor hr.units0 ?_))
  refine wpAny_bind (J.type.here (wpAny_bind ((ty _).here ?_)))
  split
  · rename_i z
    have e : PySem.W.subIn X.K t (.ref C) = some false := by
      rcases Bool.or_eq_true_iff.mp nf with e | e
      · rw [beq_iff_eq.mp e] at z
        simp at z
      · exact beq_iff_eq.mp e
    refine wpAny_bind ((PySem.W.looks_subIn Iv.kIn e).here ?_)
    simp only [Bool.false_eq_true,
        if_false]
    refine wpAny_bind (wpAny_mono one (fun r s1 zz => ?_) fun _ _ e => e)
    obtain ⟨b, rfl, zz⟩ := zz
    exact wpAny_pure ⟨b, rfl, zz⟩
  · refine wpAny_bind
        (wpAny_pure ?_)
    simp only [Bool.false_eq_true,
        if_false]
    refine wpAny_bind (wpAny_mono one (fun r s1 zz => ?_) fun _ _ e => e)
    obtain ⟨b, rfl, zz⟩ := zz
    exact wpAny_pure ⟨b, rfl, zz⟩
end
end DuX
/-! o != v; bool(o) by the own __len__ -/
namespace DuX
open PySem PySem.Spec
open PyProof.Rows L2
section
variable {X : Cx} {CX : CXT} {k : Nat} {g C : Addr} {sp : Sp} {Ek : XK} {pins : List (Addr × Obj)} {σ : L2.St} {H : Hp} {s : Shared}
/-- what the class at C has from object: its != -/
structure NeM (K : PySem.W.Frag) (C : Addr) : Prop where
  ne : PySem.W.findIn K (.ref C) "__ne__" = some (some (.builtin "object.__ne__"))
  mro : PySem.W.mroIn K C (.type "object") = some true
theorem op_neO (m : OwnM X.K C "__eq__" g) (n : NeM X.K C) (F : FnR X.prog X.w X.K X.mg X.base CX k g sp) (hr : Room (k + 1) X.A) (hx : Passes CX X Ek) :
    OpR X (compareOp .NotEq) (fun x y H Q => ∃ a dx fs t, x = .ref a ∧ H a = some (.ins C dx fs) ∧ (∀ pins σ s u, Inv X pins σ H s → RelV y u → ∀ M : Model, PySem.W.Looks M s.heap (typeOf u) t) ∧ PySem.W.notFirst X.K C t = true ∧ sp [.ref a, y] H (fun v H' => ∃ b, v = .bl b ∧ Q (.bl (!b)) H') Ek) := by
  intro pins s σ H x y u v Q Iv rx ry h
  obtain ⟨a, dx, fs, t, rfl, ha, ty, nf, q⟩ := h
  cases rx
  refine wpAny_mono (rc_ne (Q := fun b H' => Q (.bl (!b)) H') m n.ne n.mro F hr rfl hx Iv ha ry (ty pins σ s _ Iv ry) nf q) (fun r s1 z => ?_) fun _ _ e => e
  obtain ⟨b, rfl, H1, I1, q1⟩ := z
  exact ⟨.bl (!b), H1, I1, rfl, q1⟩
/-- the truth of o, by its __len__ -/
theorem truthy_lenO {A : Around} {a dx : Addr} {fs : List (Str × V)} {Q : Bool → Hp → Prop} (m : OwnM X.K C "__len__" g) (nb : PySem.W.findIn X.K (.ref C) "__bool__" = some none) (F : FnR X.prog X.w X.K X.mg X.base CX k g sp) (hr : Room (k + 1) A) (hf : A.frames = X.A.frames) (hx : Passes CX X Ek) (Iv : Inv X pins σ H s) (ha : H a = some (.ins C dx fs))
    (q : sp [.ref a] H (fun v H' => ∃ n : Nat, v = .int n ∧ n < 2 ^ 62 ∧ Q (n != 0) H') Ek) :
    wpAny (model X.prog X.w) A (truthy (.ref a)) (fun b s1 => ∃ H', Inv X pins σ H' s1 ∧ Q b H') X.xe s := by
  obtain ⟨ox, od, J⟩ := inst_of Iv ha
  have len : wpAny (model X.prog X.w) A (runValue (.builtin "len" ⟨[.ref a], []⟩)) (fun r s1 => ∃ (n : Nat) (t : Tok), r = .int n t ∧ ∃ H', Inv X pins σ H' s1 ∧ Q (n != 0) H') X.xe s := by
    refine wpAny_runValue (codeAny_builtin
        entry_len ?_)
    rw [Around.under_plainId
        plain_len _]
    unfold Builtin.«len»
    refine wpAny_bind (m := oneArg
        "len" _) (wpAny_pure ?_)
    refine wpAny_bind (m := callSpecial? (.ref a) (Str.ofString "__len__")) (PySem.W.special_fn Iv.kIn J m.at_ (beq_iff_eq.mp m.fn) (wpAny_mono (run_below F hr.in1 hf hx Iv (vs := [V.ref a]) (.cons rfl .nil) q) (fun r s' z => ?_) fun _ _ y => y))
    obtain ⟨v, H1, I1, rv, n, rfl, hn, q1⟩ := z
    obtain ⟨t, rfl⟩ := rv
    refine wpAny_bind (wpAny_holding
        (wpAny_pure ?_))
    refine wpAny_bind
        (wpAny_letGo ?_)
    show wpAny _ _ (if ((n : Nat) : Int) < 0 then _ else _) _ _ _
    rw [if_neg (by omega)]
    show wpAny _ _ (if ((n : Nat) : Int) ≥ 2 ^ 63 then _ else _) _ _ _
    rw [if_neg (by omega)]
    exact wpAny_bind (wpAny_mkInt (wpAny_pure ⟨n, _, rfl, H1, I1.tok _, q1⟩))
  unfold truthy
  refine wpAny_bind (m := callSpecial? (.ref a) (Str.ofString "__bool__")) (wpAny_bind (wpAny_bind (J.type.here ((PySem.W.looks_findIn Iv.kIn nb).here (wpAny_pure ?_)))))
  refine wpAny_bind (wpAny_bind (J.type.here ((PySem.W.looks_findIn Iv.kIn m.at_).here ?_)))
  refine wpAny_bind (wpAny_mono len (fun r s1 z => ?_) fun _ _ e => e)
  obtain ⟨n, t, rfl, H1, I1, q1⟩ := z
  have e : ((n : Int) != 0) = (n != 0) := by
    cases n with
    | zero => rfl
    | succ n => rfl
  show wpAny _ _ (pure ((n : Int) != 0)) _ _ _
  rw [e]
  exact wpAny_pure ⟨H1, I1, q1⟩
/-- bool(o) -/
theorem call_boolO (m : OwnM X.K C "__len__" g) (nb : PySem.W.findIn X.K (.ref C) "__bool__" = some none) (F : FnR X.prog X.w X.K X.mg X.base CX k g sp) (hr : Room (k + 3) X.A) (hx : Passes CX X Ek) :
    CallR X (.type "bool") (fun xs H Q => ∃ a dx fs, xs = [.ref a] ∧ H a = some (.ins C dx fs) ∧ sp [.ref a] H (fun v H' => ∃ n : Nat, v = .int n ∧ n < 2 ^ 62 ∧ Q (.bl (n != 0)) H') Ek) := by
  intro pins s σ H xs us Q Iv r h
  obtain ⟨a, dx, fs,
      rfl, ha, q⟩ := h
  rw [Vals.ref1 r]
  have f1 := PySem.F.conv_sub_bool
  refine callType_codes (T := "bool") (Bi := Builtin.«object.__init__») (Q₁ := fun r s₁ => ∃ b, r = .bool b ∧ ∃ H', Inv X pins σ H' s₁ ∧ Q (.bl b) H') PySem.F.called_bool (PySem.F.typeCall_bool_1 _) PySem.F.entry_object_init ?_ ?_
  · refine codeAny_of_tree ?_
    show wpAny _ X.A.in1.in1 (do checkBuiltinCall "bool.__new__" ⟨[.type "bool", .ref a], []⟩; again (.builtin "bool.__new__" ⟨[.type "bool", .ref a], []⟩)) _ _ s
    refine wpAny_bind (wpAny_of_eq (PySem.F.newCall_bool_1 _) (wpAny_pure ⟨plainId_quiet (by decide +kernel) _, codeAny_builtin PySem.F.entry_bool_new ?_⟩))
    rw [Around.under_plainId
        (by decide +kernel) _]
    unfold Builtin.«bool.__new__»
    refine wpAny_bind (m := isType (.type "bool")) (wpAny_pure ?_)
    simp only [Bool.not_true,
        Bool.false_eq_true, if_false]
    refine wpAny_bind (wpAny_of_eq f1 ?_)
    simp only [Bool.not_true,
        Bool.false_eq_true, if_false]
    refine wpAny_bind (m := someArgs "bool" 0 1 _) (wpAny_pure ?_)
    refine wpAny_bind (wpAny_mono (truthy_lenO (Q := fun b H' => Q (.bl b) H') m nb F hr.in1.in1 rfl hx Iv ha q) (fun b s1 z => ?_) fun _ _ e => e)
    exact wpAny_pure ⟨b, rfl, z⟩
  · rintro obj s₁ ⟨b, rfl, H1, I1, q1⟩
    exact ⟨rfl, PySem.F.args_object_init_2 _ _, object_init_meets PySem.F.called_bool.init.lookup PySem.F.called_bool.made (by decide) X.prog X.w X.A.in1 _ s₁ ⟨rfl, rfl, .bl b, H1, I1, rfl, q1⟩⟩
end
end DuX
/-! repr of data of any depth -/
namespace RpD
open PySem PySem.Spec
open PyProof.Rows L2
section
variable {X : Cx}
structure Shows (d : PyData) : Prop where
  sh : d.showable = true
  nd : d.hasDict = false
  dp : d.depth ≤ 20
  sz : d.shown.length ≤ sizeLine
/-- repr(x) -/
theorem call_reprD (hg : X.A.guards = some []) (hu : X.A.units + 100 < cLine) : CallR X (.builtin "repr") (fun xs H Q => ∃ x d, xs = [x] ∧ Dp X.K H x d ∧ Shows d ∧ Q (.str d.shown) H) := by
  intro pins s σ H xs us Q Iv r h
  obtain ⟨x, d, rfl, hd, S, q⟩ := h
  cases r with
  | cons r rr =>
    cases rr
    rename_i u
    obtain ⟨as, R⟩ := Dp.reads Iv d x u hd r
    have dp := S.dp
    have go : ∀ {a : Addr}, u = .ref a → wpAny (model X.prog X.w) X.A (call (.builtin "repr") [u]) (EP X pins σ Q) X.xe s := fun {a} e => by
      subst e
      refine repr_of_reads' R S.sh (fun e => by rw [S.nd] at e; cases e) hg (by omega) (fun _ _ e => e) (fun h' t tk kp => ⟨.str d.shown, H, Iv.kept kp, ⟨t, rfl⟩, q⟩) S.sz
    cases hd with
    | non =>
      cases r
      exact P.repr_of_none ⟨.str _, H, Iv.tok _, ⟨_, rfl⟩, q⟩
    | bl b =>
      cases r
      exact P.repr_of_bool ⟨.str _, H, Iv.tok _, ⟨_, rfl⟩, q⟩
    | int i =>
      obtain ⟨t, rfl⟩ := r
      have e : i.natAbs.log2 < 1920 := by simpa [PyData.showable] using S.sh
      exact P.repr_of_int e ⟨.str _, H, Iv.tok _, ⟨_, rfl⟩, q⟩
    | str z =>
      obtain ⟨t, rfl⟩ := r
      exact P.repr_of_str ⟨.str _, H, Iv.tok _, ⟨_, rfl⟩, q⟩ S.sz
    | lst h1 h2 =>
      cases r
      exact go rfl
    | tup h1 h2 =>
      cases r
      exact go rfl
end
/-! ### how long a text of data is -/
mutual
def wide : PyData → Nat
  | .none => 5
  | .bool _ => 5
  | .int _ => 5
  | .str x => 10 * x.length + 2
  | .list xs => wideAll xs + 3
  | .tuple xs => wideAll xs + 3
  | .dict _ => 0
def wideAll : List PyData → Nat
  | [] => 0
  | x :: xs => wide x + 2 + wideAll xs
end
mutual
def plainD : PyData → Bool
  | .none => true
  | .bool _ => true
  | .int i => decide (0 ≤ i ∧ i < 1000)
  | .str x => x.cps.toList.all
      fun c => decide (c < 16 ^ 8)
  | .list xs => plainAll xs
  | .tuple xs => plainAll xs
  | .dict _ => false
def plainAll :
    List PyData → Bool
  | [] => true
  | x :: xs => plainD x && plainAll xs
end
theorem dec1000 : ((List.range 1000).all fun n => decide ((toString (n : Int) : Str).length ≤ 5)) = true := by decide +kernel
theorem shown_int {i : Int} (h : 0 ≤ i ∧ i < 1000) : (toString i : Str).length ≤ 5 := by
  have q := (List.all_eq_true.mp dec1000) i.toNat (List.mem_range.mpr (by omega))
  have e : ((i.toNat : Nat) : Int) = i := by omega
  rw [e] at q
  exact of_decide_eq_true q
theorem log_small {i : Int} (h : 0 ≤ i ∧ i < 1024) : i.natAbs.log2 < 1920 := by
  by_cases h0 : i.natAbs = 0
  · rw [h0]
    decide
  · refine (Nat.log2_lt h0).mpr ?_
    refine Nat.lt_of_lt_of_le (show i.natAbs < 2 ^ 10 by omega) (Nat.pow_le_pow_right (by decide) (by decide))
mutual
theorem shown_le : ∀ d : PyData, plainD d = true → d.shown.length ≤ wide d ∧ d.showable = true ∧ d.hasDict = false
  | .none, _ => ⟨by decide +kernel, rfl, rfl⟩
  | .bool b, _ => ⟨by cases b <;> decide +kernel, rfl, rfl⟩
  | .int i, h => by
    have q : 0 ≤ i ∧ i < 1000 := of_decide_eq_true h
    exact ⟨shown_int q, decide_eq_true (log_small ⟨q.1, by omega⟩), rfl⟩
  | .str x, h => by
    refine ⟨StrLaws.reprText_len x fun c hc => of_decide_eq_true ((List.all_eq_true.mp h) c hc), rfl, rfl⟩
  | .list xs, h => by
    obtain ⟨a, b, c⟩ := shown_all xs h
    refine ⟨?_, b, c⟩
    show (listText (PyData.shownAll xs)).length ≤ wideAll xs + 3
    have := listText_len_le (PyData.shownAll xs)
    omega
  | .tuple xs, h => by
    obtain ⟨a, b, c⟩ := shown_all xs h
    refine ⟨?_, b, c⟩
    show (tupleText (PyData.shownAll xs)).length ≤ wideAll xs + 3
    have := tupleText_len_le (PyData.shownAll xs)
    omega
  | .dict _, h => by cases h
theorem shown_all : ∀ xs : List PyData, plainAll xs = true → ((PyData.shownAll xs).map (·.length)).sum + 2 * (PyData.shownAll xs).length ≤ wideAll xs ∧ PyData.showableAll xs = true ∧ PyData.hasDictAll xs = false
  | [], _ => ⟨Nat.le_refl _, rfl, rfl⟩
  | x :: xs, h => by
    have h : (plainD x && plainAll xs) = true := h
    rw [Bool.and_eq_true] at h
    obtain ⟨a, b, c⟩ := shown_le x h.1
    obtain ⟨a2, b2, c2⟩ := shown_all xs h.2
    refine ⟨?_, ?_, ?_⟩
    · show ((x.shown :: PyData.shownAll xs).map (·.length)).sum + 2 * (x.shown :: PyData.shownAll xs).length ≤ wide x + 2 + wideAll xs
      rw [List.map_cons, List.sum_cons, List.length_cons]
      omega
    · show (x.showable && PyData.showableAll xs) = true
      rw [b, b2]
      rfl
    · show (x.hasDict || PyData.hasDictAll xs) = false
      rw [c, c2]
      rfl
end
theorem Shows.of {d : PyData} (h : plainD d = true) (hd : d.depth ≤ 20) (hw : wide d ≤ 16000000) : Shows d := by
  obtain ⟨a, b, c⟩ := shown_le d h
  exact ⟨b, c, hd, by rw [sizeLine_eq]; omega⟩
end RpD
namespace K1
open PySem PySem.Spec
open PyProof.Rows L2 EnT StX SmX TxS DuX
/-! ### which class a value is of -/
def baseTys : List String := ["NoneType", "bool", "int", "str", "list", "tuple", "dict"]
structure MemIs (K : PySem.W.Frag) (C : Addr) : Prop where
  ha : PySem.W.findIn K (.ref C) "__class__"
      = some (some (.builtin "object.__class__"))
  hn : PySem.W.specialIn K (.builtin "object.__class__")
      "__get__" = some (some (.builtin "getset_descriptor.__get__"))
  htk : PySem.W.takesIn K (.builtin
      "object.__class__") = some true
  hm : PySem.W.mroIn K C
      (.type "object") = some true
  yes : PySem.W.kitOne K (.ref C) (.ref C) = some true
  no : ∀ t ∈ baseTys, PySem.W.kitOne K (.type t) (.ref C) = some false
  nf : ∀ t ∈ baseTys, PySem.W.notFirst K C (.type t) = true
  nfC : PySem.W.notFirst K C (.ref C) = true
theorem VOk.ty {K : PySem.W.Frag} {H : Hp} {v : V} (h : VOk H v) : ∃ t, t ∈ baseTys ∧ TyX K H v (.type t) := by
  rcases h with ⟨z, rfl, _⟩ | h
  · exact ⟨"str", by decide, .base (.str z)⟩
  cases h with
  | non => exact ⟨"NoneType", by decide, .base .non⟩
  | bl b => exact ⟨"bool", by decide, .base (.bl b)⟩
  | int i => exact ⟨"int", by decide, .base (.int i)⟩
  | lst e => exact ⟨"list", by decide, .base (.lst e)⟩
  | tup e => exact ⟨"tuple", by decide, .base (.tup e)⟩
  | dK e => exact ⟨"dict", by decide, .base (.dK e)⟩
theorem VOk.isStr {K : PySem.W.Frag} {H : Hp} {v : V} (h : VOk H v) : ∃ t b, TyX K H v (.type t) ∧ PySem.W.kitOne K (.type t) (.type "str") = some b ∧ (b = true → ∃ z, v = .str z) ∧ (b = false → NoStr H v) := by
  rcases h with ⟨z, rfl, _⟩ | h
  · exact ⟨"str", true, .base (.str z), kit_ty (by decide +kernel), fun _ => ⟨z, rfl⟩, fun e => by cases e⟩
  have h0 := h
  cases h with
  | non => exact ⟨"NoneType", false, .base .non, kit_ty (by decide +kernel), fun e => (by cases e), fun _ => h0⟩
  | bl b => exact ⟨"bool", false, .base (.bl b), kit_ty (by decide +kernel), fun e => (by cases e), fun _ => h0⟩
  | int i => exact ⟨"int", false, .base (.int i), kit_ty (by decide +kernel), fun e => (by cases e), fun _ => h0⟩
  | lst e => exact ⟨"list", false, .base (.lst e), kit_ty (by decide +kernel), fun e => (by cases e), fun _ => h0⟩
  | tup e => exact ⟨"tuple", false, .base (.tup e), kit_ty (by decide +kernel), fun e => (by cases e), fun _ => h0⟩
  | dK e => exact ⟨"dict", false, .base (.dK e), kit_ty (by decide +kernel), fun e => (by cases e), fun _ => h0⟩
/-! ### facts of names -/
theorem name_short {z : Str} (h : nameB z = true) : z.length ≤ 8 := by
  unfold nameB at h
  by_cases h8 : 8 < z.length
  · rw [if_pos h8] at h
    cases h
  · omega
def sp1 : Str := Str.ofString " "
def joinSp (zs : List Str) : Str := Txt.join sp1 zs
theorem sum_short : ∀ zs : List Str, (∀ z ∈ zs, z.length ≤ 8) → (zs.map (·.length)).sum ≤ zs.length * 8
  | [], _ => Nat.le_refl _
  | z :: r, h => by
    have a := h z List.mem_cons_self
    have b := sum_short r fun y hy => h y (List.mem_cons_of_mem _ hy)
    rw [List.map_cons, List.sum_cons, List.length_cons]
    omega
theorem join_fits {zs : List Str} (h : ∀ z ∈ zs, z.length ≤ 8) (hl : zs.length ≤ 1000) : (zs.map (·.length)).sum + zs.length * (sp1).length ≤ 16777216 := by
  have a := sum_short zs h
  have e : (sp1).length = 1 := by decide +kernel
  rw [e]
  omega
theorem flds_names (t d : Addr) : (flds t d).lookup ("_names" : Str) = some (.ref t) := by
  unfold flds
  rw [lookup_putF, lookup_putF, if_pos rfl, if_neg (by decide +kernel)]
theorem flds_table (t d : Addr) : (flds t d).lookup ("_table" : Str) = some (.ref d) := by
  unfold flds
  rw [lookup_putF, if_pos rfl]
theorem flds_str (t d : Addr) : (flds t d).lookup ("names" : Str) = none := by
  unfold flds
  rw [lookup_putF, lookup_putF, if_neg (by decide +kernel), if_neg (by decide +kernel)]
  rfl
theorem valV_tab {zs : List Str} {z : Str} : (valV (tabOf zs) (Sum.inr z : Key)).isSome = decide (z ∈ zs) := by
  induction zs with
  | nil => rfl
  | cons a r ih =>
    show (valV ((Sum.inr a, V.bl true) :: tabOf r) (Sum.inr z : Key)).isSome = _
    by_cases h : a = z
    · subst h
      have e : valV ((Sum.inr a, V.bl true) :: tabOf r) (Sum.inr a : Key) = some (V.bl true) := by
        unfold valV
        rw [List.find?_cons, decide_eq_true rfl]
        rfl
      rw [e, decide_eq_true List.mem_cons_self]
      rfl
    · rw [valV_neg (fun e => h (Sum.inr.inj e)), ih]
      by_cases m : z ∈ r
      · rw [decide_eq_true m, decide_eq_true (List.mem_cons_of_mem _ m)]
      · rw [decide_eq_false m, decide_eq_false fun q => by
          rcases List.mem_cons.mp q with q | q
          · exact h q.symm
          · exact m q]
/-! ### texts as data -/
def strD (zs : List Str) : List PyData := zs.map PyData.str
theorem dpAll_str {K : PySem.W.Frag} {H : Hp} : ∀ zs : List Str, DpAll K H (zs.map V.str) (strD zs)
  | [] => .nil
  | z :: r => .cons (.str z) (dpAll_str r)
def OkS (zs : List Str) : Prop := ∀ z ∈ zs, PyData.strOk z = true
theorem strD_lay : ∀ zs : List Str, OkS zs → PyData.canLayAll0 (strD zs) = true
  | [], _ => by simp [strD, PyData.canLayAll0]
  | z :: zs, h => by
    have := strD_lay zs fun y hy => h y (List.mem_cons_of_mem _ hy)
    have h1 := h z List.mem_cons_self
    simp only [strD] at this
    simp [strD, PyData.canLayAll0, PyData.canLay0, this, h1]
theorem name_low {z : Str} (h : nameB z = true) : ∀ c ∈ z.cps.toList, c < 128 := by
  unfold nameB at h
  split at h
  · cases h
  split at h
  · cases h
  · rename_i h2
    have e : z.cps.all (· < 128) = true := by
      cases q : Txt.isascii z with
      | true => exact q
      | false => exact absurd q h2
    rw [← Array.all_toList] at e
    exact fun c hc => of_decide_eq_true ((List.all_eq_true.mp e) c hc)
theorem strOk_low {z : Str} (h : ∀ c ∈ z.cps.toList, c < 128) : PyData.strOk z = true := by
  show z.cps.all (· < 0x110000) = true
  rw [← Array.all_toList]
  exact List.all_eq_true.mpr fun c hc => decide_eq_true (Nat.lt_trans (h c hc) (by decide))
theorem okS_names {zs : List Str} (h : ∀ z ∈ zs, nameB z = true) : OkS zs := fun z hz => strOk_low (name_low (h z hz))
theorem strD_depth : ∀ zs : List Str, PyData.depthAll (strD zs) = 0
  | [] => by simp [strD, PyData.depthAll]
  | z :: zs => by
    have := strD_depth zs
    simp only [strD] at this
    simp [strD, PyData.depthAll, PyData.depth, this]
theorem tupD_shaped {zs : List Str} (h : OkS zs) : SeqAt.shaped (.tuple (strD zs)) = true := by
  show (PyData.canLay0 (.tuple (strD zs)) && decide (PyData.depth (.tuple (strD zs)) ≤ 64)) = true
  rw [Bool.and_eq_true]
  refine ⟨by simp only [PyData.canLay0]; exact strD_lay zs h, decide_eq_true ?_⟩
  simp only [PyData.depth]
  rw [strD_depth]
  omega
theorem lstD_shaped {zs : List Str} (h : OkS zs) : SeqAt.shaped (.list (strD zs)) = true := by
  show (PyData.canLay0 (.list (strD zs)) && decide (PyData.depth (.list (strD zs)) ≤ 64)) = true
  rw [Bool.and_eq_true]
  refine ⟨by simp only [PyData.canLay0]; exact strD_lay zs h, decide_eq_true ?_⟩
  simp only [PyData.depth]
  rw [strD_depth]
  omega
theorem strD_eqv : ∀ zs ws : List Str, PyData.eqvAll (strD zs) (strD ws) = decide (zs = ws)
  | [], [] => by simp [strD, PyData.eqvAll]
  | [], w :: ws => by simp [strD, PyData.eqvAll]
  | z :: zs, [] => by simp [strD, PyData.eqvAll]
  | z :: zs, w :: ws => by
    have ih := strD_eqv zs ws
    simp only [strD] at ih
    simp only [strD, List.map_cons, PyData.eqvAll, PyData.eqv, ih]
    by_cases h : z = w
    · subst h
      simp
    · have : (z == w) = false := beq_eq_false_iff_ne.mpr h
      rw [this]
      simp [h]
/-! ### promises -/
def spNamesP (C : Addr) : Sp := fun vs H Q _ => ∃ a zs, vs = [.ref a] ∧ MemAt C H a zs ∧ ∀ t, H t = some (.tup (zs.map V.str)) → Q (.ref t) H
def spStrM (C : Addr) : Sp := fun vs H Q _ => ∃ a zs, vs = [.ref a] ∧ MemAt C H a zs ∧ (∀ z ∈ zs, z.length ≤ 8) ∧ Q (.str (joinSp zs)) H
def spReprM (C : Addr) : Sp := fun vs H Q _ => ∃ a zs, vs = [.ref a] ∧ MemAt C H a zs ∧ Q (.str (Str.empty ++ ("Members(" : Str) ++ (toString (zs.length : Int) : Str) ++ (")" : Str))) H
def spLenM (C : Addr) : Sp := fun vs H Q _ => ∃ a zs, vs = [.ref a] ∧ MemAt C H a zs ∧ Q (.int (zs.length : Nat)) H
def hasV (zs : List Str) : V → Bool
  | .str z => decide (z ∈ zs)
  | _ => false
def spHasM (C : Addr) : Sp := fun vs H Q _ => ∃ a zs v, vs = [.ref a, v] ∧ MemAt C H a zs ∧ VOk H v ∧ Q (.bl (hasV zs v)) H
def spEqM (C : Addr) : Sp := fun vs H Q _ => ∃ a zs y, vs = [.ref a, y] ∧ MemAt C H a zs ∧ ((∃ b ws, y = .ref b ∧ MemAt C H b ws ∧ Q (.bl (decide (zs = ws))) H) ∨ (VOk H y ∧ Q (.bl false) H))
section
variable {w : World} {P : Program} {base : Heap} {mg : Str → Option Value} {K : PySem.W.Frag}
theorem scStrM : FnScope ["self"] ["self"] (defScope sStrM) := ⟨rfl, rfl, rfl, by decide +kernel, rfl, by decide +kernel, by decide +kernel⟩
theorem scReprM : FnScope ["self"] ["self"] (defScope sReprM) := ⟨rfl, rfl, rfl, by decide +kernel, rfl, by decide +kernel, by decide +kernel⟩
theorem scLenM : FnScope ["self"] ["self"] (defScope sLenM) := ⟨rfl, rfl, rfl, by decide +kernel, rfl, by decide +kernel, by decide +kernel⟩
theorem scNamesP : FnScope ["self"] ["self"] (defScope sNamesP) := ⟨rfl, rfl, rfl, by decide +kernel, rfl, by decide +kernel, by decide +kernel⟩
theorem scHasM : FnScope ["self", "value"] ["self", "value"] (defScope sHasM) := ⟨rfl, rfl, rfl, by decide +kernel, rfl, by decide +kernel, by decide +kernel⟩
theorem scEqM : FnScope ["self", "other"] ["self", "other"] (defScope sEqM) := ⟨rfl, rfl, rfl, by decide +kernel, rfl, by decide +kernel, by decide +kernel⟩
theorem ok_namesP {f C : Addr} {fd : FuncData} (F : Fun K "names" "Members.names" sNamesP f fd) (M : MemC K mg C) : FnOk P w K mg base CX0 1 f fd ["self"] (getSp C "_names") := by
  refine F.ok scNamesP (fun vs H Q E h => ?_) (fun cdv A outer s H vs Q E hr h => ?_)
  · obtain ⟨a, dx, fs, v, rfl, _⟩ := h
    rfl
  · obtain ⟨a, dx, fs, v, rfl, ha, l, q⟩ := h
    exact ⟨_, pss_one (ps_ret (pe_fld (pv 0) rfl)), _, rfl, a, C, dx, fs, v, rfl, ha, M.cl, M.nN, l, q⟩
theorem ok_strM {f C : Addr} {fd : FuncData} (F : Fun K "__str__" "Members.__str__" sStrM f fd) (M : MemC K mg C) : FnOk P w K mg base CX0 1 f fd ["self"] (spStrM C) := by
  refine F.ok scStrM (fun vs H Q E h => ?_) (fun cdv A outer s H vs Q E hr h => ?_)
  · obtain ⟨a, zs, rfl, _⟩ := h
    rfl
  · obtain ⟨a, zs, rfl, m, hl, q⟩ := h
    obtain ⟨dx, t, d, h1, h2, h3⟩ := m.at_
    exact ⟨_, pss_one (ps_ret (pe_join pe_str (pe_fld (pv 0) rfl))), ⟨_, rfl⟩, _, rfl, a, C, dx, _, _, rfl, h1, M.cl, M.nN, flds_names t d, _, t, zs, rfl, rfl, .inr (SqT.of h2), join_fits hl m.few, q⟩
theorem ok_lenM {f C : Addr} {fd : FuncData} (F : Fun K "__len__" "Members.__len__" sLenM f fd) (T : Free mg) (M : MemC K mg C) : FnOk P w K mg base CX0 1 f fd ["self"] (spLenM C) := by
  refine F.ok scLenM (fun vs H Q E h => ?_) (fun cdv A outer s H vs Q E hr h => ?_)
  · obtain ⟨a, zs, rfl, _⟩ := h
    rfl
  · obtain ⟨a, zs, rfl, m, q⟩ := h
    obtain ⟨dx, t, d, h1, h2, h3⟩ := m.at_
    refine ⟨_, pss_one (ps_ret (pe_callB call_len_seq (by rfl) T.len PySem.boot_len (pa_cons (pe_fld (pv 0) rfl) pa_nil))), _, rfl, a, C, dx, _, _, rfl, h1, M.cl, M.nN, flds_names t d, t, zs.map V.str, rfl, .inr (SqT.of h2), ?_⟩
    rw [List.length_map]
    exact q
theorem str_short {n : Nat} (h : n ≤ 1000) : (toString (n : Int) : Str).length ≤ 5 := by
  by_cases e : n = 1000
  · subst e
    decide +kernel
  · exact RpD.shown_int (by omega)
theorem ok_reprM {f C : Addr} {fd : FuncData} (F : Fun K "__repr__" "Members.__repr__" sReprM f fd) (T : Free mg) (M : MemC K mg C) : FnOk P w K mg base CX0 1 f fd ["self"] (spReprM C) := by
  refine F.ok scReprM (fun vs H Q E h => ?_) (fun cdv A outer s H vs Q E hr h => ?_)
  · obtain ⟨a, zs, rfl, _⟩ := h
    rfl
  · obtain ⟨a, zs, rfl, m, q⟩ := h
    obtain ⟨dx, t, d, h1, h2, h3⟩ := m.at_
    have few := str_short m.few
    have e0 : (Str.empty ++ ("Members(" : Str)).length = 8 := by decide +kernel
    refine ⟨_, pss_one (ps_ret (pe_joined (.cons pe_str (.cons (pe_fmt (pe_callB call_len_seq (by rfl) T.len PySem.boot_len (pa_cons (pe_fld (pv 0) rfl) pa_nil))) (.cons pe_str .nil))))), ?_⟩
    have e8 : (8 : Nat) ≤ sizeLine := by rw [sizeLine_eq]; decide
    refine ⟨_, rfl, e0 ▸ e8, _, rfl, a, C, dx, _, _, rfl, h1, M.cl, M.nN, flds_names t d, t, zs.map V.str, rfl, .inr (SqT.of h2), .inr ⟨_, rfl, ?_, ?_⟩⟩
    · rw [List.length_map]
      have := m.few
      exact RpD.log_small (i := (zs.length : Nat)) (by omega)
    · rw [List.length_map]
      refine ⟨_, rfl, ?_, _, rfl, ?_, q⟩
      · rw [strLen_append, e0, sizeLine_eq]
        omega
      · rw [strLen_append, strLen_append, e0, sizeLine_eq]
        have : ((")" : Str)).length = 1 := by decide +kernel
        omega
theorem ok_hasM {f C : Addr} {fd : FuncData} (F : Fun K "__contains__" "Members.__contains__" sHasM f fd) (T : Free mg) (M : MemC K mg C) : FnOk P w K mg base CX0 1 f fd ["self", "value"] (spHasM C) := by
  refine F.ok scHasM (fun vs H Q E h => ?_) (fun cdv A outer s H vs Q E hr h => ?_)
  · obtain ⟨a, zs, v, rfl, _⟩ := h
    rfl
  · obtain ⟨a, zs, v, rfl, m, hv, q⟩ := h
    obtain ⟨dx, t, d, h1, h2, h3⟩ := m.at_
    obtain ⟨ty, b, e1, e2, e3, e4⟩ := hv.isStr (K := K)
    refine ⟨_, pss_one (ps_ret (pe_and (pe_callB call_isi (by rfl) T.isinstance (by decide +kernel) (pa_cons (pv 1) (pa_cons (pe_bltn (v := .ty "str") (u := .type "str") (by rfl) T.str (by decide +kernel) rfl) pa_nil))) (pe_one (pe_cmp (pc_din (by have := hr.un; show A.units + 3 + 1 < cLine; have e : (A.deeper (envOfC "Members.__contains__" (defScope sHasM) s.heap.objs.size f cdv)).units = A.units + 3 := rfl; omega) (pv 1) (pe_fld (pv 0) rfl)))))), ?_⟩
    refine ⟨_, rfl, _, _, _, _, b, rfl, .ty _, e1, e2, b, rfl, ?_⟩
    cases b with
    | true =>
      obtain ⟨z, rfl⟩ := e3 rfl
      rw [if_pos rfl]
      refine ⟨_, rfl, _, rfl, a, C, dx, _, _, rfl, h1, M.cl, M.nT, flds_table t d, d, _, rfl, .k (k := Sum.inr z) h3, ?_⟩
      rw [valV_tab]
      exact q
    | false =>
      rw [if_neg (by decide)]
      have n := e4 rfl
      have e : hasV zs v = false := by cases n <;> rfl
      rw [e] at q
      exact q
theorem ok_eqM {f C pN gN : Addr} {fd fdN : FuncData} (F : Fun K "__eq__" "Members.__eq__" sEqM f fd) (T : Free mg) (M : MemC K mg C) (I : MemIs K C) (pr : PropOf K C "names" pN gN) (GN : FnOk P w K mg base CX0 1 gN fdN ["self"] (getSp C "_names")) (FN : Fun K "names" "Members.names" sNamesP gN fdN) :
    FnOk P w K mg base CX0 3 f fd ["self", "other"] (spEqM C) := by
  have bN : Binds K fdN ["self"] [] := FN.binds (ps := ["self"]) fun _ _ _ _ _ _ us hl => match us, hl with | [_], _ => rfl
  refine F.ok scEqM (fun vs H Q E h => ?_) (fun cdv A outer s H vs Q E hr h => ?_)
  · obtain ⟨a, zs, y, rfl, _⟩ := h
    rfl
  · obtain ⟨a, zs, y, rfl, m, h⟩ := h
    obtain ⟨dx, t, d, h1, h2, h3⟩ := m.at_
    refine ⟨_, pss_one (ps_ret (pe_and (pe_callB call_isi (by rfl) T.isinstance (by decide +kernel) (pa_cons (pv 1) (pa_cons (pe_glob (v := .ref C) (by rfl) M.g rfl) pa_nil))) (pe_one (pe_cmpR (op_eqD (by have := hr.un; have e : (A.deeper (envOfC "Members.__eq__" (defScope sEqM) s.heap.objs.size f cdv)).units = A.units + 3 := rfl; show A.units + 3 + 64 < cLine; omega)) (pe_fld (pv 0) rfl) (pe_prop (pv 1) M.cl pr GN hr bN .nil pass0 rfl) (nomark _))))), ?_⟩
    rcases h with ⟨b, ws, rfl, m2, q⟩ | ⟨hv, q⟩
    · obtain ⟨dx2, t2, d2, k1, k2, k3⟩ := m2.at_
      refine ⟨_, rfl, _, _, _, _, true, rfl, .own C, .base (.ins k1 M.cl I.ha I.hn I.htk I.hm), I.yes, true, rfl, ?_⟩
      refine iteT ⟨_, rfl, a, C, dx, _, _, rfl, h1, M.cl, M.nN, flds_names t d, _, rfl, b, dx2, _, rfl, k1, b, dx2, _, _, rfl, k1, flds_names t2 d2, ?_⟩
      refine ⟨.tuple (strD zs), .tuple (strD ws), .tup (SqT.of h2) (dpAll_str zs), .tup (SqT.of k2) (dpAll_str ws), tupD_shaped (okS_names m.nm), tupD_shaped (okS_names m2.nm), ?_⟩
      have e : PyData.eqv (.tuple (strD zs)) (.tuple (strD ws)) = decide (zs = ws) := by
        simp only [PyData.eqv]
        exact strD_eqv zs ws
      rw [e]
      exact q
    · obtain ⟨ty, ht, tx⟩ := hv.ty (K := K)
      refine ⟨_, rfl, _, _, _, _, false, rfl, .own C, tx, I.no ty ht, false, rfl, ?_⟩
      exact iteF q
end
end K1
namespace K1
open PySem PySem.Spec
open PyProof.Rows L2 EnT StX SmX TxS DuX
/-- Members(*xs): what is asked, what is told -/
def spMk (C CN : Addr) : Sp := fun xs H Q E => (∀ v ∈ xs, VOk H v) ∧ xs.length ≤ 1000 ∧ (∀ i, wrongIx xs = some i → ErrAt CN "index" (.int i) H E) ∧ (wrongIx xs = none → ∀ zs : List Str, xs = zs.map V.str → Makes C zs H Q)
theorem ErrAt.same {C : Addr} {f : Str} {v : V} {H H' : Hp} {E : XK} (s : Same H H') (h : ErrAt C f v H E) : ErrAt C f v H' E := fun d H2 s2 n => h d H2 (s.trans s2) n
/-- what __init__ of Members promises, its names starred -/
def spInitR (K : PySem.W.Frag) (C CN : Addr) : Sp := fun vs H Q E => ∃ ws rest, vs = ws ++ rest ∧ ws.length = (["self"] : List Str).length ∧ rest.length ≤ sizeLine ∧ ∀ p, H p = Option.none → spInit0 K C CN (ws ++ [V.ref p]) (upd H p (.tup rest)) Q E
theorem make_of {K : PySem.W.Frag} {C CN : Addr} {xs : List V} {H : Hp} {Q : VK} {E : XK} (h : spMk C CN xs H Q E) :
    ∀ x dx, H x = Option.none → H dx = Option.none → dx ≠ x → spInitR K C CN (V.ref x :: xs) (upd (upd H dx (.own x)) x (.ins C dx [])) (fun v H2 => v = .non ∧ Q (.ref x) H2) E := by
  obtain ⟨hv, hl, he, hq⟩ := h
  intro x dx nx nd ne
  refine ⟨[.ref x], xs, rfl, rfl, by rw [sizeLine_eq]; omega, fun p np => ?_⟩
  have px : p ≠ x := fun e => by
    rw [e, upd_same] at np
    cases np
  have s1 : Same H (upd H dx (.own x)) := same_upd nd
  have s2 : Same (upd H dx (.own x)) (upd (upd H dx (.own x)) x (.ins C dx [])) := same_upd (by rw [upd_ne (Ne.symm ne)]; exact nx)
  have s3 : Same (upd (upd H dx (.own x)) x (.ins C dx [])) (upd (upd (upd H dx (.own x)) x (.ins C dx [])) p (.tup xs)) := same_upd np
  have s : Same H (upd (upd (upd H dx (.own x)) x (.ins C dx [])) p (.tup xs)) := (s1.trans s2).trans s3
  refine ⟨x, p, dx, xs, rfl, by rw [upd_ne (Ne.symm px), upd_same], SqT.of upd_same, fun v hm => (hv v hm).same s, hl, fun i hi => (he i hi).same s, fun hw zs ez ys H' k m M => ⟨rfl, ?_⟩⟩
  exact hq hw zs ez x ys H' nx (fun b o e => k b o (ne_of_none e nx) (s b o e)) m M
/-- the same, what follows told of the place -/
theorem make_at {K : PySem.W.Frag} {C CN : Addr} {xs : List V} {H : Hp} {QA : Addr → Hp → Prop} {E : XK} (h : spMk C CN xs H (fun v H2 => ∃ p, v = .ref p ∧ QA p H2) E) :
    ∀ x dx, H x = Option.none → H dx = Option.none → dx ≠ x → spInitR K C CN (V.ref x :: xs) (upd (upd H dx (.own x)) x (.ins C dx [])) (fun v H2 => v = .non ∧ QA x H2) E := fun x dx nx nd ne => by
  obtain ⟨ws, rest, e1, e2, e3, e4⟩ := make_of (K := K) h x dx nx nd ne
  refine ⟨ws, rest, e1, e2, e3, fun p np => ?_⟩
  obtain ⟨a1, a2, a3, a4, b1, b2, b3, b4, b5, b6, b7⟩ := e4 p np
  refine ⟨a1, a2, a3, a4, b1, b2, b3, b4, b5, b6, fun hw zs ez ys H' k m M => ?_⟩
  obtain ⟨c1, p', c2, c3⟩ := b7 hw zs ez ys H' k m M
  cases c2
  exact ⟨c1, c3⟩
def spFromT (C CN : Addr) : Sp := fun vs H Q E => ∃ a xs, vs = [.ref a] ∧ H a = some (.tup xs) ∧ spMk C CN xs H Q E
def spFromL (CN : Addr) : Sp := fun vs H Q E => ∃ a xs, vs = [.ref a] ∧ H a = some (.lst xs) ∧ ErrAt CN "index" .non H E
/-- what is known of the class that makes Members -/
structure MakeC (P : Program) (w : World) (K : PySem.W.Frag) (mg : Str → Option Value) (base : Heap) (C CN fI : Addr) : Prop where
  M : Mk K C fI
  F : FnR P w K mg base (L2.CX P w) 4 fI (spInitR K C CN)
section
variable {w : World} {P : Program} {base : Heap} {mg : Str → Option Value} {K : PySem.W.Frag}
theorem scFromN : FnScope ["names"] ["names"] (defScope sFromN) := ⟨rfl, rfl, rfl, by decide +kernel, rfl, by decide +kernel, by decide +kernel⟩
theorem ok_fromT {f fI fE C CN : Addr} {fd fdE : FuncData} (F : Fun K "from_names" "Members.from_names" sFromN f fd) (T : Free mg) (M : MemC K mg C) (MM : MakeC P w K mg base C CN fI) (EN : ErrC K mg "InvalidNames" "index" CN fE) (FE : Fun K "__init__" "InvalidNames.__init__" sErrNames fE fdE) :
    FnOk P w K mg base (L2.CX P w) 6 f fd ["names"] (spFromT C CN) := by
  have bE : Binds K fdE ["self", "index"] [] := FE.binds (ps := ["self", "index"]) fun _ _ _ _ _ _ us hl => match us, hl with | [_, _], _ => rfl
  have GE : FnOk P w K mg base CX0 1 fE fdE ["self", "index"] (spErr CN "index") := ok_errN FE EN
  refine F.okX scFromN (fun vs H Q E h => ?_) (fun cdv A outer s H vs Q E hr h => ?_)
  · obtain ⟨a, xs, rfl, _⟩ := h
    rfl
  · obtain ⟨a, xs, rfl, ha, q⟩ := h
    refine ⟨_, pss_cons (ps_if (pt_not (pt_val (pe_callB call_isi (by rfl) T.isinstance (by decide +kernel) (pa_cons (pv 0) (pa_cons (pe_bltn (v := .ty "tuple") (u := .type "tuple") (by rfl) T.tuple (by decide +kernel) rfl) pa_nil)))))
        (pss_one (ps_raise rfl (takes_of rfl rfl rfl rfl) (pmk_oex EN.ox EN.ini EN.ty GE (hr.mono (by decide)) bE .nil pass0 rfl EN.g (pa_cons pe_non pa_nil)))) pss_nil)
      (pss_one (ps_ret (pe_makeS1 MM.M MM.F hr (by rfl) M.g (passes_call (takes_of rfl rfl rfl rfl) fun _ _ _ _ h => h) (pv 0)))), ?_⟩
    refine ⟨_, rfl, _, _, _, _, true, rfl, .ty _, .base (.tup ha), kit_ty (by decide +kernel), true, rfl, ?_⟩
    refine iteF ?_
    exact ⟨_, rfl, a, xs, rfl, .inl (SqT.of ha), make_of q⟩
theorem ok_fromL {f fI fE C CN : Addr} {fd fdE : FuncData} (F : Fun K "from_names" "Members.from_names" sFromN f fd) (T : Free mg) (M : MemC K mg C) (MM : MakeC P w K mg base C CN fI) (EN : ErrC K mg "InvalidNames" "index" CN fE) (FE : Fun K "__init__" "InvalidNames.__init__" sErrNames fE fdE) :
    FnOk P w K mg base (L2.CX P w) 6 f fd ["names"] (spFromL CN) := by
  have bE : Binds K fdE ["self", "index"] [] := FE.binds (ps := ["self", "index"]) fun _ _ _ _ _ _ us hl => match us, hl with | [_, _], _ => rfl
  have GE : FnOk P w K mg base CX0 1 fE fdE ["self", "index"] (spErr CN "index") := ok_errN FE EN
  refine F.okX scFromN (fun vs H Q E h => ?_) (fun cdv A outer s H vs Q E hr h => ?_)
  · obtain ⟨a, xs, rfl, _⟩ := h
    rfl
  · obtain ⟨a, xs, rfl, ha, qE⟩ := h
    refine ⟨_, pss_cons (ps_if (pt_not (pt_val (pe_callB call_isi (by rfl) T.isinstance (by decide +kernel) (pa_cons (pv 0) (pa_cons (pe_bltn (v := .ty "tuple") (u := .type "tuple") (by rfl) T.tuple (by decide +kernel) rfl) pa_nil)))))
        (pss_one (ps_raise rfl (takes_of rfl rfl rfl rfl) (pmk_oex EN.ox EN.ini EN.ty GE (hr.mono (by decide)) bE .nil pass0 rfl EN.g (pa_cons pe_non pa_nil)))) pss_nil)
      (pss_one (ps_ret (pe_makeS1 MM.M MM.F hr (by rfl) M.g (passes_call (takes_of rfl rfl rfl rfl) fun _ _ _ _ h => h) (pv 0)))), ?_⟩
    refine ⟨_, rfl, _, _, _, _, false, rfl, .ty _, .base (.lst ha), kit_ty (by decide +kernel), false, rfl, ?_⟩
    refine iteT ?_
    refine ⟨(by show 1 ≤ 1000; decide), fun x nx => ⟨x, _, rfl, upd_same, fun d nd ne => ⟨rfl, d, [("index", .non)], upd_same, ?_, ?_, ?_⟩⟩⟩
    · rw [upd_ne ne, upd_same]
    · rw [upd_ne ne] at nd
      exact nd
    · rw [raise_heap nx ne]
      rw [upd_ne ne] at nd
      exact qE d H (Same.refl H) nd
end
end K1
/-! a | b, a |= b, a <= b by an own class's methods -/
namespace DuX
open PySem PySem.Spec
open PyProof.Rows L2
section
variable {X : Cx} {CX : CXT} {k : Nat} {g C : Addr} {sp : Sp} {Ek : XK}
/-- both are of the class at C -/
def rBinO (C : Addr) (sp : Sp) (Ek : XK) : R2 := fun x y H Q => ∃ a dx fs b dy gs, x = .ref a ∧ y = .ref b ∧ H a = some (.ins C dx fs) ∧ H b = some (.ins C dy gs) ∧ sp [.ref a, .ref b] H Q Ek
theorem op_binO {op : Operator} (m : OwnM X.K C (PySem.dunder op.info.2) g) (hc : PySem.W.selfFirst X.K C = true) (F : FnR X.prog X.w X.K X.mg X.base CX k g sp) (hr : Room k X.A) (hx : Passes CX X Ek) : OpR X (binaryOp op) (rBinO C sp Ek) := by
  intro pins s σ H x y v u Q Iv rx ry h
  obtain ⟨a, dx, fs, b, dy, gs, rfl, rfl, ha, hb, q⟩ := h
  cases rx
  cases ry
  obtain ⟨ox, od, J⟩ := inst_of Iv ha
  obtain ⟨oy, oe, J2⟩ := inst_of Iv hb
  obtain ⟨mm, hF⟩ := Iv.fr
  refine PySem.W.binop_K hF Iv.ok.mod.kin J J2.type hc m.at_ m.fn ?_
  refine wpAny_mono (run_below F hr rfl hx Iv (vs := [V.ref a, V.ref b]) (.cons rfl (.cons rfl .nil)) q) (fun z s1 hz => ?_) fun _ _ e => e
  obtain ⟨z', H1, I1, rz, qz⟩ := hz
  exact SlX.cmpback rz ⟨z', H1, I1, rz, qz⟩
/-- a op= b -/
def rInO (C : Addr) (sp : Sp) (Ek : XK) : TIp := fun x y H Q => ∃ a dx fs, x = .ref a ∧ H a = some (.ins C dx fs) ∧ sp [.ref a, y] H Q Ek
theorem ip_O {op : Operator} (m : OwnM X.K C (PySem.dunderI op.info.2) g) (hc : PySem.W.selfFirst X.K C = true) (F : FnR X.prog X.w X.K X.mg X.base CX k g sp) (hr : Room k X.A) (hx : Passes CX X Ek) : PIp X op (rInO C sp Ek) := by
  intro pins s σ H x y v u Q Iv rx ry h
  obtain ⟨a, dx, fs, rfl, ha, q⟩ := h
  cases rx
  obtain ⟨ox, od, J⟩ := inst_of Iv ha
  obtain ⟨mm, hF⟩ := Iv.fr
  refine PySem.W.ksp_inplace hF Iv.ok.mod.kin J hc m.at_ m.fn ?_
  refine wpAny_mono (run_below F hr rfl hx Iv (vs := [V.ref a, y]) (.cons rfl (.cons ry .nil)) q) (fun z s1 hz => ?_) fun _ _ e => e
  obtain ⟨z', H1, I1, rz, qz⟩ := hz
  exact SlX.cmpback rz ⟨z', H1, I1, rz, qz⟩
/-- an order by an own method -/
def rCmpO (K : PySem.W.Frag) (C : Addr) (sp : Sp) (Ek : XK) : R2 := fun x y H Q => ∃ a dx fs t, x = .ref a ∧ H a = some (.ins C dx fs) ∧ TyX K H y t ∧ PySem.W.notFirst K C t = true ∧ sp [.ref a, y] H Q Ek
theorem op_cmpO {op : CmpOp} (hop : ∀ a b, compareOp op a b = richCompare op a b) (m : OwnM X.K C (cmpInfo op).2.1 g) (F : FnR X.prog X.w X.K X.mg X.base CX k g sp) (hr : Room k X.A) (hx : Passes CX X Ek) : OpR X (compareOp op) (rCmpO X.K C sp Ek) := by
  intro pins s σ H x y v u Q Iv rx ry h
  obtain ⟨a, dx, fs, t, rfl, ha, ty, nf, q⟩ := h
  cases rx
  obtain ⟨ox, od, J⟩ := inst_of Iv ha
  obtain ⟨mm, hF⟩ := Iv.fr
  obtain ⟨Pz, Z, pz, _⟩ := kit_of Iv ry ty
  rw [hop]
  refine PySem.W.cmp_K (op := op) hr.units0 hF Iv.ok.mod.kin J (Z.ty _ _ Iv.kIn pz) nf m.at_ m.fn ?_
  refine wpAny_mono (run_below F hr rfl hx Iv (vs := [V.ref a, y]) (.cons rfl (.cons ry .nil)) q) (fun z s1 hz => ?_) fun _ _ e => e
  obtain ⟨z', H1, I1, rz, qz⟩ := hz
  exact SlX.cmpback rz ⟨z', H1, I1, rz, qz⟩
end
/-- what a built-in class has for an operator, and that it is not below C -/
structure OthT (K : PySem.W.Frag) (C : Addr) (nm T : String) : Prop where
  h1 : ∃ fo, PySem.W.findIn K (.type T) (PySem.dunder nm) = some fo
  h2 : ∃ ro, PySem.W.findIn K (.type T) (dunderR nm) = some ro
  hs : PySem.W.subIn K (.type T) (.ref C) = some false
section
variable {M : Model} {prog : Program} {w : World} {A : Around} {E : Value → Shared → Prop} {s : Shared} {K : PySem.W.Frag} {x C f : Addr} {ox : Obj} {od : Option Obj} {T : String}
open PySem.W in
theorem bin_other {op : Operator} {b : Value} {Q : Value → Shared → Prop} (X : K.In s.heap) (J : InstAt s.heap x ox C od) (hb : ∀ M : Model, Looks M s.heap (typeOf b) (.type T)) (hc : selfFirst K C = true) (hs : findIn K (.ref C) (PySem.dunder op.info.2) = some (some (.ref f))) (hf : isFn K (.ref f) = true)
    (hr : findIn K (.ref C) (dunderR op.info.2) = some none) (O : OthT K C op.info.2 T)
    (h : wpAny (model prog w) A (call (.ref f) [.ref x, b]) (PySem.W.CmpBack Q) E s) : wpAny (model prog w) A (binaryOp op (.ref x) b) Q E s := by
  obtain ⟨cd, more, hcd, hm⟩ := ksp_first hc
  obtain ⟨⟨fo, h1⟩, ⟨ro, h2⟩, hsub⟩ := O
  have one := ksp_try X J hs hf h
  rcases hi : op.info with ⟨sym, nm⟩
  rw [hi] at hs hr h1 h2 one
  dsimp only at hs hr h1 h2 one
  obtain ⟨hp, g, d, tk, os⟩ := s
  have la := J.type (M := model prog w)
  have lb := hb (model prog w)
  have lc := fills_K (M := model prog w) X hcd hm hs
  have ld := ksp_fillsT (M := model prog w) X h1 h2
  have le := looks_subIn (M := model prog w) X hsub
  have lf := ksp_inPy (M := model prog w) X hs hr (.inl rfl)
  have lg : Looks (model prog w) hp (numberSlotInPython (.type T) nm) false := .of_pure rfl
  have lh := looks_findIn (M := model prog w) X h2
  generalize ((fo.isSome && !isSeqSlot fo) || (ro.isSome && !isSeqSlot ro)) = right at ld
  have ne : (Value.ref C == Value.type T) = false := Bool.eq_false_iff.mpr fun q => by cases beq_iff_eq.mp q
  simp only [binaryOp, hi]
  refine wpAny_holding (wpAny_bind ?_)
  unfold binaryOp1
  refine wpAny_bind (la.at (wpAny_bind (lb.at (wpAny_bind (lc.at ?_)))))
  simp only [ne, if_false, Bool.false_eq_true]
  cases right <;>
  · ksp_lk
    refine wpAny_mono one (fun r s1 hz => ?_) fun _ _ e => e
    obtain ⟨v, rfl, q⟩ := hz
    ksp_lk
    exact q
end
section
variable {X : Cx} {CX : CXT} {k : Nat} {g C : Addr} {sp : Sp} {Ek : XK}
/-- the other one is of a built-in class -/
def rBinT (K : PySem.W.Frag) (C : Addr) (Ts : List String) (sp : Sp) (Ek : XK) : R2 := fun x y H Q => ∃ a dx fs t, x = .ref a ∧ H a = some (.ins C dx fs) ∧ t ∈ Ts ∧ TyX K H y (.type t) ∧ sp [.ref a, y] H Q Ek
theorem op_binT {op : Operator} {Ts : List String} (m : OwnM X.K C (PySem.dunder op.info.2) g) (hc : PySem.W.selfFirst X.K C = true) (hR : PySem.W.findIn X.K (.ref C) (dunderR op.info.2) = some none) (O : ∀ t ∈ Ts, OthT X.K C op.info.2 t) (F : FnR X.prog X.w X.K X.mg X.base CX k g sp) (hr : Room k X.A) (hx : Passes CX X Ek) :
    OpR X (binaryOp op) (rBinT X.K C Ts sp Ek) := by
  intro pins s σ H x y v u Q Iv rx ry h
  obtain ⟨a, dx, fs, t, rfl, ha, ht, ty, q⟩ := h
  cases rx
  obtain ⟨ox, od, J⟩ := inst_of Iv ha
  obtain ⟨Pz, Z, pz, _⟩ := kit_of Iv ry ty
  refine bin_other Iv.kIn J (fun M => Z.ty M _ Iv.kIn pz) hc m.at_ m.fn hR (O t ht) ?_
  refine wpAny_mono (run_below F hr rfl hx Iv (vs := [V.ref a, y]) (.cons rfl (.cons ry .nil)) q) (fun z s1 hz => ?_) fun _ _ e => e
  obtain ⟨z', H1, I1, rz, qz⟩ := hz
  exact SlX.cmpback rz ⟨z', H1, I1, rz, qz⟩
end
end DuX
/-! in, not in, ==, != of an own class's instances, told without the context -/
namespace DuX
open PySem PySem.Spec
open PyProof.Rows L2
section
variable {X : Cx} {CX : CXT} {k : Nat} {g C : Addr} {sp : Sp} {Ek : XK}
theorem op_ninO (m : OwnM X.K C "__contains__" g) (F : FnR X.prog X.w X.K X.mg X.base CX k g sp) (hr : Room k X.A) (hx : Passes CX X Ek) :
    OpR X (compareOp .NotIn) (fun x y H Q => ∃ a dx fs, y = .ref a ∧ H a = some (.ins C dx fs) ∧ sp [.ref a, x] H (fun v H' => ∃ b, v = .bl b ∧ Q (.bl (!b)) H') Ek) := by
  intro pins s σ H x y u v Q Iv rx ry hyp
  obtain ⟨a, dx, fs, rfl, atA, cont⟩ := hyp
  cases ry
  obtain ⟨ox, od, J⟩ := inst_of Iv atA
  obtain ⟨mm, hF⟩ := Iv.fr
  refine PySem.W.notIn_K hF Iv.ok.mod.kin J m.at_ m.fn ?_
  refine wpAny_mono (run_below F hr rfl hx Iv (vs := [V.ref a, x]) (.cons rfl (.cons rx .nil)) cont) (fun u' s1 hu => ?_) fun _ _ e => e
  obtain ⟨v', H1, Iv1, rv, b, rfl, q1⟩ := hu
  cases rv
  exact wpAny_truthy_bool ⟨.bl (!b), H1, Iv1, rfl, q1⟩
def rEqO (K : PySem.W.Frag) (C : Addr) (sp : Sp) : R2 := fun x y H Q => ∃ a dx fs t, x = .ref a ∧ H a = some (.ins C dx fs) ∧ TyX K H y t ∧ PySem.W.notFirst K C t = true ∧ sp [.ref a, y] H (fun v H' => ∃ b, v = .bl b ∧ Q (.bl b) H') E0
def rNeO (K : PySem.W.Frag) (C : Addr) (sp : Sp) : R2 := fun x y H Q => ∃ a dx fs t, x = .ref a ∧ H a = some (.ins C dx fs) ∧ TyX K H y t ∧ PySem.W.notFirst K C t = true ∧ sp [.ref a, y] H (fun v H' => ∃ b, v = .bl b ∧ Q (.bl (!b)) H') E0
def rHasO (C : Addr) (sp : Sp) : R2 := fun x y H Q => ∃ a dx fs, y = .ref a ∧ H a = some (.ins C dx fs) ∧ sp [.ref a, x] H (fun v H' => ∃ b, v = .bl b ∧ Q (.bl b) H') E0
def rNinO (C : Addr) (sp : Sp) : R2 := fun x y H Q => ∃ a dx fs, y = .ref a ∧ H a = some (.ins C dx fs) ∧ sp [.ref a, x] H (fun v H' => ∃ b, v = .bl b ∧ Q (.bl (!b)) H') E0
theorem op_eqX (m : OwnM X.K C "__eq__" g) (F : FnR X.prog X.w X.K X.mg X.base CX0 k g sp) (hr : Room k X.A) : OpR X (compareOp .Eq) (rEqO X.K C sp) := by
  intro pins s σ H x y u v Q I rx ry h
  obtain ⟨a, dx, fs, t, h1, h2, h3, h4, q⟩ := h
  exact op_eqO m F hr pass0 pins s σ H x y u v Q I rx ry ⟨a, dx, fs, t, h1, h2, fun pins σ s u Iv r M => by
    obtain ⟨Pz, Z, pz, _⟩ := kit_of Iv r h3
    exact Z.ty M s.heap Iv.kIn pz, h4, q⟩
theorem op_neX (m : OwnM X.K C "__eq__" g) (n : NeM X.K C) (F : FnR X.prog X.w X.K X.mg X.base CX0 k g sp) (hr : Room (k + 1) X.A) : OpR X (compareOp .NotEq) (rNeO X.K C sp) := by
  intro pins s σ H x y u v Q I rx ry h
  obtain ⟨a, dx, fs, t, h1, h2, h3, h4, q⟩ := h
  exact op_neO m n F hr pass0 pins s σ H x y u v Q I rx ry ⟨a, dx, fs, t, h1, h2, fun pins σ s u Iv r M => by
    obtain ⟨Pz, Z, pz, _⟩ := kit_of Iv r h3
    exact Z.ty M s.heap Iv.kIn pz, h4, q⟩
theorem op_inX (m : OwnM X.K C "__contains__" g) (F : FnR X.prog X.w X.K X.mg X.base CX0 k g sp) (hr : Room k X.A) : OpR X (compareOp .In) (rHasO C sp) := op_inO m F hr pass0
theorem op_ninX (m : OwnM X.K C "__contains__" g) (F : FnR X.prog X.w X.K X.mg X.base CX0 k g sp) (hr : Room k X.A) : OpR X (compareOp .NotIn) (rNinO C sp) := op_ninO m F hr pass0
end
/-! ### what is known of a def -/
structure Has (P : Program) (w : World) (K : PySem.W.Frag) (mg : Str → Option Value) (base : Heap) (CX : CXT) (k : Nat) (x : Str) (f : Addr) (ps : List Str) (sp : Sp) : Prop where
  gm : mg x = some (.ref f)
  kp : PySem.W.keepIn K (.ref f) = true
  ex : ∃ fd, FnOk P w K mg base CX k f fd ps sp ∧ L2.Binds K fd ps []
section
variable {X : Cx} {CX : CXT} {k : Nat} {x : Str} {f : Addr} {ps : List Str} {sp : Sp} {E : XK}
/-- x(e, ..) -/
theorem pe_has {e : Expr} {es : List Expr} {t : TA} {p pos : Pos} (F : Has X.prog X.w X.K X.mg X.base CX k x f ps sp) (hr : Room k X.A) (hg : Gl X x) (hx : Passes CX X E) (ha : PA X (e :: es) t) (hd : (x == ("__debug__" : Str)) = false := by decide)
    (hst : starEach (e :: es) X.env = (false, eval e X.env) :: starEach es X.env := by rfl) (hpl : (backTo pos (starEach es X.env)).any (·.1) = false := by rfl) :
    PE X (.Call (.Name x p) (e :: es) [] pos) (tCall sp [] E t) := by
  obtain ⟨gm, kp, fd, F, B⟩ := F
  exact pe_call F hr hg gm kp B .nil hx ha hd hst hpl
end
end DuX
/-! joined and sorted texts -/
namespace K1
open PySem PySem.Spec
open PyProof.Rows L2
def NotLt (a b : Str) : Prop := ¬ (b.cps.toList < a.cps.toList)
theorem notLt_of {a b : Str} (h : (!ltCps b.cps.toList a.cps.toList) = true) : NotLt a b := by
  rw [ltCps_eq] at h
  simpa [NotLt] using h
theorem notLt_trans {a b c : Str} (h1 : NotLt a b) (h2 : NotLt b c) : NotLt a c := by
  have h1 : a.cps.toList ≤ b.cps.toList := List.not_lt.mp h1
  have h2 : b.cps.toList ≤ c.cps.toList := List.not_lt.mp h2
  exact List.not_lt.mpr (List.le_trans h1 h2)
theorem notLt_anti {a b : Str} (h1 : NotLt a b) (h2 : NotLt b a) : a = b := by
  have h1 : a.cps.toList ≤ b.cps.toList := List.not_lt.mp h1
  have h2 : b.cps.toList ≤ a.cps.toList := List.not_lt.mp h2
  exact TL.ext_tl (List.le_antisymm h1 h2)
theorem rising_pw : ∀ (r : List Str) (p : Str), risingS p r = true → (p :: r).Pairwise NotLt
  | [], p, _ => List.pairwise_cons.mpr ⟨fun _ h => (by cases h), List.Pairwise.nil⟩
  | x :: r, p, h => by
    have h : (!ltCps x.cps.toList p.cps.toList && risingS x r) = true := h
    rw [Bool.and_eq_true] at h
    have ih := rising_pw r x h.2
    have h1 := notLt_of h.1
    refine List.pairwise_cons.mpr ⟨fun y hy => ?_, ih⟩
    rcases List.mem_cons.mp
        hy with e | e
    · rw [e]
      exact h1
    · exact notLt_trans h1 ((List.pairwise_cons.mp ih).1 y e)
theorem sorted_pw {xs : List Str} (h : sortedS xs = true) : xs.Pairwise NotLt := by
  cases xs with
  | nil => exact List.Pairwise.nil
  | cons x r => exact rising_pw r x h
theorem sorted_uniq {xs ys : List Str} (hx : sortedS xs = true) (hy : sortedS ys = true) (nx : xs.Nodup) (ny : ys.Nodup) (m : ∀ z, z ∈ xs ↔ z ∈ ys) : xs = ys :=
  List.Perm.eq_of_pairwise (le := NotLt) (fun a b _ _ h1 h2 => notLt_anti h1 h2) (sorted_pw hx) (sorted_pw hy) ((List.perm_ext_iff_of_nodup nx ny).mpr m)
end K1

namespace K1
open PySem PySem.Spec
open PyProof.Rows L2 EnT StX SmX TxS DuX ClX
/-! ### the signs of Members -/
theorem mk_names {C CN : Addr} {zs : List Str} {H : Hp} {Q : VK} {E : XK} (nm : ∀ z ∈ zs, nameB z = true) (hl : zs.length ≤ 1000)
    (q : ∀ b ys H', H b = none → Same H H' → (∀ z, z ∈ ys ↔ z ∈ zs) → MemAt C H' b ys → Q (.ref b) H') : spMk C CN (zs.map V.str) H Q E := by
  have hw : wrongIx (zs.map V.str) = none := wrong_none (List.all_eq_true.mpr fun v hv => by
    obtain ⟨z, hz, rfl⟩ := List.mem_map.mp hv
    exact nm z hz)
  refine ⟨fun v hv => ?_, by rw [List.length_map]; exact hl, fun i hi => (by rw [hw] at hi; cases hi), fun _ us eu b ws H' nb s m MA => ?_⟩
  · obtain ⟨z, hz, rfl⟩ := List.mem_map.mp hv
    exact .inl ⟨z, rfl, by have := name_short (nm z hz); rw [sizeLine_eq]; omega⟩
  · have eu2 : us = zs := (List.map_inj_right (fun _ _ h => V.str.inj h)).mp eu.symm
    subst eu2
    exact q b ws H' nb s m MA
/-- new Members of those that p tells -/
def MakesP (C : Addr) (p : Str → Prop) (H : Hp) (Q : VK) : Prop := ∀ (a : Addr) (ys : List Str) (H' : Hp), H a = none → Same H H' → (∀ z, z ∈ ys ↔ p z) → MemAt C H' a ys → Q (.ref a) H'
theorem MakesP.imp {C : Addr} {p p' : Str → Prop} {H H1 : Hp} {Q Q' : VK} (h : MakesP C p H Q) (s : Same H H1) (e : ∀ z, p' z ↔ p z) (q : ∀ a H', Q (.ref a) H' → Q' (.ref a) H') : MakesP C p' H1 Q' := fun a ys H' n s' m MA => q a H' (h a ys H' (by
  cases hh : H a with
  | none => rfl
  | some o =>
    rw [s _ _ hh] at n
    cases n) (s.trans s') (fun z => (m z).trans (e z)) MA)
abbrev rOr : Prop → Prop → Prop := fun a b => a ∨ b
abbrev rAnd : Prop → Prop → Prop := fun a b => a ∧ b
abbrev rSub : Prop → Prop → Prop := fun a b => a ∧ ¬ b
abbrev rXor : Prop → Prop → Prop := fun a b => (a ∧ ¬ b) ∨ (b ∧ ¬ a)
def spBinM (C : Addr) (r : Prop → Prop → Prop) : Sp := fun vs H Q _ => ∃ a b zs ws, vs = [.ref a, .ref b] ∧ MemAt C H a zs ∧ MemAt C H b ws ∧ zs.length + ws.length ≤ 1000 ∧ MakesP C (fun z => r (z ∈ zs) (z ∈ ws)) H Q
def spBadM (C CM : Addr) : Sp := fun vs H _ E => ∃ a zs v, vs = [.ref a, v] ∧ MemAt C H a zs ∧ VOk H v ∧ ErrAt CM "value" v H E
def spChkY (C : Addr) : Sp := fun vs H Q _ => ∃ b ws, vs = [.ref b] ∧ MemAt C H b ws ∧ Q .non H
def spChkN (CM : Addr) : Sp := fun vs H _ E => ∃ v, vs = [v] ∧ VOk H v ∧ ErrAt CM "value" v H E
/-- what the signs of Members lean on -/
structure Mb (P : Program) (w : World) (K : PySem.W.Frag) (mg : Str → Option Value) (base : Heap) (C CN CM : Addr) (mc : Value) : Prop where
  T : Free mg
  M : MemC K mg C
  I : MemIs K C
  sf : PySem.W.selfFirst K C = true
  chkY : ∃ f, Has P w K mg base (L2.CX P w) 3 "check_members" f ["value"] (spChkY C)
  chkN : ∃ f, Has P w K mg base (L2.CX P w) 3 "check_members" f ["value"] (spChkN CM)
  fromT : ∃ p g, SMet K C mc "from_names" p g ∧ FnR P w K mg base (L2.CX P w) 6 g (spFromT C CN)
  hasM : ∃ g, OwnM K C "__contains__" g ∧ FnR P w K mg base CX0 1 g (spHasM C)
  lenM : ∃ g, OwnM K C "__len__" g ∧ FnR P w K mg base CX0 1 g (spLenM C)
  prop : ∃ pN gN fdN, PropOf K C "names" pN gN ∧ FnOk P w K mg base CX0 1 gN fdN ["self"] (getSp C "_names") ∧ L2.Binds K fdN ["self"] []
  cr : CRead K C mc
section
variable {w : World} {P : Program} {base : Heap} {mg : Str → Option Value} {K : PySem.W.Frag} {C CN CM : Addr} {mc : Value}
theorem scErrM : FnScope ["self", "value"] ["self", "value"] (defScope sErrMem) := ⟨rfl, rfl, rfl, by decide +kernel, rfl, by decide +kernel, by decide +kernel⟩
theorem ok_errM {f C fI : Addr} {fd : FuncData} (F : Fun K "__init__" "NotMembers.__init__" sErrMem f fd) (T : ErrC K mg "NotMembers" "value" C fI) : FnOk P w K mg base CX0 1 f fd ["self", "value"] (spErr C "value") := by
  refine F.ok scErrM (fun vs H Q E h => ?_) (fun cdv A outer s H vs Q E hr h => ?_)
  · obtain ⟨a, v, rfl, _⟩ := h
    rfl
  · obtain ⟨a, v, rfl, ha, q⟩ := h
    exact ⟨_, pss_one (ps_ost (pv 0) (pv 1)), _, rfl, _, rfl, a, C, rfl, T.ox, T.no, .inl ⟨ha, fun d nd ne => q d nd ne⟩⟩
theorem scChkM : FnScope ["value"] ["value"] (defScope sChkM) := ⟨rfl, rfl, rfl, by decide +kernel, rfl, by decide +kernel, by decide +kernel⟩
theorem ok_chkY {f fE : Addr} {fd fdE : FuncData} (F : Fun K "check_members" "check_members" sChkM f fd) (T : Free mg) (M : MemC K mg C) (I : MemIs K C) (EM : ErrC K mg "NotMembers" "value" CM fE) (FE : Fun K "__init__" "NotMembers.__init__" sErrMem fE fdE) :
    FnOk P w K mg base (L2.CX P w) 3 f fd ["value"] (spChkY C) := by
  have bE : Binds K fdE ["self", "value"] [] := FE.binds (ps := ["self", "value"]) fun _ _ _ _ _ _ us hl => match us, hl with | [_, _], _ => rfl
  have GE : FnOk P w K mg base CX0 1 fE fdE ["self", "value"] (spErr CM "value") := ok_errM FE EM
  refine F.okX scChkM (fun vs H Q E h => ?_) (fun cdv A outer s H vs Q E hr h => ?_)
  · obtain ⟨b, ws, rfl, _⟩ := h
    rfl
  · obtain ⟨b, ws, rfl, m2, q⟩ := h
    obtain ⟨dx2, t2, d2, k1, k2, k3⟩ := m2.at_
    refine ⟨_, pss_one (ps_if (pt_not (pt_val (pe_callB call_isi (by rfl) T.isinstance (by decide +kernel) (pa_cons (pv 0) (pa_cons (pe_glob (v := .ref C) (by rfl) M.g rfl) pa_nil)))))
        (pss_one (ps_raise rfl (takes_of rfl rfl rfl rfl) (pmk_oex EM.ox EM.ini EM.ty GE (hr.mono (by decide)) bE .nil pass0 rfl EM.g (pa_cons (pv 0) pa_nil)))) pss_nil), ?_⟩
    refine ⟨_, rfl, _, _, _, _, true, rfl, .own C, .base (.ins k1 M.cl I.ha I.hn I.htk I.hm), I.yes, true, rfl, ?_⟩
    exact iteF q
theorem ok_chkN {f fE : Addr} {fd fdE : FuncData} (F : Fun K "check_members" "check_members" sChkM f fd) (T : Free mg) (M : MemC K mg C) (I : MemIs K C) (EM : ErrC K mg "NotMembers" "value" CM fE) (FE : Fun K "__init__" "NotMembers.__init__" sErrMem fE fdE) :
    FnOk P w K mg base (L2.CX P w) 3 f fd ["value"] (spChkN CM) := by
  have bE : Binds K fdE ["self", "value"] [] := FE.binds (ps := ["self", "value"]) fun _ _ _ _ _ _ us hl => match us, hl with | [_, _], _ => rfl
  have GE : FnOk P w K mg base CX0 1 fE fdE ["self", "value"] (spErr CM "value") := ok_errM FE EM
  refine F.okX scChkM (fun vs H Q E h => ?_) (fun cdv A outer s H vs Q E hr h => ?_)
  · obtain ⟨v, rfl, _⟩ := h
    rfl
  · obtain ⟨v, rfl, hv, q⟩ := h
    obtain ⟨ty, ht, tx⟩ := hv.ty (K := K)
    refine ⟨_, pss_one (ps_if (pt_not (pt_val (pe_callB call_isi (by rfl) T.isinstance (by decide +kernel) (pa_cons (pv 0) (pa_cons (pe_glob (v := .ref C) (by rfl) M.g rfl) pa_nil)))))
        (pss_one (ps_raise rfl (takes_of rfl rfl rfl rfl) (pmk_oex EM.ox EM.ini EM.ty GE (hr.mono (by decide)) bE .nil pass0 rfl EM.g (pa_cons (pv 0) pa_nil)))) pss_nil), ?_⟩
    refine ⟨_, rfl, _, _, _, _, false, rfl, .own C, tx, I.no ty ht, false, rfl, ?_⟩
    refine iteT ?_
    refine ⟨_, rfl, (by show 1 ≤ 1000; decide), fun x nx => ⟨x, _, rfl, upd_same, fun d nd ne => ⟨rfl, d, [("value", v)], upd_same, ?_, ?_, ?_⟩⟩⟩
    · rw [upd_ne ne, upd_same]
    · rw [upd_ne ne] at nd
      exact nd
    · rw [raise_heap nx ne]
      rw [upd_ne ne] at nd
      exact q d H (Same.refl H) nd
abbrev nmSO : List Str := ["self", "other"]
theorem scOrM : FnScope nmSO nmSO (defScope sOrM) := ⟨rfl, rfl, rfl, by decide +kernel, rfl, by decide +kernel, by decide +kernel⟩
theorem ok_orM {f : Addr} {fd : FuncData} (F : Fun K "__or__" "Members.__or__" sOrM f fd) (B : Mb P w K mg base C CN CM mc) : FnOk P w K mg base (L2.CX P w) 7 f fd nmSO (spBinM C rOr) := by
  obtain ⟨fC, hC⟩ := B.chkY
  obtain ⟨pF, gF, mF, FF⟩ := B.fromT
  obtain ⟨pN, gN, fdN, pr, GN, bN⟩ := B.prop
  have M := B.M
  refine F.okX scOrM (fun vs H Q E h => ?_) (fun cdv A outer s H vs Q E hr h => ?_)
  · obtain ⟨a, b, zs, ws, rfl, _⟩ := h
    rfl
  · obtain ⟨a, b, zs, ws, rfl, m1, m2, hl, q⟩ := h
    obtain ⟨dx, t, d, h1, h2, h3⟩ := m1.at_
    obtain ⟨dy, t2, d2, k1, k2, k3⟩ := m2.at_
    refine ⟨_, pss_cons (ps_expr (pe_has hC (hr.mono (by decide)) (by rfl) (passes_call (takes_of rfl rfl rfl rfl) fun _ _ _ _ h => h) (pa_cons (pv 1) pa_nil)))
      (pss_one (ps_ret (pe_smeth (pe_glob (v := .ref C) (by rfl) M.g rfl) B.cr mF FF hr (passes_call (takes_of rfl rfl rfl rfl) fun _ _ _ _ h => h) (pa_cons (pe_op op_catA (pe_fld (pv 0) rfl) (pe_prop (pv 1) M.cl pr GN (hr.mono (by decide)) bN .nil pass0 rfl)) pa_nil)))), ?_⟩
    have nm : ∀ z ∈ zs ++ ws, nameB z = true := fun z hz => (List.mem_append.mp hz).elim (m1.nm z) (m2.nm z)
    have hl2 : (zs ++ ws).length ≤ 1000 := by rw [List.length_append]; exact hl
    have fin : ∀ (l : Addr) (H1 : Hp), Same H H1 → H1 l = some (.tup ((zs ++ ws).map V.str)) → spFromT C CN [.ref l] H1 Q E := fun l H1 s1 hl1 => ⟨l, _, rfl, hl1, mk_names nm hl2 (q.imp s1 (fun z => List.mem_append) fun _ _ h => h)⟩
    refine ⟨_, rfl, b, ws, rfl, m2, ?_⟩
    refine ⟨rfl, _, rfl, a, C, dx, _, _, rfl, h1, M.cl, M.nN, flds_names t d, _, rfl, b, dy, _, rfl, k1, b, dy, _, _, rfl, k1, flds_names t2 d2, ?_⟩
    refine ⟨t, t2, zs.map V.str, ws.map V.str, rfl, rfl, SqT.of h2, SqT.of k2, by rw [List.length_map, List.length_map, sizeLine_eq]; omega, fun e => ?_, fun n e => ?_, fun n n2 p np => ?_⟩
    · have e2 : zs = [] := List.map_eq_nil_iff.mp e
      exact fin t2 H (Same.refl H) (by rw [e2]; exact k2)
    · have e2 : ws = [] := List.map_eq_nil_iff.mp e
      exact fin t H (Same.refl H) (by rw [e2, List.append_nil]; exact h2)
    · exact fin p _ (same_upd np) (by rw [upd_same, List.map_append])
end
end K1

namespace K1
open PySem PySem.Spec
open PyProof.Rows L2 EnT StX SmX TxS DuX ClX
theorem len_sub : ∀ {ys zs : List Str}, ys.Nodup → (∀ z ∈ ys, z ∈ zs) → ys.length ≤ zs.length
  | [], _, _, _ => Nat.zero_le _
  | y :: r, zs, nd, s => by
    have nd' := List.nodup_cons.mp nd
    have hy := s y List.mem_cons_self
    have h := len_sub (zs := zs.erase y) nd'.2 fun z hz => (List.mem_erase_of_ne fun e => nd'.1 (by rw [← e]; exact hz)).mpr (s z (List.mem_cons_of_mem _ hz))
    rw [List.length_erase_of_mem hy] at h
    have := List.length_pos_of_mem hy
    rw [List.length_cons]
    omega
theorem upd_upd {H : Hp} {d : Addr} {x y : HO} : upd (upd H d x) d y = upd H d y := by
  funext b
  by_cases h : b = d
  · rw [h, upd_same, upd_same]
  · rw [upd_ne h, upd_ne h, upd_ne h]
theorem filt_succ {zs : List Str} {i : Nat} {z : Str} {p : Str → Bool} (h : zs[i]? = some z) : (zs.take (i + 1)).filter p = (zs.take i).filter p ++ if p z = true then [z] else [] := by
  rw [List.take_add_one, h, List.filter_append]
  congr 1
  by_cases e : p z = true
  · rw [if_pos e]
    simp [e]
  · rw [if_neg e]
    simp [e]
theorem map_succ {zs : List Str} {i : Nat} {z : Str} {g : Str → V} (h : zs[i]? = some z) : (zs.take (i + 1)).map g = (zs.take i).map g ++ [g z] := by
  rw [List.take_add_one, h, List.map_append]
  rfl
theorem filt_len {zs : List Str} {p : Str → Bool} {n : Nat} (h : zs.length ≤ n) : (zs.filter p).length ≤ n := Nat.le_trans (List.length_filter_le _ _) h
section
variable {w : World} {P : Program} {base : Heap} {mg : Str → Option Value} {K : PySem.W.Frag} {C CN CM : Addr} {mc : Value}
abbrev nmSON : List Str := ["self", "other", "name"]
theorem scAndM : FnScope nmSON nmSO (defScope sAndM) := ⟨rfl, rfl, rfl, by decide +kernel, rfl, by decide +kernel, by decide +kernel⟩
theorem scSubM : FnScope nmSON nmSO (defScope sSubM) := ⟨rfl, rfl, rfl, by decide +kernel, rfl, by decide +kernel, by decide +kernel⟩
theorem ok_andM {f : Addr} {fd : FuncData} (F : Fun K "__and__" "Members.__and__" sAndM f fd) (B : Mb P w K mg base C CN CM mc) : FnOk P w K mg base (L2.CX P w) 7 f fd nmSO (spBinM C rAnd) := by
  obtain ⟨fC, hC⟩ := B.chkY
  obtain ⟨pF, gF, mF, FF⟩ := B.fromT
  obtain ⟨gH, mH, FH⟩ := B.hasM
  have M := B.M
  refine F.okX scAndM (fun vs H Q E h => ?_) (fun cdv A outer s H vs Q E hr h => ?_)
  · obtain ⟨a, b, zs, ws, rfl, _⟩ := h
    rfl
  · obtain ⟨a, b, zs, ws, rfl, m1, m2, hl, q⟩ := h
    obtain ⟨dx, t, d, h1, h2, h3⟩ := m1.at_
    obtain ⟨dy, t2, d2, k1, k2, k3⟩ := m2.at_
    refine ⟨_, pss_cons (ps_expr (pe_has hC (hr.mono (by decide)) (by rfl) (passes_call (takes_of rfl rfl rfl rfl) fun _ _ _ _ h => h) (pa_cons (pv 1) pa_nil)))
      (pss_one (ps_ret (pe_smeth (pe_glob (v := .ref C) (by rfl) M.g rfl) B.cr mF FF hr (passes_call (takes_of rfl rfl rfl rfl) fun _ _ _ _ h => h) (pa_cons (pe_callTy call_tuple_of (by rfl) B.T.tuple (by decide +kernel) (pa_cons
        (pe_lc (own := [("name", 2)]) (g := gName 2) (tt := tTest (tOp (rHasO C (spHasM C)) (tVar 2) (tVar 1))) rfl scAndM.nd (pi_tup (pe_fld (pv 0) rfl)) (blkOk_by (own := [("name", 2)]) (N := nmSON) (sc := defScope sAndM) (by decide +kernel)) (fun _ _ _ _ _ => pg_name (i := 2) scAndM.nd rfl (Or.inl rfl))
          (fun _ _ _ _ _ => pts_one (pt_cmpR (op_inX mH FH (hr.mono (by decide))) (pv 2) (pv 1) (by rfl))) (fun _ _ _ _ _ => pv 2)) pa_nil)) pa_nil)))), ?_⟩
    refine ⟨_, rfl, b, ws, rfl, m2, rfl, ?_⟩
    refine ⟨_, rfl, a, C, dx, _, _, rfl, h1, M.cl, M.nN, flds_names t d, t, rfl, ⟨_, SqT.of h2⟩, fun D nD => ?_⟩
    refine lc_tup (K := K) (a := t) (xs := zs.map V.str) (fun i H' => H' = upd H D (.lst (((zs.take i).filter fun z => decide (z ∈ ws)).map V.str))) rfl (fun i H' hi e => ?_) (fun i x H' hx e => ?_) (fun H' e => ?_)
    · subst e
      exact SqT.of (same_upd nD _ _ h2)
    · subst e
      rw [List.getElem?_map] at hx
      obtain ⟨z, hz, rfl⟩ := Option.map_eq_some_iff.mp hx
      have s1 : Same H (upd H D (.lst (((zs.take i).filter fun z => decide (z ∈ ws)).map V.str))) := same_upd nD
      refine ⟨rfl, ?_⟩
      refine ⟨_, rfl, _, rfl, b, dy, _, rfl, s1 _ _ k1, b, ws, _, rfl, m2.same s1, .inl ⟨z, rfl, by have := name_short (m1.nm z (List.mem_of_getElem? hz)); rw [sizeLine_eq]; omega⟩, _, rfl, _, rfl, ?_⟩
      have e1 : hasV ws (V.str z) = decide (z ∈ ws) := rfl
      rw [e1, filt_succ hz]
      by_cases hm : z ∈ ws
      · rw [decide_eq_true hm, if_pos rfl]
        refine iteT ⟨_, rfl, _, upd_same, ?_, ?_⟩
        · have : (((zs.take i).filter fun z => decide (z ∈ ws))).length ≤ 1000 := filt_len (by rw [List.length_take]; omega)
          rw [List.length_map, sizeLine_eq]
          omega
        · rw [upd_upd, List.map_append]
          rfl
      · rw [decide_eq_false hm, if_neg (by decide), List.append_nil]
        exact iteF rfl
    · subst e
      rw [List.length_map, List.take_length]
      have s1 : Same H (upd H D (.lst ((zs.filter fun z => decide (z ∈ ws)).map V.str))) := same_upd nD
      refine ⟨D, _, rfl, .inl ⟨SqL.of upd_same, fun l nl => ?_⟩⟩
      have s2 := same_upd (o := .tup ((zs.filter fun z => decide (z ∈ ws)).map V.str)) nl
      exact ⟨l, _, rfl, upd_same, mk_names (fun z hz => m1.nm z (List.mem_filter.mp hz).1) (filt_len (by omega)) (q.imp (s1.trans s2) (fun z => by rw [List.mem_filter, decide_eq_true_iff]) fun _ _ h => h)⟩
theorem ok_subM {f : Addr} {fd : FuncData} (F : Fun K "__sub__" "Members.__sub__" sSubM f fd) (B : Mb P w K mg base C CN CM mc) : FnOk P w K mg base (L2.CX P w) 7 f fd nmSO (spBinM C rSub) := by
  obtain ⟨fC, hC⟩ := B.chkY
  obtain ⟨pF, gF, mF, FF⟩ := B.fromT
  obtain ⟨gH, mH, FH⟩ := B.hasM
  have M := B.M
  refine F.okX scSubM (fun vs H Q E h => ?_) (fun cdv A outer s H vs Q E hr h => ?_)
  · obtain ⟨a, b, zs, ws, rfl, _⟩ := h
    rfl
  · obtain ⟨a, b, zs, ws, rfl, m1, m2, hl, q⟩ := h
    obtain ⟨dx, t, d, h1, h2, h3⟩ := m1.at_
    obtain ⟨dy, t2, d2, k1, k2, k3⟩ := m2.at_
    refine ⟨_, pss_cons (ps_expr (pe_has hC (hr.mono (by decide)) (by rfl) (passes_call (takes_of rfl rfl rfl rfl) fun _ _ _ _ h => h) (pa_cons (pv 1) pa_nil)))
      (pss_one (ps_ret (pe_smeth (pe_glob (v := .ref C) (by rfl) M.g rfl) B.cr mF FF hr (passes_call (takes_of rfl rfl rfl rfl) fun _ _ _ _ h => h) (pa_cons (pe_callTy call_tuple_of (by rfl) B.T.tuple (by decide +kernel) (pa_cons
        (pe_lc (own := [("name", 2)]) (g := gName 2) (tt := tTest (tOp (rNinO C (spHasM C)) (tVar 2) (tVar 1))) rfl scSubM.nd (pi_tup (pe_fld (pv 0) rfl)) (blkOk_by (own := [("name", 2)]) (N := nmSON) (sc := defScope sSubM) (by decide +kernel)) (fun _ _ _ _ _ => pg_name (i := 2) scSubM.nd rfl (Or.inl rfl))
          (fun _ _ _ _ _ => pts_one (pt_cmpR (op_ninX mH FH (hr.mono (by decide))) (pv 2) (pv 1) (by rfl))) (fun _ _ _ _ _ => pv 2)) pa_nil)) pa_nil)))), ?_⟩
    refine ⟨_, rfl, b, ws, rfl, m2, rfl, ?_⟩
    refine ⟨_, rfl, a, C, dx, _, _, rfl, h1, M.cl, M.nN, flds_names t d, t, rfl, ⟨_, SqT.of h2⟩, fun D nD => ?_⟩
    refine lc_tup (K := K) (a := t) (xs := zs.map V.str) (fun i H' => H' = upd H D (.lst (((zs.take i).filter fun z => !decide (z ∈ ws)).map V.str))) rfl (fun i H' hi e => ?_) (fun i x H' hx e => ?_) (fun H' e => ?_)
    · subst e
      exact SqT.of (same_upd nD _ _ h2)
    · subst e
      rw [List.getElem?_map] at hx
      obtain ⟨z, hz, rfl⟩ := Option.map_eq_some_iff.mp hx
      have s1 : Same H (upd H D (.lst (((zs.take i).filter fun z => !decide (z ∈ ws)).map V.str))) := same_upd nD
      refine ⟨rfl, ?_⟩
      refine ⟨_, rfl, _, rfl, b, dy, _, rfl, s1 _ _ k1, b, ws, _, rfl, m2.same s1, .inl ⟨z, rfl, by have := name_short (m1.nm z (List.mem_of_getElem? hz)); rw [sizeLine_eq]; omega⟩, _, rfl, _, rfl, ?_⟩
      have e1 : hasV ws (V.str z) = decide (z ∈ ws) := rfl
      rw [e1, filt_succ hz]
      by_cases hm : z ∈ ws
      · rw [decide_eq_true hm, if_neg (by decide), List.append_nil]
        exact iteF rfl
      · rw [decide_eq_false hm, Bool.not_false, if_pos rfl]
        refine iteT ⟨_, rfl, _, upd_same, ?_, ?_⟩
        · have : (((zs.take i).filter fun z => !decide (z ∈ ws))).length ≤ 1000 := filt_len (by rw [List.length_take]; omega)
          rw [List.length_map, sizeLine_eq]
          omega
        · rw [upd_upd, List.map_append]
          rfl
    · subst e
      rw [List.length_map, List.take_length]
      have s1 : Same H (upd H D (.lst ((zs.filter fun z => !decide (z ∈ ws)).map V.str))) := same_upd nD
      refine ⟨D, _, rfl, .inl ⟨SqL.of upd_same, fun l nl => ?_⟩⟩
      have s2 := same_upd (o := .tup ((zs.filter fun z => !decide (z ∈ ws)).map V.str)) nl
      exact ⟨l, _, rfl, upd_same, mk_names (fun z hz => m1.nm z (List.mem_filter.mp hz).1) (filt_len (by omega)) (q.imp (s1.trans s2) (fun z => by rw [List.mem_filter]; simp) fun _ _ h => h)⟩
/-! a sign with what is no Members -/
theorem ok_orN {f : Addr} {fd : FuncData} (F : Fun K "__or__" "Members.__or__" sOrM f fd) (B : Mb P w K mg base C CN CM mc) : FnOk P w K mg base (L2.CX P w) 7 f fd nmSO (spBadM C CM) := by
  obtain ⟨fC, hC⟩ := B.chkN
  obtain ⟨pF, gF, mF, FF⟩ := B.fromT
  obtain ⟨pN, gN, fdN, pr, GN, bN⟩ := B.prop
  have M := B.M
  refine F.okX scOrM (fun vs H Q E h => ?_) (fun cdv A outer s H vs Q E hr h => ?_)
  · obtain ⟨a, zs, v, rfl, _⟩ := h
    rfl
  · obtain ⟨a, zs, v, rfl, m1, hv, qE⟩ := h
    exact ⟨_, pss_cons (ps_expr (pe_has hC (hr.mono (by decide)) (by rfl) (passes_call (takes_of rfl rfl rfl rfl) fun _ _ _ _ h => h) (pa_cons (pv 1) pa_nil)))
      (pss_one (ps_ret (pe_smeth (pe_glob (v := .ref C) (by rfl) M.g rfl) B.cr mF FF hr (passes_call (takes_of rfl rfl rfl rfl) fun _ _ _ _ h => h) (pa_cons (pe_op op_catA (pe_fld (pv 0) rfl) (pe_prop (pv 1) M.cl pr GN (hr.mono (by decide)) bN .nil pass0 rfl)) pa_nil)))), _, rfl, v, rfl, hv, qE⟩
theorem ok_andN {f : Addr} {fd : FuncData} (F : Fun K "__and__" "Members.__and__" sAndM f fd) (B : Mb P w K mg base C CN CM mc) : FnOk P w K mg base (L2.CX P w) 7 f fd nmSO (spBadM C CM) := by
  obtain ⟨fC, hC⟩ := B.chkN
  obtain ⟨pF, gF, mF, FF⟩ := B.fromT
  obtain ⟨gH, mH, FH⟩ := B.hasM
  have M := B.M
  refine F.okX scAndM (fun vs H Q E h => ?_) (fun cdv A outer s H vs Q E hr h => ?_)
  · obtain ⟨a, zs, v, rfl, _⟩ := h
    rfl
  · obtain ⟨a, zs, v, rfl, m1, hv, qE⟩ := h
    exact ⟨_, pss_cons (ps_expr (pe_has hC (hr.mono (by decide)) (by rfl) (passes_call (takes_of rfl rfl rfl rfl) fun _ _ _ _ h => h) (pa_cons (pv 1) pa_nil)))
      (pss_one (ps_ret (pe_smeth (pe_glob (v := .ref C) (by rfl) M.g rfl) B.cr mF FF hr (passes_call (takes_of rfl rfl rfl rfl) fun _ _ _ _ h => h) (pa_cons (pe_callTy call_tuple_of (by rfl) B.T.tuple (by decide +kernel) (pa_cons
        (pe_lc (own := [("name", 2)]) (g := gName 2) (tt := tTest (tOp (rHasO C (spHasM C)) (tVar 2) (tVar 1))) rfl scAndM.nd (pi_tup (pe_fld (pv 0) rfl)) (blkOk_by (own := [("name", 2)]) (N := nmSON) (sc := defScope sAndM) (by decide +kernel)) (fun _ _ _ _ _ => pg_name (i := 2) scAndM.nd rfl (Or.inl rfl))
          (fun _ _ _ _ _ => pts_one (pt_cmpR (op_inX mH FH (hr.mono (by decide))) (pv 2) (pv 1) (by rfl))) (fun _ _ _ _ _ => pv 2)) pa_nil)) pa_nil)))), _, rfl, v, rfl, hv, qE⟩
theorem ok_subN {f : Addr} {fd : FuncData} (F : Fun K "__sub__" "Members.__sub__" sSubM f fd) (B : Mb P w K mg base C CN CM mc) : FnOk P w K mg base (L2.CX P w) 7 f fd nmSO (spBadM C CM) := by
  obtain ⟨fC, hC⟩ := B.chkN
  obtain ⟨pF, gF, mF, FF⟩ := B.fromT
  obtain ⟨gH, mH, FH⟩ := B.hasM
  have M := B.M
  refine F.okX scSubM (fun vs H Q E h => ?_) (fun cdv A outer s H vs Q E hr h => ?_)
  · obtain ⟨a, zs, v, rfl, _⟩ := h
    rfl
  · obtain ⟨a, zs, v, rfl, m1, hv, qE⟩ := h
    exact ⟨_, pss_cons (ps_expr (pe_has hC (hr.mono (by decide)) (by rfl) (passes_call (takes_of rfl rfl rfl rfl) fun _ _ _ _ h => h) (pa_cons (pv 1) pa_nil)))
      (pss_one (ps_ret (pe_smeth (pe_glob (v := .ref C) (by rfl) M.g rfl) B.cr mF FF hr (passes_call (takes_of rfl rfl rfl rfl) fun _ _ _ _ h => h) (pa_cons (pe_callTy call_tuple_of (by rfl) B.T.tuple (by decide +kernel) (pa_cons
        (pe_lc (own := [("name", 2)]) (g := gName 2) (tt := tTest (tOp (rNinO C (spHasM C)) (tVar 2) (tVar 1))) rfl scSubM.nd (pi_tup (pe_fld (pv 0) rfl)) (blkOk_by (own := [("name", 2)]) (N := nmSON) (sc := defScope sSubM) (by decide +kernel)) (fun _ _ _ _ _ => pg_name (i := 2) scSubM.nd rfl (Or.inl rfl))
          (fun _ _ _ _ _ => pts_one (pt_cmpR (op_ninX mH FH (hr.mono (by decide))) (pv 2) (pv 1) (by rfl))) (fun _ _ _ _ _ => pv 2)) pa_nil)) pa_nil)))), _, rfl, v, rfl, hv, qE⟩
end
end K1
/-! l.count(True), l a list of truths -/
namespace CnB
open PySem PySem.Spec
open PyProof.Rows L2
def tru : Value → Bool
  | .bool b => b
  | _ => false
theorem tru_vals : ∀ {bs : List Bool} {its : List Value}, Vals (bs.map V.bl) its → its.countP tru = bs.count true ∧ ∀ u ∈ its, ∃ b, u = .bool b
  | [], _, h => by
    cases h
    exact ⟨rfl, fun u z => by cases z⟩
  | b :: r, _, h => by
    cases h with
    | cons h1 h2 =>
      cases h1
      obtain ⟨e1, e2⟩ := tru_vals h2
      refine ⟨?_, fun u hu => ?_⟩
      · rw [List.countP_cons, e1, List.count_cons]
        cases b <;> rfl
      · rcases List.mem_cons.mp hu with e | e
        · exact ⟨b, e⟩
        · exact e2 u e
def rCntB (K : PySem.W.Frag) : V → List V → Hp → VK → Prop := fun x xs H Q => ∃ (p : Addr) (bs : List Bool), x = .ref p ∧ xs = [.bl true] ∧ SqL K H p (bs.map V.bl) ∧ Q (.int (bs.count true : Nat)) H
section
variable {X : Cx}
theorem mt_lcountB : MtR X "list.count" (rCntB X.K) := by
  intro pins s σ H x xs v us Q Iv rx rxs h
  obtain ⟨p, bs, rfl, rfl, hs, q⟩ := h
  cases rx
  obtain ⟨u, rfl,
      ru⟩ := rxs.one
  cases ru
  obtain ⟨its, rv, ⟨⟨cls, dd, data, sl⟩, n, ho, hc, hdn, hd⟩, hlen⟩ := Iv.list hs
  simp only at hc hd
  subst hc hd
  obtain ⟨ec, eb⟩ := tru_vals rv
  refine call_meets PySem.F.slot_list_count ⟨_, ho,
      rfl⟩ PySem.F.entry_list_count (PySem.F.args_list_count_2 _ _)
    (SeqAt.list_countAt p its.toArray n dd sl (.bool true) tru) ⟨ho, fun y hy => ?_, ?_⟩
  · obtain ⟨b, rfl⟩ := eb y (by simpa using hy)
    have z := eqAt_V (A := X.A.in1) (s := s) (y := .bl b) (x := .bl true) rfl rfl rfl rfl
    have e : eqV (.bl b) (.bl true) = b := by cases b <;> rfl
    rw [e] at z
    exact z
  · have e2 : its.toArray.toList.countP tru = bs.count true := ec
    refine ⟨.int (bs.count true : Nat), H, Iv.tok _, ⟨s.toks, ?_⟩, q⟩
    show Value.int ((its.toArray.toList.countP tru : Nat) : Int) _ = Value.int ((bs.count true : Nat) : Int) _
    rw [e2]
end
end CnB
/-! != of two lists whose items are equal one by one, by the items' own == -/
namespace NeL
open PySem PySem.SeqAt
open AutoSeq1
    (wpAny_loadPart')
open MeetsSeq MeetsSeq2
open MeetsSeq3 SeqRoads2
section
variable {w : World} {prog : Program}
variable {R : Result → Shared → Prop} {A : Around}
theorem loop3 (l b : Addr) (N : Nat) (J : Nat → Shared → Prop) (hl : GQ.ListI prog w A (fun e s' => R (.error e) s') l b N J)
    (fin : ∀ s, J N s → R (.ok (.ret (.bool false))) s) (m : Nat) :
    ∀ i : Nat, N - i = m → i ≤ N → ∀ s, J i s →
      wpAny (model prog w) A.in1 (Builtin.«list.__eq__.loop» ⟨[.ref l, .ref b, rawInt i, rawInt 3], []⟩) (GQ.FinOf prog w A R) (fun e s' => R (.error e) s') s := by
  induction m with
  | zero =>
    intro i hm hi s hj
    obtain ⟨xs, ys, n, n2, atL, atB, szX, szY, _⟩ := hl _ _ hj
    have ei : i = N := by omega
    have done : R (.ok (.ret (.bool false))) s := fin s (ei ▸ hj)
    obtain ⟨hp, g,
        d, tk, os⟩ := s
    wp_walk using wpAny_loadPart' atL, wpAny_loadPart' atB
    have no1 : xs[((i : Nat) : Int).toNat]? = none := by simp; omega
    have no2 : ys[((i : Nat) : Int).toNat]? = none := by simp; omega
    rw [no1, no2]
    wp_walk using wpAny_loadPart' atL, wpAny_loadPart' atB
    show R (.ok (.ret (.bool (xs.size != ys.size)))) _
    rw [szX, szY]
    simpa using done
  | succ m ih =>
    intro i hm hi s hj
    obtain ⟨xs, ys, n, n2, atL, atB, szX, szY, turn⟩ := hl _ _ hj
    have l1 : i < xs.size := by omega
    have l2 : i < ys.size := by omega
    have tt := turn l1 l2
    obtain ⟨hp, g,
        d, tk, os⟩ := s
    wp_walk using wpAny_loadPart' atL, wpAny_loadPart' atB
    have is1 : xs[((i : Nat) : Int).toNat]? = some xs[i] := by simp [l1]
    have is2 : ys[((i : Nat) : Int).toNat]? = some ys[i] := by simp [l2]
    have next : ((i : Int) + 1) = ((i + 1 : Nat) : Int) := by omega
    rw [is1, is2]
    refine wpAny_bind (wpAny_mono tt (fun r s2 h2 => ?_) fun _ _ x => x)
    obtain ⟨er, h2⟩ := h2
    subst er
    have go := ih (i + 1) (by omega) (by omega) s2 h2
    obtain ⟨hp2, g2,
        d2, tk2, os2⟩ := s2
    wp_walk
    rw [next]
    exact ⟨plainId_quiet plain_eq_loop
        _, codeAny_builtin entry_eq_loop (by
      rw [Around.under_plainId plain_eq_loop _]; exact go)⟩
theorem list_neG (l b : Addr) (N : Nat) (J : Nat → Shared → Prop) (hl : GQ.ListI prog w A (fun e s' => R (.error e) s') l b N J)
    (fin : ∀ s, J N s → R (.ok (.ret (.bool false))) s) {s : Shared} (hj : J 0 s) :
    wpAny (model prog w) A.in1 (Builtin.«list.__ne__» ⟨[.ref l, .ref b], []⟩) (GQ.FinOf prog w A R) (fun e s' => R (.error e) s') s := by
  obtain ⟨xs, ys, n, n2, atL, atB, szX, szY, _⟩ := hl _ _ hj
  have go := loop3 (A := A) (R := R) l b N J hl fin _ 0 rfl (Nat.zero_le _) s hj
  obtain ⟨hp, g,
      d, tk, os⟩ := s
  have sub := AutoSeq1.sub_list_list
  have same : ¬ (xs.size != ys.size) = true := by simp [szX, szY]
  wp_walk using wpAny_loadPart' atL, wpAny_loadPart' atB
  exact ⟨plainId_quiet plain_eq_loop
      _, codeAny_builtin entry_eq_loop (by
    rw [Around.under_plainId plain_eq_loop _]; exact go)⟩
end
section
variable {w : World} {prog : Program}
variable {E : Value → Shared → Prop} {A : Around} {s : Shared}
theorem rc_neG {l b : Addr} {N : Nat} {Q : Value → Shared → Prop} (hu : A.units < cLine) (J : Nat → Shared → Prop) (hl : GQ.ListI prog w A E l b N J)
    (fin : ∀ s, J N s → Q (.bool false) s) (hj : J 0 s) : wpAny (model prog w) A (richCompare .NotEq (.ref l) (.ref b)) Q E s := by
  obtain ⟨xs, ys, n, n2, atL, atB, _, _, _⟩ := hl _ _ hj
  refine wpAny_richCompare_same_room (op := .NotEq) ⟨_, atL, rfl⟩ ⟨_, atB, rfl⟩ F.slot_list_ne (GQ.call_here F.slot_list_ne ⟨_, atL, rfl⟩ F.entry_list_ne (F.args_list_ne_2 _ _) ?_) hu
  exact list_neG (R := wants (fun v s' => v ≠ .notImplemented ∧ Q v s') E) l b N J hl (fun s' q => ⟨(fun x => nomatch x), fin s' q⟩) hj
end
open PySem.Spec PyProof.Rows L2
section
variable {X : Cx} {n : Nat} {D : Eqv}
/-- x != y as an expression: the lists' items are equal -/
theorem op_neG (hD : Mon D) (h : EqG X n D) (hr : Room (n + 1) X.A) : OpR X (compareOp .NotEq) (fun x y H Q => DList D x y H ∧ ∀ H', L2.Ext H H' → Q (.bl false) H') := by
  intro pins s σ H x y v u Q Iv rx ry hq
  obtain ⟨⟨a, b, xs, ys, rfl, rfl, ha, hb, p⟩, q⟩ := hq
  cases rx
  cases ry
  have sb : Sub X (n + 1) X.A := ⟨hr, rfl⟩
  show wpAny (model X.prog X.w) X.A (richCompare .NotEq (.ref a) (.ref b)) (EP X pins σ Q) X.xe s
  refine rc_neG (N := xs.length) hr.units0 (fun _ s' => LoopI X pins σ H s') (fun i s' l => ?_) (fun s' l => ?_) ⟨H, Iv, L2.Ext.rfl'⟩
  · obtain ⟨H1, I1, e1⟩ := id l
    obtain ⟨z, its, k, r, e⟩
        := I1.hok a _ (e1 _ _ ha)
    obtain ⟨z2, its2, k2, r2,
        e2⟩ := I1.hok b _ (e1 _ _ hb)
    refine ⟨its.toArray, its2.toArray, k, k2, e, e2, by rw [List.size_toArray,
        ← r.length], by rw [List.size_toArray, ← r2.length, ← p.1], fun h1 h2 => ?_⟩
    exact turnG hD h sb p r r2 i h1 h2 s' l
  · obtain ⟨H1, I1, e1⟩ := l
    exact ⟨.bl false, H1, I1, rfl, q H1 e1⟩
end
end NeL

/-! isinstance of a caught error that has attributes -/
namespace XdI
open PySem PySem.Spec
    PySem.Calls
open PyProof.Rows PySem.W
section
variable {s : Shared} {prog : Program} {w : World}
variable {E : Value → Shared → Prop} {A : Around} {K : Frag} {x D : Addr} {ox od : Obj}
theorem cls_dict {Q : Option Value → Shared → Prop} (gA : findIn K (.ref D) "__getattribute__" = some (some (.builtin "BaseException.__getattribute__"))) (gT : findIn K (.ref D) "__getattr__" = some none) (sB : subIn K (.ref D) (.type "BaseException") = some true)
    (dC : hasDictIn K D = true) (cA : findIn K (.ref D) "__class__" = some (some (.builtin "object.__class__")))
    (sG : specialIn K (.builtin "object.__class__") "__get__" = some (some (.builtin "getset_descriptor.__get__"))) (tA : takesIn K (.builtin "object.__class__") = some true) (mO : mroIn K D (.type "object") = some true)
    (Kn : K.In s.heap) (Iv : InstAt s.heap x ox D (some od)) (h : Q (some (.ref D)) { s with toks := s.toks + 1 }) : wpAny (model prog w) A (getAttr? (.ref x) "__class__") Q E s := by
  have fO : findObj K D (some od) "__class__" = some (.bind (.builtin "getset_descriptor.__get__") (.builtin "object.__class__")) := findObj_data (by obtain ⟨cd, hc, _⟩ := any_some dC; rw [hc]; rfl) cA sG tA
  obtain ⟨hp, g, d, t, os⟩ := s
  have M0 := Iv.type (M := model prog w)
  have M1 := looks_findIn (M := model prog w) Kn gA
  have M2 := looks_findIn (M := model prog w) Kn gT
  have M3 := looks_find (M := model prog w) Kn Iv fO
  have sub : Looks (model prog w) hp (isInstance (.ref x) (.type "BaseException")) true := M0.andThen (looks_subIn Kn sB)
  have no0 : (false && onTheHeap (Value.builtin "BaseException.__getattribute__")) = false := rfl
  have no2 : (Value.builtin "BaseException.__getattribute__" == Value.builtin "object.__getattribute__") = false := by decide +kernel
  have no1 : (onTheHeap (Value.ref D) && Value.builtin "BaseException.__getattribute__" == Value.builtin "object.__getattribute__") = false := by rw [no2]; rfl
  unfold getAttr? getAttrBy?
      getAttrBy
  refine wpAny_bind (wpAny_mkText (wpAny_bind (wpAny_attempt (wpAny_holding (wpAny_bind (M0.at (wpAny_bind (M1.at ?_))))))))
  show wpAny _ _ (if (onTheHeap (Value.ref D) && Value.builtin "BaseException.__getattribute__"
      == Value.builtin "object.__getattribute__") = true then _ else _) _ _ _
  rw [no1, if_neg Bool.false_ne_true]
  unfold getAttrByItsOwn
      hookBefore
  refine wpAny_bind ?_
  rw [if_pos (show onTheHeap
      (Value.ref D) = true from rfl)]
  refine M2.at ?_
  refine wpAny_bind (wpAny_attempt
      (wpAny_holding ?_))
  unfold callGetattribute
  rw [no0, if_neg Bool.false_ne_true]
  unfold boundAndCalled
  rw [PySem.F.excAttr_ValueError.ga.bind
      (.ref x)]
  refine wpAny_bind
      (wpAny_pure ?_)
  show wpAny _ _ (call (.builtin "BaseException.__getattribute__")
      [.ref x, .str "__class__" t]) _ _ _
  refine wpAny_call (codeAny_call_builtin PySem.F.excAttr_ValueError.ga.plain
      PySem.F.entry_bexc_ga ?_)
  refine @check_slot (model prog w) _ _ ⟨hp, g, d, t + 1, os⟩ "BaseException.__getattribute__" "BaseException" "__getattribute__"
      (.ref x) [.str "__class__" t] [] _ (by decide +kernel) (by decide +kernel) sub (PySem.F.args_bexc_ga (.ref x) (.str "__class__" t)) ?_
  unfold
    Builtin.«object.__getattribute__»
  refine wpAny_bind (wpAny_of_eq (a := ((Value.ref x : Value), [Value.str
      "__class__" t])) (by first | rfl | (simp only [slotArgs]; rfl)) ?_)
  refine wpAny_bind (wpAny_pure (wpAny_bind (M0.at (wpAny_bind (M3.at ?_)))))
  show wpAny _ _ (holding [Value.builtin "object.__class__"] (call (.builtin
      "getset_descriptor.__get__") [.builtin "object.__class__", .ref x, .ref D]) >>= ret) _ _ _
  refine wpAny_bind (wpAny_holding (wpAny_call (class_get (s := ⟨hp, g, d, t + 1, os⟩) (ox := ox) (od := some od) Kn Iv mO ?_)))
  refine wpAny_pure ?_
  show wpAny _ _ (handedOut
      (.ref D)) _ _ _
  rw [handedOut_of
      (v := .ref D) rfl]
  first
    | exact wpAny_pure
        (wpAny_pure h)
    | exact wpAny_pure h
    | exact wpAny_pure (wpAny_bind
        (wpAny_pure (wpAny_pure h)))
theorem kitx_dict (gA : findIn K (.ref D) "__getattribute__" = some (some (.builtin "BaseException.__getattribute__"))) (gT : findIn K (.ref D) "__getattr__" = some none) (sB : subIn K (.ref D) (.type "BaseException") = some true) (dC : hasDictIn K D = true) (cA : findIn K (.ref D) "__class__" = some (some (.builtin "object.__class__")))
    (sG : specialIn K (.builtin "object.__class__") "__get__" = some (some (.builtin "getset_descriptor.__get__"))) (tA : takesIn K (.builtin "object.__class__") = some true) (mO : mroIn K D (.type "object") = some true) :
    KitX K (.ref x) (.ref D) (fun h
        => InstAt h x ox D (some od)) where
  ty := fun _ _ _ Iv => Iv.type
  it := fun _ _ Kn _ => by
    obtain ⟨rD, eD, _⟩ := any_some dC
    unfold clsIn at eD
    split at eD
    · rename_i c' d' cd' sl' ho
      intro A' Q' E' s' k q
      unfold isType loadHead
      exact wpAny_bind (wpAny_loadPart (k _ _ (Kn _ _ ho)) (wpAny_pure q))
    · cases eD
  ne := fun h tp dd its n sl Kn htp => by
    obtain ⟨rD, eD, _⟩ := any_some dC
    refine Bool.eq_false_iff.mpr
        fun q => ?_
    have e : D = tp := Value.ref.inj
        (beq_iff_eq.mp q)
    subst e
    unfold clsIn at eD
    split at eD
    · rename_i c' d' cd' sl' ho
      have z := (Kn _ _ ho).symm.trans htp
      cases z
    · cases eD
  ca := fun Kn Iv k => cls_dict gA gT sB dC cA sG tA mO Kn Iv k
end
end XdI
namespace XdI
open PySem PySem.Spec
open PyProof.Rows L2
/-- isinstance(e, c), e the exception that the suite holds, its attributes at dd -/
def rIsD (K : PySem.W.Frag) (D a : Addr) (d : Option Addr) : List V → Hp → VK → Prop := fun xs H Q => ∃ (c : V) (cv : Value) (b : Bool) (dd : Addr) (fs : List (Str × V)), xs = [.ref a, c] ∧ d = some dd ∧ H dd = some (.xd fs) ∧ (∀ u, RelV c u → u = cv) ∧ PySem.W.kitOne K (.ref D) cv = some b ∧ Q (.bl b) H
theorem call_isD {X : Cx} {a D : Addr} {d : Option Addr} {oe : Obj} {pn : List (Addr × Obj)} {cls : Value} (ec : cls = .ref D) (C : ExcC X.K D) (hz : Zc cls d oe) (hf : ∃ vs, oe.data = .fields vs) : CallR (X.suite a ((a, oe) :: pn)) (.builtin "isinstance") (rIsD X.K D a d) := by
  intro pins s σ H xs us Q Iv r h
  obtain ⟨c, cv, b, dd, fs, rfl, ed, hd, hcv, e, q⟩ := h
  subst ed
  subst ec
  cases r with
  | cons rx rr =>
    cases rr with
    | cons rt rr =>
      cases rr
      cases rx
      have ec := hcv _ rt
      subst ec
      obtain ⟨gotA, _⟩ := Iv.pin (a, oe) (List.mem_append.mpr (.inl List.mem_cons_self))
      obtain ⟨vs, vA⟩ := hf
      have okX : ObjOk X.prog X.w H s.heap dd (.xd fs) := Iv.hok dd _ hd
      obtain ⟨mA, hns, hr⟩ := okX
      obtain ⟨od, ho, hl⟩
          := lookIn_ns hns
      have Jv : PySem.W.InstAt s.heap a oe D (some od) := ⟨gotA, hz.1, by unfold PySem.W.notCls; rw [vA] <;> rfl, by rw [hz.2]; exact ho⟩
      exact PySem.W.kia_one (kitx_dict C.hg C.hk C.hs C.hd C.ha C.hn C.ht C.hm) Iv.kIn Jv e (fun z => nomatch z) fun tk => ⟨.bl b, H, Iv.kept (t' := tk) fun _ _ z => z, rfl, q⟩
end XdI

/-! try .. except (X1, X2, X3) as n, where the clause takes what is raised -/
namespace Tr3
open PySem PySem.Spec
open PyProof.Rows L2
theorem fly_keeps {B h h' : Heap} {l : List Env} {e : Addr} {Z : Obj → Prop} (x : HandSPX.FlyingZ B l e Z h) (k : ∀ b o, h.get? b = some o → h'.get? b = some o) : HandSPX.FlyingZ B l e Z h' := by
  obtain ⟨f1, f2, f3, oe, vs, T, oT, ts, h1, h2, hpA, hpB, h5, h6, h7, h8, h9⟩ := x
  exact ⟨fun b o q => k b o (f1 b o q), f2, f3.of_keeps fun b o q _ => ⟨o, k b o q, rfl⟩, oe, vs, T, oT, ts, k _ _ h1, h2, hpA, hpB, h5, h6, k _ _ h7, h8, h9⟩
/-- what the clause wishes of an exception of the body: slot i is n's -/
def wAs3 (K : PySem.W.Frag) (cs : List Value) (i : Nat) (ts : Addr → Value → Option Addr → TS) (D : Ends) : WX := fun cls d σ H =>
  PySem.W.exmAny K cls cs = some true ∧ ∀ a, H a = none → ts a cls d { nx := fun σ' H' => D.nx (σ'.set i none) H', rt := D.rt, bk := fun σ' H' => D.bk (σ'.set i none) H', ct := fun σ' H' => D.ct (σ'.set i none) H' } (σ.set i (some (.ref a))) H
section
variable {X : Cx} {n : Str} {x1 x2 x3 : Str} {c1 c2 c3 : Value} {i kk : Nat} {body suite : List Stmt}
variable {b₀ : Stmt} {pos pos' p1 p2 p3 tpos : Pos} {tb : WX → TS} {ts : Addr → Value → Option Addr → TS}
theorem ps_try_as3 (hs : X.stack = X.env :: X.outer) (hf : X.env.frame = some X.env.locals) (hN : X.N.Nodup) (hi : X.N[i]? = some n) (hln : X.env.kindOf n = some .local) (hc1 : Names X x1 c1) (hc2 : Names X x2 c2) (hc3 : Names X x3 c3)
    (hb : ∀ (W : WX) (pn : List (Addr × Obj)) (xe : Value → Shared → Prop), Takes
        (X.tr pn xe) W → PassesOwn (model X.prog X.w) X.A X.env xe → PSs (X.tr pn xe) body (tb W))
    (hsu : ∀ (a : Addr) (oe : Obj) (cls : Value) (d : Option Addr) (pn : List (Addr × Obj)),
        Zc cls d oe → (∃ vs, oe.data = .fields vs) → PSs (X.suite a ((a, oe) :: pn)) (b₀ :: suite) (ts a cls d)) :
    PS X (.Try body [.ExceptHandler (some (.Tuple [.Name x1 p1, .Name x2 p2, .Name x3 p3] kk tpos)) (some n) (b₀ :: suite) pos'] [] [] pos) (fun D σ H => tb (wAs3 X.K [c1, c2, c3] i ts D) D σ H) := by
  refine ⟨fun pins s σ H D Iv h => ?_⟩
  have okA := Iv.ok
  have frA : X.A.frames = some (X.env :: X.outer) := by rw [okA.frames, hs]
  have hloc : Loc X.env.scope
      n := .inl hln
  refine wpAny_Try_except ?_
  refine wpAny_mono ((hb (wAs3 X.K [c1, c2, c3] i ts D) (X.pn ++ pins) (fun e s₁ => wpAny (model X.prog X.w) X.A (noteFrame e X.env) (fun _ s₂ => wpAny (model X.prog X.w) X.A (setFlight e none) (fun _ s₃ =>
    wpAny (model X.prog X.w) X.A (handleBy e X.env [.ExceptHandler (some (.Tuple [.Name x1 p1, .Name x2 p2, .Name x3 p3] kk tpos)) (some n) (b₀ :: suite) pos']) (SP X pins D) X.xe s₃) X.xe s₂) X.xe s₁) (fun u s' xA => ?_) PassesOwn.looking).run [] s σ H D (Iv.toTry _) h) (fun f s1 hsp => ?_) (fun e s1 he => he)
  · -- the catch
    obtain ⟨a, B, sI, pins', σ', H', cls, d, rfl, J', nbA, up, skA, na, os, ag, hb1, hyes⟩ := xA
    have Jv : Inv X pins σ' H' sI := J'.ofTry okA
    have sky' : Sky B (X.env :: X.outer) a (Zc cls d) X.env.locals s'.heap := by rw [← hs]; exact skA
    show wpAny (model X.prog X.w)
        X.A (noteFrame (.ref a) X.env) _ _ _
    refine Sky.land Zc.steady frA hf sky' fun hpA flA upA => ?_
    have Jv3 : Inv X pins σ' H' { s' with heap := hpA } := Jv.landed nbA flA.1 (up.trans upA) os ag
    obtain ⟨oA, vA, eA, zA, dA⟩ := flA.there
    have notFr : ∀ {h : Heap} {o : Obj} {vs : Array Value}, h.FunFrames B (X.env :: X.outer)
        → h.get? a = some o → o.data = .fields vs → a ∉ frs (X.env :: X.outer) := fun {h o vs} ff e dd hm => by
      obtain ⟨_, o', e',
          hnf⟩ := ff.mem hm
      rw [e] at e'; cases e'
      exact hnf _ dd
    have notR := notFr flA.2.2.1 eA dA
    have notL : a ≠ X.env.locals := fun z => notR (List.mem_filterMap.mpr ⟨X.env, List.mem_cons_self, by rw [hf, z]⟩)
    have notF : a ∉ X.fs := fun hm => by
      obtain ⟨e, he, q⟩ :=
          List.mem_filterMap.mp hm
      exact notR (List.mem_filterMap.mpr ⟨e, List.mem_cons_of_mem _ he, q⟩)
    have SvA := Jv3.suite eA dA na notL notF
    refine wpAny_handleBy_cons (codeAny_handlers_test
        ?_) (by intro q; cases q)
    have LT : PySem.W.Looks (model X.prog X.w) hpA (typeOf (.ref a)) cls := fun A Q E s k q => wpAny_typeOf_ref (k _ _ eA) (by rw [zA.1]; exact q)
    have test : ∀ {x : Str} {c : Value} {np : Pos} {s1 : Shared} (hc : Names X x c) (I1 : Inv (X.suite a ((a, oA) :: (X.pn ++ pins))) [] σ' H' s1) {Q : Value → Shared → Prop} {E : Value → Shared → Prop}, Q c s1 → wpAny (model X.prog X.w) (X.A.mark (some (.ref a))) (eval (.Name x np) X.env) Q E s1 := by
      intro x c np s1 hc I1 Q E q
      obtain ⟨hg, hdbg, hm
          | ⟨hm, hv, hnn⟩⟩ := hc
      · exact ld_glob (X := X.suite a ((a, oA) :: (X.pn ++ pins))) I1 hg hm q hdbg
      · exact ld_blt (X := X.suite a ((a, oA) :: (X.pn ++ pins))) I1 hg hm hv q hnn hdbg
    refine wpAny_Tuple ?_
    refine wpAny_items_cons (test hc1 SvA ?_)
    refine wpAny_items_cons (test hc2 SvA ?_)
    refine wpAny_items_cons (test hc3 SvA ?_)
    refine wpAny_items_nil ⟨(by show 3 ≤ sizeLine; decide), ?_⟩
    have kp : ∀ q o, hpA.get? q = some o → (hpA.push { cls := .type "tuple", data := .seq [c1, c2, c3].toArray }).get? q = some o := fun _ _ z => Heap.get?_push_of_some _ z
    refine (PySem.W.exm_tup3 (Jv3.kIn.keeps kp) (LT.keeps kp) (Heap.get?_push_size hpA rfl) hb1).here ?_
    have flA := fly_keeps flA kp
    have upA := upA.trans (Heap.UpToSlots.of_keeps kp)
    refine codeAny_handlers_suite_as
        ?_
    refine HandSPX.lands_againZ flA fun hpB flB upB => ?_
    have Jv4 : Inv X pins σ' H' { s' with heap := hpB } := Jv.landed nbA flB.1 ((up.trans upA).trans upB) os ag
    obtain ⟨oB, vB, eB, zB, dB⟩ := flB.there
    have SvB := Jv4.suite eB dB na notL notF
    refine store_ok (X := X.suite a ((a, oB) :: (X.pn ++ pins))) (v := .ref a) SvB hN hi hloc rfl (fun s5 SvC => ?_) (.inr hln)
    refine wpAny_mono ((hsu a oB cls d (X.pn ++ pins) zB ⟨_, dB⟩).run [] s5 _ H' _ SvC (hyes a na)) (fun f s6 hsp => ?_) (fun _ _ z => False.elim z)
    have end_ : ∀ {σ6 : L2.St} {H6 : Hp} {Q : Shared → Prop}, Inv (X.suite a ((a, oB) :: (X.pn ++ pins))) [] σ6 H6 s6 → (∀ s7, Inv X pins (σ6.set i none) H6 s7 → Q s7) →
        wpAny (model X.prog X.w) X.A (do bindName X.env n .none; unbindBehindTheSuite X.env n pos') (fun _ s7 => Q s7) X.xe s6 := fun {σ6 H6 Q} SvD hq => gone_ok (SvD.unsuite okA) hN hi hln hq
    cases f with
    | next =>
      obtain ⟨σ6, H6, SvD, q6⟩ := hsp
      exact end_ SvD fun s7 J7 => ⟨_, _, J7, q6⟩
    | brk =>
      obtain ⟨σ6, H6, SvD, q6⟩ := hsp
      exact end_ SvD fun s7 J7 => ⟨_, _, J7, q6⟩
    | cont =>
      obtain ⟨σ6, H6, SvD, q6⟩ := hsp
      exact end_ SvD fun s7 J7 => ⟨_, _, J7, q6⟩
    | ret u =>
      obtain ⟨v6, σ6, H6, SvD, r6, q6⟩ := hsp
      exact end_ SvD fun s7 J7 => ⟨_, _, _, J7, r6, q6⟩
  · cases f with
    | next =>
      obtain ⟨σ', H', J', q⟩ := hsp
      exact wpAny_execs_nil ⟨σ', H', J'.ofTry okA, q⟩
    | brk =>
      obtain ⟨σ', H', J', q⟩ := hsp
      exact ⟨σ', H', J'.ofTry okA, q⟩
    | cont =>
      obtain ⟨σ', H', J', q⟩ := hsp
      exact ⟨σ', H', J'.ofTry okA, q⟩
    | ret u =>
      obtain ⟨v, σ', H',
          J', r, q⟩ := hsp
      exact ⟨v, σ', H', J'.ofTry okA, r, q⟩
end
end Tr3
/-! two own classes at an operator; -o, abs(o), bool(o) by own methods; the truth of o in a test -/
namespace DuX
open PySem PySem.Spec
open PyProof.Rows L2
/-- the class at D has the operator too, and is not below C -/
structure OthC (K : PySem.W.Frag) (C D : Addr) (nm : String) : Prop where
  ne : C ≠ D
  sf : PySem.W.selfFirst K D = true
  f : ∃ f, PySem.W.findIn K (.ref D) (PySem.dunder nm) = some (some (.ref f))
  r : PySem.W.findIn K (.ref D) (dunderR nm) = some none
  hs : PySem.W.subIn K (.ref D) (.ref C) = some false
section
variable {M : Model} {prog : Program} {w : World} {A : Around} {E : Value → Shared → Prop} {s : Shared} {K : PySem.W.Frag} {x C D f : Addr} {ox : Obj} {od : Option Obj}
open PySem.W in
theorem bin_two {op : Operator} {b : Value} {Q : Value → Shared → Prop} (X : K.In s.heap) (J : InstAt s.heap x ox C od) (hb : ∀ M : Model, Looks M s.heap (typeOf b) (.ref D)) (hc : selfFirst K C = true) (hs : findIn K (.ref C) (PySem.dunder op.info.2) = some (some (.ref f))) (hf : isFn K (.ref f) = true)
    (hr : findIn K (.ref C) (dunderR op.info.2) = some none) (O : OthC K C D op.info.2)
    (h : wpAny (model prog w) A (call (.ref f) [.ref x, b]) (PySem.W.CmpBack Q) E s) : wpAny (model prog w) A (binaryOp op (.ref x) b) Q E s := by
  obtain ⟨cd, more, hcd, hm⟩ := ksp_first hc
  obtain ⟨ne, sf, ⟨g, h1⟩, h2, hsub⟩ := O
  obtain ⟨cd2, more2, hcd2, hm2⟩ := ksp_first sf
  have one := ksp_try X J hs hf h
  rcases hi : op.info with ⟨sym, nm⟩
  rw [hi] at hs hr h1 h2 one
  dsimp only at hs hr h1 h2 one
  obtain ⟨hp, g', d, tk, os⟩ := s
  have la := J.type (M := model prog w)
  have lb := hb (model prog w)
  have lc := fills_K (M := model prog w) X hcd hm hs
  have ld := fills_K (M := model prog w) X hcd2 hm2 h1
  have le := looks_subIn (M := model prog w) X hsub
  have lf := ksp_inPy (M := model prog w) X hs hr (.inl rfl)
  have lg := ksp_inPy (M := model prog w) X h1 h2 (.inl rfl)
  have ne : (Value.ref C == Value.ref D) = false := Bool.eq_false_iff.mpr fun q => ne (Value.ref.inj (beq_iff_eq.mp q))
  simp only [binaryOp, hi]
  refine wpAny_holding (wpAny_bind ?_)
  unfold binaryOp1
  refine wpAny_bind (la.at (wpAny_bind (lb.at (wpAny_bind (lc.at ?_)))))
  simp only [ne, if_false, Bool.false_eq_true]
  ksp_lk
  refine wpAny_mono one (fun r s1 hz => ?_) fun _ _ e => e
  obtain ⟨v, rfl, q⟩ := hz
  ksp_lk
  exact q
end
section
variable {X : Cx} {CX : CXT} {k : Nat} {g C D : Addr} {sp : Sp} {Ek : XK} {pins : List (Addr × Obj)} {σ : L2.St} {H : Hp} {s : Shared}
/-- the left one of the class at C, the right one of the class at D -/
def rBinD (K : PySem.W.Frag) (C D : Addr) (sp : Sp) (Ek : XK) : R2 := fun x y H Q => ∃ a dx fs, x = .ref a ∧ H a = some (.ins C dx fs) ∧ TyX K H y (.ref D) ∧ sp [.ref a, y] H Q Ek
theorem op_binD {op : Operator} (m : OwnM X.K C (PySem.dunder op.info.2) g) (hc : PySem.W.selfFirst X.K C = true) (hR : PySem.W.findIn X.K (.ref C) (dunderR op.info.2) = some none) (O : OthC X.K C D op.info.2) (F : FnR X.prog X.w X.K X.mg X.base CX k g sp) (hr : Room k X.A) (hx : Passes CX X Ek) :
    OpR X (binaryOp op) (rBinD X.K C D sp Ek) := by
  intro pins s σ H x y v u Q Iv rx ry h
  obtain ⟨a, dx, fs, rfl, ha, ty, q⟩ := h
  cases rx
  obtain ⟨ox, od, J⟩ := inst_of Iv ha
  obtain ⟨Pz, Z, pz, _⟩ := kit_of Iv ry ty
  refine bin_two Iv.kIn J (fun M => Z.ty M _ Iv.kIn pz) hc m.at_ m.fn hR O ?_
  refine wpAny_mono (run_below F hr rfl hx Iv (vs := [V.ref a, y]) (.cons rfl (.cons ry .nil)) q) (fun z s1 hz => ?_) fun _ _ e => e
  obtain ⟨z', H1, I1, rz, qz⟩ := hz
  exact SlX.cmpback rz ⟨z', H1, I1, rz, qz⟩
/-- -o -/
def rNegO (C : Addr) (sp : Sp) (Ek : XK) : V → Hp → VK → Prop := fun x H Q => ∃ a dx fs, x = .ref a ∧ H a = some (.ins C dx fs) ∧ sp [.ref a] H Q Ek
theorem un_negO (m : OwnM X.K C "__neg__" g) (F : FnR X.prog X.w X.K X.mg X.base CX k g sp) (hr : Room k X.A) (hx : Passes CX X Ek) : UnR X (unaryOp .USub) (rNegO C sp Ek) := by
  intro pins s σ H x v Q Iv rx h
  obtain ⟨a, dx, fs, rfl, ha, q⟩ := h
  cases rx
  obtain ⟨ox, od, J⟩ := inst_of Iv ha
  obtain ⟨mm, hF⟩ := Iv.fr
  exact PySem.W.ksp_neg hF Iv.ok.mod.kin J m.at_ m.fn (run_below F hr rfl hx Iv (vs := [V.ref a]) (.cons rfl .nil) q)
/-- abs(o) -/
theorem call_absO (m : OwnM X.K C "__abs__" g) (F : FnR X.prog X.w X.K X.mg X.base CX k g sp) (hr : Room (k + 1) X.A) (hx : Passes CX X Ek) :
    CallR X (.builtin "abs") (fun xs H Q => ∃ a dx fs, xs = [.ref a] ∧ H a = some (.ins C dx fs) ∧ sp [.ref a] H Q Ek) := by
  intro pins s σ H xs us Q Iv r h
  obtain ⟨a, dx, fs, rfl, ha, q⟩ := h
  rw [Vals.ref1 r]
  obtain ⟨ox, od, J⟩ := inst_of Iv ha
  refine Calls.call_function_entry kind_abs plain_abs entry_abs (args_abs _) ?_
  unfold Builtin.«abs»
  refine wpAny_bind (m := oneArg "abs" _) (wpAny_pure ?_)
  refine wpAny_bind (m := callSpecial? (.ref a) (Str.ofString "__abs__")) (PySem.W.special_fn Iv.kIn J m.at_ (beq_iff_eq.mp m.fn) (wpAny_mono (run_below F hr.in1 rfl hx Iv (vs := [V.ref a]) (.cons rfl .nil) q) (fun z s1 hz => ?_) fun _ _ e => e))
  exact wpAny_pure ⟨_, rfl, hz⟩
/-- the truth of o, by its __bool__ -/
theorem truthy_boolO {A : Around} {a dx : Addr} {fs : List (Str × V)} {Q : Bool → Hp → Prop} (m : OwnM X.K C "__bool__" g) (F : FnR X.prog X.w X.K X.mg X.base CX k g sp) (hr : Room k A) (hf : A.frames = X.A.frames) (hx : Passes CX X Ek) (Iv : Inv X pins σ H s) (ha : H a = some (.ins C dx fs))
    (q : sp [.ref a] H (fun v H' => ∃ b, v = .bl b ∧ Q b H') Ek) :
    wpAny (model X.prog X.w) A (truthy (.ref a)) (fun b s1 => ∃ H', Inv X pins σ H' s1 ∧ Q b H') X.xe s := by
  obtain ⟨ox, od, J⟩ := inst_of Iv ha
  obtain ⟨mm, hF⟩ := Iv.fr
  refine PySem.W.truthy_K hF Iv.ok.mod.kin J m.at_ m.fn (wpAny_mono (run_below F hr hf hx Iv (vs := [V.ref a]) (.cons rfl .nil) q) (fun z s1 hz => ?_) fun _ _ e => e)
  obtain ⟨v, H1, I1, rv, b, rfl, q1⟩ := hz
  cases rv
  exact ⟨H1, I1, q1⟩
/-- bool(o), by its __bool__ -/
theorem call_boolB (m : OwnM X.K C "__bool__" g) (F : FnR X.prog X.w X.K X.mg X.base CX k g sp) (hr : Room (k + 2) X.A) (hx : Passes CX X Ek) :
    CallR X (.type "bool") (fun xs H Q => ∃ a dx fs, xs = [.ref a] ∧ H a = some (.ins C dx fs) ∧ sp [.ref a] H (fun v H' => ∃ b, v = .bl b ∧ Q (.bl b) H') Ek) := by
  intro pins s σ H xs us Q Iv r h
  obtain ⟨a, dx, fs, rfl, ha, q⟩ := h
  rw [Vals.ref1 r]
  have f1 := PySem.F.conv_sub_bool
  refine callType_codes (T := "bool") (Bi := Builtin.«object.__init__») (Q₁ := fun r s₁ => ∃ b, r = .bool b ∧ ∃ H', Inv X pins σ H' s₁ ∧ Q (.bl b) H') PySem.F.called_bool (PySem.F.typeCall_bool_1 _) PySem.F.entry_object_init ?_ ?_
  · refine codeAny_of_tree ?_
    show wpAny _ X.A.in1.in1 (do checkBuiltinCall "bool.__new__" ⟨[.type "bool", .ref a], []⟩; again (.builtin "bool.__new__" ⟨[.type "bool", .ref a], []⟩)) _ _ s
    refine wpAny_bind (wpAny_of_eq (PySem.F.newCall_bool_1 _) (wpAny_pure ⟨plainId_quiet (by decide +kernel) _, codeAny_builtin PySem.F.entry_bool_new ?_⟩))
    rw [Around.under_plainId
        (by decide +kernel) _]
    unfold Builtin.«bool.__new__»
    refine wpAny_bind (m := isType (.type "bool")) (wpAny_pure ?_)
    simp only [Bool.not_true,
        Bool.false_eq_true, if_false]
    refine wpAny_bind (wpAny_of_eq f1 ?_)
    simp only [Bool.not_true,
        Bool.false_eq_true, if_false]
    refine wpAny_bind (m := someArgs "bool" 0 1 _) (wpAny_pure ?_)
    refine wpAny_bind (wpAny_mono (truthy_boolO (Q := fun b H' => Q (.bl b) H') m F hr.in1.in1 rfl hx Iv ha q) (fun b s1 z => ?_) fun _ _ e => e)
    exact wpAny_pure ⟨b, rfl, z⟩
  · rintro obj s₁ ⟨b, rfl, H1, I1, q1⟩
    exact ⟨rfl, PySem.F.args_object_init_2 _ _, object_init_meets PySem.F.called_bool.init.lookup PySem.F.called_bool.made (by decide) X.prog X.w X.A.in1 _ s₁ ⟨rfl, rfl, .bl b, H1, I1, rfl, q1⟩⟩
/-- o in a test, by its __len__ -/
theorem pt_lenO {e : Expr} {ta : TE} (m : OwnM X.K C "__len__" g) (nb : PySem.W.findIn X.K (.ref C) "__bool__" = some none) (F : FnR X.prog X.w X.K X.mg X.base CX k g sp) (hr : Room (k + 1) X.A) (hx : Passes CX X Ek) (ha : PE X e ta)
    (he : ∀ whole, isTrue e X.env whole = (do let v ← whole; standAt e.pos; holding [v] (truthy v)) := by intro _; rfl) :
    PT X e (fun σ H Q => ta σ H fun x H' => ∃ a dx fs, x = .ref a ∧ H' a = some (.ins C dx fs) ∧ sp [.ref a] H' (fun v H2 => ∃ n : Nat, v = .int n ∧ n < 2 ^ 62 ∧ Q (n != 0) H2) Ek) := by
  refine ⟨fun pins s σ H Q Iv h => ?_⟩
  refine isTrue_plain (thn (ha.run pins s σ H _ Iv h) fun v s1 ⟨x, H1, I1, r1, q1⟩ => ?_) (he _)
  obtain ⟨a, dx, fs, rfl, h1, q⟩ := q1
  cases r1
  exact truthy_lenO m nb F hr rfl hx I1 h1 q
end
end DuX
/-! own methods that raise nothing, called in an except suite -/
namespace DuX
open PySem PySem.Spec
open PyProof.Rows L2 L2H
/-- what a def promises while an exception is handled, its object p aside -/
def FnQ (P : Program) (w : World) (K : PySem.W.Frag) (mg : Str → Option Value) (base : Heap) (k : Nat) (f : Addr) (sp : Sp) : Prop :=
  ∀ (A : Around) (outer : List Env) (s : Shared) (H : Hp) (us : List Value) (vs : List V) (Q : VK) (p : Addr × Obj), RoomH k A → PinOk outer H s p → Env0 P w K mg base A outer s H → Vals vs us → sp vs H Q E0 →
    codeAny (model P w) A (.call (.ref f) ⟨us, []⟩) (CR CX0 outer P w H s Q E0) s
section
variable {P : Program} {w : World} {K : PySem.W.Frag} {mg : Str → Option Value} {base : Heap}
theorem fnQ_of {k : Nat} {f : Addr} {name qual : Str} {st : Stmt} {fd : FuncData} {N ps : List Str} {sp : Sp} (F : Fun K name qual st f fd) (S : FnScope N ps (defScope st)) (hb : L2.Binds K fd ps [])
    (len : ∀ vs H Q E, sp vs H Q E → vs.length = ps.length)
    (body : ∀ (cdv : Value) (A : Around) (outer : List Env) (s : Shared) (H : Hp) (vs : List V) (Q : VK) (p : Addr × Obj), RoomH k (A.deeper (envOfC qual (defScope st) s.heap.objs.size f cdv)) → sp vs H Q E0 →
      ∃ t, PSs (cxH CX0 P w K mg base N qual (defScope st) f cdv A outer s H E0 p) (defBody st) t ∧ t { nx := fun _ H' => Q .non H', rt := Q } (L2.start N vs) H) : FnQ P w K mg base (k + 1) f sp := by
  intro A outer s H us vs Q p hr hpin e0 r hsp
  obtain ⟨oc, od, kV, doc, pm, an, cdv, ct, osl, rfl, lk, hcd⟩ := F.ex
  have hl := len _ _ _ _ hsp
  have hlu : us.length = ps.length := by rw [← r.length]; exact hl
  have KX : K.In s.heap := e0.mod.kin.keeps fun b o e => (e0.bs b o e).1
  have lim : s.heap.NoLimit := e0.mod.nolimit.keeps fun b o e => (e0.bs b o e).1
  have bb := hb s us KX (by rw [List.append_nil]; exact hlu)
  rw [List.append_nil] at bb
  have kinds : ∀ y ∈ ps.zip us, (defScope st).names.lookup y.1 = some .local ∨ ((defScope st).names.lookup y.1 = some .cell ∧ ((cellsFrom (s.heap.objs.size + 1) (defScope st).names []).lookup y.1).isSome = true) := fun ⟨n, v⟩ hy => by
    rcases S.par n (List.of_mem_zip hy).1 with q | q
    · exact .inl q
    · exact .inr ⟨q, PySem.W.cellsFrom_some _ _ _
          (.inl q)⟩
  refine codeAny_call_function hr.depth (KX _ _ lk) rfl S.co S.gen rfl
      (PySem.W.codeRec_of KX hcd) (bb _ _ _ _ ?_)
  refine wpAny_newFunctionEnv_cells S.kind kinds fun env he s1 x => ?_
  subst he
  refine ⟨lim.keeps
      x.toInCall.keep, codeAny_func ?_⟩
  obtain ⟨t, ht, hq⟩ := body cdv A outer s H vs Q p (hr.deeper _) hsp
  have I := inv_startH (CX := CX0) (E := E0) S hpin e0 hl r x
  refine wpAny_mono (ht.run [] s1 (L2.start N vs) H _ I hq) (fun fl s2 hs => ?_)
      fun e s2 hs => hs
  have fin : ∀ {σ' : L2.St} {H' : Hp} {v : V} {u : Value}, Inv (cxH CX0 P w K mg base N qual (defScope st) f cdv A outer s H E0 p) [] σ' H' s2 → RelV v u → Q v H' → CE outer P w H s Q u s2 :=
    fun {σ' H' v u} J rv q => ⟨v, H', J.os, J.bare, J.base,
        J.hok, rv, q⟩
  cases fl with
  | ret u =>
    obtain ⟨v, σ', H',
        J, rv, q⟩ := hs
    exact fin J rv q
  | next =>
    obtain ⟨σ', H',
        J, q⟩ := hs
    exact fin (v := V.non)
        (u := Value.none) J rfl q
  | brk =>
    obtain ⟨_, _, _,
        q⟩ := hs
    exact q.elim
  | cont =>
    obtain ⟨_, _, _,
        q⟩ := hs
    exact q.elim
end
section
variable {X : Cx} {k : Nat} {g C : Addr} {sp : Sp} {pins : List (Addr × Obj)} {σ : L2.St} {H : Hp} {s : Shared} {p : Addr × Obj}
theorem run_belowQ {A : Around} {us : List Value} {vs : List V} {Q : VK} (F : FnQ X.prog X.w X.K X.mg X.base k g sp) (hr : RoomH k A) (hf : A.frames = X.A.frames) (hp : p ∈ X.pn) (Iv : Inv X pins σ H s) (r : Vals vs us) (hyp : sp vs H Q E0) :
    wpAny (model X.prog X.w) A (call (.ref g) us) (EP X pins σ Q) X.xe s := by
  have e0 : Env0 X.prog X.w X.K X.mg X.base A X.stack s H := by
    obtain ⟨a1, a2, a3, a4, a5, a6, a7, a8⟩ := Iv.env0
    exact ⟨by rw [hf]; exact a1, a2, a3, a4, a5, a6, a7, a8⟩
  have P1 := Iv.pin p (List.mem_append_left _ hp)
  have pin : PinOk X.stack H s p := ⟨P1.1, P1.2.1, fun hm => (List.mem_cons.mp (Iv.stkSub p.1 hm)).elim P1.2.2.1 P1.2.2.2.1,
      P1.2.2.2.2⟩
  refine wpAny_call (codeAny_mono (F A X.stack s H us vs Q p hr pin e0 r hyp) fun res s1 hq => ?_)
  match res, hq with
  | .error e, hq => exact hq.elim
  | .ok (.ret u), hq => exact Iv.after hq
  | .ok .next, hq => exact False.elim hq
  | .ok .brk, hq => exact False.elim hq
  | .ok .cont, hq => exact False.elim hq
theorem roomH_in1 {k : Nat} {A : Around} (r : RoomH (k + 1) A) : RoomH k A.in1 :=
  ⟨by have := r.dp; show A.depth + 3 * k + 5 < _; omega, by have := r.un; show A.units + 1 + 16 * k + 200 < _; omega⟩
/-- len(o) there -/
theorem call_lenQ (m : OwnM X.K C "__len__" g) (F : FnQ X.prog X.w X.K X.mg X.base k g sp) (hr : RoomH (k + 1) X.A) (hp : p ∈ X.pn) :
    CallR X (.builtin "len") (fun xs H Q => ∃ a dx fs, xs = [.ref a] ∧ H a = some (.ins C dx fs) ∧ sp [.ref a] H (fun v H' => ∃ n : Nat, v = .int n ∧ n < 2 ^ 62 ∧ Q (.int n) H') E0) := by
  intro pins s σ H xs us Q Iv r hyp
  obtain ⟨a, dx, fs, rfl, atA, cont⟩ := hyp
  rw [Vals.ref1 r]
  obtain ⟨ox, od, J⟩ := inst_of Iv atA
  obtain ⟨mm, hF⟩ := Iv.fr
  refine PySem.W.len_K hF Iv.ok.mod.kin J m.at_ m.fn ?_
  refine wpAny_mono (run_belowQ F (roomH_in1 hr) rfl hp Iv (vs := [V.ref a]) (.cons rfl .nil) cont) (fun u s1 hu => ?_) fun _ _ e => e
  obtain ⟨v, H1, Iv1, rv, n, rfl, hn, q1⟩ := hu
  obtain ⟨t, rfl⟩ := rv
  exact ⟨⟨by omega, by omega⟩, .int n, H1, Iv1.tok _, ⟨_, rfl⟩, q1⟩
/-- repr(o) there -/
theorem call_reprQ (m : OwnM X.K C "__repr__" g) (F : FnQ X.prog X.w X.K X.mg X.base k g sp) (hr : RoomH (k + 1) X.A) (hp : p ∈ X.pn) :
    CallR X (.builtin "repr") (fun xs H Q => ∃ a dx fs, xs = [.ref a] ∧ H a = some (.ins C dx fs) ∧ sp [.ref a] H (fun v H' => ∃ z, v = .str z ∧ Q (.str z) H') E0) := by
  intro pins s σ H xs us Q Iv r hyp
  obtain ⟨a, dx, fs, rfl, atA, cont⟩ := hyp
  rw [Vals.ref1 r]
  obtain ⟨ox, od, J⟩ := inst_of Iv atA
  obtain ⟨mm, hF⟩ := Iv.fr
  refine PySem.W.repr_K (by have := hr.un; show X.A.units + 1 < cLine; omega) hF Iv.ok.mod.kin J m.at_ m.fn ?_
  refine wpAny_mono (run_belowQ F (roomH_in1 hr) rfl hp Iv (vs := [V.ref a]) (.cons rfl .nil) cont) (fun u s1 hu => ?_) fun _ _ e => e
  obtain ⟨v, H1, Iv1, rv, z, rfl, q1⟩ := hu
  obtain ⟨t, rfl⟩ := rv
  exact ⟨.str z, H1, Iv1, ⟨t, rfl⟩, q1⟩
end
end DuX
/-! repr of data, and of an empty dict -/
namespace RpD
open PySem PySem.Spec
open PyProof.Rows L2
def ShD (K : PySem.W.Frag) (H : Hp) (v : V) (d : PyData) : Prop := (Dp K H v d ∧ Shows d) ∨ ∃ a, v = .ref a ∧ H a = some (.dK []) ∧ d = .dict []
section
variable {X : Cx}
theorem call_reprE (hg : X.A.guards = some []) (hu : X.A.units + 100 < cLine) : CallR X (.builtin "repr") (fun xs H Q => ∃ x d, xs = [x] ∧ ShD X.K H x d ∧ Q (.str d.shown) H) := by
  intro pins s σ H xs us Q Iv r h
  obtain ⟨x, d, rfl, hd, q⟩ := h
  rcases hd with ⟨hd, S⟩ | ⟨a, rfl, hd, rfl⟩
  · exact call_reprD hg hu pins s σ H [x] us Q Iv r ⟨x, d, rfl, hd, S, q⟩
  · cases r with
    | cons r rr =>
      cases rr
      cases r
      obtain ⟨hl, hs, vs, kv, o, es, ep, ho, hx, e1, _, e2, _⟩ := Iv.hok a _ hd
      cases kv
      have e3 : es.toList = [] := by
        cases h : es.toList with
        | nil => rfl
        | cons x r =>
          rw [h] at e2
          cases e2
      have rd : Reads s.heap (.ref a) (.dict []) (a :: [] ++ []) := .dict ho hx.1 e1 (by rw [e3]; exact .nil) (by rw [e3]; exact .nil)
      have ns : sysModules ∉ (a :: [] ++ []) := fun m => by
        have e : sysModules = a := by simpa using m
        rw [← e] at hs
        simp at hs
      exact repr_of_reads' rd rfl (fun _ => ns) hg (by show X.A.units + (PyData.depth (.dict []) + 1) < cLine; have : PyData.depth (.dict []) ≤ 5 := (by decide); omega) (fun _ _ e => e) (fun h' t tk kp => ⟨.str _, H, Iv.kept kp, ⟨t, rfl⟩, q⟩) (by rw [sizeLine_eq]; decide +kernel)
theorem ShD.same {K : PySem.W.Frag} {H H' : Hp} {v : V} {d : PyData} (dp : Dp K H v d → Dp K H' v d) (s : Same H H') (h : ShD K H v d) : ShD K H' v d := by
  rcases h with ⟨a, b⟩ | ⟨a, e, h, e2⟩
  · exact .inl ⟨dp a, b⟩
  · exact .inr ⟨a, e, s _ _ h, e2⟩
end
end RpD

namespace K1
open PySem PySem.Spec
open PyProof.Rows L2 L2H EnT StX SmX TxS DuX XdI Tr3 CnB ClX
/-! ### from heap to heap, the pool and the tables aside -/
structure RX (p : Addr) (H H' : Hp) : Prop where
  pool : PoolAt H' p
  keep : ∀ b o, b ≠ p → H b = some o → (∀ ps, o ≠ .tbl ps) → H' b = some o
/-- a move: all but the pool and the tables stays, the tables are tables -/
structure Mv (p : Addr) (Tb : List (Addr × Str)) (H H' : Hp) : Prop where
  rx : RX p H H'
  tabs : LamX.Tabs Tb H'
theorem Mv.trans {p : Addr} {Tb : List (Addr × Str)} {H H1 H2 : Hp} (a : Mv p Tb H H1) (b : Mv p Tb H1 H2) : Mv p Tb H H2 := ⟨⟨b.rx.pool, fun c o n e t => b.rx.keep c o n (a.rx.keep c o n e t) t⟩, b.tabs⟩
theorem Mv.refl {p : Addr} {Tb : List (Addr × Str)} {H : Hp} (hp : PoolAt H p) (t : LamX.Tabs Tb H) : Mv p Tb H H := ⟨⟨hp, fun _ _ _ e _ => e⟩, t⟩
theorem PoolAt.same {p : Addr} {H H' : Hp} (s : Same H H') (h : PoolAt H p) : PoolAt H' p := by
  obtain ⟨a, b, c, e⟩ := h
  exact ⟨a, b, c, s _ _ e⟩
theorem Mv.same {p : Addr} {Tb : List (Addr × Str)} {H H' : Hp} (s : Same H H') (hp : PoolAt H p) (t : LamX.Tabs Tb H) : Mv p Tb H H' := ⟨⟨hp.same s, fun b o _ e _ => s b o e⟩, t.ext s⟩
theorem tabs_ext {p : Addr} {Tb : List (Addr × Str)} {H H' : Hp} (x : Ext p H H') (hp : PoolAt H p) (t : LamX.Tabs Tb H) : LamX.Tabs Tb H' := fun q hq => by
  obtain ⟨ps, h1, h2, h3⟩ := t q hq
  obtain ⟨a, b, c, e⟩ := hp
  refine ⟨ps, x.at (fun z => by rw [z, e] at h1; cases h1) h1, h2, fun pos cv hc => ?_⟩
  obtain ⟨d, e1, e2⟩ := h3 pos cv hc
  exact ⟨d, e1, x.at (fun z => by rw [z, e] at e2; unfold LamX.CodeO at e2; cases e2) e2⟩
theorem Mv.ext {p : Addr} {Tb : List (Addr × Str)} {H H' : Hp} (x : Ext p H H') (hp : PoolAt H p) (t : LamX.Tabs Tb H) : Mv p Tb H H' := ⟨⟨x.pool, fun b o n e _ => x.at n e⟩, tabs_ext x hp t⟩
theorem Mv.lam {p : Addr} {Tb : List (Addr × Str)} {H H' : Hp} (x : LamX.ExtN H H') (hp : PoolAt H p) (t : LamX.Tabs Tb H') : Mv p Tb H H' := by
  obtain ⟨a, b, c, e⟩ := hp
  exact ⟨⟨⟨a, b, c, x _ _ e (fun ps z => by cases z)⟩, fun d o _ h n => x d o h n⟩, t⟩
theorem Mv.at {p q : Addr} {Tb : List (Addr × Str)} {H H' : Hp} {o : HO} (m : Mv p Tb H H') (hp : PoolAt H p) (h : H q = some o) (n : ∀ x y z : Int, o ≠ .lst [.int x, .int y, .int z]) (nt : ∀ ps, o ≠ .tbl ps) : H' q = some o := by
  refine m.rx.keep q o (fun e => ?_) h nt
  obtain ⟨a, b, c, e2⟩ := hp
  rw [e, e2] at h
  exact n a b c (Option.some.inj h).symm
theorem strs_nopool {zs : List Str} : ∀ x y z : Int, (HO.lst (zs.map V.str)) ≠ .lst [.int x, .int y, .int z] := fun x y z e => by
  have q := HO.lst.inj e
  cases zs with
  | nil => cases q
  | cons a r => cases q
theorem Mv.strs {p q : Addr} {Tb : List (Addr × Str)} {H H' : Hp} {zs : List Str} (m : Mv p Tb H H') (hp : PoolAt H p) (h : H q = some (.lst (zs.map V.str))) : H' q = some (.lst (zs.map V.str)) := m.at hp h strs_nopool (fun _ e => by cases e)
theorem Mv.mem {C p q : Addr} {Tb : List (Addr × Str)} {H H' : Hp} {zs : List Str} (m : Mv p Tb H H') (hp : PoolAt H p) (h : MemAt C H q zs) : MemAt C H' q zs := by
  obtain ⟨⟨dx, t, d, h1, h2, h3⟩, a, b, c, e⟩ := h
  exact ⟨⟨dx, t, d, m.at hp h1 (fun _ _ _ e => by cases e) (fun _ e => by cases e), m.at hp h2 (fun _ _ _ e => by cases e) (fun _ e => by cases e), m.at hp h3 (fun _ _ _ e => by cases e) (fun _ e => by cases e)⟩, a, b, c, e⟩
theorem Mv.vok {p : Addr} {Tb : List (Addr × Str)} {H H' : Hp} {v : V} (m : Mv p Tb H H') (n : v ≠ .ref p) (h : VOk H v) : VOk H' v := by
  refine h.elim .inl fun g => .inr ?_
  have np : ∀ {a : Addr}, v = .ref a → a ≠ p := fun e z => n (by rw [e, z])
  cases g with
  | non => exact .non
  | bl b => exact .bl b
  | int i => exact .int i
  | lst e => exact .lst (m.rx.keep _ _ (np rfl) e (fun _ e => by cases e))
  | tup e => exact .tup (m.rx.keep _ _ (np rfl) e (fun _ e => by cases e))
  | dK e => exact .dK (m.rx.keep _ _ (np rfl) e (fun _ e => by cases e))
theorem refs_nopool {as : List Addr} : ∀ x y z : Int, (HO.lst (as.map V.ref)) ≠ .lst [.int x, .int y, .int z] := fun x y z e => by
  have q := HO.lst.inj e
  cases as with
  | nil => cases q
  | cons a r => cases q
theorem tabs_upd {Tb : List (Addr × Str)} {H : Hp} {t : Addr} {xs : List V} {o : HO} (h : H t = some (.lst xs)) (T : LamX.Tabs Tb H) : LamX.Tabs Tb (upd H t o) := fun q hq => by
  obtain ⟨ps, h1, h2, h3⟩ := T q hq
  refine ⟨ps, by rw [upd_ne (fun z => by rw [z, h] at h1; cases h1)]; exact h1, h2, fun pos cv hc => ?_⟩
  obtain ⟨d, e1, e2⟩ := h3 pos cv hc
  exact ⟨d, e1, by rw [upd_ne (fun z => by rw [z, h] at e2; unfold LamX.CodeO at e2; cases e2)]; exact e2⟩
/-- a promise where no text is being made around -/
def FnG (P : Program) (w : World) (K : PySem.W.Frag) (mg : Str → Option Value) (base : Heap) (CX : CXT) (k : Nat) (f : Addr) (sp : Sp) : Prop :=
  ∀ (A : Around) (outer : List Env) (s : Shared) (H : Hp) (us : List Value) (vs : List V) (Q : VK) (E : XK), A.guards = some [] → Room k A → Env0 P w K mg base A outer s H → Vals vs us → sp vs H Q E →
    codeAny (model P w) A (.call (.ref
        f) ⟨us, []⟩) (CR CX outer P w H s Q E) s
/-- the def of the law's right, its code object at c -/
structure FunC (K : PySem.W.Frag) (x qual : Str) (st : Stmt) (f c : Addr) : Prop where
  ex : ∃ (oc : Value) (od : Option Addr) (kV doc pm : Value) (an : Option Addr) (ct : Value) (osl : Array (Option Value)), K.lookup f = some ⟨oc, od, .func (PySem.W.fnOf x qual (defArgs st) (defBody st) (defScope st) .none kV doc pm an (.ref c) ct), osl⟩ ∧ PySem.W.codeIn K (.ref c) qual = true
section
variable {X : Cx} {k : Nat} {x : Str} {f : Addr} {sp : Sp}
/-- x(e, ..), where no text is being made around -/
theorem pe_callG {e : Expr} {es : List Expr} {t : TA} {p pos : Pos} (F : FnG X.prog X.w X.K X.mg X.base CX0 k f sp) (hgd : X.A.guards = some []) (hr : Room k X.A) (hg : Gl X x) (hm : X.mg x = some (.ref f)) (hk : PySem.W.keepIn X.K (.ref f) = true) (ha : PA X (e :: es) t)
    (hd : (x == ("__debug__" : Str)) = false := by decide) (hst : starEach (e :: es) X.env = (false, eval e X.env) :: starEach es X.env := by rfl) (hpl : (backTo pos (starEach es X.env)).any (·.1) = false := by rfl) :
    PE X (.Call (.Name x p) (e :: es) [] pos) (tCall sp [] E0 t) := by
  refine ⟨fun pins
      s σ H Q I h => ?_⟩
  refine wpAny_Call_Name_kw
      (ld_glob I hg hm ?_ hd)
  refine PySem.W.callWith_K (h₀ := X.base) I.ok.mod.kin hk (thn (ha.run pos pins s σ H _ I h) fun us s1 ⟨vs, H1, I1, rv, q⟩ => ⟨I1.kIn, ?_⟩) hst hpl
  have q : sp vs H1 Q E0 := by
    have q : sp (vs ++ []) H1 Q E0 := q
    rw [List.append_nil] at q
    exact q
  refine wpAny_call (codeAny_mono (F X.A X.stack s1 H1 us vs Q E0 hgd hr I1.env0 rv q) fun r s' hq => ?_)
  cases r with
  | error e => exact hq.elim
  | ok fl =>
    cases fl with
    | ret u => exact I1.after hq
    | next => exact False.elim hq
    | brk => exact False.elim hq
    | cont => exact False.elim hq
end
def tysB : List String := ["NoneType", "bool", "int", "str", "list", "tuple", "dict"]
theorem vok_tys {K : PySem.W.Frag} {H : Hp} {v : V} (h : VOk H v) : ∃ t, t ∈ tysB ∧ TyX K H v (.type t) := h.ty
def StepQ (D : Addr) (H : Hp) (out : Nat → List V) (i : Nat) : VK := fun y H4 => ∃ acc, H4 D = some (.lst acc) ∧ acc.length < sizeLine ∧ upd H4 D (.lst (acc ++ [y])) = upd H D (.lst (out (i + 1)))
theorem step_ok {D : Addr} {H : Hp} {out : Nat → List V} {i : Nat} {y : V} (hl : (out i).length < sizeLine) (e : out (i + 1) = out i ++ [y]) : StepQ D H out i y (upd H D (.lst (out i))) := ⟨_, upd_same, hl, by rw [upd_upd, e]⟩
theorem step_no {D : Addr} {H : Hp} {out : Nat → List V} {i : Nat} (e : out (i + 1) = out i) : upd H D (.lst (out i)) = upd H D (.lst (out (i + 1))) := by rw [e]
theorem lc_pure {K : PySem.W.Frag} {a : Addr} {xs : List V} {g : TG} {tt : TT} {te : TE} {vs : List Nat} {σ : L2.St} {H : Hp} {D : Addr} {Qd : Hp → Prop} (out : Nat → List V) (src : ∀ H', Same H H' → SqL K H' a xs) (nD : H D = none) (h0 : out 0 = [])
    (hs : ∀ i x, xs[i]? = some x → Same H (upd H D (.lst (out i))) → g x (wipe σ vs) (upd H D (.lst (out i))) fun σ2 H2 => wipe σ2 vs = wipe σ vs ∧ tt σ2 H2 fun b H3 => if b = true then te σ2 H3 (StepQ D H out i) else H3 = upd H D (.lst (out (i + 1))))
    (hd : ∀ H', Same H H' → H' D = some (.lst (out xs.length)) → Qd H') :
    ∃ W : Nat → Nat → Hp → Prop, (∃ m, W 0 m (upd H D (.lst []))) ∧ ∀ i m H, W i m H →
      ((Itl K a).stop i H ∧ Qd H) ∨ ((Itl K a).go i H ∧ ∃ Nx : Hp → Prop, (∀ H', Nx H' → ∃ m', m' < m ∧ W (i + 1) m' H') ∧ ∀ x H', (Itl K a).yld i H x H' → g x (wipe σ vs) H' fun σ2 H2 => wipe σ2 vs = wipe σ vs ∧ tt σ2 H2 fun b H3 =>
        if b = true then te σ2 H3 fun y H4 => ∃ acc, H4 D = some (.lst acc) ∧ acc.length < sizeLine ∧ Nx (upd H4 D (.lst (acc ++ [y]))) else Nx H3) := by
  refine lc_list (K := K) (a := a) (xs := xs) (fun i H' => H' = upd H D (.lst (out i))) (by rw [h0]) (fun i H' hi e => ?_) (fun i x H' hx e => ?_) (fun H' e => ?_)
  · subst e
    exact src _ (same_upd nD)
  · subst e
    exact hs i x hx (same_upd nD)
  · subst e
    exact hd _ (same_upd nD) upd_same
theorem str_at {zs : List Str} {i : Nat} {x : V} (h : (zs.map V.str)[i]? = some x) : ∃ z, zs[i]? = some z ∧ x = V.str z := by
  rw [List.getElem?_map] at h
  obtain ⟨z, hz, e⟩ := Option.map_eq_some_iff.mp h
  exact ⟨z, hz, e.symm⟩
/-- the texts of zs that p tells, up to the i-th -/
def outF (zs : List Str) (p : Str → Bool) (i : Nat) : List V := ((zs.take i).filter p).map V.str
def outM (zs : List Str) (e : Str → V) (i : Nat) : List V := (zs.take i).map e
theorem outF_yes {zs : List Str} {p : Str → Bool} {i : Nat} {z : Str} (h : zs[i]? = some z) (hp : p z = true) : outF zs p (i + 1) = outF zs p i ++ [V.str z] := by
  unfold outF
  rw [filt_succ h, if_pos hp, List.map_append]
  rfl
theorem outF_no {zs : List Str} {p : Str → Bool} {i : Nat} {z : Str} (h : zs[i]? = some z) (hp : p z = false) : outF zs p (i + 1) = outF zs p i := by
  unfold outF
  rw [filt_succ h, hp, if_neg (by decide), List.append_nil]
theorem outM_succ {zs : List Str} {e : Str → V} {i : Nat} {z : Str} (h : zs[i]? = some z) : outM zs e (i + 1) = outM zs e i ++ [e z] := map_succ h
theorem outF_len {zs : List Str} {p : Str → Bool} {i : Nat} (h : zs.length ≤ 1000) : (outF zs p i).length < sizeLine := by
  unfold outF
  have := List.length_filter_le p (zs.take i)
  rw [List.length_take] at this
  rw [List.length_map, sizeLine_eq]
  omega
theorem outM_len {zs : List Str} {e : Str → V} {i : Nat} (h : zs.length ≤ 1000) : (outM zs e i).length < sizeLine := by
  unfold outM
  rw [List.length_map, List.length_take, sizeLine_eq]
  omega
theorem outF_end {zs : List Str} {p : Str → Bool} {x : Nat} (h : x = zs.length) : outF zs p x = (zs.filter p).map V.str := by
  unfold outF
  rw [h, List.take_length]
theorem outM_end {zs : List Str} {e : Str → V} {x : Nat} (h : x = zs.length) : outM zs e x = zs.map e := by
  unfold outM
  rw [h, List.take_length]
theorem strs_flat (zs : List Str) : (zs.map V.str).all flatV = true := by simp [flatV]
theorem inV_mem (z : Str) : ∀ ys : List Str, inV (.str z) (ys.map V.str) = decide (z ∈ ys)
  | [] => rfl
  | y :: r => by
    have ih := inV_mem z r
    unfold inV at ih ⊢
    rw [List.map_cons, List.any_cons, ih]
    by_cases h : y = z
    · subst h
      rw [decide_eq_true List.mem_cons_self]
      simp [eqV]
    · have e : eqV (V.str y) (V.str z) = false := by
        show (y == z) = false
        exact beq_eq_false_iff_ne.mpr h
      rw [e, Bool.false_or]
      by_cases m : z ∈ r
      · rw [decide_eq_true m, decide_eq_true (List.mem_cons_of_mem _ m)]
      · rw [decide_eq_false m, decide_eq_false fun q => by
          rcases List.mem_cons.mp q with q | q
          · exact h q.symm
          · exact m q]
def rListOf (K : PySem.W.Frag) : List V → Hp → VK → Prop := fun xs H Q => ∃ p ys, xs = [.ref p] ∧ (SqL K H p ys ∨ SqT K H p ys) ∧ ∀ l, H l = none → Q (.ref l) (upd H l (.lst ys))
theorem call_listK {X : Cx} : CallR X (.type "list") (rListOf X.K) := call_list_of
def lsD (Y : List (List Str)) : List PyData := Y.map fun y => .list (strD y)
structure Lists (H : Hp) (ds : List Addr) (Y : List (List Str)) : Prop where
  len : ds.length = Y.length
  at_ : ∀ (j : Nat) (d : Addr) (y : List Str), ds[j]? = some d → Y[j]? = some y → H d = some (.lst (y.map V.str))
theorem Lists.same {H H' : Hp} {ds : List Addr} {Y : List (List Str)} (s : Same H H') (h : Lists H ds Y) : Lists H' ds Y := ⟨h.len, fun j d y a b => s _ _ (h.at_ j d y a b)⟩
theorem Lists.nil {H : Hp} : Lists H [] [] := ⟨rfl, fun j d y a => by cases a⟩
theorem Lists.snoc {H : Hp} {ds : List Addr} {Y : List (List Str)} {d : Addr} {y : List Str} (h : Lists H ds Y) (hd : H d = some (.lst (y.map V.str))) : Lists H (ds ++ [d]) (Y ++ [y]) := by
  refine ⟨by rw [List.length_append, List.length_append, h.len]; rfl, fun j d' y' a b => ?_⟩
  have l := h.len
  by_cases hj : j < ds.length
  · rw [List.getElem?_append_left hj] at a
    rw [List.getElem?_append_left (by omega)] at b
    exact h.at_ j d' y' a b
  · rw [List.getElem?_append_right (by omega)] at a
    rw [List.getElem?_append_right (by omega)] at b
    have e : j - ds.length = 0 := by
      have := (List.getElem?_eq_some_iff.mp a).1
      simp at this
      omega
    rw [e] at a
    rw [← l, e] at b
    cases a
    cases b
    exact hd
theorem Lists.dp {K : PySem.W.Frag} {H : Hp} : ∀ {ds : List Addr} {Y : List (List Str)}, Lists H ds Y → DpAll K H (ds.map V.ref) (lsD Y)
  | [], [], _ => .nil
  | [], y :: Y, h => by have := h.len; cases this
  | d :: ds, [], h => by have := h.len; cases this
  | d :: ds, y :: Y, h => .cons (.lst (SqL.of (h.at_ 0 d y rfl rfl)) (dpAll_str y)) (Lists.dp (ds := ds) (Y := Y) ⟨by have := h.len; simpa using this, fun j d' y' a b => h.at_ (j + 1) d' y' a b⟩)
theorem lsD_lay : ∀ {Y : List (List Str)}, (∀ y ∈ Y, OkS y) → PyData.canLayAll0 (lsD Y) = true
  | [], _ => by simp [lsD, PyData.canLayAll0]
  | y :: Y, h => by
    have h1 := lsD_lay (Y := Y) fun z hz => h z (List.mem_cons_of_mem _ hz)
    have h2 := strD_lay y (h y List.mem_cons_self)
    simp only [lsD] at h1
    simp [lsD, PyData.canLayAll0, PyData.canLay0, h1, h2]
theorem lsD_depth : ∀ Y : List (List Str), PyData.depthAll (lsD Y) ≤ 1
  | [] => by simp [lsD, PyData.depthAll]
  | y :: Y => by
    have h1 := lsD_depth Y
    have h2 := strD_depth y
    simp only [lsD] at h1
    simp only [lsD, List.map_cons, PyData.depthAll, PyData.depth, h2]
    omega
theorem lsD_shaped {Y : List (List Str)} (h : ∀ y ∈ Y, OkS y) : SeqAt.shaped (.list (lsD Y)) = true := by
  show (PyData.canLay0 (.list (lsD Y)) && decide (PyData.depth (.list (lsD Y)) ≤ 64)) = true
  rw [Bool.and_eq_true]
  refine ⟨by simp only [PyData.canLay0]; exact lsD_lay h, decide_eq_true ?_⟩
  simp only [PyData.depth]
  have := lsD_depth Y
  omega
theorem lsD_eqv {Y : List (List Str)} (h : ∀ y ∈ Y, OkS y) : PyData.eqv (.list (lsD Y)) (.list (lsD Y)) = true := SeqAt.eqv_refl _ (by simp only [PyData.canLay0]; exact lsD_lay h)
/-- Members at ps, of the names Y -/
structure Mems (C : Addr) (H : Hp) (ps : List Addr) (Y : List (List Str)) : Prop where
  len : ps.length = Y.length
  at_ : ∀ (j : Nat) (p : Addr) (y : List Str), ps[j]? = some p → Y[j]? = some y → MemAt C H p y
theorem Mems.same {C : Addr} {H H' : Hp} {ps : List Addr} {Y : List (List Str)} (s : Same H H') (h : Mems C H ps Y) : Mems C H' ps Y := ⟨h.len, fun j p y a b => (h.at_ j p y a b).same s⟩
theorem Mems.ok {C : Addr} {H : Hp} {ps : List Addr} {Y : List (List Str)} (h : Mems C H ps Y) : ∀ y ∈ Y, OkS y := fun y hy => by
  obtain ⟨j, hj, e⟩ := List.mem_iff_getElem.mp hy
  have l := h.len
  exact okS_names (h.at_ j (ps[j]'(by omega)) y (List.getElem?_eq_getElem _) (by rw [← e]; exact List.getElem?_eq_getElem _)).nm
theorem len_or {y zs ws : List Str} (nd : y.Nodup) (h : ∀ z, z ∈ y → z ∈ zs ∨ z ∈ ws) : y.length ≤ zs.length + ws.length := by
  have := len_sub (zs := zs ++ ws) nd fun z hz => List.mem_append.mpr (h z hz)
  rw [List.length_append] at this
  exact this
theorem pw_uniq {xs ys : List Str} (hx : xs.Pairwise NotLt) (hy : ys.Pairwise NotLt) (nx : xs.Nodup) (ny : ys.Nodup) (m : ∀ z, z ∈ xs ↔ z ∈ ys) : xs = ys :=
  List.Perm.eq_of_pairwise (le := NotLt) (fun a b _ _ p q => notLt_anti p q) hx hy ((List.perm_ext_iff_of_nodup nx ny).mpr m)
theorem lc_pureT {K : PySem.W.Frag} {a : Addr} {xs : List V} {g : TG} {tt : TT} {te : TE} {vs : List Nat} {σ : L2.St} {H : Hp} {D : Addr} {Qd : Hp → Prop} (out : Nat → List V) (src : ∀ H', Same H H' → SqT K H' a xs) (nD : H D = none) (h0 : out 0 = [])
    (hs : ∀ i x, xs[i]? = some x → Same H (upd H D (.lst (out i))) → g x (wipe σ vs) (upd H D (.lst (out i))) fun σ2 H2 => wipe σ2 vs = wipe σ vs ∧ tt σ2 H2 fun b H3 => if b = true then te σ2 H3 (StepQ D H out i) else H3 = upd H D (.lst (out (i + 1))))
    (hd : ∀ H', Same H H' → H' D = some (.lst (out xs.length)) → Qd H') :
    ∃ W : Nat → Nat → Hp → Prop, (∃ m, W 0 m (upd H D (.lst []))) ∧ ∀ i m H, W i m H →
      ((Itt K a).stop i H ∧ Qd H) ∨ ((Itt K a).go i H ∧ ∃ Nx : Hp → Prop, (∀ H', Nx H' → ∃ m', m' < m ∧ W (i + 1) m' H') ∧ ∀ x H', (Itt K a).yld i H x H' → g x (wipe σ vs) H' fun σ2 H2 => wipe σ2 vs = wipe σ vs ∧ tt σ2 H2 fun b H3 =>
        if b = true then te σ2 H3 fun y H4 => ∃ acc, H4 D = some (.lst acc) ∧ acc.length < sizeLine ∧ Nx (upd H4 D (.lst (acc ++ [y]))) else Nx H3) := by
  refine lc_tup (K := K) (a := a) (xs := xs) (fun i H' => H' = upd H D (.lst (out i))) (by rw [h0]) (fun i H' hi e => ?_) (fun i x H' hx e => ?_) (fun H' e => ?_)
  · subst e
    exact src _ (same_upd nD)
  · subst e
    exact hs i x hx (same_upd nD)
  · subst e
    exact hd _ (same_upd nD) upd_same
/-- the names of the comers, as a new list -/
theorem nm_of {K : PySem.W.Frag} {C a : Addr} {zs : List Str} {H : Hp} {te : TE} {σ : L2.St} {Q : VK} (m : MemAt C H a zs) (ht : ∀ Q' : VK, Q' (.ref a) H → te σ H Q') (q : ∀ r, H r = none → Q (.ref r) (upd H r (.lst (zs.map V.str)))) :
    tCB (rListOf K) (tCons (tProp C (getSp C "_names") [] E0 te) tNil) σ H Q := by
  obtain ⟨dx, t, d, k1, k2, k3⟩ := m.at_
  exact ht _ ⟨a, dx, _, rfl, k1, a, dx, _, _, rfl, k1, flds_names t d, t, _, rfl, .inr (SqT.of k2), q⟩
theorem pss_of {X : Cx} {b : List Stmt} {T : TS} (h : ∀ D σ H, T D σ H → ∃ t, PSs X b t ∧ t D σ H) : PSs X b T := ⟨fun pins s σ H D I hyp => by
  obtain ⟨t, ht, hq⟩ := h D σ H hyp
  exact ht.run pins s σ H D I hq⟩
def rTupOf (K : PySem.W.Frag) : List V → Hp → VK → Prop := fun xs H Q => ∃ p ys, xs = [.ref p] ∧ ((SqL K H p ys ∧ ∀ l, H l = none → Q (.ref l) (upd H l (.tup ys))) ∨ (SqT K H p ys ∧ Q (.ref p) H))
theorem call_tupK {X : Cx} : CallR X (.type "tuple") (rTupOf X.K) := call_tuple_of
/-- rows of names -/
structure Row (p a : Addr) (N : List Str) (H : Hp) : Prop where
  pool : PoolAt H p
  ne : a ≠ p
  at_ : H a = some (.lst (N.map V.str))
  len : N.length ≤ 20
  nd : N.Nodup
  nm : ∀ z ∈ N, nameB z = true
theorem Row.ext {p a : Addr} {N : List Str} {H H' : Hp} (r : Row p a N H) (x : Ext p H H') : Row p a N H' := ⟨x.pool, r.ne, x.at r.ne r.at_, r.len, r.nd, r.nm⟩
theorem MemAt.ext {C p q : Addr} {zs : List Str} {H H' : Hp} (hp : PoolAt H p) (x : Ext p H H') (m : MemAt C H q zs) : MemAt C H' q zs := by
  obtain ⟨⟨dx, t, d, h1, h2, h3⟩, a, b, c, e⟩ := m
  obtain ⟨i, j, k, hp⟩ := hp
  exact ⟨⟨dx, t, d, x.at (fun e => by rw [e, hp] at h1; cases h1) h1, x.at (fun e => by rw [e, hp] at h2; cases h2) h2, x.at (fun e => by rw [e, hp] at h3; cases h3) h3⟩, a, b, c, e⟩
theorem same_set {H H' : Hp} {d : Addr} {o : HO} (s : Same H H') (n : H d = none) : Same H (upd H' d o) := fun b x e => by
  rw [upd_ne (ne_of_none e n)]
  exact s _ _ e
theorem at0 {xs : List V} {i : Nat} {v : V} (h : xs[i]? = some v) : atI xs ((0 : Int) + (i : Nat)) = some v := by
  rw [Int.zero_add]
  exact atI_nat h
theorem lc_tupS {K : PySem.W.Frag} {a : Addr} {zs : List Str} {g : TG} {tt : TT} {te : TE} {vs : List Nat} {σ : L2.St} {H : Hp} {D : Addr} {Qd : Hp → Prop} (ha : H a = some (.tup (zs.map V.str))) (hl : zs.length ≤ 1000) (nD : H D = none)
    (hs : ∀ z H', g (.str z) (wipe σ vs) H' fun σ2 H2 => wipe σ2 vs = wipe σ vs ∧ tt σ2 H2 fun b H3 => b = true ∧ H3 = H' ∧ ∀ Q : VK, Q (.str z) H3 → te σ2 H3 Q)
    (hg : ∀ z H' (R R' : L2.St → Hp → Prop), (∀ s h, R s h → R' s h) → g (.str z) (wipe σ vs) H' R → g (.str z) (wipe σ vs) H' R')
    (ht : ∀ s h (R R' : Bool → Hp → Prop), (∀ b h', R b h' → R' b h') → tt s h R → tt s h R')
    (hd : ∀ H', Same H H' → H' D = some (.lst (zs.map V.str)) → Qd H') :
    ∃ W : Nat → Nat → Hp → Prop, (∃ m, W 0 m (upd H D (.lst []))) ∧ ∀ i m H, W i m H →
      ((Itt K a).stop i H ∧ Qd H) ∨ ((Itt K a).go i H ∧ ∃ Nx : Hp → Prop, (∀ H', Nx H' → ∃ m', m' < m ∧ W (i + 1) m' H') ∧ ∀ x H', (Itt K a).yld i H x H' → g x (wipe σ vs) H' fun σ2 H2 => wipe σ2 vs = wipe σ vs ∧ tt σ2 H2 fun b H3 =>
        if b = true then te σ2 H3 fun y H4 => ∃ acc, H4 D = some (.lst acc) ∧ acc.length < sizeLine ∧ Nx (upd H4 D (.lst (acc ++ [y]))) else Nx H3) := by
  refine lc_tup (K := K) (a := a) (xs := zs.map V.str) (fun i H' => H' = upd H D (.lst ((zs.take i).map V.str))) rfl (fun i H' hi e => ?_) (fun i x H' hx e => ?_) (fun H' e => ?_)
  · subst e
    exact SqT.of (same_upd nD _ _ ha)
  · subst e
    rw [List.getElem?_map] at hx
    obtain ⟨z, hz, rfl⟩ := Option.map_eq_some_iff.mp hx
    refine hg z _ _ _ (fun s h r => ⟨r.1, ht _ _ _ _ (fun b h' q => ?_) r.2⟩) (hs z _)
    obtain ⟨rfl, rfl, q⟩ := q
    rw [if_pos rfl]
    refine q _ ⟨_, upd_same, by rw [List.length_map, List.length_take, sizeLine_eq]; omega, ?_⟩
    rw [upd_upd, List.take_add_one, hz, List.map_append]
    rfl
  · subst e
    rw [List.length_map, List.take_length]
    exact hd _ (same_upd nD) upd_same
theorem upd_keep {H : Hp} {t b : Addr} {o1 o2 o : HO} (h : H t = some o1) (hb : H b = some o2) (n : o2 ≠ o1) : upd H t o b = some o2 := by
  rw [upd_ne (fun e => by rw [e, h] at hb; exact n (Option.some.inj hb).symm)]
  exact hb
abbrev sa : Str := Str.ofString "a"
inductive OddD (H : Hp) : V → PyData → Prop where
  | non : OddD H .non .none
  | int : OddD H (.int 0) (.int 0)
  | str : OddD H (.str sa) (.str sa)
  | tup0 {a : Addr} (e : H a = some (.tup [])) : OddD H (.ref a) (.tuple [])
  | tup1 {a : Addr} (e : H a = some (.tup [.str sa])) : OddD H (.ref a) (.tuple [.str sa])
  | lst {a : Addr} (e : H a = some (.lst [])) : OddD H (.ref a) (.list [])
  | dK {a : Addr} (e : H a = some (.dK [])) : OddD H (.ref a) (.dict [])
  | bl : OddD H (.bl true) (.bool true)
theorem OddD.keep {H H' : Hp} {v : V} {d : PyData} (h : OddD H v d) (k : ∀ a o, H a = some o → (∀ x y z : Int, o ≠ .lst [.int x, .int y, .int z]) → (∀ ps, o ≠ .tbl ps) → (∀ xs, o = .lst xs → xs = []) → H' a = some o) : OddD H' v d := by
  cases h with
  | non => exact .non
  | int => exact .int
  | str => exact .str
  | tup0 e => exact .tup0 (k _ _ e (fun _ _ _ e => by cases e) (fun _ e => by cases e) (fun _ e => by cases e))
  | tup1 e => exact .tup1 (k _ _ e (fun _ _ _ e => by cases e) (fun _ e => by cases e) (fun _ e => by cases e))
  | lst e => exact .lst (k _ _ e (fun _ _ _ e => by cases e) (fun _ e => by cases e) (fun _ e => by cases e; rfl))
  | dK e => exact .dK (k _ _ e (fun _ _ _ e => by cases e) (fun _ e => by cases e) (fun _ e => by cases e))
  | bl => exact .bl
theorem OddD.mv {p : Addr} {Tb : List (Addr × Str)} {H H' : Hp} {v : V} {d : PyData} (m : Mv p Tb H H') (hp : PoolAt H p) (h : OddD H v d) : OddD H' v d := h.keep fun a o e n nt _ => m.at hp e n nt
theorem OddD.set {t : Addr} {H : Hp} {as : List Addr} {o : HO} {v : V} {d : PyData} (ht : H t = some (.lst (as.map V.ref))) (hn : as ≠ []) (h : OddD H v d) : OddD (upd H t o) v d := h.keep fun a o e _ _ nl => upd_keep ht e fun q => by
  subst q
  have := nl _ rfl
  exact hn (List.map_eq_nil_iff.mp this)
theorem OddD.vok {H : Hp} {v : V} {d : PyData} (h : OddD H v d) : VOk H v := by
  cases h with
  | non => exact .inr .non
  | int => exact .inr (.int _)
  | str => exact .inl ⟨_, rfl, by rw [sizeLine_eq]; decide +kernel⟩
  | tup0 e => exact .inr (.tup e)
  | tup1 e => exact .inr (.tup e)
  | lst e => exact .inr (.lst e)
  | dK e => exact .inr (.dK e)
  | bl => exact .inr (.bl _)
theorem OddD.shd {K : PySem.W.Frag} {H : Hp} {v : V} {d : PyData} (h : OddD H v d) : RpD.ShD K H v d := by
  cases h with
  | non => exact .inl ⟨.non, .of rfl (by decide) (by decide)⟩
  | int => exact .inl ⟨.int _, .of (by decide) (by decide) (by decide)⟩
  | str => exact .inl ⟨.str _, .of (by decide +kernel) (by decide +kernel) (by decide +kernel)⟩
  | tup0 e => exact .inl ⟨.tup (SqT.of e) .nil, .of rfl (by decide) (by decide)⟩
  | tup1 e => exact .inl ⟨.tup (SqT.of e) (.cons (.str _) .nil), .of (by decide +kernel) (by decide +kernel) (by decide +kernel)⟩
  | lst e => exact .inl ⟨.lst (SqL.of e) .nil, .of rfl (by decide) (by decide)⟩
  | dK e => exact .inr ⟨_, rfl, e, rfl⟩
  | bl => exact .inl ⟨.bl _, .of rfl (by decide) (by decide)⟩
theorem OddD.ok {H : Hp} {v : V} {d : PyData} (h : OddD H v d) : PyData.strOk d.shown = true := by
  cases h <;> decide +kernel
theorem Lists.mv {p : Addr} {Tb : List (Addr × Str)} {H H' : Hp} {ds : List Addr} {Y : List (List Str)} (m : Mv p Tb H H') (hp : PoolAt H p) (h : Lists H ds Y) : Lists H' ds Y := ⟨h.len, fun j d y a b => m.strs hp (h.at_ j d y a b)⟩
theorem strs_refs {zs : List Str} {as : List Addr} (hn : as ≠ []) : HO.lst (zs.map V.str) ≠ HO.lst (as.map V.ref) := fun e => by
  have q := HO.lst.inj e
  cases as with
  | nil => exact hn rfl
  | cons a r =>
    cases zs with
    | nil => cases q
    | cons z s => cases q
theorem Lists.set {t : Addr} {H : Hp} {as ds : List Addr} {o : HO} {Y : List (List Str)} (ht : H t = some (.lst (as.map V.ref))) (hn : as ≠ []) (h : Lists H ds Y) : Lists (upd H t o) ds Y := ⟨h.len, fun j d y a b => upd_keep ht (h.at_ j d y a b) (strs_refs hn)⟩
/-- both are the Members of the same names -/
def SameMem (C : Addr) : Addr → Addr → Hp → Prop := fun a b H => ∃ ys, MemAt C H a ys ∧ MemAt C H b ys
theorem sameMem_mon (C : Addr) : ∀ a b H H', L2.Ext H H' → SameMem C a b H → SameMem C a b H' := fun a b H H' e h => by
  obtain ⟨ys, h1, h2⟩ := h
  exact ⟨ys, h1.same e, h2.same e⟩
theorem eq_same {P : Program} {w : World} {K : PySem.W.Frag} {mg : Str → Option Value} {base : Heap} {C g : Addr} {fd : FuncData} (F : FnOk P w K mg base CX0 3 g fd ["self", "other"] (spEqM C)) : FnOk P w K mg base CX0 3 g fd ["self", "other"] (spEq (SameMem C)) := by
  have imp : ∀ vs H Q E, spEq (SameMem C) vs H Q E → spEqM C vs H Q E := fun vs H Q E h => by
    obtain ⟨a, b, e, ⟨ys, h1, h2⟩, q⟩ := h
    refine ⟨a, ys, .ref b, e, h1, .inl ⟨b, ys, rfl, h2, ?_⟩⟩
    rw [decide_eq_true rfl]
    exact q H L2.Ext.rfl'
  exact ⟨fun vs H Q E h => F.len vs H Q E (imp vs H Q E h), fun A outer s H args us vs Q E hr e0 hb r h => F.run A outer s H args us vs Q E hr e0 hb r (imp vs H Q E h)⟩
theorem din {C a b : Addr} {ys zs : List Str} {H : Hp} (h1 : MemAt C H a ys) (h2 : MemAt C H b zs) (e : ys = zs) : DIns C (SameMem C) (.ref a) (.ref b) H := by
  subst e
  obtain ⟨dx, t, d, e1, _, _⟩ := h1.at_
  obtain ⟨dy, t2, d2, e2, _, _⟩ := h2.at_
  exact ⟨a, b, dx, dy, _, _, rfl, rfl, e1, e2, ys, h1, h2⟩
theorem MemAt.set {C a t : Addr} {H : Hp} {zs : List Str} {xs : List V} {o : HO} (h : H t = some (.lst xs)) (m : MemAt C H a zs) : MemAt C (upd H t o) a zs := by
  obtain ⟨⟨dx, t1, d, h1, h2, h3⟩, b, c, e, f⟩ := m
  exact ⟨⟨dx, t1, d, by rw [upd_ne (fun z => by rw [z, h] at h1; cases h1)]; exact h1, by rw [upd_ne (fun z => by rw [z, h] at h2; cases h2)]; exact h2, by rw [upd_ne (fun z => by rw [z, h] at h3; cases h3)]; exact h3⟩, b, c, e, f⟩
theorem mem_ty {K : PySem.W.Frag} {mg : Str → Option Value} {C b : Addr} {H : Hp} {ws : List Str} (M : MemC K mg C) (I : MemIs K C) (m : MemAt C H b ws) : TyX K H (.ref b) (.ref C) := by
  obtain ⟨dy, t2, d2, k1, _, _⟩ := m.at_
  exact .base (.ins k1 M.cl I.ha I.hn I.htk I.hm)
theorem bin_go {C a b : Addr} {zs ws : List Str} {r : Prop → Prop → Prop} {H : Hp} {Q : VK} {E : XK} (m1 : MemAt C H a zs) (m2 : MemAt C H b ws) (hl : zs.length + ws.length ≤ 1000) (q : MakesP C (fun z => r (z ∈ zs) (z ∈ ws)) H Q) : rBinO C (spBinM C r) E (.ref a) (.ref b) H Q := by
  obtain ⟨dx, t, d, h1, _, _⟩ := m1.at_
  obtain ⟨dy, t2, d2, k1, _, _⟩ := m2.at_
  exact ⟨a, dx, _, b, dy, _, rfl, rfl, h1, k1, a, b, zs, ws, rfl, m1, m2, hl, q⟩
theorem eq_go {K : PySem.W.Frag} {mg : Str → Option Value} {C a b : Addr} {zs ws : List Str} {H : Hp} {Q : VK} (M : MemC K mg C) (I : MemIs K C) (m1 : MemAt C H a zs) (m2 : MemAt C H b ws) (q : Q (.bl (decide (zs = ws))) H) : rEqO K C (spEqM C) (.ref a) (.ref b) H Q := by
  obtain ⟨dx, t, d, h1, _, _⟩ := m1.at_
  exact ⟨a, dx, _, _, rfl, h1, mem_ty M I m2, I.nfC, a, zs, .ref b, rfl, m1, .inl ⟨b, ws, rfl, m2, _, rfl, q⟩⟩
theorem ne_go {K : PySem.W.Frag} {mg : Str → Option Value} {C a b : Addr} {zs ws : List Str} {H : Hp} {Q : VK} (M : MemC K mg C) (I : MemIs K C) (m1 : MemAt C H a zs) (m2 : MemAt C H b ws) (q : Q (.bl (!decide (zs = ws))) H) : rNeO K C (spEqM C) (.ref a) (.ref b) H Q := by
  obtain ⟨dx, t, d, h1, _, _⟩ := m1.at_
  exact ⟨a, dx, _, _, rfl, h1, mem_ty M I m2, I.nfC, a, zs, .ref b, rfl, m1, .inl ⟨b, ws, rfl, m2, _, rfl, q⟩⟩
end K1

namespace K1
open PySem PySem.Spec
open PyProof.Rows L2 EnT StX SmX TxS DuX
/-! ### forms -/
inductive Fm where
  | leaf (z : Str)
  | node (s : Str) (l r : Fm)
abbrev tGiven : Str := "given"
abbrev tNone : Str := "none"
abbrev signs : List Str := ["|", "&", "-", "^"]
/-- a form on the heap -/
inductive FmAt (H : Hp) : V → Fm → Prop where
  | leaf (z : Str) : FmAt H (.str z) (.leaf z)
  | node {a : Addr} {s : Str} {vl vr : V} {l r : Fm} (h : H a = some (.tup [.str s, vl, vr])) (hl : FmAt H vl l) (hr : FmAt H vr r) : FmAt H (.ref a) (.node s l r)
/-- tuples stay -/
def TupK (H H' : Hp) : Prop := ∀ a xs, H a = some (.tup xs) → H' a = some (.tup xs)
theorem TupK.same {H H' : Hp} (s : Same H H') : TupK H H' := fun a xs h => s a _ h
theorem TupK.ext {p : Addr} {H H' : Hp} (hp : PoolAt H p) (x : K1.Ext p H H') : TupK H H' := fun a xs h => x.at (fun e => by
  obtain ⟨i, j, k, q⟩ := hp
  rw [e, q] at h
  cases h) h
theorem TupK.set {H H' : Hp} {t : Addr} {ys : List V} {o : HO} (k : TupK H H') (ht : H' t = some (.lst ys)) : TupK H (upd H' t o) := fun a xs h => by
  have h' := k a xs h
  rw [upd_ne (fun e => by rw [e, ht] at h'; cases h')]
  exact h'
theorem TupK.new {H H' : Hp} {t : Addr} {o : HO} (k : TupK H H') (ht : H t = none) : TupK H (upd H' t o) := fun a xs h => by
  rw [upd_ne (fun e => by rw [e, ht] at h; cases h)]
  exact k a xs h
theorem TupK.trans {H H1 H2 : Hp} (a : TupK H H1) (b : TupK H1 H2) : TupK H H2 := fun c xs h => b c xs (a c xs h)
theorem FmAt.keep {H H' : Hp} (k : TupK H H') {v : V} {t : Fm} (h : FmAt H v t) : FmAt H' v t := by
  induction h with
  | leaf z => exact .leaf z
  | node h _ _ ih1 ih2 => exact .node (k _ _ h) ih1 ih2
theorem FmAt.same {H H' : Hp} (s : Same H H') {v : V} {t : Fm} (h : FmAt H v t) : FmAt H' v t := h.keep (.same s)
namespace Fm
/-- the forms that are valid -/
def Ok : Fm → Prop
  | .leaf z => nameB z = true
  | .node s l r => s ∈ signs ∧ l.Ok ∧ r.Ok
def dep : Fm → Nat
  | .leaf _ => 1
  | .node _ l r => 1 + (if l.dep > r.dep then l.dep else r.dep)
def lvs : Fm → List Str
  | .leaf z => [z]
  | .node _ l r => l.lvs ++ r.lvs
def nl (t : Fm) : Nat := t.lvs.length
def size : Fm → Nat
  | .leaf _ => 1
  | .node _ l r => 1 + l.size + r.size
/-- the text; inside another one in brackets -/
def txt : Bool → Fm → Str
  | _, .leaf z => z
  | false, .node s l r => txt true l ++ (" " : Str) ++ s ++ (" " : Str) ++ txt true r
  | true, .node s l r => ("(" : Str) ++ (txt true l ++ (" " : Str) ++ s ++ (" " : Str) ++ txt true r) ++ (")" : Str)
def dat : Fm → PyData
  | .leaf z => .str z
  | .node s l r => .tuple [.str s, l.dat, r.dat]
theorem dep_pos : ∀ t : Fm, 1 ≤ t.dep
  | .leaf _ => Nat.le_refl _
  | .node _ l r => Nat.le_add_right _ _
theorem nl_pos : ∀ t : Fm, 1 ≤ t.nl
  | .leaf _ => Nat.le_refl _
  | .node _ l r => by
    have := nl_pos l
    unfold nl at this ⊢
    simp only [lvs, List.length_append]
    omega
theorem size_pos : ∀ t : Fm, 1 ≤ t.size
  | .leaf _ => Nat.le_refl _
  | .node _ l r => by simp only [size]; omega
theorem nl_node (s : Str) (l r : Fm) : (node s l r).nl = l.nl + r.nl := by
  unfold nl
  simp only [lvs, List.length_append]
theorem dep_node (s : Str) (l r : Fm) : (node s l r).dep = 1 + max l.dep r.dep := by
  simp only [dep]
  congr 1
  split <;> omega
theorem size_nl : ∀ t : Fm, t.size + 1 = 2 * t.nl
  | .leaf _ => rfl
  | .node s l r => by
    have a := size_nl l
    have b := size_nl r
    rw [nl_node]
    simp only [size]
    omega
theorem nl_dep : ∀ t : Fm, t.nl ≤ 2 ^ (t.dep - 1)
  | .leaf _ => Nat.le_refl _
  | .node s l r => by
    have a := nl_dep l
    have b := nl_dep r
    have pl := dep_pos l
    have pr := dep_pos r
    have a' : 2 ^ (l.dep - 1) ≤ 2 ^ (max l.dep r.dep - 1) := Nat.pow_le_pow_right (by decide) (by omega)
    have b' : 2 ^ (r.dep - 1) ≤ 2 ^ (max l.dep r.dep - 1) := Nat.pow_le_pow_right (by decide) (by omega)
    rw [nl_node, dep_node]
    have e : 1 + max l.dep r.dep - 1 = (max l.dep r.dep - 1) + 1 := by omega
    rw [e, Nat.pow_succ]
    omega
theorem Ok.names : ∀ {t : Fm}, t.Ok → ∀ z ∈ t.lvs, nameB z = true
  | .leaf z, h => fun y hy => by
    rw [List.mem_singleton.mp hy]
    exact h
  | .node s l r, h => fun y hy => by
    rcases List.mem_append.mp hy with e | e
    · exact h.2.1.names y e
    · exact h.2.2.names y e
end Fm
theorem sign_ok {s : Str} (h : s ∈ signs) : s.length = 1 ∧ PyData.strOk s = true := by
  simp only [signs, List.mem_cons, List.not_mem_nil, or_false] at h
  rcases h with rfl | rfl | rfl | rfl <;> decide +kernel
theorem txt_len5 : ∀ (b : Bool) (t : Fm), t.Ok → (t.txt b).length + 5 ≤ 13 * t.nl
  | b, .leaf z, h => by
    have := name_short (show nameB z = true from h)
    have e : (Fm.leaf z).txt b = z := by cases b <;> rfl
    rw [e]
    show z.length + 5 ≤ 13 * 1
    omega
  | b, .node s l r, h => by
    have a := txt_len5 true l h.2.1
    have b' := txt_len5 true r h.2.2
    have c := (sign_ok h.1).1
    have e1 : (" " : Str).length = 1 := by decide +kernel
    have e2 : ("(" : Str).length = 1 := by decide +kernel
    have e3 : (")" : Str).length = 1 := by decide +kernel
    rw [Fm.nl_node]
    cases b
    · simp only [Fm.txt]
      rw [strLen_append, strLen_append, strLen_append, strLen_append, c, e1]
      omega
    · simp only [Fm.txt]
      rw [strLen_append, strLen_append, strLen_append, strLen_append, strLen_append, strLen_append, c, e1, e2, e3]
      omega
theorem txt_len (b : Bool) (t : Fm) (h : t.Ok) : (t.txt b).length ≤ 13 * t.nl := Nat.le_trans (Nat.le_add_right _ _) (txt_len5 b t h)
theorem FmAt.dp {K : PySem.W.Frag} {H : Hp} {v : V} {t : Fm} (h : FmAt H v t) : Dp K H v t.dat := by
  induction h with
  | leaf z => exact .str z
  | node h _ _ ih1 ih2 => exact .tup (SqT.of h) (.cons (.str _) (.cons ih1 (.cons ih2 .nil)))
end K1

namespace K1
open PySem PySem.Spec
open PyProof.Rows L2 EnT StX SmX TxS DuX
/-- the names of the module of forms -/
structure Gf (K : PySem.W.Frag) (mg : Str → Option Value) (aS : Addr) : Prop where
  T : Free mg
  sg : mg "SIGNS" = some (.ref aS)
  st : ∀ H : Hp, SqT K H aS (signs.map V.str)
  gv : ∃ t, mg "GIVEN" = some (.str tGiven t)
  nn : ∃ t, mg "NONE" = some (.str tNone t)
  ml : ∃ t, mg "MOST_LEAVES" = some (.int 200 t)
  md : ∃ t, mg "MOST_DEPTH" = some (.int 20 t)
theorem name_line {z : Str} (h : nameB z = true) : z.length ≤ sizeLine := by
  have := name_short h
  rw [sizeLine_eq]
  omega
theorem FmAt.vok {H : Hp} {v : V} {t : Fm} (h : FmAt H v t) (ok : t.Ok) : VOk H v := by
  cases h with
  | leaf z => exact .inl ⟨z, rfl, name_line ok⟩
  | node h _ _ => exact .inr (.tup h)
/-! ### is_field, of a name -/
def fieldB (z : Str) : Bool := decide (z ≠ tGiven ∧ z ≠ tNone)
def spIsField : Sp := fun vs H Q _ => ∃ z : Str, vs = [.str z] ∧ nameB z = true ∧ ∀ H', Same H H' → Q (.bl (fieldB z)) H'
section
variable {w : World} {P : Program} {base : Heap} {mg : Str → Option Value} {K : PySem.W.Frag} {aS : Addr}
theorem scIsField : FnScope ["value"] ["value"] (defScope sIsField) := ⟨rfl, rfl, rfl, by decide +kernel, rfl, by decide +kernel, by decide +kernel⟩
theorem ok_isfield {f fN : Addr} {fd : FuncData} (F : Fun K "is_field" "is_field" sIsField f fd) (G : Gf K mg aS) (hN : Has P w K mg base CX0 1 "is_name" fN ["value"] spIsName) : FnOk P w K mg base CX0 2 f fd ["value"] spIsField := by
  obtain ⟨tg, hg⟩ := G.gv
  obtain ⟨tn, hn⟩ := G.nn
  refine F.ok scIsField (fun vs H Q E h => ?_) (fun cdv A outer s H vs Q E hr h => ?_)
  · obtain ⟨z, rfl, _⟩ := h
    rfl
  · obtain ⟨z, rfl, nz, q⟩ := h
    refine ⟨_, pss_one (ps_ret (pe_and (pe_has hN hr (by rfl) pass0 (pa_cons (pv 0) pa_nil)) (pe_one (pe_cmpR op_notIn_seq (pv 0) (pe_tup (pa_cons (pe_glob (v := .str tGiven) (by rfl) hg ⟨_, rfl⟩) (pa_cons (pe_glob (v := .str tNone) (by rfl) hn ⟨_, rfl⟩) pa_nil))) (by rfl))))), ?_⟩
    have e : nameV (.str z) = true := nz
    refine ⟨_, rfl, _, rfl, .inl ⟨z, rfl, name_line nz⟩, _, rfl, ?_⟩
    rw [e]
    refine iteT ⟨_, rfl, (by show 2 ≤ sizeLine; decide), fun a na => ⟨a, _, rfl, .inr (SqT.of upd_same), rfl, rfl, ?_⟩⟩
    have z2 : (!inV (.str z) [V.str tGiven, V.str tNone]) = fieldB z := by
      have := inV_mem z [tGiven, tNone]
      show (!inV (.str z) ([tGiven, tNone].map V.str)) = _
      rw [this]
      unfold fieldB
      by_cases h1 : z = tGiven <;> by_cases h2 : z = tNone <;> simp [h1, h2]
    rw [z2]
    exact q _ (same_upd na)
/-! ### is_triple, of a form -/
def isNode : Fm → Bool
  | .leaf _ => false
  | .node _ _ _ => true
def spTriple : Sp := fun vs H Q _ => ∃ (v : V) (t : Fm), vs = [v] ∧ FmAt H v t ∧ t.Ok ∧ Q (.bl (isNode t)) H
theorem scTriple : FnScope ["value"] ["value"] (defScope sTriple) := ⟨rfl, rfl, rfl, by decide +kernel, rfl, by decide +kernel, by decide +kernel⟩
theorem ok_triple {f : Addr} {fd : FuncData} (F : Fun K "is_triple" "is_triple" sTriple f fd) (G : Gf K mg aS) : FnOk P w K mg base CX0 1 f fd ["value"] spTriple := by
  have T := G.T
  refine F.ok scTriple (fun vs H Q E h => ?_) (fun cdv A outer s H vs Q E hr h => ?_)
  · obtain ⟨v, t, rfl, _⟩ := h
    rfl
  · obtain ⟨v, t, rfl, m, ok, q⟩ := h
    refine ⟨_, pss_one (ps_ret (pe_and (pe_callB call_isi (by rfl) T.isinstance (by decide +kernel) (pa_cons (pv 0) (pa_cons (pe_bltn (v := .ty "tuple") (u := .type "tuple") (by rfl) T.tuple (by decide +kernel) rfl) pa_nil)))
      (pe_and (pe_cmpR op_eq (pe_callB call_len_seq (by rfl) T.len PySem.boot_len (pa_cons (pv 0) pa_nil)) pe_int (nomark _))
      (pe_and (pe_callB call_isi (by rfl) T.isinstance (by decide +kernel) (pa_cons (pe_ix ix_tup (pv 0) pe_int (fun _ _ => rfl)) (pa_cons (pe_bltn (v := .ty "str") (u := .type "str") (by rfl) T.str (by decide +kernel) rfl) pa_nil)))
      (pe_one (pe_cmpR op_in_seq (pe_ix ix_tup (pv 0) pe_int (fun _ _ => rfl)) (pe_glob (v := .ref aS) (by rfl) G.sg rfl) (by rfl))))))), ?_⟩
    cases m with
    | leaf z => exact ⟨_, rfl, _, _, _, _, false, rfl, .ty _, .base (.str z), kit_ty (by decide +kernel), false, rfl, iteF q⟩
    | node h hl hr' =>
      rename_i a s vl vr l r
      refine ⟨_, rfl, _, _, _, _, true, rfl, .ty _, .base (.tup h), kit_ty (by decide +kernel), true, rfl, iteT ?_⟩
      refine ⟨_, rfl, a, _, rfl, .inr (SqT.of h), rfl, _, rfl, iteT ?_⟩
      refine ⟨_, rfl, a, _, _, .str s, rfl, rfl, SqT.of h, atI_nat (j := 0) rfl, ?_⟩
      refine ⟨_, _, _, _, true, rfl, .ty _, .base (.str s), kit_ty (by decide +kernel), true, rfl, iteT ?_⟩
      refine ⟨_, rfl, a, _, _, .str s, rfl, rfl, SqT.of h, atI_nat (j := 0) rfl, ?_⟩
      refine ⟨aS, _, rfl, .inr (G.st H), rfl, strs_flat _, ?_⟩
      rw [inV_mem, decide_eq_true ok.1]
      exact q
/-! ### check_leaves, check_depth, within the limits -/
def spChk (n : Int) : Sp := fun vs H Q _ => ∃ i : Int, vs = [.int i] ∧ i ≤ n ∧ Q .non H
theorem scChkL : FnScope ["leaves"] ["leaves"] (defScope sChkL) := ⟨rfl, rfl, rfl, by decide +kernel, rfl, by decide +kernel, by decide +kernel⟩
theorem scChkD : FnScope ["depth"] ["depth"] (defScope sChkD) := ⟨rfl, rfl, rfl, by decide +kernel, rfl, by decide +kernel, by decide +kernel⟩
theorem ok_chkL {f : Addr} {fd : FuncData} (F : Fun K "check_leaves" "check_leaves" sChkL f fd) (G : Gf K mg aS) : FnOk P w K mg base CX0 1 f fd ["leaves"] (spChk 200) := by
  obtain ⟨t, ht⟩ := G.ml
  refine F.ok scChkL (fun vs H Q E h => ?_) (fun cdv A outer s H vs Q E hr h => ?_)
  · obtain ⟨i, rfl, _⟩ := h
    rfl
  · obtain ⟨i, rfl, le, q⟩ := h
    refine ⟨_, pss_one (ps_if (pt_cmpR op_gt (pv 0) (pe_glob (v := .int 200) (by rfl) ht ⟨_, rfl⟩) (nomark _)) pss_never pss_nil), ?_⟩
    refine ⟨_, rfl, _, _, rfl, rfl, _, rfl, ?_⟩
    rw [decide_eq_false (by omega)]
    exact iteF q
theorem ok_chkD {f : Addr} {fd : FuncData} (F : Fun K "check_depth" "check_depth" sChkD f fd) (G : Gf K mg aS) : FnOk P w K mg base CX0 1 f fd ["depth"] (spChk 20) := by
  obtain ⟨t, ht⟩ := G.md
  refine F.ok scChkD (fun vs H Q E h => ?_) (fun cdv A outer s H vs Q E hr h => ?_)
  · obtain ⟨i, rfl, _⟩ := h
    rfl
  · obtain ⟨i, rfl, le, q⟩ := h
    refine ⟨_, pss_one (ps_if (pt_cmpR op_gt (pv 0) (pe_glob (v := .int 20) (by rfl) ht ⟨_, rfl⟩) (nomark _)) pss_never pss_nil), ?_⟩
    refine ⟨_, rfl, _, _, rfl, rfl, _, rfl, ?_⟩
    rw [decide_eq_false (by omega)]
    exact iteF q
end
end K1

namespace K1
open PySem PySem.Spec
open PyProof.Rows L2 EnT StX SmX TxS DuX
/-! ### comprehensions whose steps make objects -/
def StepG (D : Addr) (H : Hp) (out : Nat → List V) (i : Nat) : VK := fun y H4 => Same H H4 ∧ H4 D = some (.lst (out i)) ∧ (out i).length < sizeLine ∧ out (i + 1) = out i ++ [y]
theorem lc_grow {K : PySem.W.Frag} {a : Addr} {xs : List V} {g : TG} {tt : TT} {te : TE} {vs : List Nat} {σ : L2.St} {H : Hp} {D : Addr} {Qd : Hp → Prop} (out : Nat → List V) (src : ∀ H', Same H H' → SqL K H' a xs) (nD : H D = none) (h0 : out 0 = [])
    (hs : ∀ i x H', xs[i]? = some x → Same H H' → H' D = some (.lst (out i)) → g x (wipe σ vs) H' fun σ2 H2 => wipe σ2 vs = wipe σ vs ∧ tt σ2 H2 fun b H3 => if b = true then te σ2 H3 (StepG D H out i) else (Same H H3 ∧ H3 D = some (.lst (out (i + 1)))))
    (hg : ∀ x H' (R R' : L2.St → Hp → Prop), (∀ s h, R s h → R' s h) → g x (wipe σ vs) H' R → g x (wipe σ vs) H' R')
    (ht : ∀ s h (R R' : Bool → Hp → Prop), (∀ b h', R b h' → R' b h') → tt s h R → tt s h R')
    (he : ∀ s h (R R' : VK), (∀ b h', R b h' → R' b h') → te s h R → te s h R')
    (hd : ∀ H', Same H H' → H' D = some (.lst (out xs.length)) → Qd H') :
    ∃ W : Nat → Nat → Hp → Prop, (∃ m, W 0 m (upd H D (.lst []))) ∧ ∀ i m H, W i m H →
      ((Itl K a).stop i H ∧ Qd H) ∨ ((Itl K a).go i H ∧ ∃ Nx : Hp → Prop, (∀ H', Nx H' → ∃ m', m' < m ∧ W (i + 1) m' H') ∧ ∀ x H', (Itl K a).yld i H x H' → g x (wipe σ vs) H' fun σ2 H2 => wipe σ2 vs = wipe σ vs ∧ tt σ2 H2 fun b H3 =>
        if b = true then te σ2 H3 fun y H4 => ∃ acc, H4 D = some (.lst acc) ∧ acc.length < sizeLine ∧ Nx (upd H4 D (.lst (acc ++ [y]))) else Nx H3) := by
  refine lc_list (K := K) (a := a) (xs := xs) (fun i H' => Same H H' ∧ H' D = some (.lst (out i))) ⟨same_upd nD, by rw [upd_same, h0]⟩ (fun i H' hi e => src _ e.1) (fun i x H' hx e => ?_) (fun H' e => hd _ e.1 e.2)
  refine hg x H' _ _ (fun s h r => ⟨r.1, ht _ _ _ _ (fun b h' q => ?_) r.2⟩) (hs i x H' hx e.1 e.2)
  cases b with
  | false => exact q
  | true =>
    refine he _ _ _ _ (fun y h4 z => ?_) q
    obtain ⟨s4, d4, l4, o4⟩ := z
    exact ⟨_, d4, l4, same_set s4 nD, by rw [upd_same, o4]⟩
/-! ### form_leaves -/
def spLeaves (n : Nat) : Sp := fun vs H Q _ => ∃ (v : V) (t : Fm), vs = [v] ∧ FmAt H v t ∧ t.dep ≤ n ∧ t.nl ≤ 1000 ∧ ∀ (q : Addr) (H' : Hp), H q = none → Same H H' → H' q = some (.lst (t.lvs.map V.str)) → Q (.ref q) H'
section
variable {w : World} {P : Program} {base : Heap} {mg : Str → Option Value} {K : PySem.W.Frag} {aS : Addr}
theorem scLeavesF : FnScope ["form"] ["form"] (defScope sLeavesF) := ⟨rfl, rfl, rfl, by decide +kernel, rfl, by decide +kernel, by decide +kernel⟩
theorem ok_leavesF {f : Addr} {fd : FuncData} (F : Fun K "form_leaves" "form_leaves" sLeavesF f fd) (T : Free mg) (mgF : mg "form_leaves" = some (.ref f)) : ∀ n : Nat, FnOk P w K mg base CX0 (n + 1) f fd ["form"] (spLeaves (n + 1)) := by
  have bF : L2.Binds K fd ["form"] [] := F.binds (ps := ["form"]) fun _ _ _ _ _ _ us hl => match us, hl with | [_], _ => rfl
  intro n
  induction n with
  | zero =>
    refine F.ok scLeavesF (fun vs H Q E h => ?_) (fun cdv A outer s H vs Q E hr h => ?_)
    · obtain ⟨v, t, rfl, _⟩ := h
      rfl
    · obtain ⟨v, t, rfl, m, d, l, q⟩ := h
      refine ⟨_, pss_cons (ps_if (pt_val (pe_callB call_isi (by rfl) T.isinstance (by decide +kernel) (pa_cons (pv 0) (pa_cons (pe_bltn (v := .ty "str") (u := .type "str") (by rfl) T.str (by decide +kernel) rfl) pa_nil)))) (pss_one (ps_ret (pe_lst (pa_cons (pv 0) pa_nil)))) pss_nil) pss_never, ?_⟩
      cases m with
      | leaf z => exact ⟨_, rfl, _, _, _, _, true, rfl, .ty _, .base (.str z), kit_ty (by decide +kernel), true, rfl, iteT ⟨_, rfl, (by show 1 ≤ sizeLine; decide), fun p np => q p _ np (same_upd np) upd_same⟩⟩
      | node h hl hr' =>
        rename_i a s' vl vr l' r'
        have := Fm.dep_pos l'
        rw [Fm.dep_node] at d
        omega
  | succ n ih =>
    have hF : Has P w K mg base CX0 (n + 1) "form_leaves" f ["form"] (spLeaves (n + 1)) := ⟨mgF, F.kp, fd, ih, bF⟩
    refine F.ok scLeavesF (fun vs H Q E h => ?_) (fun cdv A outer s H vs Q E hr h => ?_)
    · obtain ⟨v, t, rfl, _⟩ := h
      rfl
    · obtain ⟨v, t, rfl, m, d, l, q⟩ := h
      refine ⟨_, pss_cons (ps_if (pt_val (pe_callB call_isi (by rfl) T.isinstance (by decide +kernel) (pa_cons (pv 0) (pa_cons (pe_bltn (v := .ty "str") (u := .type "str") (by rfl) T.str (by decide +kernel) rfl) pa_nil)))) (pss_one (ps_ret (pe_lst (pa_cons (pv 0) pa_nil)))) pss_nil)
        (pss_one (ps_ret (pe_op op_cat (pe_has hF hr (by rfl) pass0 (pa_cons (pe_ix ix_tup (pv 0) pe_int (fun _ _ => rfl)) pa_nil)) (pe_has hF hr (by rfl) pass0 (pa_cons (pe_ix ix_tup (pv 0) pe_int (fun _ _ => rfl)) pa_nil))))), ?_⟩
      cases m with
      | leaf z => exact ⟨_, rfl, _, _, _, _, true, rfl, .ty _, .base (.str z), kit_ty (by decide +kernel), true, rfl, iteT ⟨_, rfl, (by show 1 ≤ sizeLine; decide), fun p np => q p _ np (same_upd np) upd_same⟩⟩
      | node h hl hr' =>
        rename_i a s' vl vr l' r'
        rw [Fm.dep_node] at d
        rw [Fm.nl_node] at l
        refine ⟨_, rfl, _, _, _, _, false, rfl, .ty _, .base (.tup h), kit_ty (by decide +kernel), false, rfl, iteF ?_⟩
        refine ⟨_, rfl, a, _, _, vl, rfl, rfl, SqT.of h, atI_nat (j := 1) rfl, vl, l', rfl, hl, by omega, by omega, fun q1 H1 n1 s1 h1 => ?_⟩
        refine ⟨_, rfl, a, _, _, vr, rfl, rfl, SqT.of (s1 _ _ h), atI_nat (j := 2) rfl, vr, r', rfl, hr'.same s1, by omega, by omega, fun q2 H2 n2 s2 h2 => ?_⟩
        have e1 : (l'.lvs.map V.str).length = l'.nl := List.length_map ..
        have e2 : (r'.lvs.map V.str).length = r'.nl := List.length_map ..
        refine ⟨q1, q2, _, _, rfl, rfl, s2 _ _ h1, h2, by rw [e1, e2, sizeLine_eq]; omega, fun p np => ?_⟩
        have s12 := s1.trans s2
        refine q p _ ?_ (s12.trans (same_upd np)) (by rw [upd_same, ← List.map_append]; rfl)
        cases hh : H p with
        | none => rfl
        | some o =>
          rw [s12 _ _ hh] at np
          cases np
/-! ### form_fields -/
def spFields (n : Nat) : Sp := fun vs H Q _ => ∃ (v : V) (t : Fm), vs = [v] ∧ FmAt H v t ∧ t.Ok ∧ t.dep ≤ n ∧ t.nl ≤ 500 ∧ ∀ (q : Addr) (ys : List Str) (H' : Hp), Same H H' → H' q = some (.tup (ys.map V.str)) → sortedS ys = true → ys.Nodup → (∀ z, z ∈ ys ↔ z ∈ t.lvs ∧ fieldB z = true) → Q (.ref q) H'
abbrev nmFF : List Str := ["form", "leaves", "leaf"]
theorem scFieldsF : FnScope nmFF ["form"] (defScope sFieldsF) := ⟨rfl, rfl, rfl, by decide +kernel, rfl, by decide +kernel, by decide +kernel⟩
theorem ok_fieldsF {n : Nat} {f fL fI : Addr} {fd : FuncData} (F : Fun K "form_fields" "form_fields" sFieldsF f fd) (T : Free mg) (hL : Has P w K mg base CX0 (n + 3) "form_leaves" fL ["form"] (spLeaves (n + 3))) (hI : Has P w K mg base CX0 2 "is_field" fI ["value"] spIsField) :
    FnOk P w K mg base CX0 (n + 4) f fd ["form"] (spFields (n + 3)) := by
  refine F.ok scFieldsF (fun vs H Q E h => ?_) (fun cdv A outer s H vs Q E hr h => ?_)
  · obtain ⟨v, t, rfl, _⟩ := h
    rfl
  · obtain ⟨v, t, rfl, m, ok, d, l, q⟩ := h
    refine ⟨_, pss_cons (ps_set (i := 1) scFieldsF.nd rfl (.inl rfl) (pe_has hL hr (by rfl) pass0 (pa_cons (pv 0) pa_nil)))
      (pss_one (ps_ret (pe_callTy call_tuple_of (by rfl) T.tuple (by decide +kernel) (pa_cons (pe_sortSet rfl (by rfl) T.sorted (by rfl) T.set (pe_lc (own := [("leaf", 2)]) (g := gName 2) (tt := tTest (tCall spIsField [] E0 (tCons (tVar 2) tNil))) rfl scFieldsF.nd (pi_list (pv 1))
            (blkOk_by (own := [("leaf", 2)]) (N := nmFF) (sc := defScope sFieldsF) (by decide +kernel)) (fun _ _ _ _ _ => pg_name (i := 2) scFieldsF.nd rfl (Or.inl rfl))
            (fun _ _ _ _ _ => pts_one (pt_val (pe_has hI (hr.mono (by omega)) (by rfl) pass0 (pa_cons (pv 2) pa_nil)))) (fun _ _ _ _ _ => pv 2))) pa_nil)))), ?_⟩
    have lt : t.lvs.length ≤ 500 := l
    refine ⟨_, rfl, v, t, rfl, m, d, by omega, fun q1 H1 n1 s1 h1 => ?_⟩
    refine ⟨_, rfl, q1, rfl, ⟨_, SqL.of h1⟩, fun D1 nD => lc_grow (K := K) (a := q1) (xs := t.lvs.map V.str) (outF t.lvs fieldB) (fun H' e => SqL.of (e _ _ h1)) nD rfl (fun i x H' hx e1 e2 => ?_) (fun x H' R R' h hh => h _ _ hh) (fun s h R R' k hh => ?_) (fun s h R R' k hh => ?_) fun H2 s2 h2 => ?_⟩
    · obtain ⟨z, hz, rfl⟩ := str_at hx
      refine ⟨rfl, _, rfl, z, rfl, ok.names z (List.mem_of_getElem? hz), fun H2 s2 => ⟨_, rfl, ?_⟩⟩
      cases hf : fieldB z with
      | true => exact iteT ⟨_, rfl, e1.trans s2, s2 _ _ e2, outF_len (by omega), outF_yes hz hf⟩
      | false => exact iteF ⟨e1.trans s2, by rw [outF_no hz hf]; exact s2 _ _ e2⟩
    · obtain ⟨v', e, z, e2, nz, q⟩ := hh
      exact ⟨v', e, z, e2, nz, fun H' s' => by
        obtain ⟨k', e3, r⟩ := q H' s'
        exact ⟨k', e3, k _ _ r⟩⟩
    · obtain ⟨v', e, r⟩ := hh
      exact ⟨v', e, k _ _ r⟩
    · rw [outF_end (List.length_map ..)] at h2
      have lF := List.length_filter_le fieldB t.lvs
      refine ⟨D1, t.lvs.filter fieldB, rfl, .inl (SqL.of h2), by omega, fun ys q2 srt nd mem lys nq2 => ?_⟩
      have s3 : Same H2 (upd H2 q2 (.lst (ys.map V.str))) := same_upd nq2
      refine ⟨q2, _, rfl, .inl ⟨SqL.of upd_same, fun tp ntp => ?_⟩⟩
      have s4 := same_upd (o := .tup (ys.map V.str)) ntp
      exact q tp ys _ (((s1.trans s2).trans s3).trans s4) upd_same srt nd fun z => (mem z).trans (by rw [List.mem_filter])
end
end K1

namespace K1
open PySem PySem.Spec
open PyProof.Rows L2 EnT StX SmX TxS DuX
namespace Fm
theorem lay : ∀ {t : Fm}, t.Ok → PyData.canLay0 t.dat = true
  | .leaf z, h => by
    have := strOk_low (name_low (show nameB z = true from h))
    simp [dat, PyData.canLay0, this]
  | .node s l r, h => by
    have a := lay h.2.1
    have b := lay h.2.2
    have c := (sign_ok h.1).2
    simp [dat, PyData.canLay0, PyData.canLayAll0, a, b, c]
theorem ddep : ∀ t : Fm, PyData.depth t.dat + 1 = t.dep
  | .leaf z => rfl
  | .node s l r => by
    have a := ddep l
    have b := ddep r
    rw [dep_node]
    simp only [dat, PyData.depth, PyData.depthAll]
    omega
theorem shaped {t : Fm} (h : t.Ok) (d : t.dep ≤ 60) : SeqAt.shaped t.dat = true := by
  show (PyData.canLay0 t.dat && decide (PyData.depth t.dat ≤ 64)) = true
  rw [lay h, Bool.true_and]
  have := ddep t
  exact decide_eq_true (by omega)
theorem eqv_eq : ∀ {t u : Fm}, PyData.eqv t.dat u.dat = true → t = u
  | .leaf z, .leaf y, h => by
    simp only [dat, PyData.eqv] at h
    rw [beq_iff_eq.mp h]
  | .leaf z, .node _ _ _, h => by simp [dat, PyData.eqv] at h
  | .node _ _ _, .leaf z, h => by simp [dat, PyData.eqv] at h
  | .node s l r, .node s' l' r', h => by
    simp only [dat, PyData.eqv, PyData.eqvAll, Bool.and_eq_true, Bool.and_true] at h
    obtain ⟨h1, h2, h3⟩ := h
    rw [beq_iff_eq.mp h1, eqv_eq h2, eqv_eq h3]
theorem eqv_self {t : Fm} (h : t.Ok) : PyData.eqv t.dat t.dat = true := SeqAt.eqv_refl _ (lay h)
end Fm
/-! ### form_size -/
structure It4 where
  a : Addr
  v : V
  m : Nat
  k : Nat
  t : Fm
structure ItOk (H : Hp) (i : It4) : Prop where
  h : H i.a = some (.tup [i.v, .int i.m, .int i.k])
  f : FmAt H i.v i.t
  ok : i.t.Ok
  m1 : 1 ≤ i.m
  k1 : 1 ≤ i.k
theorem ItOk.keep {H H' : Hp} {i : It4} (k : TupK H H') (x : ItOk H i) : ItOk H' i := ⟨k _ _ x.h, x.f.keep k, x.ok, x.m1, x.k1⟩
def lsum : List It4 → Nat
  | [] => 0
  | i :: r => i.m * i.t.nl + lsum r
def lmax : List It4 → Nat
  | [] => 0
  | i :: r => max (i.k + i.t.dep - 1) (lmax r)
def lsz : List It4 → Nat
  | [] => 0
  | i :: r => i.t.size + lsz r
theorem lsum_app : ∀ (x y : List It4), lsum (x ++ y) = lsum x + lsum y
  | [], y => by simp [lsum]
  | i :: r, y => by
    have := lsum_app r y
    simp only [List.cons_append, lsum, this]
    omega
theorem lsz_app : ∀ (x y : List It4), lsz (x ++ y) = lsz x + lsz y
  | [], y => by simp [lsz]
  | i :: r, y => by
    have := lsz_app r y
    simp only [List.cons_append, lsz, this]
    omega
theorem lmax_app : ∀ (x y : List It4), lmax (x ++ y) = max (lmax x) (lmax y)
  | [], y => by simp [lmax]
  | i :: r, y => by
    have := lmax_app r y
    simp only [List.cons_append, lmax, this]
    omega
theorem lsum_len : ∀ {l : List It4}, (∀ i ∈ l, 1 ≤ i.m) → l.length ≤ lsum l
  | [], _ => Nat.le_refl _
  | i :: r, h => by
    have a := lsum_len (l := r) fun j hj => h j (List.mem_cons_of_mem _ hj)
    have b := h i List.mem_cons_self
    have c := Fm.nl_pos i.t
    have d : 1 * 1 ≤ i.m * i.t.nl := Nat.mul_le_mul b c
    simp only [List.length_cons, lsum]
    omega
def spSize : Sp := fun vs H Q _ => ∃ (v : V) (t : Fm), vs = [v] ∧ FmAt H v t ∧ t.Ok ∧ t.nl ≤ 500 ∧ t.dep ≤ 60 ∧ ∀ (q : Addr) (H' : Hp), Same H H' → H' q = some (.tup [.int t.nl, .int t.dep]) → Q (.ref q) H'
abbrev nmSz : List Str := ["value", "leaves", "depth", "parts", "part", "times", "level", "side"]
theorem scSize : FnScope nmSz ["value"] (defScope sSize) := ⟨rfl, rfl, rfl, by decide +kernel, rfl, by decide +kernel, by decide +kernel⟩
structure AtSz (T : Fm) (L : Addr) (H0 : Hp) (m : Nat) (σ : L2.St) (H : Hp) : Prop where
  ex : ∃ (its : List It4) (lv dp : Nat) (x0 x4 x5 x6 x7 : Option V), σ = [x0, some (.int lv), some (.int dp), some (.ref L), x4, x5, x6, x7] ∧ m = lsz its ∧ H L = some (.lst (its.map fun i => V.ref i.a)) ∧ (∀ i ∈ its, ItOk H i) ∧ lv + lsum its = T.nl ∧ max dp (lmax its) = T.dep ∧ Same H0 H
abbrev cxZ (P : Program) (w : World) (K : PySem.W.Frag) (mg : Str → Option Value) (base : Heap) (f : Addr) (cdv : Value) (A : Around) (outer : List Env) (s : Shared) (H : Hp) (E : XK) : Cx := (cxOf CX0 P w K mg base nmSz "form_size" (defScope sSize) f cdv A outer s H E).nox
def whB : List Stmt := match defBody sSize with
  | _ :: _ :: (.While _ b _ _) :: _ => b
  | _ => []
/-- a turn of the loop, behind the depth -/
structure AtB (R : Fm → Prop) (T : Fm) (L : Addr) (H0 : Hp) (σ : L2.St) (H : Hp) (En : Ends) : Prop where
  ex : ∃ (its : List It4) (v : V) (t : Fm) (lv dp m k M : Nat) (x0 x7 : Option V), σ = [x0, some (.int lv), some (.int dp), some (.ref L), some v, some (.int m), some (.int k), x7] ∧ H L = some (.lst (its.map fun i => V.ref i.a)) ∧ (∀ i ∈ its, ItOk H i) ∧ FmAt H v t ∧ t.Ok ∧ R t ∧ 1 ≤ m ∧ 1 ≤ k ∧ k ≤ dp ∧
    lv + (lsum its + m * t.nl) = T.nl ∧ max dp (max (lmax its) (k + t.dep - 1)) = T.dep ∧ lsz its + t.size ≤ M ∧ Same H0 H ∧ H0 L = none ∧ T.nl ≤ 500 ∧ T.dep ≤ 60 ∧ ∀ σ' H', (∃ m', m' < M ∧ AtSz T L H0 m' σ' H') → En.nx σ' H'
section
variable {w : World} {P : Program} {base : Heap} {mg : Str → Option Value} {K : PySem.W.Frag} {aS : Addr}
variable {f fN fT : Addr} {cdv : Value} {A : Around} {outer : List Env} {s : Shared} {H00 : Hp} {E : XK} {T0 : Fm} {L : Addr} {H0 : Hp}
def inIf : List Stmt → List Stmt × List Stmt
  | [.If _ a b _] => (a, b)
  | _ => ([], [])
def whI : List Stmt × List Stmt := inIf (inIf (inIf (whB.drop 2)).2).2
theorem sz_app (T : Free mg) (hr : Room 1 (A.deeper (envOfC "form_size" (defScope sSize) s.heap.objs.size f cdv))) :
    PSs (cxZ P w K mg base f cdv A outer s H00 E) whI.1 (fun En σ H => AtB (fun t => ∃ s l, t = .node s l l) T0 L H0 σ H En) := by
  refine pss_of fun En σ H hyp => ?_
  obtain ⟨its, v, t, lv, dp, m, k, M, x0, x7, eσ, hL, hi, ft, ok, rt, m1, k1, kd, e1, e2, e3, s0, nL, l5, d6, fin⟩ := hyp.ex
  refine ⟨_, pss_one (ps_expr (pe_bm PySem.F.plainAttrs_list PySem.F.slot_list_append PySem.F.type_list_append mt_append (pv 3) (pa_cons (pe_tup (pa_cons (pe_ix ix_tup (pv 4) pe_int (fun _ _ => rfl)) (pa_cons (pe_op op_add (pv 5) (pv 5)) (pa_cons (pe_op op_add (pv 6) pe_int) pa_nil)))) pa_nil))), ?_⟩
  subst eσ
  obtain ⟨s', l, rfl⟩ := rt
  cases ft with
  | node h hl hr' =>
    rename_i a vl vr
    have hlen : its.length ≤ 500 := by
      have := lsum_len (l := its) fun i hx => (hi i hx).m1
      omega
    refine ⟨_, rfl, .inl ⟨rfl, _, SqL.of hL⟩, ?_⟩
    refine ⟨_, rfl, a, _, _, vl, rfl, rfl, SqT.of h, atI_nat (j := 1) rfl, _, rfl, _, rfl, _, _, rfl, rfl, _, rfl, _, _, rfl, rfl, (by show 3 ≤ sizeLine; decide), fun p np => ?_⟩
    have s1 : Same H (upd H p (.tup [vl, .int ((m : Int) + m), .int ((k : Int) + 1)])) := same_upd np
    refine ⟨L, _, _, rfl, rfl, s1 _ _ hL, by rw [List.length_map, sizeLine_eq]; omega, ?_⟩
    have kp : TupK H (upd (upd H p (.tup [vl, .int ((m : Int) + m), .int ((k : Int) + 1)])) L (.lst (its.map (fun i => V.ref i.a) ++ [.ref p]))) := (TupK.same s1).set (s1 _ _ hL)
    have em : (m : Int) + m = ((m + m : Nat) : Int) := by omega
    have ek : (k : Int) + 1 = ((k + 1 : Nat) : Int) := by omega
    have pL : p ≠ L := fun e => by rw [e, hL] at np; cases np
    have hp : (upd (upd H p (.tup [vl, .int ((m : Int) + m), .int ((k : Int) + 1)])) L (.lst (its.map (fun i => V.ref i.a) ++ [.ref p]))) p = some (.tup [vl, .int (m + m : Nat), .int (k + 1 : Nat)]) := by
      rw [upd_ne pL, upd_same, em, ek]
    refine fin _ _ ⟨lsz (its ++ [⟨p, vl, m + m, k + 1, l⟩]), ?_, its ++ [⟨p, vl, m + m, k + 1, l⟩], lv, dp, _, _, _, _, _, rfl, rfl, by rw [upd_same, List.map_append]; rfl, fun i hx => ?_, ?_, ?_, same_set (s0.trans s1) nL⟩
    · rw [lsz_app]
      have := Fm.size_pos l
      simp only [lsz]
      simp only [Fm.size] at e3
      omega
    · rcases List.mem_append.mp hx with e | e
      · exact (hi i e).keep kp
      · rw [List.mem_singleton.mp e]
        exact ⟨hp, hl.keep kp, ok.2.1, by show 1 ≤ m + m; omega, by show 1 ≤ k + 1; omega⟩
    · rw [lsum_app]
      rw [Fm.nl_node, Nat.mul_add] at e1
      simp only [lsum, Nat.add_mul]
      omega
    · rw [lmax_app]
      rw [Fm.dep_node] at e2
      have := Fm.dep_pos l
      simp only [lmax]
      omega
theorem sz_ext (T : Free mg) (hr : Room 1 (A.deeper (envOfC "form_size" (defScope sSize) s.heap.objs.size f cdv))) :
    PSs (cxZ P w K mg base f cdv A outer s H00 E) whI.2 (fun En σ H => AtB (fun t => isNode t = true) T0 L H0 σ H En) := by
  refine pss_of fun En σ H hyp => ?_
  obtain ⟨its, v, t, lv, dp, m, k, M, x0, x7, eσ, hL, hi, ft, ok, rt, m1, k1, kd, e1, e2, e3, s0, nL, l5, d6, fin⟩ := hyp.ex
  refine ⟨_, pss_one (ps_expr (pe_bm PySem.F.plainAttrs_list PySem.F.slot_list_extend PySem.F.type_list_extend mt_extend (pv 3) (pa_cons (pe_lc (own := [("side", 7)]) (g := gName 7) (tt := tYes) (te := tTup (tCons (tVar 7) (tCons (tVar 5) (tCons (tOp (rI0 fun i j => .int (i + j)) (tVar 6) (tC (.int 1))) tNil)))) rfl scSize.nd (pi_tup (pe_slice sl_tup (pv 4) (po_some pe_int) po_none))
              (blkOk_by (own := [("side", 7)]) (N := nmSz) (sc := defScope sSize) (by decide +kernel)) (fun _ _ _ _ _ => pg_name (i := 7) scSize.nd rfl (Or.inl rfl)) (fun _ _ _ _ _ => pts_nil)
              (fun _ _ _ _ _ => pe_tup (pa_cons (pv 7) (pa_cons (pv 5) (pa_cons (pe_op op_add (pv 6) pe_int) pa_nil))))) pa_nil))), ?_⟩
  subst eσ
  cases ft with
  | leaf z => cases rt
  | node h hl hr' =>
    rename_i a s' vl vr l r
    have hlen : its.length ≤ 500 := by
      have := lsum_len (l := its) fun i hx => (hi i hx).m1
      omega
    refine ⟨_, rfl, .inl ⟨rfl, _, SqL.of hL⟩, ?_⟩
    refine ⟨_, rfl, 1, rfl, a, _, rfl, SqT.of h, (fun e => absurd e.1 (by show ¬ (HT.sIx 3 0 (some 1) = 0); decide)), fun pp npp => ?_⟩
    have s1 : Same H (upd H pp (.tup [vl, vr])) := same_upd npp
    have hpp : (upd H pp (.tup [vl, vr])) pp = some (.tup [vl, vr]) := upd_same
    refine ⟨pp, rfl, ⟨_, SqT.of upd_same⟩, fun D nD => ?_⟩
    refine lc_tup (K := K) (a := pp) (xs := [vl, vr]) (fun i H' => Same (upd H pp (.tup [vl, vr])) H' ∧ ∃ ps : List Addr, ps.length = i ∧ H' D = some (.lst (ps.map V.ref)) ∧ ∀ (j : Nat) (q : Addr) (u : V), ps[j]? = some q → ([vl, vr] : List V)[j]? = some u → H' q = some (.tup [u, .int m, .int ((k : Int) + 1)])) ?_ ?_ ?_ ?_
    · exact ⟨same_upd nD, [], rfl, upd_same, fun j q u e => by cases e⟩
    · rintro i H' _ ⟨s2, _⟩
      exact SqT.of (s2 _ _ hpp)
    · rintro i x H' hx ⟨s2, ps, lp, hD, hq⟩
      have hi2 : i < 2 := (List.getElem?_eq_some_iff.mp hx).1
      refine ⟨rfl, _, rfl, _, rfl, _, rfl, _, _, rfl, rfl, (by show 3 ≤ sizeLine; decide), fun q nq => ?_⟩
      have s3 : Same H' (upd H' q (.tup [x, .int m, .int ((k : Int) + 1)])) := same_upd nq
      have hD3 := s3 _ _ hD
      have nqD : q ≠ D := fun e => by rw [e, hD] at nq; cases nq
      refine ⟨_, hD3, by rw [List.length_map, lp, sizeLine_eq]; omega, same_set (s2.trans s3) nD, ps ++ [q], by rw [List.length_append, lp]; rfl, by rw [upd_same, List.map_append]; rfl, fun j q' u e1 e2 => ?_⟩
      by_cases hj : j < ps.length
      · rw [List.getElem?_append_left hj] at e1
        have z := hq j q' u e1 e2
        rw [upd_ne (fun e => by rw [e, hD] at z; cases z)]
        exact s3 _ _ z
      · rw [List.getElem?_append_right (by omega)] at e1
        have e : j - ps.length = 0 := by
          have := (List.getElem?_eq_some_iff.mp e1).1
          simp at this
          omega
        rw [e] at e1
        cases e1
        have ej : j = i := by omega
        rw [ej, hx] at e2
        cases e2
        rw [upd_ne nqD, upd_same]
    · rintro H' ⟨s2, ps, lp, hD, hq⟩
      obtain ⟨p1, p2, rfl⟩ : ∃ p1 p2, ps = [p1, p2] := by
        match ps, lp with
        | [p1, p2], _ => exact ⟨p1, p2, rfl⟩
      have q1 := hq 0 p1 vl rfl rfl
      have q2 := hq 1 p2 vr rfl rfl
      have s12 := s1.trans s2
      refine ⟨L, D, _, _, rfl, rfl, s12 _ _ hL, hD, by rw [List.length_map, sizeLine_eq]; show its.length + 2 ≤ _; omega, ?_⟩
      have kp : TupK H (upd H' L (.lst (its.map (fun i => V.ref i.a) ++ [V.ref p1, V.ref p2]))) := (TupK.same s12).set (s12 _ _ hL)
      have ek : (k : Int) + 1 = ((k + 1 : Nat) : Int) := by omega
      have g1 : (upd H' L (.lst (its.map (fun i => V.ref i.a) ++ [V.ref p1, V.ref p2]))) p1 = some (.tup [vl, .int m, .int (k + 1 : Nat)]) := by
        rw [upd_ne (fun e => by rw [e, s12 _ _ hL] at q1; cases q1), ← ek]
        exact q1
      have g2 : (upd H' L (.lst (its.map (fun i => V.ref i.a) ++ [V.ref p1, V.ref p2]))) p2 = some (.tup [vr, .int m, .int (k + 1 : Nat)]) := by
        rw [upd_ne (fun e => by rw [e, s12 _ _ hL] at q2; cases q2), ← ek]
        exact q2
      refine fin _ _ ⟨lsz (its ++ [⟨p1, vl, m, k + 1, l⟩, ⟨p2, vr, m, k + 1, r⟩]), ?_, its ++ [⟨p1, vl, m, k + 1, l⟩, ⟨p2, vr, m, k + 1, r⟩], lv, dp, _, _, _, _, _, rfl, rfl, by rw [upd_same, List.map_append]; rfl, fun i hx => ?_, ?_, ?_, same_set (s0.trans s12) nL⟩
      · rw [lsz_app]
        simp only [lsz]
        simp only [Fm.size] at e3
        omega
      · rcases List.mem_append.mp hx with e | e
        · exact (hi i e).keep kp
        · simp only [List.mem_cons, List.not_mem_nil, or_false] at e
          rcases e with rfl | rfl
          · exact ⟨g1, hl.keep kp, ok.2.1, m1, by show 1 ≤ k + 1; omega⟩
          · exact ⟨g2, hr'.keep kp, ok.2.2, m1, by show 1 ≤ k + 1; omega⟩
      · rw [lsum_app]
        rw [Fm.nl_node, Nat.mul_add] at e1
        simp only [lsum]
        omega
      · rw [lmax_app]
        rw [Fm.dep_node] at e2
        have := Fm.dep_pos l
        have := Fm.dep_pos r
        simp only [lmax]
        omega
theorem sz_rest (T : Free mg) (hN : Has P w K mg base CX0 1 "is_name" fN ["value"] spIsName) (hT : Has P w K mg base CX0 1 "is_triple" fT ["value"] spTriple) (hr : Room 1 (A.deeper (envOfC "form_size" (defScope sSize) s.heap.objs.size f cdv))) :
    PSs (cxZ P w K mg base f cdv A outer s H00 E) (whB.drop 2) (fun En σ H => AtB (fun _ => True) T0 L H0 σ H En) := by
  refine pss_of fun En σ H hyp => ?_
  obtain ⟨its, v, t, lv, dp, m, k, M, x0, x7, eσ, hL, hi, ft, ok, rt, m1, k1, kd, e1, e2, e3, s0, nL, l5, d6, fin⟩ := hyp.ex
  have hun := hr.un
  refine ⟨_, pss_one (ps_if (pt_val (pe_has hN hr (by rfl) pass0 (pa_cons (pv 4) pa_nil)))
          (pss_one (ps_set (i := 1) scSize.nd rfl (.inl rfl) (pe_op op_add (pv 1) (pv 5))))
          (pss_one (ps_if (pt_not (pt_val (pe_has hT hr (by rfl) pass0 (pa_cons (pv 4) pa_nil)))) pss_never
          (pss_one (ps_if (PW.pt (pw_and (pt_val (pe_has hT hr (by rfl) pass0 (pa_cons (pe_ix ix_tup (pv 4) pe_int (fun _ _ => rfl)) pa_nil))) (pw_and1 (pt_cmpR (op_eqD (by show (A.deeper (envOfC "form_size" (defScope sSize) s.heap.objs.size f cdv)).units + 64 < cLine; omega)) (pe_ix ix_tup (pv 4) pe_int (fun _ _ => rfl)) (pe_ix ix_tup (pv 4) pe_int (fun _ _ => rfl)) (nomark _)))))
            (sz_app (T0 := T0) (L := L) (H0 := H0) T hr)
            (sz_ext (T0 := T0) (L := L) (H0 := H0) T hr)))))), ?_⟩
  subst eσ
  refine ⟨_, rfl, v, rfl, ft.vok ok, _, rfl, ?_⟩
  cases ft with
  | leaf z =>
    rw [show nameV (.str z) = true from ok]
    refine iteT ⟨_, rfl, _, rfl, _, _, rfl, rfl, ?_⟩
    refine fin _ _ ⟨lsz its, ?_, its, lv + m, dp, _, _, _, _, _, rfl, rfl, hL, hi, ?_, ?_, s0⟩
    · have : (Fm.leaf z).size = 1 := rfl
      omega
    · have : m * (Fm.leaf z).nl = m := Nat.mul_one m
      omega
    · have : (Fm.leaf z).dep = 1 := rfl
      rw [this] at e2
      omega
  | node h hl hr' =>
    rename_i a s' vl vr l r
    rw [show nameV (.ref a) = false from rfl]
    refine iteF ?_
    refine ⟨_, rfl, .ref a, .node s' l r, rfl, .node h hl hr', ok, _, rfl, iteF ?_⟩
    refine ⟨_, rfl, a, _, _, vl, rfl, rfl, SqT.of h, atI_nat (j := 1) rfl, vl, l, rfl, hl, ok.2.1, _, rfl, ?_⟩
    have st : AtB (fun t => isNode t = true) T0 L H0 [x0, some (.int lv), some (.int dp), some (.ref L), some (.ref a), some (.int m), some (.int k), x7] H En := ⟨its, .ref a, .node s' l r, lv, dp, m, k, M, x0, x7, rfl, hL, hi, .node h hl hr', ok, rfl, m1, k1, kd, e1, e2, e3, s0, nL, l5, d6, fin⟩
    cases hn : isNode l with
    | false => exact iteF (iteF st)
    | true =>
      have dl : l.dep ≤ 60 ∧ r.dep ≤ 60 := by
        rw [Fm.dep_node] at e2
        omega
      refine iteT ⟨_, rfl, a, _, _, vl, rfl, rfl, SqT.of h, atI_nat (j := 1) rfl, _, rfl, a, _, _, vr, rfl, rfl, SqT.of h, atI_nat (j := 2) rfl, _, _, hl.dp, hr'.dp, Fm.shaped ok.2.1 dl.1, Fm.shaped ok.2.2 dl.2, _, rfl, ?_⟩
      cases he : PyData.eqv l.dat r.dat with
      | false => exact iteF st
      | true =>
        have er := Fm.eqv_eq he
        exact iteT ⟨its, .ref a, .node s' l r, lv, dp, m, k, M, x0, x7, rfl, hL, hi, .node h hl hr', ok, ⟨s', l, by rw [er]⟩, m1, k1, kd, e1, e2, e3, s0, nL, l5, d6, fin⟩
end
end K1

namespace K1
open PySem PySem.Spec
open PyProof.Rows L2 EnT StX SmX TxS DuX
section
variable {w : World} {P : Program} {base : Heap} {mg : Str → Option Value} {K : PySem.W.Frag} {aS : Addr}
theorem sz_any {f fN fT : Addr} {cdv : Value} {A : Around} {outer : List Env} {s : Shared} {H00 : Hp} {E : XK} (T0 : Fm) (H0 : Hp) (T : Free mg) (hN : Has P w K mg base CX0 1 "is_name" fN ["value"] spIsName) (hT : Has P w K mg base CX0 1 "is_triple" fT ["value"] spTriple) (hr : Room 1 (A.deeper (envOfC "form_size" (defScope sSize) s.heap.objs.size f cdv))) :
    PSs (cxZ P w K mg base f cdv A outer s H00 E) (whB.drop 2) (fun En σ H => ∃ L, AtB (fun _ => True) T0 L H0 σ H En) := pss_of fun En σ H h => by
  obtain ⟨L, h⟩ := h
  exact ⟨_, sz_rest (T0 := T0) (L := L) (H0 := H0) T hN hT hr, h⟩
theorem ok_size {f fN fT : Addr} {fd : FuncData} (F : Fun K "form_size" "form_size" sSize f fd) (T : Free mg) (hN : Has P w K mg base CX0 1 "is_name" fN ["value"] spIsName) (hT : Has P w K mg base CX0 1 "is_triple" fT ["value"] spTriple) : FnOk P w K mg base CX0 2 f fd ["value"] spSize := by
  refine F.ok scSize (fun vs H Q E h => ?_) (fun cdv A outer s H vs Q E hr h => ?_)
  · obtain ⟨v, t, rfl, _⟩ := h
    rfl
  · obtain ⟨v, t, rfl, mt, ok, l5, d6, q⟩ := h
    refine ⟨_, pss_cons (ps_asg2 pe_int (pg_name (i := 1) scSize.nd rfl (.inl rfl)) (pg_name (i := 2) scSize.nd rfl (.inl rfl)))
      (pss_cons (ps_set (i := 3) scSize.nd rfl (.inl rfl) (pe_lst (pa_cons (pe_tup (pa_cons (pv 0) (pa_cons pe_int (pa_cons pe_int pa_nil)))) pa_nil)))
      (pss_cons (ps_while PassesOwn.never (pt_truth (pv 3) (by intro _; rfl))
        (pss_cons (ps_asg (pe_bm0 PySem.F.plainAttrs_list PySem.F.slot_list_pop PySem.F.type_list_pop mt_pop (pv 3)) (pg_tup rfl (pgs_cons (pg_name (i := 4) scSize.nd rfl (.inl rfl)) (pgs_cons (pg_name (i := 5) scSize.nd rfl (.inr rfl)) (pgs_cons (pg_name (i := 6) scSize.nd rfl (.inr rfl)) pgs_nil)))))
        (pss_cons (ps_set (i := 2) scSize.nd rfl (.inl rfl) (pe_ifExp (pt_cmpR op_gt (pv 6) (pv 2) (nomark _)) (pv 6) (pv 2)))
        (sz_any t H T hN hT hr))))
      (pss_one (ps_ret (pe_tup (pa_cons (pv 1) (pa_cons (pv 2) pa_nil))))))), ?_⟩
    refine ⟨_, rfl, (by show 3 ≤ sizeLine; decide), fun a1 n1 => ⟨(by show 1 ≤ sizeLine; decide), fun L nL => ?_⟩⟩
    have s1 : Same H (upd H a1 (.tup [v, .int 1, .int 1])) := same_upd n1
    have h1 : (upd H a1 (.tup [v, .int 1, .int 1])) a1 = some (.tup [v, .int 1, .int 1]) := upd_same
    have nL0 : H L = none := by
      cases hh : H L with
      | none => rfl
      | some o =>
        rw [s1 _ _ hh] at nL
        cases nL
    have s2 := s1.trans (same_upd (o := .lst [.ref a1]) nL)
    have h2 := (same_upd (o := .lst [.ref a1]) nL) _ _ h1
    refine ⟨fun m σ H' => AtSz t L H m σ H', ⟨lsz [⟨a1, v, 1, 1, t⟩], [⟨a1, v, 1, 1, t⟩], 0, 0, _, _, _, _, _, rfl, rfl, upd_same, fun i hi => ?_, ?_, ?_, s2⟩, ?_⟩
    · rw [List.mem_singleton.mp hi]
      exact ⟨h2, mt.same s2, ok, Nat.le_refl _, Nat.le_refl _⟩
    · show 0 + (1 * t.nl + 0) = t.nl
      omega
    · have := Fm.dep_pos t
      show max 0 (max (1 + t.dep - 1) 0) = t.dep
      omega
    · rintro m σ1 H1 ⟨its, lv, dp, x0, x4, x5, x6, x7, rfl, rfl, hL, hi, e1, e2, s0⟩
      refine ⟨_, rfl, _, .inl ⟨_, SqL.of hL, rfl⟩, ?_⟩
      rcases List.eq_nil_or_concat its with rfl | ⟨ini, x, rfl⟩
      · refine iteF ?_
        refine ⟨_, rfl, _, rfl, (by show 2 ≤ sizeLine; decide), fun p np => ?_⟩
        have z1 : lv = t.nl := e1
        have z2 : dp = t.dep := by
          rw [← e2]
          show dp = max dp 0
          omega
        rw [z1, z2]
        exact q p _ (s0.trans (same_upd np)) upd_same
      · rw [List.concat_eq_append] at hL hi e1 e2 ⊢
        have em : ((ini ++ [x]).map fun i => V.ref i.a) = (ini.map fun i => V.ref i.a) ++ [.ref x.a] := by rw [List.map_append]; rfl
        rw [em] at hL ⊢
        have ek : (!((ini.map fun i => V.ref i.a) ++ [V.ref x.a]).isEmpty) = true := by simp
        rw [ek]
        refine iteT ⟨fun σ' H' => ∃ m', m' < lsz (ini ++ [x]) ∧ AtSz t L H m' σ' H', fun σ' H' h => h, ?_⟩
        have X := hi x (by simp)
        refine ⟨_, rfl, .inl ⟨rfl, _, SqL.of hL⟩, L, _, .ref x.a, rfl, rfl, hL, by simp, ?_⟩
        have ed : ((ini.map fun i => V.ref i.a) ++ [V.ref x.a]).dropLast = ini.map fun i => V.ref i.a := by simp
        rw [ed]
        have kp : TupK H1 (upd H1 L (.lst (ini.map fun i => V.ref i.a))) := TupK.set (H := H1) (H' := H1) (fun a xs h => h) hL
        have s3 : Same H (upd H1 L (.lst (ini.map fun i => V.ref i.a))) := same_set s0 nL0
        have X' := X.keep kp
        have hL' : (upd H1 L (.lst (ini.map fun i => V.ref i.a))) L = some (.lst (ini.map fun i => V.ref i.a)) := upd_same
        generalize upd H1 L (.lst (ini.map fun i => V.ref i.a)) = H2 at kp s3 X' hL' ⊢
        refine ⟨x.a, _, rfl, SqT.of X'.h, rfl, _, _, rfl, _, _, rfl, _, _, rfl, rfl, ?_⟩
        refine ⟨_, rfl, _, rfl, _, _, rfl, rfl, _, rfl, ?_⟩
        rw [lsum_app] at e1
        rw [lmax_app] at e2
        simp only [lsum, lmax] at e1 e2
        have D := Fm.dep_pos x.t
        have K1' := X.k1
        have key : ∀ dp' : Nat, dp' = max dp x.k → ∀ σ' : L2.St, σ' = [x0, some (.int lv), some (.int dp'), some (.ref L), some x.v, some (.int x.m), some (.int x.k), x7] → ∀ En : Ends, (∀ σ' H', (∃ m', m' < lsz (ini ++ [x]) ∧ AtSz t L H m' σ' H') → En.nx σ' H') → ∃ L', AtB (fun _ => True) t L' H σ' H2 En := fun dp' ed' σ' es En hn => ⟨L, ini, x.v, x.t, lv, dp', x.m, x.k, lsz (ini ++ [x]), _, _, es, hL', fun i hx => (hi i (by simp [hx])).keep kp, X'.f, X.ok, trivial, X.m1, X.k1, by omega, by omega, by omega, by rw [lsz_app]; simp only [lsz]; omega, s3, nL0, l5, d6, hn⟩
        by_cases hk : ((x.k : Nat) : Int) > ((dp : Nat) : Int)
        · rw [decide_eq_true hk]
          exact iteT ⟨_, rfl, key x.k (by omega) _ rfl _ fun σ' H' h => h⟩
        · rw [decide_eq_false hk]
          exact iteF ⟨_, rfl, key dp (by omega) _ rfl _ fun σ' H' h => h⟩
end
end K1

namespace K1
open PySem PySem.Spec
open PyProof.Rows L2 EnT StX SmX TxS DuX
/-! ### expressions -/
def eflds (v : V) (t : Fm) (fl : Addr) : List (Str × V) := putF "_has_given" (.bl (decide (tGiven ∈ t.lvs))) (putF "_fields" (.ref fl) (putF "_depth" (.int (t.dep : Nat)) (putF "_leaves" (.int (t.nl : Nat)) (putF "_form" v []))))
theorem ef_form (v : V) (t : Fm) (fl : Addr) : (eflds v t fl).lookup ("_form" : Str) = some v := by
  unfold eflds
  rw [lookup_putF, if_neg (by decide +kernel), lookup_putF, if_neg (by decide +kernel), lookup_putF, if_neg (by decide +kernel), lookup_putF, if_neg (by decide +kernel), lookup_putF, if_pos rfl]
theorem ef_leaves (v : V) (t : Fm) (fl : Addr) : (eflds v t fl).lookup ("_leaves" : Str) = some (.int (t.nl : Nat)) := by
  unfold eflds
  rw [lookup_putF, if_neg (by decide +kernel), lookup_putF, if_neg (by decide +kernel), lookup_putF, if_neg (by decide +kernel), lookup_putF, if_pos rfl]
theorem ef_depth (v : V) (t : Fm) (fl : Addr) : (eflds v t fl).lookup ("_depth" : Str) = some (.int (t.dep : Nat)) := by
  unfold eflds
  rw [lookup_putF, if_neg (by decide +kernel), lookup_putF, if_neg (by decide +kernel), lookup_putF, if_pos rfl]
theorem ef_fields (v : V) (t : Fm) (fl : Addr) : (eflds v t fl).lookup ("_fields" : Str) = some (.ref fl) := by
  unfold eflds
  rw [lookup_putF, if_neg (by decide +kernel), lookup_putF, if_pos rfl]
theorem ef_given (v : V) (t : Fm) (fl : Addr) : (eflds v t fl).lookup ("_has_given" : Str) = some (.bl (decide (tGiven ∈ t.lvs))) := by
  unfold eflds
  rw [lookup_putF, if_pos rfl]
structure ExpC (K : PySem.W.Frag) (mg : Str → Option Value) (C : Addr) : Prop where
  g : mg "Expression" = some (.ref C)
  cl : Cls K C
  nF : NoAttr K C "_form"
  nL : NoAttr K C "_leaves"
  nD : NoAttr K C "_depth"
  nS : NoAttr K C "_fields"
  nG : NoAttr K C "_has_given"
structure ExpAt (C : Addr) (H : Hp) (p : Addr) (t : Fm) : Prop where
  at_ : ∃ (dx : Addr) (v : V) (fl : Addr) (ys : List Str), H p = some (.ins C dx (eflds v t fl)) ∧ FmAt H v t ∧ H fl = some (.tup (ys.map V.str)) ∧ sortedS ys = true ∧ ys.Nodup ∧ ∀ z, z ∈ ys ↔ z ∈ t.lvs ∧ fieldB z = true
  ok : t.Ok
  d : t.dep ≤ 6
theorem ExpAt.same {C p : Addr} {H H' : Hp} {t : Fm} (s : Same H H') (m : ExpAt C H p t) : ExpAt C H' p t := by
  obtain ⟨⟨dx, v, fl, ys, h1, h2, h3, h4⟩, a, b⟩ := m
  exact ⟨⟨dx, v, fl, ys, s _ _ h1, h2.same s, s _ _ h3, h4⟩, a, b⟩
theorem ExpAt.set {C p a : Addr} {H : Hp} {t : Fm} {xs : List V} {o : HO} (h : H a = some (.lst xs)) (m : ExpAt C H p t) : ExpAt C (upd H a o) p t := by
  obtain ⟨⟨dx, v, fl, ys, h1, h2, h3, h4⟩, b, c⟩ := m
  exact ⟨⟨dx, v, fl, ys, by rw [upd_ne (fun z => by rw [z, h] at h1; cases h1)]; exact h1, h2.keep (TupK.set (H := H) (H' := H) (fun _ _ e => e) h), by rw [upd_ne (fun z => by rw [z, h] at h3; cases h3)]; exact h3, h4⟩, b, c⟩
theorem nl32 {t : Fm} (h : t.dep ≤ 6) : t.nl ≤ 32 := Nat.le_trans (Fm.nl_dep t) (Nat.le_trans (Nat.pow_le_pow_right (by decide) (show t.dep - 1 ≤ 5 by omega)) (by decide))
/-- what Expression(..) gives -/
def spInitE (C : Addr) : Sp := fun vs H Q _ => ∃ (p dx : Addr) (v : V) (t : Fm), vs = [.ref p, v] ∧ H p = some (.ins C dx []) ∧ FmAt H v t ∧ t.Ok ∧ t.dep ≤ 6 ∧ ∀ H', (∀ x o, x ≠ p → H x = some o → H' x = some o) → ExpAt C H' p t → Q .non H'
abbrev nmIE : List Str := ["self", "form", "size", "leaves", "depth"]
section
variable {w : World} {P : Program} {base : Heap} {mg : Str → Option Value} {K : PySem.W.Frag} {aS C : Addr}
theorem scIE : FnScope nmIE ["self", "form"] (defScope sInitE) := ⟨rfl, rfl, rfl, by decide +kernel, rfl, by decide +kernel, by decide +kernel⟩
theorem ok_initE {f f1 f2 f3 f4 f5 : Addr} {fd : FuncData} (F : Fun K "__init__" "Expression.__init__" sInitE f fd) (G : Gf K mg aS) (M : ExpC K mg C) (hS : Has P w K mg base CX0 2 "form_size" f1 ["value"] spSize)
    (hL : Has P w K mg base CX0 1 "check_leaves" f2 ["leaves"] (spChk 200)) (hD : Has P w K mg base CX0 1 "check_depth" f3 ["depth"] (spChk 20)) (hF : Has P w K mg base CX0 7 "form_fields" f4 ["form"] (spFields 6)) (hV : Has P w K mg base CX0 6 "form_leaves" f5 ["form"] (spLeaves 6)) :
    FnOk P w K mg base CX0 8 f fd ["self", "form"] (spInitE C) := by
  obtain ⟨tg, hg⟩ := G.gv
  refine F.ok scIE (fun vs H Q E h => ?_) (fun cdv A outer s H vs Q E hr h => ?_)
  · obtain ⟨p, dx, v, t, rfl, _⟩ := h
    rfl
  · obtain ⟨p, dx, v, t, rfl, hp, hm, ok, hd, q⟩ := h
    refine ⟨_, pss_cons (ps_set (i := 2) scIE.nd rfl (.inl rfl) (pe_has hS (hr.mono (by decide)) (by rfl) pass0 (pa_cons (pv 1) pa_nil)))
      (pss_cons (ps_if (pt_cmp (pc_isN (pv 2))) pss_never pss_nil)
      (pss_cons (ps_asg (pv 2) (pg_tup rfl (pgs_cons (pg_name (i := 3) scIE.nd rfl (.inl rfl)) (pgs_cons (pg_name (i := 4) scIE.nd rfl (.inl rfl)) pgs_nil))))
      (pss_cons (ps_expr (pe_has hL (hr.mono (by decide)) (by rfl) pass0 (pa_cons (pv 3) pa_nil)))
      (pss_cons (ps_expr (pe_has hD (hr.mono (by decide)) (by rfl) pass0 (pa_cons (pv 4) pa_nil)))
      (pss_cons (ps_fld (pv 0) (pv 1) rfl) (pss_cons (ps_fld (pv 0) (pv 3) rfl) (pss_cons (ps_fld (pv 0) (pv 4) rfl)
      (pss_cons (ps_fld (pv 0) (pe_has hF hr (by rfl) pass0 (pa_cons (pv 1) pa_nil)) rfl)
      (pss_one (ps_fld (pv 0) (pe_cmpR op_in_seq (pe_glob (v := .str tGiven) (by rfl) hg ⟨_, rfl⟩) (pe_has hV (hr.mono (by decide)) (by rfl) pass0 (pa_cons (pv 1) pa_nil)) (by rfl)) rfl)))))))))), ?_⟩
    have nl := nl32 hd
    refine ⟨_, rfl, v, t, rfl, hm, ok, by omega, by omega, fun a H1 s1 ha => ?_⟩
    refine ⟨_, rfl, false, rfl, iteF ?_⟩
    refine ⟨_, rfl, a, _, rfl, SqT.of ha, rfl, _, _, rfl, _, _, rfl, rfl, ?_⟩
    refine ⟨_, rfl, _, rfl, by omega, ?_⟩
    refine ⟨_, rfl, _, rfl, by omega, ?_⟩
    have hp1 := s1 _ _ hp
    have hm1 := hm.same s1
    have pt : ∀ {fs : List (Str × V)} {H2 : Hp} {o : HO}, H2 p = some (.ins C dx fs) → TupK H2 (upd H2 p o) := fun {fs H2 o} e a xs h => by rw [upd_ne (fun z => by rw [z, e] at h; cases h)]; exact h
    refine ⟨_, rfl, _, rfl, p, C, dx, [], rfl, hp1, M.cl, M.nF, (by show 0 < 1000; decide), ?_⟩
    refine ⟨_, rfl, _, rfl, p, C, dx, _, rfl, upd_same, M.cl, M.nL, (by rw [show (putF "_form" v []).length = 1 from rfl]; decide), ?_⟩
    rw [upd_upd]
    refine ⟨_, rfl, _, rfl, p, C, dx, _, rfl, upd_same, M.cl, M.nD, (by rw [show (putF "_leaves" (V.int (t.nl : Nat)) (putF "_form" v [])).length = 2 from rfl]; decide), ?_⟩
    rw [upd_upd]
    refine ⟨_, rfl, v, t, rfl, hm1.keep (pt hp1), ok, hd, by omega, fun fl ys H2 s2 hf so nd iff => ?_⟩
    have hp2 := s2 _ _ (upd_same (H := H1) (a := p) (o := .ins C dx (putF "_depth" (V.int (t.dep : Nat)) (putF "_leaves" (V.int (t.nl : Nat)) (putF "_form" v [])))))
    have hm2 := (hm1.keep (pt hp1 (o := .ins C dx (putF "_depth" (V.int (t.dep : Nat)) (putF "_leaves" (V.int (t.nl : Nat)) (putF "_form" v [])))))).same s2
    refine ⟨_, rfl, p, C, dx, _, rfl, hp2, M.cl, M.nS, (by rw [show (putF "_depth" (V.int (t.dep : Nat)) (putF "_leaves" (V.int (t.nl : Nat)) (putF "_form" v []))).length = 3 from rfl]; decide), ?_⟩
    refine ⟨_, rfl, v, t, rfl, hm2.keep (pt hp2), hd, by omega, fun l H3 nl' s3 hl => ?_⟩
    have hp3 := s3 _ _ (upd_same (H := H2) (a := p) (o := .ins C dx (putF "_fields" (V.ref fl) (putF "_depth" (V.int (t.dep : Nat)) (putF "_leaves" (V.int (t.nl : Nat)) (putF "_form" v []))))))
    have hm3 := (hm2.keep (pt hp2 (o := .ins C dx (putF "_fields" (V.ref fl) (putF "_depth" (V.int (t.dep : Nat)) (putF "_leaves" (V.int (t.nl : Nat)) (putF "_form" v []))))))).same s3
    have hf3 := s3 _ _ (pt hp2 (o := .ins C dx (putF "_fields" (V.ref fl) (putF "_depth" (V.int (t.dep : Nat)) (putF "_leaves" (V.int (t.nl : Nat)) (putF "_form" v []))))) _ _ hf)
    refine ⟨l, _, rfl, .inl (SqL.of hl), rfl, strs_flat _, ?_⟩
    rw [inV_mem]
    refine ⟨_, rfl, p, C, dx, _, rfl, hp3, M.cl, M.nG, (by rw [show (putF "_fields" (V.ref fl) (putF "_depth" (V.int (t.dep : Nat)) (putF "_leaves" (V.int (t.nl : Nat)) (putF "_form" v [])))).length = 4 from rfl]; decide), ?_⟩
    refine q _ (fun x o n e => ?_) ⟨⟨dx, v, fl, ys, upd_same, hm3.keep (pt hp3), pt hp3 _ _ hf3, so, nd, iff⟩, ok, hd⟩
    rw [upd_ne n]
    refine s3 _ _ ?_
    rw [upd_ne n]
    refine s2 _ _ ?_
    rw [upd_ne n]
    exact s1 _ _ e
end
end K1

namespace K1
open PySem PySem.Spec
open PyProof.Rows L2 EnT StX SmX TxS DuX
/-- e.x, a property that hands a field on -/
structure Pp (P : Program) (w : World) (K : PySem.W.Frag) (mg : Str → Option Value) (base : Heap) (C : Addr) (x y : Str) : Prop where
  cl : Cls K C
  ex : ∃ p g fd, PropOf K C x p g ∧ FnOk P w K mg base CX0 1 g fd ["self"] (getSp C y) ∧ L2.Binds K fd ["self"] []
section
variable {X : Cx} {C : Addr} {x y : Str} {e : Expr} {pos : Pos} {ta : TE}
theorem pe_pp (h : Pp X.prog X.w X.K X.mg X.base C x y) (he : PE X e ta) (hr : Room 2 X.A) (hab : attributeBase e x X.env (eval e X.env) = eval e X.env) : PE X (.Attribute e x pos) (tProp C (getSp C y) [] E0 ta) := by
  obtain ⟨c, p, g, fd, pr, G, b⟩ := h
  exact pe_prop he c pr G hr b .nil pass0 hab
end
/-- what is asked of a class for isinstance -/
structure IsC (K : PySem.W.Frag) (C : Addr) : Prop where
  yes : PySem.W.kitOne K (.ref C) (.ref C) = some true
  no : ∀ t ∈ baseTys, PySem.W.kitOne K (.type t) (.ref C) = some false
  hm : PySem.W.mroIn K C (.type "object") = some true
  htk : PySem.W.takesIn K (.builtin "object.__class__") = some true
  hn : PySem.W.specialIn K (.builtin "object.__class__") "__get__" = some (some (.builtin "getset_descriptor.__get__"))
  ha : PySem.W.findIn K (.ref C) "__class__" = some (some (.builtin "object.__class__"))
/-- a value that is none of the class at C -/
def NotC (K : PySem.W.Frag) (C : Addr) (H : Hp) (v : V) : Prop := ∃ t, TyX K H v t ∧ PySem.W.kitOne K t (.ref C) = some false
theorem VOk.notC {K : PySem.W.Frag} {C : Addr} {H : Hp} {v : V} (I : IsC K C) (h : VOk H v) : NotC K C H v := by
  obtain ⟨t, ht, tx⟩ := h.ty (K := K)
  exact ⟨_, tx, I.no t ht⟩
theorem exp_ty {K : PySem.W.Frag} {mg : Str → Option Value} {C b : Addr} {H : Hp} {t : Fm} (M : ExpC K mg C) (I : IsC K C) (m : ExpAt C H b t) : TyX K H (.ref b) (.ref C) := by
  obtain ⟨dy, v, fl, ys, k1, _⟩ := m.at_
  exact .base (.ins k1 M.cl I.ha I.hn I.htk I.hm)
section
variable {w : World} {P : Program} {base : Heap} {mg : Str → Option Value} {K : PySem.W.Frag} {aS C : Addr}
theorem scFormP : FnScope ["self"] ["self"] (defScope sFormP) := ⟨rfl, rfl, rfl, by decide +kernel, rfl, by decide +kernel, by decide +kernel⟩
theorem scFieldsP : FnScope ["self"] ["self"] (defScope sFieldsP) := ⟨rfl, rfl, rfl, by decide +kernel, rfl, by decide +kernel, by decide +kernel⟩
theorem ok_formP {f : Addr} {fd : FuncData} (F : Fun K "form" "Expression.form" sFormP f fd) (M : ExpC K mg C) : FnOk P w K mg base CX0 1 f fd ["self"] (getSp C "_form") := by
  refine F.ok scFormP (fun vs H Q E h => ?_) (fun cdv A outer s H vs Q E hr h => ?_)
  · obtain ⟨a, dx, fs, v, rfl, _⟩ := h
    rfl
  · obtain ⟨a, dx, fs, v, rfl, ha, l, q⟩ := h
    exact ⟨_, pss_one (ps_ret (pe_fld (pv 0) rfl)), _, rfl, a, C, dx, fs, v, rfl, ha, M.cl, M.nF, l, q⟩
theorem ok_fieldsP {f : Addr} {fd : FuncData} (F : Fun K "fields" "Expression.fields" sFieldsP f fd) (M : ExpC K mg C) : FnOk P w K mg base CX0 1 f fd ["self"] (getSp C "_fields") := by
  refine F.ok scFieldsP (fun vs H Q E h => ?_) (fun cdv A outer s H vs Q E hr h => ?_)
  · obtain ⟨a, dx, fs, v, rfl, _⟩ := h
    rfl
  · obtain ⟨a, dx, fs, v, rfl, ha, l, q⟩ := h
    exact ⟨_, pss_one (ps_ret (pe_fld (pv 0) rfl)), _, rfl, a, C, dx, fs, v, rfl, ha, M.cl, M.nS, l, q⟩
end
def MakesE (C : Addr) (t : Fm) (H : Hp) (Q : VK) : Prop := ∀ (p : Addr) (H' : Hp), H p = none → Same H H' → ExpAt C H' p t → Q (.ref p) H'
theorem makeE_go {C : Addr} {H : Hp} {v : V} {t : Fm} {Q : VK} {E : XK} (hm : FmAt H v t) (ok : t.Ok) (hd : t.dep ≤ 6) (q : MakesE C t H Q) : ∀ x dx, H x = none → H dx = none → dx ≠ x → spInitE C [.ref x, v] (upd (upd H dx (.own x)) x (.ins C dx [])) (fun v H2 => v = .non ∧ Q (.ref x) H2) E := by
  intro x dx nx nd ne
  have s1 : Same H (upd H dx (.own x)) := same_upd nd
  have nx1 : (upd H dx (.own x)) x = none := by rw [upd_ne (Ne.symm ne)]; exact nx
  have s2 : Same (upd H dx (.own x)) (upd (upd H dx (.own x)) x (.ins C dx [])) := same_upd nx1
  refine ⟨x, dx, v, t, rfl, upd_same, hm.same (s1.trans s2), ok, hd, fun H' k e => ⟨rfl, q x H' nx (fun b o hb => k b o (fun z => ?_) ((s1.trans s2) b o hb)) e⟩⟩
  rw [z, nx] at hb
  cases hb
end K1

namespace K1
open PySem PySem.Spec
open PyProof.Rows L2 EnT StX SmX TxS DuX
/-! ### the signs -/
def spChkE (C : Addr) : Sp := fun vs H Q _ => ∃ (b : Addr) (t : Fm), vs = [.ref b] ∧ ExpAt C H b t ∧ Q .non H
def spSign (C : Addr) : Sp := fun vs H Q _ => ∃ (z : Str) (a b : Addr) (t u : Fm), vs = [.str z, .ref a, .ref b] ∧ z ∈ signs ∧ ExpAt C H a t ∧ ExpAt C H b u ∧ t.dep ≤ 5 ∧ u.dep ≤ 5 ∧ MakesE C (.node z t u) H Q
def spOp (C : Addr) (z : Str) : Sp := fun vs H Q _ => ∃ (a b : Addr) (t u : Fm), vs = [.ref a, .ref b] ∧ ExpAt C H a t ∧ ExpAt C H b u ∧ t.dep ≤ 5 ∧ u.dep ≤ 5 ∧ MakesE C (.node z t u) H Q
theorem MakesE.after {C : Addr} {t : Fm} {H H1 : Hp} {Q : VK} (s : Same H H1) (q : MakesE C t H Q) : MakesE C t H1 Q := fun p H' np s2 m => q p H' (by
  cases e : H p with
  | none => rfl
  | some o =>
    rw [s _ _ e] at np
    cases np) (s.trans s2) m
section
variable {w : World} {P : Program} {base : Heap} {mg : Str → Option Value} {K : PySem.W.Frag} {aS C fI : Addr}
theorem scChkE : FnScope ["value"] ["value"] (defScope sChkE) := ⟨rfl, rfl, rfl, by decide +kernel, rfl, by decide +kernel, by decide +kernel⟩
theorem scSign : FnScope ["sign", "one", "other"] ["sign", "one", "other"] (defScope sSign) := ⟨rfl, rfl, rfl, by decide +kernel, rfl, by decide +kernel, by decide +kernel⟩
theorem scOrE : FnScope ["self", "other"] ["self", "other"] (defScope sOrE) := ⟨rfl, rfl, rfl, by decide +kernel, rfl, by decide +kernel, by decide +kernel⟩
theorem scAndE : FnScope ["self", "other"] ["self", "other"] (defScope sAndE) := ⟨rfl, rfl, rfl, by decide +kernel, rfl, by decide +kernel, by decide +kernel⟩
theorem scSubE : FnScope ["self", "other"] ["self", "other"] (defScope sSubE) := ⟨rfl, rfl, rfl, by decide +kernel, rfl, by decide +kernel, by decide +kernel⟩
theorem scXorE : FnScope ["self", "other"] ["self", "other"] (defScope sXorE) := ⟨rfl, rfl, rfl, by decide +kernel, rfl, by decide +kernel, by decide +kernel⟩
theorem ok_chkE {f : Addr} {fd : FuncData} (F : Fun K "check_expression" "check_expression" sChkE f fd) (T : Free mg) (M : ExpC K mg C) (I : IsC K C) : FnOk P w K mg base CX0 1 f fd ["value"] (spChkE C) := by
  refine F.ok scChkE (fun vs H Q E h => ?_) (fun cdv A outer s H vs Q E hr h => ?_)
  · obtain ⟨b, t, rfl, _⟩ := h
    rfl
  · obtain ⟨b, t, rfl, m, q⟩ := h
    refine ⟨_, pss_one (ps_if (pt_not (pt_val (pe_callB call_isi (by rfl) T.isinstance (by decide +kernel) (pa_cons (pv 0) (pa_cons (pe_glob (v := .ref C) (by rfl) M.g rfl) pa_nil))))) pss_never pss_nil), ?_⟩
    exact ⟨_, rfl, _, _, _, _, true, rfl, .own C, exp_ty M I m, I.yes, true, rfl, iteF q⟩
theorem ok_sign {f f1 : Addr} {fd : FuncData} (F : Fun K "with_sign" "with_sign" sSign f fd) (M : ExpC K mg C) (MK : Mk K C fI) (FI : FnR P w K mg base CX0 8 fI (spInitE C)) (hC : Has P w K mg base CX0 1 "check_expression" f1 ["value"] (spChkE C)) (pF : Pp P w K mg base C "form" "_form") :
    FnOk P w K mg base CX0 10 f fd ["sign", "one", "other"] (spSign C) := by
  refine F.ok scSign (fun vs H Q E h => ?_) (fun cdv A outer s H vs Q E hr h => ?_)
  · obtain ⟨z, a, b, t, u, rfl, _⟩ := h
    rfl
  · obtain ⟨z, a, b, t, u, rfl, hz, m1, m2, d1, d2, q⟩ := h
    obtain ⟨dx1, v1, fl1, ys1, h1, h2, _⟩ := m1.at_
    obtain ⟨dx2, v2, fl2, ys2, k1, k2, _⟩ := m2.at_
    refine ⟨_, pss_cons (ps_expr (pe_has hC (hr.mono (by decide)) (by rfl) pass0 (pa_cons (pv 2) pa_nil)))
      (pss_one (ps_ret (pe_makeR MK FI hr (by rfl) M.g pass0 (pa_cons (pe_tup (pa_cons (pv 0) (pa_cons (pe_pp pF (pv 1) (hr.mono (by decide)) rfl) (pa_cons (pe_pp pF (pv 2) (hr.mono (by decide)) rfl) pa_nil)))) pa_nil)))), ?_⟩
    refine ⟨_, rfl, b, u, rfl, m2, ?_⟩
    refine ⟨_, rfl, _, rfl, a, dx1, _, rfl, h1, a, dx1, _, _, rfl, h1, ef_form v1 t fl1, _, rfl, b, dx2, _, rfl, k1, b, dx2, _, _, rfl, k1, ef_form v2 u fl2, (by show 3 ≤ sizeLine; decide), fun p np => ?_⟩
    have s1 : Same H (upd H p (.tup [.str z, v1, v2])) := same_upd np
    have dd : (Fm.node z t u).dep ≤ 6 := by rw [Fm.dep_node]; omega
    exact makeE_go (.node upd_same (h2.same s1) (k2.same s1)) ⟨hz, m1.ok, m2.ok⟩ dd (q.after s1)
theorem ok_orE {f f1 : Addr} {fd : FuncData} (F : Fun K "__or__" "Expression.__or__" sOrE f fd) (hS : Has P w K mg base CX0 10 "with_sign" f1 ["sign", "one", "other"] (spSign C)) : FnOk P w K mg base CX0 11 f fd ["self", "other"] (spOp C "|") := by
  refine F.ok scOrE (fun vs H Q E h => ?_) (fun cdv A outer s H vs Q E hr h => ?_)
  · obtain ⟨a, b, t, u, rfl, _⟩ := h
    rfl
  · obtain ⟨a, b, t, u, rfl, m1, m2, d1, d2, q⟩ := h
    exact ⟨_, pss_one (ps_ret (pe_has hS hr (by rfl) pass0 (pa_cons pe_str (pa_cons (pv 0) (pa_cons (pv 1) pa_nil))))), _, rfl, _, rfl, "|", a, b, t, u, rfl, by decide +kernel, m1, m2, d1, d2, q⟩
theorem ok_andE {f f1 : Addr} {fd : FuncData} (F : Fun K "__and__" "Expression.__and__" sAndE f fd) (hS : Has P w K mg base CX0 10 "with_sign" f1 ["sign", "one", "other"] (spSign C)) : FnOk P w K mg base CX0 11 f fd ["self", "other"] (spOp C "&") := by
  refine F.ok scAndE (fun vs H Q E h => ?_) (fun cdv A outer s H vs Q E hr h => ?_)
  · obtain ⟨a, b, t, u, rfl, _⟩ := h
    rfl
  · obtain ⟨a, b, t, u, rfl, m1, m2, d1, d2, q⟩ := h
    exact ⟨_, pss_one (ps_ret (pe_has hS hr (by rfl) pass0 (pa_cons pe_str (pa_cons (pv 0) (pa_cons (pv 1) pa_nil))))), _, rfl, _, rfl, "&", a, b, t, u, rfl, by decide +kernel, m1, m2, d1, d2, q⟩
theorem ok_subE {f f1 : Addr} {fd : FuncData} (F : Fun K "__sub__" "Expression.__sub__" sSubE f fd) (hS : Has P w K mg base CX0 10 "with_sign" f1 ["sign", "one", "other"] (spSign C)) : FnOk P w K mg base CX0 11 f fd ["self", "other"] (spOp C "-") := by
  refine F.ok scSubE (fun vs H Q E h => ?_) (fun cdv A outer s H vs Q E hr h => ?_)
  · obtain ⟨a, b, t, u, rfl, _⟩ := h
    rfl
  · obtain ⟨a, b, t, u, rfl, m1, m2, d1, d2, q⟩ := h
    exact ⟨_, pss_one (ps_ret (pe_has hS hr (by rfl) pass0 (pa_cons pe_str (pa_cons (pv 0) (pa_cons (pv 1) pa_nil))))), _, rfl, _, rfl, "-", a, b, t, u, rfl, by decide +kernel, m1, m2, d1, d2, q⟩
theorem ok_xorE {f f1 : Addr} {fd : FuncData} (F : Fun K "__xor__" "Expression.__xor__" sXorE f fd) (hS : Has P w K mg base CX0 10 "with_sign" f1 ["sign", "one", "other"] (spSign C)) : FnOk P w K mg base CX0 11 f fd ["self", "other"] (spOp C "^") := by
  refine F.ok scXorE (fun vs H Q E h => ?_) (fun cdv A outer s H vs Q E hr h => ?_)
  · obtain ⟨a, b, t, u, rfl, _⟩ := h
    rfl
  · obtain ⟨a, b, t, u, rfl, m1, m2, d1, d2, q⟩ := h
    exact ⟨_, pss_one (ps_ret (pe_has hS hr (by rfl) pass0 (pa_cons pe_str (pa_cons (pv 0) (pa_cons (pv 1) pa_nil))))), _, rfl, _, rfl, "^", a, b, t, u, rfl, by decide +kernel, m1, m2, d1, d2, q⟩
end
end K1

namespace K1
open PySem PySem.Spec
open PyProof.Rows L2 EnT StX SmX TxS DuX
/-- o.m(e, .., k = v, ..): o an own object without a field m -/
def tMethK (C : Addr) (m : Str) (n j : Nat) (sp : Sp) (gV : List V → List V → List V) (E : XK) (to : TE) (ta tk : TA) : TE := fun σ H Q => to σ H fun x H1 => ∃ (a dx : Addr) (fs : List (Str × V)), x = .ref a ∧ H1 a = some (.ins C dx fs) ∧ fs.lookup m = none ∧
  ta σ H1 fun vs H2 => tk σ H2 fun zs H3 => vs.length + 1 = n ∧ zs.length = j ∧ sp (gV (.ref a :: vs) zs) H3 Q E
section
variable {X : Cx} {CX : CXT} {k n : Nat} {C f : Addr} {fd : FuncData} {ps ks : List Str} {sp : Sp} {E : XK} {m : Str} {o : Expr} {apos pos : Pos} {e : Expr} {es : List Expr} {kws : List Keyword} {to : TE} {ta tk : TA} {g : List Value → List Value → List Value} {gV : List V → List V → List V}
theorem pe_methK {pl : Sem Bool} (ho : PE X o to) (c : Cls X.K C) (hm : Meth X.K C m f) (F : FnOk X.prog X.w X.K X.mg X.base CX k f fd ps sp) (hr : Room k X.A) (hb : KBn X.K fd ps n ks g gV) (hx : Passes CX X E) (ha : PA X (e :: es) ta) (hkw : PK X kws tk)
    (hall : (backToKw pos (keywordEach kws X.env)).all (·.1.isSome) = true := by rfl) (hks : (backToKw pos (keywordEach kws X.env)).filterMap (·.1) = ks := by rfl) (hst : starEach (e :: es) X.env = (false, eval e X.env) :: starEach es X.env := by rfl)
    (hpl : ((backTo pos (starEach (e :: es) X.env)).any (·.1) || (backToKw pos (keywordEach kws X.env)).any (·.1.isNone)) = false := by rfl)
    (ht : eval (.Call (.Attribute o m apos) (e :: es) kws pos) X.env = (do
      let ov ← eval o X.env
      standAt apos.atName
      let (f, first) ← holding [ov] (getMethod ov m pl)
      callWith pos f first (backTo pos (starEach (e :: es) X.env)) (backToKw pos (keywordEach kws X.env))) := by rfl) :
    PE X (.Call (.Attribute o m apos) (e :: es) kws pos) (tMethK C m n ks.length sp gV E to ta tk) := by
  refine ⟨fun pins s σ H Q I h => ?_⟩
  refine PySem.W.methodCall_KW (pl := pl) (thn (ho.run pins s σ H _ I h) fun u s1 hu => ?_) ht
  obtain ⟨x, H1, I1, rx, a, dx, fs, ex, ea, l, q⟩ := hu
  subst ex
  obtain rfl : u = Value.ref a := rx
  refine getmeth_ok I1 ea c hm l ?_
  refine PySem.W.callWith_KW (first := [.ref a]) (h₀ := X.base) I.ok.mod.kin hm.kp hall (thn (ha.run pos pins s1 σ H1 _ I1 q) fun us s2 hv => ?_) hpl hst
  obtain ⟨vs, H2, I2, rv, q2⟩ := hv
  refine thn (hkw.run pos pins s2 σ H2 _ I2 q2) fun ws s3 hw => ?_
  obtain ⟨zs, H3, I3, rz, l1, l2, q3⟩ := hw
  refine ⟨I3.kIn, ?_⟩
  rw [hks]
  exact run_fnN (us := .ref a :: us) (vs := .ref a :: vs) F hr hb hx I3 (.cons rfl rv) rz l1 l2 q3
/-- o.m(k = v, ..) -/
theorem pe_methK0 {pl : Sem Bool} (ho : PE X o to) (c : Cls X.K C) (hm : Meth X.K C m f) (F : FnOk X.prog X.w X.K X.mg X.base CX k f fd ps sp) (hr : Room k X.A) (hb : KBn X.K fd ps n ks g gV) (hx : Passes CX X E) (hkw : PK X kws tk)
    (hall : (backToKw pos (keywordEach kws X.env)).all (·.1.isSome) = true := by rfl) (hks : (backToKw pos (keywordEach kws X.env)).filterMap (·.1) = ks := by rfl)
    (hpl : ((backTo pos (starEach [] X.env)).any (·.1) || (backToKw pos (keywordEach kws X.env)).any (·.1.isNone)) = false := by rfl)
    (ht : eval (.Call (.Attribute o m apos) [] kws pos) X.env = (do
      let ov ← eval o X.env
      standAt apos.atName
      let (f, first) ← holding [ov] (getMethod ov m pl)
      callWith pos f first (backTo pos (starEach [] X.env)) (backToKw pos (keywordEach kws X.env))) := by rfl) :
    PE X (.Call (.Attribute o m apos) [] kws pos) (tMethK C m n ks.length sp gV E to tNil tk) := by
  refine ⟨fun pins s σ H Q I h => ?_⟩
  refine PySem.W.methodCall_KW (pl := pl) (thn (ho.run pins s σ H _ I h) fun u s1 hu => ?_) ht
  obtain ⟨x, H1, I1, rx, a, dx, fs, ex, ea, l, q⟩ := hu
  subst ex
  obtain rfl : u = Value.ref a := rx
  refine getmeth_ok I1 ea c hm l ?_
  refine PySem.W.callWith_KW0 (first := [.ref a]) (h₀ := X.base) I.ok.mod.kin hm.kp hall ?_ hpl
  have q : tk σ H1 (fun zs H3 => ([] : List V).length + 1 = n ∧ zs.length = ks.length ∧ sp (gV (.ref a :: []) zs) H3 Q E) := q
  refine thn (hkw.run pos pins s1 σ H1 _ I1 q) fun ws s3 hw => ?_
  obtain ⟨zs, H3, I3, rz, l1, l2, q3⟩ := hw
  refine ⟨I3.kIn, ?_⟩
  rw [hks]
  exact run_fnN (us := [.ref a]) (vs := [.ref a]) F hr hb hx I3 (.cons rfl .nil) rz l1 l2 q3
end
end K1

namespace K1
open PySem PySem.Spec
open PyProof.Rows L2 EnT StX SmX TxS DuX ClX
/-! ### what a form comes to -/
def sgn (s : Str) (a b : Bool) : Bool := if s = "|" then a || b else if s = "&" then a && b else if s = "-" then a && !b else a != b
/-- whether somebody is in a form, g told of each leaf -/
def Fm.val (g : Str → Bool) : Fm → Bool
  | .leaf z => g z
  | .node s l r => sgn s (l.val g) (r.val g)
theorem sgn_in {s : Str} {a b : Bool} (h : sgn s a b = true) : a = true ∨ b = true := by
  unfold sgn at h
  split at h
  · simpa using h
  split at h
  · exact .inl (by simp at h; exact h.1)
  split at h
  · exact .inl (by simp at h; exact h.1)
  · cases a <;> cases b <;> simp_all
theorem Fm.val_in {g : Str → Bool} : ∀ {t : Fm}, t.val g = true → ∃ z ∈ t.lvs, g z = true
  | .leaf z, h => ⟨z, List.mem_cons_self, h⟩
  | .node s l r, h => by
    rcases sgn_in h with h | h
    · obtain ⟨z, a, b⟩ := Fm.val_in h
      exact ⟨z, List.mem_append_left _ a, b⟩
    · obtain ⟨z, a, b⟩ := Fm.val_in h
      exact ⟨z, List.mem_append_right _ a, b⟩
abbrev sgO : Str := PySem.dunder Operator.BitOr.info.2
abbrev sgA : Str := PySem.dunder Operator.BitAnd.info.2
abbrev sgS : Str := PySem.dunder Operator.Sub.info.2
abbrev sgX : Str := PySem.dunder Operator.BitXor.info.2
/-- Members with their four signs -/
structure Mo (P : Program) (w : World) (K : PySem.W.Frag) (mg : Str → Option Value) (base : Heap) (C CN CM : Addr) (mc : Value) : Prop where
  b : Mb P w K mg base C CN CM mc
  or : ∃ g, OwnM K C sgO g ∧ FnR P w K mg base (L2.CX P w) 7 g (spBinM C rOr)
  and : ∃ g, OwnM K C sgA g ∧ FnR P w K mg base (L2.CX P w) 7 g (spBinM C rAnd)
  sub : ∃ g, OwnM K C sgS g ∧ FnR P w K mg base (L2.CX P w) 7 g (spBinM C rSub)
  xor : ∃ g, OwnM K C sgX g ∧ FnR P w K mg base (L2.CX P w) 8 g (spBinM C rXor)
/-- the Members at q are those that p tells -/
structure MemV (C : Addr) (H : Hp) (q : Addr) (U : List Str) (p : Str → Bool) : Prop where
  ex : ∃ ys, MemAt C H q ys ∧ (∀ x, x ∈ ys ↔ p x = true) ∧ ∀ x ∈ ys, x ∈ U
theorem MemV.same {C : Addr} {H H' : Hp} {q : Addr} {U : List Str} {p : Str → Bool} (s : Same H H') (h : MemV C H q U p) : MemV C H' q U p := by
  obtain ⟨ys, a, b⟩ := h.ex
  exact ⟨ys, a.same s, b⟩
/-- the dict at d holds Members for these leaves -/
def TabM (C : Addr) (H : Hp) (d : Addr) (U : List Str) (g : Str → Str → Bool) (zs : List Str) : Prop := ∃ kvs, H d = some (.dK kvs) ∧ ∀ z ∈ zs, ∃ m, valV kvs (Sum.inr z : Key) = some (.ref m) ∧ MemV C H m U (g z)
theorem TabM.same {C d : Addr} {H H' : Hp} {U : List Str} {g : Str → Str → Bool} {zs : List Str} (s : Same H H') (h : TabM C H d U g zs) : TabM C H' d U g zs := by
  obtain ⟨kvs, a, b⟩ := h
  refine ⟨kvs, s _ _ a, fun z hz => ?_⟩
  obtain ⟨m, c, e⟩ := b z hz
  exact ⟨m, c, e.same s⟩
theorem TabM.sub {C d : Addr} {H : Hp} {U : List Str} {g : Str → Str → Bool} {zs ys : List Str} (h : TabM C H d U g zs) (k : ∀ z ∈ ys, z ∈ zs) : TabM C H d U g ys := by
  obtain ⟨kvs, a, b⟩ := h
  exact ⟨kvs, a, fun z hz => b z (k z hz)⟩
/-- the Members of a form -/
def GivesV (C : Addr) (H : Hp) (U : List Str) (p : Str → Bool) (Q : VK) : Prop := ∀ q H', Same H H' → MemV C H' q U p → Q (.ref q) H'
def spValue (C : Addr) (n : Nat) : Sp := fun vs H Q _ => ∃ (v : V) (t : Fm) (d : Addr) (U : List Str) (g : Str → Str → Bool), vs = [v, .ref d] ∧ FmAt H v t ∧ t.Ok ∧ t.dep ≤ n ∧ U.length ≤ 400 ∧ TabM C H d U g t.lvs ∧ GivesV C H U (fun x => t.val fun z => g z x) Q
abbrev nmVa : List Str := ["form", "table", "sign", "left", "right", "one", "other"]
theorem memv_len {C q : Addr} {H : Hp} {U ys : List Str} (m : MemAt C H q ys) (s : ∀ x ∈ ys, x ∈ U) : ys.length ≤ U.length := len_sub m.nd s
section
variable {w : World} {P : Program} {base : Heap} {mg : Str → Option Value} {K : PySem.W.Frag} {C CN CM : Addr} {mc : Value}
/-- a sign between two Members that are told -/
theorem binV_go {a b : Addr} {H : Hp} {U : List Str} {p1 p2 p : Str → Bool} {r : Prop → Prop → Prop} {Q : VK} {E : XK} (m1 : MemV C H a U p1) (m2 : MemV C H b U p2) (hU : U.length ≤ 400) (e : ∀ x, r (p1 x = true) (p2 x = true) ↔ p x = true) (ei : ∀ x, p x = true → p1 x = true ∨ p2 x = true) (q : GivesV C H U p Q) : rBinO C (spBinM C r) E (.ref a) (.ref b) H Q := by
  obtain ⟨ys, k1, k2, k3⟩ := m1.ex
  obtain ⟨zs, j1, j2, j3⟩ := m2.ex
  obtain ⟨dx, t, d, h1, _, _⟩ := k1.at_
  obtain ⟨dy, t2, d2, h2, _, _⟩ := j1.at_
  have l1 := memv_len k1 k3
  have l2 := memv_len j1 j3
  refine ⟨a, dx, _, b, dy, _, rfl, rfl, h1, h2, a, b, ys, zs, rfl, k1, j1, by omega, fun c us H' n s m MA => q c H' s ⟨us, MA, fun x => ?_, fun x hx => ?_⟩⟩
  · have mx : x ∈ us ↔ r (x ∈ ys) (x ∈ zs) := m x
    rw [mx, k2 x, j2 x]
    exact e x
  · have mx : r (x ∈ ys) (x ∈ zs) := (m x).mp hx
    rw [k2 x, j2 x] at mx
    rcases ei x ((e x).mp mx) with h | h
    · exact k3 x ((k2 x).mpr h)
    · exact j3 x ((j2 x).mpr h)
theorem scVa : FnScope nmVa ["form", "table"] (defScope s_form_value) := ⟨rfl, rfl, rfl, by decide +kernel, rfl, by decide +kernel, by decide +kernel⟩
theorem sign_ne {s : Str} (h : s ∈ signs) : (s = "|" ∨ s = "&") ∨ s = "-" ∨ s = "^" := by
  simp only [signs, List.mem_cons, List.not_mem_nil, or_false] at h
  rcases h with h | h | h | h
  · exact .inl (.inl h)
  · exact .inl (.inr h)
  · exact .inr (.inl h)
  · exact .inr (.inr h)
theorem ok_value {f : Addr} {fd : FuncData} (F : Fun K "form_value" "form_value" s_form_value f fd) (B : Mo P w K mg base C CN CM mc) (mgF : mg "form_value" = some (.ref f)) : ∀ n : Nat, FnOk P w K mg base (L2.CX P w) (n + 10) f fd ["form", "table"] (spValue C (n + 1)) := by
  have bF : L2.Binds K fd ["form", "table"] [] := F.binds (ps := ["form", "table"]) fun _ _ _ _ _ _ us hl => match us, hl with | [_, _], _ => rfl
  have T := B.b.T
  have sf := B.b.sf
  obtain ⟨gO, mO, FO⟩ := B.or
  obtain ⟨gA, mA, FA⟩ := B.and
  obtain ⟨gS, mS, FS⟩ := B.sub
  obtain ⟨gX, mX, FX⟩ := B.xor
  intro n
  induction n with
  | zero =>
    refine F.okX scVa (fun vs H Q E h => ?_) (fun cdv A outer s H vs Q E hr h => ?_)
    · obtain ⟨v, t, d, U, g, rfl, _⟩ := h
      rfl
    · obtain ⟨v, t, d, U, g, rfl, m, ok, dn, hU, tb, q⟩ := h
      refine ⟨_, pss_cons (ps_if (pt_val (pe_callB call_isi (by rfl) T.isinstance (by decide +kernel) (pa_cons (pv 0) (pa_cons (pe_bltn (v := .ty "str") (u := .type "str") (by rfl) T.str (by decide +kernel) rfl) pa_nil)))) (pss_one (ps_ret (pe_dget (hu_of hr) (pv 1) (pv 0) (fun _ _ => rfl)))) pss_nil) pss_never, ?_⟩
      cases m with
      | leaf z =>
        obtain ⟨kvs, h1, h2⟩ := tb
        obtain ⟨m, e1, e2⟩ := h2 z List.mem_cons_self
        refine ⟨_, rfl, _, _, _, _, true, rfl, .ty _, .base (.str z), kit_ty (by decide +kernel), true, rfl, iteT ⟨_, rfl, _, rfl, d, .ref m, rfl, ?_, ?_⟩⟩
        · have := DGet.k (H := H) (a := d) (kvs := kvs) (k := Sum.inr z) h1
          rw [e1] at this
          exact this
        · exact q m H (Same.refl H) e2
      | node h hl hr' =>
        rename_i a s' vl vr l' r'
        have := Fm.dep_pos l'
        rw [Fm.dep_node] at dn
        omega
  | succ n ih =>
    have hF : Has P w K mg base (L2.CX P w) (n + 10) "form_value" f ["form", "table"] (spValue C (n + 1)) := ⟨mgF, F.kp, fd, ih, bF⟩
    refine F.okX scVa (fun vs H Q E h => ?_) (fun cdv A outer s H vs Q E hr h => ?_)
    · obtain ⟨v, t, d, U, g, rfl, _⟩ := h
      rfl
    · obtain ⟨v, t, d, U, g, rfl, m, ok, dn, hU, tb, q⟩ := h
      refine ⟨_, pss_cons (ps_if (pt_val (pe_callB call_isi (by rfl) T.isinstance (by decide +kernel) (pa_cons (pv 0) (pa_cons (pe_bltn (v := .ty "str") (u := .type "str") (by rfl) T.str (by decide +kernel) rfl) pa_nil)))) (pss_one (ps_ret (pe_dget (hu_of hr) (pv 1) (pv 0) (fun _ _ => rfl)))) pss_nil)
        (pss_cons (ps_asg (pv 0) (pg_tup rfl (pgs_cons (pg_name (i := 2) scVa.nd rfl (.inl rfl)) (pgs_cons (pg_name (i := 3) scVa.nd rfl (.inl rfl)) (pgs_cons (pg_name (i := 4) scVa.nd rfl (.inl rfl)) pgs_nil)))))
        (pss_cons (ps_set (i := 5) scVa.nd rfl (.inl rfl) (pe_has hF hr (by rfl) (passes_call (takes_of rfl rfl rfl rfl) fun _ _ _ _ h => h) (pa_cons (pv 3) (pa_cons (pv 1) pa_nil))))
        (pss_cons (ps_set (i := 6) scVa.nd rfl (.inl rfl) (pe_has hF hr (by rfl) (passes_call (takes_of rfl rfl rfl rfl) fun _ _ _ _ h => h) (pa_cons (pv 4) (pa_cons (pv 1) pa_nil))))
        (pss_cons (ps_if (pt_cmpR op_eq (pv 2) pe_str (nomark _)) (pss_one (ps_ret (pe_op (op_binO mO sf FO (hr.mono (by omega)) (passes_call (takes_of rfl rfl rfl rfl) fun _ _ _ _ h => h)) (pv 5) (pv 6)))) pss_nil)
        (pss_cons (ps_if (pt_cmpR op_eq (pv 2) pe_str (nomark _)) (pss_one (ps_ret (pe_op (op_binO mA sf FA (hr.mono (by omega)) (passes_call (takes_of rfl rfl rfl rfl) fun _ _ _ _ h => h)) (pv 5) (pv 6)))) pss_nil)
        (pss_cons (ps_if (pt_cmpR op_eq (pv 2) pe_str (nomark _)) (pss_one (ps_ret (pe_op (op_binO mS sf FS (hr.mono (by omega)) (passes_call (takes_of rfl rfl rfl rfl) fun _ _ _ _ h => h)) (pv 5) (pe_op (op_binO mA sf FA (hr.mono (by omega)) (passes_call (takes_of rfl rfl rfl rfl) fun _ _ _ _ h => h)) (pv 5) (pv 6))))) pss_nil)
        (pss_one (ps_ret (pe_op (op_binO mX sf FX (hr.mono (by omega)) (passes_call (takes_of rfl rfl rfl rfl) fun _ _ _ _ h => h)) (pv 5) (pv 6)))))))))), ?_⟩
      cases m with
      | leaf z =>
        obtain ⟨kvs, h1, h2⟩ := tb
        obtain ⟨m, e1, e2⟩ := h2 z List.mem_cons_self
        refine ⟨_, rfl, _, _, _, _, true, rfl, .ty _, .base (.str z), kit_ty (by decide +kernel), true, rfl, iteT ⟨_, rfl, _, rfl, d, .ref m, rfl, ?_, ?_⟩⟩
        · have := DGet.k (H := H) (a := d) (kvs := kvs) (k := Sum.inr z) h1
          rw [e1] at this
          exact this
        · exact q m H (Same.refl H) e2
      | node h hl hr' =>
        rename_i a s' vl vr l' r'
        rw [Fm.dep_node] at dn
        refine ⟨_, rfl, _, _, _, _, false, rfl, .ty _, .base (.tup h), kit_ty (by decide +kernel), false, rfl, iteF ?_⟩
        refine ⟨_, rfl, a, _, rfl, SqT.of h, rfl, _, _, rfl, _, _, rfl, _, _, rfl, rfl, ?_⟩
        refine ⟨_, rfl, _, rfl, vl, l', d, U, g, rfl, hl, ok.2.1, by omega, hU, tb.sub (fun z hz => List.mem_append_left _ hz), fun c1 H1 s1 M1 => ?_⟩
        refine ⟨_, rfl, _, rfl, vr, r', d, U, g, rfl, hr'.same s1, ok.2.2, by omega, hU, (tb.sub (fun z hz => List.mem_append_right _ hz)).same s1, fun c2 H2 s2 M2 => ?_⟩
        have M1' := M1.same s2
        have s12 := s1.trans s2
        have fin : ∀ {p : Str → Bool}, (∀ x, p x = (Fm.node s' l' r').val fun z => g z x) → GivesV C H2 U p Q := fun {p} e c3 H3 s3 M3 => q c3 H3 (s12.trans s3) (by
          have ep : p = fun x => (Fm.node s' l' r').val fun z => g z x := funext e
          rw [← ep]
          exact M3)
        refine ⟨_, rfl, rfl, _, rfl, ?_⟩
        by_cases e1 : s' = "|"
        · rw [decide_eq_true (by rw [e1])]
          refine iteT ⟨_, rfl, _, rfl, binV_go M1' M2 hU (p := fun x => (l'.val fun z => g z x) || (r'.val fun z => g z x)) (fun x => by simp) (fun x h => by simpa using h) (fin fun x => ?_)⟩
          simp only [Fm.val, sgn, if_pos e1]
        rw [decide_eq_false (fun e => e1 (V.str.inj e))]
        refine iteF ⟨_, rfl, rfl, _, rfl, ?_⟩
        by_cases e2 : s' = "&"
        · rw [decide_eq_true (by rw [e2])]
          refine iteT ⟨_, rfl, _, rfl, binV_go M1' M2 hU (p := fun x => (l'.val fun z => g z x) && (r'.val fun z => g z x)) (fun x => by simp) (fun x h => by simp at h; exact .inl h.1) (fin fun x => ?_)⟩
          simp only [Fm.val, sgn, if_neg e1, if_pos e2]
        rw [decide_eq_false (fun e => e2 (V.str.inj e))]
        refine iteF ⟨_, rfl, rfl, _, rfl, ?_⟩
        by_cases e3 : s' = "-"
        · rw [decide_eq_true (by rw [e3])]
          refine iteT ⟨_, rfl, _, rfl, _, rfl, binV_go M1' M2 hU (p := fun x => (l'.val fun z => g z x) && (r'.val fun z => g z x)) (fun x => by simp) (fun x h => by simp at h; exact .inl h.1) fun c3 H3 s3 M3 => ?_⟩
          refine binV_go (M1'.same s3) M3 hU (p := fun x => (l'.val fun z => g z x) && !(r'.val fun z => g z x)) (fun x => ?_) (fun x h => by simp at h; exact .inl h.1) fun c4 H4 s4 M4 => fin (fun x => ?_) c4 H4 (s3.trans s4) M4
          · show (_ ∧ ¬ _) ↔ _
            cases (l'.val fun z => g z x) <;> cases (r'.val fun z => g z x) <;> simp
          · simp only [Fm.val, sgn, if_neg e1, if_neg e2, if_pos e3]
        rw [decide_eq_false (fun e => e3 (V.str.inj e))]
        refine iteF ⟨_, rfl, _, rfl, binV_go M1' M2 hU (p := fun x => (l'.val fun z => g z x) != (r'.val fun z => g z x)) (fun x => ?_) (fun x h => ?_) (fin fun x => ?_)⟩
        · show ((_ ∧ ¬ _) ∨ (_ ∧ ¬ _)) ↔ _
          cases (l'.val fun z => g z x) <;> cases (r'.val fun z => g z x) <;> simp
        · revert h
          cases (l'.val fun z => g z x) <;> cases (r'.val fun z => g z x) <;> simp
        · simp only [Fm.val, sgn, if_neg e1, if_neg e2, if_neg e3]
end
end K1

namespace K1
open PySem PySem.Spec
open PyProof.Rows L2 EnT StX SmX TxS DuX ClX
/-! ### pairs of a field and Members -/
/-- a value, and whether it is such a pair -/
inductive FsV (K : PySem.W.Frag) (C : Addr) (H : Hp) : V → Bool → Prop where
  | yes {a m : Addr} {z : Str} {ys : List Str} (h : H a = some (.tup [.str z, .ref m])) (nz : nameB z = true) (fz : fieldB z = true) (M : MemAt C H m ys) : FsV K C H (.ref a) true
  | non : FsV K C H .non false
  | one {a : Addr} {x : V} (h : H a = some (.tup [x])) : FsV K C H (.ref a) false
  | lst {a : Addr} {xs : List V} (h : H a = some (.lst xs)) : FsV K C H (.ref a) false
  | notF {a : Addr} {z : Str} {x : V} (h : H a = some (.tup [.str z, x])) (nz : nameB z = true) (fz : fieldB z = false) : FsV K C H (.ref a) false
  | notM {a : Addr} {z : Str} {x : V} (h : H a = some (.tup [.str z, x])) (nz : nameB z = true) (fz : fieldB z = true) (nx : VOk H x) : FsV K C H (.ref a) false
theorem FsV.same {K : PySem.W.Frag} {C : Addr} {H H' : Hp} {v : V} {b : Bool} (s : Same H H') (h : FsV K C H v b) : FsV K C H' v b := by
  cases h with
  | yes h nz fz M => exact .yes (s _ _ h) nz fz (M.same s)
  | non => exact .non
  | one h => exact .one (s _ _ h)
  | lst h => exact .lst (s _ _ h)
  | notF h nz fz => exact .notF (s _ _ h) nz fz
  | notM h nz fz nx => exact .notM (s _ _ h) nz fz (nx.same s)
def spFSet (K : PySem.W.Frag) (C : Addr) : Sp := fun vs H Q _ => ∃ (v : V) (b : Bool), vs = [v] ∧ FsV K C H v b ∧ ∀ H', Same H H' → Q (.bl b) H'
section
variable {w : World} {P : Program} {base : Heap} {mg : Str → Option Value} {K : PySem.W.Frag} {C CN CM : Addr} {mc : Value}
theorem scFSet : FnScope ["value"] ["value"] (defScope s_is_field_set) := ⟨rfl, rfl, rfl, by decide +kernel, rfl, by decide +kernel, by decide +kernel⟩
theorem ok_fset {f fF : Addr} {fd : FuncData} (F : Fun K "is_field_set" "is_field_set" s_is_field_set f fd) (T : Free mg) (M : MemC K mg C) (I : MemIs K C) (hF : Has P w K mg base CX0 2 "is_field" fF ["value"] spIsField) : FnOk P w K mg base CX0 3 f fd ["value"] (spFSet K C) := by
  refine F.ok scFSet (fun vs H Q E h => ?_) (fun cdv A outer s H vs Q E hr h => ?_)
  · obtain ⟨v, b, rfl, _⟩ := h
    rfl
  · obtain ⟨v, b, rfl, hv, q⟩ := h
    refine ⟨_, pss_cons (ps_if (PW.pt (pw_or (pt_not (pt_val (pe_callB call_isi (by rfl) T.isinstance (by decide +kernel) (pa_cons (pv 0) (pa_cons (pe_bltn (v := .ty "tuple") (u := .type "tuple") (by rfl) T.tuple (by decide +kernel) rfl) pa_nil))))) (pw_or1 (pt_cmpR op_ne (pe_callB call_len_seq (by rfl) T.len PySem.boot_len (pa_cons (pv 0) pa_nil)) pe_int (nomark _))))) (pss_one (ps_ret pe_bl)) pss_nil)
      (pss_one (ps_ret (pe_and (pe_has hF hr (by rfl) pass0 (pa_cons (pe_ix ix_tup (pv 0) pe_int (fun _ _ => rfl)) pa_nil)) (pe_one (pe_callB call_isi (by rfl) T.isinstance (by decide +kernel) (pa_cons (pe_ix ix_tup (pv 0) pe_int (fun _ _ => rfl)) (pa_cons (pe_glob (v := .ref C) (by rfl) M.g rfl) pa_nil))))))), ?_⟩
    cases hv with
    | non => exact ⟨_, rfl, _, _, _, _, false, rfl, .ty _, .base .non, kit_ty (by decide +kernel), false, rfl, iteT (iteT (q H (Same.refl H)))⟩
    | lst h => exact ⟨_, rfl, _, _, _, _, false, rfl, .ty _, .base (.lst h), kit_ty (by decide +kernel), false, rfl, iteT (iteT (q H (Same.refl H)))⟩
    | one h => exact ⟨_, rfl, _, _, _, _, true, rfl, .ty _, .base (.tup h), kit_ty (by decide +kernel), true, rfl, iteF ⟨_, rfl, _, _, rfl, .inr (SqT.of h), rfl, _, rfl, iteT (q H (Same.refl H))⟩⟩
    | yes h nz fz M2 =>
      rename_i a m z ys
      obtain ⟨dx2, t2, d2, k1, k2, k3⟩ := M2.at_
      refine ⟨_, rfl, _, _, _, _, true, rfl, .ty _, .base (.tup h), kit_ty (by decide +kernel), true, rfl, iteF ⟨_, rfl, _, _, rfl, .inr (SqT.of h), rfl, _, rfl, iteF ?_⟩⟩
      refine ⟨_, rfl, a, _, _, .str z, rfl, rfl, SqT.of h, atI_nat (j := 0) rfl, z, rfl, nz, fun H1 s1 => ⟨_, rfl, ?_⟩⟩
      rw [fz]
      refine iteT ⟨_, rfl, a, _, _, .ref m, rfl, rfl, SqT.of (s1 _ _ h), atI_nat (j := 1) rfl, _, _, _, _, true, rfl, .own C, .base (.ins (s1 _ _ k1) M.cl I.ha I.hn I.htk I.hm), I.yes, q H1 s1⟩
    | notF h nz fz =>
      rename_i a z x
      refine ⟨_, rfl, _, _, _, _, true, rfl, .ty _, .base (.tup h), kit_ty (by decide +kernel), true, rfl, iteF ⟨_, rfl, _, _, rfl, .inr (SqT.of h), rfl, _, rfl, iteF ?_⟩⟩
      refine ⟨_, rfl, a, _, _, .str z, rfl, rfl, SqT.of h, atI_nat (j := 0) rfl, z, rfl, nz, fun H1 s1 => ⟨_, rfl, ?_⟩⟩
      rw [fz]
      exact iteF (q H1 s1)
    | notM h nz fz nx =>
      rename_i a z x
      obtain ⟨ty, ht, tx⟩ := (nx).ty (K := K)
      refine ⟨_, rfl, _, _, _, _, true, rfl, .ty _, .base (.tup h), kit_ty (by decide +kernel), true, rfl, iteF ⟨_, rfl, _, _, rfl, .inr (SqT.of h), rfl, _, rfl, iteF ?_⟩⟩
      refine ⟨_, rfl, a, _, _, .str z, rfl, rfl, SqT.of h, atI_nat (j := 0) rfl, z, rfl, nz, fun H1 s1 => ⟨_, rfl, ?_⟩⟩
      obtain ⟨ty, ht, tx⟩ := (nx.same s1).ty (K := K)
      rw [fz]
      exact iteT ⟨_, rfl, a, _, _, x, rfl, rfl, SqT.of (s1 _ _ h), atI_nat (j := 1) rfl, _, _, _, _, false, rfl, .own C, tx, I.no ty ht, q H1 s1⟩
end
end K1

namespace K1
open PySem PySem.Spec
open PyProof.Rows L2 EnT StX SmX TxS DuX ClX
/-! ### field_sets -/
def entsE (es : List (Str × Addr)) : List (Key × V) := es.map fun e => (Sum.inr e.1, V.ref e.2)
/-- the values xs begin with pairs of these fields and Members -/
def PairsAt (C : Addr) (H : Hp) (xs : List V) (es : List (Str × Addr)) : Prop := ∀ (i : Nat) (z : Str) (m : Addr), es[i]? = some (z, m) → ∃ (b : Addr) (ys : List Str), xs[i]? = some (.ref b) ∧ H b = some (.tup [.str z, .ref m]) ∧ nameB z = true ∧ fieldB z = true ∧ MemAt C H m ys
theorem PairsAt.same {C : Addr} {H H' : Hp} {xs : List V} {es : List (Str × Addr)} (s : Same H H') (h : PairsAt C H xs es) : PairsAt C H' xs es := fun i z m e => by
  obtain ⟨b, ys, a1, a2, a3, a4, a5⟩ := h i z m e
  exact ⟨b, ys, a1, s _ _ a2, a3, a4, a5.same s⟩
/-- a value behind pairs of these fields that is refused -/
def BadAt (K : PySem.W.Frag) (C : Addr) (H : Hp) (v : V) (es : List (Str × Addr)) : Prop := FsV K C H v false ∨ ∃ (b m : Addr) (z : Str) (ys : List Str), v = .ref b ∧ H b = some (.tup [.str z, .ref m]) ∧ nameB z = true ∧ fieldB z = true ∧ MemAt C H m ys ∧ z ∈ es.map (·.1)
theorem ents_none {es : List (Str × Addr)} {z : Str} (h : z ∉ es.map (·.1)) : valV (entsE es) (Sum.inr z : Key) = none := by
  induction es with
  | nil => rfl
  | cons e r ih =>
    have he : ¬ e.1 = z := fun k => h (by rw [List.map_cons, k]; exact List.mem_cons_self)
    show valV ((Sum.inr e.1, V.ref e.2) :: entsE r) (Sum.inr z : Key) = none
    rw [valV_neg (fun k => he (Sum.inr.inj k))]
    exact ih fun k => h (by rw [List.map_cons]; exact List.mem_cons_of_mem _ k)
theorem ents_some {es : List (Str × Addr)} {z : Str} (h : z ∈ es.map (·.1)) : ∃ m, valV (entsE es) (Sum.inr z : Key) = some (.ref m) ∧ (z, m) ∈ es := by
  induction es with
  | nil => cases h
  | cons e r ih =>
    by_cases he : e.1 = z
    · refine ⟨e.2, ?_, by rw [← he]; exact List.mem_cons_self⟩
      show valV ((Sum.inr e.1, V.ref e.2) :: entsE r) (Sum.inr z : Key) = _
      unfold valV
      rw [List.find?_cons, decide_eq_true (congrArg Sum.inr he)]
      rfl
    · rw [List.map_cons] at h
      rcases List.mem_cons.mp h with k | k
      · exact absurd k.symm he
      · obtain ⟨m, a, b⟩ := ih k
        refine ⟨m, ?_, List.mem_cons_of_mem _ b⟩
        show valV ((Sum.inr e.1, V.ref e.2) :: entsE r) (Sum.inr z : Key) = _
        rw [valV_neg (fun k => he (Sum.inr.inj k))]
        exact a
def spFSets (K : PySem.W.Frag) (C CS : Addr) : Sp := fun vs H Q E => ∃ (a : Addr) (xs : List V) (es : List (Str × Addr)), vs = [.ref a] ∧ H a = some (.tup xs) ∧ PairsAt C H xs es ∧ (es.map (·.1)).Nodup ∧ xs.length ≤ 100 ∧
  ((es.length = xs.length ∧ ∀ d H', H d = none → Same H H' → H' d = some (.dK (entsE es)) → Q (.ref d) H') ∨ ∃ v, xs[es.length]? = some v ∧ BadAt K C H v es ∧ ErrAt CS "index" (.int es.length) H E)
def spFSetsL (CS : Addr) : Sp := fun vs H Q E => ∃ (a : Addr) (xs : List V), vs = [.ref a] ∧ H a = some (.lst xs) ∧ ErrAt CS "index" .non H E
abbrev nmFS : List Str := ["sets", "table", "at", "pair"]
section
variable {w : World} {P : Program} {base : Heap} {mg : Str → Option Value} {K : PySem.W.Frag} {C CN CM CS : Addr} {mc : Value}
theorem scErrS : FnScope ["self", "index"] ["self", "index"] (defScope s_InvalidSets___init__) := ⟨rfl, rfl, rfl, by decide +kernel, rfl, by decide +kernel, by decide +kernel⟩
theorem ok_errS {f C fI : Addr} {fd : FuncData} (F : Fun K "__init__" "InvalidSets.__init__" s_InvalidSets___init__ f fd) (T : ErrC K mg "InvalidSets" "index" C fI) : FnOk P w K mg base CX0 1 f fd ["self", "index"] (spErr C "index") := by
  refine F.ok scErrS (fun vs H Q E h => ?_) (fun cdv A outer s H vs Q E hr h => ?_)
  · obtain ⟨a, v, rfl, _⟩ := h
    rfl
  · obtain ⟨a, v, rfl, ha, q⟩ := h
    exact ⟨_, pss_one (ps_ost (pv 0) (pv 1)), _, rfl, _, rfl, a, C, rfl, T.ox, T.no, .inl ⟨ha, fun d nd ne => q d nd ne⟩⟩
theorem scFS : FnScope nmFS ["sets"] (defScope s_field_sets) := ⟨rfl, rfl, rfl, by decide +kernel, rfl, by decide +kernel, by decide +kernel⟩
theorem ok_fsets {f f1 fE : Addr} {fd fdE : FuncData} (F : Fun K "field_sets" "field_sets" s_field_sets f fd) (T : Free mg) (h1 : Has P w K mg base CX0 3 "is_field_set" f1 ["value"] (spFSet K C)) (ES : ErrC K mg "InvalidSets" "index" CS fE) (FE : Fun K "__init__" "InvalidSets.__init__" s_InvalidSets___init__ fE fdE) :
    FnOk P w K mg base (L2.CX P w) 5 f fd ["sets"] (spFSets K C CS) := by
  have bE : Binds K fdE ["self", "index"] [] := FE.binds (ps := ["self", "index"]) fun _ _ _ _ _ _ us hl => match us, hl with | [_, _], _ => rfl
  have GE : FnOk P w K mg base CX0 1 fE fdE ["self", "index"] (spErr CS "index") := ok_errS FE ES
  refine F.okX scFS (fun vs H Q E h => ?_) (fun cdv A outer s H vs Q E hr h => ?_)
  · obtain ⟨a, xs, es, rfl, _⟩ := h
    rfl
  · obtain ⟨a, xs, es, rfl, ha, pa, nd, hl, q⟩ := h
    refine ⟨_, pss_cons (ps_if (pt_not (pt_val (pe_callB call_isi (by rfl) T.isinstance (by decide +kernel) (pa_cons (pv 0) (pa_cons (pe_bltn (v := .ty "tuple") (u := .type "tuple") (by rfl) T.tuple (by decide +kernel) rfl) pa_nil)))))
        (pss_one (ps_raise rfl (takes_of rfl rfl rfl rfl) (pmk_oex ES.ox ES.ini ES.ty GE (hr.mono (by decide)) bE .nil pass0 rfl ES.g (pa_cons pe_non pa_nil)))) pss_nil)
      (pss_cons (ps_set (i := 1) scFS.nd rfl (.inl rfl) pe_dnewK)
      (pss_cons (ps_for (passes_of rfl) rfl (pi_enumT (by rfl) T.enumerate (pa_cons (pv 0) pa_nil)) (pg_tup rfl (pgs_cons (pg_name (i := 2) scFS.nd rfl (.inl rfl)) (pgs_cons (pg_name (i := 3) scFS.nd rfl (.inl rfl)) pgs_nil)))
        (pss_cons (ps_if (PW.pt (pw_or (pt_not (pt_val (pe_has h1 (hr.mono (by decide)) (by rfl) pass0 (pa_cons (pv 3) pa_nil)))) (pw_or1 (pt_cmp (pc_din (hu_of hr) (pe_ix ix_tup (pv 3) pe_int (fun _ _ => rfl)) (pv 1))))))
            (pss_one (ps_raise rfl (takes_of rfl rfl rfl rfl) (pmk_oex ES.ox ES.ini ES.ty GE (hr.mono (by decide)) bE .nil pass0 rfl ES.g (pa_cons (pv 2) pa_nil)))) pss_nil)
          (pss_one (ps_dput (hu_of hr) (pv 1) (pe_ix ix_tup (pv 3) pe_int (fun _ _ => rfl)) (pe_ix ix_tup (pv 3) pe_int (fun _ _ => rfl)) rfl))))
      (pss_one (ps_ret (pv 1))))), ?_⟩
    refine ⟨_, rfl, _, _, _, _, true, rfl, .ty _, .base (.tup ha), kit_ty (by decide +kernel), true, rfl, iteF ?_⟩
    refine fun d nd0 => ?_
    refine ⟨_, rfl, a, xs, rfl, SqT.of (same_upd nd0 _ _ ha), ?_⟩
    refine for_it (walk_enumT (xs := xs)) (fun i σ H' => Same H H' ∧ H' d = some (.dK (entsE (es.take i))) ∧ i ≤ es.length ∧ ∃ o2 o3 : Option V, σ = [some (.ref a), some (.ref d), o2, o3]) ?_ ?_ ?_ ?_
    · exact ⟨same_upd nd0, upd_same, Nat.zero_le _, none, none, rfl⟩
    · rintro i σ H' hi ⟨sm, _⟩
      exact SqT.of (sm _ _ ha)
    · rintro i x σ H1 H2 hi ⟨sm, hd, le, o2, o3, rfl⟩ ⟨t, y1, y2, rfl, nt, rfl, e1, e2⟩
      cases e1
      refine ⟨t, _, rfl, SqT.of upd_same, rfl, _, _, rfl, _, _, rfl, rfl, ?_⟩
      have sm2 : Same H (upd H1 t (.tup [.int (i : Nat), y2])) := sm.trans (same_upd nt)
      have hd2 : (upd H1 t (.tup [.int (i : Nat), y2])) d = some (.dK (entsE (es.take i))) := same_upd nt _ _ hd
      by_cases hlt : i < es.length
      · obtain ⟨z, m, ez⟩ : ∃ z m, es[i]? = some (z, m) := ⟨(es[i]).1, (es[i]).2, by rw [List.getElem?_eq_getElem hlt]⟩
        obtain ⟨b, ys, b1, b2, b3, b4, b5⟩ := pa i z m ez
        have e2 : xs[i]? = some y2 := e2
        rw [b1] at e2
        cases e2
        have zn : z ∉ (es.take i).map (·.1) := fun hm => by
          rw [List.map_take] at hm
          have e3 : (es.map (·.1))[i]? = some z := by rw [List.getElem?_map, ez]; rfl
          exact take_nodup_none nd e3 hm
        refine ⟨_, rfl, _, true, rfl, .yes (sm2 _ _ b2) b3 b4 (b5.same sm2), fun H3 s3 => ⟨_, rfl, iteF ?_⟩⟩
        have b2' := s3 _ _ (sm2 _ _ b2)
        refine ⟨_, rfl, b, _, _, .str z, rfl, rfl, SqT.of b2', atI_nat (j := 0) rfl, _, rfl, d, _, rfl, .k (k := Sum.inr z) (s3 _ _ hd2), ?_⟩
        rw [ents_none zn]
        refine ⟨_, rfl, iteF ?_⟩
        refine ⟨_, rfl, b, _, _, .ref m, rfl, rfl, SqT.of b2', atI_nat (j := 1) rfl, _, rfl, _, rfl, b, _, _, .str z, rfl, rfl, SqT.of b2', atI_nat (j := 0) rfl, ?_⟩
        have lt : (entsE (es.take i)).length < sizeLine := by
          unfold entsE
          rw [List.length_map, List.length_take, sizeLine_eq]
          have := (List.getElem?_eq_some_iff.mp b1).1
          omega
        refine ⟨d, _, rfl, DPut.k (k := Sum.inr z) (s3 _ _ hd2) lt, ?_⟩
        refine ⟨same_set (sm2.trans s3) nd0, ?_, hlt, _, _, rfl⟩
        rw [upd_same, putK_new _ (ents_none zn)]
        unfold entsE
        rw [List.take_add_one, ez, List.map_append]
        rfl
      · have ei : i = es.length := by omega
        subst ei
        rcases q with ⟨e3, _⟩ | ⟨v, ev, bad, qE⟩
        · have := (List.getElem?_eq_some_iff.mp e2).1
          omega
        have e2 : xs[es.length]? = some y2 := e2
        rw [ev] at e2
        cases e2
        rcases bad with bad | ⟨b, m, z, ys, rfl, b2, b3, b4, b5, b6⟩
        · refine ⟨_, rfl, _, false, rfl, bad.same sm2, fun H3 s3 => ⟨_, rfl, iteT (iteT ?_)⟩⟩
          have qE := qE.same (sm2.trans s3)
          refine ⟨_, rfl, (by show 1 ≤ 1000; decide), fun x nx => ⟨x, _, rfl, upd_same, fun d' nd' ne => ⟨rfl, d', [("index", .int (es.length : Nat))], upd_same, ?_, ?_, ?_⟩⟩⟩
          · rw [upd_ne ne, upd_same]
          · rw [upd_ne ne] at nd'
            exact nd'
          · rw [raise_heap nx ne]
            rw [upd_ne ne] at nd'
            exact qE d' H3 (Same.refl H3) nd'
        · refine ⟨_, rfl, _, true, rfl, .yes (sm2 _ _ b2) b3 b4 (b5.same sm2), fun H3 s3 => ⟨_, rfl, iteF ?_⟩⟩
          have b2' := s3 _ _ (sm2 _ _ b2)
          refine ⟨_, rfl, b, _, _, .str z, rfl, rfl, SqT.of b2', atI_nat (j := 0) rfl, _, rfl, d, _, rfl, .k (k := Sum.inr z) (s3 _ _ hd2), ?_⟩
          rw [List.take_length]
          obtain ⟨m2, e4, _⟩ := ents_some b6
          rw [e4]
          refine ⟨_, rfl, iteT ?_⟩
          have qE := qE.same (sm2.trans s3)
          refine ⟨_, rfl, (by show 1 ≤ 1000; decide), fun x nx => ⟨x, _, rfl, upd_same, fun d' nd' ne => ⟨rfl, d', [("index", .int (es.length : Nat))], upd_same, ?_, ?_, ?_⟩⟩⟩
          · rw [upd_ne ne, upd_same]
          · rw [upd_ne ne] at nd'
            exact nd'
          · rw [raise_heap nx ne]
            rw [upd_ne ne] at nd'
            exact qE d' H3 (Same.refl H3) nd'
    · rintro σ H' ⟨sm, hd, le, o2, o3, rfl⟩
      rcases q with ⟨e3, q⟩ | ⟨v, ev, _, _⟩
      · rw [← e3, List.take_length] at hd
        exact ⟨_, rfl, q d H' nd0 sm hd⟩
      · have := (List.getElem?_eq_some_iff.mp ev).1
        omega
theorem ok_fsetsL {f f1 fE : Addr} {fd fdE : FuncData} (F : Fun K "field_sets" "field_sets" s_field_sets f fd) (T : Free mg) (h1 : Has P w K mg base CX0 3 "is_field_set" f1 ["value"] (spFSet K C)) (ES : ErrC K mg "InvalidSets" "index" CS fE) (FE : Fun K "__init__" "InvalidSets.__init__" s_InvalidSets___init__ fE fdE) :
    FnOk P w K mg base (L2.CX P w) 5 f fd ["sets"] (spFSetsL CS) := by
  have bE : Binds K fdE ["self", "index"] [] := FE.binds (ps := ["self", "index"]) fun _ _ _ _ _ _ us hl => match us, hl with | [_, _], _ => rfl
  have GE : FnOk P w K mg base CX0 1 fE fdE ["self", "index"] (spErr CS "index") := ok_errS FE ES
  refine F.okX scFS (fun vs H Q E h => ?_) (fun cdv A outer s H vs Q E hr h => ?_)
  · obtain ⟨a, xs, rfl, _⟩ := h
    rfl
  · obtain ⟨a, xs, rfl, ha, qE⟩ := h
    refine ⟨_, pss_cons (ps_if (pt_not (pt_val (pe_callB call_isi (by rfl) T.isinstance (by decide +kernel) (pa_cons (pv 0) (pa_cons (pe_bltn (v := .ty "tuple") (u := .type "tuple") (by rfl) T.tuple (by decide +kernel) rfl) pa_nil)))))
        (pss_one (ps_raise rfl (takes_of rfl rfl rfl rfl) (pmk_oex ES.ox ES.ini ES.ty GE (hr.mono (by decide)) bE .nil pass0 rfl ES.g (pa_cons pe_non pa_nil)))) pss_nil) pss_never, ?_⟩
    refine ⟨_, rfl, _, _, _, _, false, rfl, .ty _, .base (.lst ha), kit_ty (by decide +kernel), false, rfl, iteT ?_⟩
    refine ⟨(by show 1 ≤ 1000; decide), fun x nx => ⟨x, _, rfl, upd_same, fun d' nd' ne => ⟨rfl, d', [("index", .non)], upd_same, ?_, ?_, ?_⟩⟩⟩
    · rw [upd_ne ne, upd_same]
    · rw [upd_ne ne] at nd'
      exact nd'
    · rw [raise_heap nx ne]
      rw [upd_ne ne] at nd'
      exact qE d' H (Same.refl H) nd'
end
end K1

namespace K1
open PySem PySem.Spec
open PyProof.Rows L2 EnT StX SmX TxS DuX ClX
/-! ### all_sets -/
theorem rz_err {C : Addr} {f : Str} {v : V} {H : Hp} {Q : XK} (q : ErrAt C f v H Q) : [v].length ≤ 1000 ∧ ∀ a, H a = none → spErr C f (.ref a :: ([v] ++ [])) (upd H a (exo a C none))
    (fun v H2 => v = .non ∧ ∃ (d : Addr) (fs : List (Str × V)), H2 a = some (exo a C (some d)) ∧ H2 d = some (exd d fs) ∧ H d = none ∧ Q (.ref C) (some d) (upd (del H2 a) d (.xd fs))) (fun _ _ _ => False) := by
  refine ⟨(by show 1 ≤ 1000; decide), fun x nx => ⟨x, _, rfl, upd_same, fun d nd ne => ⟨rfl, d, [(f, v)], upd_same, ?_, ?_, ?_⟩⟩⟩
  · rw [upd_ne ne, upd_same]
  · rw [upd_ne ne] at nd
    exact nd
  · rw [raise_heap nx ne]
    rw [upd_ne ne] at nd
    exact q d H (Same.refl H) nd
theorem ErrAt.after {C : Addr} {f : Str} {v : V} {H H' : Hp} {Q : XK} (s : Same H H') (q : ErrAt C f v H Q) : ErrAt C f v H' Q := q.same s
def spOr (a b : Sp) : Sp := fun vs H Q E => a vs H Q E ∨ b vs H Q E
theorem FnOk.or {P : Program} {w : World} {K : PySem.W.Frag} {mg : Str → Option Value} {base : Heap} {CX : CXT} {k : Nat} {f : Addr} {fd : FuncData} {ps : List Str} {a b : Sp} (F : FnOk P w K mg base CX k f fd ps a) (G : FnOk P w K mg base CX k f fd ps b) : FnOk P w K mg base CX k f fd ps (spOr a b) :=
  ⟨fun vs H Q E h => h.elim (F.len vs H Q E) (G.len vs H Q E), fun A outer s H args us vs Q E hr e0 hb r h => h.elim (F.run A outer s H args us vs Q E hr e0 hb r) (G.run A outer s H args us vs Q E hr e0 hb r)⟩
/-- who is given: None, Members, or neither -/
inductive GvV (C : Addr) (H : Hp) : V → Option Bool → Prop where
  | non : GvV C H .non none
  | mem {m : Addr} {ys : List Str} (M : MemAt C H m ys) : GvV C H (.ref m) (some true)
  | odd {v : V} (n : v ≠ .non) (o : VOk H v) : GvV C H v (some false)
def spChkG (C CM : Addr) : Sp := spOr (spChkY C) (spChkN CM)
/-- the sets are pairs of these fields and Members, or else the error that is due -/
def SetsAt (K : PySem.W.Frag) (C CS : Addr) (H : Hp) (v : V) (es : List (Str × Addr)) (E : XK) (R : Prop) : Prop :=
  (∃ (a : Addr) (xs : List V), v = .ref a ∧ H a = some (.lst xs) ∧ ErrAt CS "index" .non H E) ∨
  (∃ (a : Addr) (xs : List V), v = .ref a ∧ H a = some (.tup xs) ∧ PairsAt C H xs es ∧ (es.map (·.1)).Nodup ∧ xs.length ≤ 100 ∧ ((es.length = xs.length ∧ R) ∨ ∃ y, xs[es.length]? = some y ∧ BadAt K C H y es ∧ ErrAt CS "index" (.int es.length) H E))
def entsG (es : List (Str × Addr)) (m0 : Addr) (g : V) : List (Key × V) := entsE es ++ [(Sum.inr tNone, .ref m0)] ++ [(Sum.inr tGiven, g)]
def spAll (K : PySem.W.Frag) (C CS CM CU : Addr) : Sp := fun vs H Q E => ∃ (fl : Addr) (v g : V) (fs : List Str) (es : List (Str × Addr)) (b : Option Bool), vs = [.ref fl, v, g] ∧ H fl = some (.tup (fs.map V.str)) ∧ (∀ z ∈ fs, nameB z = true) ∧ fs.length ≤ 1000 ∧ GvV C H g b ∧
  SetsAt K C CS H v es E (
    (b = some false ∧ ErrAt CM "value" g H E) ∨
    (b ≠ some false ∧ ∃ z i, fs[i]? = some z ∧ (∀ y ∈ fs.take i, y ∈ es.map (·.1)) ∧ z ∉ es.map (·.1) ∧ ErrAt CU "value" (.str z) H E) ∨
    (b ≠ some false ∧ (∀ z ∈ fs, z ∈ es.map (·.1)) ∧ es ≠ [] ∧ ∀ d m0 g' H', Same H H' → MemAt C H' m0 [] → (g' = g ∧ b = some true ∨ b = none ∧ ∃ m1, g' = .ref m1 ∧ MemAt C H' m1 []) → H' d = some (.dK (entsG es m0 g')) → Q (.ref d) H'))
theorem emp_nil {ys : List Str} (h : ∀ z, z ∈ ys ↔ z ∈ ([] : List Str)) : ys = [] := List.eq_nil_iff_forall_not_mem.mpr fun z hz => by cases (h z).mp hz
theorem mk_nil {K : PySem.W.Frag} {C CN : Addr} {H : Hp} {σ : L2.St} {Q : VK} {E : XK} (h : ∀ m1 H2, Same H H2 → MemAt C H2 m1 [] → Q (.ref m1) H2) : tMakeR C (spInitR K C CN) E tNil σ H Q :=
  make_of (mk_names (zs := []) (fun z hz => by cases hz) (by decide) fun m1 y1 H2 _ s2 e3 M1 => by
    have q1 := emp_nil e3
    subst q1
    exact h m1 H2 s2 M1)
/-- the loop over the fields -/
theorem as_loop {K : PySem.W.Frag} {CU fl a d : Addr} {g : V} {fs : List Str} {es : List (Str × Addr)} {H : Hp} {E : XK} {o4 : Option V} {D : Ends} (hfl : H fl = some (.tup (fs.map V.str))) (hd : H d = some (.dK (entsE es)))
    (q : (∃ z i, fs[i]? = some z ∧ (∀ y ∈ fs.take i, y ∈ es.map (·.1)) ∧ z ∉ es.map (·.1) ∧ ErrAt CU "value" (.str z) H E) ∨ ((∀ z ∈ fs, z ∈ es.map (·.1)) ∧ ∀ o, D.nx [some (.ref fl), some (.ref a), some g, some (.ref d), o] H)) :
    tFor (iTup K (tVar 0)) (gName 4) (tIfS (tB (tDNotIn (tVar 4) (tVar 3))) (fun x σ H => tMkO CU (spErr CU "value") [] (tCons (tVar 4) tNil) σ H fun cls d H' => E cls d H') tNext) D [some (.ref fl), some (.ref a), some g, some (.ref d), o4] H := by
  refine ⟨_, rfl, fl, rfl, ⟨_, SqT.of hfl⟩, ?_⟩
  refine for_it (walk_tup (xs := fs.map V.str)) (fun i σ H' => H' = H ∧ (∀ y ∈ fs.take i, y ∈ es.map (·.1)) ∧ ∃ o, σ = [some (.ref fl), some (.ref a), some g, some (.ref d), o]) ?_ ?_ ?_ ?_
  · exact ⟨rfl, fun y hy => by simp at hy, _, rfl⟩
  · rintro i σ H' _ ⟨rfl, _⟩
    exact SqT.of hfl
  · rintro i x σ H1 H2 hi ⟨rfl, ht, o, rfl⟩ y
    obtain ⟨rfl, ey⟩ := y
    obtain ⟨z, ez, rfl⟩ : ∃ z, fs[i]? = some z ∧ x = V.str z := by
      rw [List.getElem?_map] at ey
      cases e : fs[i]? with
      | none => rw [e] at ey; cases ey
      | some z => rw [e] at ey; exact ⟨z, rfl, (Option.some.inj ey).symm⟩
    refine ⟨_, rfl, _, rfl, d, _, rfl, DGet.k (k := Sum.inr z) hd, ?_⟩
    by_cases hm : z ∈ es.map (·.1)
    · obtain ⟨m, e1, _⟩ := ents_some hm
      rw [e1]
      refine ⟨_, rfl, iteF ?_⟩
      refine ⟨rfl, fun y hy => ?_, _, rfl⟩
      rw [List.take_add_one, ez] at hy
      rcases List.mem_append.mp hy with h | h
      · exact ht y h
      · have : y = z := by simpa using h
        rw [this]
        exact hm
    · rw [ents_none hm]
      refine ⟨_, rfl, iteT ?_⟩
      rcases q with ⟨z', i', e1, e2, e3, e4⟩ | ⟨e1, _⟩
      · have hi' : i' = i := by
          rcases Nat.lt_trichotomy i' i with h | h | h
          · exact absurd (ht z' (by rw [List.mem_iff_getElem?]; exact ⟨i', by rw [List.getElem?_take, if_pos h]; exact e1⟩)) e3
          · exact h
          · exact absurd (e2 z (by rw [List.mem_iff_getElem?]; exact ⟨i, by rw [List.getElem?_take, if_pos h]; exact ez⟩)) hm
        subst hi'
        rw [ez] at e1
        cases e1
        exact ⟨_, rfl, rz_err e4⟩
      · exact absurd (e1 z (List.mem_iff_getElem?.mpr ⟨i, ez⟩)) hm
  · rintro σ H' ⟨rfl, ht, o, rfl⟩
    rcases q with ⟨z', i', e1, e2, e3, e4⟩ | ⟨_, e2⟩
    · exact absurd (ht z' (by rw [List.length_map, List.take_length]; exact List.mem_iff_getElem?.mpr ⟨i', e1⟩)) e3
    · exact e2 o
theorem fld_ne {z : Str} (h : fieldB z = true) : z ≠ tNone ∧ z ≠ tGiven := by
  unfold fieldB at h
  exact ⟨(of_decide_eq_true h).2, (of_decide_eq_true h).1⟩
theorem ents_put {es : List (Str × Addr)} {m0 : Addr} {g : V} (h : ∀ z ∈ es.map (·.1), fieldB z = true) : putK (entsE es) (Sum.inr tNone : Key) (.ref m0) = entsE es ++ [(Sum.inr tNone, .ref m0)] ∧ putK (entsE es ++ [((Sum.inr tNone : Key), V.ref m0)]) (Sum.inr tGiven : Key) g = entsG es m0 g := by
  have a1 : valV (entsE es) (Sum.inr tNone : Key) = none := ents_none fun k => (fld_ne (h _ k)).1 rfl
  have a2 : valV (entsE es) (Sum.inr tGiven : Key) = none := ents_none fun k => (fld_ne (h _ k)).2 rfl
  refine ⟨putK_new _ a1, ?_⟩
  unfold entsG
  refine putK_new _ ?_
  rw [valV_snoc _ _ _ _ a1, if_neg (by decide +kernel), a2]
theorem MemAt.put {C p d : Addr} {H : Hp} {kvs : List (Key × V)} {o : HO} (hd : H d = some (.dK kvs)) (ne : kvs ≠ []) (m : MemAt C H p []) : MemAt C (upd H d o) p [] := by
  obtain ⟨⟨dx, t, d', h1, h2, h3⟩, b, c, e, f⟩ := m
  refine ⟨⟨dx, t, d', ?_, ?_, ?_⟩, b, c, e, f⟩
  · rw [upd_ne (fun z => by rw [z, hd] at h1; cases h1)]
    exact h1
  · rw [upd_ne (fun z => by rw [z, hd] at h2; cases h2)]
    exact h2
  · rw [upd_ne (fun z => by rw [z, hd] at h3; cases h3; exact ne rfl)]
    exact h3
/-- none and given -/
theorem as_puts {K : PySem.W.Frag} {C CN fl a d : Addr} {g : V} {b : Option Bool} {es : List (Str × Addr)} {H H1 : Hp} {Q : VK} {E : XK} {o4 : Option V} {n : L2.St → Hp → Prop} (n0 : H d = none) (s1 : Same H H1) (hd : H1 d = some (.dK (entsE es))) (hf : ∀ z ∈ es.map (·.1), fieldB z = true) (hl : es.length ≤ 100) (he : es ≠ [])
    (hg : GvV C H g b) (nb : b ≠ some false)
    (q : ∀ m0 g' H', Same H H' → MemAt C H' m0 [] → (g' = g ∧ b = some true ∨ b = none ∧ ∃ m1, g' = .ref m1 ∧ MemAt C H' m1 []) → H' d = some (.dK (entsG es m0 g')) → Q (.ref d) H') :
    tSeq (sDPut (tVar 3) (tC (.str tNone)) (tMakeR C (spInitR K C CN) E tNil)) (tSeq (sDPut (tVar 3) (tC (.str tGiven)) (tIf (tB (tIsN (tVar 2))) (tMakeR C (spInitR K C CN) E tNil) (tVar 2))) (tRet (tVar 3))) { nx := n, rt := Q } [some (.ref fl), some (.ref a), some g, some (.ref d), o4] H1 := by
  have p1 : ∀ m0, putK (entsE es) (Sum.inr tNone : Key) (.ref m0) = entsE es ++ [(Sum.inr tNone, .ref m0)] := fun m0 => (ents_put (g := .non) hf).1
  have p2 : ∀ m0 g, putK (entsE es ++ [((Sum.inr tNone : Key), V.ref m0)]) (Sum.inr tGiven : Key) g = entsG es m0 g := fun m0 g => (ents_put hf).2
  have e1 : entsE es ≠ [] := by
    unfold entsE
    simpa using he
  have l1 : (entsE es).length ≤ 100 := by
    unfold entsE
    rw [List.length_map]
    exact hl
  unfold tSeq sDPut
  refine mk_nil fun m0 H2 s2 M0 => ?_
  have hd2 := s2 _ _ hd
  refine ⟨_, rfl, d, _, rfl, DPut.k (k := Sum.inr tNone) hd2 (by rw [sizeLine_eq]; omega), ?_⟩
  rw [p1]
  have sA : Same H (upd H2 d (.dK (entsE es ++ [(Sum.inr tNone, V.ref m0)]))) := same_set (s1.trans s2) n0
  have MA := M0.put (o := .dK (entsE es ++ [(Sum.inr tNone, V.ref m0)])) hd2 e1
  have hdA : (upd H2 d (.dK (entsE es ++ [((Sum.inr tNone : Key), V.ref m0)]))) d = some (.dK (entsE es ++ [((Sum.inr tNone : Key), V.ref m0)])) := upd_same
  generalize upd H2 d (.dK (entsE es ++ [((Sum.inr tNone : Key), V.ref m0)])) = HA at sA MA hdA ⊢
  have l2 : (entsE es ++ [((Sum.inr tNone : Key), V.ref m0)]).length < sizeLine := by
    rw [sizeLine_eq, List.length_append]
    show (entsE es).length + 1 < _
    omega
  have e2 : entsE es ++ [((Sum.inr tNone : Key), V.ref m0)] ≠ [] := by simp
  cases hg with
  | odd n o => exact absurd rfl nb
  | non =>
    refine ⟨_, rfl, _, rfl, iteT ?_⟩
    refine mk_nil fun m1 HB sB M1 => ?_
    refine ⟨_, rfl, d, _, rfl, DPut.k (k := Sum.inr tGiven) (sB _ _ hdA) l2, ?_⟩
    rw [p2]
    exact ⟨_, rfl, q m0 _ _ (same_set (sA.trans sB) n0) ((MA.same sB).put (sB _ _ hdA) e2) (.inr ⟨rfl, m1, rfl, M1.put (sB _ _ hdA) e2⟩) upd_same⟩
  | mem M =>
    refine ⟨_, rfl, _, rfl, iteF ?_⟩
    refine ⟨_, rfl, _, rfl, d, _, rfl, DPut.k (k := Sum.inr tGiven) hdA l2, ?_⟩
    rw [p2]
    exact ⟨_, rfl, q m0 _ _ (same_set sA n0) (MA.put hdA e2) (.inl ⟨rfl, rfl⟩) upd_same⟩
abbrev nmAS : List Str := ["fields", "sets", "given", "table", "field"]
section
variable {w : World} {P : Program} {base : Heap} {mg : Str → Option Value} {K : PySem.W.Frag} {C CN CM CS CU aS : Addr} {mc : Value}
theorem scAS : FnScope nmAS ["fields", "sets", "given"] (defScope s_all_sets) := ⟨rfl, rfl, rfl, by decide +kernel, rfl, by decide +kernel, by decide +kernel⟩
theorem scErrU : FnScope ["self", "value"] ["self", "value"] (defScope s_UnknownField___init__) := ⟨rfl, rfl, rfl, by decide +kernel, rfl, by decide +kernel, by decide +kernel⟩
theorem ok_errU {f C fI : Addr} {fd : FuncData} (F : Fun K "__init__" "UnknownField.__init__" s_UnknownField___init__ f fd) (T : ErrC K mg "UnknownField" "value" C fI) : FnOk P w K mg base CX0 1 f fd ["self", "value"] (spErr C "value") := by
  refine F.ok scErrU (fun vs H Q E h => ?_) (fun cdv A outer s H vs Q E hr h => ?_)
  · obtain ⟨a, v, rfl, _⟩ := h
    rfl
  · obtain ⟨a, v, rfl, ha, q⟩ := h
    exact ⟨_, pss_one (ps_ost (pv 0) (pv 1)), _, rfl, _, rfl, a, C, rfl, T.ox, T.no, .inl ⟨ha, fun d nd ne => q d nd ne⟩⟩
theorem ok_allsets {f f1 f2 fE fI : Addr} {fd fdE : FuncData} (F : Fun K "all_sets" "all_sets" s_all_sets f fd) (G : Gf K mg aS)
    (h1 : Has P w K mg base (L2.CX P w) 5 "field_sets" f1 ["sets"] (spOr (spFSets K C CS) (spFSetsL CS))) (h2 : Has P w K mg base (L2.CX P w) 3 "check_members" f2 ["value"] (spChkG C CM))
    (M : MemC K mg C) (MK : Mk K C fI) (FI : FnR P w K mg base (L2.CX P w) 4 fI (spInitR K C CN))
    (EU : ErrC K mg "UnknownField" "value" CU fE) (FE : Fun K "__init__" "UnknownField.__init__" s_UnknownField___init__ fE fdE) :
    FnOk P w K mg base (L2.CX P w) 7 f fd ["fields", "sets", "given"] (spAll K C CS CM CU) := by
  have bE : Binds K fdE ["self", "value"] [] := FE.binds (ps := ["self", "value"]) fun _ _ _ _ _ _ us hl => match us, hl with | [_, _], _ => rfl
  have GE : FnOk P w K mg base CX0 1 fE fdE ["self", "value"] (spErr CU "value") := ok_errU FE EU
  obtain ⟨tg, hg⟩ := G.gv
  obtain ⟨tn, hn⟩ := G.nn
  refine F.okX scAS (fun vs H Q E h => ?_) (fun cdv A outer s H vs Q E hr h => ?_)
  · obtain ⟨fl, v, g, fs, es, b, rfl, _⟩ := h
    rfl
  · obtain ⟨fl, v, g, fs, es, b, rfl, hfl, hfn, hll, hgv, hs⟩ := h
    refine ⟨_, pss_cons (ps_set (i := 3) scAS.nd rfl (.inl rfl) (pe_has h1 (hr.mono (by decide)) (by rfl) (passes_call (takes_of rfl rfl rfl rfl) fun _ _ _ _ h => h) (pa_cons (pv 1) pa_nil)))
      (pss_cons (ps_if (pt_cmp (pc_notN (pv 2))) (pss_one (ps_expr (pe_has h2 (hr.mono (by decide)) (by rfl) (passes_call (takes_of rfl rfl rfl rfl) fun _ _ _ _ h => h) (pa_cons (pv 2) pa_nil)))) pss_nil)
      (pss_cons (ps_for (passes_of rfl) rfl (pi_tup (pv 0)) (pg_name (i := 4) scAS.nd rfl (.inl rfl))
        (pss_one (ps_if (pt_cmp (pc_dnotin (hu_of hr) (pv 4) (pv 3)))
          (pss_one (ps_raise rfl (takes_of rfl rfl rfl rfl) (pmk_oex EU.ox EU.ini EU.ty GE (hr.mono (by decide)) bE .nil pass0 rfl EU.g (pa_cons (pv 4) pa_nil)))) pss_nil)))
      (pss_cons (ps_dput (hu_of hr) (pv 3) (pe_glob (v := .str tNone) (by rfl) hn ⟨_, rfl⟩) (pe_makeR0 MK FI (hr.mono (by decide)) (by rfl) M.g (passes_call (takes_of rfl rfl rfl rfl) fun _ _ _ _ h => h)) rfl)
      (pss_cons (ps_dput (hu_of hr) (pv 3) (pe_glob (v := .str tGiven) (by rfl) hg ⟨_, rfl⟩) (pe_ifExp (pt_cmp (pc_isN (pv 2))) (pe_makeR0 MK FI (hr.mono (by decide)) (by rfl) M.g (passes_call (takes_of rfl rfl rfl rfl) fun _ _ _ _ h => h)) (pv 2)) rfl)
      (pss_one (ps_ret (pv 3))))))), ?_⟩
    rcases hs with ⟨a, xs, rfl, ha, qE⟩ | ⟨a, xs, rfl, ha, pa, nd, hl, hs⟩
    · refine ⟨_, rfl, .inr ⟨a, xs, rfl, ha, qE⟩⟩
    · refine ⟨_, rfl, .inl ⟨a, xs, es, rfl, ha, pa, nd, hl, ?_⟩⟩
      rcases hs with ⟨el, hs⟩ | hs
      · refine .inl ⟨el, fun d H1 nd1 s1 hd => ?_⟩
        have hf : ∀ z ∈ es.map (·.1), fieldB z = true := fun z hz => by
          obtain ⟨i, e⟩ := List.mem_iff_getElem?.mp hz
          rw [List.getElem?_map] at e
          cases e2 : es[i]? with
          | none => rw [e2] at e; cases e
          | some zm =>
            rw [e2] at e
            obtain ⟨z', m⟩ := zm
            cases Option.some.inj e
            obtain ⟨_, _, _, _, _, h5, _⟩ := pa i z' m e2
            exact h5
        have tail : ∀ (H2 : Hp) (nb : b ≠ some false), Same H1 H2 → tSeq (tFor (iTup K (tVar 0)) (gName 4) (tIfS (tB (tDNotIn (tVar 4) (tVar 3))) (fun x σ H => tMkO CU (spErr CU "value") [] (tCons (tVar 4) tNil) σ H fun cls d H' => E cls d H') tNext))
            (tSeq (sDPut (tVar 3) (tC (.str tNone)) (tMakeR C (spInitR K C CN) E tNil)) (tSeq (sDPut (tVar 3) (tC (.str tGiven)) (tIf (tB (tIsN (tVar 2))) (tMakeR C (spInitR K C CN) E tNil) (tVar 2))) (tRet (tVar 3)))) { nx := fun x H' => Q V.non H', rt := Q } [some (.ref fl), some (.ref a), some g, some (.ref d), none] H2 := fun H2 nb s2 => by
          have sm := s1.trans s2
          refine as_loop (sm _ _ hfl) (s2 _ _ hd) ?_
          rcases hs with ⟨e1, _⟩ | ⟨_, z, i, e1, e2, e3, e4⟩ | ⟨_, e1, hne, e2⟩
          · exact absurd e1 nb
          · exact .inl ⟨z, i, e1, e2, e3, e4.same sm⟩
          · exact .inr ⟨e1, fun o => as_puts nd1 sm (s2 _ _ hd) hf (by omega) hne hgv nb (e2 d)⟩
        cases hgv with
        | non => exact ⟨_, rfl, _, rfl, iteF (tail H1 (by simp) (Same.refl H1))⟩
        | mem M =>
          refine ⟨_, rfl, _, rfl, iteT ?_⟩
          refine ⟨_, rfl, .inl ⟨_, _, rfl, M.same s1, ?_⟩⟩
          exact tail H1 (by simp) (Same.refl H1)
        | odd n o =>
          refine ⟨_, rfl, _, rfl, ?_⟩
          rw [decide_eq_false n]
          refine iteT ?_
          rcases hs with ⟨_, e⟩ | ⟨h, _⟩ | ⟨h, _⟩
          · exact ⟨_, rfl, .inr ⟨_, rfl, o.same s1, e.same s1⟩⟩
          · exact absurd rfl h
          · exact absurd rfl h
      · exact .inr hs
end
end K1

namespace K1
open PySem PySem.Spec
open PyProof.Rows L2 EnT StX SmX TxS DuX ClX
/-! ### the Members of an expression -/
/-- who is at a leaf -/
def lkG (gp : Str → Bool) (fg : Str → Str → Bool) (z x : Str) : Bool := if z = tNone then false else if z = tGiven then gp x else fg z x
def spOf (K : PySem.W.Frag) (CE C CS CM CU : Addr) : Sp := fun vs H Q E => ∃ (e : Addr) (v g : V) (t : Fm) (es : List (Str × Addr)) (b : Option Bool), vs = [.ref e, v, g] ∧ ExpAt CE H e t ∧ GvV C H g b ∧
  SetsAt K C CS H v es E (
    (b = some false ∧ ErrAt CM "value" g H E) ∨
    (b ≠ some false ∧ ∀ ys : List Str, sortedS ys = true → ys.Nodup → (∀ z, z ∈ ys ↔ z ∈ t.lvs ∧ fieldB z = true) → ∃ z i, ys[i]? = some z ∧ (∀ y ∈ ys.take i, y ∈ es.map (·.1)) ∧ z ∉ es.map (·.1) ∧ ErrAt CU "value" (.str z) H E) ∨
    (b ≠ some false ∧ (∀ z ∈ t.lvs, fieldB z = true → z ∈ es.map (·.1)) ∧ es ≠ [] ∧ ∃ (U : List Str) (gp : Str → Bool) (fg : Str → Str → Bool), U.length ≤ 400 ∧ (∀ z m, (z, m) ∈ es → MemV C H m U (fg z)) ∧
      (b = some true → ∃ m, g = .ref m ∧ MemV C H m U gp) ∧ (b = none → gp = fun _ => false) ∧ GivesV C H U (fun x => t.val fun z => lkG gp fg z x) Q))
theorem PairsAt.fld {C : Addr} {H : Hp} {xs : List V} {es : List (Str × Addr)} (pa : PairsAt C H xs es) : ∀ z ∈ es.map (·.1), fieldB z = true := fun z hz => by
  obtain ⟨i, e⟩ := List.mem_iff_getElem?.mp hz
  rw [List.getElem?_map] at e
  cases e2 : es[i]? with
  | none => rw [e2] at e; cases e
  | some zm =>
    rw [e2] at e
    obtain ⟨z', m⟩ := zm
    cases Option.some.inj e
    obtain ⟨_, _, _, _, _, h5, _⟩ := pa i z' m e2
    exact h5
theorem SetsAt.imp {K : PySem.W.Frag} {C CS : Addr} {H : Hp} {v : V} {es : List (Str × Addr)} {E : XK} {R R' : Prop} (k : (∀ z ∈ es.map (·.1), fieldB z = true) → R → R') : SetsAt K C CS H v es E R → SetsAt K C CS H v es E R'
  | .inl h => .inl h
  | .inr ⟨a, xs, h1, h2, h3, h4, h5, .inl ⟨e, r⟩⟩ => .inr ⟨a, xs, h1, h2, h3, h4, h5, .inl ⟨e, k h3.fld r⟩⟩
  | .inr ⟨a, xs, h1, h2, h3, h4, h5, .inr h⟩ => .inr ⟨a, xs, h1, h2, h3, h4, h5, .inr h⟩
theorem ents_look {es : List (Str × Addr)} {m0 : Addr} {g : V} (h : ∀ z ∈ es.map (·.1), fieldB z = true) (z : Str) : valV (entsG es m0 g) (Sum.inr z : Key) = if z = tGiven then some g else if z = tNone then some (.ref m0) else valV (entsE es) (Sum.inr z) := by
  have a1 : valV (entsE es) (Sum.inr tNone : Key) = none := ents_none fun k => (fld_ne (h _ k)).1 rfl
  have a2 : valV (entsE es) (Sum.inr tGiven : Key) = none := ents_none fun k => (fld_ne (h _ k)).2 rfl
  have a3 : valV (entsE es ++ [((Sum.inr tNone : Key), V.ref m0)]) (Sum.inr tGiven : Key) = none := by
    rw [valV_snoc _ _ _ _ a1, if_neg (by decide +kernel), a2]
  unfold entsG
  rw [valV_snoc _ _ _ _ a3, valV_snoc _ _ _ _ a1]
  by_cases e : z = tGiven
  · rw [if_pos e, if_pos (congrArg Sum.inr e)]
  · rw [if_neg e, if_neg (fun k => e (Sum.inr.inj k))]
    by_cases e2 : z = tNone
    · rw [if_pos e2, if_pos (congrArg Sum.inr e2)]
    · rw [if_neg e2, if_neg (fun k => e2 (Sum.inr.inj k))]
abbrev s_of : Stmt := s_Expression_of
section
variable {w : World} {P : Program} {base : Heap} {mg : Str → Option Value} {K : PySem.W.Frag} {CE C CN CM CS CU aS : Addr} {mc : Value}
theorem scOf : FnScope ["self", "sets", "given"] ["self", "sets", "given"] (defScope s_of) := ⟨rfl, rfl, rfl, by decide +kernel, rfl, by decide +kernel, by decide +kernel⟩
theorem memv_nil {H : Hp} {m : Addr} {U : List Str} (M : MemAt C H m []) : MemV C H m U fun _ => false := ⟨[], M, fun x => by simp, fun x h => by cases h⟩
theorem ok_of {f fV fA : Addr} {fd : FuncData} (F : FunD K "of" "Expression.of" (defArgs s_of) (defBody s_of) (defScope s_of) [] [("given", .non)] f fd) (M : ExpC K mg CE)
    (hV : Has P w K mg base (L2.CX P w) 15 "form_value" fV ["form", "table"] (spValue C 6)) (hA : Has P w K mg base (L2.CX P w) 7 "all_sets" fA ["fields", "sets", "given"] (spAll K C CS CM CU)) :
    FnOk P w K mg base (L2.CX P w) 16 f fd ["self", "sets", "given"] (spOf K CE C CS CM CU) := by
  refine F.ok scOf (fun vs H Q E h => ?_) (fun cdv A outer s H vs Q E hr h => ?_)
  · obtain ⟨e, v, g, t, es, b, rfl, _⟩ := h
    rfl
  · obtain ⟨e, v, g, t, es, b, rfl, he, hgv, hs⟩ := h
    obtain ⟨⟨dx, vf, fl, ys, k1, k2, k3, k4, k5, k6⟩, ok, hd⟩ := he
    refine ⟨_, pss_one (ps_ret (pe_has hV (hr.mono (by decide)) (by rfl) (passes_call (takes_of rfl rfl rfl rfl) fun _ _ _ _ h => h) (pa_cons (pe_fld (pv 0) rfl) (pa_cons (pe_has hA (hr.mono (by decide)) (by rfl) (passes_call (takes_of rfl rfl rfl rfl) fun _ _ _ _ h => h) (pa_cons (pe_fld (pv 0) rfl) (pa_cons (pv 1) (pa_cons (pv 2) pa_nil)))) pa_nil)))), ?_⟩
    refine ⟨_, rfl, e, CE, dx, _, vf, rfl, k1, M.cl, M.nF, ef_form vf t fl, ?_⟩
    refine ⟨_, rfl, e, CE, dx, _, .ref fl, rfl, k1, M.cl, M.nS, ef_fields vf t fl, ?_⟩
    refine ⟨_, rfl, _, rfl, fl, v, g, ys, es, b, rfl, k3, fun z hz => ?_, ?_, hgv, ?_⟩
    · exact ok.names _ ((k6 z).mp hz).1
    · have := len_sub k5 (fun z hz => ((k6 z).mp hz).1)
      have := nl32 hd
      unfold Fm.nl at this
      omega
    · refine hs.imp fun hf hs => ?_
      rcases hs with ⟨e1, e2⟩ | ⟨e1, e2⟩ | ⟨e1, e2, e3, U, gp, fg, hU, hm, hg1, hg2, q⟩
      · exact .inl ⟨e1, e2⟩
      · exact .inr (.inl ⟨e1, e2 ys k4 k5 k6⟩)
      · refine .inr (.inr ⟨e1, fun z hz => e2 z ((k6 z).mp hz).1 ((k6 z).mp hz).2, e3, fun d m0 g' H' sm M0 hg' hd' => ?_⟩)
        refine ⟨vf, t, d, U, lkG gp fg, rfl, k2.same sm, ok, hd, hU, ⟨_, hd', fun z hz => ?_⟩, fun q' H2 s2 mv => q q' H2 (sm.trans s2) mv⟩
        rw [ents_look hf]
        by_cases hz1 : z = tGiven
        · rw [if_pos hz1]
          subst hz1
          rcases hg' with ⟨rfl, eb⟩ | ⟨eb, m1, rfl, M1⟩
          · obtain ⟨m, rfl, mv⟩ := hg1 eb
            exact ⟨m, rfl, mv.same sm⟩
          · refine ⟨m1, rfl, ?_⟩
            have := memv_nil (U := U) M1
            rw [← hg2 eb] at this
            exact this
        · rw [if_neg hz1]
          by_cases hz2 : z = tNone
          · rw [if_pos hz2]
            subst hz2
            exact ⟨m0, rfl, memv_nil M0⟩
          · rw [if_neg hz2]
            have hb : fieldB z = true := decide_eq_true ⟨hz1, hz2⟩
            obtain ⟨m, e4, e5⟩ := ents_some (e2 z hz hb)
            refine ⟨m, e4, ?_⟩
            have eg : lkG gp fg z = fg z := by
              funext x
              unfold lkG
              rw [if_neg hz2, if_neg hz1]
            rw [eg]
            exact (hm z m e5).same sm
end
end K1

namespace K1
open PySem PySem.Spec
open PyProof.Rows L2 EnT StX SmX TxS DuX ClX
/-! ### names, each once -/
/-- zs are names, each once; the value behind them, if any, is refused -/
def spWT (K : PySem.W.Frag) : Sp := fun vs H Q _ => ∃ (a : Addr) (xs : List V) (zs : List Str), vs = [.ref a] ∧ SqT K H a xs ∧ xs.length ≤ 100 ∧ xs.take zs.length = zs.map V.str ∧ (∀ z ∈ zs, nameB z = true) ∧ zs.Nodup ∧
  ((zs.length = xs.length ∧ ∀ H', Same H H' → Q .non H') ∨ ∃ v, xs[zs.length]? = some v ∧ VOk H v ∧ (nameV v = false ∨ ∃ z ∈ zs, v = .str z ∧ nameV v = true) ∧ ∀ H', Same H H' → Q (.int zs.length) H')
abbrev nmWT : List Str := ["values", "seen", "at", "value"]
section
variable {w : World} {P : Program} {base : Heap} {mg : Str → Option Value} {K : PySem.W.Frag}
theorem scWT : FnScope nmWT ["values"] (defScope sWrong2) := ⟨rfl, rfl, rfl, by decide +kernel, rfl, by decide +kernel, by decide +kernel⟩
theorem ok_wt {f fN : Addr} {fd : FuncData} (F : Fun K "wrong_or_twice_at" "wrong_or_twice_at" sWrong2 f fd) (T : Free mg) (hN : Has P w K mg base CX0 1 "is_name" fN ["value"] spIsName) :
    FnOk P w K mg base CX0 2 f fd ["values"] (spWT K) := by
  refine F.ok scWT (fun vs H Q E h => ?_) (fun cdv A outer s H vs Q E hr h => ?_)
  · obtain ⟨a, xs, zs, rfl, _⟩ := h
    rfl
  · obtain ⟨a, xs, zs, rfl, hS, hl, ht, hz, nd, q⟩ := h
    refine ⟨_, pss_cons (ps_set (i := 1) scWT.nd rfl (.inl rfl) pe_dnewK)
      (pss_cons (ps_for PassesOwn.never rfl (pi_enumT (by rfl) T.enumerate (pa_cons (pv 0) pa_nil)) (pg_tup rfl (pgs_cons (pg_name (i := 2) scWT.nd rfl (.inl rfl)) (pgs_cons (pg_name (i := 3) scWT.nd rfl (.inl rfl)) pgs_nil)))
        (pss_cons (ps_if (PW.pt (pw_or (pt_not (pt_val (pe_has hN (hr.mono (by decide)) (by rfl) pass0 (pa_cons (pv 3) pa_nil)))) (pw_or1 (pt_cmp (pc_din (hu_of hr) (pv 3) (pv 1))))))
            (pss_one (ps_ret (pv 2))) pss_nil)
          (pss_one (ps_dput (hu_of hr) (pv 1) (pv 3) pe_bl rfl))))
      (pss_one (ps_ret pe_non))), ?_⟩
    refine fun d nd0 => ?_
    refine ⟨_, rfl, a, xs, rfl, sameT (same_upd nd0) hS, ?_⟩
    refine for_it (walk_enumT (xs := xs)) (fun i σ H' => Same H H' ∧ H' d = some (.dK (tabOf (zs.take i))) ∧ i ≤ zs.length ∧ ∃ o2 o3 : Option V, σ = [some (.ref a), some (.ref d), o2, o3]) ?_ ?_ ?_ ?_
    · exact ⟨same_upd nd0, upd_same, Nat.zero_le _, none, none, rfl⟩
    · rintro i σ H' hi ⟨sm, _⟩
      exact sameT sm hS
    · rintro i x σ H1 H2 hi ⟨sm, hd, le, o2, o3, rfl⟩ ⟨t, y1, y2, rfl, nt, rfl, e1, e2⟩
      cases e1
      refine ⟨t, _, rfl, SqT.of upd_same, rfl, _, _, rfl, _, _, rfl, rfl, ?_⟩
      have sm2 : Same H (upd H1 t (.tup [.int (i : Nat), y2])) := sm.trans (same_upd nt)
      have hd2 : (upd H1 t (.tup [.int (i : Nat), y2])) d = some (.dK (tabOf (zs.take i))) := same_upd nt _ _ hd
      by_cases hlt : i < zs.length
      · obtain ⟨z, ez⟩ : ∃ z, zs[i]? = some z := ⟨zs[i], by rw [List.getElem?_eq_getElem hlt]⟩
        have e3 : xs[i]? = some (.str z) := by
          have : (xs.take zs.length)[i]? = (zs.map V.str)[i]? := by rw [ht]
          rw [List.getElem?_take, if_pos hlt, List.getElem?_map, ez] at this
          exact this
        have e2 : xs[i]? = some y2 := e2
        rw [e3] at e2
        cases e2
        have nz := hz z (List.mem_iff_getElem?.mpr ⟨i, ez⟩)
        have zn : z ∉ zs.take i := fun hm => take_nodup_none nd ez hm
        refine ⟨_, rfl, _, rfl, (.inl ⟨z, rfl, by have := name_short nz; rw [sizeLine_eq]; omega⟩), _, rfl, ?_⟩
        rw [show nameV (.str z) = true from nz]
        refine iteF ?_
        refine ⟨_, rfl, _, rfl, d, _, rfl, DGet.k (k := Sum.inr z) hd2, ?_⟩
        rw [tab_none zn]
        refine ⟨_, rfl, iteF ?_⟩
        have lt : (tabOf (zs.take i)).length < sizeLine := by
          unfold tabOf
          rw [List.length_map, List.length_take, sizeLine_eq]
          have := (List.getElem?_eq_some_iff.mp e3).1
          omega
        refine ⟨_, rfl, _, rfl, d, _, rfl, DPut.k (k := Sum.inr z) hd2 lt, ?_⟩
        refine ⟨same_set sm2 nd0, ?_, hlt, _, _, rfl⟩
        rw [upd_same, putK_new _ (tab_none zn)]
        unfold tabOf
        rw [List.take_add_one, ez, List.map_append]
        rfl
      · have ei : i = zs.length := by omega
        subst ei
        rcases q with ⟨e3, _⟩ | ⟨v, ev, vo, bad, q⟩
        · have := (List.getElem?_eq_some_iff.mp e2).1
          omega
        have e2 : xs[zs.length]? = some y2 := e2
        rw [ev] at e2
        cases e2
        refine ⟨_, rfl, _, rfl, (vo.same (sm.trans (same_upd nt))), _, rfl, ?_⟩
        rcases bad with bad | ⟨z, hm, rfl, nz⟩
        · rw [bad]
          refine iteT (iteT ?_)
          exact ⟨_, rfl, q _ sm2⟩
        · rw [nz]
          refine iteF ?_
          rw [List.take_length] at hd2
          refine ⟨_, rfl, _, rfl, d, _, rfl, DGet.k (k := Sum.inr z) hd2, ?_⟩
          have hs : (valV (tabOf zs) (Sum.inr z : Key)).isSome = true := by
            rw [valV_tab]
            exact decide_eq_true hm
          rw [hs]
          exact ⟨_, rfl, iteT ⟨_, rfl, q _ sm2⟩⟩
    · rintro σ H' ⟨sm, hd, le, o2, o3, rfl⟩
      rcases q with ⟨e3, q⟩ | ⟨v, ev, _⟩
      · exact q H' sm
      · have := (List.getElem?_eq_some_iff.mp ev).1
        omega
end
end K1

namespace K1
open PySem PySem.Spec
open PyProof.Rows L2 EnT StX SmX TxS DuX ClX
/-! ### whether somebody is in a form -/
/-- whether somebody in these fields, given or not, is in a leaf -/
def mvF (b : Bool) (xs : List Str) (z : Str) : Bool := if z = tNone then false else if z = tGiven then b else decide (z ∈ xs)
def spMeetsF (n : Nat) : Sp := fun vs H Q _ => ∃ (v : V) (t : Fm) (a : Addr) (b : Bool) (xs : List Str), vs = [v, .ref a, .bl b] ∧ FmAt H v t ∧ t.Ok ∧ t.dep ≤ n ∧ n ≤ 50 ∧ H a = some (.tup (xs.map V.str)) ∧ Q (.bl (t.val (mvF b xs))) H
theorem leaf_eqv (z u : Str) : PyData.eqv (Fm.leaf z).dat (Fm.leaf u).dat = decide (z = u) := by
  show (z == u) = decide (z = u)
  by_cases e : z = u
  · rw [e]
    simp
  · rw [decide_eq_false e]
    simpa using e
theorem sh_none : SeqAt.shaped (Fm.leaf tNone).dat = true := by decide +kernel
theorem sh_given : SeqAt.shaped (Fm.leaf tGiven).dat = true := by decide +kernel
abbrev nmMf : List Str := ["form", "inside", "given", "sign", "left", "right", "one", "other"]
section
variable {w : World} {P : Program} {base : Heap} {mg : Str → Option Value} {K : PySem.W.Frag} {aS : Addr}
theorem scMf : FnScope nmMf ["form", "inside", "given"] (defScope s_form_meets) := ⟨rfl, rfl, rfl, by decide +kernel, rfl, by decide +kernel, by decide +kernel⟩
theorem ok_meetsF {f : Addr} {fd : FuncData} (F : Fun K "form_meets" "form_meets" s_form_meets f fd) (T : Free mg) (G : Gf K mg aS) (mgF : mg "form_meets" = some (.ref f)) : ∀ n : Nat, FnOk P w K mg base CX0 (n + 1) f fd ["form", "inside", "given"] (spMeetsF n) := by
  have bF : L2.Binds K fd ["form", "inside", "given"] [] := F.binds (ps := ["form", "inside", "given"]) fun _ _ _ _ _ _ us hl => match us, hl with | [_, _, _], _ => rfl
  obtain ⟨tg, hg⟩ := G.gv
  obtain ⟨tn, hn⟩ := G.nn
  intro n
  induction n with
  | zero =>
    refine F.ok scMf (fun vs H Q E h => ?_) (fun cdv A outer s H vs Q E hr h => ?_)
    · obtain ⟨v, t, a, b, xs, rfl, _⟩ := h
      rfl
    · obtain ⟨v, t, a, b, xs, rfl, m, ok, dn, _⟩ := h
      have := Fm.dep_pos t
      omega
  | succ n ih =>
    have hF : Has P w K mg base CX0 (n + 1) "form_meets" f ["form", "inside", "given"] (spMeetsF n) := ⟨mgF, F.kp, fd, ih, bF⟩
    refine F.ok scMf (fun vs H Q E h => ?_) (fun cdv A outer s H vs Q E hr h => ?_)
    · obtain ⟨v, t, a, b, xs, rfl, _⟩ := h
      rfl
    · obtain ⟨v, t, a, b, xs, rfl, m, ok, dn, hn50, ha, q⟩ := h
      refine ⟨_, pss_cons (ps_if (pt_cmpR (op_eqD hr.units) (pv 0) (pe_glob (v := .str tNone) (by rfl) hn ⟨_, rfl⟩) (nomark _)) (pss_one (ps_ret pe_bl)) pss_nil)
        (pss_cons (ps_if (pt_cmpR (op_eqD hr.units) (pv 0) (pe_glob (v := .str tGiven) (by rfl) hg ⟨_, rfl⟩) (nomark _)) (pss_one (ps_ret (pv 2))) pss_nil)
        (pss_cons (ps_if (pt_val (pe_callB call_isi (by rfl) T.isinstance (by decide +kernel) (pa_cons (pv 0) (pa_cons (pe_bltn (v := .ty "str") (u := .type "str") (by rfl) T.str (by decide +kernel) rfl) pa_nil)))) (pss_one (ps_ret (pe_cmpR op_in_seq (pv 0) (pv 1) (by rfl)))) pss_nil)
        (pss_cons (ps_asg (pv 0) (pg_tup rfl (pgs_cons (pg_name (i := 3) scMf.nd rfl (.inl rfl)) (pgs_cons (pg_name (i := 4) scMf.nd rfl (.inl rfl)) (pgs_cons (pg_name (i := 5) scMf.nd rfl (.inl rfl)) pgs_nil)))))
        (pss_cons (ps_set (i := 6) scMf.nd rfl (.inl rfl) (pe_has hF hr (by rfl) pass0 (pa_cons (pv 4) (pa_cons (pv 1) (pa_cons (pv 2) pa_nil)))))
        (pss_cons (ps_set (i := 7) scMf.nd rfl (.inl rfl) (pe_has hF hr (by rfl) pass0 (pa_cons (pv 5) (pa_cons (pv 1) (pa_cons (pv 2) pa_nil)))))
        (pss_cons (ps_if (pt_cmpR op_eq (pv 3) pe_str (nomark _)) (pss_one (ps_ret (pe_or (pv 6) (pe_one (pv 7))))) pss_nil)
        (pss_cons (ps_if (pt_cmpR op_eq (pv 3) pe_str (nomark _)) (pss_one (ps_ret (pe_and (pv 6) (pe_one (pv 7))))) pss_nil)
        (pss_cons (ps_if (pt_cmpR op_eq (pv 3) pe_str (nomark _)) (pss_one (ps_ret (pe_and (pv 6) (pe_one (pe_not (pv 7)))))) pss_nil)
        (pss_one (ps_ret (pe_cmpR op_ne (pv 6) (pv 7) (nomark _)))))))))))), ?_⟩
      cases m with
      | leaf z =>
        refine ⟨_, rfl, _, _, (FmAt.leaf z).dp, (FmAt.leaf tNone).dp, Fm.shaped ok (by omega), sh_none, ?_⟩
        rw [leaf_eqv]
        by_cases e1 : z = tNone
        · rw [decide_eq_true e1]
          refine ⟨_, rfl, iteT ?_⟩
          subst e1
          exact q
        rw [decide_eq_false e1]
        refine ⟨_, rfl, iteF ?_⟩
        refine ⟨_, rfl, _, _, (FmAt.leaf z).dp, (FmAt.leaf tGiven).dp, Fm.shaped ok (by omega), sh_given, ?_⟩
        rw [leaf_eqv]
        by_cases e2 : z = tGiven
        · rw [decide_eq_true e2]
          refine ⟨_, rfl, iteT ?_⟩
          subst e2
          exact ⟨_, rfl, q⟩
        rw [decide_eq_false e2]
        refine ⟨_, rfl, iteF ?_⟩
        refine ⟨_, rfl, _, _, _, _, _, rfl, .ty _, .base (.str _), rfl, _, rfl, iteT (⟨_, rfl, _, rfl, _, _, rfl, (.inr (SqT.of ha)), rfl, strs_flat xs, ?_⟩)⟩
        have e : mvF b xs z = decide (z ∈ xs) := by
          unfold mvF
          rw [if_neg e1, if_neg e2]
        have q : Q (.bl (mvF b xs z)) H := q
        rw [e, ← inV_mem] at q
        exact q
      | node h hl hr' =>
        rename_i a' s' vl vr l' r'
        rw [Fm.dep_node] at dn
        have m : FmAt H (.ref a') (Fm.node s' l' r') := .node h hl hr'
        refine ⟨_, rfl, _, _, m.dp, (FmAt.leaf tNone).dp, Fm.shaped ok (by rw [Fm.dep_node]; omega), sh_none, ?_⟩
        refine ⟨_, rfl, iteF ?_⟩
        refine ⟨_, rfl, _, _, m.dp, (FmAt.leaf tGiven).dp, Fm.shaped ok (by rw [Fm.dep_node]; omega), sh_given, ?_⟩
        refine ⟨_, rfl, iteF ?_⟩
        refine ⟨_, rfl, _, _, _, _, _, rfl, .ty _, .base (.tup h), rfl, _, rfl, iteF (⟨_, rfl, _, _, rfl, (SqT.of h), rfl, _, _, rfl, _, _, rfl, _, _, rfl, rfl, _, rfl, _, rfl, _, rfl, ?_⟩)⟩
        refine ⟨vl, l', a, b, xs, rfl, hl, ok.2.1, by omega, by omega, ha, ?_⟩
        refine ⟨_, rfl, _, rfl, _, rfl, vr, r', a, b, xs, rfl, hr', ok.2.2, by omega, by omega, ha, ?_⟩
        have qv : ∀ {c : Bool}, c = (Fm.node s' l' r').val (mvF b xs) → Q (.bl c) H := fun {c} e => by rw [e]; exact q
        refine ⟨_, rfl, rfl, _, rfl, ?_⟩
        by_cases e1 : s' = "|"
        · rw [decide_eq_true (by rw [e1])]
          refine iteT ?_
          refine ⟨_, rfl, _, rfl, ?_⟩
          cases hv : l'.val (mvF b xs) with
          | true => exact iteT (qv (by simp [Fm.val, sgn, e1, hv]))
          | false => exact iteF ⟨_, rfl, qv (by simp [Fm.val, sgn, e1, hv])⟩
        rw [decide_eq_false (fun e => e1 (V.str.inj e))]
        refine iteF ⟨_, rfl, rfl, _, rfl, ?_⟩
        by_cases e2 : s' = "&"
        · rw [decide_eq_true (by rw [e2])]
          refine iteT ?_
          refine ⟨_, rfl, _, rfl, ?_⟩
          cases hv : l'.val (mvF b xs) with
          | true => exact iteT ⟨_, rfl, qv (by simp only [Fm.val, sgn, if_neg e1, if_pos e2, hv]; simp)⟩
          | false => exact iteF (qv (by simp only [Fm.val, sgn, if_neg e1, if_pos e2, hv]; simp))
        rw [decide_eq_false (fun e => e2 (V.str.inj e))]
        refine iteF ⟨_, rfl, rfl, _, rfl, ?_⟩
        by_cases e3 : s' = "-"
        · rw [decide_eq_true (by rw [e3])]
          refine iteT ?_
          refine ⟨_, rfl, _, rfl, ?_⟩
          cases hv : l'.val (mvF b xs) with
          | true => exact iteT ⟨_, rfl, _, rfl, qv (by simp only [Fm.val, sgn, if_neg e1, if_neg e2, if_pos e3, hv]; simp)⟩
          | false => exact iteF (qv (by simp only [Fm.val, sgn, if_neg e1, if_neg e2, if_pos e3, hv]; simp))
        rw [decide_eq_false (fun e => e3 (V.str.inj e))]
        refine iteF ?_
        refine ⟨_, rfl, _, rfl, rfl, qv ?_⟩
        simp only [Fm.val, sgn, if_neg e1, if_neg e2, if_neg e3]
        cases l'.val (mvF b xs) <;> cases r'.val (mvF b xs) <;> simp
/-- e.meets(inside, given=..) -/
def spMeets (K : PySem.W.Frag) (CE CN : Addr) : Sp := fun vs H Q E => ∃ (e : Addr) (v : V) (b : Bool) (t : Fm), vs = [.ref e, v, .bl b] ∧ ExpAt CE H e t ∧
  ((∃ (a : Addr) (xs : List V), v = .ref a ∧ H a = some (.lst xs) ∧ ErrAt CN "index" .non H E) ∨
   (∃ (a : Addr) (xs : List Str), v = .ref a ∧ H a = some (.tup (xs.map V.str)) ∧ xs.length ≤ 100 ∧ (∀ z ∈ xs, nameB z = true) ∧ xs.Nodup ∧ ∀ H', Same H H' → Q (.bl (t.val (mvF b xs))) H') ∨
   (∃ (a : Addr) (xs : List V) (zs : List Str) (y : V), v = .ref a ∧ H a = some (.tup xs) ∧ xs.length ≤ 100 ∧ xs.take zs.length = zs.map V.str ∧ (∀ z ∈ zs, nameB z = true) ∧ zs.Nodup ∧ xs[zs.length]? = some y ∧ VOk H y ∧ (nameV y = false ∨ ∃ z ∈ zs, y = .str z ∧ nameV y = true) ∧ ErrAt CN "index" (.int zs.length) H E))
abbrev s_meets : Stmt := s_Expression_meets
abbrev nmMt : List Str := ["self", "inside", "given", "at"]
section
variable {w : World} {P : Program} {base : Heap} {mg : Str → Option Value} {K : PySem.W.Frag} {CE CN aS : Addr}
theorem scMt : FnScope nmMt ["self", "inside", "given"] (defScope s_meets) := ⟨rfl, rfl, rfl, by decide +kernel, rfl, by decide +kernel, by decide +kernel⟩
theorem ok_meets {f f1 f2 fE : Addr} {fd fdE : FuncData} (F : FunD K "meets" "Expression.meets" (defArgs s_meets) (defBody s_meets) (defScope s_meets) [] [("given", .bl false)] f fd) (T : Free mg) (M : ExpC K mg CE)
    (h1 : Has P w K mg base CX0 2 "wrong_or_twice_at" f1 ["values"] (spWT K)) (h2 : Has P w K mg base CX0 8 "form_meets" f2 ["form", "inside", "given"] (spMeetsF 7))
    (EN : ErrC K mg "InvalidNames" "index" CN fE) (FE : Fun K "__init__" "InvalidNames.__init__" sErrNames fE fdE) :
    FnOk P w K mg base (L2.CX P w) 9 f fd ["self", "inside", "given"] (spMeets K CE CN) := by
  have bE : Binds K fdE ["self", "index"] [] := FE.binds (ps := ["self", "index"]) fun _ _ _ _ _ _ us hl => match us, hl with | [_, _], _ => rfl
  have GE : FnOk P w K mg base CX0 1 fE fdE ["self", "index"] (spErr CN "index") := ok_errN FE EN
  refine F.ok scMt (fun vs H Q E h => ?_) (fun cdv A outer s H vs Q E hr h => ?_)
  · obtain ⟨e, v, b, t, rfl, _⟩ := h
    rfl
  · obtain ⟨e, v, b, t, rfl, he, h⟩ := h
    obtain ⟨⟨dx, vf, fl, ys, k1, k2, k3, k4, k5, k6⟩, ok, hd⟩ := he
    refine ⟨_, pss_cons (ps_if (pt_not (pt_val (pe_callB call_isi (by rfl) T.isinstance (by decide +kernel) (pa_cons (pv 1) (pa_cons (pe_bltn (v := .ty "tuple") (u := .type "tuple") (by rfl) T.tuple (by decide +kernel) rfl) pa_nil)))))
        (pss_one (ps_raise rfl (takes_of rfl rfl rfl rfl) (pmk_oex EN.ox EN.ini EN.ty GE (hr.mono (by decide)) bE .nil pass0 rfl EN.g (pa_cons pe_non pa_nil)))) pss_nil)
      (pss_cons (ps_set (i := 3) scMt.nd rfl (.inl rfl) (pe_has h1 (hr.mono (by decide)) (by rfl) pass0 (pa_cons (pv 1) pa_nil)))
      (pss_cons (ps_if (pt_cmp (pc_notN (pv 3))) (pss_one (ps_raise rfl (takes_of rfl rfl rfl rfl) (pmk_oex EN.ox EN.ini EN.ty GE (hr.mono (by decide)) bE .nil pass0 rfl EN.g (pa_cons (pv 3) pa_nil)))) pss_nil)
      (pss_one (ps_ret (pe_has h2 (hr.mono (by decide)) (by rfl) pass0 (pa_cons (pe_fld (pv 0) rfl) (pa_cons (pv 1) (pa_cons (pe_cmpR op_isBl (pv 2) pe_bl (nomark _)) pa_nil)))))))), ?_⟩
    rcases h with ⟨a, xs, rfl, ha, qE⟩ | ⟨a, xs, rfl, ha, hl, hz, nd, q⟩ | ⟨a, xs, zs, y, rfl, ha, hl, ht, hz, nd, ey, vo, bad, qE⟩
    · exact ⟨_, rfl, _, _, _, _, _, rfl, .ty _, .base (.lst ha), rfl, _, rfl, iteT (rz_err qE)⟩
    · refine ⟨_, rfl, _, _, _, _, _, rfl, .ty _, .base (.tup ha), rfl, _, rfl, iteF ⟨_, rfl, a, xs.map V.str, xs, rfl, SqT.of ha, by rw [List.length_map]; exact hl, by rw [← List.length_map (f := V.str), List.take_length], hz, nd, .inl ⟨by rw [List.length_map], fun H1 s1 => ?_⟩⟩⟩
      refine ⟨_, rfl, _, rfl, iteF ?_⟩
      refine ⟨_, rfl, e, CE, dx, _, vf, rfl, s1 _ _ k1, M.cl, M.nF, ef_form vf t fl, ?_⟩
      refine ⟨_, rfl, _, rfl, _, _, rfl, rfl, _, _, _, _, _, rfl, (k2.same s1), ok, (by omega), (by decide), (s1 _ _ ha), ?_⟩
      have e1 : decide (b = true) = b := by cases b <;> rfl
      have z := q H1 s1
      rw [← e1] at z
      exact z
    · refine ⟨_, rfl, _, _, _, _, _, rfl, .ty _, .base (.tup ha), rfl, _, rfl, iteF (⟨_, rfl, _, _, _, rfl, (SqT.of ha), hl, ht, hz, nd, .inr ⟨y, ey, vo, bad, fun H1 s1 => ?_⟩⟩)⟩
      refine ⟨_, rfl, _, rfl, iteT ⟨_, rfl, rz_err (qE.same s1)⟩⟩
end
end
end K1

namespace K1
open PySem PySem.Spec
open PyProof.Rows L2 EnT StX SmX TxS DuX ClX
/-! ### of and meets called: by place, by keyword, with what is not told -/
section
variable {K : PySem.W.Frag}
theorem kb_of1 {f : Addr} {fd : FuncData} (F : FunD K "of" "Expression.of" (defArgs s_of) (defBody s_of) (defScope s_of) [] [("given", .non)] f fd) :
    ∃ mv : List Value, KBn K fd ["self", "sets", "given"] 2 [] (fun us ws => us ++ mv) (fun vs zs => vs ++ [.non]) :=
  F.kbinds0 2 [] [("given", .non)] (fun us mv ws => us ++ mv) (by decide) (fun q h => h) (fun r1 r2 r3 => r1.append r2) fun D doc pm an cdv ct us mv ws l1 l2 l3 => by
    match us, mv, ws, l1, l2, l3 with
    | [u1, u2], [m1], [], _, _, _ => exact ⟨_, _, _, _, _, _, rfl, rfl, rfl⟩
theorem kb_of2 {f : Addr} {fd : FuncData} (F : FunD K "of" "Expression.of" (defArgs s_of) (defBody s_of) (defScope s_of) [] [("given", .non)] f fd) :
    ∃ mv : List Value, KBn K fd ["self", "sets", "given"] 2 ["given"] (fun us ws => us ++ ws) (fun vs zs => vs ++ zs) :=
  F.kbinds0 2 ["given"] [] (fun us mv ws => us ++ ws) (by decide) (fun q h => by cases h) (fun r1 r2 r3 => r1.append r3) fun D doc pm an cdv ct us mv ws l1 l2 l3 => by
    match us, mv, ws, l1, l2, l3 with
    | [u1, u2], [], [w1], _, _, _ => rfl
theorem kb_of3 {f : Addr} {fd : FuncData} (F : FunD K "of" "Expression.of" (defArgs s_of) (defBody s_of) (defScope s_of) [] [("given", .non)] f fd) :
    ∃ mv : List Value, KBn K fd ["self", "sets", "given"] 1 ["sets"] (fun us ws => us ++ ws ++ mv) (fun vs zs => vs ++ zs ++ [.non]) :=
  F.kbinds0 1 ["sets"] [("given", .non)] (fun us mv ws => us ++ ws ++ mv) (by decide) (fun q h => h) (fun r1 r2 r3 => (r1.append r3).append r2) fun D doc pm an cdv ct us mv ws l1 l2 l3 => by
    match us, mv, ws, l1, l2, l3 with
    | [u1], [m1], [w1], _, _, _ => exact ⟨_, _, _, _, _, _, rfl, rfl, rfl⟩
theorem kb_meets1 {f : Addr} {fd : FuncData} (F : FunD K "meets" "Expression.meets" (defArgs s_meets) (defBody s_meets) (defScope s_meets) [] [("given", .bl false)] f fd) :
    ∃ mv : List Value, KBn K fd ["self", "inside", "given"] 2 [] (fun us ws => us ++ mv) (fun vs zs => vs ++ [.bl false]) :=
  F.kbinds0 2 [] [("given", .bl false)] (fun us mv ws => us ++ mv) (by decide) (fun q h => h) (fun r1 r2 r3 => r1.append r2) fun D doc pm an cdv ct us mv ws l1 l2 l3 => by
    match us, mv, ws, l1, l2, l3 with
    | [u1, u2], [m1], [], _, _, _ => exact ⟨_, _, _, _, _, _, rfl, rfl, rfl⟩
theorem kb_meets2 {f : Addr} {fd : FuncData} (F : FunD K "meets" "Expression.meets" (defArgs s_meets) (defBody s_meets) (defScope s_meets) [] [("given", .bl false)] f fd) :
    ∃ mv : List Value, KBn K fd ["self", "inside", "given"] 2 ["given"] (fun us ws => us ++ ws) (fun vs zs => vs ++ zs) :=
  F.kbinds0 2 ["given"] [] (fun us mv ws => us ++ ws) (by decide) (fun q h => by cases h) (fun r1 r2 r3 => r1.append r3) fun D doc pm an cdv ct us mv ws l1 l2 l3 => by
    match us, mv, ws, l1, l2, l3 with
    | [u1, u2], [], [w1], _, _, _ => rfl
theorem kb_meets3 {f : Addr} {fd : FuncData} (F : FunD K "meets" "Expression.meets" (defArgs s_meets) (defBody s_meets) (defScope s_meets) [] [("given", .bl false)] f fd) :
    ∃ mv : List Value, KBn K fd ["self", "inside", "given"] 1 ["inside"] (fun us ws => us ++ ws ++ mv) (fun vs zs => vs ++ zs ++ [.bl false]) :=
  F.kbinds0 1 ["inside"] [("given", .bl false)] (fun us mv ws => us ++ ws ++ mv) (by decide) (fun q h => h) (fun r1 r2 r3 => (r1.append r3).append r2) fun D doc pm an cdv ct us mv ws l1 l2 l3 => by
    match us, mv, ws, l1, l2, l3 with
    | [u1], [m1], [w1], _, _, _ => exact ⟨_, _, _, _, _, _, rfl, rfl, rfl⟩
end
end K1

namespace K1
open PySem PySem.Spec
open PyProof.Rows L2 EnT StX SmX TxS DuX ClX
/-! ### the law's own look-up -/
def inF (b : Bool) (xs : List Str) (z : Str) : Bool := if z = tGiven then b else decide (z ∈ xs)
def spIn (n : Nat) : Sp := fun vs H Q _ => ∃ (v : V) (t : Fm) (a : Addr) (b : Bool) (xs : List Str), vs = [v, .ref a, .bl b] ∧ FmAt H v t ∧ t.Ok ∧ t.dep ≤ n ∧ H a = some (.lst (xs.map V.str)) ∧ ∀ H', Same H H' → Q (.bl (t.val (inF b xs))) H'
theorem sgn_o (a b : Bool) : sgn "|" a b = (a || b) := if_pos rfl
theorem sgn_a (a b : Bool) : sgn "&" a b = (a && b) := by
  unfold sgn
  rw [if_neg (by decide +kernel), if_pos rfl]
theorem sgn_s (a b : Bool) : sgn "-" a b = (a && !b) := by
  unfold sgn
  rw [if_neg (by decide +kernel), if_neg (by decide +kernel), if_pos rfl]
theorem sgn_x (a b : Bool) : sgn "^" a b = (a != b) := by
  unfold sgn
  rw [if_neg (by decide +kernel), if_neg (by decide +kernel), if_neg (by decide +kernel)]
abbrev nmIn : List Str := ["_law_shape", "_law_among", "_law_gotten", "_law_low", "_law_high"]
section
variable {w : World} {P : Program} {base : Heap} {mg : Str → Option Value} {K : PySem.W.Frag}
theorem scIn : FnScope nmIn ["_law_shape", "_law_among", "_law_gotten"] (defScope s_L_in) := ⟨rfl, rfl, rfl, by decide +kernel, rfl, by decide +kernel, by decide +kernel⟩
theorem ok_in {f : Addr} {fd : FuncData} (F : Fun K "_law_in" "_law_in" s_L_in f fd) (T : Free mg) (mgF : mg "_law_in" = some (.ref f)) : ∀ n : Nat, FnOk P w K mg base CX0 (n + 1) f fd ["_law_shape", "_law_among", "_law_gotten"] (spIn n) := by
  have bF : L2.Binds K fd ["_law_shape", "_law_among", "_law_gotten"] [] := F.binds (ps := ["_law_shape", "_law_among", "_law_gotten"]) fun _ _ _ _ _ _ us hl => match us, hl with | [_, _, _], _ => rfl
  intro n
  induction n with
  | zero =>
    refine F.ok scIn (fun vs H Q E h => ?_) (fun cdv A outer s H vs Q E hr h => ?_)
    · obtain ⟨v, t, a, b, xs, rfl, _⟩ := h
      rfl
    · obtain ⟨v, t, a, b, xs, rfl, m, ok, dn, _⟩ := h
      have := Fm.dep_pos t
      omega
  | succ n ih =>
    have hF : Has P w K mg base CX0 (n + 1) "_law_in" f ["_law_shape", "_law_among", "_law_gotten"] (spIn n) := ⟨mgF, F.kp, fd, ih, bF⟩
    refine F.ok scIn (fun vs H Q E h => ?_) (fun cdv A outer s H vs Q E hr h => ?_)
    · obtain ⟨v, t, a, b, xs, rfl, _⟩ := h
      rfl
    · obtain ⟨v, t, a, b, xs, rfl, m, ok, dn, ha, q⟩ := h
      refine ⟨_, pss_cons (ps_if (pt_val (pe_callB call_isi (by rfl) T.isinstance (by decide +kernel) (pa_cons (pv 0) (pa_cons (pe_bltn (v := .ty "str") (u := .type "str") (by rfl) T.str (by decide +kernel) rfl) pa_nil)))) (pss_one (ps_ret (pe_ifExp (pt_cmpR op_eq (pv 0) pe_str (nomark _)) (pv 2) (pe_cmpR op_in_seq (pv 0) (pv 1) (by rfl))))) pss_nil)
        (pss_cons (ps_par (i := 3) (j := 4) rfl scIn.nd rfl rfl (by decide) rfl rfl (pa_cons (pe_has hF hr (by rfl) pass0 (pa_cons (pe_ix ix_tup (pv 0) pe_int (fun _ _ => rfl)) (pa_cons (pv 1) (pa_cons (pv 2) pa_nil)))) (pa_cons (pe_has hF hr (by rfl) pass0 (pa_cons (pe_ix ix_tup (pv 0) pe_int (fun _ _ => rfl)) (pa_cons (pv 1) (pa_cons (pv 2) pa_nil)))) pa_nil)) (by rfl))
        (pss_cons (ps_if (pt_cmpR op_in_seq (pe_ix ix_tup (pv 0) pe_int (fun _ _ => rfl)) (pe_lst (pa_cons pe_str (pa_cons pe_str pa_nil))) (by rfl)) (pss_one (ps_ret (pe_ifExp (pt_cmpR op_eq (pe_ix ix_tup (pv 0) pe_int (fun _ _ => rfl)) pe_str (nomark _)) (pe_or (pv 3) (pe_one (pv 4))) (pe_and (pv 3) (pe_one (pv 4)))))) pss_nil)
        (pss_one (ps_ret (pe_ifExp (pt_cmpR op_eq (pe_ix ix_tup (pv 0) pe_int (fun _ _ => rfl)) pe_str (nomark _)) (pe_and (pv 3) (pe_one (pe_not (pv 4)))) (pe_cmpR op_ne (pv 3) (pv 4) (nomark _))))))), ?_⟩
      cases m with
      | leaf z =>
        have q : Q (.bl (inF b xs z)) H := q H (Same.refl H)
        refine ⟨_, rfl, _, _, _, _, _, rfl, .ty _, .base (.str _), rfl, _, rfl, iteT (⟨_, rfl, rfl, _, rfl, ?_⟩)⟩
        by_cases e : z = tGiven
        · rw [decide_eq_true (by rw [e])]
          subst e
          exact iteT ⟨_, rfl, q⟩
        · rw [decide_eq_false (fun k => e (V.str.inj k))]
          have e2 : inF b xs z = decide (z ∈ xs) := if_neg e
          rw [e2, ← inV_mem] at q
          exact iteF ⟨_, rfl, _, rfl, a, _, rfl, .inl (SqL.of ha), rfl, strs_flat xs, q⟩
      | node h hl hr' =>
        rename_i a' s' vl vr l' r'
        rw [Fm.dep_node] at dn
        refine ⟨_, rfl, _, _, _, _, _, rfl, .ty _, .base (.tup h), rfl, _, rfl, iteF (⟨_, rfl, _, _, _, _, rfl, rfl, (SqT.of h), rfl, _, rfl, _, rfl, _, _, _, _, _, rfl, hl, ok.2.1, (by omega), ha, fun H1 => fun s1 => ?_⟩)⟩
        refine ⟨_, rfl, _, _, _, _, rfl, rfl, (SqT.of (s1 _ _ h)), rfl, _, rfl, _, rfl, _, _, _, _, _, rfl, (hr'.same s1), ok.2.2, (by omega), (s1 _ _ ha), fun H2 => fun s2 => ?_⟩
        have h2 := s2 _ _ (s1 _ _ h)
        refine ⟨_, _, rfl, _, rfl, _, _, _, _, rfl, rfl, (SqT.of h2), rfl, (by decide), fun p1 => fun n1 => ⟨_, _, rfl, (.inl (SqL.of upd_same)), rfl, rfl, _, rfl, ?_⟩⟩
        have s3 : Same H2 (upd H2 p1 (.lst [.str "|", .str "&"])) := same_upd n1
        have h3 := s3 _ _ h2
        have s4 := (s1.trans s2).trans s3
        generalize upd H2 p1 (.lst [.str "|", .str "&"]) = H3 at s3 h3 s4 ⊢
        have qv : ∀ {c : Bool}, c = (Fm.node s' l' r').val (inF b xs) → Q (.bl c) H3 := fun {c} e => by rw [e]; exact q H3 s4
        rcases sign_ne ok.1 with (e | e) | e | e
        · subst e
          refine iteT ?_
          refine ⟨_, rfl, _, _, _, _, rfl, rfl, (SqT.of h3), rfl, rfl, _, rfl, iteT (⟨_, rfl, _, rfl, ?_⟩)⟩
          cases hv : l'.val (inF b xs) with
          | true => exact iteT (qv (by simp [Fm.val, hv, sgn_o]))
          | false => exact iteF ⟨_, rfl, qv (by simp [Fm.val, hv, sgn_o])⟩
        · subst e
          refine iteT ?_
          refine ⟨_, rfl, _, _, _, _, rfl, rfl, (SqT.of h3), rfl, rfl, _, rfl, iteF (⟨_, rfl, _, rfl, ?_⟩)⟩
          cases hv : l'.val (inF b xs) with
          | true => exact iteT ⟨_, rfl, qv (by simp [Fm.val, hv, sgn_a])⟩
          | false => exact iteF (qv (by simp [Fm.val, hv, sgn_a]))
        · subst e
          refine iteF ?_
          refine ⟨_, rfl, _, _, _, _, rfl, rfl, (SqT.of h3), rfl, rfl, _, rfl, iteT (⟨_, rfl, _, rfl, ?_⟩)⟩
          cases hv : l'.val (inF b xs) with
          | true => exact iteT ⟨_, rfl, _, rfl, qv (by simp [Fm.val, hv, sgn_s])⟩
          | false => exact iteF (qv (by simp [Fm.val, hv, sgn_s]))
        · subst e
          refine iteF ?_
          refine ⟨_, rfl, _, _, _, _, rfl, rfl, (SqT.of h3), rfl, rfl, _, rfl, iteF (⟨_, rfl, _, rfl, rfl, qv ?_⟩)⟩
          simp only [Fm.val]
          rw [sgn_x]
          cases l'.val (inF b xs) <;> cases r'.val (inF b xs) <;> simp
end
end K1

namespace K1
open PySem PySem.Spec
open PyProof.Rows L2 EnT StX SmX TxS DuX XdI Tr3 CnB ClX
/-- isinstance(e, c) in a suite, whatever the class -/
def rIsX (K : PySem.W.Frag) (a : Addr) (cls : Value) (d : Option Addr) : List V → Hp → VK → Prop := fun xs H Q => ∃ D, cls = .ref D ∧ ExcC K D ∧ rIsD K D a d xs H Q
/-- the same of an exception without attributes -/
def rIsN (K : PySem.W.Frag) (a : Addr) (cls : Value) (d : Option Addr) : List V → Hp → VK → Prop := fun xs H Q => ∃ D, cls = .ref D ∧ ExcC K D ∧ d = none ∧ rIsE K D a xs H Q
theorem call_isN {X : Cx} {a : Addr} {d : Option Addr} {oe : Obj} {pn : List (Addr × Obj)} {cls : Value} (hz : Zc cls d oe) (hf : ∃ vs, oe.data = .fields vs) : CallR (X.suite a ((a, oe) :: pn)) (.builtin "isinstance") (rIsN X.K a cls d) := by
  intro pins s σ
      H xs us Q I r h
  obtain ⟨D, rfl, C, rfl, h⟩ := h
  exact call_isE C hz hf pins s σ H xs us Q I r h
theorem call_isX {X : Cx} {a : Addr} {d : Option Addr} {oe : Obj} {pn : List (Addr × Obj)} {cls : Value} (hz : Zc cls d oe) (hf : ∃ vs, oe.data = .fields vs) : CallR (X.suite a ((a, oe) :: pn)) (.builtin "isinstance") (rIsX X.K a cls d) := by
  intro pins s σ
      H xs us Q I r h
  obtain ⟨D, ec, C, h⟩ := h
  exact call_isD ec C hz hf pins s σ H xs us Q I r h
/-- what is asked of an error's class, its base the b-th one -/
structure ErrF (K : PySem.W.Frag) (S1 S2 S3 D : Addr) (b : Nat) : Prop where
  ec : ExcC K D
  k1 : PySem.W.kitOne K (.ref D) (.ref S1) = some (decide (b = 0))
  k2 : PySem.W.kitOne K (.ref D) (.ref S2) = some (decide (b = 1))
  k3 : PySem.W.kitOne K (.ref D) (.ref S3) = some (decide (b = 2))
  kV : PySem.W.kitOne K (.ref D) (.type "ValueError") = some (decide (b = 0))
  kL : PySem.W.kitOne K (.ref D) (.type "LookupError") = some (decide (b = 1))
  kA : PySem.W.kitOne K (.ref D) (.type "ArithmeticError") = some (decide (b = 2))
  kx : PySem.W.exmAny K (.ref D) [.ref S1, .ref S2, .ref S3] = some true
  xf : XfC K D
/-- repr(x), x told by SV -/
def rSV (SV : Hp → V → Str → Prop) : List V → Hp → VK → Prop := fun xs H Q => ∃ x txt, xs = [x] ∧ SV H x txt ∧ Q (.str txt) H
structure ErrK (K : PySem.W.Frag) (mg : Str → Option Value) (S1 S2 S3 C1 C2 C3 C4 : Addr) : Prop where
  g1 : mg "SetError" = some (.ref S1)
  g2 : mg "StateError" = some (.ref S2)
  g3 : mg "LimitError" = some (.ref S3)
  gV : mg "ValueError" = none
  gL : mg "LookupError" = none
  gA : mg "ArithmeticError" = none
  m1 : mg "InvalidSets" = some (.ref C1)
  e1 : ErrF K S1 S2 S3 C1 0
  i1 : PySem.W.findIn K (.ref C1) "index" = some none
  k1_1 : PySem.W.kitOne K (.ref C1) (.ref C1) = some true
  k1_2 : PySem.W.kitOne K (.ref C1) (.ref C2) = some false
  k1_3 : PySem.W.kitOne K (.ref C1) (.ref C3) = some false
  k1_4 : PySem.W.kitOne K (.ref C1) (.ref C4) = some false
  m2 : mg "NotMembers" = some (.ref C2)
  e2 : ErrF K S1 S2 S3 C2 0
  i2 : PySem.W.findIn K (.ref C2) "value" = some none
  k2_1 : PySem.W.kitOne K (.ref C2) (.ref C1) = some false
  k2_2 : PySem.W.kitOne K (.ref C2) (.ref C2) = some true
  k2_3 : PySem.W.kitOne K (.ref C2) (.ref C3) = some false
  k2_4 : PySem.W.kitOne K (.ref C2) (.ref C4) = some false
  m3 : mg "UnknownField" = some (.ref C3)
  e3 : ErrF K S1 S2 S3 C3 0
  i3 : PySem.W.findIn K (.ref C3) "value" = some none
  k3_1 : PySem.W.kitOne K (.ref C3) (.ref C1) = some false
  k3_2 : PySem.W.kitOne K (.ref C3) (.ref C2) = some false
  k3_3 : PySem.W.kitOne K (.ref C3) (.ref C3) = some true
  k3_4 : PySem.W.kitOne K (.ref C3) (.ref C4) = some false
  m4 : mg "InvalidNames" = some (.ref C4)
  e4 : ErrF K S1 S2 S3 C4 0
  i4 : PySem.W.findIn K (.ref C4) "index" = some none
  k4_1 : PySem.W.kitOne K (.ref C4) (.ref C1) = some false
  k4_2 : PySem.W.kitOne K (.ref C4) (.ref C2) = some false
  k4_3 : PySem.W.kitOne K (.ref C4) (.ref C3) = some false
  k4_4 : PySem.W.kitOne K (.ref C4) (.ref C4) = some true
theorem same_free {H H' : Hp} {p : Addr} (s : Same H H') (n : H' p = none) : H p = none := by
  cases hh : H p with
  | none => rfl
  | some o =>
    rw [s _ _ hh] at n
    cases n
theorem grow_keep {H : Hp} {p : Addr} {xs ys : List V} : ∀ b o, b ≠ p → H b = some o → upd (upd H p (.lst xs)) p (.lst (xs ++ ys)) b = some o := fun b o n e => by
  rw [upd_ne n, upd_ne n]
  exact e
/-- ahead of the n-th truth are none -/
theorem first_at {bs : List Bool} {n m : Nat} {z : V} (h : ((bs.take n).all fun b => !b) = true) (hm : m < n) (hz : (bs.map V.bl)[m]? = some z) : eqV z (.bl true) = false := by
  rw [List.getElem?_map] at hz
  obtain ⟨b, hb, rfl⟩ := Option.map_eq_some_iff.mp hz
  have hb2 : b ∈ bs.take n := by
    obtain ⟨l, e⟩ := List.getElem?_eq_some_iff.mp hb
    exact List.mem_iff_getElem.mpr ⟨m, by rw [List.length_take]; omega, by rw [List.getElem_take]; exact e⟩
  have h2 := (List.all_eq_true.mp h) b hb2
  cases b with
  | true => cases h2
  | false => rfl
abbrev nmCaught : List Str := ["_law_ask", "_law_told", "e", "_law_sides", "_law_base", "_law_sorts", "_law_at"]
theorem scCaught : FnScope nmCaught ["_law_ask"] (defScope sCaught) := ⟨rfl, rfl, rfl, by decide +kernel, rfl, by decide +kernel, by decide +kernel⟩
/-- what is told of an error, its attributes at dd; SV tells a value's text -/
def Told (SV : Hp → V → Str → Prop) (C1 C2 C3 C4 : Addr) (Q : VK) : XK := fun cls d H => (∃ (dd : Addr) (v : V) (txt nm : Str), d = some dd ∧ SV H v txt ∧ ((cls = .ref C1 ∧ nm = "InvalidSets" ∧ H dd = some (.xd [("index", v)])) ∨ (cls = .ref C2 ∧ nm = "NotMembers" ∧ H dd = some (.xd [("value", v)])) ∨ (cls = .ref C3 ∧ nm = "UnknownField" ∧ H dd = some (.xd [("value", v)])) ∨ (cls = .ref C4 ∧ nm = "InvalidNames" ∧ H dd = some (.xd [("index", v)]))) ∧
    ∀ (p : Addr) (H' : Hp), H p = none → Same H H' → H' p = some (.lst [.str nm, .str txt]) → Q (.ref p) H') ∨
  ∃ nm : Str, d = none ∧ (False) ∧ ∀ (p : Addr) (H' : Hp), H p = none → Same H H' → H' p = some (.lst [.str nm]) → Q (.ref p) H'
/-- the reading of _law_caught(lambda: ..), where the lambda raises -/
def TTc (SV : Hp → V → Str → Prop) (C1 C2 C3 C4 : Addr) : (XK → Hp → VK → Prop) → Hp → VK → Prop := fun tl H Q => ∀ Q', tl (Told SV C1 C2 C3 C4 Q) H Q'
section
variable {X : Cx}
abbrev cxK (X : Cx) (g : Addr) (cdg : Value) (s : Shared) (H : Hp) : Cx := (cxOf C8.CX0 X.prog X.w X.K X.mg X.base nmCaught "_law_caught" (defScope sCaught) g cdg X.A X.stack s H C8.E0).nox
abbrev suiteOf : List Stmt := match defBody sCaught with
  | (.Try _ [.ExceptHandler _ _ su _] _ _ _) :: _ => su
  | _ => []
mutual
theorem dp_same {K : PySem.W.Frag} {H H' : Hp} (s : Same H H') : ∀ {v : V} {d : PyData}, Dp K H v d → Dp K H' v d
  | _, _, .non => .non
  | _, _, .bl b => .bl b
  | _, _, .int i => .int i
  | _, _, .str x => .str x
  | _, _, .lst h r => .lst (s.seq h) (dpAll_same s r)
  | _, _, .tup h r => .tup (sameT s h) (dpAll_same s r)
theorem dpAll_same {K : PySem.W.Frag} {H H' : Hp} (s : Same H H') : ∀ {vs : List V} {ds : List PyData}, DpAll K H vs ds → DpAll K H' vs ds
  | _, _, .nil => .nil
  | _, _, .cons h r => .cons (dp_same s h) (dpAll_same s r)
end
/-- the suite: an error that Told knows -/
def tCau (SV : Hp → V → Str → Prop) (C1 C2 C3 C4 a : Addr) (cls : Value) (d : Option Addr) : TS := fun D σ H => (∃ σ' : L2.St, σ = σ'.set 2 (some (.ref a))) ∧ Told SV C1 C2 C3 C4 D.rt cls d H
theorem suite_ok {g S1 S2 S3 C1 C2 C3 C4 : Addr} {cdg : Value} {s : Shared} {H0 : Hp} (hgd : X.A.guards = some []) (hu : X.A.units + 300 < cLine) (T : Free X.mg) (EK : ErrK X.K X.mg S1 S2 S3 C1 C2 C3 C4) {SV : Hp → V → Str → Prop} (hS : ∀ H H' v x, Same H H' → SV H v x → SV H' v x)
    {a : Addr} {oe : Obj} {cls : Value} {d : Option Addr} {pn : List (Addr × Obj)} (hz : Zc cls d oe) (hf : ∃ vs, oe.data = .fields vs) (hR : CallR ((cxK X g cdg s H0).suite a ((a, oe) :: pn)) (.builtin "repr") (rSV SV)) :
    PSs ((cxK X g cdg s H0).suite a ((a, oe) :: pn)) suiteOf (tCau SV C1 C2 C3 C4 a cls d) := by
  refine ⟨fun pins s' σ H D I h => ?_⟩
  obtain ⟨⟨σ', eσ⟩, hT⟩ := h
  have hl : σ.length = 7 := I.len
  have hl' : σ'.length = 7 := by rw [eσ, List.length_set] at hl; exact hl
  obtain ⟨x0, x1, x2, x3, x4, x5, x6, e'⟩ : ∃ x0 x1 x2 x3 x4 x5 x6, σ' = [x0, x1, x2, x3, x4, x5, x6] := by
    match σ', hl' with
    | [x0, x1, x2, x3, x4, x5, x6], _ => exact ⟨x0, x1, x2, x3, x4, x5, x6, rfl⟩
  subst e'
  have eσ : σ = [x0, x1, some (.ref a), x3, x4, x5, x6] := eσ
  subst eσ
  obtain ⟨t, ht, hq⟩ : ∃ t, PSs ((cxK X g cdg s H0).suite a ((a, oe) :: pn)) suiteOf t ∧ t D [x0, x1, some (.ref a), x3, x4, x5, x6] H := by
    rcases hT with ⟨dd, v, txt, nm, rfl, hsd, (⟨rfl, rfl, hd⟩ | ⟨rfl, rfl, hd⟩ | ⟨rfl, rfl, hd⟩ | ⟨rfl, rfl, hd⟩), q⟩ | ⟨nm, rfl, (⟨⟩), q⟩
    · have eC := EK.e1.ec
      have k1 : PySem.W.kitOne X.K (.ref C1) (.ref S1) = some true := EK.e1.k1
      have k2 : PySem.W.kitOne X.K (.ref C1) (.ref S2) = some false := EK.e1.k2
      have k3 : PySem.W.kitOne X.K (.ref C1) (.ref S3) = some false := EK.e1.k3
      have kV : PySem.W.kitOne X.K (.ref C1) (.type "ValueError") = some true := EK.e1.kV
      have kL : PySem.W.kitOne X.K (.ref C1) (.type "LookupError") = some false := EK.e1.kL
      have kA : PySem.W.kitOne X.K (.ref C1) (.type "ArithmeticError") = some false := EK.e1.kA
      refine ⟨_, pss_cons (ps_set (i := 3) scCaught.nd rfl (.inl rfl) (pe_lst (pa_cons (pe_callB (call_isX (X := cxK X g cdg s H0) (a := a) (pn := pn) hz hf) (by rfl) T.isinstance (by decide +kernel) (pa_cons (pv 2) (pa_cons (pe_glob (v := .ref S1) (by rfl) EK.g1 rfl) pa_nil))) (pa_cons (pe_callB (call_isX (X := cxK X g cdg s H0) (a := a) (pn := pn) hz hf) (by rfl) T.isinstance (by decide +kernel) (pa_cons (pv 2) (pa_cons (pe_glob (v := .ref S2) (by rfl) EK.g2 rfl) pa_nil))) (pa_cons (pe_callB (call_isX (X := cxK X g cdg s H0) (a := a) (pn := pn) hz hf) (by rfl) T.isinstance (by decide +kernel) (pa_cons (pv 2) (pa_cons (pe_glob (v := .ref S3) (by rfl) EK.g3 rfl) pa_nil))) pa_nil)))))
          (pss_cons (ps_set (i := 4) scCaught.nd rfl (.inl rfl) (pe_lst (pa_cons (pe_callB (call_isX (X := cxK X g cdg s H0) (a := a) (pn := pn) hz hf) (by rfl) T.isinstance (by decide +kernel) (pa_cons (pv 2) (pa_cons (pe_bltn (v := .ty "ValueError") (u := .type "ValueError") (by rfl) EK.gV (by decide +kernel) rfl) pa_nil))) (pa_cons (pe_callB (call_isX (X := cxK X g cdg s H0) (a := a) (pn := pn) hz hf) (by rfl) T.isinstance (by decide +kernel) (pa_cons (pv 2) (pa_cons (pe_bltn (v := .ty "LookupError") (u := .type "LookupError") (by rfl) EK.gL (by decide +kernel) rfl) pa_nil))) pa_nil))))
          (pss_cons (ps_expr (pe_bm PySem.F.plainAttrs_list PySem.F.slot_list_append PySem.F.type_list_append mt_append (pv 4) (pa_cons (pe_callB (call_isX (X := cxK X g cdg s H0) (a := a) (pn := pn) hz hf) (by rfl) T.isinstance (by decide +kernel) (pa_cons (pv 2) (pa_cons (pe_bltn (v := .ty "ArithmeticError") (u := .type "ArithmeticError") (by rfl) EK.gA (by decide +kernel) rfl) pa_nil))) pa_nil)))
          (pss_cons (ps_set (i := 5) scCaught.nd rfl (.inl rfl) (pe_lst (pa_cons (pe_callB (call_isX (X := cxK X g cdg s H0) (a := a) (pn := pn) hz hf) (by rfl) T.isinstance (by decide +kernel) (pa_cons (pv 2) (pa_cons (pe_glob (v := .ref C1) (by rfl) EK.m1 rfl) pa_nil))) pa_nil)))
          (pss_cons (ps_expr (pe_bm PySem.F.plainAttrs_list PySem.F.slot_list_append PySem.F.type_list_append mt_append (pv 5) (pa_cons (pe_callB (call_isX (X := cxK X g cdg s H0) (a := a) (pn := pn) hz hf) (by rfl) T.isinstance (by decide +kernel) (pa_cons (pv 2) (pa_cons (pe_glob (v := .ref C2) (by rfl) EK.m2 rfl) pa_nil))) pa_nil)))
          (pss_cons (ps_expr (pe_bm PySem.F.plainAttrs_list PySem.F.slot_list_append PySem.F.type_list_append mt_append (pv 5) (pa_cons (pe_callB (call_isX (X := cxK X g cdg s H0) (a := a) (pn := pn) hz hf) (by rfl) T.isinstance (by decide +kernel) (pa_cons (pv 2) (pa_cons (pe_glob (v := .ref C3) (by rfl) EK.m3 rfl) pa_nil))) pa_nil)))
          (pss_cons (ps_expr (pe_bm PySem.F.plainAttrs_list PySem.F.slot_list_append PySem.F.type_list_append mt_append (pv 5) (pa_cons (pe_callB (call_isX (X := cxK X g cdg s H0) (a := a) (pn := pn) hz hf) (by rfl) T.isinstance (by decide +kernel) (pa_cons (pv 2) (pa_cons (pe_glob (v := .ref C4) (by rfl) EK.m4 rfl) pa_nil))) pa_nil)))
          (pss_cons (ps_if (PW.pt (pw_or (pt_cmpR op_ne (pe_bm PySem.F.plainAttrs_list PySem.F.slot_list_count PySem.F.type_list_count mt_lcountB (pv 5) (pa_cons pe_bl pa_nil)) pe_int (nomark _)) (pw_or (pt_cmpR (op_neD (by show X.A.units + 3 + 64 < cLine; omega)) (pv 3) (pv 4) (nomark _)) (pw_or1 (pt_cmpR op_ne (pe_bm PySem.F.plainAttrs_list PySem.F.slot_list_count PySem.F.type_list_count mt_lcountB (pv 3) (pa_cons pe_bl pa_nil)) pe_int (nomark _)))))) (pss_one (ps_ret (pe_lst (pa_cons pe_str pa_nil)))) pss_nil)
          (pss_cons (ps_set (i := 6) scCaught.nd rfl (.inl rfl) (pe_bm PySem.F.plainAttrs_list PySem.F.slot_list_index PySem.F.type_list_index mt_index (pv 5) (pa_cons pe_bl pa_nil)))
          (pss_cons (ps_if (pt_cmpR op_ne (pe_bm PySem.F.plainAttrs_list PySem.F.slot_list_index PySem.F.type_list_index mt_index (pv 3) (pa_cons pe_bl pa_nil)) (pe_ix ix_list (pe_lst (pa_cons pe_int (pa_cons pe_int (pa_cons pe_int (pa_cons pe_int pa_nil))))) (pv 6) (fun _ _ => rfl)) (nomark _)) (pss_one (ps_ret (pe_lst (pa_cons pe_str pa_nil)))) pss_nil)
          (pss_cons (ps_if (pt_cmpR op_eq (pv 6) pe_int (nomark _)) (pss_one (ps_ret (pe_lst (pa_cons pe_str (pa_cons (pe_callB hR (by rfl) T.repr (by decide +kernel) (pa_cons (pe_xf EK.e1.xf EK.i1 hz hf (pv 2)) pa_nil)) pa_nil))))) pss_nil)
          (pss_cons (ps_if (pt_cmpR op_eq (pv 6) pe_int (nomark _)) (pss_one (ps_ret (pe_lst (pa_cons pe_str (pa_cons (pe_callB hR (by rfl) T.repr (by decide +kernel) (pa_cons (pe_xf EK.e2.xf EK.i2 hz hf (pv 2)) pa_nil)) pa_nil))))) pss_nil)
          (pss_cons (ps_if (pt_cmpR op_eq (pv 6) pe_int (nomark _)) (pss_one (ps_ret (pe_lst (pa_cons pe_str (pa_cons (pe_callB hR (by rfl) T.repr (by decide +kernel) (pa_cons (pe_xf EK.e3.xf EK.i3 hz hf (pv 2)) pa_nil)) pa_nil))))) pss_nil)
          (pss_one (ps_if (pt_cmpR op_eq (pv 6) pe_int (nomark _)) (pss_one (ps_ret (pe_lst (pa_cons pe_str (pa_cons (pe_callB hR (by rfl) T.repr (by decide +kernel) (pa_cons (pe_xf EK.e4.xf EK.i4 hz hf (pv 2)) pa_nil)) pa_nil))))) pss_nil)))))))))))))), ?_⟩
      refine ⟨_, rfl, C1, rfl, eC, _, _, _, dd, _, rfl, rfl, hd, (fun u h => h), k1, _, rfl, C1, rfl, eC, _, _, _, dd, _, rfl, rfl, hd, (fun u h => h), k2, _, rfl, C1, rfl, eC, _, _, _, dd, _, rfl, rfl, hd, (fun u h => h), k3, (by show 3 ≤ sizeLine; decide), fun p3 n3 => ?_⟩
      have s3 : Same H (upd H p3 (.lst [.bl true, .bl false, .bl false])) := same_upd n3
      generalize e3 : upd H p3 (.lst [.bl true, .bl false, .bl false]) = H3 at s3 ⊢
      have h3 : H3 p3 = some (.lst [.bl true, .bl false, .bl false]) := by rw [← e3]; exact upd_same
      clear e3
      have hd3 := s3 _ _ hd
      refine ⟨_, rfl, C1, rfl, eC, _, _, _, dd, _, rfl, rfl, hd3, (fun u h => h), kV, _, rfl, C1, rfl, eC, _, _, _, dd, _, rfl, rfl, hd3, (fun u h => h), kL, (by show 2 ≤ sizeLine; decide), fun p4 n4 => ?_⟩
      have hd4 : upd H3 p4 (.lst [.bl true, .bl false]) dd = some (.xd _) := same_upd n4 _ _ hd3
      refine ⟨_, rfl, .inl ⟨rfl, _, SqL.of upd_same⟩, _, rfl, C1, rfl, eC, _, _, _, dd, _, rfl, rfl, hd4, (fun u h => h), kA, p4, _, _, rfl, rfl, upd_same, (by show 2 < sizeLine; decide), ?_⟩
      have f4 : H p4 = none := same_free s3 n4
      have s4 := grow_keep (H := H3) (p := p4) (xs := [.bl true, .bl false]) (ys := [.bl false])
      generalize e4 : upd (upd H3 p4 (.lst [.bl true, .bl false])) p4 (.lst ([.bl true, .bl false] ++ [.bl false])) = H4 at s4 ⊢
      have h4 : H4 p4 = some (.lst [.bl true, .bl false, .bl false]) := by rw [← e4]; exact upd_same
      clear e4
      have t4 : Same H H4 := fun b o e => s4 b o (ne_of_none e f4) (s3 _ _ e)
      have h43 : H4 p3 = some (.lst [.bl true, .bl false, .bl false]) := s4 _ _ (ne_of_none h3 n4) h3
      have hd5 := t4 _ _ hd
      refine ⟨_, rfl, C1, rfl, eC, _, _, _, dd, _, rfl, rfl, hd5, (fun u h => h), EK.k1_1, (by show 1 ≤ sizeLine; decide), fun p5 n5 => ?_⟩
      have f5 : H p5 = none := same_free t4 n5
      have s5_0 : ∀ b o, b ≠ p5 → H4 b = some o → upd H4 p5 (.lst [.bl true]) b = some o := fun b o n e => by rw [upd_ne n]; exact e
      generalize e5 : upd H4 p5 (.lst [.bl true]) = H5_0 at s5_0 ⊢
      have h5_0 : H5_0 p5 = some (.lst [.bl true]) := by rw [← e5]; exact upd_same
      clear e5
      have hdx1 := s5_0 _ _ (ne_of_none hd5 n5) hd5
      refine ⟨_, rfl, .inl ⟨rfl, _, SqL.of h5_0⟩, _, rfl, C1, rfl, eC, _, _, _, dd, _, rfl, rfl, hdx1, (fun u h => h), EK.k1_2, p5, _, _, rfl, rfl, h5_0, (by show 1 < sizeLine; decide), ?_⟩
      have s5_1 : ∀ b o, b ≠ p5 → H4 b = some o → upd H5_0 p5 (.lst ([.bl true] ++ [.bl false])) b = some o := fun b o n e => by rw [upd_ne n]; exact s5_0 b o n e
      generalize e5 : upd H5_0 p5 (.lst ([.bl true] ++ [.bl false])) = H5_1 at s5_1 ⊢
      have h5_1 : H5_1 p5 = some (.lst [.bl true, .bl false]) := by rw [← e5]; exact upd_same
      clear e5
      have hdx2 := s5_1 _ _ (ne_of_none hd5 n5) hd5
      refine ⟨_, rfl, .inl ⟨rfl, _, SqL.of h5_1⟩, _, rfl, C1, rfl, eC, _, _, _, dd, _, rfl, rfl, hdx2, (fun u h => h), EK.k1_3, p5, _, _, rfl, rfl, h5_1, (by show 2 < sizeLine; decide), ?_⟩
      have s5_2 : ∀ b o, b ≠ p5 → H4 b = some o → upd H5_1 p5 (.lst ([.bl true, .bl false] ++ [.bl false])) b = some o := fun b o n e => by rw [upd_ne n]; exact s5_1 b o n e
      generalize e5 : upd H5_1 p5 (.lst ([.bl true, .bl false] ++ [.bl false])) = H5_2 at s5_2 ⊢
      have h5_2 : H5_2 p5 = some (.lst [.bl true, .bl false, .bl false]) := by rw [← e5]; exact upd_same
      clear e5
      have hdx3 := s5_2 _ _ (ne_of_none hd5 n5) hd5
      refine ⟨_, rfl, .inl ⟨rfl, _, SqL.of h5_2⟩, _, rfl, C1, rfl, eC, _, _, _, dd, _, rfl, rfl, hdx3, (fun u h => h), EK.k1_4, p5, _, _, rfl, rfl, h5_2, (by show 3 < sizeLine; decide), ?_⟩
      have s5_3 : ∀ b o, b ≠ p5 → H4 b = some o → upd H5_2 p5 (.lst ([.bl true, .bl false, .bl false] ++ [.bl false])) b = some o := fun b o n e => by rw [upd_ne n]; exact s5_2 b o n e
      generalize e5 : upd H5_2 p5 (.lst ([.bl true, .bl false, .bl false] ++ [.bl false])) = H5_3 at s5_3 ⊢
      have h5_3 : H5_3 p5 = some (.lst [.bl true, .bl false, .bl false, .bl false]) := by rw [← e5]; exact upd_same
      clear e5
      have t5 : Same H H5_3 := fun b o e => s5_3 b o (ne_of_none e f5) (t4 _ _ e)
      have h53 : H5_3 p3 = some (.lst [.bl true, .bl false, .bl false]) := s5_3 _ _ (ne_of_none h43 n5) h43
      have h54 : H5_3 p4 = some (.lst [.bl true, .bl false, .bl false]) := s5_3 _ _ (ne_of_none h4 n5) h4
      have dp : ∀ {p : Addr}, H5_3 p = some (.lst [.bl true, .bl false, .bl false]) → Dp X.K H5_3 (.ref p) (.list [.bool true, .bool false, .bool false]) := fun e => .lst (SqL.of e) (.cons (.bl _) (.cons (.bl _) (.cons (.bl _) .nil)))
      refine ⟨_, rfl, .inl ⟨rfl, _, SqL.of h5_3⟩, p5, [true, false, false, false], rfl, rfl, SqL.of h5_3, rfl, _, rfl, ?_⟩
      refine iteF ?_
      refine ⟨_, rfl, _, rfl, _, _, dp h53, dp h54, by decide +kernel, by decide +kernel, _, rfl, ?_⟩
      refine iteF ?_
      refine ⟨_, rfl, .inl ⟨rfl, _, SqL.of h53⟩, p3, [true, false, false], rfl, rfl, SqL.of h53, rfl, _, rfl, ?_⟩
      refine iteF ?_
      refine ⟨_, rfl, .inl ⟨rfl, _, SqL.of h5_3⟩, p5, _, _, 0, .bl true, rfl, rfl, SqL.of h5_3, rfl, rfl, rfl, rfl, (fun m z hm => absurd hm (Nat.not_lt_zero m)), ?_⟩
      refine ⟨_, rfl, .inl ⟨rfl, _, SqL.of h53⟩, p3, _, _, 0, .bl true, rfl, rfl, SqL.of h53, rfl, rfl, rfl, rfl, (fun m z hm => absurd hm (Nat.not_lt_zero m)), (by show 4 ≤ sizeLine; decide), fun p7 n7 => ?_⟩
      have s7 : Same H5_3 (upd H5_3 p7 (.lst [.int 0, .int 0, .int 0, .int 0])) := same_upd n7
      refine ⟨_, rfl, p7, _, _, .int 0, rfl, rfl, SqL.of upd_same, atI_nat (j := 0) rfl, rfl, _, rfl, ?_⟩
      generalize upd H5_3 p7 (.lst [.int 0, .int 0, .int 0, .int 0]) = H7 at s7 ⊢
      have t7 : Same H H7 := t5.trans s7
      refine iteF ?_
      refine ⟨_, rfl, rfl, _, rfl, ?_⟩
      refine iteT ?_
      refine ⟨_, rfl, rfl, rfl, dd, _, v, rfl, t7 _ _ hd, rfl, v, txt, rfl, hS _ _ _ _ t7 hsd, (by show 2 ≤ sizeLine; decide), fun p n => ?_⟩
      exact q p _ (same_free t7 n) (t7.trans (same_upd n)) upd_same
    · have eC := EK.e2.ec
      have k1 : PySem.W.kitOne X.K (.ref C2) (.ref S1) = some true := EK.e2.k1
      have k2 : PySem.W.kitOne X.K (.ref C2) (.ref S2) = some false := EK.e2.k2
      have k3 : PySem.W.kitOne X.K (.ref C2) (.ref S3) = some false := EK.e2.k3
      have kV : PySem.W.kitOne X.K (.ref C2) (.type "ValueError") = some true := EK.e2.kV
      have kL : PySem.W.kitOne X.K (.ref C2) (.type "LookupError") = some false := EK.e2.kL
      have kA : PySem.W.kitOne X.K (.ref C2) (.type "ArithmeticError") = some false := EK.e2.kA
      refine ⟨_, pss_cons (ps_set (i := 3) scCaught.nd rfl (.inl rfl) (pe_lst (pa_cons (pe_callB (call_isX (X := cxK X g cdg s H0) (a := a) (pn := pn) hz hf) (by rfl) T.isinstance (by decide +kernel) (pa_cons (pv 2) (pa_cons (pe_glob (v := .ref S1) (by rfl) EK.g1 rfl) pa_nil))) (pa_cons (pe_callB (call_isX (X := cxK X g cdg s H0) (a := a) (pn := pn) hz hf) (by rfl) T.isinstance (by decide +kernel) (pa_cons (pv 2) (pa_cons (pe_glob (v := .ref S2) (by rfl) EK.g2 rfl) pa_nil))) (pa_cons (pe_callB (call_isX (X := cxK X g cdg s H0) (a := a) (pn := pn) hz hf) (by rfl) T.isinstance (by decide +kernel) (pa_cons (pv 2) (pa_cons (pe_glob (v := .ref S3) (by rfl) EK.g3 rfl) pa_nil))) pa_nil)))))
          (pss_cons (ps_set (i := 4) scCaught.nd rfl (.inl rfl) (pe_lst (pa_cons (pe_callB (call_isX (X := cxK X g cdg s H0) (a := a) (pn := pn) hz hf) (by rfl) T.isinstance (by decide +kernel) (pa_cons (pv 2) (pa_cons (pe_bltn (v := .ty "ValueError") (u := .type "ValueError") (by rfl) EK.gV (by decide +kernel) rfl) pa_nil))) (pa_cons (pe_callB (call_isX (X := cxK X g cdg s H0) (a := a) (pn := pn) hz hf) (by rfl) T.isinstance (by decide +kernel) (pa_cons (pv 2) (pa_cons (pe_bltn (v := .ty "LookupError") (u := .type "LookupError") (by rfl) EK.gL (by decide +kernel) rfl) pa_nil))) pa_nil))))
          (pss_cons (ps_expr (pe_bm PySem.F.plainAttrs_list PySem.F.slot_list_append PySem.F.type_list_append mt_append (pv 4) (pa_cons (pe_callB (call_isX (X := cxK X g cdg s H0) (a := a) (pn := pn) hz hf) (by rfl) T.isinstance (by decide +kernel) (pa_cons (pv 2) (pa_cons (pe_bltn (v := .ty "ArithmeticError") (u := .type "ArithmeticError") (by rfl) EK.gA (by decide +kernel) rfl) pa_nil))) pa_nil)))
          (pss_cons (ps_set (i := 5) scCaught.nd rfl (.inl rfl) (pe_lst (pa_cons (pe_callB (call_isX (X := cxK X g cdg s H0) (a := a) (pn := pn) hz hf) (by rfl) T.isinstance (by decide +kernel) (pa_cons (pv 2) (pa_cons (pe_glob (v := .ref C1) (by rfl) EK.m1 rfl) pa_nil))) pa_nil)))
          (pss_cons (ps_expr (pe_bm PySem.F.plainAttrs_list PySem.F.slot_list_append PySem.F.type_list_append mt_append (pv 5) (pa_cons (pe_callB (call_isX (X := cxK X g cdg s H0) (a := a) (pn := pn) hz hf) (by rfl) T.isinstance (by decide +kernel) (pa_cons (pv 2) (pa_cons (pe_glob (v := .ref C2) (by rfl) EK.m2 rfl) pa_nil))) pa_nil)))
          (pss_cons (ps_expr (pe_bm PySem.F.plainAttrs_list PySem.F.slot_list_append PySem.F.type_list_append mt_append (pv 5) (pa_cons (pe_callB (call_isX (X := cxK X g cdg s H0) (a := a) (pn := pn) hz hf) (by rfl) T.isinstance (by decide +kernel) (pa_cons (pv 2) (pa_cons (pe_glob (v := .ref C3) (by rfl) EK.m3 rfl) pa_nil))) pa_nil)))
          (pss_cons (ps_expr (pe_bm PySem.F.plainAttrs_list PySem.F.slot_list_append PySem.F.type_list_append mt_append (pv 5) (pa_cons (pe_callB (call_isX (X := cxK X g cdg s H0) (a := a) (pn := pn) hz hf) (by rfl) T.isinstance (by decide +kernel) (pa_cons (pv 2) (pa_cons (pe_glob (v := .ref C4) (by rfl) EK.m4 rfl) pa_nil))) pa_nil)))
          (pss_cons (ps_if (PW.pt (pw_or (pt_cmpR op_ne (pe_bm PySem.F.plainAttrs_list PySem.F.slot_list_count PySem.F.type_list_count mt_lcountB (pv 5) (pa_cons pe_bl pa_nil)) pe_int (nomark _)) (pw_or (pt_cmpR (op_neD (by show X.A.units + 3 + 64 < cLine; omega)) (pv 3) (pv 4) (nomark _)) (pw_or1 (pt_cmpR op_ne (pe_bm PySem.F.plainAttrs_list PySem.F.slot_list_count PySem.F.type_list_count mt_lcountB (pv 3) (pa_cons pe_bl pa_nil)) pe_int (nomark _)))))) (pss_one (ps_ret (pe_lst (pa_cons pe_str pa_nil)))) pss_nil)
          (pss_cons (ps_set (i := 6) scCaught.nd rfl (.inl rfl) (pe_bm PySem.F.plainAttrs_list PySem.F.slot_list_index PySem.F.type_list_index mt_index (pv 5) (pa_cons pe_bl pa_nil)))
          (pss_cons (ps_if (pt_cmpR op_ne (pe_bm PySem.F.plainAttrs_list PySem.F.slot_list_index PySem.F.type_list_index mt_index (pv 3) (pa_cons pe_bl pa_nil)) (pe_ix ix_list (pe_lst (pa_cons pe_int (pa_cons pe_int (pa_cons pe_int (pa_cons pe_int pa_nil))))) (pv 6) (fun _ _ => rfl)) (nomark _)) (pss_one (ps_ret (pe_lst (pa_cons pe_str pa_nil)))) pss_nil)
          (pss_cons (ps_if (pt_cmpR op_eq (pv 6) pe_int (nomark _)) (pss_one (ps_ret (pe_lst (pa_cons pe_str (pa_cons (pe_callB hR (by rfl) T.repr (by decide +kernel) (pa_cons (pe_xf EK.e1.xf EK.i1 hz hf (pv 2)) pa_nil)) pa_nil))))) pss_nil)
          (pss_cons (ps_if (pt_cmpR op_eq (pv 6) pe_int (nomark _)) (pss_one (ps_ret (pe_lst (pa_cons pe_str (pa_cons (pe_callB hR (by rfl) T.repr (by decide +kernel) (pa_cons (pe_xf EK.e2.xf EK.i2 hz hf (pv 2)) pa_nil)) pa_nil))))) pss_nil)
          (pss_cons (ps_if (pt_cmpR op_eq (pv 6) pe_int (nomark _)) (pss_one (ps_ret (pe_lst (pa_cons pe_str (pa_cons (pe_callB hR (by rfl) T.repr (by decide +kernel) (pa_cons (pe_xf EK.e3.xf EK.i3 hz hf (pv 2)) pa_nil)) pa_nil))))) pss_nil)
          (pss_one (ps_if (pt_cmpR op_eq (pv 6) pe_int (nomark _)) (pss_one (ps_ret (pe_lst (pa_cons pe_str (pa_cons (pe_callB hR (by rfl) T.repr (by decide +kernel) (pa_cons (pe_xf EK.e4.xf EK.i4 hz hf (pv 2)) pa_nil)) pa_nil))))) pss_nil)))))))))))))), ?_⟩
      refine ⟨_, rfl, C2, rfl, eC, _, _, _, dd, _, rfl, rfl, hd, (fun u h => h), k1, _, rfl, C2, rfl, eC, _, _, _, dd, _, rfl, rfl, hd, (fun u h => h), k2, _, rfl, C2, rfl, eC, _, _, _, dd, _, rfl, rfl, hd, (fun u h => h), k3, (by show 3 ≤ sizeLine; decide), fun p3 n3 => ?_⟩
      have s3 : Same H (upd H p3 (.lst [.bl true, .bl false, .bl false])) := same_upd n3
      generalize e3 : upd H p3 (.lst [.bl true, .bl false, .bl false]) = H3 at s3 ⊢
      have h3 : H3 p3 = some (.lst [.bl true, .bl false, .bl false]) := by rw [← e3]; exact upd_same
      clear e3
      have hd3 := s3 _ _ hd
      refine ⟨_, rfl, C2, rfl, eC, _, _, _, dd, _, rfl, rfl, hd3, (fun u h => h), kV, _, rfl, C2, rfl, eC, _, _, _, dd, _, rfl, rfl, hd3, (fun u h => h), kL, (by show 2 ≤ sizeLine; decide), fun p4 n4 => ?_⟩
      have hd4 : upd H3 p4 (.lst [.bl true, .bl false]) dd = some (.xd _) := same_upd n4 _ _ hd3
      refine ⟨_, rfl, .inl ⟨rfl, _, SqL.of upd_same⟩, _, rfl, C2, rfl, eC, _, _, _, dd, _, rfl, rfl, hd4, (fun u h => h), kA, p4, _, _, rfl, rfl, upd_same, (by show 2 < sizeLine; decide), ?_⟩
      have f4 : H p4 = none := same_free s3 n4
      have s4 := grow_keep (H := H3) (p := p4) (xs := [.bl true, .bl false]) (ys := [.bl false])
      generalize e4 : upd (upd H3 p4 (.lst [.bl true, .bl false])) p4 (.lst ([.bl true, .bl false] ++ [.bl false])) = H4 at s4 ⊢
      have h4 : H4 p4 = some (.lst [.bl true, .bl false, .bl false]) := by rw [← e4]; exact upd_same
      clear e4
      have t4 : Same H H4 := fun b o e => s4 b o (ne_of_none e f4) (s3 _ _ e)
      have h43 : H4 p3 = some (.lst [.bl true, .bl false, .bl false]) := s4 _ _ (ne_of_none h3 n4) h3
      have hd5 := t4 _ _ hd
      refine ⟨_, rfl, C2, rfl, eC, _, _, _, dd, _, rfl, rfl, hd5, (fun u h => h), EK.k2_1, (by show 1 ≤ sizeLine; decide), fun p5 n5 => ?_⟩
      have f5 : H p5 = none := same_free t4 n5
      have s5_0 : ∀ b o, b ≠ p5 → H4 b = some o → upd H4 p5 (.lst [.bl false]) b = some o := fun b o n e => by rw [upd_ne n]; exact e
      generalize e5 : upd H4 p5 (.lst [.bl false]) = H5_0 at s5_0 ⊢
      have h5_0 : H5_0 p5 = some (.lst [.bl false]) := by rw [← e5]; exact upd_same
      clear e5
      have hdx1 := s5_0 _ _ (ne_of_none hd5 n5) hd5
      refine ⟨_, rfl, .inl ⟨rfl, _, SqL.of h5_0⟩, _, rfl, C2, rfl, eC, _, _, _, dd, _, rfl, rfl, hdx1, (fun u h => h), EK.k2_2, p5, _, _, rfl, rfl, h5_0, (by show 1 < sizeLine; decide), ?_⟩
      have s5_1 : ∀ b o, b ≠ p5 → H4 b = some o → upd H5_0 p5 (.lst ([.bl false] ++ [.bl true])) b = some o := fun b o n e => by rw [upd_ne n]; exact s5_0 b o n e
      generalize e5 : upd H5_0 p5 (.lst ([.bl false] ++ [.bl true])) = H5_1 at s5_1 ⊢
      have h5_1 : H5_1 p5 = some (.lst [.bl false, .bl true]) := by rw [← e5]; exact upd_same
      clear e5
      have hdx2 := s5_1 _ _ (ne_of_none hd5 n5) hd5
      refine ⟨_, rfl, .inl ⟨rfl, _, SqL.of h5_1⟩, _, rfl, C2, rfl, eC, _, _, _, dd, _, rfl, rfl, hdx2, (fun u h => h), EK.k2_3, p5, _, _, rfl, rfl, h5_1, (by show 2 < sizeLine; decide), ?_⟩
      have s5_2 : ∀ b o, b ≠ p5 → H4 b = some o → upd H5_1 p5 (.lst ([.bl false, .bl true] ++ [.bl false])) b = some o := fun b o n e => by rw [upd_ne n]; exact s5_1 b o n e
      generalize e5 : upd H5_1 p5 (.lst ([.bl false, .bl true] ++ [.bl false])) = H5_2 at s5_2 ⊢
      have h5_2 : H5_2 p5 = some (.lst [.bl false, .bl true, .bl false]) := by rw [← e5]; exact upd_same
      clear e5
      have hdx3 := s5_2 _ _ (ne_of_none hd5 n5) hd5
      refine ⟨_, rfl, .inl ⟨rfl, _, SqL.of h5_2⟩, _, rfl, C2, rfl, eC, _, _, _, dd, _, rfl, rfl, hdx3, (fun u h => h), EK.k2_4, p5, _, _, rfl, rfl, h5_2, (by show 3 < sizeLine; decide), ?_⟩
      have s5_3 : ∀ b o, b ≠ p5 → H4 b = some o → upd H5_2 p5 (.lst ([.bl false, .bl true, .bl false] ++ [.bl false])) b = some o := fun b o n e => by rw [upd_ne n]; exact s5_2 b o n e
      generalize e5 : upd H5_2 p5 (.lst ([.bl false, .bl true, .bl false] ++ [.bl false])) = H5_3 at s5_3 ⊢
      have h5_3 : H5_3 p5 = some (.lst [.bl false, .bl true, .bl false, .bl false]) := by rw [← e5]; exact upd_same
      clear e5
      have t5 : Same H H5_3 := fun b o e => s5_3 b o (ne_of_none e f5) (t4 _ _ e)
      have h53 : H5_3 p3 = some (.lst [.bl true, .bl false, .bl false]) := s5_3 _ _ (ne_of_none h43 n5) h43
      have h54 : H5_3 p4 = some (.lst [.bl true, .bl false, .bl false]) := s5_3 _ _ (ne_of_none h4 n5) h4
      have dp : ∀ {p : Addr}, H5_3 p = some (.lst [.bl true, .bl false, .bl false]) → Dp X.K H5_3 (.ref p) (.list [.bool true, .bool false, .bool false]) := fun e => .lst (SqL.of e) (.cons (.bl _) (.cons (.bl _) (.cons (.bl _) .nil)))
      refine ⟨_, rfl, .inl ⟨rfl, _, SqL.of h5_3⟩, p5, [false, true, false, false], rfl, rfl, SqL.of h5_3, rfl, _, rfl, ?_⟩
      refine iteF ?_
      refine ⟨_, rfl, _, rfl, _, _, dp h53, dp h54, by decide +kernel, by decide +kernel, _, rfl, ?_⟩
      refine iteF ?_
      refine ⟨_, rfl, .inl ⟨rfl, _, SqL.of h53⟩, p3, [true, false, false], rfl, rfl, SqL.of h53, rfl, _, rfl, ?_⟩
      refine iteF ?_
      refine ⟨_, rfl, .inl ⟨rfl, _, SqL.of h5_3⟩, p5, _, _, 1, .bl true, rfl, rfl, SqL.of h5_3, rfl, rfl, rfl, rfl, (fun m z hm hz => first_at (bs := [false, true, false, false]) (n := 1) (by decide) hm hz), ?_⟩
      refine ⟨_, rfl, .inl ⟨rfl, _, SqL.of h53⟩, p3, _, _, 0, .bl true, rfl, rfl, SqL.of h53, rfl, rfl, rfl, rfl, (fun m z hm => absurd hm (Nat.not_lt_zero m)), (by show 4 ≤ sizeLine; decide), fun p7 n7 => ?_⟩
      have s7 : Same H5_3 (upd H5_3 p7 (.lst [.int 0, .int 0, .int 0, .int 0])) := same_upd n7
      refine ⟨_, rfl, p7, _, _, .int 0, rfl, rfl, SqL.of upd_same, atI_nat (j := 1) rfl, rfl, _, rfl, ?_⟩
      generalize upd H5_3 p7 (.lst [.int 0, .int 0, .int 0, .int 0]) = H7 at s7 ⊢
      have t7 : Same H H7 := t5.trans s7
      refine iteF ?_
      refine ⟨_, rfl, rfl, _, rfl, ?_⟩
      refine iteF ?_
      refine ⟨_, rfl, rfl, _, rfl, ?_⟩
      refine iteT ?_
      refine ⟨_, rfl, rfl, rfl, dd, _, v, rfl, t7 _ _ hd, rfl, v, txt, rfl, hS _ _ _ _ t7 hsd, (by show 2 ≤ sizeLine; decide), fun p n => ?_⟩
      exact q p _ (same_free t7 n) (t7.trans (same_upd n)) upd_same
    · have eC := EK.e3.ec
      have k1 : PySem.W.kitOne X.K (.ref C3) (.ref S1) = some true := EK.e3.k1
      have k2 : PySem.W.kitOne X.K (.ref C3) (.ref S2) = some false := EK.e3.k2
      have k3 : PySem.W.kitOne X.K (.ref C3) (.ref S3) = some false := EK.e3.k3
      have kV : PySem.W.kitOne X.K (.ref C3) (.type "ValueError") = some true := EK.e3.kV
      have kL : PySem.W.kitOne X.K (.ref C3) (.type "LookupError") = some false := EK.e3.kL
      have kA : PySem.W.kitOne X.K (.ref C3) (.type "ArithmeticError") = some false := EK.e3.kA
      refine ⟨_, pss_cons (ps_set (i := 3) scCaught.nd rfl (.inl rfl) (pe_lst (pa_cons (pe_callB (call_isX (X := cxK X g cdg s H0) (a := a) (pn := pn) hz hf) (by rfl) T.isinstance (by decide +kernel) (pa_cons (pv 2) (pa_cons (pe_glob (v := .ref S1) (by rfl) EK.g1 rfl) pa_nil))) (pa_cons (pe_callB (call_isX (X := cxK X g cdg s H0) (a := a) (pn := pn) hz hf) (by rfl) T.isinstance (by decide +kernel) (pa_cons (pv 2) (pa_cons (pe_glob (v := .ref S2) (by rfl) EK.g2 rfl) pa_nil))) (pa_cons (pe_callB (call_isX (X := cxK X g cdg s H0) (a := a) (pn := pn) hz hf) (by rfl) T.isinstance (by decide +kernel) (pa_cons (pv 2) (pa_cons (pe_glob (v := .ref S3) (by rfl) EK.g3 rfl) pa_nil))) pa_nil)))))
          (pss_cons (ps_set (i := 4) scCaught.nd rfl (.inl rfl) (pe_lst (pa_cons (pe_callB (call_isX (X := cxK X g cdg s H0) (a := a) (pn := pn) hz hf) (by rfl) T.isinstance (by decide +kernel) (pa_cons (pv 2) (pa_cons (pe_bltn (v := .ty "ValueError") (u := .type "ValueError") (by rfl) EK.gV (by decide +kernel) rfl) pa_nil))) (pa_cons (pe_callB (call_isX (X := cxK X g cdg s H0) (a := a) (pn := pn) hz hf) (by rfl) T.isinstance (by decide +kernel) (pa_cons (pv 2) (pa_cons (pe_bltn (v := .ty "LookupError") (u := .type "LookupError") (by rfl) EK.gL (by decide +kernel) rfl) pa_nil))) pa_nil))))
          (pss_cons (ps_expr (pe_bm PySem.F.plainAttrs_list PySem.F.slot_list_append PySem.F.type_list_append mt_append (pv 4) (pa_cons (pe_callB (call_isX (X := cxK X g cdg s H0) (a := a) (pn := pn) hz hf) (by rfl) T.isinstance (by decide +kernel) (pa_cons (pv 2) (pa_cons (pe_bltn (v := .ty "ArithmeticError") (u := .type "ArithmeticError") (by rfl) EK.gA (by decide +kernel) rfl) pa_nil))) pa_nil)))
          (pss_cons (ps_set (i := 5) scCaught.nd rfl (.inl rfl) (pe_lst (pa_cons (pe_callB (call_isX (X := cxK X g cdg s H0) (a := a) (pn := pn) hz hf) (by rfl) T.isinstance (by decide +kernel) (pa_cons (pv 2) (pa_cons (pe_glob (v := .ref C1) (by rfl) EK.m1 rfl) pa_nil))) pa_nil)))
          (pss_cons (ps_expr (pe_bm PySem.F.plainAttrs_list PySem.F.slot_list_append PySem.F.type_list_append mt_append (pv 5) (pa_cons (pe_callB (call_isX (X := cxK X g cdg s H0) (a := a) (pn := pn) hz hf) (by rfl) T.isinstance (by decide +kernel) (pa_cons (pv 2) (pa_cons (pe_glob (v := .ref C2) (by rfl) EK.m2 rfl) pa_nil))) pa_nil)))
          (pss_cons (ps_expr (pe_bm PySem.F.plainAttrs_list PySem.F.slot_list_append PySem.F.type_list_append mt_append (pv 5) (pa_cons (pe_callB (call_isX (X := cxK X g cdg s H0) (a := a) (pn := pn) hz hf) (by rfl) T.isinstance (by decide +kernel) (pa_cons (pv 2) (pa_cons (pe_glob (v := .ref C3) (by rfl) EK.m3 rfl) pa_nil))) pa_nil)))
          (pss_cons (ps_expr (pe_bm PySem.F.plainAttrs_list PySem.F.slot_list_append PySem.F.type_list_append mt_append (pv 5) (pa_cons (pe_callB (call_isX (X := cxK X g cdg s H0) (a := a) (pn := pn) hz hf) (by rfl) T.isinstance (by decide +kernel) (pa_cons (pv 2) (pa_cons (pe_glob (v := .ref C4) (by rfl) EK.m4 rfl) pa_nil))) pa_nil)))
          (pss_cons (ps_if (PW.pt (pw_or (pt_cmpR op_ne (pe_bm PySem.F.plainAttrs_list PySem.F.slot_list_count PySem.F.type_list_count mt_lcountB (pv 5) (pa_cons pe_bl pa_nil)) pe_int (nomark _)) (pw_or (pt_cmpR (op_neD (by show X.A.units + 3 + 64 < cLine; omega)) (pv 3) (pv 4) (nomark _)) (pw_or1 (pt_cmpR op_ne (pe_bm PySem.F.plainAttrs_list PySem.F.slot_list_count PySem.F.type_list_count mt_lcountB (pv 3) (pa_cons pe_bl pa_nil)) pe_int (nomark _)))))) (pss_one (ps_ret (pe_lst (pa_cons pe_str pa_nil)))) pss_nil)
          (pss_cons (ps_set (i := 6) scCaught.nd rfl (.inl rfl) (pe_bm PySem.F.plainAttrs_list PySem.F.slot_list_index PySem.F.type_list_index mt_index (pv 5) (pa_cons pe_bl pa_nil)))
          (pss_cons (ps_if (pt_cmpR op_ne (pe_bm PySem.F.plainAttrs_list PySem.F.slot_list_index PySem.F.type_list_index mt_index (pv 3) (pa_cons pe_bl pa_nil)) (pe_ix ix_list (pe_lst (pa_cons pe_int (pa_cons pe_int (pa_cons pe_int (pa_cons pe_int pa_nil))))) (pv 6) (fun _ _ => rfl)) (nomark _)) (pss_one (ps_ret (pe_lst (pa_cons pe_str pa_nil)))) pss_nil)
          (pss_cons (ps_if (pt_cmpR op_eq (pv 6) pe_int (nomark _)) (pss_one (ps_ret (pe_lst (pa_cons pe_str (pa_cons (pe_callB hR (by rfl) T.repr (by decide +kernel) (pa_cons (pe_xf EK.e1.xf EK.i1 hz hf (pv 2)) pa_nil)) pa_nil))))) pss_nil)
          (pss_cons (ps_if (pt_cmpR op_eq (pv 6) pe_int (nomark _)) (pss_one (ps_ret (pe_lst (pa_cons pe_str (pa_cons (pe_callB hR (by rfl) T.repr (by decide +kernel) (pa_cons (pe_xf EK.e2.xf EK.i2 hz hf (pv 2)) pa_nil)) pa_nil))))) pss_nil)
          (pss_cons (ps_if (pt_cmpR op_eq (pv 6) pe_int (nomark _)) (pss_one (ps_ret (pe_lst (pa_cons pe_str (pa_cons (pe_callB hR (by rfl) T.repr (by decide +kernel) (pa_cons (pe_xf EK.e3.xf EK.i3 hz hf (pv 2)) pa_nil)) pa_nil))))) pss_nil)
          (pss_one (ps_if (pt_cmpR op_eq (pv 6) pe_int (nomark _)) (pss_one (ps_ret (pe_lst (pa_cons pe_str (pa_cons (pe_callB hR (by rfl) T.repr (by decide +kernel) (pa_cons (pe_xf EK.e4.xf EK.i4 hz hf (pv 2)) pa_nil)) pa_nil))))) pss_nil)))))))))))))), ?_⟩
      refine ⟨_, rfl, C3, rfl, eC, _, _, _, dd, _, rfl, rfl, hd, (fun u h => h), k1, _, rfl, C3, rfl, eC, _, _, _, dd, _, rfl, rfl, hd, (fun u h => h), k2, _, rfl, C3, rfl, eC, _, _, _, dd, _, rfl, rfl, hd, (fun u h => h), k3, (by show 3 ≤ sizeLine; decide), fun p3 n3 => ?_⟩
      have s3 : Same H (upd H p3 (.lst [.bl true, .bl false, .bl false])) := same_upd n3
      generalize e3 : upd H p3 (.lst [.bl true, .bl false, .bl false]) = H3 at s3 ⊢
      have h3 : H3 p3 = some (.lst [.bl true, .bl false, .bl false]) := by rw [← e3]; exact upd_same
      clear e3
      have hd3 := s3 _ _ hd
      refine ⟨_, rfl, C3, rfl, eC, _, _, _, dd, _, rfl, rfl, hd3, (fun u h => h), kV, _, rfl, C3, rfl, eC, _, _, _, dd, _, rfl, rfl, hd3, (fun u h => h), kL, (by show 2 ≤ sizeLine; decide), fun p4 n4 => ?_⟩
      have hd4 : upd H3 p4 (.lst [.bl true, .bl false]) dd = some (.xd _) := same_upd n4 _ _ hd3
      refine ⟨_, rfl, .inl ⟨rfl, _, SqL.of upd_same⟩, _, rfl, C3, rfl, eC, _, _, _, dd, _, rfl, rfl, hd4, (fun u h => h), kA, p4, _, _, rfl, rfl, upd_same, (by show 2 < sizeLine; decide), ?_⟩
      have f4 : H p4 = none := same_free s3 n4
      have s4 := grow_keep (H := H3) (p := p4) (xs := [.bl true, .bl false]) (ys := [.bl false])
      generalize e4 : upd (upd H3 p4 (.lst [.bl true, .bl false])) p4 (.lst ([.bl true, .bl false] ++ [.bl false])) = H4 at s4 ⊢
      have h4 : H4 p4 = some (.lst [.bl true, .bl false, .bl false]) := by rw [← e4]; exact upd_same
      clear e4
      have t4 : Same H H4 := fun b o e => s4 b o (ne_of_none e f4) (s3 _ _ e)
      have h43 : H4 p3 = some (.lst [.bl true, .bl false, .bl false]) := s4 _ _ (ne_of_none h3 n4) h3
      have hd5 := t4 _ _ hd
      refine ⟨_, rfl, C3, rfl, eC, _, _, _, dd, _, rfl, rfl, hd5, (fun u h => h), EK.k3_1, (by show 1 ≤ sizeLine; decide), fun p5 n5 => ?_⟩
      have f5 : H p5 = none := same_free t4 n5
      have s5_0 : ∀ b o, b ≠ p5 → H4 b = some o → upd H4 p5 (.lst [.bl false]) b = some o := fun b o n e => by rw [upd_ne n]; exact e
      generalize e5 : upd H4 p5 (.lst [.bl false]) = H5_0 at s5_0 ⊢
      have h5_0 : H5_0 p5 = some (.lst [.bl false]) := by rw [← e5]; exact upd_same
      clear e5
      have hdx1 := s5_0 _ _ (ne_of_none hd5 n5) hd5
      refine ⟨_, rfl, .inl ⟨rfl, _, SqL.of h5_0⟩, _, rfl, C3, rfl, eC, _, _, _, dd, _, rfl, rfl, hdx1, (fun u h => h), EK.k3_2, p5, _, _, rfl, rfl, h5_0, (by show 1 < sizeLine; decide), ?_⟩
      have s5_1 : ∀ b o, b ≠ p5 → H4 b = some o → upd H5_0 p5 (.lst ([.bl false] ++ [.bl false])) b = some o := fun b o n e => by rw [upd_ne n]; exact s5_0 b o n e
      generalize e5 : upd H5_0 p5 (.lst ([.bl false] ++ [.bl false])) = H5_1 at s5_1 ⊢
      have h5_1 : H5_1 p5 = some (.lst [.bl false, .bl false]) := by rw [← e5]; exact upd_same
      clear e5
      have hdx2 := s5_1 _ _ (ne_of_none hd5 n5) hd5
      refine ⟨_, rfl, .inl ⟨rfl, _, SqL.of h5_1⟩, _, rfl, C3, rfl, eC, _, _, _, dd, _, rfl, rfl, hdx2, (fun u h => h), EK.k3_3, p5, _, _, rfl, rfl, h5_1, (by show 2 < sizeLine; decide), ?_⟩
      have s5_2 : ∀ b o, b ≠ p5 → H4 b = some o → upd H5_1 p5 (.lst ([.bl false, .bl false] ++ [.bl true])) b = some o := fun b o n e => by rw [upd_ne n]; exact s5_1 b o n e
      generalize e5 : upd H5_1 p5 (.lst ([.bl false, .bl false] ++ [.bl true])) = H5_2 at s5_2 ⊢
      have h5_2 : H5_2 p5 = some (.lst [.bl false, .bl false, .bl true]) := by rw [← e5]; exact upd_same
      clear e5
      have hdx3 := s5_2 _ _ (ne_of_none hd5 n5) hd5
      refine ⟨_, rfl, .inl ⟨rfl, _, SqL.of h5_2⟩, _, rfl, C3, rfl, eC, _, _, _, dd, _, rfl, rfl, hdx3, (fun u h => h), EK.k3_4, p5, _, _, rfl, rfl, h5_2, (by show 3 < sizeLine; decide), ?_⟩
      have s5_3 : ∀ b o, b ≠ p5 → H4 b = some o → upd H5_2 p5 (.lst ([.bl false, .bl false, .bl true] ++ [.bl false])) b = some o := fun b o n e => by rw [upd_ne n]; exact s5_2 b o n e
      generalize e5 : upd H5_2 p5 (.lst ([.bl false, .bl false, .bl true] ++ [.bl false])) = H5_3 at s5_3 ⊢
      have h5_3 : H5_3 p5 = some (.lst [.bl false, .bl false, .bl true, .bl false]) := by rw [← e5]; exact upd_same
      clear e5
      have t5 : Same H H5_3 := fun b o e => s5_3 b o (ne_of_none e f5) (t4 _ _ e)
      have h53 : H5_3 p3 = some (.lst [.bl true, .bl false, .bl false]) := s5_3 _ _ (ne_of_none h43 n5) h43
      have h54 : H5_3 p4 = some (.lst [.bl true, .bl false, .bl false]) := s5_3 _ _ (ne_of_none h4 n5) h4
      have dp : ∀ {p : Addr}, H5_3 p = some (.lst [.bl true, .bl false, .bl false]) → Dp X.K H5_3 (.ref p) (.list [.bool true, .bool false, .bool false]) := fun e => .lst (SqL.of e) (.cons (.bl _) (.cons (.bl _) (.cons (.bl _) .nil)))
      refine ⟨_, rfl, .inl ⟨rfl, _, SqL.of h5_3⟩, p5, [false, false, true, false], rfl, rfl, SqL.of h5_3, rfl, _, rfl, ?_⟩
      refine iteF ?_
      refine ⟨_, rfl, _, rfl, _, _, dp h53, dp h54, by decide +kernel, by decide +kernel, _, rfl, ?_⟩
      refine iteF ?_
      refine ⟨_, rfl, .inl ⟨rfl, _, SqL.of h53⟩, p3, [true, false, false], rfl, rfl, SqL.of h53, rfl, _, rfl, ?_⟩
      refine iteF ?_
      refine ⟨_, rfl, .inl ⟨rfl, _, SqL.of h5_3⟩, p5, _, _, 2, .bl true, rfl, rfl, SqL.of h5_3, rfl, rfl, rfl, rfl, (fun m z hm hz => first_at (bs := [false, false, true, false]) (n := 2) (by decide) hm hz), ?_⟩
      refine ⟨_, rfl, .inl ⟨rfl, _, SqL.of h53⟩, p3, _, _, 0, .bl true, rfl, rfl, SqL.of h53, rfl, rfl, rfl, rfl, (fun m z hm => absurd hm (Nat.not_lt_zero m)), (by show 4 ≤ sizeLine; decide), fun p7 n7 => ?_⟩
      have s7 : Same H5_3 (upd H5_3 p7 (.lst [.int 0, .int 0, .int 0, .int 0])) := same_upd n7
      refine ⟨_, rfl, p7, _, _, .int 0, rfl, rfl, SqL.of upd_same, atI_nat (j := 2) rfl, rfl, _, rfl, ?_⟩
      generalize upd H5_3 p7 (.lst [.int 0, .int 0, .int 0, .int 0]) = H7 at s7 ⊢
      have t7 : Same H H7 := t5.trans s7
      refine iteF ?_
      refine ⟨_, rfl, rfl, _, rfl, ?_⟩
      refine iteF ?_
      refine ⟨_, rfl, rfl, _, rfl, ?_⟩
      refine iteF ?_
      refine ⟨_, rfl, rfl, _, rfl, ?_⟩
      refine iteT ?_
      refine ⟨_, rfl, rfl, rfl, dd, _, v, rfl, t7 _ _ hd, rfl, v, txt, rfl, hS _ _ _ _ t7 hsd, (by show 2 ≤ sizeLine; decide), fun p n => ?_⟩
      exact q p _ (same_free t7 n) (t7.trans (same_upd n)) upd_same
    · have eC := EK.e4.ec
      have k1 : PySem.W.kitOne X.K (.ref C4) (.ref S1) = some true := EK.e4.k1
      have k2 : PySem.W.kitOne X.K (.ref C4) (.ref S2) = some false := EK.e4.k2
      have k3 : PySem.W.kitOne X.K (.ref C4) (.ref S3) = some false := EK.e4.k3
      have kV : PySem.W.kitOne X.K (.ref C4) (.type "ValueError") = some true := EK.e4.kV
      have kL : PySem.W.kitOne X.K (.ref C4) (.type "LookupError") = some false := EK.e4.kL
      have kA : PySem.W.kitOne X.K (.ref C4) (.type "ArithmeticError") = some false := EK.e4.kA
      refine ⟨_, pss_cons (ps_set (i := 3) scCaught.nd rfl (.inl rfl) (pe_lst (pa_cons (pe_callB (call_isX (X := cxK X g cdg s H0) (a := a) (pn := pn) hz hf) (by rfl) T.isinstance (by decide +kernel) (pa_cons (pv 2) (pa_cons (pe_glob (v := .ref S1) (by rfl) EK.g1 rfl) pa_nil))) (pa_cons (pe_callB (call_isX (X := cxK X g cdg s H0) (a := a) (pn := pn) hz hf) (by rfl) T.isinstance (by decide +kernel) (pa_cons (pv 2) (pa_cons (pe_glob (v := .ref S2) (by rfl) EK.g2 rfl) pa_nil))) (pa_cons (pe_callB (call_isX (X := cxK X g cdg s H0) (a := a) (pn := pn) hz hf) (by rfl) T.isinstance (by decide +kernel) (pa_cons (pv 2) (pa_cons (pe_glob (v := .ref S3) (by rfl) EK.g3 rfl) pa_nil))) pa_nil)))))
          (pss_cons (ps_set (i := 4) scCaught.nd rfl (.inl rfl) (pe_lst (pa_cons (pe_callB (call_isX (X := cxK X g cdg s H0) (a := a) (pn := pn) hz hf) (by rfl) T.isinstance (by decide +kernel) (pa_cons (pv 2) (pa_cons (pe_bltn (v := .ty "ValueError") (u := .type "ValueError") (by rfl) EK.gV (by decide +kernel) rfl) pa_nil))) (pa_cons (pe_callB (call_isX (X := cxK X g cdg s H0) (a := a) (pn := pn) hz hf) (by rfl) T.isinstance (by decide +kernel) (pa_cons (pv 2) (pa_cons (pe_bltn (v := .ty "LookupError") (u := .type "LookupError") (by rfl) EK.gL (by decide +kernel) rfl) pa_nil))) pa_nil))))
          (pss_cons (ps_expr (pe_bm PySem.F.plainAttrs_list PySem.F.slot_list_append PySem.F.type_list_append mt_append (pv 4) (pa_cons (pe_callB (call_isX (X := cxK X g cdg s H0) (a := a) (pn := pn) hz hf) (by rfl) T.isinstance (by decide +kernel) (pa_cons (pv 2) (pa_cons (pe_bltn (v := .ty "ArithmeticError") (u := .type "ArithmeticError") (by rfl) EK.gA (by decide +kernel) rfl) pa_nil))) pa_nil)))
          (pss_cons (ps_set (i := 5) scCaught.nd rfl (.inl rfl) (pe_lst (pa_cons (pe_callB (call_isX (X := cxK X g cdg s H0) (a := a) (pn := pn) hz hf) (by rfl) T.isinstance (by decide +kernel) (pa_cons (pv 2) (pa_cons (pe_glob (v := .ref C1) (by rfl) EK.m1 rfl) pa_nil))) pa_nil)))
          (pss_cons (ps_expr (pe_bm PySem.F.plainAttrs_list PySem.F.slot_list_append PySem.F.type_list_append mt_append (pv 5) (pa_cons (pe_callB (call_isX (X := cxK X g cdg s H0) (a := a) (pn := pn) hz hf) (by rfl) T.isinstance (by decide +kernel) (pa_cons (pv 2) (pa_cons (pe_glob (v := .ref C2) (by rfl) EK.m2 rfl) pa_nil))) pa_nil)))
          (pss_cons (ps_expr (pe_bm PySem.F.plainAttrs_list PySem.F.slot_list_append PySem.F.type_list_append mt_append (pv 5) (pa_cons (pe_callB (call_isX (X := cxK X g cdg s H0) (a := a) (pn := pn) hz hf) (by rfl) T.isinstance (by decide +kernel) (pa_cons (pv 2) (pa_cons (pe_glob (v := .ref C3) (by rfl) EK.m3 rfl) pa_nil))) pa_nil)))
          (pss_cons (ps_expr (pe_bm PySem.F.plainAttrs_list PySem.F.slot_list_append PySem.F.type_list_append mt_append (pv 5) (pa_cons (pe_callB (call_isX (X := cxK X g cdg s H0) (a := a) (pn := pn) hz hf) (by rfl) T.isinstance (by decide +kernel) (pa_cons (pv 2) (pa_cons (pe_glob (v := .ref C4) (by rfl) EK.m4 rfl) pa_nil))) pa_nil)))
          (pss_cons (ps_if (PW.pt (pw_or (pt_cmpR op_ne (pe_bm PySem.F.plainAttrs_list PySem.F.slot_list_count PySem.F.type_list_count mt_lcountB (pv 5) (pa_cons pe_bl pa_nil)) pe_int (nomark _)) (pw_or (pt_cmpR (op_neD (by show X.A.units + 3 + 64 < cLine; omega)) (pv 3) (pv 4) (nomark _)) (pw_or1 (pt_cmpR op_ne (pe_bm PySem.F.plainAttrs_list PySem.F.slot_list_count PySem.F.type_list_count mt_lcountB (pv 3) (pa_cons pe_bl pa_nil)) pe_int (nomark _)))))) (pss_one (ps_ret (pe_lst (pa_cons pe_str pa_nil)))) pss_nil)
          (pss_cons (ps_set (i := 6) scCaught.nd rfl (.inl rfl) (pe_bm PySem.F.plainAttrs_list PySem.F.slot_list_index PySem.F.type_list_index mt_index (pv 5) (pa_cons pe_bl pa_nil)))
          (pss_cons (ps_if (pt_cmpR op_ne (pe_bm PySem.F.plainAttrs_list PySem.F.slot_list_index PySem.F.type_list_index mt_index (pv 3) (pa_cons pe_bl pa_nil)) (pe_ix ix_list (pe_lst (pa_cons pe_int (pa_cons pe_int (pa_cons pe_int (pa_cons pe_int pa_nil))))) (pv 6) (fun _ _ => rfl)) (nomark _)) (pss_one (ps_ret (pe_lst (pa_cons pe_str pa_nil)))) pss_nil)
          (pss_cons (ps_if (pt_cmpR op_eq (pv 6) pe_int (nomark _)) (pss_one (ps_ret (pe_lst (pa_cons pe_str (pa_cons (pe_callB hR (by rfl) T.repr (by decide +kernel) (pa_cons (pe_xf EK.e1.xf EK.i1 hz hf (pv 2)) pa_nil)) pa_nil))))) pss_nil)
          (pss_cons (ps_if (pt_cmpR op_eq (pv 6) pe_int (nomark _)) (pss_one (ps_ret (pe_lst (pa_cons pe_str (pa_cons (pe_callB hR (by rfl) T.repr (by decide +kernel) (pa_cons (pe_xf EK.e2.xf EK.i2 hz hf (pv 2)) pa_nil)) pa_nil))))) pss_nil)
          (pss_cons (ps_if (pt_cmpR op_eq (pv 6) pe_int (nomark _)) (pss_one (ps_ret (pe_lst (pa_cons pe_str (pa_cons (pe_callB hR (by rfl) T.repr (by decide +kernel) (pa_cons (pe_xf EK.e3.xf EK.i3 hz hf (pv 2)) pa_nil)) pa_nil))))) pss_nil)
          (pss_one (ps_if (pt_cmpR op_eq (pv 6) pe_int (nomark _)) (pss_one (ps_ret (pe_lst (pa_cons pe_str (pa_cons (pe_callB hR (by rfl) T.repr (by decide +kernel) (pa_cons (pe_xf EK.e4.xf EK.i4 hz hf (pv 2)) pa_nil)) pa_nil))))) pss_nil)))))))))))))), ?_⟩
      refine ⟨_, rfl, C4, rfl, eC, _, _, _, dd, _, rfl, rfl, hd, (fun u h => h), k1, _, rfl, C4, rfl, eC, _, _, _, dd, _, rfl, rfl, hd, (fun u h => h), k2, _, rfl, C4, rfl, eC, _, _, _, dd, _, rfl, rfl, hd, (fun u h => h), k3, (by show 3 ≤ sizeLine; decide), fun p3 n3 => ?_⟩
      have s3 : Same H (upd H p3 (.lst [.bl true, .bl false, .bl false])) := same_upd n3
      generalize e3 : upd H p3 (.lst [.bl true, .bl false, .bl false]) = H3 at s3 ⊢
      have h3 : H3 p3 = some (.lst [.bl true, .bl false, .bl false]) := by rw [← e3]; exact upd_same
      clear e3
      have hd3 := s3 _ _ hd
      refine ⟨_, rfl, C4, rfl, eC, _, _, _, dd, _, rfl, rfl, hd3, (fun u h => h), kV, _, rfl, C4, rfl, eC, _, _, _, dd, _, rfl, rfl, hd3, (fun u h => h), kL, (by show 2 ≤ sizeLine; decide), fun p4 n4 => ?_⟩
      have hd4 : upd H3 p4 (.lst [.bl true, .bl false]) dd = some (.xd _) := same_upd n4 _ _ hd3
      refine ⟨_, rfl, .inl ⟨rfl, _, SqL.of upd_same⟩, _, rfl, C4, rfl, eC, _, _, _, dd, _, rfl, rfl, hd4, (fun u h => h), kA, p4, _, _, rfl, rfl, upd_same, (by show 2 < sizeLine; decide), ?_⟩
      have f4 : H p4 = none := same_free s3 n4
      have s4 := grow_keep (H := H3) (p := p4) (xs := [.bl true, .bl false]) (ys := [.bl false])
      generalize e4 : upd (upd H3 p4 (.lst [.bl true, .bl false])) p4 (.lst ([.bl true, .bl false] ++ [.bl false])) = H4 at s4 ⊢
      have h4 : H4 p4 = some (.lst [.bl true, .bl false, .bl false]) := by rw [← e4]; exact upd_same
      clear e4
      have t4 : Same H H4 := fun b o e => s4 b o (ne_of_none e f4) (s3 _ _ e)
      have h43 : H4 p3 = some (.lst [.bl true, .bl false, .bl false]) := s4 _ _ (ne_of_none h3 n4) h3
      have hd5 := t4 _ _ hd
      refine ⟨_, rfl, C4, rfl, eC, _, _, _, dd, _, rfl, rfl, hd5, (fun u h => h), EK.k4_1, (by show 1 ≤ sizeLine; decide), fun p5 n5 => ?_⟩
      have f5 : H p5 = none := same_free t4 n5
      have s5_0 : ∀ b o, b ≠ p5 → H4 b = some o → upd H4 p5 (.lst [.bl false]) b = some o := fun b o n e => by rw [upd_ne n]; exact e
      generalize e5 : upd H4 p5 (.lst [.bl false]) = H5_0 at s5_0 ⊢
      have h5_0 : H5_0 p5 = some (.lst [.bl false]) := by rw [← e5]; exact upd_same
      clear e5
      have hdx1 := s5_0 _ _ (ne_of_none hd5 n5) hd5
      refine ⟨_, rfl, .inl ⟨rfl, _, SqL.of h5_0⟩, _, rfl, C4, rfl, eC, _, _, _, dd, _, rfl, rfl, hdx1, (fun u h => h), EK.k4_2, p5, _, _, rfl, rfl, h5_0, (by show 1 < sizeLine; decide), ?_⟩
      have s5_1 : ∀ b o, b ≠ p5 → H4 b = some o → upd H5_0 p5 (.lst ([.bl false] ++ [.bl false])) b = some o := fun b o n e => by rw [upd_ne n]; exact s5_0 b o n e
      generalize e5 : upd H5_0 p5 (.lst ([.bl false] ++ [.bl false])) = H5_1 at s5_1 ⊢
      have h5_1 : H5_1 p5 = some (.lst [.bl false, .bl false]) := by rw [← e5]; exact upd_same
      clear e5
      have hdx2 := s5_1 _ _ (ne_of_none hd5 n5) hd5
      refine ⟨_, rfl, .inl ⟨rfl, _, SqL.of h5_1⟩, _, rfl, C4, rfl, eC, _, _, _, dd, _, rfl, rfl, hdx2, (fun u h => h), EK.k4_3, p5, _, _, rfl, rfl, h5_1, (by show 2 < sizeLine; decide), ?_⟩
      have s5_2 : ∀ b o, b ≠ p5 → H4 b = some o → upd H5_1 p5 (.lst ([.bl false, .bl false] ++ [.bl false])) b = some o := fun b o n e => by rw [upd_ne n]; exact s5_1 b o n e
      generalize e5 : upd H5_1 p5 (.lst ([.bl false, .bl false] ++ [.bl false])) = H5_2 at s5_2 ⊢
      have h5_2 : H5_2 p5 = some (.lst [.bl false, .bl false, .bl false]) := by rw [← e5]; exact upd_same
      clear e5
      have hdx3 := s5_2 _ _ (ne_of_none hd5 n5) hd5
      refine ⟨_, rfl, .inl ⟨rfl, _, SqL.of h5_2⟩, _, rfl, C4, rfl, eC, _, _, _, dd, _, rfl, rfl, hdx3, (fun u h => h), EK.k4_4, p5, _, _, rfl, rfl, h5_2, (by show 3 < sizeLine; decide), ?_⟩
      have s5_3 : ∀ b o, b ≠ p5 → H4 b = some o → upd H5_2 p5 (.lst ([.bl false, .bl false, .bl false] ++ [.bl true])) b = some o := fun b o n e => by rw [upd_ne n]; exact s5_2 b o n e
      generalize e5 : upd H5_2 p5 (.lst ([.bl false, .bl false, .bl false] ++ [.bl true])) = H5_3 at s5_3 ⊢
      have h5_3 : H5_3 p5 = some (.lst [.bl false, .bl false, .bl false, .bl true]) := by rw [← e5]; exact upd_same
      clear e5
      have t5 : Same H H5_3 := fun b o e => s5_3 b o (ne_of_none e f5) (t4 _ _ e)
      have h53 : H5_3 p3 = some (.lst [.bl true, .bl false, .bl false]) := s5_3 _ _ (ne_of_none h43 n5) h43
      have h54 : H5_3 p4 = some (.lst [.bl true, .bl false, .bl false]) := s5_3 _ _ (ne_of_none h4 n5) h4
      have dp : ∀ {p : Addr}, H5_3 p = some (.lst [.bl true, .bl false, .bl false]) → Dp X.K H5_3 (.ref p) (.list [.bool true, .bool false, .bool false]) := fun e => .lst (SqL.of e) (.cons (.bl _) (.cons (.bl _) (.cons (.bl _) .nil)))
      refine ⟨_, rfl, .inl ⟨rfl, _, SqL.of h5_3⟩, p5, [false, false, false, true], rfl, rfl, SqL.of h5_3, rfl, _, rfl, ?_⟩
      refine iteF ?_
      refine ⟨_, rfl, _, rfl, _, _, dp h53, dp h54, by decide +kernel, by decide +kernel, _, rfl, ?_⟩
      refine iteF ?_
      refine ⟨_, rfl, .inl ⟨rfl, _, SqL.of h53⟩, p3, [true, false, false], rfl, rfl, SqL.of h53, rfl, _, rfl, ?_⟩
      refine iteF ?_
      refine ⟨_, rfl, .inl ⟨rfl, _, SqL.of h5_3⟩, p5, _, _, 3, .bl true, rfl, rfl, SqL.of h5_3, rfl, rfl, rfl, rfl, (fun m z hm hz => first_at (bs := [false, false, false, true]) (n := 3) (by decide) hm hz), ?_⟩
      refine ⟨_, rfl, .inl ⟨rfl, _, SqL.of h53⟩, p3, _, _, 0, .bl true, rfl, rfl, SqL.of h53, rfl, rfl, rfl, rfl, (fun m z hm => absurd hm (Nat.not_lt_zero m)), (by show 4 ≤ sizeLine; decide), fun p7 n7 => ?_⟩
      have s7 : Same H5_3 (upd H5_3 p7 (.lst [.int 0, .int 0, .int 0, .int 0])) := same_upd n7
      refine ⟨_, rfl, p7, _, _, .int 0, rfl, rfl, SqL.of upd_same, atI_nat (j := 3) rfl, rfl, _, rfl, ?_⟩
      generalize upd H5_3 p7 (.lst [.int 0, .int 0, .int 0, .int 0]) = H7 at s7 ⊢
      have t7 : Same H H7 := t5.trans s7
      refine iteF ?_
      refine ⟨_, rfl, rfl, _, rfl, ?_⟩
      refine iteF ?_
      refine ⟨_, rfl, rfl, _, rfl, ?_⟩
      refine iteF ?_
      refine ⟨_, rfl, rfl, _, rfl, ?_⟩
      refine iteF ?_
      refine ⟨_, rfl, rfl, _, rfl, ?_⟩
      refine iteT ?_
      refine ⟨_, rfl, rfl, rfl, dd, _, v, rfl, t7 _ _ hd, rfl, v, txt, rfl, hS _ _ _ _ t7 hsd, (by show 2 ≤ sizeLine; decide), fun p n => ?_⟩
      exact q p _ (same_free t7 n) (t7.trans (same_upd n)) upd_same
  exact ht.run pins s' _ H D I hq
theorem caught_gives {g S1 S2 S3 C1 C2 C3 C4 : Addr} {cdg : Value} {q : Str} (hgd : X.A.guards = some []) (hu : X.A.units + 300 < cLine) (T : Free X.mg) (EK : ErrK X.K X.mg S1 S2 S3 C1 C2 C3 C4) {SV : Hp → V → Str → Prop} (hS : ∀ H H' v x, Same H H' → SV H v x → SV H' v x)
    (hR : ∀ (s : Shared) (H : Hp) (a : Addr) (oe : Obj) (pn : List (Addr × Obj)), CallR ((cxK X g cdg s H).suite a ((a, oe) :: pn)) (.builtin "repr") (rSV SV)) :
    LamX.GivesTo X nmCaught "_law_caught" (defScope sCaught) g cdg (defBody sCaught) "_law_ask" q (TTc SV C1 C2 C3 C4) := by
  intro f c' s H Q tl act hc h
  refine ⟨_, pss_cons (ps_try_as3 (X := cxK X g cdg s H) (i := 2) (c1 := .ref S1) (c2 := .ref S2) (c3 := .ref S3)
      (tb := fun W D σ H => ∃ Ech : XK, (∀ cls d σ' H', Ech cls d H' → W cls d σ' H') ∧ σ[0]? = some (some (.ref f)) ∧ H c' = some (LamX.CodeO c' q) ∧ ∀ Q', tl Ech H Q')
      (ts := fun a cls d => tCau SV C1 C2 C3 C4 a cls d)
      rfl rfl scCaught.nd rfl rfl ⟨by rfl, by decide, .inl EK.g1⟩ ⟨by rfl, by decide, .inl EK.g2⟩ ⟨by rfl, by decide, .inl EK.g3⟩ (fun W pn xe tk _ => ⟨fun pins s' σ H' D I h' => ?_⟩)
      (fun a oe cls d pn hz hf => suite_ok hgd hu T EK hS hz hf (hR s H a oe pn)))
    (pss_one (ps_ret (pe_lst (pa_cons pe_str (pa_cons (pe_callB (RpD.call_reprD (by exact hgd) (by show X.A.units + 3 + 100 < cLine; omega)) (by rfl) T.repr (by decide +kernel) (pa_cons (pv 1) pa_nil)) pa_nil))))), ?_⟩
  · obtain ⟨Ech, hW, h1, h2, h3⟩ := id h'
    exact (pss_one (ps_set (i := 1) scCaught.nd rfl (.inl rfl) (act W pn xe Ech _ _ tk hW))).run pins s' σ H' D I ⟨h1, h2, h3 _⟩
  · refine ⟨Told SV C1 C2 C3 C4 Q, fun cls d σ' H' told => ?_, rfl, hc, h⟩
    have told2 := told
    rcases told2 with ⟨dd, v, txt, nm, rfl, hsd, (⟨rfl, rfl, hd⟩ | ⟨rfl, rfl, hd⟩ | ⟨rfl, rfl, hd⟩ | ⟨rfl, rfl, hd⟩), q⟩ | ⟨nm, rfl, (⟨⟩), q⟩
    · exact ⟨EK.e1.kx, fun a na => ⟨⟨_, rfl⟩, told⟩⟩
    · exact ⟨EK.e2.kx, fun a na => ⟨⟨_, rfl⟩, told⟩⟩
    · exact ⟨EK.e3.kx, fun a na => ⟨⟨_, rfl⟩, told⟩⟩
    · exact ⟨EK.e4.kx, fun a na => ⟨⟨_, rfl⟩, told⟩⟩
end
end K1

namespace K1
open PySem PySem.Spec
open PyProof.Rows L2 EnT StX SmX TxS DuX ClX
def spFormL (n : Nat) : Sp := fun vs H Q _ => ∃ (p a : Addr) (N : List Str) (d : Nat), vs = [.ref p, .ref a, .int d] ∧ PoolAt H p ∧ a ≠ p ∧ H a = some (.lst (N.map V.str)) ∧ 0 < N.length ∧ N.length < 1000 ∧ (∀ z ∈ N, nameB z = true) ∧ d ≤ n ∧
  ∀ (v : V) (t : Fm) (H' : Hp), K1.Ext p H H' → FmAt H' v t → t.Ok → t.dep ≤ d + 1 → (∀ z ∈ t.lvs, z ∈ N) → Q v H'
abbrev nmFo : List Str := ["_law_pool_here", "_law_words", "_law_deep", "_law_sign"]
section
variable {w : World} {P : Program} {base : Heap} {mg : Str → Option Value} {K : PySem.W.Frag}
theorem scForm : FnScope nmFo ["_law_pool_here", "_law_words", "_law_deep"] (defScope sForm) := ⟨rfl, rfl, rfl, by decide +kernel, rfl, by decide +kernel, by decide +kernel⟩
def foB : List Stmt := match defBody sForm with
  | (.If _ b _ _) :: _ => b
  | _ => []
structure AtFo (p a : Addr) (N : List Str) (σ : L2.St) (H : Hp) (En : Ends) : Prop where
  ex : ∃ (x2 x3 : Option V), σ = [some (.ref p), some (.ref a), x2, x3] ∧ PoolAt H p ∧ a ≠ p ∧ H a = some (.lst (N.map V.str)) ∧ 0 < N.length ∧ N.length < 1000 ∧ (∀ z ∈ N, nameB z = true) ∧ ∀ z H', K1.Ext p H H' → z ∈ N → En.rt (.str z) H'
theorem fo_leaf {f fD p a : Addr} {N : List Str} {cdv : Value} {A : Around} {outer : List Env} {s : Shared} {H00 : Hp} {E : XK} (T : Free mg) (hD : Has P w K mg base CX0 1 "_law_draw" fD ["_law_pool_here", "_law_many"] spDraw) (hr : Room 1 (A.deeper (envOfC "_law_form" (defScope sForm) s.heap.objs.size f cdv))) :
    PSs (cxOf CX0 P w K mg base nmFo "_law_form" (defScope sForm) f cdv A outer s H00 E).nox foB (fun En σ H => AtFo p a N σ H En) := by
  refine pss_of fun En σ H hyp => ?_
  obtain ⟨x2, x3, eσ, hp, ap, ha, n0, n1, nm, q⟩ := hyp.ex
  refine ⟨_, pss_one (ps_ret (pe_ix ix_list (pv 1) (pe_has hD hr (by rfl) pass0 (pa_cons (pv 0) (pa_cons (pe_callB call_len_seq (by rfl) T.len PySem.boot_len (pa_cons (pv 1) pa_nil)) pa_nil))) (fun _ _ => rfl))), ?_⟩
  subst eσ
  refine ⟨_, rfl, _, rfl, _, rfl, a, _, rfl, .inl (SqL.of ha), ?_⟩
  rw [List.length_map]
  refine ⟨p, _, rfl, hp, by omega, by omega, fun i H1 x1 i0 i1 => ?_⟩
  have ei : ((i.toNat : Nat) : Int) = i := by omega
  have hi : i.toNat < N.length := by omega
  refine ⟨a, _, i, .str (N[i.toNat]), rfl, rfl, SqL.of (x1.at ap ha), ?_, ?_⟩
  · have z := atI_nat (xs := N.map V.str) (j := i.toNat) (by rw [List.getElem?_map, List.getElem?_eq_getElem hi]; rfl)
    rw [ei] at z
    exact z
  · exact q _ H1 x1 (List.getElem_mem hi)
/-- a form that is drawn -/
theorem ok_form {f fD : Addr} {fd : FuncData} (F : Fun K "_law_form" "_law_form" sForm f fd) (T : Free mg) (mgF : mg "_law_form" = some (.ref f)) (hD : Has P w K mg base CX0 1 "_law_draw" fD ["_law_pool_here", "_law_many"] spDraw) :
    ∀ n : Nat, FnOk P w K mg base CX0 (n + 2) f fd ["_law_pool_here", "_law_words", "_law_deep"] (spFormL n) := by
  have bF : L2.Binds K fd ["_law_pool_here", "_law_words", "_law_deep"] [] := F.binds (ps := ["_law_pool_here", "_law_words", "_law_deep"]) fun _ _ _ _ _ _ us hl => match us, hl with | [_, _, _], _ => rfl
  intro n
  induction n with
  | zero =>
    refine F.ok scForm (fun vs H Q E h => ?_) (fun cdv A outer s H vs Q E hr h => ?_)
    · obtain ⟨p, a, N, d, rfl, _⟩ := h
      rfl
    · obtain ⟨p, a, N, d, rfl, hp, ap, ha, n0, n1, nm, dn, q⟩ := h
      refine ⟨_, pss_cons (ps_if (PW.pt (pw_or (pt_cmpR op_eq (pv 2) pe_int (nomark _)) (pw_or1 (pt_cmpR op_eq (pe_has hD hr (by rfl) pass0 (pa_cons (pv 0) (pa_cons pe_int pa_nil))) pe_int (nomark _)))))
        (fo_leaf (p := p) (a := a) (N := N) T hD hr) pss_nil) pss_never, ?_⟩
      have d0 : d = 0 := by omega
      subst d0
      refine ⟨_, rfl, rfl, _, rfl, iteT (iteT ?_)⟩
      exact ⟨_, _, rfl, hp, ap, ha, n0, n1, nm, fun z H1 x1 nz => q _ _ H1 x1 (.leaf z) (nm z nz) (by show 1 ≤ 0 + 1; omega) (fun y hy => by rw [show y = z from by simpa [Fm.lvs] using hy]; exact nz)⟩
  | succ n ih =>
    have hF : Has P w K mg base CX0 (n + 2) "_law_form" f ["_law_pool_here", "_law_words", "_law_deep"] (spFormL n) := ⟨mgF, F.kp, fd, ih, bF⟩
    refine F.ok scForm (fun vs H Q E h => ?_) (fun cdv A outer s H vs Q E hr h => ?_)
    · obtain ⟨p, a, N, d, rfl, _⟩ := h
      rfl
    · obtain ⟨p, a, N, d, rfl, hp, ap, ha, n0, n1, nm, dn, q⟩ := h
      refine ⟨_, pss_cons (ps_if (PW.pt (pw_or (pt_cmpR op_eq (pv 2) pe_int (nomark _)) (pw_or1 (pt_cmpR op_eq (pe_has hD (hr.mono (by omega)) (by rfl) pass0 (pa_cons (pv 0) (pa_cons pe_int pa_nil))) pe_int (nomark _)))))
        (fo_leaf (p := p) (a := a) (N := N) T hD (hr.mono (by omega))) pss_nil)
        (pss_cons (ps_set (i := 3) scForm.nd rfl (.inl rfl) (pe_ix ix_list (pe_lst (pa_cons pe_str (pa_cons pe_str (pa_cons pe_str (pa_cons pe_str pa_nil))))) (pe_has hD (hr.mono (by omega)) (by rfl) pass0 (pa_cons (pv 0) (pa_cons pe_int pa_nil))) (fun _ _ => rfl)))
        (pss_one (ps_ret (pe_tup (pa_cons (pv 3) (pa_cons (pe_has hF hr (by rfl) pass0 (pa_cons (pv 0) (pa_cons (pv 1) (pa_cons (pe_op op_sub (pv 2) pe_int) pa_nil)))) (pa_cons (pe_has hF hr (by rfl) pass0 (pa_cons (pv 0) (pa_cons (pv 1) (pa_cons (pe_op op_sub (pv 2) pe_int) pa_nil)))) pa_nil))))))), ?_⟩
      have leaf : ∀ H1, K1.Ext p H H1 → ∀ z H2, K1.Ext p H1 H2 → z ∈ N → Q (.str z) H2 := fun H1 x1 z H2 x2 nz => q _ _ H2 (x1.trans x2) (.leaf z) (nm z nz) (by show 1 ≤ d + 1; omega) (fun y hy => by rw [show y = z from by simpa [Fm.lvs] using hy]; exact nz)
      by_cases hd : d = 0
      · subst hd
        refine ⟨_, rfl, rfl, _, rfl, iteT (iteT ?_)⟩
        exact ⟨_, _, rfl, hp, ap, ha, n0, n1, nm, leaf H (.refl hp)⟩
      · refine ⟨_, rfl, rfl, _, rfl, ?_⟩
        rw [decide_eq_false (fun e => hd (by have := V.int.inj e; omega))]
        refine iteF ?_
        refine ⟨_, rfl, p, 3, rfl, hp, by decide, by decide, fun i H1 x1 i0 i1 => ⟨rfl, _, rfl, ?_⟩⟩
        refine ite2 (fun _ => ?_) (fun _ => ?_)
        · exact ⟨_, _, rfl, x1.pool, ap, x1.at ap ha, n0, n1, nm, leaf H1 x1⟩
        · refine ⟨(by show 4 ≤ sizeLine; decide), fun S nS => ?_⟩
          have Sp : S ≠ p := x1.pool.ne nS
          have x2 : K1.Ext p H (upd H1 S (.lst (signs.map V.str))) := x1.same (same_upd nS)
          refine ⟨_, rfl, p, 4, rfl, x2.pool, by decide, by decide, fun j H2 x3 j0 j1 => ?_⟩
          have hS : H2 S = some (.lst (signs.map V.str)) := x3.at Sp upd_same
          have x23 := x2.trans x3
          have ej : ((j.toNat : Nat) : Int) = j := by omega
          have hj : j.toNat < signs.length := by show j.toNat < 4; omega
          refine ⟨S, _, j, .str (signs[j.toNat]), rfl, rfl, SqL.of hS, ?_, ?_⟩
          · have z := atI_nat (xs := signs.map V.str) (j := j.toNat) (by rw [List.getElem?_map, List.getElem?_eq_getElem hj]; rfl)
            rw [ej] at z
            exact z
          have es : ((d - 1 : Nat) : Int) = (d : Int) - 1 := by omega
          refine ⟨_, rfl, _, rfl, _, rfl, _, rfl, _, _, rfl, rfl, ?_⟩
          refine ⟨p, a, N, d - 1, by rw [es]; rfl, x23.pool, ap, x23.at ap ha, n0, n1, nm, by omega, fun v1 t1 H3 x4 m1 ok1 d1 i1 => ?_⟩
          have x34 := x23.trans x4
          refine ⟨_, rfl, _, rfl, _, rfl, _, _, rfl, rfl, ?_⟩
          refine ⟨p, a, N, d - 1, by rw [es]; rfl, x34.pool, ap, x34.at ap ha, n0, n1, nm, by omega, fun v2 t2 H4 x5 m2 ok2 d2 i2 => ?_⟩
          have x45 := x34.trans x5
          refine ⟨(by show 3 ≤ sizeLine; decide), fun r nr => ?_⟩
          have s6 := same_upd (o := .tup [.str (signs[j.toNat]), v1, v2]) nr
          refine q (.ref r) (.node (signs[j.toNat]) t1 t2) _ (x45.same s6) (.node upd_same ((m1.keep (.ext x34.pool x5)).same s6) (m2.same s6)) ⟨List.getElem_mem hj, ok1, ok2⟩ ?_ ?_
          · rw [Fm.dep_node]
            omega
          · intro z hz
            rcases List.mem_append.mp hz with h | h
            · exact i1 z h
            · exact i2 z h
end
end K1

namespace K1
open PySem PySem.Spec
open PyProof.Rows L2 EnT StX SmX TxS DuX ClX
/-! ### the sets that are drawn -/
abbrev nmSe : List Str := ["_law_pool_here", "_law_fields", "_law_people", "_law_field", "_law_name"]
def scSi : Scope := { kind := .function, names := [(".0", .local), ("_law_field", .local), ("_law_people", .cell), ("_law_pool_here", .cell)], isGenerator := false, isCoroutine := false, more := [] }
section
variable {w : World} {P : Program} {base : Heap} {mg : Str → Option Value} {K : PySem.W.Frag}
theorem scSe : FnScope nmSe ["_law_pool_here", "_law_fields", "_law_people"] (defScope s_L_sets) := ⟨rfl, rfl, rfl, by decide +kernel, rfl, by decide +kernel, by decide +kernel⟩
theorem ext_set {p D : Addr} {H H' : Hp} {o : HO} (x : K1.Ext p H H') (n : H D = none) (Dp : D ≠ p) : K1.Ext p H (upd H' D o) := by
  obtain ⟨⟨a, b, c, h⟩, k⟩ := x
  refine ⟨⟨a, b, c, by rw [upd_ne (Ne.symm Dp)]; exact h⟩, fun b o1 nb e => ?_⟩
  rw [upd_ne (ne_of_none e n)]
  exact k b o1 nb e
theorem lc_drawn {p b : Addr} {N : List Str} {x1 x3 x4 : Option V} {H : Hp} {Q : VK} (hp : PoolAt H p) (bp : b ≠ p) (hb : H b = some (.lst (N.map V.str))) (hl : N.length ≤ 100)
    (q : ∀ (D : Addr) (H' : Hp) (ns : List Str), H D = none → K1.Ext p H H' → H' D = some (.lst (ns.map V.str)) → ns.Sublist N → Q (.ref D) H') :
    tLc (iList K (tVar 2)) (gName 4) (tTest (tOp rEq (tCall spDraw [] E0 (tCons (tVar 0) (tCons (tC (.int 2)) tNil))) (tC (.int 0)))) (tVar 4) [4] [some (.ref p), x1, some (.ref b), x3, x4] H Q := by
  refine ⟨_, rfl, b, rfl, ⟨_, SqL.of hb⟩, fun D nD => ?_⟩
  have Dp : D ≠ p := hp.ne nD
  refine lc_it (walk_list (xs := N.map V.str)) (fun i H' => K1.Ext p H H' ∧ ∃ ns : List Str, H' D = some (.lst (ns.map V.str)) ∧ ns.Sublist (N.take i)) ?_ ?_ ?_ ?_
  · exact ⟨(K1.Ext.refl hp).same (same_upd nD), [], upd_same, List.Sublist.refl _⟩
  · rintro i H' _ ⟨x, _⟩
    exact SqL.of (x.at bp hb)
  · rintro i x H1 H2 hi ⟨xx, ns, hD, sb⟩ ⟨rfl, ey⟩
    obtain ⟨z, ez, rfl⟩ : ∃ z, N[i]? = some z ∧ x = V.str z := by
      rw [List.getElem?_map] at ey
      cases e : N[i]? with
      | none => rw [e] at ey; cases ey
      | some z => rw [e] at ey; exact ⟨z, rfl, (Option.some.inj ey).symm⟩
    refine ⟨rfl, _, rfl, p, 2, rfl, xx.pool, by decide, by decide, fun d H3 x3' d0 d1 => ⟨rfl, _, rfl, ?_⟩⟩
    have x13 := xx.trans x3'
    have hD3 := x3'.at Dp hD
    have et : N.take (i + 1) = N.take i ++ [z] := by rw [List.take_add_one, ez]; rfl
    refine ite2 (fun _ => ?_) (fun _ => ?_)
    · refine ⟨_, rfl, ns.map V.str, hD3, ?_, ext_set x13 nD Dp, ns ++ [z], ?_, ?_⟩
      · have := sb.length_le
        rw [List.length_map, sizeLine_eq]
        rw [List.length_take] at this
        omega
      · rw [upd_same, List.map_append]
        rfl
      · rw [et]
        exact sb.append (List.Sublist.refl _)
    · refine ⟨x13, ns, hD3, ?_⟩
      rw [et]
      exact sb.trans (List.sublist_append_left _ _)
  · rintro H' ⟨x, ns, hD, sb⟩
    rw [List.length_map, List.take_length] at sb
    exact q D H' ns nD x hD sb
/-- a field, its list, what the list holds -/
abbrev Rw3 : Type := Str × Addr × List Str
def entsR (rs : List Rw3) : List (Key × V) := rs.map fun r => (Sum.inr r.1, V.ref r.2.1)
structure KnownAt (H : Hp) (d p : Addr) (rs : List Rw3) (N : List Str) : Prop where
  d : H d = some (.dK (entsR rs))
  l : ∀ r ∈ rs, H r.2.1 = some (.lst (r.2.2.map V.str)) ∧ r.2.2.Sublist N ∧ r.2.1 ≠ p
theorem merge_nd : ∀ {more kvs : List (Key × V)}, (more.map (·.1)).Nodup → (∀ k ∈ more.map (·.1), valV kvs k = none) → mergeK kvs more = kvs ++ more
  | [], kvs, _, _ => (List.append_nil kvs).symm
  | m :: r, kvs, nd, h => by
    show mergeK (putK kvs m.1 m.2) r = _
    have h1 : valV kvs m.1 = none := h _ List.mem_cons_self
    have nd := List.nodup_cons.mp nd
    rw [putK_new _ h1, merge_nd nd.2 fun k hk => ?_, List.append_assoc]
    · rfl
    · rw [valV_snoc _ _ _ _ h1, if_neg (fun e => nd.1 (by show m.1 ∈ _; rw [← e]; exact hk))]
      exact h k (List.mem_cons_of_mem _ hk)
def spSetsL : Sp := fun vs H Q _ => ∃ (p a b : Addr) (F N : List Str), vs = [.ref p, .ref a, .ref b] ∧ PoolAt H p ∧ a ≠ p ∧ b ≠ p ∧ H a = some (.lst (F.map V.str)) ∧ H b = some (.lst (N.map V.str)) ∧ F.length ≤ 100 ∧ N.length ≤ 100 ∧ F.Nodup ∧
  ∀ (d : Addr) (H' : Hp) (rs : List Rw3), H d = none → K1.Ext p H H' → KnownAt H' d p rs N → rs.map (·.1) = F → Q (.ref d) H'
theorem lc_rows {p a b : Addr} {F N : List Str} {x3 x4 : Option V} {H : Hp} {Q : VK} (hp : PoolAt H p) (ap : a ≠ p) (bp : b ≠ p) (ha : H a = some (.lst (F.map V.str))) (hb : H b = some (.lst (N.map V.str))) (lF : F.length ≤ 100) (hl : N.length ≤ 100)
    (q : ∀ (D : Addr) (H' : Hp) (rs : List Rw3) (ps : List Addr), H D = none → K1.Ext p H H' → H' D = some (.lst (ps.map V.ref)) → Paired (fun c r => H' c = some (.tup [.str r.1, .ref r.2.1])) ps rs → (∀ r ∈ rs, H' r.2.1 = some (.lst (r.2.2.map V.str)) ∧ r.2.2.Sublist N ∧ r.2.1 ≠ p) → rs.map (·.1) = F → Q (.ref D) H') :
    tLc (iList K (tVar 1)) (gName 3) tYes (tTup (tCons (tVar 3) (tCons (tLc (iList K (tVar 2)) (gName 4) (tTest (tOp rEq (tCall spDraw [] E0 (tCons (tVar 0) (tCons (tC (.int 2)) tNil))) (tC (.int 0)))) (tVar 4) [4]) tNil))) [3] [some (.ref p), some (.ref a), some (.ref b), x3, x4] H Q := by
  refine ⟨_, rfl, a, rfl, ⟨_, SqL.of ha⟩, fun D nD => ?_⟩
  have Dp : D ≠ p := hp.ne nD
  refine lc_it (walk_list (xs := F.map V.str)) (fun i H' => K1.Ext p H H' ∧ ∃ (rs : List Rw3) (ps : List Addr), H' D = some (.lst (ps.map V.ref)) ∧ Paired (fun c r => H' c = some (.tup [.str r.1, .ref r.2.1])) ps rs ∧ (∀ r ∈ rs, H' r.2.1 = some (.lst (r.2.2.map V.str)) ∧ r.2.2.Sublist N ∧ r.2.1 ≠ p ∧ r.2.1 ≠ D) ∧ rs.map (·.1) = F.take i) ?_ ?_ ?_ ?_
  · exact ⟨(K1.Ext.refl hp).same (same_upd nD), [], [], upd_same, .nil, (fun r hr => by cases hr), rfl⟩
  · rintro i H' _ ⟨x, _⟩
    exact SqL.of (x.at ap ha)
  · rintro i x H1 H2 hi ⟨xx, rs, ps, hD, hP, hR, hF⟩ ⟨rfl, ey⟩
    obtain ⟨z, ez, rfl⟩ : ∃ z, F[i]? = some z ∧ x = V.str z := by
      rw [List.getElem?_map] at ey
      cases e : F[i]? with
      | none => rw [e] at ey; cases ey
      | some z => rw [e] at ey; exact ⟨z, rfl, (Option.some.inj ey).symm⟩
    have et : F.take (i + 1) = F.take i ++ [z] := by rw [List.take_add_one, ez]; rfl
    refine ⟨rfl, ?_⟩
    unfold tYes
    show (if true = true then _ else _)
    rw [if_pos rfl]
    refine ⟨_, rfl, ?_⟩
    show tLc (iList K (tVar 2)) (gName 4) (tTest (tOp rEq (tCall spDraw [] E0 (tCons (tVar 0) (tCons (tC (.int 2)) tNil))) (tC (.int 0)))) (tVar 4) [4] _ H2 _
    refine lc_drawn xx.pool bp (xx.at bp hb) hl fun L H3 ns nL x3' hL sb => ?_
    have x13 := xx.trans x3'
    have Lp : L ≠ p := xx.pool.ne nL
    have LD : L ≠ D := fun e => by rw [e, hD] at nL; cases nL
    refine ⟨(by show 2 ≤ sizeLine; decide), fun c nc => ?_⟩
    have x14 := x13.same (same_upd (o := .tup [.str z, .ref L]) nc)
    have hD4 : (upd H3 c (.tup [.str z, .ref L])) D = some (.lst (ps.map V.ref)) := same_upd nc _ _ (x3'.at Dp hD)
    have cD : c ≠ D := fun e => by rw [e, x3'.at Dp hD] at nc; cases nc
    refine ⟨ps.map V.ref, hD4, ?_, ext_set x14 nD Dp, rs ++ [(z, L, ns)], ps ++ [c], ?_, ?_, ?_, ?_⟩
    · have e1 := hP.length
      have e2 : rs.length = (F.take i).length := by rw [← hF, List.length_map]
      rw [List.length_take] at e2
      rw [List.length_map, sizeLine_eq]
      omega
    · rw [upd_same, List.map_append]
      rfl
    · refine Paired.snoc (hP.mono fun y r hy => ?_) ?_
      · have yp : y ≠ p := fun e => by
          obtain ⟨u1, u2, u3, hu⟩ := xx.pool
          rw [e, hu] at hy
          cases hy
        have yD : y ≠ D := fun e => by rw [e, hD] at hy; cases hy
        rw [upd_ne yD]
        exact same_upd nc _ _ (x3'.at yp hy)
      · rw [upd_ne cD, upd_same]
    · intro r hr
      rcases List.mem_append.mp hr with h | h
      · obtain ⟨h1, h2, h3, h4⟩ := hR r h
        exact ⟨by rw [upd_ne h4]; exact same_upd nc _ _ (x3'.at h3 h1), h2, h3, h4⟩
      · rw [List.mem_singleton] at h
        subst h
        exact ⟨by rw [upd_ne LD]; exact same_upd nc _ _ hL, sb, Lp, LD⟩
    · rw [et, List.map_append, hF]
      rfl
  · rintro H' ⟨x, rs, ps, hD, hP, hR, hF⟩
    rw [List.length_map, List.take_length] at hF
    exact q D H' rs ps nD x hD hP (fun r hr => ⟨(hR r hr).1, (hR r hr).2.1, (hR r hr).2.2.1⟩) hF
theorem ok_sets {f fD : Addr} {fd : FuncData} (F : Fun K "_law_sets" "_law_sets" s_L_sets f fd) (T : Free mg) (gD : mg "dict" = none) (hD : Has P w K mg base CX0 1 "_law_draw" fD ["_law_pool_here", "_law_many"] spDraw) :
    FnOk P w K mg base CX0 2 f fd ["_law_pool_here", "_law_fields", "_law_people"] spSetsL := by
  refine F.ok scSe (fun vs H Q E h => ?_) (fun cdv A outer s H vs Q E hr h => ?_)
  · obtain ⟨p, a, b, F, N, rfl, _⟩ := h
    rfl
  · obtain ⟨p, a, b, Fs, N, rfl, hp, ap, bp, ha, hb, lF, lN, nd, q⟩ := h
    refine ⟨_, pss_one (ps_ret (pe_callTy (call_dictP rfl) (by rfl) gD (by decide +kernel) (pa_cons (pe_lc (own := [("_law_field", 3)]) (g := gName 3) (tt := tYes) (te := tTup (tCons (tVar 3) (tCons (tLc (iList K (tVar 2)) (gName 4) (tTest (tOp rEq (tCall spDraw [] E0 (tCons (tVar 0) (tCons (tC (.int 2)) tNil))) (tC (.int 0)))) (tVar 4) [4]) tNil))) rfl scSe.nd (pi_list (pv 1)) (blkOk_by (own := [("_law_field", 3)]) (N := nmSe) (sc := defScope s_L_sets) (by decide +kernel)) (fun _ _ _ _ _ => pg_name (i := 3) scSe.nd rfl (Or.inl rfl)) (fun _ _ _ _ _ => pts_nil) (fun _ _ _ _ _ => pe_tup (pa_cons (pv 3) (pa_cons (pe_lc (own := [("_law_name", 4)]) (g := gName 4) rfl scSe.nd (pi_list (pv 2)) (blkOk_by (own := [("_law_name", 4)]) (N := nmSe) (sc := scSi) (by decide +kernel)) (fun _ _ _ _ _ => pg_name (i := 4) scSe.nd rfl (Or.inl rfl)) (fun _ _ _ _ _ => pts_one (pt_cmpR op_eq (pe_has hD hr (by rfl) pass0 (pa_cons (pv 0) (pa_cons pe_int pa_nil))) pe_int (nomark _))) (fun _ _ _ _ _ => pv 4)) pa_nil)))) pa_nil))), ?_⟩
    unfold tRet tCB
    refine lc_rows hp ap bp ha hb lF lN fun D H' rs ps nD x hD hP hR hF => ?_
    refine ⟨D, ps, entsR rs, rfl, SqL.of hD, ?_, fun d nd' => ?_⟩
    · have g : ∀ {l1 : List Addr} {l2 : List Rw3}, Paired (fun c r => H' c = some (.tup [.str r.1, .ref r.2.1])) l1 l2 → Paired (fun p kv => SqT K H' p [kV kv.1, kv.2]) l1 (entsR l2) := fun {l1 l2} h => by
        induction h with
        | nil => exact .nil
        | cons h1 _ ih => exact .cons (SqT.of h1) ih
      exact g hP
    · have nk : ((entsR rs).map (·.1)).Nodup := by
        have e1 : (entsR rs).map (·.1) = (rs.map (·.1)).map fun z => (Sum.inr z : Key) := by
          unfold entsR
          rw [List.map_map, List.map_map]
          rfl
        rw [e1, hF]
        exact nd.map _ (fun x y h e => h (Sum.inr.inj e))
      have e : mergeK [] (entsR rs) = entsR rs := merge_nd nk (fun k hk => rfl)
      rw [e]
      exact q d _ rs (x.free nd') (x.same (same_upd nd')) ⟨upd_same, fun r hr => ⟨same_upd nd' _ _ (hR r hr).1, (hR r hr).2⟩⟩ hF
end
end K1

namespace K1
open PySem PySem.Spec PySem.W PySem.Calls
open PyProof.Rows L2
/-! ### list(d.keys()) -/
def rKeysL : V → Hp → VK → Prop := fun x H Q => ∃ (d : Addr) (kvs : List (Key × V)), x = .ref d ∧ H d = some (.dK kvs) ∧ ∀ q, H q = none → Q (.ref q) (upd H q (.lst (kvs.map fun kv => kV kv.1)))
def tListKeys (te : TE) : TE := fun σ H Q => te σ H fun x H1 => rKeysL x H1 Q
section
variable {X : Cx} {e : PySem.Expr} {te : TE} {p apos cpos pos : Pos}
theorem pe_listKeys (hc : X.calm = true) (he : PE X e te) (hg : Gl X "list") (hm : X.mg "list" = none) (hv : bootBuiltins "list" = some (.type "list")) (hbase : attributeBase e "keys" X.env (eval e X.env) = eval e X.env := by rfl) (hline : (apos.endLine == cpos.line) = true := by rfl)
    (hs : starEach [.Call (.Attribute e "keys" apos) [] [] cpos] X.env = (false, eval (.Call (.Attribute e "keys" apos) [] [] cpos) X.env) :: starEach [] X.env := by rfl) :
    PE X (.Call (.Name "list" p) [.Call (.Attribute e "keys" apos) [] [] cpos] [] pos) (tListKeys te) := by
  refine ⟨fun pins s σ H Q I hq => ?_⟩
  refine wpAny_Call_Name_kw (ld_blt I hg hm hv ?_)
  refine PyProof.Rows.callWith_type1 ?_ hs rfl
  rw [hs]
  show wpAny _ _ (spliced ((false, eval (.Call (.Attribute e "keys" apos) [] [] cpos) X.env) :: backTo pos (starEach [] X.env))) _ _ s
  refine Calls.spliced_cons ?_
  refine wpAny_Call_method (T := "dict") (id := "dict.keys") hbase rfl hline F.plainAttrs_dict F.slot_dict_keys F.type_dict_keys (thn (he.run pins s σ H _ I hq) fun u s1 ⟨x, H1, I1, rx, d, kvs, ex, hd, q⟩ => ?_)
  subst ex
  obtain rfl : u = Value.ref d := rx
  obtain ⟨hz, lo, vs, kv, hdo⟩ := I1.hok d _ hd
  obtain ⟨ep, hat⟩ := hdo.dictAt
  have lk : kvs.length = vs.length := Paired.length kv
  have I2 : Inv X pins σ H1 { s1 with heap := s1.heap.push { cls := .type "dict_keys", data := .fields #[.ref d] } } := I1.kept (t' := s1.toks) fun b ob q => Heap.get?_push_of_some _ q
  refine ⟨hdo.typeIs, hdo.mapOf.noDict, ?_⟩
  show wpAny _ _ (callWith cpos (.builtin "dict.keys") [.ref d] [] []) _ X.xe s1
  refine method_meetsIn F.slot_dict_keys F.entry_dict_keys rfl (PySem.evalArgs_none ⟨rfl, hdo.typeIs, F.args_dict_keys_1 _, _, kdl_meets_keys (mixKind X.prog X.w) d lo, ⟨vs, hdo⟩, ?_⟩)
  refine Calls.spliced_nil ?_
  refine PySem.W.kdl_call (PySem.W.kdl_keys (knd := mixKind X.prog X.w) (kvs := vs) (ep := ep)) (I1.ok.hd hc) ⟨⟨_, Heap.get?_push_size _ rfl, rfl, rfl⟩, hat.push _⟩ (by rw [← lk]; exact hz) fun h' tk acc' c' hk hS hacc => ?_
  refine ⟨.ref _, upd H1 _ (.lst (kvs.map fun kv => kV kv.1)), I2.laid hk (Nat.le_refl _) (show ObjOk X.prog X.w _ _ _ (.lst (kvs.map fun kv => kV kv.1)) from ⟨?_, acc'.toList, c', ?_, ?_⟩), rfl, q _ (I2.hok.fresh (Nat.le_refl _))⟩
  · rw [List.length_map]; exact hz
  · have el : acc'.toList.length = acc'.size := by simp
    refine vals_of_at (by rw [List.length_map, el, hacc.1, lk]) fun j x w h1 h2 => ?_
    obtain ⟨k, y, hky, hi⟩ := hacc.2 j w (by rw [← Array.getElem?_toList]; exact h2)
    have e1 : (kvs.map (·.1))[j]? = some k := by
      rw [KV.keys kv, List.getElem?_map, hky] <;> rfl
    have e2 : (kvs.map fun kv => kV kv.1)[j]? = some (kV k) := by
      have e3 : (kvs.map fun kv => kV kv.1) = (kvs.map (·.1)).map kV := by rw [List.map_map] <;> rfl
      rw [e3, List.getElem?_map, e1] <;> rfl
    rw [e2] at h1
    cases h1
    exact keyIs_rel hi
  · rw [Array.toArray_toList]; exact hS
end
end K1

namespace K1
open PySem PySem.Spec
open PyProof.Rows L2 EnT StX SmX TxS DuX ClX
/-! ### the sets as pairs -/
/-- the Members at m are those of a list of names -/
def MemL (C : Addr) (H : Hp) (m : Addr) (ns : List Str) : Prop := ∃ ys, MemAt C H m ys ∧ ∀ x, x ∈ ys ↔ x ∈ ns
theorem MemL.same {C m : Addr} {H H' : Hp} {ns : List Str} (s : Same H H') (h : MemL C H m ns) : MemL C H' m ns := by
  obtain ⟨ys, a, b⟩ := h
  exact ⟨ys, a.same s, b⟩
theorem MemL.set {C m t : Addr} {H : Hp} {ns : List Str} {xs : List V} {o : HO} (h : H t = some (.lst xs)) (g : MemL C H m ns) : MemL C (upd H t o) m ns := by
  obtain ⟨ys, a, b⟩ := g
  exact ⟨ys, a.set h, b⟩
theorem paired_gr {α β : Type} {F : α → β → Prop} : ∀ {xs : List α} {ys : List β}, Paired F xs ys → ∀ {i : Nat} {y : β}, ys[i]? = some y → ∃ x, xs[i]? = some x ∧ F x y
  | _, _, .nil, i, x, h => by cases h
  | _, _, .cons r t, 0, x, h => by
    cases Option.some.inj h
    exact ⟨_, rfl, r⟩
  | _, _, .cons r t, i + 1, x, h => paired_gr t h
theorem paired_gl {α β : Type} {F : α → β → Prop} : ∀ {xs : List α} {ys : List β}, Paired F xs ys → ∀ {i : Nat} {x : α}, xs[i]? = some x → ∃ y, ys[i]? = some y ∧ F x y
  | _, _, .nil, i, x, h => by cases h
  | _, _, .cons r t, 0, x, h => by
    cases Option.some.inj h
    exact ⟨_, rfl, r⟩
  | _, _, .cons r t, i + 1, x, h => paired_gl t h
/-- pairs of fields and Members, made of the rows -/
def PairR (C : Addr) (H : Hp) (es : List (Str × Addr)) (rs : List Rw3) : Prop := Paired (fun e r => e.1 = r.1 ∧ MemL C H e.2 r.2.2) es rs
def spPairs (C : Addr) : Sp := fun vs H Q _ => ∃ (d p : Addr) (rs : List Rw3) (N : List Str), vs = [.ref d] ∧ KnownAt H d p rs N ∧ rs.length ≤ 100 ∧ N.length ≤ 100 ∧ (∀ z ∈ N, nameB z = true) ∧ (∀ r ∈ rs, nameB r.1 = true ∧ fieldB r.1 = true) ∧ (rs.map (·.1)).Nodup ∧
  ∀ (a : Addr) (xs : List V) (es : List (Str × Addr)) (H' : Hp), H a = none → Same H H' → H' a = some (.tup xs) → PairsAt C H' xs es → es.length = xs.length → PairR C H' es rs → Q (.ref a) H'
abbrev nmPr : List Str := ["_law_known", "_law_field"]
theorem entsR_at {rs : List Rw3} {i : Nat} {r : Rw3} (nd : (rs.map (·.1)).Nodup) (h : rs[i]? = some r) : valV (entsR rs) (Sum.inr r.1 : Key) = some (.ref r.2.1) := by
  induction rs generalizing i with
  | nil => cases h
  | cons q l ih =>
    have nd := List.nodup_cons.mp nd
    cases i with
    | zero =>
      cases Option.some.inj h
      exact valV_pos rfl
    | succ i =>
      have h : l[i]? = some r := h
      show valV ((Sum.inr q.1, V.ref q.2.1) :: entsR l) (Sum.inr r.1 : Key) = _
      rw [valV_neg (fun e => nd.1 (by
        have e : q.1 = r.1 := Sum.inr.inj e
        show q.1 ∈ _
        rw [e]
        exact List.mem_map.mpr ⟨r, List.mem_of_getElem? h, rfl⟩))]
      exact ih nd.2 h
section
variable {w : World} {P : Program} {base : Heap} {mg : Str → Option Value} {K : PySem.W.Frag} {C CN CM : Addr} {mc : Value}
theorem scPr : FnScope nmPr ["_law_known"] (defScope s_L_pairs) := ⟨rfl, rfl, rfl, by decide +kernel, rfl, by decide +kernel, by decide +kernel⟩
theorem ok_pairs {f : Addr} {fd : FuncData} (F : Fun K "_law_pairs" "_law_pairs" s_L_pairs f fd) (B : Mb P w K mg base C CN CM mc) :
    FnOk P w K mg base CX0 8 f fd ["_law_known"] (spPairs C) := by
  obtain ⟨pF, gF, mF, FF⟩ := B.fromT
  have T := B.T
  refine F.ok scPr (fun vs H Q E h => ?_) (fun cdv A outer s H vs Q E hr h => ?_)
  · obtain ⟨d, p, rs, N, rfl, _⟩ := h
    rfl
  · obtain ⟨d, p, rs, N, rfl, kn, lr, lN, nN, nf, nd, q⟩ := h
    refine ⟨_, pss_one (ps_ret (pe_callTy call_tupK (by rfl) T.tuple (by decide +kernel) (pa_cons (pe_lc (own := [("_law_field", 1)]) (g := gName 1) (tt := tYes)
      (te := tTup (tCons (tVar 1) (tCons (tSMeth C (spFromT C CN) E0 (tC (.ref C)) (tCons (tCB (rTupOf K) (tCons (tDGet (tVar 0) (tVar 1)) tNil)) tNil)) tNil))) rfl scPr.nd (pi_list (pe_listKeys rfl (pv 0) (by rfl) T.list rfl))
      (blkOk_by (own := [("_law_field", 1)]) (N := nmPr) (sc := defScope s_L_pairs) (by decide +kernel)) (fun _ _ _ _ _ => pg_name (i := 1) scPr.nd rfl (Or.inl rfl)) (fun _ _ _ _ _ => pts_nil)
      (fun _ _ _ _ _ => pe_tup (pa_cons (pv 1) (pa_cons (pe_smeth (pe_glob (v := .ref C) (by rfl) B.M.g rfl) B.cr mF FF (hr.mono (by decide)) passL (pa_cons (pe_callTy call_tupK (by rfl) T.tuple (by decide +kernel) (pa_cons (pe_dget (hu_of hr) (pv 0) (pv 1) (fun _ _ => rfl)) pa_nil)) pa_nil)) pa_nil)))) pa_nil))), ?_⟩
    unfold tRet tCB
    refine ⟨_, rfl, d, entsR rs, rfl, kn.d, fun kq nk => ?_⟩
    have ek : (entsR rs).map (fun kv => kV kv.1) = rs.map fun r => V.str r.1 := by
      unfold entsR
      rw [List.map_map]
      rfl
    rw [ek]
    have sk : Same H (upd H kq (.lst (rs.map fun r => V.str r.1))) := same_upd nk
    have hk : (upd H kq (.lst (rs.map fun r => V.str r.1))) kq = some (.lst (rs.map fun r => V.str r.1)) := upd_same
    generalize upd H kq (.lst (rs.map fun r => V.str r.1)) = HK at sk hk ⊢
    refine ⟨kq, rfl, ⟨_, SqL.of hk⟩, fun D nD => ?_⟩
    have nD0 : H D = none := same_free sk nD
    have Dk : D ≠ kq := fun e => by rw [e, hk] at nD; cases nD
    refine lc_it (walk_list (xs := rs.map fun r => V.str r.1)) (fun i H' => Same HK H' ∧ ∃ (es : List (Str × Addr)) (ts : List Addr), H' D = some (.lst (ts.map V.ref)) ∧ Paired (fun t e => H' t = some (.tup [.str e.1, .ref e.2])) ts es ∧ PairR C H' es (rs.take i)) ?_ ?_ ?_ ?_
    · exact ⟨same_upd nD, [], [], upd_same, .nil, .nil⟩
    · rintro i H' _ ⟨sm, _⟩
      exact SqL.of (sm _ _ hk)
    · rintro i x H1 H2 hi ⟨sm, es, ts, hD, hT, hE⟩ ⟨rfl, ey⟩
      obtain ⟨r, er, rfl⟩ : ∃ r, rs[i]? = some r ∧ x = V.str r.1 := by
        rw [List.getElem?_map] at ey
        cases e : rs[i]? with
        | none => rw [e] at ey; cases ey
        | some r => rw [e] at ey; exact ⟨r, rfl, (Option.some.inj ey).symm⟩
      have et : rs.take (i + 1) = rs.take i ++ [r] := by rw [List.take_add_one, er]; rfl
      have hr1 := List.mem_of_getElem? er
      obtain ⟨hL, sbL, _⟩ := kn.l r hr1
      have s2 := sk.trans sm
      refine ⟨rfl, ?_⟩
      unfold tYes
      show (if true = true then _ else _)
      rw [if_pos rfl]
      have dg : DGet H2 d (.str r.1) (some (.ref r.2.1)) := by
        have z := DGet.k (k := (Sum.inr r.1 : Key)) (s2 _ _ kn.d)
        rw [entsR_at nd er] at z
        exact z
      refine ⟨_, rfl, rfl, _, rfl, _, rfl, d, _, rfl, dg, r.2.1, r.2.2.map V.str, rfl, .inl ⟨SqL.of (s2 _ _ hL), fun l nl => ?_⟩⟩
      have s3 : Same H2 (upd H2 l (.tup (r.2.2.map V.str))) := same_upd nl
      have hl3 : (upd H2 l (.tup (r.2.2.map V.str))) l = some (.tup (r.2.2.map V.str)) := upd_same
      generalize upd H2 l (.tup (r.2.2.map V.str)) = H3 at s3 hl3 ⊢
      refine ⟨l, _, rfl, hl3, mk_names (fun z hz => nN z (sbL.subset hz)) (by have := sbL.length_le; omega) fun b ys H4 nb s4 em M => ?_⟩
      refine ⟨(by show 2 ≤ sizeLine; decide), fun c nc => ?_⟩
      have s24 := s3.trans s4
      have hD4 := s24 _ _ hD
      have s5 : Same H4 (upd H4 c (.tup [.str r.1, .ref b])) := same_upd nc
      have hD5 := s5 _ _ hD4
      have cD : c ≠ D := fun e => by rw [e, hD4] at nc; cases nc
      refine ⟨ts.map V.ref, hD5, ?_, same_set ((sm.trans s24).trans s5) nD, es ++ [(r.1, b)], ts ++ [c], ?_, ?_, ?_⟩
      · have e1 := hT.length
        have e2 := hE.length
        rw [List.length_take] at e2
        rw [List.length_map, sizeLine_eq]
        omega
      · rw [upd_same, List.map_append]
        rfl
      · refine Paired.snoc (hT.mono fun u e hu => ?_) ?_
        · have uD : u ≠ D := fun k => by rw [k, hD] at hu; cases hu
          rw [upd_ne uD]
          exact s5 _ _ (s24 _ _ hu)
        · rw [upd_ne cD, upd_same]
      · rw [et]
        refine Paired.snoc (hE.mono fun e r' hr' => ⟨hr'.1, (hr'.2.same (s24.trans s5)).set hD5⟩) ⟨rfl, ?_⟩
        have ml : MemL C H4 b r.2.2 := ⟨ys, M, em⟩
        exact (ml.same s5).set hD5
    · rintro H' ⟨sm, es, ts, hD, hT, hE⟩
      rw [List.length_map, List.take_length] at hE
      refine ⟨D, _, rfl, .inl ⟨SqL.of hD, fun a na => ?_⟩⟩
      have s5 : Same H' (upd H' a (.tup (ts.map V.ref))) := same_upd na
      have sT := (sk.trans sm).trans s5
      have er : rs.take rs.length = rs := List.take_length
      refine q a _ es _ (same_free (sk.trans sm) na) sT upd_same (fun i z m e => ?_) (by rw [List.length_map, hT.length]) (hE.mono fun e r' hr' => ⟨hr'.1, hr'.2.same s5⟩)
      obtain ⟨u, e1, e2⟩ := paired_gr hT e
      obtain ⟨r, e3, e4, ys, M, _⟩ := paired_gl hE e
      have hz := nf r (List.mem_of_getElem? e3)
      have e4 : z = r.1 := e4
      refine ⟨u, ys, by rw [List.getElem?_map, e1]; rfl, s5 _ _ e2, ?_, ?_, M.same s5⟩
      · rw [e4]; exact hz.1
      · rw [e4]; exact hz.2
end
end K1

namespace K1
open PySem PySem.Spec
open PyProof.Rows L2 EnT StX SmX TxS DuX ClX
/-! ### the names that are wanted -/
/-- the fields whose list has a name -/
def amF (rs : List Rw3) (x : Str) : List Str := (rs.filter fun r => decide (x ∈ r.2.2)).map (·.1)
def wants (rs : List Rw3) (G : List Str) (t : Fm) (x : Str) : Bool := t.val (inF (decide (x ∈ G)) (amF rs x))
def spWanted : Sp := fun vs H Q _ => ∃ (v : V) (t : Fm) (d b g p : Addr) (rs : List Rw3) (N M G : List Str), vs = [v, .ref d, .ref b, .ref g] ∧ FmAt H v t ∧ t.Ok ∧ t.dep ≤ 7 ∧ KnownAt H d p rs M ∧ rs.length ≤ 100 ∧ (rs.map (·.1)).Nodup ∧ H b = some (.lst (N.map V.str)) ∧ N.length ≤ 60 ∧ (∀ z ∈ N, nameB z = true) ∧ H g = some (.lst (G.map V.str)) ∧
  ∀ (q : Addr) (ys : List Str) (H' : Hp), H q = none → Same H H' → H' q = some (.lst (ys.map V.str)) → sortedS ys = true → ys.Perm (N.filter (wants rs G t)) → Q (.ref q) H'
def outA (rs : List Rw3) (z : Str) (i : Nat) : List V := ((rs.take i).filter fun r => decide (z ∈ r.2.2)).map fun r => V.str r.1
theorem outA_yes {rs : List Rw3} {z : Str} {i : Nat} {r : Rw3} (h : rs[i]? = some r) (k : z ∈ r.2.2) : outA rs z (i + 1) = outA rs z i ++ [V.str r.1] := by
  unfold outA
  rw [List.take_add_one, h, List.filter_append, List.map_append]
  simp [k]
theorem outA_no {rs : List Rw3} {z : Str} {i : Nat} {r : Rw3} (h : rs[i]? = some r) (k : ¬ z ∈ r.2.2) : outA rs z (i + 1) = outA rs z i := by
  unfold outA
  rw [List.take_add_one, h, List.filter_append, List.map_append]
  simp [k]
theorem outA_len {rs : List Rw3} {z : Str} {i : Nat} (h : rs.length ≤ 100) : (outA rs z i).length < sizeLine := by
  unfold outA
  rw [List.length_map, sizeLine_eq]
  have h1 := List.length_filter_le (fun r : Rw3 => decide (z ∈ r.2.2)) (rs.take i)
  rw [List.length_take] at h1
  omega
theorem outA_end {rs : List Rw3} {z : Str} {n : Nat} (h : n = rs.length) : outA rs z n = (amF rs z).map V.str := by
  unfold outA amF
  rw [h, List.take_length, List.map_map]
  rfl
abbrev nmWn : List Str := ["_law_shape", "_law_known", "_law_people", "_law_given_here", "_law_found", "_law_name", "_law_among", "_law_field"]
section
variable {w : World} {P : Program} {base : Heap} {mg : Str → Option Value} {K : PySem.W.Frag}
theorem scWn : FnScope nmWn ["_law_shape", "_law_known", "_law_people", "_law_given_here"] (defScope s_L_wanted) := ⟨rfl, rfl, rfl, by decide +kernel, rfl, by decide +kernel, by decide +kernel⟩
theorem ok_wanted {f f1 : Addr} {fd : FuncData} (F : Fun K "_law_wanted" "_law_wanted" s_L_wanted f fd) (T : Free mg) (hI : Has P w K mg base CX0 8 "_law_in" f1 ["_law_shape", "_law_among", "_law_gotten"] (spIn 7)) :
    FnOk P w K mg base CX0 9 f fd ["_law_shape", "_law_known", "_law_people", "_law_given_here"] spWanted := by
  refine F.ok scWn (fun vs H Q E h => ?_) (fun cdv A outer s H vs Q E hr h => ?_)
  · obtain ⟨v, t, d, b, g, p, rs, N, M, G, rfl, _⟩ := h
    rfl
  · obtain ⟨v, t, d, b, g, p, rs, N, M, G, rfl, m, ok, dn, kn, lr, nd, hb, lN, nN, hg, q⟩ := h
    refine ⟨_, pss_cons (ps_set (i := 4) scWn.nd rfl (.inl rfl) (pe_lst pa_nil))
      (pss_cons (ps_for PassesOwn.never rfl (pi_list (pv 2)) (pg_name (i := 5) scWn.nd rfl (.inr rfl))
        (pss_cons (ps_setLc (i := 6) (own := [("_law_field", 7)]) (g := gName 7) (tt := tTest (tOp (rIn K false) (tVar 5) (tDGet (tVar 1) (tVar 7)))) (te := tVar 7) rfl scWn.nd rfl rfl (sw_true rfl rfl rfl (by decide +kernel)) (pi_list (pe_listKeys rfl (pv 1) (by rfl) T.list rfl))
            (blkOk_by (own := [("_law_field", 7)]) (N := nmWn) (sc := defScope s_L_wanted) (by decide +kernel)) (fun _ _ _ _ _ => pg_name (i := 7) scWn.nd rfl (Or.inl rfl))
            (fun _ _ _ _ _ => pts_one (pt_cmpR op_in_seq (pv 5) (pe_dget (hu_of hr) (pv 1) (pv 7) (fun _ _ => rfl)) (by rfl))) (fun _ _ _ _ _ => pv 7))
        (pss_one (ps_if (pt_val (pe_has hI hr (by rfl) pass0 (pa_cons (pv 0) (pa_cons (pv 6) (pa_cons (pe_cmpR op_in_seq (pv 5) (pv 3) (by rfl)) pa_nil)))))
          (pss_one (ps_expr (pe_bm PySem.F.plainAttrs_list PySem.F.slot_list_append PySem.F.type_list_append mt_append (pv 4) (pa_cons (pv 5) pa_nil)))) pss_nil))))
      (pss_one (ps_ret (pe_callB cr_sortedS (by rfl) T.sorted (by decide +kernel) (pa_cons (pe_lc (own := [("_law_name", 5)]) (g := gName 5) (tt := tYes) rfl scWn.nd (pi_list (pv 4))
          (blkOk_by (own := [("_law_name", 5)]) (N := nmWn) (sc := defScope s_L_wanted) (by decide +kernel)) (fun _ _ _ _ _ => pg_name (i := 5) scWn.nd rfl (Or.inl rfl)) (fun _ _ _ _ _ => pts_nil)
          (fun _ _ _ _ _ => pe_callTy SkE.call_str_str (by rfl) T.str (by decide +kernel) (pa_cons (pv 5) pa_nil))) pa_nil))))), ?_⟩
    refine ⟨(by decide), fun fL nF => ?_⟩
    have hnF : H fL = none := nF
    have sF : Same H (upd H fL (.lst [])) := same_upd nF
    have hF : (upd H fL (.lst [])) fL = some (.lst ([] : List V)) := upd_same
    generalize upd H fL (.lst []) = H0 at sF hF ⊢
    refine ⟨_, rfl, b, rfl, ⟨_, SqL.of (sF _ _ hb)⟩, ?_⟩
    refine for_it (walk_list (xs := N.map V.str)) (fun i σ H' => Same H H' ∧ H' fL = some (.lst (((N.take i).filter (wants rs G t)).map V.str)) ∧ ∃ o5 o6 o7, σ = [some v, some (.ref d), some (.ref b), some (.ref g), some (.ref fL), o5, o6, o7]) ?_ ?_ ?_ ?_
    · exact ⟨sF, hF, _, _, _, rfl⟩
    · rintro i σ H' _ ⟨sm, _⟩
      exact SqL.of (sm _ _ hb)
    · rintro i x σ H1 H2 hi ⟨sm, hD, o5, o6, o7, rfl⟩ ⟨rfl, ey⟩
      obtain ⟨z, ez, rfl⟩ : ∃ z, N[i]? = some z ∧ x = V.str z := by
        rw [List.getElem?_map] at ey
        cases e : N[i]? with
        | none => rw [e] at ey; cases ey
        | some z => rw [e] at ey; exact ⟨z, rfl, (Option.some.inj ey).symm⟩
      have et : N.take (i + 1) = N.take i ++ [z] := by rw [List.take_add_one, ez]; rfl
      refine ⟨_, rfl, d, entsR rs, rfl, sm _ _ kn.d, fun kq nk => ?_⟩
      have ek : (entsR rs).map (fun kv => kV kv.1) = rs.map fun r => V.str r.1 := by
        unfold entsR
        rw [List.map_map]
        rfl
      rw [ek]
      have sk : Same H2 (upd H2 kq (.lst (rs.map fun r => V.str r.1))) := same_upd nk
      have hk : (upd H2 kq (.lst (rs.map fun r => V.str r.1))) kq = some (.lst (rs.map fun r => V.str r.1)) := upd_same
      generalize upd H2 kq (.lst (rs.map fun r => V.str r.1)) = HK at sk hk ⊢
      have s1 := sm.trans sk
      refine ⟨kq, rfl, ⟨_, SqL.of hk⟩, fun D nD => ?_⟩
      refine lc_pure (K := K) (a := kq) (xs := rs.map fun r => V.str r.1) (outA rs z) (fun H' s => SqL.of (s _ _ hk)) nD rfl (fun j x hx s2 => ?_) (fun H3 s3 h3 => ?_)
      · obtain ⟨r, er, rfl⟩ : ∃ r, rs[j]? = some r ∧ x = V.str r.1 := by
          rw [List.getElem?_map] at hx
          cases e : rs[j]? with
          | none => rw [e] at hx; cases hx
          | some r => rw [e] at hx; exact ⟨r, rfl, (Option.some.inj hx).symm⟩
        obtain ⟨hL, _, _⟩ := kn.l r (List.mem_of_getElem? er)
        have s3 := s1.trans s2
        have dg : DGet (upd HK D (.lst (outA rs z j))) d (.str r.1) (some (.ref r.2.1)) := by
          have y := DGet.k (k := (Sum.inr r.1 : Key)) (s3 _ _ kn.d)
          rw [entsR_at nd er] at y
          exact y
        refine ⟨rfl, _, rfl, _, rfl, _, rfl, d, _, rfl, dg, r.2.1, r.2.2.map V.str, rfl, .inl (SqL.of (s3 _ _ hL)), rfl, strs_flat _, ?_⟩
        refine ⟨_, rfl, ?_⟩
        have ei : (if false = true then !inV (V.str z) (r.2.2.map V.str) else inV (V.str z) (r.2.2.map V.str)) = decide (z ∈ r.2.2) := inV_mem z r.2.2
        rw [ei]
        by_cases hz : z ∈ r.2.2
        · rw [decide_eq_true hz]
          exact iteT ⟨_, rfl, step_ok (outA_len lr) (outA_yes er hz)⟩
        · rw [decide_eq_false hz]
          exact iteF (step_no (outA_no er hz).symm.symm)
      · rw [outA_end (List.length_map ..)] at h3
        have s4 := s1.trans s3
        refine ⟨_, rfl, _, rfl, _, rfl, _, rfl, g, G.map V.str, rfl, .inl (SqL.of (s4 _ _ hg)), rfl, strs_flat G, ?_⟩
        have ei : (if false = true then !inV (V.str z) (G.map V.str) else inV (V.str z) (G.map V.str)) = decide (z ∈ G) := inV_mem z G
        rw [ei]
        refine ⟨v, t, D, decide (z ∈ G), amF rs z, rfl, m.same s4, ok, dn, h3, fun H4 s5 => ?_⟩
        have s6 := s4.trans s5
        have hD4 := s5 _ _ (s3 _ _ (sk _ _ hD))
        refine ⟨_, rfl, ?_⟩
        cases hw : wants rs G t z with
        | true =>
          have hw2 : t.val (inF (decide (z ∈ G)) (amF rs z)) = true := hw
          rw [hw2]
          refine iteT ?_
          refine ⟨_, rfl, .inl ⟨rfl, _, SqL.of hD4⟩, _, rfl, fL, _, _, rfl, rfl, hD4, ?_, same_set s6 hnF, ?_, _, _, _, rfl⟩
          · have := List.length_filter_le (wants rs G t) (N.take i)
            rw [List.length_take] at this
            rw [List.length_map, sizeLine_eq]
            omega
          · rw [upd_same, et, List.filter_append, List.map_append]
            simp only [List.filter_cons, hw, List.filter_nil]
            rfl
        | false =>
          have hw2 : t.val (inF (decide (z ∈ G)) (amF rs z)) = false := hw
          rw [hw2]
          refine iteF ⟨s6, ?_, _, _, _, rfl⟩
          rw [et, List.filter_append]
          simp only [List.filter_cons, hw, List.filter_nil]
          rw [if_neg (by decide), List.append_nil]
          exact hD4
    · rintro σ H' ⟨sm, hD, o5, o6, o7, rfl⟩
      rw [List.length_map, List.take_length] at hD
      refine ⟨_, rfl, fL, rfl, ⟨_, SqL.of hD⟩, fun D nD => ?_⟩
      have lw : (N.filter (wants rs G t)).length ≤ 60 := Nat.le_trans (List.length_filter_le _ _) lN
      refine lc_pure (K := K) (a := fL) (xs := (N.filter (wants rs G t)).map V.str) (fun i => ((N.filter (wants rs G t)).take i).map V.str) (fun H3 s => SqL.of (s _ _ hD)) nD rfl (fun j x hx s2 => ?_) (fun H3 s3 h3 => ?_)
      · obtain ⟨z, ez, rfl⟩ : ∃ z, (N.filter (wants rs G t))[j]? = some z ∧ x = V.str z := by
          rw [List.getElem?_map] at hx
          cases e : (N.filter (wants rs G t))[j]? with
          | none => rw [e] at hx; cases hx
          | some z => rw [e] at hx; exact ⟨z, rfl, (Option.some.inj hx).symm⟩
        refine ⟨rfl, ?_⟩
        unfold tYes
        show (if true = true then _ else _)
        rw [if_pos rfl]
        refine ⟨_, rfl, z, rfl, step_ok ?_ ?_⟩
        · rw [List.length_map, List.length_take, sizeLine_eq]
          omega
        · show ((N.filter (wants rs G t)).take (j + 1)).map V.str = ((N.filter (wants rs G t)).take j).map V.str ++ [V.str z]
          rw [List.take_add_one, ez, List.map_append]
          rfl
      · rw [List.length_map, List.take_length] at h3
        refine ⟨D, N.filter (wants rs G t), rfl, SqL.of h3, by omega, fun ys q1 pm srt nq => ?_⟩
        exact q q1 ys _ (same_free (sm.trans s3) nq) ((sm.trans s3).trans (same_upd nq)) upd_same srt pm
end
end K1

namespace K1
open PySem PySem.Spec
open PyProof.Rows L2 EnT StX SmX TxS DuX ClX
/-! ### what is no tuple of pairs -/
/-- a value that is no tuple of pairs, and the text of the index that is wrong -/
def BentR (K : PySem.W.Frag) (C : Addr) (H : Hp) (v : V) (txt : Str) : Prop :=
  (∃ (a r : Addr) (zs : List V), v = .ref a ∧ H a = some (.lst (.ref r :: zs)) ∧ txt = "None") ∨
  (∃ (a : Addr) (xs : List V) (es : List (Str × Addr)) (y : V), v = .ref a ∧ H a = some (.tup xs) ∧ PairsAt C H xs es ∧ (es.map (·.1)).Nodup ∧ xs.length ≤ 100 ∧ xs[es.length]? = some y ∧ BadAt K C H y es ∧ txt = toString ((es.length : Nat) : Int))
def spBent (K : PySem.W.Frag) (C : Addr) : Sp := fun vs H Q _ => ∃ (p a : Addr) (xs : List V) (es : List (Str × Addr)), vs = [.ref p, .ref a] ∧ PoolAt H p ∧ H a = some (.tup xs) ∧ PairsAt C H xs es ∧ es.length = xs.length ∧ 0 < xs.length ∧ xs.length ≤ 50 ∧ (es.map (·.1)).Nodup ∧
  ∀ (L : Addr) (v : V) (txt : Str) (H' : Hp), H L = none → K1.Ext p H H' → H' L = some (.lst [v, .str txt]) → L ≠ p → BentR K C H' v txt → Q (.ref L) H'
theorem cut_take {xs : List V} {k : Nat} (h : k ≤ xs.length) : cutV xs none (some (k : Int)) = xs.take k := by
  unfold cutV
  rw [HT.sIx_none, HT.sIx_nat, Nat.min_eq_left h]
  rfl
theorem cut_drop {xs : List V} {k : Nat} (h : k + 1 ≤ xs.length) : cutV xs (some ((k : Int) + 1)) none = xs.drop (k + 1) := by
  have e : ((k : Int) + 1) = ((k + 1 : Nat) : Int) := rfl
  unfold cutV
  rw [e, HT.sIx_none, HT.sIx_nat, Nat.min_eq_left h]
  exact List.take_of_length_le (by rw [List.length_drop]; omega)
theorem catA_go {K : PySem.W.Frag} {a b : Addr} {xs ys : List V} {H : Hp} {Q : VK} (ha : H a = some (.tup xs)) (hb : H b = some (.tup ys)) (hl : xs.length + ys.length ≤ 1000) (q : ∀ c H', Same H H' → H' c = some (.tup (xs ++ ys)) → Q (.ref c) H') : rCatA K (.ref a) (.ref b) H Q := by
  refine ⟨a, b, xs, ys, rfl, rfl, SqT.of ha, SqT.of hb, by rw [sizeLine_eq]; omega, fun e => ?_, fun _ e => ?_, fun _ _ c nc => q c _ (same_upd nc) upd_same⟩
  · subst e
    exact q b H (Same.refl H) hb
  · subst e
    exact q a H (Same.refl H) (by rw [List.append_nil]; exact ha)
theorem log_small {k : Nat} (h : k ≤ 100) : ((k : Nat) : Int).natAbs.log2 < 1920 := by
  have e : ((k : Nat) : Int).natAbs = k := rfl
  rw [e]
  have := Nat.log2_le_self k
  omega
theorem PairsAt.cut {C : Addr} {H : Hp} {xs zs : List V} {es : List (Str × Addr)} {k : Nat} (h : PairsAt C H xs es) (hk : k ≤ xs.length) : PairsAt C H (xs.take k ++ zs) (es.take k) := fun i z m e => by
  have hi : i < (es.take k).length := (List.getElem?_eq_some_iff.mp e).1
  rw [List.length_take] at hi
  rw [List.getElem?_take, if_pos (by omega)] at e
  obtain ⟨b, ys, a1, a2, a3, a4, a5⟩ := h i z m e
  refine ⟨b, ys, ?_, a2, a3, a4, a5⟩
  rw [List.getElem?_append_left (by rw [List.length_take]; omega), List.getElem?_take, if_pos (by omega)]
  exact a1
theorem PairsAt.app {C : Addr} {H : Hp} {xs zs : List V} {es : List (Str × Addr)} (h : PairsAt C H xs es) : PairsAt C H (xs ++ zs) es := fun i z m e => by
  obtain ⟨b, ys, a1, a2, a3, a4, a5⟩ := h i z m e
  refine ⟨b, ys, ?_, a2, a3, a4, a5⟩
  rw [List.getElem?_append_left (List.getElem?_eq_some_iff.mp a1).1]
  exact a1
theorem ne_pool {H : Hp} {p b : Addr} {o : HO} (hp : PoolAt H p) (h : H b = some o) (n : ∀ xs, o ≠ .lst xs) : b ≠ p := fun e => by
  obtain ⟨u1, u2, u3, hu⟩ := hp
  rw [e, hu] at h
  exact n _ (Option.some.inj h).symm
theorem PairsAt.ext {C p : Addr} {H H' : Hp} {xs : List V} {es : List (Str × Addr)} (hp : PoolAt H p) (x : K1.Ext p H H') (h : PairsAt C H xs es) : PairsAt C H' xs es := fun i z m e => by
  obtain ⟨b, ys, a1, a2, a3, a4, a5⟩ := h i z m e
  exact ⟨b, ys, a1, x.at (ne_pool hp a2 (fun _ k => by cases k)) a2, a3, a4, a5.ext hp x⟩
abbrev nmBe : List Str := ["_law_pool_here", "_law_pairs_here", "_law_way", "_law_at", "_law_field", "_law_members", "_law_bad"]
section
variable {w : World} {P : Program} {base : Heap} {mg : Str → Option Value} {K : PySem.W.Frag} {C CN CM : Addr} {mc : Value}
theorem scBe : FnScope nmBe ["_law_pool_here", "_law_pairs_here"] (defScope s_L_bent) := ⟨rfl, rfl, rfl, by decide +kernel, rfl, by decide +kernel, by decide +kernel⟩
theorem ok_bent {f fD : Addr} {fd : FuncData} (F : Fun K "_law_bent" "_law_bent" s_L_bent f fd) (B : Mb P w K mg base C CN CM mc) (hD : Has P w K mg base CX0 1 "_law_draw" fD ["_law_pool_here", "_law_many"] spDraw) :
    FnOk P w K mg base CX0 3 f fd ["_law_pool_here", "_law_pairs_here"] (spBent K C) := by
  obtain ⟨pN, gN, fdN, pr, GN, bN⟩ := B.prop
  have T := B.T
  have M := B.M
  refine F.ok scBe (fun vs H Q E h => ?_) (fun cdv A outer s H vs Q E hr h => ?_)
  · obtain ⟨p, a, xs, es, rfl, _⟩ := h
    rfl
  · obtain ⟨p, a, xs, es, rfl, hp, ha, pa, el, l0, l1, nd, q⟩ := h
    refine ⟨_, pss_cons (ps_par (i := 2) (j := 3) rfl scBe.nd rfl rfl (by decide) rfl rfl (pa_cons (pe_has hD (hr.mono (by decide)) (by rfl) pass0 (pa_cons (pv 0) (pa_cons pe_int pa_nil))) (pa_cons (pe_has hD (hr.mono (by decide)) (by rfl) pass0 (pa_cons (pv 0) (pa_cons (pe_callB call_len_seq (by rfl) T.len PySem.boot_len (pa_cons (pv 1) pa_nil)) pa_nil))) pa_nil)) (by rfl))
      (pss_cons (ps_asg (pe_ix ix_tup (pv 1) (pv 3) (fun _ _ => rfl)) (pg_tup rfl (pgs_cons (pg_name (i := 4) scBe.nd rfl (.inl rfl)) (pgs_cons (pg_name (i := 5) scBe.nd rfl (.inl rfl)) pgs_nil))))
      (pss_cons (ps_if (pt_cmpR op_eq (pv 2) pe_int (nomark _)) (pss_one (ps_ret (pe_lst (pa_cons (pe_callTy call_listK (by rfl) T.list (by decide +kernel) (pa_cons (pv 1) pa_nil)) (pa_cons pe_str pa_nil))))) pss_nil)
      (pss_cons (ps_set (i := 6) scBe.nd rfl (.inl rfl) (pe_lst (pa_cons pe_non (pa_cons (pe_tup (pa_cons (pv 4) pa_nil)) (pa_cons (pe_lst (pa_cons (pv 4) (pa_cons (pv 5) pa_nil))) (pa_cons (pe_tup (pa_cons (pv 4) (pa_cons (pe_prop (pv 5) M.cl pr GN (hr.mono (by decide)) bN .nil pass0 rfl) pa_nil))) (pa_cons (pe_tup (pa_cons (pv 4) (pa_cons pe_non pa_nil))) pa_nil)))))))
      (pss_cons (ps_set (i := 6) scBe.nd rfl (.inl rfl) (pe_op op_cat (pv 6) (pe_lst (pa_cons (pe_tup (pa_cons pe_str (pa_cons (pv 5) pa_nil))) (pa_cons (pe_tup (pa_cons pe_str (pa_cons (pv 5) pa_nil))) pa_nil)))))
      (pss_cons (ps_if (pt_cmpR op_lt (pv 2) pe_int (nomark _)) (pss_one (ps_ret (pe_lst (pa_cons (pe_op op_catA (pe_op op_catA (pe_slice sl_tup (pv 1) po_none (po_some (pv 3))) (pe_tup (pa_cons (pe_ix ix_list (pv 6) (pe_op op_sub (pv 2) pe_int) (fun _ _ => rfl)) pa_nil))) (pe_slice sl_tup (pv 1) (po_some (pe_op op_add (pv 3) pe_int)) po_none)) (pa_cons (pe_callTy call_str_int (by rfl) T.str (by decide +kernel) (pa_cons (pv 3) pa_nil)) pa_nil))))) pss_nil)
      (pss_one (ps_ret (pe_lst (pa_cons (pe_op op_catA (pv 1) (pe_tup (pa_cons (pe_ix ix_tup (pv 1) (pv 3) (fun _ _ => rfl)) pa_nil))) (pa_cons (pe_callTy call_str_int (by rfl) T.str (by decide +kernel) (pa_cons (pe_callB call_len_seq (by rfl) T.len PySem.boot_len (pa_cons (pv 1) pa_nil)) pa_nil)) pa_nil)))))))))), ?_⟩
    refine ⟨_, rfl, p, 9, rfl, hp, by decide, by decide, fun way H1 x1 w0 w1 => ?_⟩
    have ap : a ≠ p := fun e => by
      obtain ⟨u1, u2, u3, hu⟩ := hp
      rw [e, hu] at ha
      cases ha
    have ha1 := x1.at ap ha
    refine ⟨_, rfl, _, rfl, a, xs, rfl, .inr (SqT.of ha1), p, _, rfl, x1.pool, by omega, by omega, fun at' H2 x2 a0 a1 => ?_⟩
    have x12 := x1.trans x2
    have ha2 := x2.at ap ha1
    obtain ⟨k, rfl⟩ : ∃ k : Nat, at' = (k : Int) := ⟨at'.toNat, by omega⟩
    have hi : k < es.length := by omega
    obtain ⟨z, m, ez⟩ : ∃ z m, es[k]? = some (z, m) := ⟨(es[k]).1, (es[k]).2, by rw [List.getElem?_eq_getElem hi]⟩
    obtain ⟨b, ys, b1, b2, b3, b4, b5⟩ := pa _ z m ez
    have bp : b ≠ p := fun e => by
      obtain ⟨u1, u2, u3, hu⟩ := hp
      rw [e, hu] at b2
      cases b2
    have hx2 := x12.at bp b2
    have ax : atI xs (k : Int) = some (.ref b) := atI_nat b1
    refine ⟨_, _, rfl, _, rfl, _, rfl, _, _, _, _, rfl, rfl, (SqT.of ha2), ax, _, _, rfl, (SqT.of hx2), rfl, _, _, rfl, _, _, rfl, rfl, _, rfl, rfl, _, rfl, ?_⟩
    have pa2 : PairsAt C H2 xs es := pa.ext hp x12
    obtain ⟨b', ys', c1, c2, c3, c4, c5⟩ := pa2 _ z m ez
    by_cases hw : way = 0
    · rw [decide_eq_true (by rw [hw])]
      refine iteT ?_
      refine ⟨_, rfl, _, _, rfl, (.inr (SqT.of ha2)), fun p1 => fun n1 => ⟨(Nat.le_of_ble_eq_true rfl), fun p2 => fun n2 => ?_⟩⟩
      have sa : Same H2 (upd H2 p1 (.lst xs)) := same_upd n1
      have sb : Same (upd H2 p1 (.lst xs)) (upd (upd H2 p1 (.lst xs)) p2 (.lst [.ref p1, .str "None"])) := same_upd n2
      have x3 := x12.same (sa.trans sb)
      exact q p2 (.ref p1) "None" _ (x12.free (same_free sa n2)) x3 upd_same ((x12.same sa).pool.ne n2) (by
        obtain ⟨z0, m0, e0⟩ : ∃ z0 m0, es[0]? = some (z0, m0) := ⟨(es[0]).1, (es[0]).2, by rw [List.getElem?_eq_getElem (by omega)]⟩
        obtain ⟨r0, _, f0, _⟩ := pa 0 z0 m0 e0
        cases xs with
        | nil => cases f0
        | cons h zs =>
          cases Option.some.inj f0
          exact .inl ⟨p1, r0, zs, rfl, sb _ _ upd_same, rfl⟩)
    · rw [decide_eq_false (fun e => hw (V.int.inj e))]
      refine iteF ?_
      have c6 := c5
      obtain ⟨⟨dx, tt, dd, k1, k2, k3⟩, _⟩ := c6
      refine ⟨_, rfl, (Nat.le_of_ble_eq_true rfl), fun p1 => fun n1 => ⟨_, rfl, _, rfl, (Nat.le_of_ble_eq_true rfl), fun p2 => fun n2 => ⟨_, rfl, _, rfl, _, _, _, rfl, (same_upd n2 _ _ (same_upd n1 _ _ k1)), _, _, _, _, rfl, (same_upd n2 _ _ (same_upd n1 _ _ k1)), rfl, (Nat.le_of_ble_eq_true rfl), fun p3 => fun n3 => ⟨_, rfl, (Nat.le_of_ble_eq_true rfl), fun p4 => fun n4 => ⟨(Nat.le_of_ble_eq_true rfl), fun p5 => fun n5 => ⟨_, rfl, _, rfl, (Nat.le_of_ble_eq_true rfl), fun p6 => fun n6 => ⟨_, rfl, (Nat.le_of_ble_eq_true rfl), fun p7 => fun n7 => ⟨(Nat.le_of_ble_eq_true rfl), fun p8 => fun n8 => ⟨_, _, _, _, rfl, rfl, (same_upd n8 _ _ (same_upd n7 _ _ (same_upd n6 _ _ upd_same))), upd_same, (Nat.le_of_ble_eq_true rfl), fun p9 => fun n9 => ⟨_, rfl, _, _, rfl, rfl, _, rfl, ?_⟩⟩⟩⟩⟩⟩⟩⟩⟩⟩
      have s1 := same_upd (o := .tup [.str z]) n1
      have s2 := same_upd (o := .lst [.str z, .ref m]) n2
      have s3 := same_upd (o := .tup [.str z, .ref tt]) n3
      have s4 := same_upd (o := .tup [.str z, .non]) n4
      have s5 := same_upd (o := .lst [.non, .ref p1, .ref p2, .ref p3, .ref p4]) n5
      have s6 := same_upd (o := .tup [.str tGiven, .ref m]) n6
      have s7 := same_upd (o := .tup [.str tNone, .ref m]) n7
      have s8 := same_upd (o := .lst [.ref p6, .ref p7]) n8
      have s9 := same_upd (o := .lst ([.non, .ref p1, .ref p2, .ref p3, .ref p4] ++ [.ref p6, .ref p7])) n9
      have g7 := s9 p7 _ (s8 p7 _ upd_same)
      have g6 := s9 p6 _ (s8 p6 _ (s7 p6 _ upd_same))
      have g4 := s9 p4 _ (s8 p4 _ (s7 p4 _ (s6 p4 _ (s5 p4 _ upd_same))))
      have g3 := s9 p3 _ (s8 p3 _ (s7 p3 _ (s6 p3 _ (s5 p3 _ (s4 p3 _ upd_same)))))
      have g2 := s9 p2 _ (s8 p2 _ (s7 p2 _ (s6 p2 _ (s5 p2 _ (s4 p2 _ (s3 p2 _ upd_same))))))
      have g1 := s9 p1 _ (s8 p1 _ (s7 p1 _ (s6 p1 _ (s5 p1 _ (s4 p1 _ (s3 p1 _ (s2 p1 _ upd_same)))))))
      have gT := s9 _ _ (s8 _ _ (s7 _ _ (s6 _ _ (s5 _ _ (s4 _ _ (s3 _ _ (s2 _ _ (s1 _ _ k2))))))))
      have sA := (((((((s1.trans s2).trans s3).trans s4).trans s5).trans s6).trans s7).trans s8).trans s9
      have gB := upd_same (H := upd (upd (upd (upd (upd (upd (upd (upd H2 p1 (.tup [.str z])) p2 (.lst [.str z, .ref m])) p3 (.tup [.str z, .ref tt])) p4 (.tup [.str z, .non])) p5 (.lst [.non, .ref p1, .ref p2, .ref p3, .ref p4])) p6 (.tup [.str tGiven, .ref m])) p7 (.tup [.str tNone, .ref m])) p8 (.lst [.ref p6, .ref p7])) (a := p9) (o := HO.lst ([.non, .ref p1, .ref p2, .ref p3, .ref p4] ++ [.ref p6, .ref p7]))
      clear n1 n2 n3 n4 n5 n6 n7 n8 n9 s1 s2 s3 s4 s5 s6 s7 s8 s9
      generalize upd (upd (upd (upd (upd (upd (upd (upd (upd H2 p1 (.tup [.str z])) p2 (.lst [.str z, .ref m])) p3 (.tup [.str z, .ref tt])) p4 (.tup [.str z, .non])) p5 (.lst [.non, .ref p1, .ref p2, .ref p3, .ref p4])) p6 (.tup [.str tGiven, .ref m])) p7 (.tup [.str tNone, .ref m])) p8 (.lst [.ref p6, .ref p7])) p9 (.lst ([.non, .ref p1, .ref p2, .ref p3, .ref p4] ++ [.ref p6, .ref p7])) = G at g1 g2 g3 g4 g6 g7 gT gB sA ⊢
      have haG := sA _ _ ha2
      have paG : PairsAt C G xs es := pa2.same sA
      have xG := x12.same sA
      have fs : ∀ (j : Nat) (y : V), ([.non, .ref p1, .ref p2, .ref p3, .ref p4] ++ [.ref p6, .ref p7] : List V)[j]? = some y → FsV K C G y false := fun j y hy => by
        match j, hy with
        | 0, hy => cases hy; exact .non
        | 1, hy => cases hy; exact .one g1
        | 2, hy => cases hy; exact .lst g2
        | 3, hy => cases hy; exact .notM g3 c3 c4 (.inr (.tup gT))
        | 4, hy => cases hy; exact .notM g4 c3 c4 (.inr .non)
        | 5, hy => cases hy; exact .notF g6 (by decide +kernel) (by decide +kernel)
        | 6, hy => cases hy; exact .notF g7 (by decide +kernel) (by decide +kernel)
        | n + 7, hy => cases hy
      by_cases hw8 : way < 8
      · rw [decide_eq_true hw8]
        refine iteT ?_
        have ew : (((way - 1).toNat : Nat) : Int) = way - 1 := by omega
        obtain ⟨y, hy⟩ : ∃ y, ([.non, .ref p1, .ref p2, .ref p3, .ref p4] ++ [.ref p6, .ref p7] : List V)[(way - 1).toNat]? = some y := ⟨_, List.getElem?_eq_getElem (show (way - 1).toNat < 7 by omega)⟩
        have ab := atI_nat hy
        rw [ew] at ab
        have fy := fs _ _ hy
        have sl1 : ¬(HT.sIx xs.length 0 none = 0 ∧ HT.sIx xs.length xs.length (some (k : Int)) = xs.length) := fun e => by
          have e2 := e.2
          rw [HT.sIx_nat] at e2
          omega
        have sl2 : ¬(HT.sIx xs.length 0 (some ((k : Int) + 1)) = 0 ∧ HT.sIx xs.length xs.length none = xs.length) := fun e => by
          have e2 := e.1
          rw [show ((k : Int) + 1) = ((k + 1 : Nat) : Int) from rfl, HT.sIx_nat] at e2
          omega
        refine ⟨_, rfl, _, rfl, _, rfl, _, _, rfl, (SqT.of haG), sl1, fun q1 m1 => ?_⟩
        rw [cut_take (by omega)]
        have t1 := same_upd (o := .tup (xs.take k)) m1
        have d1 := upd_same (H := G) (a := q1) (o := HO.tup (xs.take k))
        generalize upd G q1 (.tup (xs.take k)) = G1 at t1 d1 ⊢
        have haG1 := t1 _ _ haG
        have gB1 := t1 _ _ gB
        refine ⟨_, rfl, _, rfl, _, _, rfl, rfl, _, _, _, _, rfl, rfl, (SqL.of gB1), ab, (Nat.le_of_ble_eq_true rfl), fun q2 m2 => ?_⟩
        have t2 := same_upd (o := .tup [y]) m2
        have d2 := upd_same (H := G1) (a := q2) (o := HO.tup [y])
        have d12 := t2 _ _ d1
        generalize upd G1 q2 (.tup [y]) = G2 at t2 d2 d12 ⊢
        refine catA_go d12 d2 (by rw [List.length_take]; show _ + 1 ≤ _; omega) fun q3 G3 t3 d3 => ?_
        have s3 := (t1.trans t2).trans t3
        have haG3 := s3 _ _ haG
        refine ⟨_, rfl, _, rfl, _, _, rfl, rfl, _, rfl, _, _, rfl, (SqT.of haG3), sl2, fun q4 m4 => ?_⟩
        rw [cut_drop (by omega)]
        have t4 := same_upd (o := .tup (xs.drop (k + 1))) m4
        have d4 := upd_same (H := G3) (a := q4) (o := HO.tup (xs.drop (k + 1)))
        have d34 := t4 _ _ d3
        generalize upd G3 q4 (.tup (xs.drop (k + 1))) = G4 at t4 d4 d34 ⊢
        refine catA_go d34 d4 (by rw [List.length_append, List.length_take, List.length_drop]; show _ + 1 + _ ≤ _; omega) fun q5 G5 t5 d5 => ?_
        have s5 := (s3.trans t4).trans t5
        refine ⟨_, rfl, _, rfl, log_small (by omega), (by show 2 ≤ sizeLine; decide), fun L nL => ?_⟩
        have s6 := same_upd (o := .lst [.ref q5, .str (toString ((k : Nat) : Int))]) nL
        have d6 := upd_same (H := G5) (a := L) (o := HO.lst [.ref q5, .str (toString ((k : Nat) : Int))])
        have d56 := s6 _ _ d5
        have sz := s5.trans s6
        have lk : (es.take k).length = k := by rw [List.length_take]; omega
        refine q L (.ref q5) _ _ (xG.free (same_free s5 nL)) (xG.same sz) d6 ((xG.same s5).pool.ne nL) (.inr ⟨q5, _, es.take k, y, rfl, d56, ?_, ?_, ?_, ?_, .inl (fy.same sz), by rw [lk]⟩)
        · rw [List.append_assoc]
          exact (paG.same sz).cut (by omega)
        · rw [List.map_take]
          exact nd.sublist (List.take_sublist _ _)
        · rw [List.length_append, List.length_append, List.length_take, List.length_drop]
          show _ + 1 + _ ≤ _
          omega
        · rw [lk, List.append_assoc, List.getElem?_append_right (by rw [List.length_take]; omega), List.length_take]
          have e0 : k - min k xs.length = 0 := by omega
          rw [e0]
          rfl
      · rw [decide_eq_false hw8]
        refine iteF ?_
        have axG := ax
        refine ⟨_, rfl, _, rfl, _, rfl, _, _, _, _, rfl, rfl, (SqT.of haG), ax, (Nat.le_of_ble_eq_true rfl), fun q1 m1 => ?_⟩
        have t1 := same_upd (o := .tup [.ref b]) m1
        have d1 := upd_same (H := G) (a := q1) (o := HO.tup [.ref b])
        have haG1 := t1 _ _ haG
        generalize upd G q1 (.tup [.ref b]) = G1 at t1 d1 haG1 ⊢
        refine catA_go haG1 d1 (by show _ + 1 ≤ _; omega) fun q2 G2 t2 d2 => ?_
        have s2 := t1.trans t2
        have haG2 := s2 _ _ haG
        refine ⟨_, rfl, _, _, rfl, (.inr (SqT.of haG2)), _, rfl, log_small (by omega), (by show 2 ≤ sizeLine; decide), fun L nL => ?_⟩
        have s6 := same_upd (o := .lst [.ref q2, .str (toString ((xs.length : Nat) : Int))]) nL
        have d6 := upd_same (H := G2) (a := L) (o := HO.lst [.ref q2, .str (toString ((xs.length : Nat) : Int))])
        have d26 := s6 _ _ d2
        have sz := s2.trans s6
        refine q L (.ref q2) _ _ (xG.free (same_free s2 nL)) (xG.same sz) d6 ((xG.same s2).pool.ne nL) (.inr ⟨q2, _, es, .ref b', rfl, d26, (paG.same sz).app, nd, ?_, ?_, .inr ⟨b', m, z, ys', rfl, sz _ _ (sA _ _ c2), c3, c4, (c5.same sA).same sz, List.mem_map.mpr ⟨_, List.mem_of_getElem? ez, rfl⟩⟩, by rw [el]⟩)
        · rw [List.length_append]
          show _ + 1 ≤ _
          omega
        · rw [el, List.getElem?_append_right (Nat.le_refl _), Nat.sub_self]
          rw [b1] at c1
          cases c1
          rfl
end
end K1

namespace K1
open PySem PySem.Spec
open PyProof.Rows L2 L2H EnT StX SmX TxS DuX XdI Tr3 CnB ClX
/-! ### the list of what is told grows -/
def Fin (p : Addr) (Tb : List (Addr × Str)) (H : Hp) (D : Ends) : Prop := ∀ H', Mv p Tb H H' → D.rt (.bl true) H'
theorem Fin.mv {p : Addr} {Tb : List (Addr × Str)} {H H1 : Hp} {D : Ends} (f : Fin p Tb H D) (m : Mv p Tb H H1) : Fin p Tb H1 D := fun H' m' => f H' (m.trans m')
/-- told stands at t: not there when the def began -/
structure Fin0 (p : Addr) (Tb : List (Addr × Str)) (t : Addr) (H : Hp) (D : Ends) : Prop where
  ex : ∃ H00, Mv p Tb H00 H ∧ (∀ o, H00 t = some o → ∃ ps, o = .tbl ps) ∧ Fin p Tb H00 D
theorem Fin0.mv {p t : Addr} {Tb : List (Addr × Str)} {H H1 : Hp} {D : Ends} (f : Fin0 p Tb t H D) (m : Mv p Tb H H1) : Fin0 p Tb t H1 D := by
  obtain ⟨H00, a, b, c⟩ := f.ex
  exact ⟨H00, a.trans m, b, c⟩
theorem Fin0.new {p t : Addr} {Tb : List (Addr × Str)} {H : Hp} {D : Ends} (f : Fin p Tb H D) (hp : PoolAt H p) (T : LamX.Tabs Tb H) (n : H t = none) : Fin0 p Tb t H D := ⟨H, .refl hp T, fun o e => (by rw [n] at e; cases e), f⟩
theorem Fin0.fin {p t : Addr} {Tb : List (Addr × Str)} {H : Hp} {D : Ends} (f : Fin0 p Tb t H D) : Fin p Tb H D := by
  obtain ⟨H00, a, b, c⟩ := f.ex
  exact c.mv a
theorem Fin0.set {p t : Addr} {Tb : List (Addr × Str)} {H : Hp} {D : Ends} {as : List Addr} {o : HO} (f : Fin0 p Tb t H D) (h : H t = some (.lst (as.map V.ref))) : Fin0 p Tb t (upd H t o) D := by
  obtain ⟨H00, a, b, c⟩ := f.ex
  have tp : p ≠ t := fun e => by
    obtain ⟨x, y, z, hz⟩ := a.rx.pool
    rw [e, h] at hz
    exact refs_nopool x y z (Option.some.inj hz)
  refine ⟨H00, ⟨⟨?_, fun d q n e nt => ?_⟩, tabs_upd h a.tabs⟩, b, c⟩
  · obtain ⟨x, y, z, hz⟩ := a.rx.pool
    exact ⟨x, y, z, by rw [upd_ne tp]; exact hz⟩
  · rw [upd_ne (fun z => by
      rw [z] at e
      obtain ⟨ps, hps⟩ := b q e
      exact nt ps hps)]
    exact a.rx.keep d q n e nt
/-! ### moves -/
section
variable {p : Addr} {Tb : List (Addr × Str)} {H H' : Hp}
theorem Mv.tup {a : Addr} {xs : List V} (m : Mv p Tb H H') (hp : PoolAt H p) (h : H a = some (.tup xs)) : H' a = some (.tup xs) := m.at hp h (fun _ _ _ e => by cases e) (fun _ e => by cases e)
theorem Mv.lst {a : Addr} {xs : List V} (m : Mv p Tb H H') (h : H a = some (.lst xs)) : ∃ ys, H' a = some (.lst ys) := by
  by_cases e : a = p
  · obtain ⟨x, y, z, hz⟩ := m.rx.pool
    exact ⟨_, by rw [e]; exact hz⟩
  · exact ⟨xs, m.rx.keep a _ e h (fun _ e => by cases e)⟩
theorem Mv.vokL {v : V} (m : Mv p Tb H H') (hp : PoolAt H p) (h : VOk H v) : VOk H' v := by
  rcases h with h | h
  · exact .inl h
  · refine .inr ?_
    cases h with
    | non => exact .non
    | bl b => exact .bl b
    | int i => exact .int i
    | lst e =>
      obtain ⟨ys, hy⟩ := m.lst e
      exact .lst hy
    | tup e => exact .tup (m.tup hp e)
    | dK e => exact .dK (m.at hp e (fun _ _ _ e => by cases e) (fun _ e => by cases e))
theorem Mv.fsv {K : PySem.W.Frag} {C : Addr} {v : V} {b : Bool} (m : Mv p Tb H H') (hp : PoolAt H p) (h : FsV K C H v b) : FsV K C H' v b := by
  cases h with
  | yes h nz fz M => exact .yes (m.tup hp h) nz fz (m.mem hp M)
  | non => exact .non
  | one h => exact .one (m.tup hp h)
  | lst h =>
    obtain ⟨ys, hy⟩ := m.lst h
    exact .lst hy
  | notF h nz fz => exact .notF (m.tup hp h) nz fz
  | notM h nz fz nx => exact .notM (m.tup hp h) nz fz (m.vokL hp nx)
theorem Mv.pairs {C : Addr} {xs : List V} {es : List (Str × Addr)} (m : Mv p Tb H H') (hp : PoolAt H p) (h : PairsAt C H xs es) : PairsAt C H' xs es := fun i z q e => by
  obtain ⟨b, ys, a1, a2, a3, a4, a5⟩ := h i z q e
  exact ⟨b, ys, a1, m.tup hp a2, a3, a4, m.mem hp a5⟩
theorem Mv.bad {K : PySem.W.Frag} {C : Addr} {v : V} {es : List (Str × Addr)} (m : Mv p Tb H H') (hp : PoolAt H p) (h : BadAt K C H v es) : BadAt K C H' v es := by
  rcases h with h | ⟨b, q, z, ys, h1, h2, h3, h4, h5, h6⟩
  · exact .inl (m.fsv hp h)
  · exact .inr ⟨b, q, z, ys, h1, m.tup hp h2, h3, h4, m.mem hp h5, h6⟩
theorem Mv.bent {K : PySem.W.Frag} {C : Addr} {v : V} {x : Str} (m : Mv p Tb H H') (hp : PoolAt H p) (h : BentR K C H v x) : BentR K C H' v x := by
  rcases h with ⟨a, r, zs, h1, h2, h3⟩ | ⟨a, xs, es, y, h1, h2, h3, h4, h5, h6, h7, h8⟩
  · exact .inl ⟨a, r, zs, h1, m.at hp h2 (fun _ _ _ e => by cases e) (fun _ e => by cases e), h3⟩
  · exact .inr ⟨a, xs, es, y, h1, m.tup hp h2, m.pairs hp h3, h4, h5, h6, m.bad hp h7, h8⟩
theorem Mv.exp {CE a : Addr} {t : Fm} (m : Mv p Tb H H') (hp : PoolAt H p) (h : ExpAt CE H a t) : ExpAt CE H' a t := by
  obtain ⟨⟨dx, v, fl, ys, h1, h2, h3, h4⟩, b, c⟩ := h
  exact ⟨⟨dx, v, fl, ys, m.at hp h1 (fun _ _ _ e => by cases e) (fun _ e => by cases e), h2.keep (fun a xs e => m.tup hp e), m.tup hp h3, h4⟩, b, c⟩
end
end K1

namespace K1
open PySem PySem.Spec
open PyProof.Rows L2 L2H EnT StX SmX TxS DuX XdI Tr3 CnB ClX
/-! ### what is asked of a lambda -/
def SVd (K : PySem.W.Frag) (H : Hp) (v : V) (x : Str) : Prop := ∃ d, RpD.ShD K H v d ∧ x = d.shown
theorem SVd.same {K : PySem.W.Frag} {H H' : Hp} {v : V} {x : Str} (s : Same H H') (h : SVd K H v x) : SVd K H' v x := by
  obtain ⟨d, a, b⟩ := h
  exact ⟨d, a.same (dp_same s) s, b⟩
theorem call_reprS {X : Cx} (hg : X.A.guards = some []) (hu : X.A.units + 100 < cLine) : CallR X (.builtin "repr") (rSV (SVd X.K)) := by
  intro pins s σ H xs us Q Iv r h
  obtain ⟨x, txt, rfl, ⟨d, sd, rfl⟩, q⟩ := h
  exact RpD.call_reprE hg hu pins s σ H _ us Q Iv r ⟨x, d, rfl, sd, q⟩
abbrev nmOd : List Str := ["_law_pool_here", "_law_made", "_law_pairs_here", "_law_fields", "_law_bent_here", "_law_index_here", "_law_odd", "_law_told", "_law_due", "_law_at", "_law_gone", "_law_pair"]
abbrev psOd : List Str := ["_law_pool_here", "_law_made", "_law_pairs_here", "_law_fields"]
theorem scOd : FnScope nmOd psOd (defScope s_L_odd_right) := ⟨rfl, rfl, rfl, by decide +kernel, rfl, by decide +kernel, by decide +kernel⟩
abbrev cxO (P : Program) (w : World) (K : PySem.W.Frag) (mg : Str → Option Value) (base : Heap) (f : Addr) (cdv : Value) (A : Around) (outer : List Env) (s : Shared) (H : Hp) : Cx := (cxOf CX0 P w K mg base nmOd "_law_odd_right" (defScope s_L_odd_right) f cdv A outer s H E0).nox
def odRest (i : Nat) : List Stmt := (defBody s_L_odd_right).drop i
/-- the qualified name of the lambdas -/
def lamQ : Str := (envOfC "_law_odd_right" (defScope s_L_odd_right) 0 0 .none).qual ++ "<lambda>"
abbrev TbO (Pt : Addr) : List (Addr × Str) := [(Pt, lamQ)]
/-- what is known of the ask that catches, and of the lambdas' code -/
structure Asks (K : PySem.W.Frag) (mg : Str → Option Value) (base : Heap) (c Pt : Addr) : Prop where
  ex : ∃ g fd, mg "_law_caught" = some (.ref g) ∧ Fun K "_law_caught" "_law_caught" sCaught g fd
  tb : LamX.TabB base mg c Pt
abbrev nmIS : Str := "InvalidSets"
abbrev nmNM : Str := "NotMembers"
abbrev nmUF : Str := "UnknownField"
abbrev nmIN : Str := "InvalidNames"
/-- what is due, in its order -/
abbrev YY (t1 t2 : Str) : List (List Str) := [[nmIS, t1], [nmNM, t2], [nmIN, "None"], [nmIN, "2"], [nmIN, "1"]]
/-- what is known of the program -/
structure Wo (P : Program) (w : World) (K : PySem.W.Frag) (mg : Str → Option Value) (base : Heap) (CE C CN CM CS CU S1 S2 S3 : Addr) (mc : Value) : Prop where
  b : Mb P w K mg base C CN CM mc
  EK : ErrK K mg S1 S2 S3 CS CM CU CN
  M : ExpC K mg CE
  of : ∃ g fd, Meth K CE "of" g ∧ FunD K "of" "Expression.of" (defArgs s_of) (defBody s_of) (defScope s_of) [] [("given", .non)] g fd ∧ FnOk P w K mg base (L2.CX P w) 16 g fd ["self", "sets", "given"] (spOf K CE C CS CM CU)
  mt : ∃ g fd, Meth K CE "meets" g ∧ FunD K "meets" "Expression.meets" (defArgs s_meets) (defBody s_meets) (defScope s_meets) [] [("given", .bl false)] g fd ∧ FnOk P w K mg base (L2.CX P w) 9 g fd ["self", "inside", "given"] (spMeets K CE CN)
  pS : Pp P w K mg base CE "fields" "_fields"
section
variable {w : World} {P : Program} {base : Heap} {mg : Str → Option Value} {K : PySem.W.Frag} {CE C CN CM CS CU S1 S2 S3 : Addr} {mc : Value}
variable {f c Pt : Addr} {A : Around} {outer : List Env} {s : Shared} {H0 : Hp} {p : Addr}
theorem pe_ask (W : Wo P w K mg base CE C CN CM CS CU S1 S2 S3 mc) (AK : Asks K mg base c Pt) (hgd : A.guards = some []) (hr : Room 19 (A.deeper (envOfC "_law_odd_right" (defScope s_L_odd_right) s.heap.objs.size f (.ref c)))) {params : Arguments} {body : Expr} {scope : Scope} {t : XK → TE} {np lpos pos : Pos}
    (L : LamX.LamS (defScope s_L_odd_right) scope)
    (hbody : ∀ (A' : Around) (outer' : List Env) (s' : Shared) (H' : Hp) (E : XK) (f' c' : Addr), Room 17 (A'.deeper (LamX.lamEnv (cxO P w K mg base f (.ref c) A outer s H0) scope s'.heap.objs.size f' c')) → PE (LamX.lamCx (cxO P w K mg base f (.ref c) A outer s H0) A' outer' s' H' E scope f' c') body (t E))
    (hdef : defaultsOf params (cxO P w K mg base f (.ref c) A outer s H0).env = ([], []) := by rfl)
    (hbind : ∀ (q : Str) (cl : List (Str × Addr)) (pm cv ctv : Value), bindArgs (PySem.W.kla_fn "<lambda>" q params body scope cl pm cv ctv) ⟨[], []⟩ = pure [] := by intros; rfl) :
    PE (cxO P w K mg base f (.ref c) A outer s H0) (.Call (.Name "_law_caught" np) [.Lambda params body scope lpos] [] pos) (LamX.tLam (TbO Pt) (TTc (SVd K) CS CM CU CN) t) := by
  obtain ⟨g, fd, mgC, FC⟩ := AK.ex
  obtain ⟨oc, od, kV, doc, pm, an, cdv', ct, osl, efd, lk, hcd⟩ := FC.ex
  subst efd
  have hun := hr.un
  have hdp := hr.dp
  have bC : L2.Binds K (PySem.W.fnOf "_law_caught" "_law_caught" (defArgs sCaught) (defBody sCaught) (defScope sCaught) .none kV doc pm an cdv' ct) ["_law_ask"] [] := FC.binds (ps := ["_law_ask"]) fun _ _ _ _ _ _ us hl => match us, hl with | [_], _ => rfl
  exact LamX.pe_lamcall (X := cxO P w K mg base f (.ref c) A outer s H0) (T := TbO Pt) (TT := TTc (SVd K) CS CM CU CN) (k := 17) (Ng := nmCaught) (a := "_law_ask") (c := c) (P := Pt) (by rfl) mgC FC.kp lk hcd bC scCaught (by rfl) (.inl rfl)
    (caught_gives (X := cxO P w K mg base f (.ref c) A outer s H0) (by exact hgd) (by show (A.deeper (envOfC "_law_odd_right" (defScope s_L_odd_right) s.heap.objs.size f (.ref c))).units + 300 < cLine; omega) W.b.T W.EK (fun H H' v x s h => h.same s)
      (fun s' H' a oe pn => call_reprS (by exact hgd) (by
        show (A.deeper (envOfC "_law_odd_right" (defScope s_L_odd_right) s.heap.objs.size f (.ref c))).units + 3 + 100 < cLine
        omega)))
    AK.tb (by rfl) List.mem_cons_self (fun q hq _ => by rw [List.mem_singleton.mp hq]; rfl) hr L hdef hbind hbody
/-- what an ask tells of an error -/
theorem ask_err {t : XK → TE} {σ : L2.St} {H : Hp} {Q : VK} {v : V} {x nm attr : Str} {CX' : Addr} (hp : PoolAt H p) (hT : LamX.Tabs (TbO Pt) H) (hs : ∀ H', Mv p (TbO Pt) H H' → SVd K H' v x)
    (hc : (CX' = CS ∧ nm = nmIS ∧ attr = "index") ∨ (CX' = CM ∧ nm = nmNM ∧ attr = "value") ∨ (CX' = CU ∧ nm = nmUF ∧ attr = "value") ∨ (CX' = CN ∧ nm = nmIN ∧ attr = "index"))
    (ht : ∀ (H1 : Hp) (Q' : VK) (E : XK), Mv p (TbO Pt) H H1 → ErrAt CX' attr v H1 E → t E σ H1 Q')
    (q : ∀ (r : Addr) (H' : Hp), Mv p (TbO Pt) H H' → H' r = some (.lst ([nm, x].map V.str)) → Q (.ref r) H') :
    LamX.tLam (TbO Pt) (TTc (SVd K) CS CM CU CN) t σ H Q := by
  refine ⟨hT, fun H1 eN T1 Q' => ?_⟩
  have m1 : Mv p (TbO Pt) H H1 := .lam eN hp T1
  refine ht H1 _ _ m1 fun e H2 s2 ne => ?_
  have m2 : Mv p (TbO Pt) H (upd H2 e (.xd [(attr, v)])) := m1.trans (.same (s2.trans (same_upd ne)) m1.rx.pool m1.tabs)
  refine .inl ⟨e, v, x, nm, rfl, hs _ m2, ?_, fun r H3 nr s3 hr => q r H3 (m2.trans (.same s3 m2.rx.pool m2.tabs)) hr⟩
  rcases hc with ⟨rfl, rfl, rfl⟩ | ⟨rfl, rfl, rfl⟩ | ⟨rfl, rfl, rfl⟩ | ⟨rfl, rfl, rfl⟩
  · exact .inl ⟨rfl, rfl, upd_same⟩
  · exact .inr (.inl ⟨rfl, rfl, upd_same⟩)
  · exact .inr (.inr (.inl ⟨rfl, rfl, upd_same⟩))
  · exact .inr (.inr (.inr ⟨rfl, rfl, upd_same⟩))
end
end K1

namespace K1
open PySem PySem.Spec
open PyProof.Rows L2 L2H EnT StX SmX TxS DuX XdI Tr3 CnB ClX
/-- what the asks lean on -/
structure OdC (CE C p Pt me pr : Addr) (t : Fm) (xs : List V) (es : List (Str × Addr)) (v : V) (d : PyData) (H : Hp) : Prop where
  hp : PoolAt H p
  T : LamX.Tabs (TbO Pt) H
  e : ExpAt CE H me t
  h : H pr = some (.tup xs)
  pa : PairsAt C H xs es
  el : es.length = xs.length
  l : xs.length ≤ 50
  nd : (es.map (·.1)).Nodup
  o : OddD H v d
  nv : v ≠ .non
  cov : ∀ z ∈ t.lvs, fieldB z = true → z ∈ es.map (·.1)
theorem OdC.mv {CE C p Pt me pr : Addr} {t : Fm} {xs : List V} {es : List (Str × Addr)} {v : V} {d : PyData} {H H' : Hp} (m : Mv p (TbO Pt) H H') (k : OdC CE C p Pt me pr t xs es v d H) : OdC CE C p Pt me pr t xs es v d H' :=
  ⟨m.rx.pool, m.tabs, m.exp k.hp k.e, m.tup k.hp k.h, m.pairs k.hp k.pa, k.el, k.l, k.nd, k.o.mv m k.hp, k.nv, k.cov⟩
theorem PairsAt.set {C tl : Addr} {H : Hp} {xs ys : List V} {es : List (Str × Addr)} {o : HO} (ht : H tl = some (.lst ys)) (h : PairsAt C H xs es) : PairsAt C (upd H tl o) xs es := fun i z q e => by
  obtain ⟨b, us, a1, a2, a3, a4, a5⟩ := h i z q e
  exact ⟨b, us, a1, by rw [upd_ne (fun k => by rw [k, ht] at a2; cases a2)]; exact a2, a3, a4, a5.set ht⟩
theorem OdC.set {CE C p Pt me pr tl : Addr} {t : Fm} {xs : List V} {es : List (Str × Addr)} {v : V} {d : PyData} {H : Hp} {as : List Addr} {o : HO} (ht : H tl = some (.lst (as.map V.ref))) (hn : as ≠ []) (k : OdC CE C p Pt me pr t xs es v d H) : OdC CE C p Pt me pr t xs es v d (upd H tl o) := by
  refine ⟨?_, tabs_upd ht k.T, k.e.set ht, by rw [upd_ne (fun z => by have := k.h; rw [z, ht] at this; cases this)]; exact k.h, k.pa.set ht, k.el, k.l, k.nd, k.o.set ht hn, k.nv, k.cov⟩
  obtain ⟨x, y, z, e⟩ := k.hp
  exact ⟨x, y, z, upd_keep ht e fun q => refs_nopool x y z q.symm⟩
/-- before the n-th ask -/
structure AtAsk (CE C p Pt : Addr) (n : Nat) (σ : L2.St) (H : Hp) (En : Ends) : Prop where
  ex : ∃ (me pr tl : Addr) (as : List Addr) (t : Fm) (xs : List V) (es : List (Str × Addr)) (v : V) (d : PyData) (bt : Str) (x3 x4 x8 x9 x10 x11 : Option V),
    σ = [some (.ref p), some (.ref me), some (.ref pr), x3, x4, some (.str bt), some v, some (.ref tl), x8, x9, x10, x11] ∧ OdC CE C p Pt me pr t xs es v d H ∧ PyData.strOk bt = true ∧
    H tl = some (.lst (as.map V.ref)) ∧ 1 ≤ n ∧ n ≤ 5 ∧ Lists H as ((YY bt d.shown).take n) ∧ Fin0 p (TbO Pt) tl H En
section
variable {w : World} {P : Program} {base : Heap} {mg : Str → Option Value} {K : PySem.W.Frag} {CE C CN CM CS CU S1 S2 S3 : Addr} {mc : Value}
variable {f c Pt : Addr} {A : Around} {outer : List Env} {s : Shared} {H0 : Hp} {p : Addr}
/-- an ask that appends what it is told -/
theorem ask_seg {n : Nat} {t : XK → TE} {params : Arguments} {body : Expr} {scope : Scope} {np lpos pos : Pos} {rest : List Stmt} {p1 p2 p3 p4 : Pos} (hn : n + 1 ≤ 5) (he : PE (cxO P w K mg base f (.ref c) A outer s H0) (.Call (.Name "_law_caught" np) [.Lambda params body scope lpos] [] pos) (LamX.tLam (TbO Pt) (TTc (SVd K) CS CM CU CN) t))
    (hrest : PSs (cxO P w K mg base f (.ref c) A outer s H0) rest (fun En σ H => AtAsk CE C p Pt (n + 1) σ H En))
    (told : ∀ (me pr tl : Addr) (ft : Fm) (xs : List V) (es : List (Str × Addr)) (v : V) (d : PyData) (bt : Str) (x3 x4 x8 x9 x10 x11 : Option V) (H : Hp) (Q : VK) (y : List Str), OdC CE C p Pt me pr ft xs es v d H → (YY bt d.shown)[n]? = some y →
      (∀ (r : Addr) (H' : Hp), Mv p (TbO Pt) H H' → H' r = some (.lst (y.map V.str)) → Q (.ref r) H') →
      LamX.tLam (TbO Pt) (TTc (SVd K) CS CM CU CN) t [some (.ref p), some (.ref me), some (.ref pr), x3, x4, some (.str bt), some v, some (.ref tl), x8, x9, x10, x11] H Q)
    (hline : (p2.endLine == p3.line) = true := by rfl) :
    PSs (cxO P w K mg base f (.ref c) A outer s H0) (.Expr (.Call (.Attribute (.Name "_law_told" p1) "append" p2) [(.Call (.Name "_law_caught" np) [.Lambda params body scope lpos] [] pos)] [] p3) p4 :: rest) (fun En σ H => AtAsk CE C p Pt n σ H En) := by
  refine pss_of fun En σ H hyp => ?_
  obtain ⟨me, pr, tl, as, ft, xs, es, v, d, bt, x3, x4, x8, x9, x10, x11, eσ, k, ob, ht, h1, h5, ll, fin⟩ := hyp.ex
  refine ⟨_, pss_cons (ps_expr (pe_bm PySem.F.plainAttrs_list PySem.F.slot_list_append PySem.F.type_list_append mt_append (pv 7) (pa_cons he pa_nil) (hline := hline))) hrest, ?_⟩
  subst eσ
  have hl : as.length = n := by
    rw [ll.len, List.length_take]
    show min n 5 = n
    omega
  obtain ⟨y, hy⟩ : ∃ y, (YY bt d.shown)[n]? = some y := ⟨(YY bt d.shown)[n]'(by show n < 5; omega), List.getElem?_eq_getElem _⟩
  refine ⟨_, rfl, .inl ⟨rfl, _, SqL.of ht⟩, told me pr tl ft xs es v d bt x3 x4 x8 x9 x10 x11 H _ y k hy fun r H3 m3 hr => ?_⟩
  have t3 : H3 tl = some (.lst (as.map V.ref)) := m3.at k.hp ht refs_nopool (fun _ e => by cases e)
  have hne : as ≠ [] := fun e => by rw [e] at hl; simp at hl; omega
  refine ⟨tl, _, _, rfl, rfl, t3, by rw [List.length_map, hl, sizeLine_eq]; omega, ?_⟩
  refine ⟨me, pr, tl, as ++ [r], ft, xs, es, v, d, bt, x3, x4, x8, x9, x10, x11, rfl, (k.mv m3).set t3 hne, ob, by rw [upd_same, List.map_append]; rfl, by omega, hn, ?_, (fin.mv m3).set t3⟩
  rw [List.take_add_one, hy]
  exact ((ll.mv m3 k.hp).set t3 hne).snoc (upd_keep t3 hr (strs_refs hne))
end
end K1

namespace K1
open PySem PySem.Spec
open PyProof.Rows L2 L2H EnT StX SmX TxS DuX XdI Tr3 CnB ClX
abbrev sb : Str := Str.ofString "b"
abbrev sA : Str := Str.ofString "A"
section
variable {w : World} {P : Program} {base : Heap} {mg : Str → Option Value} {K : PySem.W.Frag} {CE C CN CM CS CU S1 S2 S3 : Addr} {mc : Value}
variable {f c Pt : Addr} {A : Around} {outer : List Env} {s : Shared} {H0 : Hp} {p : Addr}
/-- made.meets(("a", None)) -/
theorem seg6 (W : Wo P w K mg base CE C CN CM CS CU S1 S2 S3 mc) (AK : Asks K mg base c Pt) (hgd : A.guards = some []) (hr : Room 19 (A.deeper (envOfC "_law_odd_right" (defScope s_L_odd_right) s.heap.objs.size f (.ref c))))
    (h7 : PSs (cxO P w K mg base f (.ref c) A outer s H0) (odRest 7) (fun En σ H => AtAsk CE C p Pt 5 σ H En)) :
    PSs (cxO P w K mg base f (.ref c) A outer s H0) (odRest 6) (fun En σ H => AtAsk CE C p Pt 4 σ H En) := by
  obtain ⟨g, fd, hm, FD, F⟩ := W.mt
  obtain ⟨mv, kb⟩ := kb_meets1 FD
  refine ask_seg (by decide) (pe_ask W AK hgd hr (t := fun E => tMethK CE "meets" 2 0 (spMeets K CE CN) (fun vs zs => vs ++ [.bl false]) E (tVar 1) (tCons (tTup (tCons (tC (.str sa)) (tCons (tC .non) tNil))) tNil) tNil) (LamX.lamS_by (by decide +kernel))
    (fun A' outer' s' H' E f' c' hr' => ?he)) h7 ?_
  case he =>
    refine pe_methK (ks := []) (pv 1) W.M.cl hm F (hr'.mono (by decide)) kb (passes_call (takes_of rfl rfl rfl rfl) fun _ _ _ _ h => h) (pa_cons (pe_tup (pa_cons pe_str (pa_cons pe_non pa_nil))) pa_nil) pk_nil
  intro me pr tl t xs es v d bt x3 x4 x8 x9 x10 x11 H Q y k hy q
  cases hy
  refine ask_err k.hp k.T (v := .int 1) (x := "1") (fun H' _ => ⟨.int 1, .inl ⟨.int _, .of (by decide) (by decide) (by decide)⟩, rfl⟩) (.inr (.inr (.inr ⟨rfl, rfl, rfl⟩))) (fun H1 Q' E m1 eE => ?_) q
  have k1 := k.mv m1
  have ke := k1.e
  obtain ⟨⟨dx, vf, fl, ys, e1, e2, e3, e4⟩, _⟩ := k1.e
  refine ⟨_, rfl, _, _, _, rfl, e1, rfl, (by decide), fun p1 => fun n1 => ⟨rfl, rfl, _, _, _, _, rfl, (ke.same (same_upd n1)), ?_⟩⟩
  exact .inr (.inr ⟨p1, _, [sa], .non, rfl, upd_same, by decide, rfl, by decide +kernel, by simp, rfl, .inr .non, .inl rfl, eE.same (same_upd n1)⟩)
/-- made.meets(("a", "b", "a", "A")) -/
theorem seg5 (W : Wo P w K mg base CE C CN CM CS CU S1 S2 S3 mc) (AK : Asks K mg base c Pt) (hgd : A.guards = some []) (hr : Room 19 (A.deeper (envOfC "_law_odd_right" (defScope s_L_odd_right) s.heap.objs.size f (.ref c))))
    (h7 : PSs (cxO P w K mg base f (.ref c) A outer s H0) (odRest 7) (fun En σ H => AtAsk CE C p Pt 5 σ H En)) :
    PSs (cxO P w K mg base f (.ref c) A outer s H0) (odRest 5) (fun En σ H => AtAsk CE C p Pt 3 σ H En) := by
  obtain ⟨g, fd, hm, FD, F⟩ := W.mt
  obtain ⟨mv, kb⟩ := kb_meets1 FD
  refine ask_seg (by decide) (pe_ask W AK hgd hr (t := fun E => tMethK CE "meets" 2 0 (spMeets K CE CN) (fun vs zs => vs ++ [.bl false]) E (tVar 1) (tCons (tTup (tCons (tC (.str sa)) (tCons (tC (.str sb)) (tCons (tC (.str sa)) (tCons (tC (.str sA)) tNil))))) tNil) tNil) (LamX.lamS_by (by decide +kernel))
    (fun A' outer' s' H' E f' c' hr' => ?he)) (seg6 W AK hgd hr h7) ?_
  case he =>
    refine pe_methK (ks := []) (pv 1) W.M.cl hm F (hr'.mono (by decide)) kb (passes_call (takes_of rfl rfl rfl rfl) fun _ _ _ _ h => h) (pa_cons (pe_tup (pa_cons pe_str (pa_cons pe_str (pa_cons pe_str (pa_cons pe_str pa_nil))))) pa_nil) pk_nil
  intro me pr tl t xs es v d bt x3 x4 x8 x9 x10 x11 H Q y k hy q
  cases hy
  refine ask_err k.hp k.T (v := .int 2) (x := "2") (fun H' _ => ⟨.int 2, .inl ⟨.int _, .of (by decide) (by decide) (by decide)⟩, rfl⟩) (.inr (.inr (.inr ⟨rfl, rfl, rfl⟩))) (fun H1 Q' E m1 eE => ?_) q
  have k1 := k.mv m1
  have ke := k1.e
  obtain ⟨⟨dx, vf, fl, ys, e1, e2, e3, e4⟩, _⟩ := k1.e
  refine ⟨_, rfl, _, _, _, rfl, e1, rfl, (by decide), fun p1 => fun n1 => ⟨rfl, rfl, _, _, _, _, rfl, (ke.same (same_upd n1)), ?_⟩⟩
  exact .inr (.inr ⟨p1, _, [sa, sb], .str sa, rfl, upd_same, by decide, rfl, by decide +kernel, by decide +kernel, rfl, .inl ⟨_, rfl, by rw [sizeLine_eq]; decide +kernel⟩, .inr ⟨sa, by simp, rfl, by decide +kernel⟩, eE.same (same_upd n1)⟩)
/-- made.meets(["a"]) -/
theorem seg4 (W : Wo P w K mg base CE C CN CM CS CU S1 S2 S3 mc) (AK : Asks K mg base c Pt) (hgd : A.guards = some []) (hr : Room 19 (A.deeper (envOfC "_law_odd_right" (defScope s_L_odd_right) s.heap.objs.size f (.ref c))))
    (h7 : PSs (cxO P w K mg base f (.ref c) A outer s H0) (odRest 7) (fun En σ H => AtAsk CE C p Pt 5 σ H En)) :
    PSs (cxO P w K mg base f (.ref c) A outer s H0) (odRest 4) (fun En σ H => AtAsk CE C p Pt 2 σ H En) := by
  obtain ⟨g, fd, hm, FD, F⟩ := W.mt
  obtain ⟨mv, kb⟩ := kb_meets1 FD
  refine ask_seg (by decide) (pe_ask W AK hgd hr (t := fun E => tMethK CE "meets" 2 0 (spMeets K CE CN) (fun vs zs => vs ++ [.bl false]) E (tVar 1) (tCons (tLst (tCons (tC (.str sa)) tNil)) tNil) tNil) (LamX.lamS_by (by decide +kernel))
    (fun A' outer' s' H' E f' c' hr' => ?he)) (seg5 W AK hgd hr h7) ?_
  case he =>
    refine pe_methK (ks := []) (pv 1) W.M.cl hm F (hr'.mono (by decide)) kb (passes_call (takes_of rfl rfl rfl rfl) fun _ _ _ _ h => h) (pa_cons (pe_lst (pa_cons pe_str pa_nil)) pa_nil) pk_nil
  intro me pr tl t xs es v d bt x3 x4 x8 x9 x10 x11 H Q y k hy q
  cases hy
  refine ask_err k.hp k.T (v := .non) (x := "None") (fun H' _ => ⟨.none, .inl ⟨.non, .of rfl (by decide) (by decide)⟩, rfl⟩) (.inr (.inr (.inr ⟨rfl, rfl, rfl⟩))) (fun H1 Q' E m1 eE => ?_) q
  have k1 := k.mv m1
  have ke := k1.e
  obtain ⟨⟨dx, vf, fl, ys, e1, e2, e3, e4⟩, _⟩ := k1.e
  refine ⟨_, rfl, _, _, _, rfl, e1, rfl, (by decide), fun p1 => fun n1 => ⟨rfl, rfl, _, _, _, _, rfl, (ke.same (same_upd n1)), ?_⟩⟩
  exact .inl ⟨p1, _, rfl, upd_same, eE.same (same_upd n1)⟩
/-- made.of(pairs, given=odd) -/
theorem seg3 (W : Wo P w K mg base CE C CN CM CS CU S1 S2 S3 mc) (AK : Asks K mg base c Pt) (hgd : A.guards = some []) (hr : Room 19 (A.deeper (envOfC "_law_odd_right" (defScope s_L_odd_right) s.heap.objs.size f (.ref c))))
    (h7 : PSs (cxO P w K mg base f (.ref c) A outer s H0) (odRest 7) (fun En σ H => AtAsk CE C p Pt 5 σ H En)) :
    PSs (cxO P w K mg base f (.ref c) A outer s H0) (odRest 3) (fun En σ H => AtAsk CE C p Pt 1 σ H En) := by
  obtain ⟨g, fd, hm, FD, F⟩ := W.of
  obtain ⟨mv, kb⟩ := kb_of2 FD
  refine ask_seg (by decide) (pe_ask W AK hgd hr (t := fun E => tMethK CE "of" 2 1 (spOf K CE C CS CM CU) (fun vs zs => vs ++ zs) E (tVar 1) (tCons (tVar 2) tNil) (tCons (tVar 6) tNil)) (LamX.lamS_by (by decide +kernel))
    (fun A' outer' s' H' E f' c' hr' => ?he)) (seg4 W AK hgd hr h7) ?_
  case he =>
    refine pe_methK (ks := ["given"]) (pv 1) W.M.cl hm F (hr'.mono (by decide)) kb (passes_call (takes_of rfl rfl rfl rfl) fun _ _ _ _ h => h) (pa_cons (pv 2) pa_nil) (pk_cons (pv 6) pk_nil)
  intro me pr tl t xs es v d bt x3 x4 x8 x9 x10 x11 H Q y k hy q
  cases hy
  refine ask_err k.hp k.T (v := v) (x := d.shown) (fun H' m' => ⟨d, (k.o.mv m' k.hp).shd, rfl⟩) (.inr (.inl ⟨rfl, rfl, rfl⟩)) (fun H1 Q' E m1 eE => ?_) q
  have k1 := k.mv m1
  have ke := k1.e
  obtain ⟨⟨dx, vf, fl, ys, e1, e2, e3, e4⟩, _⟩ := k1.e
  refine ⟨_, rfl, me, dx, _, rfl, e1, rfl, _, rfl, _, rfl, rfl, rfl, me, .ref pr, v, t, es, some false, rfl, ke, .odd k1.nv k1.o.vok, ?_⟩
  exact .inr ⟨pr, xs, rfl, k1.h, k1.pa, k1.nd, by have := k1.l; omega, .inl ⟨k1.el, .inl ⟨rfl, eE⟩⟩⟩
end
end K1

namespace K1
open PySem PySem.Spec
open PyProof.Rows L2 L2H EnT StX SmX TxS DuX XdI Tr3 CnB ClX
theorem quote_low (x : Str) : reprQuote x = 39 ∨ reprQuote x = 34 := by
  unfold reprQuote
  split
  · exact .inr rfl
  · exact .inl rfl
theorem char_low : ∀ c : _root_.Fin 128, (∀ y ∈ PySem.Builtin.Str.reprChar 39 c.val, y < 128) ∧ ∀ y ∈ PySem.Builtin.Str.reprChar 34 c.val, y < 128 := by decide +kernel
theorem fold_low {q : Nat} (hq : q = 39 ∨ q = 34) : ∀ (l : List Nat) (acc : Array Nat), (∀ c ∈ l, c < 128) → (∀ c ∈ acc.toList, c < 128) → ∀ c ∈ (l.foldl (fun out c => out ++ (PySem.Builtin.Str.reprChar q c).toArray) acc).toList, c < 128
  | [], acc, _, ha => ha
  | c :: r, acc, hl, ha => by
    rw [List.foldl_cons]
    refine fold_low hq r _ (fun x hx => hl x (List.mem_cons_of_mem _ hx)) fun x hx => ?_
    rw [Array.toList_append, List.mem_append] at hx
    rcases hx with hx | hx
    · exact ha x hx
    · have hc := hl c List.mem_cons_self
      have k := char_low ⟨c, hc⟩
      rcases hq with rfl | rfl
      · exact k.1 x (by simpa using hx)
      · exact k.2 x (by simpa using hx)
theorem repr_ok {z : Str} (h : nameB z = true) : PyData.strOk (PyData.str z).shown = true := by
  have hz := name_low h
  refine strOk_low fun c hc => ?_
  have e : (PyData.str z).shown = reprText z := rfl
  rw [e] at hc
  unfold reprText at hc
  have q := quote_low z
  have q128 : reprQuote z < 128 := by rcases q with e | e <;> rw [e] <;> decide
  simp only [Array.toList_push, List.mem_append, List.mem_singleton] at hc
  rcases hc with hc | hc
  · rw [← Array.foldl_toList] at hc
    exact fold_low q _ _ hz (fun c hc => by
      have : c = reprQuote z := by simpa using hc
      rw [this]
      exact q128) c hc
  · rw [hc]
    exact q128
theorem tupS_shaped {ys : List Str} (h : OkS ys) : SeqAt.shaped (.tuple (strD ys)) = true := by
  show (PyData.canLay0 (.tuple (strD ys)) && decide (PyData.depth (.tuple (strD ys)) ≤ 64)) = true
  rw [Bool.and_eq_true]
  refine ⟨by simp only [PyData.canLay0]; exact strD_lay ys h, decide_eq_true ?_⟩
  simp only [PyData.depth]
  have := strD_depth ys
  omega
theorem lstS_shaped {ys : List Str} (h : OkS ys) : SeqAt.shaped (.list (strD ys)) = true := by
  show (PyData.canLay0 (.list (strD ys)) && decide (PyData.depth (.list (strD ys)) ≤ 64)) = true
  rw [Bool.and_eq_true]
  refine ⟨by simp only [PyData.canLay0]; exact strD_lay ys h, decide_eq_true ?_⟩
  simp only [PyData.depth]
  have := strD_depth ys
  omega
theorem lstS_eqv {ys : List Str} (h : OkS ys) : PyData.eqv (.list (strD ys)) (.list (strD ys)) = true := SeqAt.eqv_refl _ (by simp only [PyData.canLay0]; exact strD_lay ys h)
/-! ### pairs left out -/
abbrev Px : Type := V × (Str × Addr)
def keptF (xs : List V) (es : List (Str × Addr)) (F : List Str) (i : Nat) : List Px := ((xs.zip es).take i).filter fun q => decide (¬ q.2.1 ∈ F)
theorem kept_pairs {C : Addr} {H : Hp} {xs : List V} {es : List (Str × Addr)} {F : List Str} {n : Nat} (h : PairsAt C H xs es) : PairsAt C H ((keptF xs es F n).map (·.1)) ((keptF xs es F n).map (·.2)) := fun i z m e => by
  rw [List.getElem?_map] at e
  cases hq : (keptF xs es F n)[i]? with
  | none => rw [hq] at e; cases e
  | some q =>
    rw [hq] at e
    have e : q.2 = (z, m) := Option.some.inj e
    have hm := List.mem_of_getElem? hq
    have hm2 := List.mem_of_mem_take ((List.mem_filter.mp hm).1)
    obtain ⟨j, hj⟩ := List.mem_iff_getElem?.mp hm2
    rw [List.getElem?_zip_eq_some] at hj
    obtain ⟨b, ys, a1, a2⟩ := h j z m (by rw [hj.2, e])
    refine ⟨b, ys, ?_, a2⟩
    rw [List.getElem?_map, hq]
    rw [hj.1] at a1
    exact a1
theorem kept_nodup {xs : List V} {es : List (Str × Addr)} {F : List Str} {n : Nat} (l : es.length = xs.length) (h : (es.map (·.1)).Nodup) : (((keptF xs es F n).map (·.2)).map (·.1)).Nodup := by
  have s1 : (keptF xs es F n).Sublist (xs.zip es) := (List.filter_sublist).trans (List.take_sublist _ _)
  have s2 := (s1.map (·.2)).map (·.1)
  have e : (xs.zip es).map (·.2) = es := by
    rw [List.map_snd_zip]
    omega
  rw [e] at s2
  exact h.sublist s2
theorem kept_mem {xs : List V} {es : List (Str × Addr)} {F : List Str} (l : es.length = xs.length) (z : Str) : z ∈ ((keptF xs es F xs.length).map (·.2)).map (·.1) ↔ z ∈ es.map (·.1) ∧ ¬ z ∈ F := by
  have e : (xs.zip es).map (·.2) = es := by
    rw [List.map_snd_zip]
    omega
  have et : (xs.zip es).take xs.length = xs.zip es := List.take_of_length_le (by rw [List.length_zip]; omega)
  constructor
  · intro h
    obtain ⟨e1, h1, h2⟩ := List.mem_map.mp h
    obtain ⟨q, h3, h4⟩ := List.mem_map.mp h1
    unfold keptF at h3
    rw [et, List.mem_filter] at h3
    refine ⟨?_, ?_⟩
    · rw [← e]
      exact List.mem_map.mpr ⟨e1, List.mem_map.mpr ⟨q, h3.1, h4⟩, h2⟩
    · have h5 := of_decide_eq_true h3.2
      rw [h4, h2] at h5
      exact h5
  · rintro ⟨h, hF⟩
    rw [← e] at h
    obtain ⟨e1, h1, h2⟩ := List.mem_map.mp h
    obtain ⟨q, h3, h4⟩ := List.mem_map.mp h1
    refine List.mem_map.mpr ⟨e1, List.mem_map.mpr ⟨q, ?_, h4⟩, h2⟩
    unfold keptF
    rw [et, List.mem_filter]
    refine ⟨h3, decide_eq_true ?_⟩
    rw [h4, h2]
    exact hF
theorem shows_name {z : Str} (h : nameB z = true) : RpD.Shows (.str z) := by
  have hz := name_low h
  have hl := name_short h
  have hc : ∀ c ∈ z.cps.toList, c < 16 ^ 8 := fun c hc => Nat.lt_trans (hz c hc) (by decide)
  refine ⟨rfl, rfl, by simp [PyData.depth], ?_⟩
  have := StrLaws.reprText_len z hc
  show (reprText z).length ≤ sizeLine
  rw [sizeLine_eq]
  omega
theorem svd_name {K : PySem.W.Frag} {H : Hp} {z : Str} (h : nameB z = true) : SVd K H (.str z) (PyData.str z).shown := ⟨.str z, .inl ⟨.str z, shows_name h⟩, rfl⟩
theorem kept_nopool {C : Addr} {H : Hp} {xs : List V} {es : List (Str × Addr)} {F : List Str} {n : Nat} (h : PairsAt C H xs es) : ∀ x y z : Int, HO.lst ((keptF xs es F n).map (·.1)) ≠ .lst [.int x, .int y, .int z] := fun x y z e => by
  have e := HO.lst.inj e
  cases hk : keptF xs es F n with
  | nil => rw [hk] at e; cases e
  | cons q r =>
    have kp := kept_pairs (F := F) (n := n) h
    rw [hk] at e kp
    obtain ⟨b, us, a1, _⟩ := kp 0 q.2.1 q.2.2 rfl
    have a1 : some q.1 = some (V.ref b) := a1
    have e1 : q.1 = V.int x := (List.cons.inj e).1
    rw [e1] at a1
    cases Option.some.inj a1
end K1

namespace K1
open PySem PySem.Spec
open PyProof.Rows L2 L2H EnT StX SmX TxS DuX XdI Tr3 CnB ClX
theorem slA_go {K : PySem.W.Frag} {a : Addr} {zs : List V} {k : Nat} {H : Hp} {Q : VK} (ha : H a = some (.tup zs)) (hk : k ≤ zs.length) (q : ∀ c H', Same H H' → H' c = some (.tup (zs.drop k)) → Q (.ref c) H') : rSlA K (.ref a) (some (k : Int)) none H Q := by
  refine ⟨a, zs, rfl, SqT.of ha, fun e => ?_, fun _ c nc => ?_⟩
  · have e2 := e.1
    rw [HT.sIx_nat] at e2
    have k0 : k = 0 := by
      have h2 := e.2
      omega
    subst k0
    exact q a H (Same.refl H) ha
  · refine q c _ (same_upd nc) ?_
    rw [upd_same]
    unfold cutV
    rw [HT.sIx_none, HT.sIx_nat, Nat.min_eq_left hk]
    rw [List.take_of_length_le (by rw [List.length_drop]; exact Nat.le_refl _)]
/-- behind the asks -/
structure AtEnd (CE C p Pt : Addr) (σ : L2.St) (H : Hp) (En : Ends) : Prop where
  ex : ∃ (me pr : Addr) (t : Fm) (xs : List V) (es : List (Str × Addr)) (v : V) (d : PyData) (x3 x4 x5 x6 x7 x8 x9 x10 x11 : Option V),
    σ = [some (.ref p), some (.ref me), some (.ref pr), x3, x4, x5, x6, x7, x8, x9, x10, x11] ∧ OdC CE C p Pt me pr t xs es v d H ∧ Fin p (TbO Pt) H En
section
variable {w : World} {P : Program} {base : Heap} {mg : Str → Option Value} {K : PySem.W.Frag} {CE C CN CM CS CU S1 S2 S3 : Addr} {mc : Value}
variable {f c Pt : Addr} {A : Around} {outer : List Env} {s : Shared} {H0 : Hp} {p : Addr}
theorem seg9 {fD : Addr} (W : Wo P w K mg base CE C CN CM CS CU S1 S2 S3 mc) (AK : Asks K mg base c Pt) (hD : Has P w K mg base CX0 1 "_law_draw" fD ["_law_pool_here", "_law_many"] spDraw) (hgd : A.guards = some []) (hr : Room 19 (A.deeper (envOfC "_law_odd_right" (defScope s_L_odd_right) s.heap.objs.size f (.ref c)))) :
    PSs (cxO P w K mg base f (.ref c) A outer s H0) (odRest 9) (fun En σ H => AtEnd CE C p Pt σ H En) := by
  have hun := hr.un
  have T := W.b.T
  obtain ⟨g, fd, hm, FD, F⟩ := W.of
  obtain ⟨mv, kb⟩ := kb_of1 FD
  refine pss_of fun En σ H hyp => ?_
  obtain ⟨me, pr, t, xs, es, v, d, x3, x4, x5, x6, x7, x8, x9, x10, x11, eσ, k, fin⟩ := hyp.ex
  refine ⟨_, pss_cons (ps_if (pt_cmpR (op_eqD hr.units) (pe_pp W.pS (pv 1) (hr.mono (by decide)) rfl) (pe_tup pa_nil) (nomark _)) (pss_one (ps_ret pe_bl)) pss_nil)
    (pss_cons (ps_set (i := 9) scOd.nd rfl (.inr rfl) (pe_has hD (hr.mono (by decide)) (by rfl) pass0 (pa_cons (pv 0) (pa_cons (pe_callB call_len_seq (by rfl) T.len PySem.boot_len (pa_cons (pe_pp W.pS (pv 1) (hr.mono (by decide)) rfl) pa_nil)) pa_nil))))
    (pss_cons (ps_set (i := 10) scOd.nd rfl (.inr rfl) (pe_lc (own := [("_law_pair", 11)]) (g := gName 11) (tt := tTest (tOp (rIn K true) (tOp (rIxT K) (tVar 11) (tC (.int 0))) (tSl (rSlA K) (tProp CE (getSp CE "_fields") [] E0 (tVar 1)) (tPart (tVar 9)) tNoPart))) (te := tVar 11) rfl scOd.nd (pi_tup (pv 2))
        (blkOk_by (own := [("_law_pair", 11)]) (N := nmOd) (sc := defScope s_L_odd_right) (by decide +kernel)) (fun _ _ _ _ _ => pg_name (i := 11) scOd.nd rfl (Or.inl rfl))
        (fun _ _ _ _ _ => pts_one (pt_cmpR op_notIn_seq (pe_ix ix_tup (pv 11) pe_int (fun _ _ => rfl)) (pe_slice sl_tupA (pe_pp W.pS (pv 1) (hr.mono (by decide)) rfl) (po_some (pv 9)) po_none) (by rfl))) (fun _ _ _ _ _ => pv 11)))
    (pss_one (ps_ret (pe_cmpR (op_eqD hr.units) (pe_ask W AK hgd hr (t := fun E => tMethK CE "of" 2 0 (spOf K CE C CS CM CU) (fun vs zs => vs ++ [.non]) E (tVar 1) (tCons (tCB (rTupOf K) (tCons (tVar 10) tNil)) tNil) tNil) (LamX.lamS_by (by decide +kernel))
        (fun A' outer' s' H' E f' c' hr' => ?he)) (pe_lst (pa_cons pe_str (pa_cons (pe_callB (call_reprS (by exact hgd) (by show (A.deeper (envOfC "_law_odd_right" (defScope s_L_odd_right) s.heap.objs.size f (.ref c))).units + 100 < cLine; omega)) (by rfl) T.repr (by decide +kernel) (pa_cons (pe_ix ix_tup (pe_pp W.pS (pv 1) (hr.mono (by decide)) rfl) (pv 9) (fun _ _ => rfl)) pa_nil)) pa_nil))) (nomark _)))))), ?_⟩
  case he =>
    refine pe_methK (ks := []) (pv 1) W.M.cl hm F (hr'.mono (by decide)) kb (passes_call (takes_of rfl rfl rfl rfl) fun _ _ _ _ h => h) (pa_cons (pe_callTy call_tupK (by rfl) T.tuple (by decide +kernel) (pa_cons (pv 10) pa_nil)) pa_nil) pk_nil
  subst eσ
  obtain ⟨⟨dx, vf, fl, ys, e1, e2, e3, e4, e5, e6⟩, ok, hd⟩ := k.e
  have oks : OkS ys := okS_names fun z hz => ok.names z ((e6 z).mp hz).1
  refine ⟨_, rfl, _, _, _, rfl, e1, _, _, _, _, rfl, e1, rfl, (by decide), fun p1 => fun n1 => ?_⟩
  have s1 := same_upd (o := .tup []) n1
  have d1 := upd_same (H := H) (a := p1) (o := HO.tup [])
  generalize upd H p1 (.tup []) = H1 at s1 d1 ⊢
  have m1 : Mv p (TbO Pt) H H1 := .same s1 k.hp k.T
  have k1 := k.mv m1
  have f1 := s1 _ _ e1
  have f3 := s1 _ _ e3
  refine ⟨_, _, .tup (SqT.of f3) (dpAll_str ys), .tup (SqT.of d1) .nil, tupS_shaped oks, rfl, ?_⟩
  cases hys : ys with
  | nil => exact ⟨_, rfl, iteT (fin _ m1)⟩
  | cons z0 zs0 =>
    have eN : PyData.eqv (.tuple (strD (z0 :: zs0))) (.tuple []) = false := rfl
    rw [eN]
    refine ⟨_, rfl, iteF ?_⟩
    have lpos : 0 < ys.length := by rw [hys]; simp
    have l32 : ys.length ≤ 32 := by
      have a := len_sub e5 (fun z hz => ((e6 z).mp hz).1)
      have b := nl32 hd
      unfold Fm.nl at b
      omega
    refine ⟨_, rfl, _, rfl, _, _, _, rfl, f1, _, _, _, _, rfl, f1, rfl, _, _, rfl, (.inr (SqT.of f3)), _, _, rfl, k1.hp, by rw [List.length_map]; omega, by rw [List.length_map]; omega, fun i H2 x2 i0 i1 => ?_⟩
    rw [List.length_map] at i1
    obtain ⟨at', rfl⟩ : ∃ k : Nat, i = (k : Int) := ⟨i.toNat, by omega⟩
    have ha : at' < ys.length := by omega
    have m2 : Mv p (TbO Pt) H H2 := m1.trans (.ext x2 k1.hp k1.T)
    have k2 := k.mv m2
    have fp : fl ≠ p := ne_pool k1.hp f3 (fun _ e => by cases e)
    have mp : me ≠ p := ne_pool k1.hp f1 (fun _ e => by cases e)
    have g1 := x2.at mp f1
    have g3 := x2.at fp f3
    refine ⟨_, rfl, pr, rfl, ⟨_, SqT.of k2.h⟩, fun D nD => ?_⟩
    refine lc_it (walk_tup (xs := xs)) (fun i H' => Same H2 H' ∧ H' D = some (.lst ((keptF xs es (ys.drop at') i).map (·.1)))) ?_ ?_ ?_ ?_
    · exact ⟨same_upd nD, upd_same⟩
    · rintro i H' _ ⟨sm, _⟩
      exact SqT.of (sm _ _ k2.h)
    · rintro i x H3 H4 hi ⟨sm, hD'⟩ ⟨rfl, ey⟩
      have ey : xs[i]? = some x := ey
      have hie : i < es.length := by rw [k.el]; exact hi
      obtain ⟨z, q1, ez⟩ : ∃ z q, es[i]? = some (z, q) := ⟨(es[i]).1, (es[i]).2, by rw [List.getElem?_eq_getElem hie]⟩
      obtain ⟨b, us, b1, b2, b3, b4, b5⟩ := k2.pa i z q1 ez
      rw [b1] at ey
      cases ey
      have hb := sm _ _ b2
      have hg1 := sm _ _ g1
      have hg3 := sm _ _ g3
      refine ⟨rfl, _, rfl, _, _, _, _, rfl, rfl, (SqT.of hb), rfl, _, rfl, _, _, _, rfl, hg1, _, _, _, _, rfl, hg1, rfl, _, rfl, _, rfl, ?_⟩
      unfold tNoPart
      refine slA_go (k := at') hg3 (by rw [List.length_map]; omega) fun c2 H5 s5 h5 => ?_
      rw [← List.map_drop] at h5
      have hD5 := s5 _ _ hD'
      have et : (xs.zip es).take (i + 1) = (xs.zip es).take i ++ [(V.ref b, (z, q1))] := by
        rw [List.take_add_one, show (xs.zip es)[i]? = some (V.ref b, (z, q1)) from List.getElem?_zip_eq_some.mpr ⟨b1, ez⟩]
        rfl
      have ln : (keptF xs es (ys.drop at') i).length ≤ 50 := by
        unfold keptF
        have a1 := List.length_filter_le (fun q : Px => decide (¬ q.2.1 ∈ ys.drop at')) ((xs.zip es).take i)
        have a2 := k.l
        rw [List.length_take, List.length_zip] at a1
        omega
      refine ⟨c2, _, rfl, .inr (SqT.of h5), rfl, strs_flat _, ?_⟩
      have ei : (if true = true then !inV (V.str z) ((ys.drop at').map V.str) else inV (V.str z) ((ys.drop at').map V.str)) = decide (¬ z ∈ ys.drop at') := by
        rw [if_pos rfl, inV_mem, decide_not]
      refine ⟨_, rfl, ?_⟩
      rw [ei]
      by_cases hz : z ∈ ys.drop at'
      · rw [decide_eq_false (fun h => h hz)]
        refine iteF ⟨sm.trans s5, ?_⟩
        have e2 : keptF xs es (ys.drop at') (i + 1) = keptF xs es (ys.drop at') i := by
          unfold keptF
          rw [et, List.filter_append]
          simp [hz]
        rw [e2]
        exact hD5
      · rw [decide_eq_true hz]
        refine iteT ⟨_, rfl, _, hD5, by rw [List.length_map, sizeLine_eq]; omega, same_set (sm.trans s5) nD, ?_⟩
        have e2 : keptF xs es (ys.drop at') (i + 1) = keptF xs es (ys.drop at') i ++ [(V.ref b, (z, q1))] := by
          unfold keptF
          rw [et, List.filter_append]
          simp [hz]
        rw [e2, upd_same, List.map_append]
        rfl
    · rintro H' ⟨sm, hD'⟩
      have m3 : Mv p (TbO Pt) H H' := m2.trans (.same sm k2.hp k2.T)
      have k3 := k.mv m3
      have hz : ys[at']? = some (ys[at']) := List.getElem?_eq_getElem ha
      generalize ys[at'] = z at hz
      have nz : nameB z = true := ok.names z ((e6 z).mp (List.mem_of_getElem? hz)).1
      refine ask_err k3.hp k3.T (v := .str z) (x := (PyData.str z).shown) (fun H' _ => svd_name nz) (.inr (.inr (.inl ⟨rfl, rfl, rfl⟩))) (fun H3 Q' E m4 eE => ?_) fun r H3 m4 hr => ?_
      · have k4 := k3.mv m4
        have hD4 : ∃ l, H3 D = some (.lst l) ∧ l = (keptF xs es (ys.drop at') xs.length).map (·.1) := ⟨_, m4.at k3.hp hD' (kept_nopool k3.pa) (fun _ e => by cases e), rfl⟩
        obtain ⟨l, hD4, el4⟩ := hD4
        obtain ⟨⟨dx', vf', fl', ys', q1, q2, q3, q4, q5, q6⟩, ok', hd'⟩ := k4.e
        have ke := k4.e
        refine ⟨_, rfl, me, dx', _, rfl, q1, rfl, _, rfl, D, _, rfl, .inl ⟨SqL.of hD4, fun c6 n6 => ?_⟩⟩
        have s6 := same_upd (o := .tup l) n6
        subst el4
        refine ⟨rfl, rfl, me, .ref c6, .non, t, (keptF xs es (ys.drop at') xs.length).map (·.2), none, rfl, ke.same s6, .non, .inr ⟨c6, _, rfl, upd_same, (kept_pairs k4.pa).same s6, kept_nodup k.el k.nd, ?_, .inl ⟨by rw [List.length_map, List.length_map], .inr (.inl ⟨by simp, fun ys2 srt nd2 mem => ?_⟩)⟩⟩⟩
        · have a1 := List.length_filter_le (fun q : Px => decide (¬ q.2.1 ∈ ys.drop at')) ((xs.zip es).take xs.length)
          have a2 := k.l
          rw [List.length_take, List.length_zip] at a1
          rw [List.length_map]
          unfold keptF
          omega
        · have ey : ys2 = ys := sorted_uniq srt e4 nd2 e5 (fun z => (mem z).trans (e6 z).symm)
          subst ey
          have hzd : z ∈ ys2.drop at' := by
            rw [List.mem_iff_getElem?]
            exact ⟨0, by rw [List.getElem?_drop]; exact hz⟩
          refine ⟨z, at', hz, fun y hy => ?_, fun hm => ?_, eE.same s6⟩
          · refine (kept_mem k.el y).mpr ⟨?_, fun hd' => ?_⟩
            · have hm := (e6 y).mp (List.mem_of_mem_take hy)
              exact k.cov y hm.1 hm.2
            · have nd3 := e5
              rw [← List.take_append_drop at' ys2, List.nodup_append] at nd3
              exact nd3.2.2 y hy y hd' rfl
          · exact ((kept_mem k.el z).mp hm).2 hzd
      · have m5 := m3.trans m4
        have h5 := m5.at k.hp e1 (fun _ _ _ e => by cases e) (fun _ e => by cases e)
        have h6 := m5.tup k.hp e3
        have ax : atI (ys.map V.str) ((at' : Nat) : Int) = some (.str z) := atI_nat (by rw [List.getElem?_map, hz]; rfl)
        refine ⟨_, rfl, _, _, _, rfl, h5, _, _, _, _, rfl, h5, rfl, _, rfl, fl, _, _, _, rfl, rfl, SqT.of h6, ax, ?_⟩
        refine ⟨.str z, _, rfl, svd_name nz, (by show 2 ≤ sizeLine; decide), fun q4 n4 => ?_⟩
        have s4 := same_upd (o := .lst ([nmUF, (PyData.str z).shown].map V.str)) n4
        have oks2 : OkS [nmUF, (PyData.str z).shown] := fun y hy => by
          simp only [List.mem_cons, List.not_mem_nil, or_false] at hy
          rcases hy with rfl | rfl
          · decide +kernel
          · exact repr_ok nz
        refine ⟨_, _, .lst (SqL.of (s4 _ _ hr)) (dpAll_str _), .lst (SqL.of upd_same) (dpAll_str [nmUF, (PyData.str z).shown]), lstS_shaped oks2, lstS_shaped oks2, ?_⟩
        rw [lstS_eqv oks2]
        exact fin _ (m5.trans (.same s4 m5.rx.pool m5.tabs))
end
end K1

namespace K1
open PySem PySem.Spec
open PyProof.Rows L2 L2H EnT StX SmX TxS DuX XdI Tr3 CnB ClX
section
variable {w : World} {P : Program} {base : Heap} {mg : Str → Option Value} {K : PySem.W.Frag} {CE C CN CM CS CU S1 S2 S3 : Addr} {mc : Value}
variable {f c Pt : Addr} {A : Around} {outer : List Env} {s : Shared} {H0 : Hp} {p : Addr}
theorem seg7 {fD : Addr} (W : Wo P w K mg base CE C CN CM CS CU S1 S2 S3 mc) (AK : Asks K mg base c Pt) (hD : Has P w K mg base CX0 1 "_law_draw" fD ["_law_pool_here", "_law_many"] spDraw) (hgd : A.guards = some []) (hr : Room 19 (A.deeper (envOfC "_law_odd_right" (defScope s_L_odd_right) s.heap.objs.size f (.ref c)))) :
    PSs (cxO P w K mg base f (.ref c) A outer s H0) (odRest 7) (fun En σ H => AtAsk CE C p Pt 5 σ H En) := by
  have hun := hr.un
  have T := W.b.T
  refine pss_of fun En σ H hyp => ?_
  obtain ⟨me, pr, tl, as, t, xs, es, v, d, bt, x3, x4, x8, x9, x10, x11, eσ, k, ob, ht, h1, h5, ll, fin⟩ := hyp.ex
  refine ⟨_, pss_cons (ps_set (i := 8) scOd.nd rfl (.inl rfl) (pe_lst (pa_cons (pe_lst (pa_cons pe_str (pa_cons (pv 5) pa_nil))) (pa_cons (pe_lst (pa_cons pe_str (pa_cons (pe_callB (call_reprS (by exact hgd) (by show (A.deeper (envOfC "_law_odd_right" (defScope s_L_odd_right) s.heap.objs.size f (.ref c))).units + 100 < cLine; omega)) (by rfl) T.repr (by decide +kernel) (pa_cons (pv 6) pa_nil)) pa_nil))) (pa_cons (pe_lst (pa_cons pe_str (pa_cons pe_str pa_nil))) (pa_cons (pe_lst (pa_cons pe_str (pa_cons pe_str pa_nil))) pa_nil))))))
    (pss_cons (ps_if (pt_cmpR (op_neD hr.units) (pv 7) (pe_op op_cat (pv 8) (pe_lst (pa_cons (pe_lst (pa_cons pe_str (pa_cons pe_str pa_nil))) pa_nil))) (nomark _)) (pss_one (ps_ret pe_bl)) pss_nil)
    (seg9 (p := p) W AK hD hgd hr)), ?_⟩
  subst eσ
  refine ⟨_, rfl, (Nat.le_of_ble_eq_true rfl), fun p1 => fun n1 => ?_⟩
  have s1 := same_upd (o := .lst [V.str nmIS, V.str bt]) n1
  have d1 := upd_same (H := H) (a := p1) (o := HO.lst [V.str nmIS, V.str bt])
  generalize upd H p1 (.lst [V.str nmIS, V.str bt]) = G1 at s1 d1 ⊢
  refine ⟨_, rfl, v, d.shown, rfl, ⟨d, (k.o.keep fun a o e _ _ _ => s1 a o e).shd, rfl⟩, ?_⟩
  refine ⟨(Nat.le_of_ble_eq_true rfl), fun p2 => fun n2 => ⟨(by decide), fun p3 => fun n3 => ⟨(by decide), fun p4 => fun n4 => ⟨(Nat.le_of_ble_eq_true rfl), fun p5 => fun n5 => ⟨_, rfl, _, rfl, (by decide), fun p6 => fun n6 => ⟨(Nat.le_of_ble_eq_true rfl), fun p7 => fun n7 => ⟨_, _, _, _, rfl, rfl, (same_upd n7 _ _ (same_upd n6 _ _ upd_same)), upd_same, (Nat.le_of_ble_eq_true rfl), fun p8 => fun n8 => ?_⟩⟩⟩⟩⟩⟩⟩
  have s2 := same_upd (o := .lst [V.str nmNM, V.str d.shown]) n2
  have s3 := same_upd (o := .lst [V.str nmIN, V.str (Str.ofString "None")]) n3
  have s4 := same_upd (o := .lst [V.str nmIN, V.str (Str.ofString "2")]) n4
  have s5 := same_upd (o := .lst [.ref p1, .ref p2, .ref p3, .ref p4]) n5
  have s6 := same_upd (o := .lst [V.str nmIN, V.str (Str.ofString "1")]) n6
  have s7 := same_upd (o := .lst [.ref p6]) n7
  have s8 := same_upd (o := .lst ([.ref p1, .ref p2, .ref p3, .ref p4] ++ [.ref p6])) n8
  have g6 := s8 p6 _ (s7 p6 _ upd_same)
  have g4 := s8 p4 _ (s7 p4 _ (s6 p4 _ (s5 p4 _ upd_same)))
  have g3 := s8 p3 _ (s7 p3 _ (s6 p3 _ (s5 p3 _ (s4 p3 _ upd_same))))
  have g2 := s8 p2 _ (s7 p2 _ (s6 p2 _ (s5 p2 _ (s4 p2 _ (s3 p2 _ upd_same)))))
  have g1 := s8 p1 _ (s7 p1 _ (s6 p1 _ (s5 p1 _ (s4 p1 _ (s3 p1 _ (s2 p1 _ d1))))))
  have sA := ((((((s1.trans s2).trans s3).trans s4).trans s5).trans s6).trans s7).trans s8
  have gB := upd_same (H := upd (upd (upd (upd (upd (upd G1 p2 (.lst [V.str nmNM, V.str d.shown])) p3 (.lst [V.str nmIN, V.str (Str.ofString "None")])) p4 (.lst [V.str nmIN, V.str (Str.ofString "2")])) p5 (.lst [.ref p1, .ref p2, .ref p3, .ref p4])) p6 (.lst [V.str nmIN, V.str (Str.ofString "1")])) p7 (.lst [.ref p6])) (a := p8) (o := HO.lst ([.ref p1, .ref p2, .ref p3, .ref p4] ++ [.ref p6]))
  clear n1 n2 n3 n4 n5 n6 n7 n8 s1 s2 s3 s4 s5 s6 s7 s8 d1
  generalize upd (upd (upd (upd (upd (upd (upd G1 p2 (.lst [V.str nmNM, V.str d.shown])) p3 (.lst [V.str nmIN, V.str (Str.ofString "None")])) p4 (.lst [V.str nmIN, V.str (Str.ofString "2")])) p5 (.lst [.ref p1, .ref p2, .ref p3, .ref p4])) p6 (.lst [V.str nmIN, V.str (Str.ofString "1")])) p7 (.lst [.ref p6])) p8 (.lst ([.ref p1, .ref p2, .ref p3, .ref p4] ++ [.ref p6])) = G at g1 g2 g3 g4 g6 gB sA ⊢
  have L2' : Lists G [p1, p2, p3, p4, p6] (YY bt d.shown) := ⟨rfl, fun j q y a b => by
    match j, a, b with
    | 0, a, b => cases a; cases b; exact g1
    | 1, a, b => cases a; cases b; exact g2
    | 2, a, b => cases a; cases b; exact g3
    | 3, a, b => cases a; cases b; exact g4
    | 4, a, b => cases a; cases b; exact g6
    | n + 5, a, b => cases a⟩
  have od := k.o.ok
  have oks : ∀ y ∈ YY bt d.shown, OkS y := fun y hy z hz => by
    have nI : ∀ z ∈ [nmIS, nmNM, nmIN, "None", "2", "1"], PyData.strOk z = true := by decide +kernel
    have i1 := nI nmIS (by simp)
    have i2 := nI nmNM (by simp)
    have i3 := nI nmIN (by simp)
    have i4 := nI "None" (by simp)
    have i5 := nI "2" (by simp)
    have i6 := nI "1" (by simp)
    simp only [List.mem_cons, List.not_mem_nil, or_false] at hy
    rcases hy with rfl | rfl | rfl | rfl | rfl <;> simp only [List.mem_cons, List.not_mem_nil, or_false] at hz
    · rcases hz with rfl | rfl <;> assumption
    · rcases hz with rfl | rfl <;> assumption
    · rcases hz with rfl | rfl <;> assumption
    · rcases hz with rfl | rfl <;> assumption
    · rcases hz with rfl | rfl <;> assumption
  have ll5 : Lists H as (YY bt d.shown) := ll
  have m := Mv.same (p := p) (Tb := TbO Pt) sA k.hp k.T
  refine ⟨_, _, .lst (SqL.of (sA _ _ ht)) ((ll5.same sA).dp (K := K)), .lst (SqL.of gB) (L2'.dp (K := K)), lsD_shaped oks, lsD_shaped oks, ?_⟩
  rw [lsD_eqv oks]
  exact ⟨_, rfl, iteF ⟨me, pr, t, xs, es, v, d, x3, x4, _, _, _, _, x9, x10, x11, rfl, k.mv m, fin.fin.mv m⟩⟩
end
end K1

namespace K1
open PySem PySem.Spec
open PyProof.Rows L2 L2H EnT StX SmX TxS DuX XdI Tr3 CnB ClX
theorem int_ok : ∀ i : _root_.Fin 101, PyData.strOk (toString ((i.val : Nat) : Int)) = true := by decide +kernel
/-- before the def begins -/
structure AtOdd (CE C p Pt : Addr) (σ : L2.St) (H : Hp) (En : Ends) : Prop where
  ex : ∃ (me pr : Addr) (t : Fm) (xs : List V) (es : List (Str × Addr)) (x3 : V),
    σ = [some (.ref p), some (.ref me), some (.ref pr), some x3, none, none, none, none, none, none, none, none] ∧ OdC CE C p Pt me pr t xs es (.int 0) (.int 0) H ∧ 0 < xs.length ∧ Fin p (TbO Pt) H En
section
variable {w : World} {P : Program} {base : Heap} {mg : Str → Option Value} {K : PySem.W.Frag} {CE C CN CM CS CU S1 S2 S3 : Addr} {mc : Value}
variable {f c Pt : Addr} {A : Around} {outer : List Env} {s : Shared} {H0 : Hp} {p : Addr}
theorem seg0 {fD fB : Addr} (W : Wo P w K mg base CE C CN CM CS CU S1 S2 S3 mc) (AK : Asks K mg base c Pt) (hD : Has P w K mg base CX0 1 "_law_draw" fD ["_law_pool_here", "_law_many"] spDraw) (hB : Has P w K mg base CX0 3 "_law_bent" fB ["_law_pool_here", "_law_pairs_here"] (spBent K C)) (hgd : A.guards = some []) (hr : Room 19 (A.deeper (envOfC "_law_odd_right" (defScope s_L_odd_right) s.heap.objs.size f (.ref c)))) :
    PSs (cxO P w K mg base f (.ref c) A outer s H0) (defBody s_L_odd_right) (fun En σ H => AtOdd CE C p Pt σ H En) := by
  have hun := hr.un
  have T := W.b.T
  obtain ⟨g, fd, hm, FD, F⟩ := W.of
  obtain ⟨mv, kb⟩ := kb_of2 FD
  refine pss_of fun En σ H hyp => ?_
  obtain ⟨me, pr, t, xs, es, x3, eσ, k, l0, fin⟩ := hyp.ex
  refine ⟨_, pss_cons (ps_asg (pe_has hB (hr.mono (by decide)) (by rfl) pass0 (pa_cons (pv 0) (pa_cons (pv 2) pa_nil))) (pg_unl rfl (pgs_cons (pg_name (i := 4) scOd.nd rfl (.inr rfl)) (pgs_cons (pg_name (i := 5) scOd.nd rfl (.inl rfl)) pgs_nil))))
    (pss_cons (ps_set (i := 6) scOd.nd rfl (.inr rfl) (pe_ix ix_list (pe_lst (pa_cons pe_int (pa_cons pe_str (pa_cons (pe_tup pa_nil) (pa_cons (pe_tup (pa_cons pe_str pa_nil)) (pa_cons pe_bl (pa_cons (pe_lst pa_nil) pa_nil))))))) (pe_has hD (hr.mono (by decide)) (by rfl) pass0 (pa_cons (pv 0) (pa_cons pe_int pa_nil))) (fun _ _ => rfl)))
    (pss_cons (ps_set (i := 7) scOd.nd rfl (.inl rfl) (pe_lst (pa_cons (pe_ask W AK hgd hr (t := fun E => tMethK CE "of" 2 1 (spOf K CE C CS CM CU) (fun vs zs => vs ++ zs) E (tVar 1) (tCons (tVar 4) tNil) (tCons (tVar 6) tNil)) (LamX.lamS_by (by decide +kernel)) (fun A' outer' s' H' E f' c' hr' => ?he)) pa_nil)))
    (seg3 (p := p) W AK hgd hr (seg7 W AK hD hgd hr)))), ?_⟩
  case he =>
    refine pe_methK (ks := ["given"]) (pv 1) W.M.cl hm F (hr'.mono (by decide)) kb (passes_call (takes_of rfl rfl rfl rfl) fun _ _ _ _ h => h) (pa_cons (pv 4) pa_nil) (pk_cons (pv 6) pk_nil)
  subst eσ
  refine ⟨_, rfl, _, rfl, p, pr, xs, es, rfl, k.hp, k.h, k.pa, k.el, l0, k.l, k.nd, fun L bv bt H1 nL x1 hL Lp bent => ?_⟩
  have m1 : Mv p (TbO Pt) H H1 := .ext x1 k.hp k.T
  have k1 := k.mv m1
  refine ⟨_, _, rfl, (SqL.of hL), rfl, _, _, rfl, _, _, rfl, rfl, (by decide), fun p1 => fun n1 => ⟨(by decide), fun p2 => fun n2 => ⟨(by decide), fun p3 => fun n3 => ⟨(Nat.le_of_ble_eq_true rfl), fun p4 => fun n4 => ⟨_, rfl, _, _, rfl, ?_⟩⟩⟩⟩⟩
  have s1 := same_upd (o := .tup []) n1
  have s2 := same_upd (o := .tup [V.str sa]) n2
  have s3 := same_upd (o := .lst []) n3
  have s4 := same_upd (o := .lst [.int 0, .str sa, .ref p1, .ref p2, .bl true, .ref p3]) n4
  have g1 := s4 p1 _ (s3 p1 _ (s2 p1 _ upd_same))
  have g2 := s4 p2 _ (s3 p2 _ upd_same)
  have g3 := s4 p3 _ upd_same
  have sA := ((s1.trans s2).trans s3).trans s4
  have gB := upd_same (H := upd (upd (upd H1 p1 (.tup [])) p2 (.tup [V.str sa])) p3 (.lst [])) (a := p4) (o := HO.lst [.int 0, .str sa, .ref p1, .ref p2, .bl true, .ref p3])
  clear n1 n2 n3 n4 s1 s2 s3 s4
  generalize upd (upd (upd (upd H1 p1 (.tup [])) p2 (.tup [V.str sa])) p3 (.lst [])) p4 (.lst [.int 0, .str sa, .ref p1, .ref p2, .bl true, .ref p3]) = G at g1 g2 g3 gB sA ⊢
  have m2 : Mv p (TbO Pt) H1 G := .same sA k1.hp k1.T
  have k2 := k1.mv m2
  refine ⟨k2.hp, by decide, by decide, fun dd H2 x2 d0 d1 => ?_⟩
  have m3 : Mv p (TbO Pt) G H2 := .ext x2 k2.hp k2.T
  have k3 := k2.mv m3
  have h1 := m3.tup k2.hp g1
  have h2 := m3.tup k2.hp g2
  have h3 := m3.at k2.hp g3 (fun _ _ _ e => by cases e) (fun _ e => by cases e)
  have h4 := m3.at k2.hp gB (fun _ _ _ e => by cases e) (fun _ e => by cases e)
  have b3 := (m2.trans m3).bent k1.hp bent
  obtain ⟨j, rfl⟩ : ∃ j : Nat, dd = (j : Int) := ⟨dd.toNat, by omega⟩
  have all : ∀ (j : Nat) (y : V), ([.int 0, .str sa, .ref p1, .ref p2, .bl true, .ref p3] : List V)[j]? = some y → ∃ d, OddD H2 y d ∧ y ≠ .non := fun j y hy => by
    match j, hy with
    | 0, hy => cases hy; exact ⟨_, .int, fun e => by cases e⟩
    | 1, hy => cases hy; exact ⟨_, .str, fun e => by cases e⟩
    | 2, hy => cases hy; exact ⟨_, .tup0 h1, fun e => by cases e⟩
    | 3, hy => cases hy; exact ⟨_, .tup1 h2, fun e => by cases e⟩
    | 4, hy => cases hy; exact ⟨_, .bl, fun e => by cases e⟩
    | 5, hy => cases hy; exact ⟨_, .lst h3, fun e => by cases e⟩
    | n + 6, hy => cases hy
  obtain ⟨y, hy⟩ : ∃ y, ([.int 0, .str sa, .ref p1, .ref p2, .bl true, .ref p3] : List V)[j]? = some y := ⟨_, List.getElem?_eq_getElem (show j < 6 by omega)⟩
  obtain ⟨d, od, nv⟩ := all j y hy
  have k4 : OdC CE C p Pt me pr t xs es y d H2 := ⟨k3.hp, k3.T, k3.e, k3.h, k3.pa, k3.el, k3.l, k3.nd, od, nv, k3.cov⟩
  have fin4 := fin.mv ((m1.trans m2).trans m3)
  clear all
  refine ⟨p4, _, _, y, rfl, rfl, SqL.of h4, atI_nat hy, ?_⟩
  have last : ∀ (r : Addr) (H' : Hp), PyData.strOk bt = true → Mv p (TbO Pt) H2 H' → H' r = some (.lst ([nmIS, bt].map V.str)) → ∀ tl, H' tl = none → AtAsk CE C p Pt 1 [some (.ref p), some (.ref me), some (.ref pr), some x3, some bv, some (.str bt), some y, some (.ref tl), none, none, none, none] (upd H' tl (.lst [.ref r])) En := fun r H' ob m hr tl nt => by
    have k5 := k4.mv m
    have s5 := same_upd (o := .lst [V.ref r]) nt
    have m5 : Mv p (TbO Pt) H' (upd H' tl (.lst [V.ref r])) := .same s5 k5.hp k5.T
    refine ⟨me, pr, tl, [r], t, xs, es, y, d, bt, _, _, _, _, _, _, rfl, k5.mv m5, ob, upd_same, by decide, by decide, ⟨rfl, fun j d' y' a b => ?_⟩, (Fin0.new (fin4.mv m) k5.hp k5.T nt).mv m5⟩
    match j, a, b with
    | 0, a, b => cases a; cases b; exact s5 _ _ hr
    | n + 1, a, b => cases a
  rcases b3 with ⟨a, r0, zs, rfl, hb, rfl⟩ | ⟨a, xs', es', y', rfl, hb, pb, nb, lb, yb, bad, rfl⟩
  · unfold gName tSeq tAsg tLst tCons
    refine ask_err k4.hp k4.T (v := .non) (x := "None") (fun H' _ => ⟨.none, .inl ⟨.non, .of rfl (by decide) (by decide)⟩, rfl⟩) (.inl ⟨rfl, rfl, rfl⟩) (fun H3 Q' E m4 eE => ?_) fun r H3 m4 hr => ?_
    · have k5 := k4.mv m4
      have ke := k5.e
      obtain ⟨⟨dx, vf, fl, ys, e1, e2, e3, e4⟩, _⟩ := k5.e
      have hb5 := m4.at k4.hp hb (fun _ _ _ e => by cases e) (fun _ e => by cases e)
      refine ⟨_, rfl, me, dx, _, rfl, e1, rfl, _, rfl, _, rfl, rfl, rfl, me, .ref a, y, t, es, some false, rfl, ke, .odd k5.nv k5.o.vok, ?_⟩
      exact .inl ⟨a, _, rfl, hb5, eE⟩
    · exact ⟨by show 1 ≤ sizeLine; decide, fun tl nt => last r H3 (by decide +kernel) m4 hr tl nt⟩
  · unfold gName tSeq tAsg tLst tCons
    have lj : es'.length < 101 := by
      have := (List.getElem?_eq_some_iff.mp yb).1
      omega
    refine ask_err k4.hp k4.T (v := .int es'.length) (x := toString ((es'.length : Nat) : Int)) (fun H' _ => ⟨.int es'.length, .inl ⟨.int _, .of (decide_eq_true ⟨by omega, by omega⟩) (by simp [PyData.depth]) (by simp [RpD.wide])⟩, rfl⟩) (.inl ⟨rfl, rfl, rfl⟩) (fun H3 Q' E m4 eE => ?_) fun r H3 m4 hr => ?_
    · have k5 := k4.mv m4
      have ke := k5.e
      obtain ⟨⟨dx, vf, fl, ys, e1, e2, e3, e4⟩, _⟩ := k5.e
      refine ⟨_, rfl, me, dx, _, rfl, e1, rfl, _, rfl, _, rfl, rfl, rfl, me, .ref a, y, t, es', some false, rfl, ke, .odd k5.nv k5.o.vok, ?_⟩
      exact .inr ⟨a, xs', rfl, m4.tup k4.hp hb, m4.pairs k4.hp pb, nb, lb, .inr ⟨y', yb, m4.bad k4.hp bad, eE⟩⟩
    · exact ⟨by show 1 ≤ sizeLine; decide, fun tl nt => last r H3 (int_ok ⟨es'.length, lj⟩) m4 hr tl nt⟩
def spOddR (CE C Pt : Addr) : Sp := fun vs H Q _ => ∃ (p me pr : Addr) (t : Fm) (xs : List V) (es : List (Str × Addr)) (x3 : V), vs = [.ref p, .ref me, .ref pr, x3] ∧ OdC CE C p Pt me pr t xs es (.int 0) (.int 0) H ∧ 0 < xs.length ∧ ∀ H', Mv p (TbO Pt) H H' → Q (.bl true) H'
theorem ok_oddR {fD fB : Addr} (W : Wo P w K mg base CE C CN CM CS CU S1 S2 S3 mc) (AK : Asks K mg base c Pt) (hD : Has P w K mg base CX0 1 "_law_draw" fD ["_law_pool_here", "_law_many"] spDraw) (hB : Has P w K mg base CX0 3 "_law_bent" fB ["_law_pool_here", "_law_pairs_here"] (spBent K C)) (FR : FunC K "_law_odd_right" "_law_odd_right" s_L_odd_right f c) : FnG P w K mg base CX0 20 f (spOddR CE C Pt) := by
  intro A outer st H us vs Q E hgd hr e0 r hyp
  obtain ⟨p, me, pr, t, xs, es, x3, rfl, k, l0, q⟩ := hyp
  obtain ⟨oc, od, kV, doc, pm, an, ct, osl, lk, hcd⟩ := FR.ex
  refine LamX.run_ofS (N := nmOd) (ps := psOd) (us := us) (vs := [.ref p, .ref me, .ref pr, x3]) lk hcd scOd hr e0 ?_ r rfl fun hr' => ⟨_, (seg0 (p := p) (Pt := Pt) W AK hD hB hgd hr').nox, ?_⟩
  · have b : L2.Binds K (PySem.W.fnOf "_law_odd_right" "_law_odd_right" (defArgs s_L_odd_right) (defBody s_L_odd_right) (defScope s_L_odd_right) .none kV doc pm an (.ref c) ct) psOd [] := .all fun us hl => match us, hl with | [_, _, _, _], _ => rfl
    have hl : us.length = 4 := by rw [← r.length]; rfl
    have z := b st us (e0.mod.kin.keeps fun b o e => (e0.bs b o e).1) (by rw [List.append_nil]; exact hl)
    rw [List.append_nil] at z
    exact z
  · exact ⟨me, pr, t, xs, es, x3, rfl, k, l0, fun H' m' => q H' m'⟩
end
end K1

namespace K1
open PySem PySem.Spec
open PyProof.Rows L2 L2H EnT StX SmX TxS DuX XdI Tr3 CnB ClX
/-! ### right: its names, and its end -/
abbrev nmRt : List Str := ["_law_pool_here", "_law_fields", "_law_people", "_law_known", "_law_name", "_law_pairs_here", "_law_some", "_law_k", "_law_shapes", "_law_told", "_law_gotten", "_law_shape", "_law_made", "_law_members", "_law_field", "_law_among", "_law_told_here", "_law_first", "_law_second", "_law_unions", "_law_due", "_law_each"]
theorem scRt : FnScope nmRt ["_law_pool_here"] (defScope sRight) := ⟨rfl, rfl, rfl, by decide +kernel, rfl, by decide +kernel, by decide +kernel⟩
abbrev cxR (P : Program) (w : World) (K : PySem.W.Frag) (mg : Str → Option Value) (base : Heap) (f : Addr) (cdv : Value) (A : Around) (outer : List Env) (s : Shared) (H : Hp) : Cx := (cxOf CX0 P w K mg base nmRt "_law_right" (defScope sRight) f cdv A outer s H E0).nox
def rtRest (i : Nat) : List Stmt := (defBody sRight).drop i
/-- the shapes that were drawn -/
structure ShAt (H : Hp) (v : V) (t : Fm) (F : List Str) : Prop where
  m : FmAt H v t
  ok : t.Ok
  d : t.dep ≤ 5
  lv : ∀ z ∈ t.lvs, z ∈ F ++ [tGiven, tNone]
/-- what the right has drawn -/
structure RtC (CE C p Pt fs pe kn pr sm sh gt : Addr) (F N G : List Str) (rs : List Rw3) (xs : List V) (es : List (Str × Addr)) (vs : List V) (ts : List Fm) (H : Hp) : Prop where
  h_hp : PoolAt H p
  h_T : LamX.Tabs (TbO Pt) H
  h_fs : H fs = some (.lst (F.map V.str))
  h_fp : fs ≠ p
  h_pe : H pe = some (.lst (N.map V.str))
  h_pep : pe ≠ p
  h_lF : F.length = 4
  h_lN : N.length = 7
  h_tN : ∀ z ∈ N, nameB z = true
  h_kn : KnownAt H kn p rs N
  h_kF : rs.map (·.1) = F ++ [("more1" : Str)]
  h_nd : (rs.map (·.1)).Nodup
  h_tF : ∀ r ∈ rs, nameB r.1 = true ∧ fieldB r.1 = true
  h_pr : H pr = some (.tup xs)
  h_pa : PairsAt C H xs es
  h_el : es.length = xs.length
  h_pR : PairR C H es rs
  h_sm : H sm = some (.lst (G.map V.str))
  h_smp : sm ≠ p
  h_gN : ∀ z ∈ G, z ∈ N
  h_ndN : N.Nodup
  h_zF : ∀ z ∈ F, z ≠ ("zz9" : Str)
  h_sh : H sh = some (.lst vs)
  h_shp : sh ≠ p
  h_ss : Paired (fun v t => ShAt H v t F) vs ts
  h_s4 : ts.length = 4
  h_gt : MemL C H gt G
theorem Paired.imp {α β : Type} {F G : α → β → Prop} (h : ∀ a b, F a b → G a b) : ∀ {xs : List α} {ys : List β}, Paired F xs ys → Paired G xs ys
  | _, _, .nil => .nil
  | _, _, .cons r t => .cons (h _ _ r) (Paired.imp h t)
theorem PairR.keys {C : Addr} {H : Hp} : ∀ {es : List (Str × Addr)} {rs : List Rw3}, PairR C H es rs → es.map (·.1) = rs.map (·.1)
  | _, _, .nil => rfl
  | _, _, .cons r t => by
    rw [List.map_cons, List.map_cons, r.1, PairR.keys t]
theorem Mv.memL {C p m : Addr} {Tb : List (Addr × Str)} {H H' : Hp} {ns : List Str} (x : Mv p Tb H H') (hp : PoolAt H p) (h : MemL C H m ns) : MemL C H' m ns := by
  obtain ⟨ys, a, b⟩ := h
  exact ⟨ys, x.mem hp a, b⟩
theorem Mv.fm {p : Addr} {Tb : List (Addr × Str)} {H H' : Hp} {v : V} {t : Fm} (x : Mv p Tb H H') (hp : PoolAt H p) (h : FmAt H v t) : FmAt H' v t := h.keep (fun a xs e => x.tup hp e)
theorem Mv.lst' {p a : Addr} {Tb : List (Addr × Str)} {H H' : Hp} {xs : List V} (m : Mv p Tb H H') (n : a ≠ p) (h : H a = some (.lst xs)) : H' a = some (.lst xs) := m.rx.keep a _ n h (fun _ e => by cases e)
theorem RtC.mv {CE C p Pt fs pe kn pr sm sh gt : Addr} {F N G : List Str} {rs : List Rw3} {xs : List V} {es : List (Str × Addr)} {vs : List V} {ts : List Fm} {H H' : Hp} (k : RtC CE C p Pt fs pe kn pr sm sh gt F N G rs xs es vs ts H) (m : Mv p (TbO Pt) H H') : RtC CE C p Pt fs pe kn pr sm sh gt F N G rs xs es vs ts H' where
  h_hp := m.rx.pool
  h_T := m.tabs
  h_fs := m.lst' k.h_fp k.h_fs
  h_fp := k.h_fp
  h_pe := m.lst' k.h_pep k.h_pe
  h_pep := k.h_pep
  h_lF := k.h_lF
  h_lN := k.h_lN
  h_tN := k.h_tN
  h_kn := ⟨m.at k.h_hp k.h_kn.d (fun _ _ _ e => by cases e) (fun _ e => by cases e), fun r hr => ⟨m.lst' (k.h_kn.l r hr).2.2 (k.h_kn.l r hr).1, (k.h_kn.l r hr).2⟩⟩
  h_kF := k.h_kF
  h_nd := k.h_nd
  h_tF := k.h_tF
  h_pr := m.tup k.h_hp k.h_pr
  h_pa := m.pairs k.h_hp k.h_pa
  h_el := k.h_el
  h_pR := Paired.imp (fun a b h => ⟨h.1, m.memL k.h_hp h.2⟩) k.h_pR
  h_sm := m.lst' k.h_smp k.h_sm
  h_smp := k.h_smp
  h_gN := k.h_gN
  h_ndN := k.h_ndN
  h_zF := k.h_zF
  h_sh := m.lst' k.h_shp k.h_sh
  h_shp := k.h_shp
  h_ss := Paired.imp (fun a b h => ⟨m.fm k.h_hp h.m, h.ok, h.d, h.lv⟩) k.h_ss
  h_s4 := k.h_s4
  h_gt := m.memL k.h_hp k.h_gt
/-- what the right calls -/
structure Ri (P : Program) (w : World) (K : PySem.W.Frag) (mg : Str → Option Value) (base : Heap) (CE C Pt : Addr) : Prop where
  eq : ∃ g fd, OwnM K C "__eq__" g ∧ FnOk P w K mg base CX0 3 g fd ["self", "other"] (spEqM C) ∧ L2.Binds K fd ["self", "other"] []
  sE : PySem.W.selfFirst K CE = true
  orE : ∃ g, OwnM K CE sgO g ∧ FnR P w K mg base CX0 11 g (spOp CE "|")
  andE : ∃ g, OwnM K CE sgA g ∧ FnR P w K mg base CX0 11 g (spOp CE "&")
  subE : ∃ g, OwnM K CE sgS g ∧ FnR P w K mg base CX0 11 g (spOp CE "-")
  xorE : ∃ g, OwnM K CE sgX g ∧ FnR P w K mg base CX0 11 g (spOp CE "^")
  make : ∃ fI, Mk K CE fI ∧ FnR P w K mg base CX0 8 fI (spInitE CE)
  odd : ∃ f, mg "_law_odd_right" = some (.ref f) ∧ PySem.W.keepIn K (.ref f) = true ∧ FnG P w K mg base CX0 20 f (spOddR CE C Pt)
structure AtR10 (CE C p Pt : Addr) (σ : L2.St) (H : Hp) (En : Ends) : Prop where
  ex : ∃ (fs pe kn pr sm sh gt : Addr) (F N G : List Str) (rs : List Rw3) (xs : List V) (es : List (Str × Addr)) (vs : List V) (ts : List Fm) (x4 x7 x9 x11 x12 x13 x14 x15 x16 x17 x18 x19 x20 x21 : Option V),
    σ = [some (.ref p), some (.ref fs), some (.ref pe), some (.ref kn), x4, some (.ref pr), some (.ref sm), x7, some (.ref sh), x9, some (.ref gt), x11, x12, x13, x14, x15, x16, x17, x18, x19, x20, x21] ∧
    RtC CE C p Pt fs pe kn pr sm sh gt F N G rs xs es vs ts H ∧ Fin p (TbO Pt) H En
theorem makeE_at {C x dx : Addr} {H : Hp} {v : V} {t : Fm} {R : VK} {E : XK} (hm : FmAt H v t) (ok : t.Ok) (hd : t.dep ≤ 6) (nx : H x = none) (nd : H dx = none) (ne : dx ≠ x) (q : ∀ H', Same H H' → ExpAt C H' x t → R .non H') : spInitE C [.ref x, v] (upd (upd H dx (.own x)) x (.ins C dx [])) R E := by
  have s1 : Same H (upd H dx (.own x)) := same_upd nd
  have nx1 : (upd H dx (.own x)) x = none := by rw [upd_ne (Ne.symm ne)]; exact nx
  have s2 : Same (upd H dx (.own x)) (upd (upd H dx (.own x)) x (.ins C dx [])) := same_upd nx1
  refine ⟨x, dx, v, t, rfl, upd_same, hm.same (s1.trans s2), ok, hd, fun H' k e => q H' (fun b o hb => k b o (fun z => ?_) ((s1.trans s2) b o hb)) e⟩
  rw [z, nx] at hb
  cases hb
/-- a list that grows is no part of the move -/
theorem Mv.grow {p L : Addr} {Tb : List (Addr × Str)} {H H' : Hp} {xs : List V} {o : HO} (hp : PoolAt H p) (m : Mv p Tb H H') (n : H L = none) (h : H' L = some (.lst xs)) : Mv p Tb H (upd H' L o) := by
  have Lp : p ≠ L := fun e => by
    obtain ⟨x, y, z, hz⟩ := hp
    rw [e, n] at hz
    cases hz
  refine ⟨⟨?_, fun d q ne e nt => ?_⟩, tabs_upd h m.tabs⟩
  · obtain ⟨x, y, z, hz⟩ := m.rx.pool
    exact ⟨x, y, z, by rw [upd_ne Lp]; exact hz⟩
  · rw [upd_ne (fun z => by
      rw [z, n] at e
      cases e)]
    exact m.rx.keep d q ne e nt
section
variable {w : World} {P : Program} {base : Heap} {mg : Str → Option Value} {K : PySem.W.Frag} {CE C CN CM CS CU S1 S2 S3 : Addr} {mc : Value}
variable {f c Pt : Addr} {A : Around} {outer : List Env} {s : Shared} {H0 : Hp} {p : Addr}
theorem rt10 (W : Wo P w K mg base CE C CN CM CS CU S1 S2 S3 mc) (R : Ri P w K mg base CE C Pt) (hgd : A.guards = some []) (hr : Room 20 (A.deeper (envOfC "_law_right" (defScope sRight) s.heap.objs.size f (.ref c)))) :
    PSs (cxR P w K mg base f (.ref c) A outer s H0) (rtRest 10) (fun En σ H => AtR10 CE C p Pt σ H En) := by
  refine pss_of fun En σ H hyp => ?_
  obtain ⟨fs, pe, kn, pr, sm, sh, gt, F, N, G, rs, xs, es, vs, ts, x4, x7, x9, x11, x12, x13, x14, x15, x16, x17, x18, x19, x20, x21, eσ, k, fin⟩ := hyp.ex
  obtain ⟨fI, MK, FI⟩ := R.make
  obtain ⟨fo, mgo, kpo, GO⟩ := R.odd
  have T := W.b.T
  refine ⟨_, pss_one (ps_ret (pe_callB (cr_all rfl) (by rfl) T.all (by decide +kernel) (pa_cons (pe_lc (own := [("_law_shape", 11)]) (g := gName 11) (tt := tYes) rfl scRt.nd (pi_list (pv 8))
      (blkOk_by (own := [("_law_shape", 11)]) (N := nmRt) (sc := defScope sRight) (by decide +kernel)) (fun _ _ _ _ _ => pg_name (i := 11) scRt.nd rfl (Or.inl rfl)) (fun _ _ _ _ _ => pts_nil)
      (fun _ _ _ _ _ => pe_callG (x := "_law_odd_right") GO (by exact hgd) hr (by rfl) mgo kpo (pa_cons (pv 0) (pa_cons (pe_makeR MK FI (hr.mono (by decide)) (by rfl) W.M.g pass0 (pa_cons (pv 11) pa_nil)) (pa_cons (pv 5) (pa_cons (pv 1) pa_nil)))))) pa_nil))), ?_⟩
  subst eσ
  refine ⟨_, rfl, sh, rfl, ⟨_, SqL.of k.h_sh⟩, fun L nL => ?_⟩
  have sL : Same H (upd H L (.lst [])) := same_upd nL
  refine lc_it (walk_list (xs := vs)) (fun i H' => Mv p (TbO Pt) H H' ∧ H' L = some (.lst ((List.replicate i true).map V.bl))) ?_ ?_ ?_ ?_
  · exact ⟨.same sL k.h_hp k.h_T, upd_same⟩
  · rintro i H' _ ⟨x, _⟩
    exact SqL.of (x.lst' k.h_shp k.h_sh)
  · rintro i x H1 H2 hi ⟨m1, hL⟩ ⟨rfl, ey⟩
    obtain ⟨t, et, st⟩ := paired_gl k.h_ss ey
    have it : i < 4 := by
      have := (List.getElem?_eq_some_iff.mp et).1
      have := k.h_s4
      omega
    refine ⟨rfl, ?_⟩
    unfold tYes
    show (if true = true then _ else _)
    rw [if_pos rfl]
    have k1 := k.mv m1
    refine ⟨_, rfl, _, rfl, fun e dx ne nd nx => makeE_at (m1.fm k.h_hp st.m) st.ok (Nat.le_trans st.d (by decide)) ne nd nx fun H3 s3 e3 => ⟨rfl, ?_⟩⟩
    have m3 : Mv p (TbO Pt) H2 H3 := .same s3 k1.h_hp k1.h_T
    have k3 := k1.mv m3
    have ek := k.h_pR.keys
    have e5 : es.length = 5 := by
      have z := congrArg List.length ek
      rw [k.h_kF, List.length_map, List.length_append, k.h_lF] at z
      exact z
    refine ⟨_, rfl, _, rfl, p, e, pr, t, xs, es, _, rfl, ⟨k3.h_hp, k3.h_T, e3, k3.h_pr, k3.h_pa, k3.h_el, ?_, ?_, .int, (fun z => by cases z), fun z hz fz => ?_⟩, ?_, fun H4 m4 => ?_⟩
    · rw [← k3.h_el, e5]
      decide
    · rw [ek]
      exact k.h_nd
    · rw [ek, k.h_kF]
      rcases List.mem_append.mp (st.lv z hz) with h | h
      · exact List.mem_append.mpr (.inl h)
      · exfalso
        rcases List.mem_cons.mp h with h | h
        · rw [h] at fz
          exact absurd fz (by decide +kernel)
        · rw [List.mem_singleton.mp h] at fz
          exact absurd fz (by decide +kernel)
    · rw [← k3.h_el, e5]
      decide
    · have h4 := (m3.trans m4).lst' (k.h_hp.ne nL) hL
      refine ⟨_, h4, by rw [List.length_map, List.length_replicate, sizeLine_eq]; omega, ((m1.trans m3).trans m4).grow k.h_hp nL h4, ?_⟩
      rw [upd_same, List.replicate_succ', List.map_append]
      rfl
  · rintro H2 ⟨x, hL⟩
    refine ⟨L, _, rfl, SqL.of hL, ?_⟩
    have e3 : (List.replicate vs.length true).all id = true := by
      rw [List.all_eq_true]
      intro b hb
      rw [List.eq_of_mem_replicate hb]
      rfl
    rw [e3]
    exact fin H2 x
end
end K1

/-! ### lists of own objects that are all equal: `!=` tells False -/
namespace NeW
open PySem PySem.SeqAt GQ
open AutoSeq1 (wpAny_loadPart')
open MeetsSeq MeetsSeq2 MeetsSeq3 SeqRoads2
section
variable {prog : Program} {w : World} {A : Around} {R : Result → Shared → Prop} {l b : Addr} {N : Nat} {I : Nat → Shared → Prop}
/-- from the i-th on, k more -/
theorem walk (hl : ListI prog w A (fun e s' => R (.error e) s') l b N I) (fin : ∀ s, I N s → R (.ok (.ret (.bool false))) s) :
    ∀ (k i : Nat), i + k = N → ∀ s, I i s → wpAny (model prog w) A.in1 (Builtin.«list.__eq__.loop» ⟨[.ref l, .ref b, rawInt i, rawInt 3], []⟩) (FinOf prog w A R) (fun e s' => R (.error e) s') s
  | 0, i, hk, s, h => by
    obtain rfl : i = N := by omega
    obtain ⟨xs, ys, n, m, g1, g2, z1, z2, _⟩ := hl _ _ h
    have done := fin s h
    have o1 : xs[((i : Nat) : Int).toNat]? = none := Array.getElem?_eq_none (by simp; omega)
    have o2 : ys[((i : Nat) : Int).toNat]? = none := Array.getElem?_eq_none (by simp; omega)
    obtain ⟨hp, g, d, tk, os⟩ := s
    wp_walk using wpAny_loadPart' g1, wpAny_loadPart' g2
    rw [o1, o2]
    wp_walk using wpAny_loadPart' g1, wpAny_loadPart' g2
    show R (.ok (.ret (.bool (xs.size != ys.size)))) _
    have e : (xs.size != ys.size) = false := by rw [z1, z2]; exact bne_self_eq_false _
    rw [e]
    exact done
  | k + 1, i, hk, s, h => by
    obtain ⟨xs, ys, n, m, g1, g2, z1, z2, turn⟩ := hl _ _ h
    have l1 : i < xs.size := by omega
    have l2 : i < ys.size := by omega
    have step := turn l1 l2
    have o1 : xs[((i : Nat) : Int).toNat]? = some xs[i] := by simp [l1]
    have o2 : ys[((i : Nat) : Int).toNat]? = some ys[i] := by simp [l2]
    have ec : ((i : Int) + 1) = ((i + 1 : Nat) : Int) := by omega
    obtain ⟨hp, g, d, tk, os⟩ := s
    wp_walk using wpAny_loadPart' g1, wpAny_loadPart' g2
    rw [o1, o2]
    refine wpAny_bind (wpAny_mono step (fun r s2 h2 => ?_) fun _ _ x => x)
    obtain ⟨rfl, h2⟩ := h2
    have go := walk hl fin k (i + 1) (by omega) s2 h2
    obtain ⟨hp2, g2, d2, tk2, os2⟩ := s2
    wp_walk
    rw [ec]
    refine ⟨plainId_quiet plain_eq_loop _, codeAny_builtin entry_eq_loop ?_⟩
    rw [Around.under_plainId plain_eq_loop _]
    exact go
theorem whole (hl : ListI prog w A (fun e s' => R (.error e) s') l b N I) (fin : ∀ s, I N s → R (.ok (.ret (.bool false))) s) {s : Shared} (h : I 0 s) :
    wpAny (model prog w) A.in1 (Builtin.«list.__ne__» ⟨[.ref l, .ref b], []⟩) (FinOf prog w A R) (fun e s' => R (.error e) s') s := by
  obtain ⟨xs, ys, n, m, g1, g2, z1, z2, _⟩ := hl _ _ h
  have go := walk hl fin N 0 (by omega) s h
  have sub := AutoSeq1.sub_list_list
  have lens : ¬ (xs.size != ys.size) = true := by simp [z1, z2]
  obtain ⟨hp, g, d, tk, os⟩ := s
  wp_walk using wpAny_loadPart' g1, wpAny_loadPart' g2
  refine ⟨plainId_quiet plain_eq_loop _, codeAny_builtin entry_eq_loop ?_⟩
  rw [Around.under_plainId plain_eq_loop _]
  exact go
end
section
variable {prog : Program} {w : World} {A : Around} {E : Value → Shared → Prop} {s : Shared}
theorem rc {l b : Addr} {N : Nat} {Q : Value → Shared → Prop} (hu : A.units < cLine) (I : Nat → Shared → Prop) (hl : ListI prog w A E l b N I) (fin : ∀ s, I N s → Q (.bool false) s) (h : I 0 s) :
    wpAny (model prog w) A (richCompare .NotEq (.ref l) (.ref b)) Q E s := by
  obtain ⟨xs, ys, n, m, g1, g2, _⟩ := hl _ _ h
  refine wpAny_richCompare_same_room (op := .NotEq) ⟨_, g1, rfl⟩ ⟨_, g2, rfl⟩ F.slot_list_ne (call_here F.slot_list_ne ⟨_, g1, rfl⟩ F.entry_list_ne (F.args_list_ne_2 _ _) ?_) hu
  exact whole (R := wants (fun v s' => v ≠ .notImplemented ∧ Q v s') E) hl (fun s' q => ⟨(fun x => nomatch x), fin s' q⟩) h
end
end NeW
namespace K1
open PySem PySem.Spec
open PyProof.Rows L2
def rNeG (D : Eqv) : R2 := fun x y H Q => DList D x y H ∧ ∀ H', L2.Ext H H' → Q (.bl false) H'
theorem op_neG {X : Cx} {n : Nat} {D : Eqv} (hD : Mon D) (h : EqG X n D) (hr : Room (n + 1) X.A) : OpR X (compareOp .NotEq) (rNeG D) := by
  intro pins s σ H x y u v Q I rx ry z
  obtain ⟨⟨a, b, xs, ys, rfl, rfl, ha, hb, p⟩, q⟩ := z
  cases rx
  cases ry
  have sb : L2.Sub X (n + 1) X.A := ⟨hr, rfl⟩
  show wpAny (model X.prog X.w) X.A (richCompare .NotEq (.ref a) (.ref b)) _ X.xe s
  refine NeW.rc (N := xs.length) hr.units0 (fun _ s' => LoopI X pins σ H s') (fun i s' l => ?_) (fun s' l => ?_) ⟨H, I, Ext.rfl'⟩
  · obtain ⟨H1, I1, e1⟩ := id l
    obtain ⟨z, its, k, r, e⟩ := I1.hok a _ (e1 _ _ ha)
    obtain ⟨z2, its2, k2, r2, e2⟩ := I1.hok b _ (e1 _ _ hb)
    exact ⟨its.toArray, its2.toArray, k, k2, e, e2, by rw [List.size_toArray, ← r.length], by rw [List.size_toArray, ← r2.length, ← p.1], fun h1 h2 => turnG hD h sb p r r2 i h1 h2 s' l⟩
  · obtain ⟨H1, I1, e1⟩ := l
    exact ⟨.bl false, H1, I1, rfl, q H1 e1⟩
end K1

namespace K1
open PySem PySem.Spec
open PyProof.Rows L2 L2H EnT StX SmX TxS DuX XdI Tr3 CnB ClX
/-! ### what `of` tells of drawn pairs -/
def fgR (rs : List Rw3) (z x : Str) : Bool := decide (z ∈ amF rs x)
theorem amF_mem {rs : List Rw3} {z x : Str} : z ∈ amF rs x ↔ ∃ r ∈ rs, r.1 = z ∧ x ∈ r.2.2 := by
  unfold amF
  rw [List.mem_map]
  constructor
  · rintro ⟨r, h, e⟩
    obtain ⟨a, b⟩ := List.mem_filter.mp h
    exact ⟨r, a, e, of_decide_eq_true b⟩
  · rintro ⟨r, h, e, g⟩
    exact ⟨r, List.mem_filter.mpr ⟨h, decide_eq_true g⟩, e⟩
theorem key_one {rs : List Rw3} (nd : (rs.map (·.1)).Nodup) : ∀ {i : Nat} {r q : Rw3}, rs[i]? = some r → q ∈ rs → q.1 = r.1 → q = r := by
  induction rs with
  | nil => intro i r q h; cases h
  | cons a l ih =>
    have nd := List.nodup_cons.mp nd
    intro i r q h hq e
    cases i with
    | zero =>
      cases Option.some.inj h
      rcases List.mem_cons.mp hq with z | z
      · exact z
      · exact absurd (show a.1 ∈ l.map (·.1) by rw [← e]; exact List.mem_map.mpr ⟨q, z, rfl⟩) nd.1
    | succ i =>
      have h : l[i]? = some r := h
      rcases List.mem_cons.mp hq with z | z
      · exact absurd (show a.1 ∈ l.map (·.1) by rw [← z, e]; exact List.mem_map.mpr ⟨r, List.mem_of_getElem? h, rfl⟩) nd.1
      · exact ih nd.2 h z e
theorem amF_at {rs : List Rw3} (nd : (rs.map (·.1)).Nodup) {i : Nat} {r : Rw3} (h : rs[i]? = some r) (x : Str) : r.1 ∈ amF rs x ↔ x ∈ r.2.2 := by
  rw [amF_mem]
  constructor
  · rintro ⟨q, hq, e, g⟩
    rw [key_one nd h hq e] at g
    exact g
  · exact fun g => ⟨r, List.mem_of_getElem? h, rfl, g⟩
theorem wants_of {rs : List Rw3} {G : List Str} (hf : ∀ r ∈ rs, nameB r.1 = true ∧ fieldB r.1 = true) (t : Fm) (x : Str) : (t.val fun z => lkG (fun x => decide (x ∈ G)) (fgR rs) z x) = wants rs G t x := by
  unfold wants
  congr 1
  funext z
  unfold lkG inF fgR
  by_cases e : z = tNone
  · rw [if_pos e, e, if_neg (by decide +kernel)]
    refine (decide_eq_false fun h => ?_).symm
    obtain ⟨r, hr, e2, _⟩ := amF_mem.mp h
    exact (fld_ne (hf r hr).2).1 e2
  · rw [if_neg e]
section
variable {K : PySem.W.Frag} {CE C CS CM CU p Pt fs pe kn pr sm sh gt e : Addr} {F N G : List Str} {rs : List Rw3} {xs : List V} {es : List (Str × Addr)} {vs : List V} {ts : List Fm} {t : Fm} {H : Hp} {Q : VK} {E : XK}
theorem RtC.e5 (k : RtC CE C p Pt fs pe kn pr sm sh gt F N G rs xs es vs ts H) : es.length = 5 := by
  have z := congrArg List.length k.h_pR.keys
  rw [k.h_kF, List.length_map, List.length_append, k.h_lF] at z
  exact z
theorem RtC.cov (k : RtC CE C p Pt fs pe kn pr sm sh gt F N G rs xs es vs ts H) (lv : ∀ z ∈ t.lvs, z ∈ F ++ [tGiven, tNone]) : ∀ z ∈ t.lvs, fieldB z = true → z ∈ es.map (·.1) := fun z hz fz => by
  rw [k.h_pR.keys, k.h_kF]
  rcases List.mem_append.mp (lv z hz) with h | h
  · exact List.mem_append.mpr (.inl h)
  · exfalso
    rcases List.mem_cons.mp h with h | h
    · rw [h] at fz
      exact absurd fz (by decide +kernel)
    · rw [List.mem_singleton.mp h] at fz
      exact absurd fz (by decide +kernel)
theorem RtC.tab (k : RtC CE C p Pt fs pe kn pr sm sh gt F N G rs xs es vs ts H) : ∀ z m, (z, m) ∈ es → MemV C H m N (fgR rs z) := fun z m h => by
  obtain ⟨i, hi⟩ := List.mem_iff_getElem?.mp h
  obtain ⟨r, hr, e1, ys, M, e2⟩ := paired_gl k.h_pR hi
  have e1 : z = r.1 := e1
  subst e1
  refine ⟨ys, M, fun x => ?_, fun x hx => ((k.h_kn.l r (List.mem_of_getElem? hr)).2.1).subset ((e2 x).mp hx)⟩
  rw [e2 x, ← amF_at k.h_nd hr x]
  exact ⟨fun h => decide_eq_true h, fun h => of_decide_eq_true h⟩
theorem RtC.ne (k : RtC CE C p Pt fs pe kn pr sm sh gt F N G rs xs es vs ts H) : es ≠ [] := fun z => by
  have := k.e5
  rw [z] at this
  cases this
/-- with those given -/
theorem of_gG (k : RtC CE C p Pt fs pe kn pr sm sh gt F N G rs xs es vs ts H) (he : ExpAt CE H e t) (lv : ∀ z ∈ t.lvs, z ∈ F ++ [tGiven, tNone]) (q : GivesV C H N (wants rs G t) Q) : spOf K CE C CS CM CU [.ref e, .ref pr, .ref gt] H Q E := by
  obtain ⟨ys, M, ey⟩ := k.h_gt
  have lN := k.h_lN
  refine ⟨e, _, _, t, es, some true, rfl, he, .mem M, .inr ⟨pr, xs, rfl, k.h_pr, k.h_pa, by rw [k.h_pR.keys]; exact k.h_nd, by have := k.e5; have := k.h_el; omega, .inl ⟨k.h_el, .inr (.inr ⟨(by intro h; cases h), k.cov lv, k.ne, N, fun x => decide (x ∈ G), fgR rs, by omega, k.tab, fun _ => ⟨gt, rfl, ys, M, fun x => ?_, fun x hx => k.h_gN x ((ey x).mp hx)⟩, (fun h => by cases h), ?_⟩)⟩⟩⟩
  · rw [ey x]
    exact ⟨fun h => decide_eq_true h, fun h => of_decide_eq_true h⟩
  · have ef : (fun x => t.val fun z => lkG (fun x => decide (x ∈ G)) (fgR rs) z x) = wants rs G t := funext fun x => wants_of k.h_tF t x
    rw [ef]
    exact q
/-- with none given -/
theorem of_gN (k : RtC CE C p Pt fs pe kn pr sm sh gt F N G rs xs es vs ts H) (he : ExpAt CE H e t) (lv : ∀ z ∈ t.lvs, z ∈ F ++ [tGiven, tNone]) (q : GivesV C H N (wants rs [] t) Q) : spOf K CE C CS CM CU [.ref e, .ref pr, .non] H Q E := by
  have lN := k.h_lN
  refine ⟨e, _, _, t, es, none, rfl, he, .non, .inr ⟨pr, xs, rfl, k.h_pr, k.h_pa, by rw [k.h_pR.keys]; exact k.h_nd, by have := k.e5; have := k.h_el; omega, .inl ⟨k.h_el, .inr (.inr ⟨(by intro h; cases h), k.cov lv, k.ne, N, fun x => decide (x ∈ ([] : List Str)), fgR rs, by omega, k.tab, (fun h => by cases h), fun _ => (funext fun x => decide_eq_false (fun h => by cases h)), ?_⟩)⟩⟩⟩
  have ef : (fun x => t.val fun z => lkG (fun x => decide (x ∈ ([] : List Str))) (fgR rs) z x) = wants rs [] t := funext fun x => wants_of k.h_tF t x
  rw [ef]
  exact q
theorem memv_din {a b : Addr} {U U' : List Str} {f : Str → Bool} (h1 : MemV C H a U f) (h2 : MemV C H b U' f) : DIns C (SameMem C) (.ref a) (.ref b) H := by
  obtain ⟨ys, m1, e1, _⟩ := h1.ex
  obtain ⟨zs, m2, e2, _⟩ := h2.ex
  exact din m1 m2 (sorted_uniq m1.srt m2.srt m1.nd m2.nd fun x => by rw [e1 x, e2 x])
end
end K1

namespace K1
open PySem PySem.Spec
open PyProof.Rows L2 L2H EnT StX SmX TxS DuX XdI Tr3 CnB ClX
/-! ### right: the unions -/
theorem Mv.memV {C p m : Addr} {Tb : List (Addr × Str)} {H H' : Hp} {U : List Str} {f : Str → Bool} (x : Mv p Tb H H') (hp : PoolAt H p) (h : MemV C H m U f) : MemV C H' m U f := by
  obtain ⟨ys, a, b⟩ := h.ex
  exact ⟨ys, x.mem hp a, b⟩
theorem MemV.set {C m t : Addr} {H : Hp} {U : List Str} {f : Str → Bool} {xs : List V} {o : HO} (h : H t = some (.lst xs)) (g : MemV C H m U f) : MemV C (upd H t o) m U f := by
  obtain ⟨ys, a, b⟩ := g.ex
  exact ⟨ys, a.set h, b⟩
structure AtR9 (CE C p Pt : Addr) (σ : L2.St) (H : Hp) (En : Ends) : Prop where
  ex : ∃ (fs pe kn pr sm sh gt un du : Addr) (F N G : List Str) (rs : List Rw3) (xs : List V) (es : List (Str × Addr)) (vs : List V) (ts ts2 : List Fm) (us ms : List Addr) (x4 x7 x9 x11 x12 x13 x14 x15 x16 x17 x18 x21 : Option V),
    σ = [some (.ref p), some (.ref fs), some (.ref pe), some (.ref kn), x4, some (.ref pr), some (.ref sm), x7, some (.ref sh), x9, some (.ref gt), x11, x12, x13, x14, x15, x16, x17, x18, some (.ref un), some (.ref du), x21] ∧
    RtC CE C p Pt fs pe kn pr sm sh gt F N G rs xs es vs ts H ∧ H un = some (.lst (us.map V.ref)) ∧ un ≠ p ∧ H du = some (.lst (ms.map V.ref)) ∧ du ≠ p ∧ Paired (fun u t => ExpAt CE H u t ∧ ∀ z ∈ t.lvs, z ∈ F ++ [tGiven, tNone]) us ts2 ∧ Paired (fun m t => MemV C H m N (wants rs G t)) ms ts2 ∧ ts2.length = 4 ∧ Fin p (TbO Pt) H En
theorem Paired.snoc' {α β : Type} {F : α → β → Prop} : ∀ {xs : List α} {ys : List β} {x : α} {y : β}, Paired F xs ys → F x y → Paired F (xs ++ [x]) (ys ++ [y])
  | _, _, _, _, .nil, h => .cons h .nil
  | _, _, _, _, .cons a b, h => .cons a (Paired.snoc' b h)
theorem Paired.len {α β : Type} {F : α → β → Prop} : ∀ {xs : List α} {ys : List β}, Paired F xs ys → xs.length = ys.length
  | _, _, .nil => rfl
  | _, _, .cons a b => by rw [List.length_cons, List.length_cons, Paired.len b]
section
variable {w : World} {P : Program} {base : Heap} {mg : Str → Option Value} {K : PySem.W.Frag} {CE C CN CM CS CU S1 S2 S3 : Addr} {mc : Value}
variable {f c Pt : Addr} {A : Around} {outer : List Env} {s : Shared} {H0 : Hp} {p : Addr}
theorem rt9 (W : Wo P w K mg base CE C CN CM CS CU S1 S2 S3 mc) (R : Ri P w K mg base CE C Pt) (hgd : A.guards = some []) (hr : Room 20 (A.deeper (envOfC "_law_right" (defScope sRight) s.heap.objs.size f (.ref c)))) :
    PSs (cxR P w K mg base f (.ref c) A outer s H0) (rtRest 9) (fun En σ H => AtR9 CE C p Pt σ H En) := by
  refine pss_of fun En σ H hyp => ?_
  obtain ⟨fs, pe, kn, pr, sm, sh, gt, un, du, F, N, G, rs, xs, es, vs, ts, ts2, us, ms, x4, x7, x9, x11, x12, x13, x14, x15, x16, x17, x18, x21, eσ, k, hun, unp, hdu, dup, U, M, l4, fin⟩ := hyp.ex
  obtain ⟨g, fd, mE, FE, bE⟩ := R.eq
  obtain ⟨gO, fO, hm, FD, FO⟩ := W.of
  obtain ⟨mv, kb⟩ := kb_of2 FD
  refine ⟨_, pss_cons (ps_if (pt_cmpR (op_neG (mon_ins (sameMem_mon C)) (eqG_ins (eq_same FE) mE.at_ mE.fn bE pass0) (hr.mono (by decide)))
      (pe_lc (own := [("_law_each", 21)]) (g := gName 21) (tt := tYes) rfl scRt.nd (pi_list (pv 19))
        (blkOk_by (own := [("_law_each", 21)]) (N := nmRt) (sc := defScope sRight) (by decide +kernel)) (fun _ _ _ _ _ => pg_name (i := 21) scRt.nd rfl (Or.inl rfl)) (fun _ _ _ _ _ => pts_nil)
        (fun _ _ _ _ _ => pe_methK (ks := ["given"]) (pv 21) W.M.cl hm FO (hr.mono (by decide)) kb passL (pa_cons (pv 5) pa_nil) (pk_cons (pv 10) pk_nil)))
      (pv 20) (nomark _)) (pss_one (ps_ret pe_bl)) pss_nil)
    (rt10 (p := p) (Pt := Pt) W R hgd hr), ?_⟩
  subst eσ
  refine ⟨_, rfl, un, rfl, ⟨_, SqL.of hun⟩, fun D nD => ?_⟩
  have sD : Same H (upd H D (.lst [])) := same_upd nD
  refine lc_it (walk_list (xs := us.map V.ref)) (fun i H' => Mv p (TbO Pt) H H' ∧ ∃ qs : List Addr, H' D = some (.lst (qs.map V.ref)) ∧ Paired (fun m t => MemV C H' m N (wants rs G t)) qs (ts2.take i)) ?_ ?_ ?_ ?_
  · exact ⟨.same sD k.h_hp k.h_T, [], upd_same, .nil⟩
  · rintro i H' _ ⟨x, _⟩
    exact SqL.of (x.lst' unp hun)
  · rintro i x H1 H2 hi ⟨m1, qs, hD, hq⟩ ⟨rfl, ey⟩
    obtain ⟨u, eu, rfl⟩ : ∃ u, us[i]? = some u ∧ x = V.ref u := by
      rw [List.getElem?_map] at ey
      cases e : us[i]? with
      | none => rw [e] at ey; cases ey
      | some z => rw [e] at ey; exact ⟨z, rfl, (Option.some.inj ey).symm⟩
    obtain ⟨t, et, ue, ul⟩ := paired_gl U eu
    have it : i < 4 := by
      have := (List.getElem?_eq_some_iff.mp et).1
      omega
    refine ⟨rfl, ?_⟩
    unfold tYes
    show (if true = true then _ else _)
    rw [if_pos rfl]
    have k1 := k.mv m1
    have u1 := m1.exp k.h_hp ue
    obtain ⟨dx, v, fl, ys, h1, _⟩ := u1.at_
    refine ⟨_, rfl, u, dx, _, rfl, h1, rfl, _, rfl, _, rfl, rfl, rfl, of_gG k1 u1 ul fun q H3 s3 mq => ?_⟩
    have h3 := s3 _ _ hD
    have m3 : Mv p (TbO Pt) H2 H3 := .same s3 k1.h_hp k1.h_T
    have lq := Paired.len hq
    rw [List.length_take] at lq
    refine ⟨_, h3, by rw [List.length_map, sizeLine_eq]; omega, (m1.trans m3).grow k.h_hp nD h3, qs ++ [q], (by rw [upd_same, List.map_append]; rfl), ?_⟩
    rw [List.take_add_one, et]
    exact Paired.snoc' (Paired.imp (fun a b h => (m3.memV k1.h_hp h).set h3) hq) (mq.set h3)
  · rintro H2 ⟨m2, qs, hD, hq⟩
    have k2 := k.mv m2
    have hd2 := m2.lst' dup hdu
    have eq4 : (ts2.take (us.map V.ref).length) = ts2 := by
      rw [List.length_map, Paired.len U, List.take_length]
    rw [eq4] at hq
    refine ⟨_, rfl, ⟨D, du, _, _, rfl, rfl, hD, hd2, (by rw [List.length_map, List.length_map, Paired.len hq, Paired.len M]), fun i x y hx hy => ?_⟩, fun H3 e3 => ?_⟩
    · rw [List.getElem?_map] at hx hy
      cases e1 : qs[i]? with
      | none => rw [e1] at hx; cases hx
      | some a =>
        rw [e1] at hx
        cases Option.some.inj hx
        obtain ⟨t, et, ma⟩ := paired_gl hq e1
        obtain ⟨b, eb, mb⟩ := paired_gr M et
        rw [eb] at hy
        cases Option.some.inj hy
        exact memv_din ma (m2.memV k.h_hp mb)
    · have m3 : Mv p (TbO Pt) H2 H3 := .same e3 k2.h_hp k2.h_T
      refine ⟨_, rfl, iteF ?_⟩
      exact ⟨fs, pe, kn, pr, sm, sh, gt, F, N, G, rs, xs, es, vs, ts, _, _, _, _, _, _, _, _, _, _, _, _, _, _, rfl, k2.mv m3, fin.mv (m2.trans m3)⟩
end
end K1

namespace K1
open PySem PySem.Spec
open PyProof.Rows L2 L2H EnT StX SmX TxS DuX XdI Tr3 CnB ClX
/-! ### right: what is due of the unions -/
theorem wants_node {rs : List Rw3} {G : List Str} {z : Str} {t u : Fm} {x : Str} : wants rs G (.node z t u) x = sgn z (wants rs G t x) (wants rs G u x) := rfl
section
variable {C a b : Addr} {H : Hp} {U G : List Str} {rs : List Rw3} {t u : Fm} {Q : VK} {E : XK}
theorem due_or (m1 : MemV C H a U (wants rs G t)) (m2 : MemV C H b U (wants rs G u)) (hU : U.length ≤ 400) (q : GivesV C H U (wants rs G (.node "|" t u)) Q) : rBinO C (spBinM C rOr) E (.ref a) (.ref b) H Q := by
  refine binV_go m1 m2 hU (fun x => ?_) (fun x h => ?_) q
  · rw [wants_node, sgn_o]
    simp
  · rw [wants_node, sgn_o] at h
    simpa using h
theorem due_and (m1 : MemV C H a U (wants rs G t)) (m2 : MemV C H b U (wants rs G u)) (hU : U.length ≤ 400) (q : GivesV C H U (wants rs G (.node "&" t u)) Q) : rBinO C (spBinM C rAnd) E (.ref a) (.ref b) H Q := by
  refine binV_go m1 m2 hU (fun x => ?_) (fun x h => ?_) q
  · rw [wants_node, sgn_a]
    simp
  · rw [wants_node, sgn_a] at h
    simp at h
    exact .inl h.1
theorem due_sub (m1 : MemV C H a U (wants rs G t)) (m2 : MemV C H b U (wants rs G u)) (hU : U.length ≤ 400) (q : GivesV C H U (wants rs G (.node "-" t u)) Q) : rBinO C (spBinM C rSub) E (.ref a) (.ref b) H Q := by
  refine binV_go m1 m2 hU (fun x => ?_) (fun x h => ?_) q
  · rw [wants_node, sgn_s]
    show (_ ∧ ¬ _) ↔ _
    cases wants rs G t x <;> cases wants rs G u x <;> simp
  · rw [wants_node, sgn_s] at h
    simp at h
    exact .inl h.1
theorem due_xor (m1 : MemV C H a U (wants rs G t)) (m2 : MemV C H b U (wants rs G u)) (hU : U.length ≤ 400) (q : GivesV C H U (wants rs G (.node "^" t u)) Q) : rBinO C (spBinM C rXor) E (.ref a) (.ref b) H Q := by
  refine binV_go m1 m2 hU (fun x => ?_) (fun x h => ?_) q
  · rw [wants_node, sgn_x]
    show ((_ ∧ ¬ _) ∨ (_ ∧ ¬ _)) ↔ _
    cases wants rs G t x <;> cases wants rs G u x <;> simp
  · rw [wants_node, sgn_x] at h
    revert h
    cases wants rs G t x <;> cases wants rs G u x <;> simp
end
def uns (t u : Fm) : List Fm := [.node "|" t u, .node "&" t u, .node "-" t u, .node "^" t u]
structure AtR8 (CE C p Pt : Addr) (σ : L2.St) (H : Hp) (En : Ends) : Prop where
  ex : ∃ (fs pe kn pr sm sh gt un tl : Addr) (F N G : List Str) (rs : List Rw3) (xs : List V) (es : List (Str × Addr)) (vs : List V) (ts : List Fm) (t0 t1 : Fm) (us ms : List Addr) (x4 x7 x11 x12 x13 x14 x15 x16 x17 x18 x20 x21 : Option V),
    σ = [some (.ref p), some (.ref fs), some (.ref pe), some (.ref kn), x4, some (.ref pr), some (.ref sm), x7, some (.ref sh), some (.ref tl), some (.ref gt), x11, x12, x13, x14, x15, x16, x17, x18, some (.ref un), x20, x21] ∧
    RtC CE C p Pt fs pe kn pr sm sh gt F N G rs xs es vs ts H ∧ H un = some (.lst (us.map V.ref)) ∧ un ≠ p ∧ H tl = some (.lst (ms.map V.ref)) ∧ tl ≠ p ∧ ts[0]? = some t0 ∧ ts[1]? = some t1 ∧ Paired (fun u t => ExpAt CE H u t ∧ ∀ z ∈ t.lvs, z ∈ F ++ [tGiven, tNone]) us (uns t0 t1) ∧ Paired (fun m t => MemV C H m N (wants rs G t)) ms ts ∧ Fin p (TbO Pt) H En
theorem RtC.same {CE C p Pt fs pe kn pr sm sh gt : Addr} {F N G : List Str} {rs : List Rw3} {xs : List V} {es : List (Str × Addr)} {vs : List V} {ts : List Fm} {H H' : Hp} (k : RtC CE C p Pt fs pe kn pr sm sh gt F N G rs xs es vs ts H) (s : Same H H') : RtC CE C p Pt fs pe kn pr sm sh gt F N G rs xs es vs ts H' := k.mv (.same s k.h_hp k.h_T)
section
variable {w : World} {P : Program} {base : Heap} {mg : Str → Option Value} {K : PySem.W.Frag} {CE C CN CM CS CU S1 S2 S3 : Addr} {mc : Value}
variable {f c Pt : Addr} {A : Around} {outer : List Env} {s : Shared} {H0 : Hp} {p : Addr}
theorem rt8 (W : Wo P w K mg base CE C CN CM CS CU S1 S2 S3 mc) (B : Mo P w K mg base C CN CM mc) (R : Ri P w K mg base CE C Pt) (hgd : A.guards = some []) (hr : Room 20 (A.deeper (envOfC "_law_right" (defScope sRight) s.heap.objs.size f (.ref c)))) :
    PSs (cxR P w K mg base f (.ref c) A outer s H0) (rtRest 8) (fun En σ H => AtR8 CE C p Pt σ H En) := by
  refine pss_of fun En σ H hyp => ?_
  obtain ⟨fs, pe, kn, pr, sm, sh, gt, un, tl, F, N, G, rs, xs, es, vs, ts, t0, t1, us, ms, x4, x7, x11, x12, x13, x14, x15, x16, x17, x18, x20, x21, eσ, k, hun, unp, htl, tlp, e0, e1, U, M, fin⟩ := hyp.ex
  have sf := W.b.sf
  obtain ⟨gO, mO, FO⟩ := B.or
  obtain ⟨gA, mA, FA⟩ := B.and
  obtain ⟨gS, mS, FS⟩ := B.sub
  obtain ⟨gX, mX, FX⟩ := B.xor
  refine ⟨_, pss_cons (ps_set (i := 20) scRt.nd rfl (.inl rfl) (pe_lst
      (pa_cons (pe_op (op_binO mO sf FO (hr.mono (by decide)) passL) (pe_ix ix_list (pv 9) pe_int (fun _ _ => rfl)) (pe_ix ix_list (pv 9) pe_int (fun _ _ => rfl)))
      (pa_cons (pe_op (op_binO mA sf FA (hr.mono (by decide)) passL) (pe_ix ix_list (pv 9) pe_int (fun _ _ => rfl)) (pe_ix ix_list (pv 9) pe_int (fun _ _ => rfl)))
      (pa_cons (pe_op (op_binO mS sf FS (hr.mono (by decide)) passL) (pe_ix ix_list (pv 9) pe_int (fun _ _ => rfl)) (pe_ix ix_list (pv 9) pe_int (fun _ _ => rfl)))
      (pa_cons (pe_op (op_binO mX sf FX (hr.mono (by decide)) passL) (pe_ix ix_list (pv 9) pe_int (fun _ _ => rfl)) (pe_ix ix_list (pv 9) pe_int (fun _ _ => rfl))) pa_nil))))))
    (rt9 (p := p) (Pt := Pt) W R hgd hr), ?_⟩
  subst eσ
  obtain ⟨a0, f0, M0⟩ := paired_gr M e0
  obtain ⟨a1, f1, M1⟩ := paired_gr M e1
  have g0 : (ms.map V.ref)[0]? = some (.ref a0) := by rw [List.getElem?_map, f0]; rfl
  have g1 : (ms.map V.ref)[1]? = some (.ref a1) := by rw [List.getElem?_map, f1]; rfl
  have hU : N.length ≤ 400 := by have := k.h_lN; omega
  refine ⟨_, rfl, tl, _, _, .ref a0, rfl, rfl, SqL.of htl, atI_nat (j := 0) g0, ?_⟩
  refine ⟨_, rfl, tl, _, _, .ref a1, rfl, rfl, SqL.of htl, atI_nat (j := 1) g1, ?_⟩
  refine due_or M0 M1 hU fun q1 H1 s1 D1 => ?_
  have h1 := s1 _ _ htl
  refine ⟨_, rfl, tl, _, _, .ref a0, rfl, rfl, SqL.of h1, atI_nat (j := 0) g0, ?_⟩
  refine ⟨_, rfl, tl, _, _, .ref a1, rfl, rfl, SqL.of h1, atI_nat (j := 1) g1, ?_⟩
  refine due_and (M0.same s1) (M1.same s1) hU fun q2 H2 s2 D2 => ?_
  have h2 := s2 _ _ h1
  have s12 := s1.trans s2
  refine ⟨_, rfl, tl, _, _, .ref a0, rfl, rfl, SqL.of h2, atI_nat (j := 0) g0, ?_⟩
  refine ⟨_, rfl, tl, _, _, .ref a1, rfl, rfl, SqL.of h2, atI_nat (j := 1) g1, ?_⟩
  refine due_sub (M0.same s12) (M1.same s12) hU fun q3 H3 s3 D3 => ?_
  have h3 := s3 _ _ h2
  have s13 := s12.trans s3
  refine ⟨_, rfl, tl, _, _, .ref a0, rfl, rfl, SqL.of h3, atI_nat (j := 0) g0, ?_⟩
  refine ⟨_, rfl, tl, _, _, .ref a1, rfl, rfl, SqL.of h3, atI_nat (j := 1) g1, ?_⟩
  refine due_xor (M0.same s13) (M1.same s13) hU fun q4 H4 s4 D4 => ?_
  refine ⟨(by show 4 ≤ sizeLine; decide), fun du nd => ?_⟩
  have s5 : Same H4 (upd H4 du (.lst [.ref q1, .ref q2, .ref q3, .ref q4])) := same_upd nd
  have sA := (s13.trans s4).trans s5
  have k4 := k.same (s13.trans s4)
  refine ⟨fs, pe, kn, pr, sm, sh, gt, un, du, F, N, G, rs, xs, es, vs, ts, uns t0 t1, us, [q1, q2, q3, q4], _, _, _, _, _, _, _, _, _, _, _, _, rfl, k.same sA, sA _ _ hun, unp, upd_same, k4.h_hp.ne nd, Paired.imp (fun a b h => ⟨h.1.same sA, h.2⟩) U, ?_, rfl, fin.mv (.same sA k.h_hp k.h_T)⟩
  have s45 := s4.trans s5
  have s35 := s3.trans s45
  exact .cons (D1.same (s2.trans s35)) (.cons (D2.same s35) (.cons (D3.same s45) (.cons (D4.same s5) .nil)))
end
end K1

namespace K1
open PySem PySem.Spec
open PyProof.Rows L2 L2H EnT StX SmX TxS DuX XdI Tr3 CnB ClX
/-! ### right: first, second and their unions -/
theorem sign_go {CE a b : Addr} {t u : Fm} {z : Str} {H : Hp} {Q : VK} {E : XK} (h1 : ExpAt CE H a t) (h2 : ExpAt CE H b u) (d1 : t.dep ≤ 5) (d2 : u.dep ≤ 5) (q : MakesE CE (.node z t u) H Q) : rBinO CE (spOp CE z) E (.ref a) (.ref b) H Q := by
  obtain ⟨dx, v, fl, ys, g1, _⟩ := h1.at_
  obtain ⟨dy, v2, fl2, ys2, g2, _⟩ := h2.at_
  exact ⟨a, dx, _, b, dy, _, rfl, rfl, g1, g2, a, b, t, u, rfl, h1, h2, d1, d2, q⟩
structure AtR7 (CE C p Pt : Addr) (σ : L2.St) (H : Hp) (En : Ends) : Prop where
  ex : ∃ (fs pe kn pr sm sh gt ex1 ex2 tl : Addr) (F N G : List Str) (rs : List Rw3) (xs : List V) (es : List (Str × Addr)) (vs : List V) (ts : List Fm) (t0 t1 : Fm) (ms : List Addr) (x4 x7 x11 x12 x13 x14 x15 x16 x19 x20 x21 : Option V),
    σ = [some (.ref p), some (.ref fs), some (.ref pe), some (.ref kn), x4, some (.ref pr), some (.ref sm), x7, some (.ref sh), some (.ref tl), some (.ref gt), x11, x12, x13, x14, x15, x16, some (.ref ex1), some (.ref ex2), x19, x20, x21] ∧
    RtC CE C p Pt fs pe kn pr sm sh gt F N G rs xs es vs ts H ∧ H tl = some (.lst (ms.map V.ref)) ∧ tl ≠ p ∧ ts[0]? = some t0 ∧ ts[1]? = some t1 ∧ ExpAt CE H ex1 t0 ∧ ExpAt CE H ex2 t1 ∧ Paired (fun m t => MemV C H m N (wants rs G t)) ms ts ∧ Fin p (TbO Pt) H En
structure AtR6 (CE C p Pt : Addr) (σ : L2.St) (H : Hp) (En : Ends) : Prop where
  ex : ∃ (fs pe kn pr sm sh gt tl : Addr) (F N G : List Str) (rs : List Rw3) (xs : List V) (es : List (Str × Addr)) (vs : List V) (ts : List Fm) (ms : List Addr) (x4 x7 x11 x12 x13 x14 x15 x16 x17 x18 x19 x20 x21 : Option V),
    σ = [some (.ref p), some (.ref fs), some (.ref pe), some (.ref kn), x4, some (.ref pr), some (.ref sm), x7, some (.ref sh), some (.ref tl), some (.ref gt), x11, x12, x13, x14, x15, x16, x17, x18, x19, x20, x21] ∧
    RtC CE C p Pt fs pe kn pr sm sh gt F N G rs xs es vs ts H ∧ H tl = some (.lst (ms.map V.ref)) ∧ tl ≠ p ∧ Paired (fun m t => MemV C H m N (wants rs G t)) ms ts ∧ Fin p (TbO Pt) H En
section
variable {w : World} {P : Program} {base : Heap} {mg : Str → Option Value} {K : PySem.W.Frag} {CE C CN CM CS CU S1 S2 S3 : Addr} {mc : Value}
variable {f c Pt : Addr} {A : Around} {outer : List Env} {s : Shared} {H0 : Hp} {p : Addr}
theorem rt7 (W : Wo P w K mg base CE C CN CM CS CU S1 S2 S3 mc) (B : Mo P w K mg base C CN CM mc) (R : Ri P w K mg base CE C Pt) (hgd : A.guards = some []) (hr : Room 20 (A.deeper (envOfC "_law_right" (defScope sRight) s.heap.objs.size f (.ref c)))) :
    PSs (cxR P w K mg base f (.ref c) A outer s H0) (rtRest 7) (fun En σ H => AtR7 CE C p Pt σ H En) := by
  refine pss_of fun En σ H hyp => ?_
  obtain ⟨fs, pe, kn, pr, sm, sh, gt, ex1, ex2, tl, F, N, G, rs, xs, es, vs, ts, t0, t1, ms, x4, x7, x11, x12, x13, x14, x15, x16, x19, x20, x21, eσ, k, htl, tlp, e0, e1, X1, X2, M, fin⟩ := hyp.ex
  have sf := R.sE
  obtain ⟨gO, mO, FO⟩ := R.orE
  obtain ⟨gA, mA, FA⟩ := R.andE
  obtain ⟨gS, mS, FS⟩ := R.subE
  obtain ⟨gX, mX, FX⟩ := R.xorE
  refine ⟨_, pss_cons (ps_set (i := 19) scRt.nd rfl (.inl rfl) (pe_lst
      (pa_cons (pe_op (op_binO mO sf FO (hr.mono (by decide)) pass0) (pv 17) (pv 18))
      (pa_cons (pe_op (op_binO mA sf FA (hr.mono (by decide)) pass0) (pv 17) (pv 18))
      (pa_cons (pe_op (op_binO mS sf FS (hr.mono (by decide)) pass0) (pv 17) (pv 18))
      (pa_cons (pe_op (op_binO mX sf FX (hr.mono (by decide)) pass0) (pv 17) (pv 18)) pa_nil))))))
    (rt8 (p := p) (Pt := Pt) W B R hgd hr), ?_⟩
  subst eσ
  obtain ⟨v0, _, S0⟩ := paired_gr k.h_ss e0
  obtain ⟨v1, _, S1⟩ := paired_gr k.h_ss e1
  refine ⟨_, rfl, _, rfl, sign_go X1 X2 S0.d S1.d fun q1 H1 n1 s1 D1 => ?_⟩
  refine ⟨_, rfl, _, rfl, sign_go (X1.same s1) (X2.same s1) S0.d S1.d fun q2 H2 n2 s2 D2 => ?_⟩
  have s12 := s1.trans s2
  refine ⟨_, rfl, _, rfl, sign_go (X1.same s12) (X2.same s12) S0.d S1.d fun q3 H3 n3 s3 D3 => ?_⟩
  have s13 := s12.trans s3
  refine ⟨_, rfl, _, rfl, sign_go (X1.same s13) (X2.same s13) S0.d S1.d fun q4 H4 n4 s4 D4 => ?_⟩
  refine ⟨(by show 4 ≤ sizeLine; decide), fun un nd => ?_⟩
  have s5 : Same H4 (upd H4 un (.lst [.ref q1, .ref q2, .ref q3, .ref q4])) := same_upd nd
  have sA := (s13.trans s4).trans s5
  have k4 := k.same (s13.trans s4)
  have s45 := s4.trans s5
  have s35 := s3.trans s45
  have lv : ∀ z ∈ t0.lvs ++ t1.lvs, z ∈ F ++ [tGiven, tNone] := fun z hz => (List.mem_append.mp hz).elim (S0.lv z) (S1.lv z)
  refine ⟨fs, pe, kn, pr, sm, sh, gt, un, tl, F, N, G, rs, xs, es, vs, ts, t0, t1, [q1, q2, q3, q4], ms, _, _, _, _, _, _, _, _, _, _, _, _, rfl, k.same sA, upd_same, k4.h_hp.ne nd, sA _ _ htl, tlp, e0, e1, ?_, Paired.imp (fun a b h => h.same sA) M, fin.mv (.same sA k.h_hp k.h_T)⟩
  exact .cons ⟨D1.same (s2.trans s35), lv⟩ (.cons ⟨D2.same s35, lv⟩ (.cons ⟨D3.same s45, lv⟩ (.cons ⟨D4.same s5, lv⟩ .nil)))
theorem rt6 (W : Wo P w K mg base CE C CN CM CS CU S1 S2 S3 mc) (B : Mo P w K mg base C CN CM mc) (R : Ri P w K mg base CE C Pt) (hgd : A.guards = some []) (hr : Room 20 (A.deeper (envOfC "_law_right" (defScope sRight) s.heap.objs.size f (.ref c)))) :
    PSs (cxR P w K mg base f (.ref c) A outer s H0) (rtRest 6) (fun En σ H => AtR6 CE C p Pt σ H En) := by
  refine pss_of fun En σ H hyp => ?_
  obtain ⟨fs, pe, kn, pr, sm, sh, gt, tl, F, N, G, rs, xs, es, vs, ts, ms, x4, x7, x11, x12, x13, x14, x15, x16, x17, x18, x19, x20, x21, eσ, k, htl, tlp, M, fin⟩ := hyp.ex
  obtain ⟨fI, MK, FI⟩ := R.make
  refine ⟨_, pss_cons (ps_par (i := 17) (j := 18) rfl scRt.nd rfl rfl (by decide) rfl rfl
      (pa_cons (pe_makeR MK FI (hr.mono (by decide)) (by rfl) W.M.g pass0 (pa_cons (pe_ix ix_list (pv 8) pe_int (fun _ _ => rfl)) pa_nil))
      (pa_cons (pe_makeR MK FI (hr.mono (by decide)) (by rfl) W.M.g pass0 (pa_cons (pe_ix ix_list (pv 8) pe_int (fun _ _ => rfl)) pa_nil)) pa_nil)) (by rfl))
    (rt7 (p := p) (Pt := Pt) W B R hgd hr), ?_⟩
  subst eσ
  have s4 := k.h_s4
  obtain ⟨t0, e0⟩ : ∃ t, ts[0]? = some t := ⟨_, List.getElem?_eq_getElem (by omega)⟩
  obtain ⟨t1, e1⟩ : ∃ t, ts[1]? = some t := ⟨_, List.getElem?_eq_getElem (by omega)⟩
  obtain ⟨v0, f0, S0⟩ := paired_gr k.h_ss e0
  obtain ⟨v1, f1, S1⟩ := paired_gr k.h_ss e1
  refine ⟨_, rfl, sh, _, _, v0, rfl, rfl, SqL.of k.h_sh, atI_nat (j := 0) f0, fun q1 dx n1 nd nx => makeE_at S0.m S0.ok (Nat.le_trans S0.d (by decide)) n1 nd nx fun H1 s1 X1 => ⟨rfl, ?_⟩⟩
  have k1 := k.same s1
  refine ⟨_, rfl, sh, _, _, v1, rfl, rfl, SqL.of k1.h_sh, atI_nat (j := 1) f1, fun q2 dy n2 nd2 nx2 => makeE_at (S1.m.same s1) S1.ok (Nat.le_trans S1.d (by decide)) n2 nd2 nx2 fun H2 s2 X2 => ⟨rfl, ?_⟩⟩
  have sA := s1.trans s2
  exact ⟨_, _, rfl, fs, pe, kn, pr, sm, sh, gt, q1, q2, tl, F, N, G, rs, xs, es, vs, ts, t0, t1, ms, _, _, _, _, _, _, _, _, _, _, _, rfl, k.same sA, sA _ _ htl, tlp, e0, e1, X1.same s2, X2, Paired.imp (fun a b h => h.same sA) M, fin.mv (.same sA k.h_hp k.h_T)⟩
end
end K1

namespace K1
open PySem PySem.Spec
open PyProof.Rows L2 L2H EnT StX SmX TxS DuX XdI Tr3 CnB ClX
/-! ### right: within the walk over the shapes -/
theorem val_congr {g g' : Str → Bool} : ∀ {t : Fm}, (∀ z ∈ t.lvs, g z = g' z) → t.val g = t.val g'
  | .leaf z, h => h z List.mem_cons_self
  | .node s l r, h => by
    show sgn s _ _ = sgn s _ _
    rw [val_congr fun z hz => h z (List.mem_append_left _ hz), val_congr fun z hz => h z (List.mem_append_right _ hz)]
/-- what stays through the walk, told growing -/
structure Fr (CE C p Pt fs pe kn pr sm sh gt tl : Addr) (F N G : List Str) (rs : List Rw3) (xs : List V) (es : List (Str × Addr)) (vs : List V) (ts : List Fm) (H0 H : Hp) (ms : List Addr) (j : Nat) (D : Ends) : Prop where
  k : RtC CE C p Pt fs pe kn pr sm sh gt F N G rs xs es vs ts H0
  n : H0 tl = none
  m : Mv p (TbO Pt) H0 H
  t : H tl = some (.lst (ms.map V.ref))
  M : Paired (fun m t => MemV C H m N (wants rs G t)) ms (ts.take j)
  fin : Fin p (TbO Pt) H0 D
section
variable {CE C p Pt fs pe kn pr sm sh gt tl : Addr} {F N G : List Str} {rs : List Rw3} {xs : List V} {es : List (Str × Addr)} {vs : List V} {ts : List Fm} {H0 H H' : Hp} {ms : List Addr} {j : Nat} {D : Ends}
theorem Fr.now (k : Fr CE C p Pt fs pe kn pr sm sh gt tl F N G rs xs es vs ts H0 H ms j D) : RtC CE C p Pt fs pe kn pr sm sh gt F N G rs xs es vs ts H := k.k.mv k.m
theorem Fr.tp (k : Fr CE C p Pt fs pe kn pr sm sh gt tl F N G rs xs es vs ts H0 H ms j D) : tl ≠ p := k.k.h_hp.ne k.n
theorem Fr.mv (k : Fr CE C p Pt fs pe kn pr sm sh gt tl F N G rs xs es vs ts H0 H ms j D) (m : Mv p (TbO Pt) H H') : Fr CE C p Pt fs pe kn pr sm sh gt tl F N G rs xs es vs ts H0 H' ms j D :=
  ⟨k.k, k.n, k.m.trans m, m.lst' k.tp k.t, Paired.imp (fun a b h => m.memV k.m.rx.pool h) k.M, k.fin⟩
theorem Fr.same (k : Fr CE C p Pt fs pe kn pr sm sh gt tl F N G rs xs es vs ts H0 H ms j D) (s : Same H H') : Fr CE C p Pt fs pe kn pr sm sh gt tl F N G rs xs es vs ts H0 H' ms j D := k.mv (.same s k.m.rx.pool k.m.tabs)
theorem Fr.ends (k : Fr CE C p Pt fs pe kn pr sm sh gt tl F N G rs xs es vs ts H0 H ms j D) : Fin p (TbO Pt) H D := k.fin.mv k.m
end
/-- the variables when a turn is over -/
def Rst (p fs pe kn pr sm sh gt tl : Addr) (σ : L2.St) : Prop := ∃ (x4 x7 x11 x12 x13 x14 x15 x16 x17 x18 x19 x20 x21 : Option V), σ = [some (.ref p), some (.ref fs), some (.ref pe), some (.ref kn), x4, some (.ref pr), some (.ref sm), x7, some (.ref sh), some (.ref tl), some (.ref gt), x11, x12, x13, x14, x15, x16, x17, x18, x19, x20, x21]
/-- a turn, made and members known -/
structure AtSh (CE C p Pt : Addr) (σ : L2.St) (H : Hp) (En : Ends) : Prop where
  ex : ∃ (fs pe kn pr sm sh gt tl me mb : Addr) (F N G : List Str) (rs : List Rw3) (xs : List V) (es : List (Str × Addr)) (vs : List V) (ts : List Fm) (H0 : Hp) (ms : List Addr) (j : Nat) (v : V) (t : Fm) (x4 x7 x14 x15 x16 x17 x18 x19 x20 x21 : Option V),
    σ = [some (.ref p), some (.ref fs), some (.ref pe), some (.ref kn), x4, some (.ref pr), some (.ref sm), x7, some (.ref sh), some (.ref tl), some (.ref gt), some v, some (.ref me), some (.ref mb), x14, x15, x16, x17, x18, x19, x20, x21] ∧
    Fr CE C p Pt fs pe kn pr sm sh gt tl F N G rs xs es vs ts H0 H ms j En ∧ ShAt H v t F ∧ ExpAt CE H me t ∧ MemV C H mb N (wants rs G t) ∧ ∀ σ' H', Mv p (TbO Pt) H H' → Rst p fs pe kn pr sm sh gt tl σ' → En.nx σ' H'
/-- the walk's own body -/
def shB : List Stmt := match (defBody sRight).drop 5 with
  | (Stmt.For _ _ b _ _) :: _ => b
  | _ => []
def shR (i : Nat) : List Stmt := shB.drop i
theorem RtC.fF {CE C p Pt fs pe kn pr sm sh gt : Addr} {F N G : List Str} {rs : List Rw3} {xs : List V} {es : List (Str × Addr)} {vs : List V} {ts : List Fm} {H : Hp} (k : RtC CE C p Pt fs pe kn pr sm sh gt F N G rs xs es vs ts H) : ∀ z ∈ F, fieldB z = true := fun z hz => by
  have h : z ∈ rs.map (·.1) := by rw [k.h_kF]; exact List.mem_append.mpr (.inl hz)
  obtain ⟨r, hr, rfl⟩ := List.mem_map.mp h
  exact (k.h_tF r hr).2
theorem m3_in {F : List Str} {t : Fm} {b : Bool} (lv : ∀ z ∈ t.lvs, z ∈ F ++ [tGiven, tNone]) (hz : ∀ z ∈ F, z ≠ ("zz9" : Str)) (hf : ∀ z ∈ F, fieldB z = true) : t.val (mvF b ["none", "zz9", "given"]) = t.val (inF b []) := val_congr fun z h => by
  unfold mvF inF
  rcases List.mem_append.mp (lv z h) with h | h
  · obtain ⟨n1, n2⟩ := fld_ne (hf z h)
    rw [if_neg n1, if_neg n2, if_neg n2]
    refine decide_eq_decide.mpr ⟨fun q => ?_, fun q => by cases q⟩
    rcases List.mem_cons.mp q with q | q
    · exact absurd q n1
    rcases List.mem_cons.mp q with q | q
    · exact absurd q (hz z h)
    · exact absurd (List.mem_singleton.mp q) n2
  · rcases List.mem_cons.mp h with h | h
    · rw [h, if_neg (by decide +kernel), if_pos rfl, if_pos rfl]
    · rw [List.mem_singleton.mp h, if_pos rfl, if_neg (by decide +kernel)]
      rfl
section
variable {w : World} {P : Program} {base : Heap} {mg : Str → Option Value} {K : PySem.W.Frag} {CE C CN CM CS CU S1 S2 S3 : Addr} {mc : Value}
variable {f c Pt : Addr} {A : Around} {outer : List Env} {s : Shared} {H0 : Hp} {p : Addr}
theorem sh6 {fI : Addr} (W : Wo P w K mg base CE C CN CM CS CU S1 S2 S3 mc) (hI : Has P w K mg base CX0 8 "_law_in" fI ["_law_shape", "_law_among", "_law_gotten"] (spIn 7)) (hr : Room 20 (A.deeper (envOfC "_law_right" (defScope sRight) s.heap.objs.size f (.ref c)))) :
    PSs (cxR P w K mg base f (.ref c) A outer s H0) (shR 6) (fun En σ H => AtSh CE C p Pt σ H En) := by
  refine pss_of fun En σ H hyp => ?_
  obtain ⟨fs, pe, kn, pr, sm, sh, gt, tl, me, mb, F, N, G, rs, xs, es, vs, ts, H00, ms, j, v, t, x4, x7, x14, x15, x16, x17, x18, x19, x20, x21, eσ, k, S, X, Mb, nx⟩ := hyp.ex
  obtain ⟨gM, fM, hm, FD, FM⟩ := W.mt
  obtain ⟨mv, kb⟩ := kb_meets2 FD
  refine ⟨_, pss_one (ps_for PassesOwn.never rfl (pi_list (pe_lst (pa_cons pe_bl (pa_cons pe_bl pa_nil)))) (pg_name (i := 16) scRt.nd rfl (.inl rfl))
      (pss_one (ps_if (pt_cmpR op_ne (pe_methK (ks := ["given"]) (pv 12) W.M.cl hm FM (hr.mono (by decide)) kb passL (pa_cons (pe_tup (pa_cons pe_str (pa_cons pe_str (pa_cons pe_str pa_nil)))) pa_nil) (pk_cons (pv 16) pk_nil))
        (pe_has hI (hr.mono (by decide)) (by rfl) pass0 (pa_cons (pv 11) (pa_cons (pe_lst pa_nil) (pa_cons (pv 16) pa_nil)))) (nomark _)) (pss_one (ps_ret pe_bl)) pss_nil))), ?_⟩
  subst eσ
  have kk := k.now
  have hf := kk.fF
  have zF := kk.h_zF
  refine ⟨(by show 2 ≤ sizeLine; decide), fun a na => ?_⟩
  have s1 : Same H (upd H a (.lst [V.bl false, V.bl true])) := same_upd na
  have ha : (upd H a (.lst [V.bl false, V.bl true])) a = some (.lst [V.bl false, V.bl true]) := upd_same
  generalize upd H a (.lst [V.bl false, V.bl true]) = H1 at s1 ha ⊢
  refine ⟨a, rfl, ⟨_, SqL.of ha⟩, ?_⟩
  refine for_it (walk_list (xs := [V.bl false, V.bl true])) (fun i σ H' => Same H1 H' ∧ ∃ o16, σ = [some (.ref p), some (.ref fs), some (.ref pe), some (.ref kn), x4, some (.ref pr), some (.ref sm), x7, some (.ref sh), some (.ref tl), some (.ref gt), some v, some (.ref me), some (.ref mb), x14, x15, o16, x17, x18, x19, x20, x21]) ?_ ?_ ?_ ?_
  · exact ⟨Same.refl H1, _, rfl⟩
  · rintro i σ H' _ ⟨sm, _⟩
    exact SqL.of (sm _ _ ha)
  · rintro i x σ H2 H3 hi ⟨sm, o16, rfl⟩ ⟨rfl, ey⟩
    obtain ⟨b, rfl⟩ : ∃ b, x = V.bl b := by
      match i, ey with
      | 0, ey => exact ⟨_, (Option.some.inj ey).symm⟩
      | 1, ey => exact ⟨_, (Option.some.inj ey).symm⟩
      | n + 2, ey => cases ey
    have s2 := s1.trans sm
    have X2 := X.same s2
    obtain ⟨dx, v', fl, ys, h1, _⟩ := X2.at_
    refine ⟨_, rfl, me, dx, _, rfl, h1, rfl, (by show 3 ≤ sizeLine; decide), fun q nq => ?_⟩
    have s3 : Same H3 (upd H3 q (.tup [V.str "none", .str "zz9", .str "given"])) := same_upd nq
    refine ⟨_, rfl, rfl, rfl, me, _, b, t, rfl, X2.same s3, .inr (.inl ⟨q, ["none", "zz9", "given"], rfl, upd_same, by decide, by decide +kernel, by decide +kernel, fun H4 s4 => ?_⟩)⟩
    have s24 := (s2.trans s3).trans s4
    refine ⟨_, rfl, Nat.zero_le _, fun e ne => ?_⟩
    have s5 : Same H4 (upd H4 e (.lst [])) := same_upd ne
    have s25 := s24.trans s5
    refine ⟨_, rfl, v, t, e, b, [], rfl, S.m.same s25, S.ok, Nat.le_trans S.d (by decide), upd_same, fun H5 s6 => ?_⟩
    rw [m3_in S.lv zF hf]
    refine ⟨rfl, _, rfl, ?_⟩
    rw [decide_eq_true rfl]
    exact iteF ⟨(((sm.trans s3).trans s4).trans s5).trans s6, _, rfl⟩
  · rintro σ H' ⟨sm, o16, rfl⟩
    exact nx _ _ (.same (s1.trans sm) kk.h_hp kk.h_T) ⟨_, _, _, _, _, _, _, _, _, _, _, _, _, rfl⟩
end
end K1

namespace K1
open PySem PySem.Spec
open PyProof.Rows L2 L2H EnT StX SmX TxS DuX XdI Tr3 CnB ClX
/-! ### right: each of the people -/
/-- the drawn fields whose list has a name -/
def amgF (rs : List Rw3) (F : List Str) (x : Str) : List Str := F.filter fun z => decide (z ∈ amF rs x)
theorem amg_in {rs : List Rw3} {F : List Str} {t : Fm} {b : Bool} {x : Str} {ys : List Str} (lv : ∀ z ∈ t.lvs, z ∈ F ++ [tGiven, tNone]) (hf : ∀ r ∈ rs, nameB r.1 = true ∧ fieldB r.1 = true) (fF : ∀ z ∈ F, fieldB z = true) (hy : ∀ z ∈ F, z ∉ ys) : t.val (mvF b (amgF rs F x ++ ys)) = t.val (inF b (amF rs x)) := val_congr fun z h => by
  unfold mvF inF
  rcases List.mem_append.mp (lv z h) with h | h
  · obtain ⟨n1, n2⟩ := fld_ne (fF z h)
    rw [if_neg n1, if_neg n2, if_neg n2]
    refine decide_eq_decide.mpr ⟨fun q => ?_, fun q => ?_⟩
    · rcases List.mem_append.mp q with q | q
      · exact of_decide_eq_true (List.mem_filter.mp q).2
      · exact absurd q (hy z h)
    · exact List.mem_append.mpr (.inl (List.mem_filter.mpr ⟨h, decide_eq_true q⟩))
  · rcases List.mem_cons.mp h with h | h
    · rw [h, if_neg (by decide +kernel), if_pos rfl, if_pos rfl]
    · rw [List.mem_singleton.mp h, if_pos rfl, if_neg (by decide +kernel)]
      refine (decide_eq_false fun q => ?_).symm
      obtain ⟨r, hr, e, _⟩ := amF_mem.mp q
      exact (fld_ne (hf r hr).2).1 e
section
variable {CE C p Pt fs pe kn pr sm sh gt : Addr} {F N G : List Str} {rs : List Rw3} {xs : List V} {es : List (Str × Addr)} {vs : List V} {ts : List Fm} {H : Hp}
theorem RtC.nF (k : RtC CE C p Pt fs pe kn pr sm sh gt F N G rs xs es vs ts H) : ∀ z ∈ F, nameB z = true := fun z hz => by
  have h : z ∈ rs.map (·.1) := by rw [k.h_kF]; exact List.mem_append.mpr (.inl hz)
  obtain ⟨r, hr, rfl⟩ := List.mem_map.mp h
  exact (k.h_tF r hr).1
theorem RtC.ndF (k : RtC CE C p Pt fs pe kn pr sm sh gt F N G rs xs es vs ts H) : F.Nodup := by
  have h := k.h_nd
  rw [k.h_kF] at h
  exact (List.nodup_append.mp h).1
end
section
variable {w : World} {P : Program} {base : Heap} {mg : Str → Option Value} {K : PySem.W.Frag} {CE C CN CM CS CU S1 S2 S3 : Addr} {mc : Value}
variable {f c Pt : Addr} {A : Around} {outer : List Env} {s : Shared} {H0 : Hp} {p : Addr}
theorem sh5 {fI : Addr} (W : Wo P w K mg base CE C CN CM CS CU S1 S2 S3 mc) (hI : Has P w K mg base CX0 8 "_law_in" fI ["_law_shape", "_law_among", "_law_gotten"] (spIn 7)) (hr : Room 20 (A.deeper (envOfC "_law_right" (defScope sRight) s.heap.objs.size f (.ref c)))) :
    PSs (cxR P w K mg base f (.ref c) A outer s H0) (shR 5) (fun En σ H => AtSh CE C p Pt σ H En) := by
  refine pss_of fun En σ H hyp => ?_
  obtain ⟨fs, pe, kn, pr, sm, sh, gt, tl, me, mb, F, N, G, rs, xs, es, vs, ts, H00, ms, j, v, t, x4, x7, x14, x15, x16, x17, x18, x19, x20, x21, eσ, k, S, X, Mb, nx⟩ := hyp.ex
  obtain ⟨gM, fM, hm, FD, FM⟩ := W.mt
  obtain ⟨mv, kb⟩ := kb_meets2 FD
  obtain ⟨mv3, kb3⟩ := kb_meets3 FD
  obtain ⟨gO, fO, hmO, FDO, FO⟩ := W.of
  obtain ⟨mvO, kbO⟩ := kb_of1 FDO
  obtain ⟨gH, mH, FH⟩ := W.b.hasM
  have T := W.b.T
  refine ⟨_, pss_cons (ps_for PassesOwn.never rfl (pi_list (pv 2)) (pg_name (i := 4) scRt.nd rfl (.inr rfl))
      (pss_cons (ps_set (i := 15) scRt.nd rfl (.inl rfl) (pe_callTy call_tupK (by rfl) T.tuple (by decide +kernel) (pa_cons (pe_lc (own := [("_law_field", 14)]) (g := gName 14) (tt := tTest (tOp (rIn K false) (tVar 4) (tDGet (tVar 3) (tVar 14)))) (te := tVar 14) rfl scRt.nd (pi_list (pv 1))
          (blkOk_by (own := [("_law_field", 14)]) (N := nmRt) (sc := defScope sRight) (by decide +kernel)) (fun _ _ _ _ _ => pg_name (i := 14) scRt.nd rfl (Or.inl rfl))
          (fun _ _ _ _ _ => pts_one (pt_cmpR op_in_seq (pv 4) (pe_dget (hu_of hr) (pv 3) (pv 14) (fun _ _ => rfl)) (by rfl))) (fun _ _ _ _ _ => pv 14)) pa_nil)))
      (pss_cons (ps_if (pt_cmpR op_ne (pe_methK (ks := ["given"]) (pv 12) W.M.cl hm FM (hr.mono (by decide)) kb passL (pa_cons (pv 15) pa_nil) (pk_cons (pe_cmpR op_in_seq (pv 4) (pv 6) (by rfl)) pk_nil))
          (pe_cmpR (op_inX mH FH (hr.mono (by decide))) (pv 4) (pv 13) (by rfl)) (nomark _)) (pss_one (ps_ret pe_bl)) pss_nil)
      (pss_one (ps_if (pt_cmpR op_ne (pe_methK0 (ks := ["inside"]) (pv 12) W.M.cl hm FM (hr.mono (by decide)) kb3 passL (pk_cons (pe_op op_catA (pv 15) (pe_tup (pa_cons pe_str pa_nil))) pk_nil))
          (pe_cmpR (op_inX mH FH (hr.mono (by decide))) (pv 4) (pe_methK (ks := []) (pv 12) W.M.cl hmO FO (hr.mono (by decide)) kbO passL (pa_cons (pv 5) pa_nil) pk_nil) (by rfl)) (nomark _)) (pss_one (ps_ret pe_bl)) pss_nil)))))
    (sh6 (p := p) (Pt := Pt) W hI hr), ?_⟩
  subst eσ
  have kk := k.now
  have fF := kk.fF
  have zF := kk.h_zF
  refine ⟨_, rfl, pe, rfl, ⟨_, SqL.of kk.h_pe⟩, ?_⟩
  refine for_it (walk_list (xs := N.map V.str)) (fun i σ H' => Same H H' ∧ ∃ o4 o14 o15, σ = [some (.ref p), some (.ref fs), some (.ref pe), some (.ref kn), o4, some (.ref pr), some (.ref sm), x7, some (.ref sh), some (.ref tl), some (.ref gt), some v, some (.ref me), some (.ref mb), o14, o15, x16, x17, x18, x19, x20, x21]) ?_ ?_ ?_ ?_
  · exact ⟨Same.refl H, _, _, _, rfl⟩
  · rintro i σ H' _ ⟨sm', _⟩
    exact SqL.of (sm' _ _ kk.h_pe)
  · rintro i x σ H2 H3 hi ⟨s1, o4, o14, o15, rfl⟩ ⟨rfl, ey⟩
    obtain ⟨z, ez, rfl⟩ : ∃ z, N[i]? = some z ∧ x = V.str z := by
      rw [List.getElem?_map] at ey
      cases e : N[i]? with
      | none => rw [e] at ey; cases ey
      | some z => rw [e] at ey; exact ⟨z, rfl, (Option.some.inj ey).symm⟩
    have k1 := kk.same s1
    refine ⟨_, rfl, fs, rfl, ⟨_, SqL.of k1.h_fs⟩, fun D nD => ?_⟩
    refine lc_pure (K := K) (a := fs) (xs := F.map V.str) (outF F fun y => decide (y ∈ amF rs z)) (fun H' s => SqL.of (s _ _ k1.h_fs)) nD rfl (fun j' x hx s2 => ?_) (fun H4 s3 h3 => ?_)
    · obtain ⟨y, ey, rfl⟩ : ∃ y, F[j']? = some y ∧ x = V.str y := by
        rw [List.getElem?_map] at hx
        cases e : F[j']? with
        | none => rw [e] at hx; cases hx
        | some y => rw [e] at hx; exact ⟨y, rfl, (Option.some.inj hx).symm⟩
      have hy : y ∈ rs.map (·.1) := by rw [kk.h_kF]; exact List.mem_append.mpr (.inl (List.mem_of_getElem? ey))
      obtain ⟨r, hr', rfl⟩ := List.mem_map.mp hy
      obtain ⟨i', er⟩ := List.mem_iff_getElem?.mp hr'
      have k2 := k1.same s2
      obtain ⟨hL, _, _⟩ := k2.h_kn.l r hr'
      have dg : DGet (upd H3 D (.lst (outF F (fun y => decide (y ∈ amF rs z)) j'))) kn (.str r.1) (some (.ref r.2.1)) := by
        have y := DGet.k (k := (Sum.inr r.1 : Key)) k2.h_kn.d
        rw [entsR_at kk.h_nd er] at y
        exact y
      refine ⟨rfl, _, rfl, _, rfl, _, rfl, kn, _, rfl, dg, r.2.1, r.2.2.map V.str, rfl, .inl (SqL.of hL), rfl, strs_flat _, ?_⟩
      refine ⟨_, rfl, ?_⟩
      have ei : (if false = true then !inV (V.str z) (r.2.2.map V.str) else inV (V.str z) (r.2.2.map V.str)) = decide (z ∈ r.2.2) := inV_mem z r.2.2
      rw [ei]
      have ea := amF_at kk.h_nd er z
      have l4 := kk.h_lF
      by_cases hz : z ∈ r.2.2
      · rw [decide_eq_true hz]
        exact iteT ⟨_, rfl, step_ok (outF_len (by omega)) (outF_yes ey (decide_eq_true (ea.mpr hz)))⟩
      · rw [decide_eq_false hz]
        exact iteF (step_no (outF_no ey (decide_eq_false fun q => hz (ea.mp q))).symm.symm)
    · rw [outF_end (List.length_map ..)] at h3
      have h3 : H4 D = some (.lst ((amgF rs F z).map V.str)) := h3
      refine ⟨D, _, rfl, .inl ⟨SqL.of h3, fun tt nt => ?_⟩⟩
      have s5 : Same H4 (upd H4 tt (.tup ((amgF rs F z).map V.str))) := same_upd nt
      have ht : (upd H4 tt (.tup ((amgF rs F z).map V.str))) tt = some (.tup ((amgF rs F z).map V.str)) := upd_same
      generalize upd H4 tt (.tup ((amgF rs F z).map V.str)) = H5 at s5 ht ⊢
      have sA : Same H H5 := (s1.trans s3).trans s5
      have k5 := kk.same sA
      have X5 := X.same sA
      obtain ⟨dx, v', fl, ys, h1, _⟩ := X5.at_
      obtain ⟨zs, M5, ez1, _⟩ := (Mb.same sA).ex
      have la : (amgF rs F z).length ≤ 4 := by
        have := List.length_filter_le (fun y => decide (y ∈ amF rs z)) F
        have := kk.h_lF
        unfold amgF
        omega
      have na : ∀ y ∈ amgF rs F z, nameB y = true := fun y hy => kk.nF y (List.mem_filter.mp hy).1
      have nda : (amgF rs F z).Nodup := (kk.ndF).filter _
      refine ⟨_, rfl, me, dx, _, rfl, h1, rfl, _, rfl, _, rfl, _, rfl, sm, G.map V.str, rfl, .inl (SqL.of k5.h_sm), rfl, strs_flat G, ?_⟩
      have ei : (if false = true then !inV (V.str z) (G.map V.str) else inV (V.str z) (G.map V.str)) = decide (z ∈ G) := inV_mem z G
      rw [ei]
      refine ⟨rfl, rfl, me, _, decide (z ∈ G), t, rfl, X5, .inr (.inl ⟨tt, amgF rs F z, rfl, ht, by omega, na, nda, fun H6 s6 => ?_⟩)⟩
      have e1 : t.val (mvF (decide (z ∈ G)) (amgF rs F z)) = wants rs G t z := by
        have q := amg_in (b := decide (z ∈ G)) (x := z) (ys := []) S.lv kk.h_tF fF (fun _ _ q => by cases q)
        rw [List.append_nil] at q
        exact q
      rw [e1]
      have sB := sA.trans s6
      have M6 := M5.same s6
      obtain ⟨dm, mt, md, hm1, _, _⟩ := M6.at_
      have zN : nameB z = true := kk.h_tN z (List.mem_of_getElem? ez)
      refine ⟨_, rfl, _, rfl, mb, dm, _, rfl, hm1, mb, zs, _, rfl, M6, .inl ⟨z, rfl, name_line zN⟩, _, rfl, rfl, _, rfl, ?_⟩
      have e2 : hasV zs (.str z) = wants rs G t z := by
        show decide (z ∈ zs) = _
        cases hw : wants rs G t z with
        | true => exact decide_eq_true ((ez1 z).mpr hw)
        | false => exact decide_eq_false fun q => by rw [(ez1 z).mp q] at hw; cases hw
      rw [e2, decide_eq_true rfl]
      refine iteF ?_
      have X6 := X5.same s6
      refine ⟨_, rfl, me, dx, _, rfl, s6 _ _ h1, rfl, _, rfl, (by show 1 ≤ sizeLine; decide), fun q nq => ?_⟩
      have s7 : Same H6 (upd H6 q (.tup [V.str "zz9"])) := same_upd nq
      refine catA_go (s7 _ _ (s6 _ _ ht)) upd_same (by rw [List.length_map]; show _ + 1 ≤ 1000; omega) fun cc H8 s8 hc => ?_
      have sC := (sB.trans s7).trans s8
      have X8 := X.same sC
      have k8 := kk.same sC
      have z9 : ∀ y ∈ amgF rs F z, y ≠ ("zz9" : Str) := fun y hy => zF y (List.mem_filter.mp hy).1
      refine ⟨rfl, rfl, me, _, false, t, rfl, X8, .inr (.inl ⟨cc, amgF rs F z ++ [("zz9" : Str)], rfl, (by rw [List.map_append]; exact hc), (by rw [List.length_append]; show _ + 1 ≤ 100; omega), (fun y hy => ?_), ?_, fun H9 s9 => ?_⟩)⟩
      · rcases List.mem_append.mp hy with h | h
        · exact na y h
        · rw [List.mem_singleton.mp h]
          decide +kernel
      · refine List.nodup_append.mpr ⟨nda, List.nodup_cons.mpr ⟨(fun q => by cases q), List.nodup_nil⟩, fun y hy y' hy' e => ?_⟩
        rw [List.mem_singleton.mp hy'] at e
        exact z9 y hy e
      have e3 : t.val (mvF false (amgF rs F z ++ [("zz9" : Str)])) = wants rs [] t z := by
        rw [amg_in (b := false) (x := z) S.lv kk.h_tF fF (fun y hy q => zF y hy (List.mem_singleton.mp q))]
        rfl
      rw [e3]
      have sD := sC.trans s9
      have X9 := X.same sD
      obtain ⟨dx9, v9, fl9, ys9, h9, _⟩ := X9.at_
      refine ⟨_, rfl, _, rfl, me, dx9, _, rfl, h9, rfl, _, rfl, rfl, rfl, of_gN (kk.same sD) X9 S.lv fun q9 H10 s10 mq => ?_⟩
      obtain ⟨zs9, M9, ez9, _⟩ := mq.ex
      obtain ⟨dm9, mt9, md9, hm9, _, _⟩ := M9.at_
      refine ⟨q9, dm9, _, rfl, hm9, q9, zs9, _, rfl, M9, .inl ⟨z, rfl, name_line zN⟩, _, rfl, rfl, _, rfl, ?_⟩
      have e4 : hasV zs9 (.str z) = wants rs [] t z := by
        show decide (z ∈ zs9) = _
        cases hw : wants rs [] t z with
        | true => exact decide_eq_true ((ez9 z).mpr hw)
        | false => exact decide_eq_false fun q => by rw [(ez9 z).mp q] at hw; cases hw
      rw [e4, decide_eq_true rfl]
      exact iteF ⟨sD.trans s10, _, _, _, rfl⟩
  · rintro σ H' ⟨s1, o4, o14, o15, rfl⟩
    exact ⟨fs, pe, kn, pr, sm, sh, gt, tl, me, mb, F, N, G, rs, xs, es, vs, ts, H00, ms, j, v, t, _, _, _, _, _, _, _, _, _, _, rfl, k.same s1, ⟨S.m.same s1, S.ok, S.d, S.lv⟩, X.same s1, Mb.same s1, fun σ' H'' m r => nx σ' H'' ((Mv.same s1 kk.h_hp kk.h_T).trans m) r⟩
end
end K1

namespace K1
open PySem PySem.Spec
open PyProof.Rows L2 L2H EnT StX SmX TxS DuX XdI Tr3 CnB ClX
/-! ### right: the names that are wanted -/
section
variable {CE C p Pt fs pe kn pr sm sh gt : Addr} {F N G : List Str} {rs : List Rw3} {xs : List V} {es : List (Str × Addr)} {vs : List V} {ts : List Fm} {H : Hp}
theorem RtC.l5 (k : RtC CE C p Pt fs pe kn pr sm sh gt F N G rs xs es vs ts H) : rs.length = 5 := by
  have z := congrArg List.length k.h_kF
  rw [List.length_map, List.length_append, k.h_lF] at z
  exact z
theorem RtC.uniq' {H2 : Hp} {f : Str → Bool} {zs ys : List Str} {mb : Addr} (k : RtC CE C p Pt fs pe kn pr sm sh gt F N G rs xs es vs ts H) (M : MemAt C H2 mb zs) (e : ∀ x, x ∈ zs ↔ f x = true) (i : ∀ x ∈ zs, x ∈ N) (srt : sortedS ys = true) (pm : ys.Perm (N.filter f)) : ys = zs :=
  sorted_uniq srt M.srt (pm.nodup_iff.mpr (k.h_ndN.filter _)) M.nd fun x => by
    rw [pm.mem_iff, List.mem_filter, e x]
    exact ⟨fun h => h.2, fun h => ⟨i x ((e x).mpr h), h⟩⟩
end
section
variable {w : World} {P : Program} {base : Heap} {mg : Str → Option Value} {K : PySem.W.Frag} {CE C CN CM CS CU S1 S2 S3 : Addr} {mc : Value}
variable {f c Pt : Addr} {A : Around} {outer : List Env} {s : Shared} {H0 : Hp} {p : Addr}
theorem AtSh.same' {CE C p Pt fs pe kn pr sm sh gt tl me mb : Addr} {F N G : List Str} {rs : List Rw3} {xs : List V} {es : List (Str × Addr)} {vs : List V} {ts : List Fm} {H00 H H' : Hp} {ms : List Addr} {j : Nat} {v : V} {t : Fm} {x4 x7 x14 x15 x16 x17 x18 x19 x20 x21 : Option V} {En : Ends} (s1 : Same H H') (k : Fr CE C p Pt fs pe kn pr sm sh gt tl F N G rs xs es vs ts H00 H ms j En) (S : ShAt H v t F) (X : ExpAt CE H me t) (Mb : MemV C H mb N (wants rs G t)) (nx : ∀ σ' H', Mv p (TbO Pt) H H' → Rst p fs pe kn pr sm sh gt tl σ' → En.nx σ' H') :
    AtSh CE C p Pt [some (.ref p), some (.ref fs), some (.ref pe), some (.ref kn), x4, some (.ref pr), some (.ref sm), x7, some (.ref sh), some (.ref tl), some (.ref gt), some v, some (.ref me), some (.ref mb), x14, x15, x16, x17, x18, x19, x20, x21] H' En :=
  ⟨fs, pe, kn, pr, sm, sh, gt, tl, me, mb, F, N, G, rs, xs, es, vs, ts, H00, ms, j, v, t, _, _, _, _, _, _, _, _, _, _, rfl, k.same s1, ⟨S.m.same s1, S.ok, S.d, S.lv⟩, X.same s1, Mb.same s1, fun σ' H'' m r => nx σ' H'' ((Mv.same s1 k.now.h_hp k.now.h_T).trans m) r⟩
theorem sh4 {fI fW : Addr} (W : Wo P w K mg base CE C CN CM CS CU S1 S2 S3 mc) (hI : Has P w K mg base CX0 8 "_law_in" fI ["_law_shape", "_law_among", "_law_gotten"] (spIn 7)) (hW : Has P w K mg base CX0 9 "_law_wanted" fW ["_law_shape", "_law_known", "_law_people", "_law_given_here"] spWanted) (hr : Room 20 (A.deeper (envOfC "_law_right" (defScope sRight) s.heap.objs.size f (.ref c)))) :
    PSs (cxR P w K mg base f (.ref c) A outer s H0) (shR 4) (fun En σ H => AtSh CE C p Pt σ H En) := by
  refine pss_of fun En σ H hyp => ?_
  obtain ⟨fs, pe, kn, pr, sm, sh, gt, tl, me, mb, F, N, G, rs, xs, es, vs, ts, H00, ms, j, v, t, x4, x7, x14, x15, x16, x17, x18, x19, x20, x21, eσ, k, S, X, Mb, nx⟩ := hyp.ex
  obtain ⟨gO, fO, hmO, FDO, FO⟩ := W.of
  obtain ⟨mvO, kbO⟩ := kb_of3 FDO
  obtain ⟨pN, gN, fdN, pn, GN, bN⟩ := W.b.prop
  have T := W.b.T
  have hun := hr.un
  refine ⟨_, pss_cons (ps_if (pt_cmpR (op_neD (by show (A.deeper (envOfC "_law_right" (defScope sRight) s.heap.objs.size f (.ref c))).units + 64 < cLine; omega))
        (pe_callTy call_listK (by rfl) T.list (by decide +kernel) (pa_cons (pe_prop (pe_methK0 (ks := ["sets"]) (pv 12) W.M.cl hmO FO (hr.mono (by decide)) kbO passL (pk_cons (pv 5) pk_nil)) W.b.M.cl pn GN (hr.mono (by decide)) bN .nil pass0 rfl) pa_nil))
        (pe_has hW (hr.mono (by decide)) (by rfl) pass0 (pa_cons (pv 11) (pa_cons (pv 3) (pa_cons (pv 2) (pa_cons (pe_lst pa_nil) pa_nil))))) (nomark _)) (pss_one (ps_ret pe_bl)) pss_nil)
    (sh5 (p := p) (Pt := Pt) W hI hr), ?_⟩
  subst eσ
  have kk := k.now
  obtain ⟨dx, v', fl, ys, h1, _⟩ := X.at_
  refine ⟨_, rfl, me, dx, _, rfl, h1, rfl, _, rfl, rfl, rfl, of_gN kk X S.lv fun q H2 s2 mq => ?_⟩
  obtain ⟨zs, M2, e2, i2⟩ := mq.ex
  obtain ⟨dm, mt, md, g1, g2, g3⟩ := M2.at_
  refine ⟨q, dm, _, rfl, g1, q, dm, _, _, rfl, g1, flds_names mt md, mt, _, rfl, .inr (SqT.of g2), fun r nr => ?_⟩
  have s3 : Same H2 (upd H2 r (.lst (zs.map V.str))) := same_upd nr
  have hr3 : (upd H2 r (.lst (zs.map V.str))) r = some (.lst (zs.map V.str)) := upd_same
  generalize upd H2 r (.lst (zs.map V.str)) = H3 at s3 hr3 ⊢
  refine ⟨_, rfl, _, rfl, _, rfl, Nat.zero_le _, fun e ne => ?_⟩
  have s4 : Same H3 (upd H3 e (.lst [])) := same_upd ne
  have s24 := (s2.trans s3).trans s4
  have k4 := kk.same s24
  refine ⟨v, t, kn, pe, e, p, rs, N, N, [], rfl, S.m.same s24, S.ok, Nat.le_trans S.d (by decide), k4.h_kn, by have := k4.l5; omega, k4.h_nd, k4.h_pe, by have := k4.h_lN; omega, k4.h_tN, upd_same, fun q5 ys5 H5 n5 s5 h5 srt pm => ?_⟩
  have ey : ys5 = zs := kk.uniq' M2 e2 i2 srt pm
  subst ey
  have ok : OkS ys5 := okS_names fun z hz => kk.h_tN z (i2 z hz)
  refine ⟨_, _, .lst (SqL.of (s5 _ _ (s4 _ _ hr3))) (dpAll_str ys5), .lst (SqL.of h5) (dpAll_str ys5), lstS_shaped ok, lstS_shaped ok, ?_⟩
  rw [lstS_eqv ok]
  exact ⟨_, rfl, iteF (AtSh.same' (s24.trans s5) k S X Mb nx)⟩
theorem sh3 {fI fW : Addr} (W : Wo P w K mg base CE C CN CM CS CU S1 S2 S3 mc) (hI : Has P w K mg base CX0 8 "_law_in" fI ["_law_shape", "_law_among", "_law_gotten"] (spIn 7)) (hW : Has P w K mg base CX0 9 "_law_wanted" fW ["_law_shape", "_law_known", "_law_people", "_law_given_here"] spWanted) (hr : Room 20 (A.deeper (envOfC "_law_right" (defScope sRight) s.heap.objs.size f (.ref c)))) :
    PSs (cxR P w K mg base f (.ref c) A outer s H0) (shR 3) (fun En σ H => AtSh CE C p Pt σ H En) := by
  refine pss_of fun En σ H hyp => ?_
  obtain ⟨fs, pe, kn, pr, sm, sh, gt, tl, me, mb, F, N, G, rs, xs, es, vs, ts, H00, ms, j, v, t, x4, x7, x14, x15, x16, x17, x18, x19, x20, x21, eσ, k, S, X, Mb, nx⟩ := hyp.ex
  obtain ⟨pN, gN, fdN, pn, GN, bN⟩ := W.b.prop
  have T := W.b.T
  have hun := hr.un
  refine ⟨_, pss_cons (ps_if (pt_cmpR (op_neD (by show (A.deeper (envOfC "_law_right" (defScope sRight) s.heap.objs.size f (.ref c))).units + 64 < cLine; omega))
        (pe_callTy call_listK (by rfl) T.list (by decide +kernel) (pa_cons (pe_prop (pv 13) W.b.M.cl pn GN (hr.mono (by decide)) bN .nil pass0 rfl) pa_nil))
        (pe_has hW (hr.mono (by decide)) (by rfl) pass0 (pa_cons (pv 11) (pa_cons (pv 3) (pa_cons (pv 2) (pa_cons (pv 6) pa_nil))))) (nomark _)) (pss_one (ps_ret pe_bl)) pss_nil)
    (sh4 (p := p) (Pt := Pt) W hI hW hr), ?_⟩
  subst eσ
  have kk := k.now
  obtain ⟨zs, M2, e2, i2⟩ := Mb.ex
  obtain ⟨dm, mt, md, g1, g2, g3⟩ := M2.at_
  refine ⟨_, rfl, mb, dm, _, rfl, g1, mb, dm, _, _, rfl, g1, flds_names mt md, mt, _, rfl, .inr (SqT.of g2), fun r nr => ?_⟩
  have s3 : Same H (upd H r (.lst (zs.map V.str))) := same_upd nr
  have hr3 : (upd H r (.lst (zs.map V.str))) r = some (.lst (zs.map V.str)) := upd_same
  generalize upd H r (.lst (zs.map V.str)) = H3 at s3 hr3 ⊢
  have k3 := kk.same s3
  refine ⟨_, rfl, _, rfl, _, rfl, _, rfl, v, t, kn, pe, sm, p, rs, N, N, G, rfl, S.m.same s3, S.ok, Nat.le_trans S.d (by decide), k3.h_kn, by have := k3.l5; omega, k3.h_nd, k3.h_pe, by have := k3.h_lN; omega, k3.h_tN, k3.h_sm, fun q5 ys5 H5 n5 s5 h5 srt pm => ?_⟩
  have ey : ys5 = zs := kk.uniq' M2 e2 i2 srt pm
  subst ey
  have ok : OkS ys5 := okS_names fun z hz => kk.h_tN z (i2 z hz)
  refine ⟨_, _, .lst (SqL.of (s5 _ _ hr3)) (dpAll_str ys5), .lst (SqL.of h5) (dpAll_str ys5), lstS_shaped ok, lstS_shaped ok, ?_⟩
  rw [lstS_eqv ok]
  exact ⟨_, rfl, iteF (AtSh.same' (s3.trans s5) k S X Mb nx)⟩
end
end K1

namespace K1
open PySem PySem.Spec
open PyProof.Rows L2 L2H EnT StX SmX TxS DuX XdI Tr3 CnB ClX
/-! ### right: a whole turn, and the walk -/
structure AtS0 (CE C p Pt : Addr) (σ : L2.St) (H : Hp) (En : Ends) : Prop where
  ex : ∃ (fs pe kn pr sm sh gt tl : Addr) (F N G : List Str) (rs : List Rw3) (xs : List V) (es : List (Str × Addr)) (vs : List V) (ts : List Fm) (H0 : Hp) (ms : List Addr) (j : Nat) (v : V) (x4 x7 x12 x13 x14 x15 x16 x17 x18 x19 x20 x21 : Option V),
    σ = [some (.ref p), some (.ref fs), some (.ref pe), some (.ref kn), x4, some (.ref pr), some (.ref sm), x7, some (.ref sh), some (.ref tl), some (.ref gt), some v, x12, x13, x14, x15, x16, x17, x18, x19, x20, x21] ∧
    Fr CE C p Pt fs pe kn pr sm sh gt tl F N G rs xs es vs ts H0 H ms j En ∧ vs[j]? = some v ∧ ∀ σ' H' ms', Fr CE C p Pt fs pe kn pr sm sh gt tl F N G rs xs es vs ts H0 H' ms' (j + 1) En → Rst p fs pe kn pr sm sh gt tl σ' → En.nx σ' H'
structure AtR5 (CE C p Pt : Addr) (σ : L2.St) (H : Hp) (En : Ends) : Prop where
  ex : ∃ (fs pe kn pr sm sh gt tl : Addr) (F N G : List Str) (rs : List Rw3) (xs : List V) (es : List (Str × Addr)) (vs : List V) (ts : List Fm) (H0 : Hp),
    Rst p fs pe kn pr sm sh gt tl σ ∧ Fr CE C p Pt fs pe kn pr sm sh gt tl F N G rs xs es vs ts H0 H [] 0 En
section
variable {w : World} {P : Program} {base : Heap} {mg : Str → Option Value} {K : PySem.W.Frag} {CE C CN CM CS CU S1 S2 S3 : Addr} {mc : Value}
variable {f c Pt : Addr} {A : Around} {outer : List Env} {s : Shared} {H0 : Hp} {p : Addr}
theorem sh0 {fI fW : Addr} (W : Wo P w K mg base CE C CN CM CS CU S1 S2 S3 mc) (R : Ri P w K mg base CE C Pt) (hI : Has P w K mg base CX0 8 "_law_in" fI ["_law_shape", "_law_among", "_law_gotten"] (spIn 7)) (hW : Has P w K mg base CX0 9 "_law_wanted" fW ["_law_shape", "_law_known", "_law_people", "_law_given_here"] spWanted) (hr : Room 20 (A.deeper (envOfC "_law_right" (defScope sRight) s.heap.objs.size f (.ref c)))) :
    PSs (cxR P w K mg base f (.ref c) A outer s H0) shB (fun En σ H => AtS0 CE C p Pt σ H En) := by
  refine pss_of fun En σ H hyp => ?_
  obtain ⟨fs, pe, kn, pr, sm, sh, gt, tl, F, N, G, rs, xs, es, vs, ts, H00, ms, j, v, x4, x7, x12, x13, x14, x15, x16, x17, x18, x19, x20, x21, eσ, k, ev, nx⟩ := hyp.ex
  obtain ⟨fE, MK, FI⟩ := R.make
  obtain ⟨gO, fO, hmO, FDO, FO⟩ := W.of
  obtain ⟨mvO, kbO⟩ := kb_of2 FDO
  refine ⟨_, pss_cons (ps_set (i := 12) scRt.nd rfl (.inl rfl) (pe_makeR MK FI (hr.mono (by decide)) (by rfl) W.M.g pass0 (pa_cons (pv 11) pa_nil)))
    (pss_cons (ps_set (i := 13) scRt.nd rfl (.inl rfl) (pe_methK (ks := ["given"]) (pv 12) W.M.cl hmO FO (hr.mono (by decide)) kbO passL (pa_cons (pv 5) pa_nil) (pk_cons (pv 10) pk_nil)))
    (pss_cons (ps_expr (pe_bm PySem.F.plainAttrs_list PySem.F.slot_list_append PySem.F.type_list_append mt_append (pv 9) (pa_cons (pv 13) pa_nil)))
    (sh3 (p := p) (Pt := Pt) W hI hW hr))), ?_⟩
  subst eσ
  have kk := k.now
  obtain ⟨t, et, S⟩ := paired_gl kk.h_ss ev
  have j4 : j < 4 := by
    have := (List.getElem?_eq_some_iff.mp et).1
    have := kk.h_s4
    omega
  refine ⟨_, rfl, fun me dx n1 nd nx1 => makeE_at S.m S.ok (Nat.le_trans S.d (by decide)) n1 nd nx1 fun H1 s1 X1 => ⟨rfl, ?_⟩⟩
  have k1 := kk.same s1
  obtain ⟨dx1, v', fl, ys, h1, _⟩ := X1.at_
  refine ⟨_, rfl, me, dx1, _, rfl, h1, rfl, _, rfl, _, rfl, rfl, rfl, of_gG k1 X1 S.lv fun q H2 s2 mq => ?_⟩
  have s12 := s1.trans s2
  have f2 := k.same s12
  have ht := f2.t
  have lm := Paired.len f2.M
  rw [List.length_take] at lm
  refine ⟨_, rfl, .inl ⟨rfl, _, SqL.of ht⟩, _, rfl, tl, _, _, rfl, rfl, ht, by rw [List.length_map, sizeLine_eq]; omega, ?_⟩
  have mG : Mv p (TbO Pt) H00 (upd H2 tl (.lst (ms.map V.ref ++ [.ref q]))) := f2.m.grow k.k.h_hp k.n ht
  have f3 : Fr CE C p Pt fs pe kn pr sm sh gt tl F N G rs xs es vs ts H00 (upd H2 tl (.lst (ms.map V.ref ++ [.ref q]))) (ms ++ [q]) (j + 1) En := by
    refine ⟨k.k, k.n, mG, by rw [upd_same, List.map_append]; rfl, ?_, k.fin⟩
    rw [List.take_add_one, et]
    exact Paired.snoc' (Paired.imp (fun a b h => h.set ht) f2.M) (mq.set ht)
  exact ⟨fs, pe, kn, pr, sm, sh, gt, tl, me, q, F, N, G, rs, xs, es, vs, ts, H00, ms ++ [q], j + 1, v, t, _, _, _, _, _, _, _, _, _, _, rfl, f3, ⟨(S.m.same s12).keep (TupK.set (H := H2) (H' := H2) (fun _ _ e => e) ht), S.ok, S.d, S.lv⟩, (X1.same s2).set ht, mq.set ht, fun σ' H' m r => nx σ' H' _ (f3.mv m) r⟩
theorem rt5 {fI fW : Addr} (W : Wo P w K mg base CE C CN CM CS CU S1 S2 S3 mc) (B : Mo P w K mg base C CN CM mc) (R : Ri P w K mg base CE C Pt) (hI : Has P w K mg base CX0 8 "_law_in" fI ["_law_shape", "_law_among", "_law_gotten"] (spIn 7)) (hW : Has P w K mg base CX0 9 "_law_wanted" fW ["_law_shape", "_law_known", "_law_people", "_law_given_here"] spWanted) (hgd : A.guards = some []) (hr : Room 20 (A.deeper (envOfC "_law_right" (defScope sRight) s.heap.objs.size f (.ref c)))) :
    PSs (cxR P w K mg base f (.ref c) A outer s H0) (rtRest 5) (fun En σ H => AtR5 CE C p Pt σ H En) := by
  refine pss_of fun En σ H hyp => ?_
  obtain ⟨fs, pe, kn, pr, sm, sh, gt, tl, F, N, G, rs, xs, es, vs, ts, H00, r, k⟩ := hyp.ex
  refine ⟨_, pss_cons (ps_for PassesOwn.never rfl (pi_list (pv 8)) (pg_name (i := 11) scRt.nd rfl (.inl rfl)) (sh0 (p := p) (Pt := Pt) W R hI hW hr))
    (rt6 (p := p) (Pt := Pt) W B R hgd hr), ?_⟩
  obtain ⟨x4, x7, x11, x12, x13, x14, x15, x16, x17, x18, x19, x20, x21, rfl⟩ := r
  have kk := k.now
  refine ⟨_, rfl, sh, rfl, ⟨_, SqL.of kk.h_sh⟩, ?_⟩
  refine for_it (g := gName 11) (tb := fun En σ H => AtS0 CE C p Pt σ H En) (D := { nx := fun σ H => AtR6 CE C p Pt σ H En, rt := En.rt, bk := En.bk, ct := En.ct }) (walk_list (xs := vs)) (fun i σ H' => ∃ ms, Fr CE C p Pt fs pe kn pr sm sh gt tl F N G rs xs es vs ts H00 H' ms i En ∧ Rst p fs pe kn pr sm sh gt tl σ) ?_ ?_ ?_ ?_
  · exact ⟨[], k, _, _, _, _, _, _, _, _, _, _, _, _, _, rfl⟩
  · rintro i σ H' _ ⟨ms, k1, _⟩
    exact SqL.of k1.now.h_sh
  · rintro i v σ H1 H2 hi ⟨ms, k1, x4, x7, x11, x12, x13, x14, x15, x16, x17, x18, x19, x20, x21, rfl⟩ ⟨rfl, ey⟩
    exact ⟨fs, pe, kn, pr, sm, sh, gt, tl, F, N, G, rs, xs, es, vs, ts, H00, ms, i, v, _, _, _, _, _, _, _, _, _, _, _, _, rfl, ⟨k1.k, k1.n, k1.m, k1.t, k1.M, fun H' m => k1.fin H' m⟩, ey, fun σ' H' ms' k2 r => ⟨ms', ⟨k2.k, k2.n, k2.m, k2.t, k2.M, fun H' m => k.fin H' m⟩, r⟩⟩
  · rintro σ H' ⟨ms, k1, x4, x7, x11, x12, x13, x14, x15, x16, x17, x18, x19, x20, x21, rfl⟩
    have l4 := k1.M
    rw [Paired.len k.k.h_ss, List.take_length] at l4
    exact ⟨fs, pe, kn, pr, sm, sh, gt, tl, F, N, G, rs, xs, es, vs, ts, ms, _, _, _, _, _, _, _, _, _, _, _, _, _, rfl, k1.now, k1.t, k1.tp, l4, fun H'' m => k1.ends H'' m⟩
end
end K1

namespace K1
open PySem PySem.Spec
open PyProof.Rows L2 L2H EnT StX SmX TxS DuX XdI Tr3 CnB ClX
/-! ### right: what is drawn -/
theorem tag_ne {z w : Str} (h : Tag z) (hw : 3 < w.length) : z ≠ w := fun e => by
  have a := h.hi
  rw [← len_tl, e] at a
  omega
theorem tag_fld {z : Str} (h : Tag z) : fieldB z = true := decide_eq_true ⟨tag_ne h (by decide +kernel), tag_ne h (by decide +kernel)⟩
theorem tag_z9 {z : Str} (h : Tag z) : z ≠ ("zz9" : Str) := fun e => by
  rw [e] at h
  have := h.low 57 (by decide +kernel)
  omega
theorem Ext.fm {p : Addr} {H H' : Hp} {v : V} {t : Fm} (hp : PoolAt H p) (x : K1.Ext p H H') (h : FmAt H v t) : FmAt H' v t := h.keep fun a xs e => x.at (fun k => by
  obtain ⟨u1, u2, u3, hu⟩ := hp
  rw [k, hu] at e
  cases e) e
/-- a heap without the list at t -/
def delH (H : Hp) (t : Addr) : Hp := fun a => if a = t then none else H a
theorem del_at {H : Hp} {t a : Addr} {o : HO} {xs : List V} (ht : H t = some (.lst xs)) (h : H a = some o) (n : ∀ ys, o ≠ .lst ys) : delH H t a = some o := by
  unfold delH
  rw [if_neg fun e => n xs (by rw [e, ht] at h; exact (Option.some.inj h).symm)]
  exact h
theorem MemL.del {C m t : Addr} {H : Hp} {ns : List Str} {xs : List V} (ht : H t = some (.lst xs)) (g : MemL C H m ns) : MemL C (delH H t) m ns := by
  obtain ⟨ys, ⟨⟨dx, t1, d, h1, h2, h3⟩, b, c, e, f⟩, em⟩ := g
  exact ⟨ys, ⟨⟨dx, t1, d, del_at ht h1 (fun _ e => by cases e), del_at ht h2 (fun _ e => by cases e), del_at ht h3 (fun _ e => by cases e)⟩, b, c, e, f⟩, em⟩
/-- before the def begins -/
structure AtR0 (p Pt : Addr) (σ : L2.St) (H : Hp) (En : Ends) : Prop where
  e : σ = [some (.ref p), none, none, none, none, none, none, none, none, none, none, none, none, none, none, none, none, none, none, none, none, none]
  hp : PoolAt H p
  T : LamX.Tabs (TbO Pt) H
  fin : Fin p (TbO Pt) H En
section
variable {w : World} {P : Program} {base : Heap} {mg : Str → Option Value} {K : PySem.W.Frag} {CE C CN CM CS CU S1 S2 S3 : Addr} {mc : Value}
variable {f c Pt : Addr} {A : Around} {outer : List Env} {s : Shared} {H0 : Hp} {p : Addr}
theorem rt0 {fI fW fN fS fP fF fD : Addr} (W : Wo P w K mg base CE C CN CM CS CU S1 S2 S3 mc) (B : Mo P w K mg base C CN CM mc) (R : Ri P w K mg base CE C Pt) (hI : Has P w K mg base CX0 8 "_law_in" fI ["_law_shape", "_law_among", "_law_gotten"] (spIn 7)) (hW : Has P w K mg base CX0 9 "_law_wanted" fW ["_law_shape", "_law_known", "_law_people", "_law_given_here"] spWanted)
    (hN : Has P w K mg base CX0 2 "_law_names" fN ["_law_pool_here", "_law_many"] spNames) (hD : Has P w K mg base CX0 1 "_law_draw" fD ["_law_pool_here", "_law_many"] spDraw)
    (hS : Has P w K mg base CX0 2 "_law_sets" fS ["_law_pool_here", "_law_fields", "_law_people"] spSetsL) (hP : Has P w K mg base CX0 8 "_law_pairs" fP ["_law_known"] (spPairs C))
    (hF : Has P w K mg base CX0 6 "_law_form" fF ["_law_pool_here", "_law_words", "_law_deep"] (spFormL 4)) (hgd : A.guards = some []) (hr : Room 20 (A.deeper (envOfC "_law_right" (defScope sRight) s.heap.objs.size f (.ref c)))) :
    PSs (cxR P w K mg base f (.ref c) A outer s H0) (defBody sRight) (fun En σ H => AtR0 p Pt σ H En) := by
  refine pss_of fun En σ H hyp => ?_
  obtain ⟨eσ, hp, hT, fin⟩ := hyp
  obtain ⟨pF, gF, mF, FF⟩ := W.b.fromT
  have T := W.b.T
  refine ⟨_, pss_cons (ps_asg (pe_tup (pa_cons (pe_has hN (hr.mono (by decide)) (by rfl) pass0 (pa_cons (pv 0) (pa_cons pe_int pa_nil))) (pa_cons (pe_has hN (hr.mono (by decide)) (by rfl) pass0 (pa_cons (pv 0) (pa_cons pe_int pa_nil))) pa_nil)))
      (pg_tup rfl (pgs_cons (pg_name (i := 1) scRt.nd rfl (.inr rfl)) (pgs_cons (pg_name (i := 2) scRt.nd rfl (.inl rfl)) pgs_nil))))
    (pss_cons (ps_set (i := 3) scRt.nd rfl (.inr rfl) (pe_has hS (hr.mono (by decide)) (by rfl) pass0 (pa_cons (pv 0) (pa_cons (pe_op op_cat (pv 1) (pe_lst (pa_cons pe_str pa_nil))) (pa_cons (pv 2) pa_nil)))))
    (pss_cons (ps_asg (pe_tup (pa_cons (pe_has hP (hr.mono (by decide)) (by rfl) pass0 (pa_cons (pv 3) pa_nil))
        (pa_cons (pe_lc (own := [("_law_name", 4)]) (g := gName 4) (tt := tTest (tOp rEq (tCall spDraw [] E0 (tCons (tVar 0) (tCons (tC (.int 3)) tNil))) (tC (.int 0)))) (te := tVar 4) rfl scRt.nd (pi_list (pv 2))
          (blkOk_by (own := [("_law_name", 4)]) (N := nmRt) (sc := defScope sRight) (by decide +kernel)) (fun _ _ _ _ _ => pg_name (i := 4) scRt.nd rfl (Or.inl rfl))
          (fun _ _ _ _ _ => pts_one (pt_cmpR op_eq (pe_has hD (hr.mono (by decide)) (by rfl) pass0 (pa_cons (pv 0) (pa_cons pe_int pa_nil))) pe_int (nomark _))) (fun _ _ _ _ _ => pv 4)) pa_nil)))
      (pg_tup rfl (pgs_cons (pg_name (i := 5) scRt.nd rfl (.inr rfl)) (pgs_cons (pg_name (i := 6) scRt.nd rfl (.inl rfl)) pgs_nil))))
    (pss_cons (ps_setLc (i := 8) (own := [("_law_k", 7)]) (g := gName 7) (tt := tYes) rfl scRt.nd rfl rfl (sw_true rfl rfl rfl (by decide +kernel)) (pi_range1 rfl T.range (pa_cons pe_int pa_nil))
          (blkOk_by (own := [("_law_k", 7)]) (N := nmRt) (sc := defScope sRight) (by decide +kernel)) (fun _ _ _ _ _ => pg_name (i := 7) scRt.nd rfl (Or.inl rfl)) (fun _ _ _ _ _ => pts_nil)
          (fun _ _ _ _ _ => pe_has hF (hr.mono (by decide)) (by rfl) pass0 (pa_cons (pv 0) (pa_cons (pe_op op_cat (pv 1) (pe_lst (pa_cons pe_str (pa_cons pe_str pa_nil)))) (pa_cons (pe_has hD (hr.mono (by decide)) (by rfl) pass0 (pa_cons (pv 0) (pa_cons pe_int pa_nil))) pa_nil)))))
    (pss_cons (ps_asg (pe_tup (pa_cons (pe_lst pa_nil) (pa_cons (pe_smeth (pe_glob (v := .ref C) (by rfl) W.b.M.g rfl) W.b.cr mF FF (hr.mono (by decide)) passL (pa_cons (pe_callTy call_tupK (by rfl) T.tuple (by decide +kernel) (pa_cons (pv 6) pa_nil)) pa_nil)) pa_nil)))
      (pg_tup rfl (pgs_cons (pg_name (i := 9) scRt.nd rfl (.inl rfl)) (pgs_cons (pg_name (i := 10) scRt.nd rfl (.inr rfl)) pgs_nil))))
    (rt5 (p := p) (Pt := Pt) W B R hI hW hgd hr))))), ?_⟩
  subst eσ
  refine ⟨_, rfl, p, 4, rfl, hp, by decide, fun fs F H1 x1 n1 h1 l1 tg1 nd1 => ?_⟩
  refine ⟨_, rfl, p, 7, rfl, x1.pool, by decide, fun pe N H2 x2 n2 h2 l2 tg2 nd2 => ?_⟩
  have fp : fs ≠ p := hp.ne n1
  have pep : pe ≠ p := x1.pool.ne n2
  refine ⟨(by show 2 ≤ sizeLine; decide), fun tp ntp => ?_⟩
  have s3 : Same H2 (upd H2 tp (.tup [.ref fs, .ref pe])) := same_upd ntp
  have x3 := (x1.trans x2).same s3
  have h1' := s3 _ _ (x2.at fp h1)
  have h2' := s3 _ _ h2
  refine ⟨tp, _, rfl, SqT.of upd_same, rfl, _, _, rfl, _, _, rfl, rfl, ?_⟩
  generalize upd H2 tp (.tup [.ref fs, .ref pe]) = H3 at s3 x3 h1' h2' ⊢
  refine ⟨_, rfl, _, rfl, (by show 1 ≤ sizeLine; decide), fun a1 na1 => ?_⟩
  have s4 : Same H3 (upd H3 a1 (.lst [.str "more1"])) := same_upd na1
  have g4 : (upd H3 a1 (.lst [V.str "more1"])) a1 = some (.lst [.str "more1"]) := upd_same
  have x4 := x3.same s4
  have h4a := s4 _ _ h1'
  have h4b := s4 _ _ h2'
  generalize upd H3 a1 (.lst [V.str "more1"]) = H4 at s4 g4 x4 h4a h4b ⊢
  refine ⟨fs, a1, _, _, rfl, rfl, h4a, g4, (by rw [List.length_map, l1]; decide), fun b nb => ?_⟩
  have s5 : Same H4 (upd H4 b (.lst (F.map V.str ++ [.str "more1"]))) := same_upd nb
  have g5 : (upd H4 b (.lst (F.map V.str ++ [V.str "more1"]))) b = some (.lst ((F ++ [("more1" : Str)]).map V.str)) := by rw [upd_same, List.map_append]; rfl
  have x5 := x4.same s5
  have bp : b ≠ p := x4.pool.ne nb
  have h5a := s5 _ _ h4a
  have h5b := s5 _ _ h4b
  generalize upd H4 b (.lst (F.map V.str ++ [V.str "more1"])) = H5 at s5 g5 x5 h5a h5b ⊢
  have ndM : (F ++ [("more1" : Str)]).Nodup := List.nodup_append.mpr ⟨nd1, List.nodup_cons.mpr ⟨(fun q => by cases q), List.nodup_nil⟩, fun y hy y' hy' e => tag_ne (tg1 y hy) (w := "more1") (by decide +kernel) (by rw [e]; exact List.mem_singleton.mp hy')⟩
  refine ⟨_, rfl, p, b, pe, F ++ [("more1" : Str)], N, rfl, x5.pool, bp, pep, g5, h5b, by rw [List.length_append, l1]; decide, by omega, ndM, fun kn H6 rs nkn x6 KN kF => ?_⟩
  have y6 := x5.trans x6
  have h6a := x6.at fp h5a
  have h6b := x6.at pep h5b
  have lrs : rs.length = 5 := by
    have z := congrArg List.length kF
    rw [List.length_map, List.length_append, l1] at z
    exact z
  have tF : ∀ r ∈ rs, nameB r.1 = true ∧ fieldB r.1 = true := fun r hr => by
    have h : r.1 ∈ rs.map (·.1) := List.mem_map.mpr ⟨r, hr, rfl⟩
    rw [kF] at h
    rcases List.mem_append.mp h with h | h
    · exact ⟨tag_name (tg1 _ h), tag_fld (tg1 _ h)⟩
    · rw [List.mem_singleton.mp h]
      exact ⟨by decide +kernel, by decide +kernel⟩
  have tN : ∀ z ∈ N, nameB z = true := fun z hz => tag_name (tg2 z hz)
  refine ⟨_, rfl, kn, p, rs, N, rfl, KN, by omega, by omega, tN, tF, by rw [kF]; exact ndM, fun pr xs es H7 npr s7 h7 pa el pR => ?_⟩
  have x7 := y6.same s7
  have h7a := s7 _ _ h6a
  have h7b := s7 _ _ h6b
  refine ⟨_, rfl, pe, rfl, ⟨_, SqL.of h7b⟩, fun sm nsm => ?_⟩
  have smp : sm ≠ p := x7.pool.ne nsm
  refine lc_it (walk_list (xs := N.map V.str)) (fun i H' => K1.Ext p H7 H' ∧ ∃ ns : List Str, H' sm = some (.lst (ns.map V.str)) ∧ ns.Sublist (N.take i)) ?_ ?_ ?_ ?_
  · exact ⟨(K1.Ext.refl x7.pool).same (same_upd nsm), [], upd_same, List.Sublist.refl _⟩
  · rintro i H' _ ⟨x, _⟩
    exact SqL.of (x.at pep h7b)
  · rintro i x H1 H2 hi ⟨xx, ns, hD, sb⟩ ⟨rfl, ey⟩
    obtain ⟨z, ez, rfl⟩ : ∃ z, N[i]? = some z ∧ x = V.str z := by
      rw [List.getElem?_map] at ey
      cases e : N[i]? with
      | none => rw [e] at ey; cases ey
      | some z => rw [e] at ey; exact ⟨z, rfl, (Option.some.inj ey).symm⟩
    refine ⟨rfl, _, rfl, p, 3, rfl, xx.pool, by decide, by decide, fun d H3 x3' d0 d1 => ⟨rfl, _, rfl, ?_⟩⟩
    have x13 := xx.trans x3'
    have hD3 := x3'.at smp hD
    have et : N.take (i + 1) = N.take i ++ [z] := by rw [List.take_add_one, ez]; rfl
    refine ite2 (fun _ => ?_) (fun _ => ?_)
    · refine ⟨_, rfl, ns.map V.str, hD3, ?_, ext_set x13 nsm smp, ns ++ [z], ?_, ?_⟩
      · have := sb.length_le
        rw [List.length_map, sizeLine_eq]
        rw [List.length_take] at this
        omega
      · rw [upd_same, List.map_append]
        rfl
      · rw [et]
        exact sb.append (List.Sublist.refl _)
    · refine ⟨x13, ns, hD3, ?_⟩
      rw [et]
      exact sb.trans (List.sublist_append_left _ _)
  rintro H8 ⟨x8', G, h8, sG⟩
  rw [List.length_map, List.take_length] at sG
  have x8 := x7.trans x8'
  refine ⟨(by show 2 ≤ sizeLine; decide), fun tp2 ntp2 => ?_⟩
  have s9 : Same H8 (upd H8 tp2 (.tup [.ref pr, .ref sm])) := same_upd ntp2
  refine ⟨tp2, _, rfl, SqT.of upd_same, rfl, _, _, rfl, _, _, rfl, rfl, ?_⟩
  generalize upd H8 tp2 (.tup [.ref pr, .ref sm]) = H9 at s9 ⊢
  have x9 := x8.same s9
  have h9a := s9 _ _ (x8'.at fp h7a)
  refine ⟨4, rfl, by decide, by decide, fun sh nsh => ?_⟩
  have shp : sh ≠ p := x9.pool.ne nsh
  refine lc_range (lo := 0) (n := (4 : Int).toNat) (fun i H' => K1.Ext p H9 H' ∧ ∃ (vs : List V) (ts : List Fm), H' sh = some (.lst vs) ∧ Paired (fun v t => ShAt H' v t F) vs ts ∧ ts.length = i) ?_ ?_ ?_
  · exact ⟨(K1.Ext.refl x9.pool).same (same_upd nsh), [], [], upd_same, .nil, rfl⟩
  · rintro i H1 hi ⟨x, vs, ts, hL, hP, hl⟩
    refine ⟨rfl, ?_⟩
    refine ⟨_, rfl, _, rfl, (by show 2 ≤ sizeLine; decide), fun a na => ?_⟩
    have s1 : Same H1 (upd H1 a (.lst [.str tGiven, .str tNone])) := same_upd na
    have ga : (upd H1 a (.lst [V.str tGiven, .str tNone])) a = some (.lst [.str tGiven, .str tNone]) := upd_same
    have y1 := (x.same s1)
    generalize upd H1 a (.lst [V.str tGiven, .str tNone]) = H2 at s1 ga y1 ⊢
    have hf2 := y1.at fp h9a
    refine ⟨fs, a, _, _, rfl, rfl, hf2, ga, (by rw [List.length_map, l1]; decide), fun b nb => ?_⟩
    have s2 : Same H2 (upd H2 b (.lst (F.map V.str ++ [.str tGiven, .str tNone]))) := same_upd nb
    have gb : (upd H2 b (.lst (F.map V.str ++ [V.str tGiven, .str tNone]))) b = some (.lst ((F ++ [tGiven, tNone]).map V.str)) := by rw [upd_same, List.map_append]; rfl
    have y2 := y1.same s2
    have bp2 : b ≠ p := y1.pool.ne nb
    generalize upd H2 b (.lst (F.map V.str ++ [V.str tGiven, .str tNone])) = H3 at s2 gb y2 ⊢
    refine ⟨_, rfl, p, 5, rfl, y2.pool, by decide, by decide, fun d H4 x4' d0 d1 => ?_⟩
    obtain ⟨dn, rfl⟩ : ∃ n : Nat, d = (n : Int) := ⟨d.toNat, by omega⟩
    have y4 := y2.trans x4'
    refine ⟨p, b, F ++ [tGiven, tNone], dn, rfl, x4'.pool, bp2, x4'.at bp2 gb, by rw [List.length_append]; show 0 < _ + 2; omega, by rw [List.length_append, l1]; decide, fun z hz => ?_, by omega, fun v t H5' x5' fm ok dep lv => ?_⟩
    · rcases List.mem_append.mp hz with h | h
      · exact tag_name (tg1 z h)
      · rcases List.mem_cons.mp h with h | h
        · rw [h]; decide +kernel
        · rw [List.mem_singleton.mp h]; decide +kernel
    · have y5 := y4.trans x5'
      have z1 : K1.Ext p H1 H5' := (((K1.Ext.refl x.pool).same s1).same s2).trans (x4'.trans x5')
      have hL5 := z1.at shp hL
      have lv5 := Paired.len hP
      refine ⟨_, hL5, by rw [lv5, hl, sizeLine_eq]; have : (4 : Int).toNat = 4 := rfl; omega, ext_set y5 nsh shp, vs ++ [v], ts ++ [t], upd_same, ?_, by rw [List.length_append, hl]; rfl⟩
      have kt : TupK H5' (upd H5' sh (.lst (vs ++ [v]))) := TupK.set (H := H5') (H' := H5') (fun _ _ e => e) hL5
      exact Paired.snoc' (Paired.imp (fun a b h => ⟨(Ext.fm x.pool z1 h.m).keep kt, h.ok, h.d, h.lv⟩) hP) ⟨fm.keep kt, ok, by omega, lv⟩
  rintro HA ⟨xA, vs, ts, hsh, hP, l4⟩
  have x7A := (x8'.same s9).trans xA
  have yA := x7.trans x7A
  refine ⟨Nat.zero_le _, fun tl ntl => ?_⟩
  have sB : Same HA (upd HA tl (.lst [])) := same_upd ntl
  have htl : (upd HA tl (.lst [])) tl = some (.lst ([] : List V)) := upd_same
  generalize upd HA tl (.lst []) = HB at sB htl ⊢
  have hsmA : HA sm = some (.lst (G.map V.str)) := (((K1.Ext.refl x8.pool).same s9).trans xA).at smp h8
  have nG : ∀ z ∈ G, nameB z = true := fun z hz => tN z (sG.subset hz)
  have lG : G.length ≤ 7 := by have := sG.length_le; omega
  refine ⟨rfl, _, rfl, sm, G.map V.str, rfl, .inl ⟨SqL.of (sB _ _ hsmA), fun l nl => ?_⟩⟩
  have sC : Same HB (upd HB l (.tup (G.map V.str))) := same_upd nl
  have hl3 : (upd HB l (.tup (G.map V.str))) l = some (.tup (G.map V.str)) := upd_same
  generalize upd HB l (.tup (G.map V.str)) = HC at sC hl3 ⊢
  refine ⟨l, _, rfl, hl3, mk_names nG (by omega) fun gt ys HD ngt sD em M => ?_⟩
  refine ⟨(by show 2 ≤ sizeLine; decide), fun tp3 ntp3 => ?_⟩
  have sE : Same HD (upd HD tp3 (.tup [.ref tl, .ref gt])) := same_upd ntp3
  refine ⟨tp3, _, rfl, SqT.of upd_same, rfl, _, _, rfl, _, _, rfl, rfl, ?_⟩
  generalize upd HD tp3 (.tup [.ref tl, .ref gt]) = HE at sE ⊢
  have sBE : Same HB HE := (sC.trans sD).trans sE
  have htE := sBE _ _ htl
  have sAE : Same HA HE := sB.trans sBE
  have sAO : Same HA (delH HE tl) := fun b o e => by
    unfold delH
    rw [if_neg (fun k => by rw [k, ntl] at e; cases e)]
    exact sAE b o e
  have sOE : Same (delH HE tl) HE := fun b o e => by
    unfold delH at e
    by_cases k : b = tl
    · rw [if_pos k] at e
      cases e
    · rw [if_neg k] at e
      exact e
  have m7 : Mv p (TbO Pt) H H7 := .ext x7 hp hT
  have mA : Mv p (TbO Pt) H7 HA := .ext x7A m7.rx.pool m7.tabs
  have mO : Mv p (TbO Pt) HA (delH HE tl) := .same sAO mA.rx.pool mA.tabs
  have m7O := mA.trans mO
  have mOE : Mv p (TbO Pt) (delH HE tl) HE := .same sOE mO.rx.pool mO.tabs
  have p7 := m7.rx.pool
  have KN7 : KnownAt H7 kn p rs N := ⟨s7 _ _ KN.d, fun r hr => ⟨s7 _ _ (KN.l r hr).1, (KN.l r hr).2⟩⟩
  have kO : RtC CE C p Pt fs pe kn pr sm sh gt F N G rs xs es vs ts (delH HE tl) := {
    h_hp := mO.rx.pool
    h_T := mO.tabs
    h_fs := m7O.lst' fp h7a
    h_fp := fp
    h_pe := m7O.lst' pep h7b
    h_pep := pep
    h_lF := l1
    h_lN := l2
    h_tN := tN
    h_kn := ⟨m7O.at p7 KN7.d (fun _ _ _ e => by cases e) (fun _ e => by cases e), fun r hr => ⟨m7O.lst' (KN7.l r hr).2.2 (KN7.l r hr).1, (KN7.l r hr).2⟩⟩
    h_kF := kF
    h_nd := by rw [kF]; exact ndM
    h_tF := tF
    h_pr := m7O.tup p7 h7
    h_pa := m7O.pairs p7 pa
    h_el := el
    h_pR := Paired.imp (fun a b h => ⟨h.1, m7O.memL p7 h.2⟩) pR
    h_sm := mO.lst' smp hsmA
    h_smp := smp
    h_gN := fun z hz => sG.subset hz
    h_ndN := nd2
    h_zF := fun z hz => tag_z9 (tg1 z hz)
    h_sh := mO.lst' shp hsh
    h_shp := shp
    h_ss := Paired.imp (fun a b h => ⟨mO.fm mA.rx.pool h.m, h.ok, h.d, h.lv⟩) hP
    h_s4 := l4
    h_gt := MemL.del htE ⟨ys, M.same sE, em⟩ }
  have nO : (delH HE tl) tl = none := if_pos rfl
  exact ⟨fs, pe, kn, pr, sm, sh, gt, tl, F, N, G, rs, xs, es, vs, ts, delH HE tl, ⟨_, _, _, _, _, _, _, _, _, _, _, _, _, rfl⟩, ⟨kO, nO, mOE, htE, .nil, fin.mv (m7.trans m7O)⟩⟩
end
end K1

namespace K1
open PySem PySem.Spec
open PyProof.Rows L2 L2H EnT StX SmX TxS DuX XdI Tr3 CnB ClX
/-! ### right, and the law -/
def spRight (Pt : Addr) : Sp := fun vs H Q _ => ∃ p : Addr, vs = [.ref p] ∧ PoolAt H p ∧ LamX.Tabs (TbO Pt) H ∧ ∀ H', Mv p (TbO Pt) H H' → Q (.bl true) H'
/-- the law's own helpers that the right calls -/
structure Hp6 (P : Program) (w : World) (K : PySem.W.Frag) (mg : Str → Option Value) (base : Heap) (C : Addr) : Prop where
  hi : ∃ f, Has P w K mg base CX0 8 "_law_in" f ["_law_shape", "_law_among", "_law_gotten"] (spIn 7)
  hw : ∃ f, Has P w K mg base CX0 9 "_law_wanted" f ["_law_shape", "_law_known", "_law_people", "_law_given_here"] spWanted
  hn : ∃ f, Has P w K mg base CX0 2 "_law_names" f ["_law_pool_here", "_law_many"] spNames
  hd : ∃ f, Has P w K mg base CX0 1 "_law_draw" f ["_law_pool_here", "_law_many"] spDraw
  hs : ∃ f, Has P w K mg base CX0 2 "_law_sets" f ["_law_pool_here", "_law_fields", "_law_people"] spSetsL
  hp : ∃ f, Has P w K mg base CX0 8 "_law_pairs" f ["_law_known"] (spPairs C)
  hf : ∃ f, Has P w K mg base CX0 6 "_law_form" f ["_law_pool_here", "_law_words", "_law_deep"] (spFormL 4)
section
variable {w : World} {P : Program} {base : Heap} {mg : Str → Option Value} {K : PySem.W.Frag} {CE C CN CM CS CU S1 S2 S3 : Addr} {mc : Value} {f c Pt : Addr}
theorem ok_right (W : Wo P w K mg base CE C CN CM CS CU S1 S2 S3 mc) (B : Mo P w K mg base C CN CM mc) (R : Ri P w K mg base CE C Pt) (X : Hp6 P w K mg base C) (FR : FunC K "_law_right" "_law_right" sRight f c) : FnG P w K mg base CX0 21 f (spRight Pt) := by
  intro A outer st H us vs Q E hgd hr e0 r hyp
  obtain ⟨p, rfl, hp, hT, q⟩ := hyp
  obtain ⟨fI, hI⟩ := X.hi
  obtain ⟨fW, hW⟩ := X.hw
  obtain ⟨fN, hN⟩ := X.hn
  obtain ⟨fD, hD⟩ := X.hd
  obtain ⟨fS, hS⟩ := X.hs
  obtain ⟨fP, hP⟩ := X.hp
  obtain ⟨fF, hF⟩ := X.hf
  obtain ⟨oc, od, kV, doc, pm, an, ct, osl, lk, hcd⟩ := FR.ex
  refine LamX.run_ofS (N := nmRt) (ps := ["_law_pool_here"]) (us := us) (vs := [.ref p]) lk hcd scRt hr e0 ?_ r rfl fun hr' => ⟨_, (rt0 (p := p) (Pt := Pt) W B R hI hW hN hD hS hP hF hgd hr').nox, ?_⟩
  · have b : L2.Binds K (PySem.W.fnOf "_law_right" "_law_right" (defArgs sRight) (defBody sRight) (defScope sRight) .none kV doc pm an (.ref c) ct) ["_law_pool_here"] [] := .all fun us hl => match us, hl with | [_], _ => rfl
    have hl : us.length = 1 := by rw [← r.length]; rfl
    have z := b st us (e0.mod.kin.keeps fun b o e => (e0.bs b o e).1) (by rw [List.append_nil]; exact hl)
    rw [List.append_nil] at z
    exact z
  · exact ⟨rfl, hp, hT, fun H' m' => q H' m'⟩
end
abbrev nmLaw : List Str := ["_law_cells", "_law_k"]
theorem scLaw : FnScope nmLaw ["_law_cells"] (defScope sLaw) := ⟨rfl, rfl, rfl, by decide +kernel, rfl, by decide +kernel, by decide +kernel⟩
/-- the law's promise: it tells True -/
def spLaw (K : PySem.W.Frag) (Pt : Addr) : Sp := fun vs H Q _ => ∃ (a : Addr) (ns : List Int), vs = [.ref a] ∧ SqL K H a (ns.map V.int) ∧ ns.length < 2 ^ 60 ∧ LamX.Tabs (TbO Pt) H ∧ ∀ H', Q (.bl true) H'
/-- all but the tables stays -/
structure LX (Pt : Addr) (H H' : Hp) : Prop where
  keep : ∀ b o, H b = some o → (∀ ps, o ≠ .tbl ps) → H' b = some o
  tabs : LamX.Tabs (TbO Pt) H'
theorem LX.seq {K : PySem.W.Frag} {Pt a : Addr} {H H' : Hp} {xs : List V} (x : LX Pt H H') (h : SqL K H a xs) : SqL K H' a xs := by
  rcases h with h | h
  · rcases h with h | ⟨o, h⟩
    · exact .inl (.inl (x.keep _ _ h (fun _ e => by cases e)))
    · exact .inl (.inr ⟨o, x.keep _ _ h (fun _ e => by cases e)⟩)
  · exact .inr h
section
variable {w : World} {P : Program} {base : Heap} {mg : Str → Option Value} {K : PySem.W.Frag} {fL Pt : Addr}
/-- what the law itself calls -/
structure Top (P : Program) (w : World) (K : PySem.W.Frag) (mg : Str → Option Value) (base : Heap) (Pt : Addr) : Prop where
  cell : ∃ f, Has P w K mg base CX0 1 "_law_cell" f ["_law_cells", "_law_k"] (spCell K)
  pool : ∃ f, Has P w K mg base CX0 1 "_law_pool" f ["_law_cell_here"] spPool
  right : ∃ f, mg "_law_right" = some (.ref f) ∧ PySem.W.keepIn K (.ref f) = true ∧ FnG P w K mg base CX0 21 f (spRight Pt)
theorem ok_law (T : Free mg) (TP : Top P w K mg base Pt) {cL : Addr} (FL : FunC K "law" "law" sLaw fL cL) : FnG P w K mg base CX0 22 fL (spLaw K Pt) := by
  intro A outer s H us vs Q E hgd hr e0 r h
  obtain ⟨a, ns, rfl, hS, hlen, hT, q⟩ := h
  obtain ⟨oc, od, kV, doc, pm, an, ct, osl, lk, hcd⟩ := FL.ex
  obtain ⟨fC, hC⟩ := TP.cell
  obtain ⟨fP, hP⟩ := TP.pool
  obtain ⟨fR, mgR, kpR, GR⟩ := TP.right
  have body : ∀ hr' : Room 21 (A.deeper (envOfC "law" (defScope sLaw) s.heap.objs.size fL (.ref cL))), ∃ t, PSs (cxOf CX0 P w K mg base nmLaw "law" (defScope sLaw) fL (.ref cL) A outer s H E).nox (defBody sLaw) t ∧ t { nx := fun _ H' => Q .non H', rt := Q } (L2.start nmLaw [.ref a]) H := fun hr' => by
    refine ⟨_, pss_one (ps_ret (pe_callB (cr_all rfl) (by rfl) T.all (by decide +kernel) (pa_cons (pe_lc (own := [("_law_k", 1)]) (g := gName 1) (tt := tYes) (te := tCall (spRight Pt) [] E0 (tCons (tCall spPool [] E0 (tCons (tCall (spCell K) [] E0 (tCons (tVar 0) (tCons (tVar 1) tNil))) tNil)) tNil)) rfl scLaw.nd
        (pi_range1 rfl T.range (pa_cons (pe_callB (call_max2 rfl) (by rfl) T.max (by decide +kernel) (pa_cons pe_int (pa_cons (pe_callB (call_min2 rfl) (by rfl) T.min (by decide +kernel) (pa_cons (pe_callB call_len_seq (by rfl) T.len PySem.boot_len (pa_cons (pv 0) pa_nil)) (pa_cons pe_int pa_nil))) pa_nil))) pa_nil))
        (blkOk_by (own := [("_law_k", 1)]) (N := nmLaw) (sc := defScope sLaw) (by decide +kernel)) (fun _ _ _ _ _ => pg_name (i := 1) scLaw.nd rfl (Or.inl rfl)) (fun _ _ _ _ _ => pts_nil)
        (fun _ _ _ _ _ => pe_callG (x := "_law_right") GR (by exact hgd) hr' (by rfl) mgR kpR (pa_cons (pe_has (x := "_law_pool") (sp := spPool) hP (hr'.mono (by decide)) (by rfl) pass0 (pa_cons (pe_has (x := "_law_cell") (sp := spCell K) hC (hr'.mono (by decide)) (by rfl) pass0 (pa_cons (pv 0) (pa_cons (pv 1) pa_nil))) pa_nil)) pa_nil))) pa_nil))), ?_⟩
    refine ⟨_, rfl, a, _, rfl, .inl hS, _, _, rfl, ?_⟩
    rw [List.length_map]
    generalize eN : (if (6 : Int) < ((ns.length : Nat) : Int) then (6 : Int) else ((ns.length : Nat) : Int)) = n6
    have b6 : n6 ≤ 6 := by
      rw [← eN]
      split <;> omega
    refine ⟨_, _, rfl, ?_⟩
    generalize eM : (if n6 > (2 : Int) then n6 else (2 : Int)) = m
    have m0 : 0 ≤ m ∧ m ≤ 6 := by
      rw [← eM]
      split <;> omega
    obtain ⟨n, rfl⟩ := Int.eq_ofNat_of_zero_le m0.1
    refine ⟨n, rfl, by omega, by omega, fun L nL => ?_⟩
    refine lc_range (lo := 0) (n := ((n : Nat) : Int).toNat) (fun i H' => LX Pt H H' ∧ H' L = some (.lst ((List.replicate i true).map V.bl))) ?_ ?_ ?_
    · exact ⟨⟨fun b o e _ => (same_upd nL) b o e, hT.ext (same_upd nL)⟩, upd_same⟩
    · rintro i H' hi ⟨x, hL⟩
      refine ⟨rfl, ?_⟩
      refine ⟨_, rfl, _, rfl, a, ns, i, (by rw [Int.zero_add]; rfl), x.seq hS, fun z => ?_⟩
      refine ⟨z, rfl, fun p np d1 d2 d3 => ?_⟩
      have s1 : Same H' (upd H' p (.lst [.int d1, .int d2, .int d3])) := same_upd np
      refine ⟨p, rfl, ⟨d1, d2, d3, upd_same⟩, x.tabs.ext s1, fun H2 m2 => ?_⟩
      have hL2 : H2 L = some (.lst ((List.replicate i true).map V.bl)) := m2.rx.keep _ _ (fun e => by rw [e, np] at hL; cases hL) (s1 _ _ hL) (fun _ e => by cases e)
      refine ⟨_, hL2, by rw [List.length_map, List.length_replicate, sizeLine_eq]; omega, ?_⟩
      refine ⟨⟨fun b o e nt => ?_, tabs_upd hL2 m2.tabs⟩, by rw [upd_same, List.replicate_succ', List.map_append]; rfl⟩
      have hb := x.keep b o e nt
      rw [upd_ne (fun z => by rw [z, nL] at e; cases e)]
      exact m2.rx.keep b o (fun z => by rw [z, np] at hb; cases hb) (s1 _ _ hb) nt
    · rintro H2 ⟨x, hL⟩
      refine ⟨L, _, rfl, SqL.of hL, ?_⟩
      have e3 : (List.replicate (((n : Nat) : Int).toNat) true).all id = true := by
        rw [List.all_eq_true]
        intro b hb
        rw [List.eq_of_mem_replicate hb]
        rfl
      rw [e3]
      exact q H2
  refine LamX.run_ofS (N := nmLaw) (ps := ["_law_cells"]) (us := us) (vs := [.ref a]) lk hcd scLaw hr e0 ?_ r rfl fun hr' => ?_
  · have b : L2.Binds K (PySem.W.fnOf "law" "law" (defArgs sLaw) (defBody sLaw) (defScope sLaw) .none kV doc pm an (.ref cL) ct) ["_law_cells"] [] := .all fun us hl => match us, hl with | [_], _ => rfl
    have hl : us.length = 1 := by rw [← r.length]; rfl
    have z := b s us (e0.mod.kin.keeps fun b o e => (e0.bs b o e).1) (by rw [List.append_nil]; exact hl)
    rw [List.append_nil] at z
    exact z
  · obtain ⟨t, ht, hq⟩ := body hr'
    exact ⟨t, ht.nox, hq⟩
end
end K1

/-! the end, for a law that makes texts of what it holds -/
namespace EnG
open PySem PySem.Spec
open PyProof.Rows L2 LamX
theorem call_tabs {P : Program} {w : World} {K : PySem.W.Frag} {mg mb : Str → Option Value} {k : Nat} {fa a : Addr} {cs : List (Addr × Addr)} {sp : Sp} {s₁ : Shared} {vs : List Value} {ns : List Int}
    (kInS : K.In s₁.heap) (nsG : s₁.heap.Ns mainGlobals mg) (nsB : s₁.heap.Ns builtinsNs mb) (bltB : ∀ x : Str, x ≠ "__name__" → mb x = bootBuiltins x) (noLim : s₁.heap.NoLimit) (gen0 : s₁.gens = #[])
    (tabE : ∀ p ∈ cs, s₁.heap.get? p.2 = some { cls := .none, data := .fields #[] }) (tabN : ∀ p ∈ cs, K.lookup p.2 = none) (C : ∀ p ∈ cs, PySem.W.CodeHd s₁.heap p.1 p.2)
    (modB : ∃ (bm : Addr) (ob : Obj), mg "__builtins__" = some (.ref bm) ∧ bm ≠ builtinsNs ∧ s₁.heap.get? bm = some ob ∧ ob.cls = .type "module" ∧ ob.dict = some builtinsNs ∧ ob.data = .plain)
    (lstA : s₁.heap.get? a = some { cls := .type "list", data := .seq vs.toArray }) (intA : IntsAre vs ns) (lenA : ns.length ≤ sizeLine) (roomA : Room k callerA)
    (F : ∀ base : Heap, K.In base → base.Ns mainGlobals mg → (∀ p ∈ cs, TabB base mg p.1 p.2) → K1.FnG P w K mg base CX0 k fa sp)
    (askS : ∀ H : Hp, (∀ p ∈ cs, H p.2 = some (.tbl #[])) → SqL K H a (ns.map V.int) → sp [.ref a] H (fun v _ => v = .bl true) fun _ _ _ => False) :
    codeAny (model P w) callerA (.call (.ref fa) ⟨[.ref a], []⟩) (fun r s' => r
        = .ok (.ret (.bool true)) ∧ OldK s₁.heap s'.heap ∧ s'.os = s₁.os ∧ AllBare s'.gens) s₁ := by
  have relA := vals_ints intA
  have lenI := intA.length
  have isTab : ∀ b : Addr, b ∈ cs.map (·.2) → s₁.heap.get? b = some { cls := .none, data := .fields #[] } := fun b nsB => by
    obtain ⟨p, hp, e⟩ := List.mem_map.mp nsB
    rw [← e]
    exact tabE p hp
  have aNot : a ∉ cs.map (·.2) := fun z => by
    have q := isTab a z
    rw [lstA] at q
    have z' : Data.seq vs.toArray _ = Data.fields
        #[] := congrArg Obj.data (Option.some.inj q)
    cases z'
  have memTab : ∀ p ∈ cs, p.2 ∈ cs.map (·.2) := fun p hp => List.mem_map.mpr ⟨p, hp, rfl⟩
  have coreH : ∀ H : Hp, (∀ p ∈ cs, H p.2 = some (.tbl #[])) → (∀ b, H b = none ∨ b ∈ cs.map (·.2) ∨ ∃ o xs, H b = some (.frz o (.lst xs))) → SqL K H a (ns.map V.int) → HOk P w H s₁.heap → (∀ b, H b ≠ none → b = a ∨ b ∈ cs.map (·.2)) → (H a ≠ none → K.lookup a = none) →
      codeAny (model P w) callerA (.call (.ref fa) ⟨[.ref a], []⟩) (fun r s' => r
          = .ok (.ret (.bool true)) ∧ OldK s₁.heap s'.heap ∧ s'.os = s₁.os ∧ AllBare s'.gens) s₁ := by
    intro H tabH onlyH seqH okH hasH keyH
    have baseOf : ∀ {b : Addr} {o : Obj}, s₁.heap.get? b = some o → H b = none → (hidT s₁.heap H).get? b = some o := fun e n => hidT_get e n
    have noDat : ∀ {b : Addr} {o : Obj}, s₁.heap.get? b = some o → (∀ vs n, o.data ≠ .seq vs n) → o.data ≠ .fields #[] → H b = none := fun {b o} e h1 h2 => by
      cases q : H b with
      | none => rfl
      | some u =>
        rcases hasH b (by rw [q]; simp) with e' | e'
        · rw [e', lstA] at e
          cases e
          exact (h1 _ _ rfl).elim
        · rw [isTab b e'] at e
          cases e
          exact (h2 rfl).elim
    have noDic : ∀ {b : Addr} {o : Obj} {es : Array DictEntry} {ep : Nat}, s₁.heap.get? b = some o → o.data = .dict es ep → H b = none := fun {b o es ep} e d => by
      refine noDat e (fun vs n z => ?_) fun z => ?_
      · rw [d] at z
        cases z
      · rw [d] at z
        cases z
    have nsKeep : ∀ {b : Addr} {m : Str → Option Value}, s₁.heap.Ns b m → (hidT s₁.heap H).Ns b m := fun {b m} ⟨o, es, ep, e, d, r⟩ => ⟨o, es, ep, baseOf e (noDic e d), d, r⟩
    have kInB : K.In (hidT s₁.heap H) := fun b o e => baseOf (kInS b o e) (by
      cases q : H b with
      | none => rfl
      | some u =>
        rcases hasH b (by rw [q]; simp) with e' | e'
        · rw [e'] at e q
          rw [keyH (by rw [q]; simp)] at e
          cases e
        · obtain ⟨p, hp, ep⟩
              := List.mem_map.mp e'
          rw [← ep, tabN p hp] at e
          cases e)
    have modM : L2.Mod K mg (hidT s₁.heap H) := ⟨kInB, nsKeep nsG, ⟨mb, nsKeep nsB, bltB⟩, let ⟨mc, h1, h2⟩ := noLim; ⟨mc, nsKeep h1, h2⟩⟩
    have tabB : ∀ p ∈ cs, TabB (hidT s₁.heap H) mg p.1 p.2 := fun p hp => by
      have hTp := tabE p hp
      refine ⟨?_, ?_, fun z => ?_⟩
      · obtain ⟨o, us, file, tf, flags, tg, inF, text,
            tt, e1, r1, r2, r3, r4, r5, r6, r7, r8, hne⟩ := C p hp
        refine ⟨o, us, file, tf, flags, tg, inF, text, tt, baseOf e1 (noDat e1 (fun vs n z => ?_) fun z => ?_), r1, r2, r3, r4, r5, r6, r7, r8, hne⟩
        · rw [r2] at z
          cases z
        · rw [r2] at z
          cases z
          simp at r3
      · obtain ⟨bm, ob, b1, b2, b3, b4, b5, b6⟩ := modB
        have nG : bm ≠ mainGlobals
            := fun q => by
          obtain ⟨o, es, ep, e, hd, _⟩ := nsG
          rw [q, e] at b3
          cases b3
          rw [hd] at b6
          cases b6
        have nP : bm ≠
            p.2 := fun q => by
          rw [q, hTp] at b3
          cases b3
          cases b6
        refine ⟨bm, ob, b1, b2, nG, nP, baseOf b3 (noDat b3 (fun vs n z => ?_) fun z => ?_), b4, b5, b6⟩
        · rw [b6] at z
          cases z
        · rw [b6] at z
          cases z
      · obtain ⟨o, es, ep, e, hd, _⟩ := nsG
        rw [z, hTp] at e
        cases e
        cases hd
    have env0 : Env0 P w K mg (hidT s₁.heap H) callerA [] s₁ H := ⟨rfl, modM, fun b o e => of_hidT e, Nat.le_of_eq (hidT_size _ _), trivial, fun b nsB => absurd (show b ∈ ([] : List Addr) from nsB) (by simp), okH, .of_eq gen0⟩
    refine codeAny_mono (F _ kInB (nsKeep nsG) tabB callerA [] s₁ H [.ref a] [.ref a] _ _ rfl roomA env0 (.cons rfl .nil) (askS H tabH seqH)) fun r s' h => ?_
    cases r with
    | error e => exact (show False from h).elim
    | ok fl =>
      cases fl with
      | next => exact False.elim h
      | brk => exact False.elim h
      | cont => exact False.elim h
      | ret u =>
        obtain ⟨v, H', osA, barA, unA, hok', r', q⟩ := h
        have q' : v = .bl true := q
        subst q'
        obtain rfl : u = Value.bool
            true := r'
        have keyB : ∀ b o, b ∉ cs.map (·.2) → s₁.heap.get? b = some o → s'.heap.get? b = some o := fun b o nb e => by
          cases q : H b with
          | none => exact unA.keep b o e q (by intro z; exact absurd (show b ∈ ([] : List Addr) from z) (by simp)) (by simp)
          | some u =>
            rcases onlyH b with z | z | ⟨ob, xs, z⟩
            · rw [q] at z; cases z
            · exact absurd z nb
            · have z2 := unA.frzs b ob _ z
              obtain ⟨e1, _⟩ := okH b _ z
              obtain ⟨e2, _⟩ := hok' b _ z2
              rw [e] at e1; cases e1
              exact e2
        have grewT : ∀ p ∈ cs, ∃ more : Array Value, s'.heap.get? p.2 = some { cls := .none, data := .fields more } := fun p hp => by
          obtain ⟨more, z⟩ := unA.tbls p.2 #[] (tabH p hp)
          exact ⟨_, hok' p.2 _ z⟩
        refine ⟨rfl, ⟨fun b o e => ?_, fun b o e => ?_⟩, osA, barA⟩
        · by_cases nsB : b ∈ cs.map (·.2)
          · obtain ⟨p, hp, ep⟩ := List.mem_map.mp nsB
            obtain ⟨more, hm⟩ := grewT p hp
            rw [← ep] at e ⊢
            rw [tabE p hp] at e
            cases e
            exact .inr (.inl ⟨((C p hp).tab (tabE p hp)).isCodeTable, rfl, #[], more, rfl, by rw [Array.empty_append]; exact hm⟩)
          · exact .inl (keyB b o nsB e)
        · by_cases nsB : b ∈ cs.map (·.2)
          · obtain ⟨p, hp, ep⟩ := List.mem_map.mp nsB
            obtain ⟨more, hm⟩ := grewT p hp
            rw [← ep]
            exact ⟨_, hm⟩
          · exact ⟨o, keyB b o nsB e⟩
  cases hk : K.lookup a with
  | some o =>
    have e := kInS a o hk
    rw [lstA] at e
    cases e
    refine coreH (fun b => if b ∈ cs.map (·.2) then some (.tbl #[]) else none) (fun p hp => if_pos (memTab p hp)) (fun b => ?_) (.inr ⟨_, vs.toArray, _, hk, rfl, rfl, rfl, by rw [List.size_toArray, lenI]; exact lenA, by simpa using relA⟩) (fun b u z => ?_) (fun b z => ?_) fun z => absurd (show (if a ∈ cs.map (·.2) then some (HO.tbl #[]) else none) = none from if_neg aNot) z
    · by_cases nsB : b ∈ cs.map (·.2)
      · exact .inr (.inl nsB)
      · exact .inl (if_neg nsB)
    · by_cases nsB : b ∈ cs.map (·.2)
      · have z' := (if_pos nsB).symm.trans z
        cases z'
        exact isTab b nsB
      · have z' := (if_neg nsB).symm.trans z
        cases z'
    · by_cases nsB : b ∈ cs.map (·.2)
      · exact .inr nsB
      · exact absurd (if_neg nsB) z
  | none =>
    refine coreH (fun b => if b = a then some (.frz { cls := .type "list", data := .seq vs.toArray } (.lst (ns.map V.int))) else if b ∈ cs.map (·.2) then some (.tbl #[]) else none) (fun p hp => (if_neg (show ¬ p.2 = a from fun z => aNot (by rw [← z]; exact memTab p hp))).trans (if_pos (memTab p hp))) (fun b => ?_)
      (.inl (.inr ⟨{ cls := .type "list", data := .seq vs.toArray
          }, if_pos rfl⟩)) (fun b u z => ?_) (fun b z => ?_) fun _ => hk
    · by_cases nsB : b = a
      · exact .inr (.inr ⟨_, _, if_pos nsB⟩)
      · by_cases hb2
            : b ∈ cs.map (·.2)
        · exact .inr (.inl hb2)
        · exact .inl ((if_neg nsB).trans (if_neg hb2))
    · by_cases nsB : b = a
      · have z' := (if_pos nsB).symm.trans z
        cases z'
        rw [nsB]
        exact ⟨lstA, by rw [List.length_map]; exact lenA, vs, _, relA, lstA⟩
      · have z1 := (if_neg nsB).symm.trans z
        by_cases hb2 :
            b ∈ cs.map (·.2)
        · have z' := (if_pos
              hb2).symm.trans z1
          cases z'
          exact isTab b hb2
        · have z' := (if_neg
              hb2).symm.trans z1
          cases z'
    · by_cases nsB : b = a
      · exact .inl nsB
      · by_cases hb2
            : b ∈ cs.map (·.2)
        · exact .inr hb2
        · exact absurd ((if_neg nsB).trans (if_neg hb2)) z
end EnG

namespace EnG
open PySem PySem.Spec
open PyProof.Rows L2 LamX
/-- the defs of the top as the head leaves them -/
def TabsAt (q : Program) (mg : Str → Option Value) (h : Heap) : Prop := ∀ d ∈ recsOf q, ∃ a o fd c P, mg d.name = some (.ref a) ∧ h.get? a = some o ∧ o.data = .func fd ∧ fd.code = .ref c ∧ h.IsCode c P #[] ∧ h.TableAt c P #[]
structure LawG (l : PySem.W.OpenLaw) (w : World) (k n : Nat) (mg : Str → Option Value) (fa : Addr) (h : Heap) : Prop where
  ex : ∃ (K : PySem.W.Frag) (cs : List (Addr × Addr)) (sp : Sp), K.In h ∧ (∀ p ∈ cs, h.get? p.2 = some { cls := .none, data := .fields #[] }) ∧ (∀ p ∈ cs, K.lookup p.2 = none) ∧ (∀ p ∈ cs, PySem.W.CodeHd h p.1 p.2) ∧
    (∀ (H : Hp) (a : Addr) (ns : List Int), ns.length ≤ n → (∀ p ∈ cs, H p.2 = some (.tbl #[])) → SqL K H a (ns.map V.int) → sp [.ref a] H (fun v _ => v = .bl true) fun _ _ _ => False) ∧
    ∀ base : Heap, K.In base → base.Ns mainGlobals mg → (∀ p ∈ cs, TabB base mg p.1 p.2) → K1.FnG l.prog w K mg base CX0 k fa sp
theorem walk_G {l : PySem.W.OpenLaw} {n k : Nat} {q : Program} {loose : List Str} {XP : (Str → Option Value) → Heap → Prop} {YP : World → Heap → Prop} {d : DefRec}
    (hn : l.most = some n) (hn2 : n ≤ sizeLine)
        (hdf : d.params.defaults = []) (hr : Room k callerA)
    (F : ∀ (w : World) (mg : Str → Option Value) (fa : Addr) (h : Heap), YP w h → h.Ns mainGlobals mg → mg d.name = some (.ref fa) → TabsAt q mg h → LawG l w k n mg fa h) :
    PySem.W.WalkO q loose XP YP l.row.toRowW
        d [] (fun f vs => PySem.call f vs) := by
  refine Att.attach_callB hn hdf fun w s₀ s₁ mg mb fa o
      pm cd doc a vs ns G Y ho hd hcd hmg hobj hints hlen hbits hg => ?_
  obtain ⟨K, cs, sp, KX, hT, nT, C, hsp, hF⟩ := (F w mg fa _ Y G.T.g hmg G.T.tab).ex
  exact call_tabs KX G.T.g G.T.b G.T.builtins G.T.nolimit hg hT nT C G.T.bmain hobj hints (Nat.le_trans hlen hn2) hr hF (fun H hH hS => hsp H a ns hlen hH hS)
/-- the table of a def's code object -/
theorem tab_of {K : PySem.W.Frag} {q : Program} {mg : Str → Option Value} {h : Heap} {f c P : Addr} {x : Str} {o : Obj} {fd : FuncData} {ec : Value} {dc : Option Addr} {vc : Array Value} {slc : Array (Option Value)} (KX : K.In h) (T : TabsAt q mg h) (hrec : ((recsOf q).any fun e => e.name == x) = true)
    (hx : mg x = some (.ref f)) (lk : K.lookup f = some o) (hd : o.data = .func fd) (hc : fd.code = .ref c) (lc : K.lookup c = some ⟨ec, dc, .fields vc, slc⟩) (h11 : vc[11]? = some (.ref P)) :
    h.get? P = some { cls := .none, data := .fields #[] } ∧ PySem.W.CodeHd h c P := by
  obtain ⟨d, hm, hn⟩ := List.any_eq_true.mp hrec
  have hn : d.name = x := beq_iff_eq.mp hn
  obtain ⟨a', o', fd', c', P', h1, h2, h3, h4, h5, h6⟩ := T d hm
  rw [hn, hx] at h1
  cases h1
  have g1 := KX _ _ lk
  rw [g1] at h2
  cases h2
  rw [hd] at h3
  cases h3
  rw [hc] at h4
  cases h4
  have h6' := h6
  obtain ⟨⟨oc, us, e1, _, e3, e4⟩, hP⟩ := h6
  have g2 := KX _ _ lc
  rw [g2] at e1
  cases e1
  cases e3
  rw [h11] at e4
  cases e4
  exact ⟨hP, PySem.W.CodeHd.of h5 h6'⟩
end EnG

namespace K1
open PySem PySem.Spec
open PyProof.Rows L2 EnT StX SmX TxS DuX XdI Tr3 CnB ClX
section
variable {K : PySem.W.Frag}
/-- a def where it stands -/
structure DefR (K : PySem.W.Frag) (x qual : Str) (st : Stmt) (f : Addr) : Prop where
  ex : ∃ (oc : Value) (od : Option Addr) (kV doc pm : Value) (an : Option Addr) (cdv ct : Value) (osl : Array (Option Value)), K.lookup f = some ⟨oc, od, .func (PySem.W.fnOf x qual (defArgs st) (defBody st) (defScope st) .none kV doc pm an cdv ct), osl⟩ ∧ PySem.W.codeIn K cdv qual = true
  kp : PySem.W.keepIn
      K (.ref f) = true
theorem DefR.fun_ {x qual : Str} {st : Stmt} {f : Addr} (d : DefR K x qual st f) : ∃ fd, Fun K x qual st f fd := by
  obtain ⟨oc, od, kV, doc, pm, an, cdv, ct, osl, l, c⟩ := d.ex
  exact ⟨_, fun_mk l c d.kp⟩
/-- a def of the top -/
def GloD (K : PySem.W.Frag) (x : Str) (st : Stmt) : Prop := ∃ f, PySem.W.nsIn K mainGlobals x = some (some (.ref f)) ∧ DefR K x x st f
theorem gloD_mk {x : Str} {st : Stmt} {f : Addr} {oc kV doc pm cdv ct : Value} {od an : Option Addr} {osl : Array (Option Value)} (a : PySem.W.nsIn K mainGlobals x = some (some (.ref f)))
    (l : K.lookup f = some ⟨oc, od, .func (PySem.W.fnOf x x (defArgs st) (defBody st) (defScope st) .none kV doc pm an cdv ct), osl⟩) (c : PySem.W.codeIn K cdv x = true) (k : PySem.W.keepIn K (.ref f) = true) : GloD K x st := ⟨f, a, ⟨oc, od, kV, doc, pm, an, cdv, ct, osl, l, c⟩, k⟩
/-- a method of
    the class at C -/
def MethD (K : PySem.W.Frag) (C : Addr) (x qual : Str) (st : Stmt) : Prop := ∃ f, PySem.W.findIn K (.ref C) x = some (some (.ref f)) ∧ PySem.W.isFn K (.ref f) = true ∧ DefR K x qual st f
theorem methD_mk {C : Addr} {x qual : Str} {st : Stmt} {f : Addr} {oc kV doc pm cdv ct : Value} {od an : Option Addr} {osl : Array (Option Value)} (a : PySem.W.findIn K (.ref C) x = some (some (.ref f))) (i : PySem.W.isFn K (.ref f) = true)
    (l : K.lookup f = some ⟨oc, od, .func (PySem.W.fnOf x qual (defArgs st) (defBody st) (defScope st) .none kV doc pm an cdv ct), osl⟩) (c : PySem.W.codeIn K cdv qual = true) (k : PySem.W.keepIn K (.ref f) = true) : MethD K C x qual st := ⟨f, a, i, ⟨oc, od, kV, doc, pm, an, cdv, ct, osl, l, c⟩, k⟩
/-- a property -/
def PropD (K : PySem.W.Frag) (C : Addr) (x qual : Str) (st : Stmt) : Prop := ∃ p g, PropOf K C x p g ∧ DefR K x qual st g
theorem propD_mk {C : Addr} {x qual : Str} {st : Stmt} {p f : Addr} {rest : List Value} {oc kV doc pm cdv ct : Value} {od an : Option Addr} {osl : Array (Option Value)} (a : PySem.W.findIn K (.ref C) x = some (some (.ref p))) (g : PySem.W.specialIn K (.ref p) "__get__" = some (some (.builtin "property.__get__")))
    (t : PySem.W.takesIn K (.ref p) = some true) (r : PySem.W.recIn K p "property" = some (.ref f :: rest))
    (l : K.lookup f = some ⟨oc, od, .func (PySem.W.fnOf x qual (defArgs st) (defBody st) (defScope st) .none kV doc pm an cdv ct), osl⟩) (c : PySem.W.codeIn K cdv qual = true) (k : PySem.W.keepIn K (.ref f) = true) : PropD K C x qual st := ⟨p, f, ⟨a, g, t, rest, r⟩, ⟨oc, od, kV, doc, pm, an, cdv, ct, osl, l, c⟩, k⟩
/-- a static method -/
def StatD (K : PySem.W.Frag) (C : Addr) (mc : Value) (x qual : Str) (st : Stmt) : Prop := ∃ p g, SMet K C mc x p g ∧ DefR K x qual st g
theorem statD_mk {C : Addr} {mc : Value} {x qual : Str} {st : Stmt} {p f : Addr} {rest : List Value} {oc kV doc pm cdv ct : Value} {od an : Option Addr} {osl : Array (Option Value)} (a : PySem.W.findCls K (.ref C) mc x = some (.get (.builtin "staticmethod.__get__") (.ref p) .none (.ref C)))
    (r : PySem.W.recIn K p "staticmethod" = some (.ref f :: rest))
    (l : K.lookup f = some ⟨oc, od, .func (PySem.W.fnOf x qual (defArgs st) (defBody st) (defScope st) .none kV doc pm an cdv ct), osl⟩) (c : PySem.W.codeIn K cdv qual = true) (k : PySem.W.keepIn K (.ref f) = true) : StatD K C mc x qual st := ⟨p, f, ⟨a, ⟨rest, r⟩, k⟩, ⟨oc, od, kV, doc, pm, an, cdv, ct, osl, l, c⟩, k⟩
/-- an error's class -/
structure ErrD (K : PySem.W.Frag) (x fld qual : Str) (st : Stmt) (D S1 S2 S3 : Addr) : Prop where
  g : PySem.W.nsIn K mainGlobals x = some (some (.ref D))
  ox : OexC K D
  no : PySem.W.findIn K (.ref D) fld = some none
  ini : ∃ f, PySem.W.findIn K (.ref D) "__init__" = some (some (.ref f)) ∧ PySem.W.typeIn K (.ref f) = some (.type "function") ∧ DefR K "__init__" qual st f
  xc : ExcC K D
  xf : XfC K D
  k1 : PySem.W.kitOne K (.ref D) (.ref S1) = some true
  k2 : PySem.W.kitOne K (.ref D) (.ref S2) = some false
  k3 : PySem.W.kitOne K (.ref D) (.ref S3) = some false
  kV : PySem.W.kitOne K (.ref D) (.type "ValueError") = some true
  kL : PySem.W.kitOne K (.ref D) (.type "LookupError") = some false
  kA : PySem.W.kitOne K (.ref D) (.type "ArithmeticError") = some false
  kx : PySem.W.exmAny K (.ref D) [.ref S1, .ref S2, .ref S3] = some true
theorem errD_mk {x fld qual : Str} {st : Stmt} {D S1 S2 S3 f : Addr} {oc kV doc pm cdv ct : Value} {od an : Option Addr} {osl : Array (Option Value)} {oD : Obj} (g : PySem.W.nsIn K mainGlobals x = some (some (.ref D)))
    (lD : K.lookup D = some oD) (sh : ∃ nm q N bs bm sn sub ab col dd k0 k1 k2 k3 k5, oD = PySem.excClassObj nm q D N bs bm true sn sub ab col dd k0 k1 k2 k3 k5 "ValueError.__new__" ∧ PySem.HandSPX.refsVE bm = true)
    (sa : PySem.W.findIn K (.ref D) "__setattr__" = some (some (.builtin "object.__setattr__"))) (exC : PySem.W.subIn K (.ref D) (.type "BaseException") = some true) (tyC : PySem.W.typeIn K (.ref D) = some (.type "type")) (kC : PySem.W.keepIn K (.ref D) = true)
    (no : PySem.W.findIn K (.ref D) fld = some none) (a : PySem.W.findIn K (.ref D) "__init__" = some (some (.ref f))) (ty : PySem.W.typeIn K (.ref f) = some (.type "function"))
    (l : K.lookup f = some ⟨oc, od, .func (PySem.W.fnOf "__init__" qual (defArgs st) (defBody st) (defScope st) .none kV doc pm an cdv ct), osl⟩) (c : PySem.W.codeIn K cdv qual = true) (k : PySem.W.keepIn K (.ref f) = true)
    (hg : PySem.W.findIn K (.ref D) "__getattribute__" = some (some (.builtin "BaseException.__getattribute__"))) (hk : PySem.W.findIn K (.ref D) "__getattr__" = some none) (hd : PySem.W.hasDictIn K D = true)
    (ha : PySem.W.findIn K (.ref D) "__class__" = some (some (.builtin "object.__class__"))) (hn : PySem.W.specialIn K (.builtin "object.__class__") "__get__" = some (some (.builtin "getset_descriptor.__get__"))) (ht : PySem.W.takesIn K (.builtin "object.__class__") = some true) (hm : PySem.W.mroIn K D (.type "object") = some true)
    (k1 : PySem.W.kitOne K (.ref D) (.ref S1) = some true) (k2 : PySem.W.kitOne K (.ref D) (.ref S2) = some false) (k3 : PySem.W.kitOne K (.ref D) (.ref S3) = some false) (kV' : PySem.W.kitOne K (.ref D) (.type "ValueError") = some true) (kL : PySem.W.kitOne K (.ref D) (.type "LookupError") = some false) (kA : PySem.W.kitOne K (.ref D) (.type "ArithmeticError") = some false)
    (kx : PySem.W.exmAny K (.ref D) [.ref S1, .ref S2, .ref S3] = some true) : ErrD K x fld qual st D S1 S2 S3 := by
  refine ⟨g, ⟨?_, sa, exC, tyC, kC⟩, no, ⟨f, a, ty, ⟨oc, od, kV, doc, pm, an, cdv, ct, osl, l, c⟩, k⟩, ⟨hg, hk, exC, hd, ha, hn, ht, hm⟩, ⟨hg, hk, exC, hd⟩, k1, k2, k3, kV', kL, kA, kx⟩
  obtain ⟨nm, q, N, bs, bm, sn, sub, ab, col, dd, k0, k1', k2', k3', k5, e, r⟩ := sh
  exact ⟨nm, q, N, bs, bm, sn, sub, ab, col, dd, k0, k1', k2', k3', k5, by rw [lD, e], r⟩
/-- the class Members -/
structure MemD (K : PySem.W.Frag) (C : Addr) : Prop where
  g : PySem.W.nsIn K mainGlobals "Members" = some (some (.ref C))
  cl : Cls K C
  nN : PySem.W.findIn K (.ref C) "_names" = some none
  nT : PySem.W.findIn K (.ref C) "_table" = some none
  mk' : PySem.W.makesIn K C = true
  kC : PySem.W.keepIn
      K (.ref C) = true
  is : MemIs K C
  ne : NeM K C
  nb : PySem.W.findIn K (.ref C) "__bool__" = some none
  cr : CRead K C (.type "type")
theorem memD_mk {C : Addr} (g : PySem.W.nsIn K mainGlobals "Members" = some (some (.ref C))) (pg : PySem.W.plainGet K C Str.empty = true) (hd : PySem.W.hasDictIn K C = true) (po : PySem.W.plainOver K C = true) (sa : PySem.W.findIn K (.ref C) "__setattr__" = some (some (.builtin "object.__setattr__")))
    (nN : PySem.W.findIn K (.ref C) "_names" = some none) (nT : PySem.W.findIn K (.ref C) "_table" = some none) (mk' : PySem.W.makesIn K C = true) (kC : PySem.W.keepIn K (.ref C) = true)
    (ha : PySem.W.findIn K (.ref C) "__class__" = some (some (.builtin "object.__class__"))) (hn : PySem.W.specialIn K (.builtin "object.__class__") "__get__" = some (some (.builtin "getset_descriptor.__get__"))) (ht : PySem.W.takesIn K (.builtin "object.__class__") = some true) (hm : PySem.W.mroIn K C (.type "object") = some true)
    (yes : PySem.W.kitOne K (.ref C) (.ref C) = some true) (o1 : PySem.W.kitOne K (.type "NoneType") (.ref C) = some false) (o2 : PySem.W.kitOne K (.type "bool") (.ref C) = some false) (o3 : PySem.W.kitOne K (.type "int") (.ref C) = some false) (o4 : PySem.W.kitOne K (.type "str") (.ref C) = some false) (o5 : PySem.W.kitOne K (.type "list") (.ref C) = some false) (o6 : PySem.W.kitOne K (.type "tuple") (.ref C) = some false) (o7 : PySem.W.kitOne K (.type "dict") (.ref C) = some false)
    (f1 : PySem.W.notFirst K C (.type "NoneType") = true) (f2 : PySem.W.notFirst K C (.type "bool") = true) (f3 : PySem.W.notFirst K C (.type "int") = true) (f4 : PySem.W.notFirst K C (.type "str") = true) (f5 : PySem.W.notFirst K C (.type "list") = true) (f6 : PySem.W.notFirst K C (.type "tuple") = true) (f7 : PySem.W.notFirst K C (.type "dict") = true) (fC : PySem.W.notFirst K C (.ref C) = true)
    (ne : PySem.W.findIn K (.ref C) "__ne__" = some (some (.builtin "object.__ne__"))) (nb : PySem.W.findIn K (.ref C) "__bool__" = some none) (rd : PySem.W.readsIn K C (.type "type") = true) (ga : PySem.W.specialIn K (.ref C) "__getattribute__" = some (some (.builtin "type.__getattribute__"))) : MemD K C := by
  refine ⟨g, ⟨pg, hd, po, sa⟩, nN, nT, mk', kC, ⟨ha, hn, ht, hm, yes, fun t h => ?_, fun t h => ?_, fC⟩, ⟨ne, hm⟩, nb, ⟨rd, ga⟩⟩
  · simp only [baseTys, List.mem_cons, List.not_mem_nil, or_false] at h
    rcases h with rfl | rfl | rfl | rfl | rfl | rfl | rfl
    · exact o1
    · exact o2
    · exact o3
    · exact o4
    · exact o5
    · exact o6
    · exact o7
  · simp only [baseTys, List.mem_cons, List.not_mem_nil, or_false] at h
    rcases h with rfl | rfl | rfl | rfl | rfl | rfl | rfl
    · exact f1
    · exact f2
    · exact f3
    · exact f4
    · exact f5
    · exact f6
    · exact f7
end
/-- a class with fields -/
structure ClsD (K : PySem.W.Frag) (x : Str) (C : Addr) : Prop where
  g : PySem.W.nsIn K mainGlobals x = some (some (.ref C))
  cl : Cls K C
  mk' : PySem.W.makesIn K C = true
  kC : PySem.W.keepIn K (.ref C) = true
  is : IsC K C
  ne : NeM K C
  cr : CRead K C (.type "type")
  nf : PySem.W.notFirst K C (.ref C) = true
  nB : ∀ t ∈ baseTys, PySem.W.notFirst K C (.type t) = true
theorem clsD_mk {K : PySem.W.Frag} {x : Str} {C : Addr} (g : PySem.W.nsIn K mainGlobals x = some (some (.ref C))) (hd : PySem.W.hasDictIn K C = true) (pg : PySem.W.plainGet K C Str.empty = true) (sa : PySem.W.findIn K (.ref C) "__setattr__" = some (some (.builtin "object.__setattr__"))) (po : PySem.W.plainOver K C = true)
    (kC : PySem.W.keepIn K (.ref C) = true) (mk' : PySem.W.makesIn K C = true)
    (hm : PySem.W.mroIn K C (.type "object") = some true) (ht : PySem.W.takesIn K (.builtin "object.__class__") = some true) (hn : PySem.W.specialIn K (.builtin "object.__class__") "__get__" = some (some (.builtin "getset_descriptor.__get__"))) (ha : PySem.W.findIn K (.ref C) "__class__" = some (some (.builtin "object.__class__")))
    (yes : PySem.W.kitOne K (.ref C) (.ref C) = some true) (o1 : PySem.W.kitOne K (.type "NoneType") (.ref C) = some false) (o2 : PySem.W.kitOne K (.type "bool") (.ref C) = some false) (o3 : PySem.W.kitOne K (.type "int") (.ref C) = some false) (o4 : PySem.W.kitOne K (.type "str") (.ref C) = some false) (o5 : PySem.W.kitOne K (.type "list") (.ref C) = some false) (o6 : PySem.W.kitOne K (.type "tuple") (.ref C) = some false) (o7 : PySem.W.kitOne K (.type "dict") (.ref C) = some false)
    (f1 : PySem.W.notFirst K C (.type "NoneType") = true) (f2 : PySem.W.notFirst K C (.type "bool") = true) (f3 : PySem.W.notFirst K C (.type "int") = true) (f4 : PySem.W.notFirst K C (.type "str") = true) (f5 : PySem.W.notFirst K C (.type "list") = true) (f6 : PySem.W.notFirst K C (.type "tuple") = true) (f7 : PySem.W.notFirst K C (.type "dict") = true) (fC : PySem.W.notFirst K C (.ref C) = true)
    (ne : PySem.W.findIn K (.ref C) "__ne__" = some (some (.builtin "object.__ne__"))) (rd : PySem.W.readsIn K C (.type "type") = true) (ga : PySem.W.specialIn K (.ref C) "__getattribute__" = some (some (.builtin "type.__getattribute__"))) : ClsD K x C := by
  refine ⟨g, ⟨pg, hd, po, sa⟩, mk', kC, ⟨yes, fun t h => ?_, hm, ht, hn, ha⟩, ⟨ne, hm⟩, ⟨rd, ga⟩, fC, fun t h => ?_⟩
  · simp only [baseTys, List.mem_cons, List.not_mem_nil, or_false] at h
    rcases h with rfl | rfl | rfl | rfl | rfl | rfl | rfl
    · exact o1
    · exact o2
    · exact o3
    · exact o4
    · exact o5
    · exact o6
    · exact o7
  · simp only [baseTys, List.mem_cons, List.not_mem_nil, or_false] at h
    rcases h with rfl | rfl | rfl | rfl | rfl | rfl | rfl
    · exact f1
    · exact f2
    · exact f3
    · exact f4
    · exact f5
    · exact f6
    · exact f7
/-- the def at f, its code object at c -/
structure CodD (K : PySem.W.Frag) (x : Str) (st : Stmt) (f c : Addr) : Prop where
  g : PySem.W.nsIn K mainGlobals x = some (some (.ref f))
  fn : FunC K x x st f c
  kp : PySem.W.keepIn K (.ref f) = true
theorem codD_mk {K : PySem.W.Frag} {x : Str} {st : Stmt} {f c : Addr} {oc kV doc pm ct : Value} {od an : Option Addr} {osl : Array (Option Value)} (a : PySem.W.nsIn K mainGlobals x = some (some (.ref f)))
    (l : K.lookup f = some ⟨oc, od, .func (PySem.W.fnOf x x (defArgs st) (defBody st) (defScope st) .none kV doc pm an (.ref c) ct), osl⟩) (cc : PySem.W.codeIn K (.ref c) x = true) (k : PySem.W.keepIn K (.ref f) = true) : CodD K x st f c :=
  ⟨a, ⟨oc, od, kV, doc, pm, an, ct, osl, l, cc⟩, k⟩
theorem raw_2 {P : Program} {w : World} {K : PySem.W.Frag} {mg : Str → Option Value} {base : Heap} {CX : CXT} {k : Nat} {f : Addr} {fd : FuncData} {ps : List Str} {sp : Sp} (B : L2.Binds K fd ps []) (G : FnOk P w K mg base CX k f fd ps sp) : FnR P w K mg base CX k f sp :=
  (G.raw B .nil).imp fun vs H Q E h => by rw [List.append_nil]; exact h
/-- the def at f, its code object at c, the table at P -/
structure CodeD (K : PySem.W.Frag) (x : Str) (st : Stmt) (f c P : Addr) : Prop where
  g : PySem.W.nsIn K mainGlobals x = some (some (.ref f))
  fn : FunC K x x st f c
  kp : PySem.W.keepIn
      K (.ref f) = true
  cd : ∃ ec dc vc slc, K.lookup c = some ⟨ec, dc, .fields vc, slc⟩ ∧ vc[11]? = some (.ref P)
  no : K.lookup P = none
theorem codeD_mk {K : PySem.W.Frag} {x : Str} {st : Stmt} {f c P : Addr} {oc kV doc pm ct ec : Value} {od an dc : Option Addr} {osl slc : Array (Option Value)} {vc : Array Value} (a : PySem.W.nsIn K mainGlobals x = some (some (.ref f)))
    (l : K.lookup f = some ⟨oc, od, .func (PySem.W.fnOf x x (defArgs st) (defBody st) (defScope st) .none kV doc pm an (.ref c) ct), osl⟩) (cc : PySem.W.codeIn K (.ref c) x = true) (k : PySem.W.keepIn K (.ref f) = true)
    (lc : K.lookup c = some ⟨ec, dc, .fields vc, slc⟩) (h : vc[11]? = some (.ref P)) (no : K.lookup P = none) : CodeD K x st f c P :=
  ⟨a, ⟨oc, od, kV, doc, pm, an, ct, osl, l, cc⟩, k, ⟨ec, dc, vc, slc, lc, h⟩, no⟩
/-- a method with one default by keyword -/
def MethK (K : PySem.W.Frag) (C : Addr) (x qual : Str) (st : Stmt) (k : Str) (v : V) : Prop := ∃ (f : Addr) (fd : FuncData), Meth K C x f ∧ FunD K x qual (defArgs st) (defBody st) (defScope st) [] [(k, v)] f fd
theorem methK_mk {K : PySem.W.Frag} {C : Addr} {x qual k : Str} {st : Stmt} {v : V} {f D : Addr} {u oc doc pm cdv ct : Value} {od an : Option Addr} {osl : Array (Option Value)} (m : Meth K C x f)
    (l : K.lookup f = some ⟨oc, od, .func (PySem.W.fnOf x qual (defArgs st) (defBody st) (defScope st) .none (.ref D) doc pm an cdv ct), osl⟩) (c : PySem.W.codeIn K cdv qual = true) (kp : PySem.W.keepIn K (.ref f) = true) (n : PySem.W.nsIn K D k = some (some u)) (r : RelV v u) : MethK K C x qual st k v :=
  ⟨f, _, m, ⟨oc, od, .none, .ref D, doc, pm, an, cdv, ct, osl, rfl, l, c, .inl ⟨rfl, rfl⟩, .inr ⟨D, rfl, fun q hq => by
    rw [List.mem_singleton.mp hq]
    exact ⟨u, n, r⟩⟩⟩, kp⟩
end K1

namespace K1
open PySem PySem.Spec
open PyProof.Rows L2 L2H EnT StX SmX TxS DuX XdI Tr3 CnB ClX
/-! ### what is known of Members -/
structure RawM (K : PySem.W.Frag) (C CN CM S1 S2 S3 : Addr) : Prop where
  mem : MemD K C
  sf : PySem.W.selfFirst K C = true
  ini : MethD K C "__init__" "Members.__init__" sInit
  len : MethD K C "__len__" "Members.__len__" sLenM
  has : MethD K C "__contains__" "Members.__contains__" sHasM
  eq : MethD K C "__eq__" "Members.__eq__" sEqM
  m1 : MethD K C "__or__" "Members.__or__" sOrM
  m2 : MethD K C "__and__" "Members.__and__" sAndM
  m3 : MethD K C "__sub__" "Members.__sub__" sSubM
  m4 : MethD K C "__xor__" "Members.__xor__" sXorM
  prop : PropD K C "names" "Members.names" sNamesP
  frm : StatD K C (.type "type") "from_names" "Members.from_names" sFromN
  eN : ErrD K "InvalidNames" "index" "InvalidNames.__init__" sErrNames CN S1 S2 S3
  eM : ErrD K "NotMembers" "value" "NotMembers.__init__" sErrMem CM S1 S2 S3
  isn : GloD K "is_name" sIsName
  wrg : GloD K "wrong_at" sWrong
  chkM : GloD K "check_members" sChkM
  ln : ∃ t, PySem.W.nsIn K mainGlobals "LONGEST_NAME" = some (some (.int 8 t))
section
variable {w : World} {P : Program} {base : Heap} {mg : Str → Option Value} {K : PySem.W.Frag} {C CN CM S1 S2 S3 : Addr}
theorem u_orM : sgO = ("__or__" : Str) := by decide +kernel
theorem u_andM : sgA = ("__and__" : Str) := by decide +kernel
theorem u_subM : sgS = ("__sub__" : Str) := by decide +kernel
theorem u_xorM : sgX = ("__xor__" : Str) := by decide +kernel
theorem mb_of {h : Heap} (T : Free mg) (R : RawM K C CN CM S1 S2 S3) (X : K.In h) (G : h.Ns mainGlobals mg) : Mb P w K mg base C CN CM (.type "type") ∧ (∃ f0, MakeC P w K mg base C CN f0) ∧ ∃ g fd, OwnM K C "__eq__" g ∧ FnOk P w K mg base CX0 3 g fd ["self", "other"] (spEqM C) ∧ L2.Binds K fd ["self", "other"] [] := by
  have MC : MemC K mg C := ⟨PySem.W.mg_of X G R.mem.g, R.mem.cl, R.mem.nN, R.mem.nT⟩
  have II := R.mem.is
  obtain ⟨fN, iN1, iN2, dN⟩ := R.eN.ini
  obtain ⟨fM, iM1, iM2, dM⟩ := R.eM.ini
  obtain ⟨fdN, FN⟩ := dN.fun_
  obtain ⟨fdM, FM⟩ := dM.fun_
  have EN : ErrC K mg "InvalidNames" "index" CN fN := ⟨PySem.W.mg_of X G R.eN.g, R.eN.ox, R.eN.no, iN1, iN2⟩
  have EM : ErrC K mg "NotMembers" "value" CM fM := ⟨PySem.W.mg_of X G R.eM.g, R.eM.ox, R.eM.no, iM1, iM2⟩
  obtain ⟨fI, aI, dI⟩ := R.isn
  obtain ⟨fdI, FI⟩ := dI.fun_
  obtain ⟨tL, lL⟩ := R.ln
  have GI := ok_isname (P := P) (w := w) (base := base) FI T ⟨tL, PySem.W.mg_of X G lL⟩
  obtain ⟨fW, aW, dW⟩ := R.wrg
  obtain ⟨fdW, FW⟩ := dW.fun_
  have mgI := PySem.W.mg_of X G aI
  have mgW := PySem.W.mg_of X G aW
  have GWT := ok_wrongT FW T GI FI mgI
  obtain ⟨f0, a0, i0, d0⟩ := R.ini
  obtain ⟨fd0, F0⟩ := d0.fun_
  have MM : MakeC P w K mg base C CN f0 := ⟨⟨R.mem.mk', a0, i0, R.mem.kC⟩, ok_init F0 T MC GWT FW mgW EN FN⟩
  obtain ⟨fL, aL, iL, dL⟩ := R.len
  obtain ⟨fdL, FL⟩ := dL.fun_
  have bL : L2.Binds K fdL ["self"] [] := FL.binds (ps := ["self"]) fun _ _ _ _ _ _ us hl => match us, hl with | [_], _ => rfl
  have RL : FnR P w K mg base CX0 1 fL (spLenM C) := raw_2 bL (ok_lenM FL T MC)
  obtain ⟨fH, aH, iH, dH⟩ := R.has
  obtain ⟨fdH, FH⟩ := dH.fun_
  have bH : L2.Binds K fdH ["self", "value"] [] := FH.binds (ps := ["self", "value"]) fun _ _ _ _ _ _ us hl => match us, hl with | [_, _], _ => rfl
  have RH : FnR P w K mg base CX0 1 fH (spHasM C) := raw_2 bH (ok_hasM FH T MC)
  obtain ⟨pP, fP, prP, dP⟩ := R.prop
  obtain ⟨fdP, FP⟩ := dP.fun_
  have bP : L2.Binds K fdP ["self"] [] := FP.binds (ps := ["self"]) fun _ _ _ _ _ _ us hl => match us, hl with | [_], _ => rfl
  have GP := ok_namesP (P := P) (w := w) (base := base) FP MC
  obtain ⟨fE, aE, iE, dE⟩ := R.eq
  obtain ⟨fdE, FE⟩ := dE.fun_
  have bE : L2.Binds K fdE ["self", "other"] [] := FE.binds (ps := ["self", "other"]) fun _ _ _ _ _ _ us hl => match us, hl with | [_, _], _ => rfl
  have RE := ok_eqM (P := P) (w := w) (base := base) FE T MC II prP GP FP
  obtain ⟨pF, fF, mF, dF⟩ := R.frm
  obtain ⟨ocF, odF, kVF, docF, pmF, anF, cdF, ctF, oslF, lF, cF⟩ := dF.ex
  have FF := fun_mk (st := sFromN) lF cF dF.kp
  have bF : L2.Binds K _ ["names"] [] := FF.binds (ps := ["names"]) fun _ _ _ _ _ _ us hl => match us, hl with | [_], _ => rfl
  have GF1 : FnR P w K mg base (L2.CX P w) 6 fF (spFromT C CN) := raw_2 bF (ok_fromT FF T MC MM EN FN)
  obtain ⟨fC, aC, dC⟩ := R.chkM
  obtain ⟨fdC, FC⟩ := dC.fun_
  have bC : L2.Binds K fdC ["value"] [] := FC.binds (ps := ["value"]) fun _ _ _ _ _ _ us hl => match us, hl with | [_], _ => rfl
  have mgC := PySem.W.mg_of X G aC
  exact ⟨{
    T := T
    M := MC
    I := II
    sf := R.sf
    chkY := ⟨fC, mgC, FC.kp, fdC, ok_chkY FC T MC II EM FM, bC⟩
    chkN := ⟨fC, mgC, FC.kp, fdC, ok_chkN FC T MC II EM FM, bC⟩
    fromT := ⟨pF, fF, mF, GF1⟩
    hasM := ⟨fH, ⟨aH, iH⟩, RH⟩
    lenM := ⟨fL, ⟨aL, iL⟩, RL⟩
    prop := ⟨pP, fP, fdP, prP, GP, bP⟩
    cr := R.mem.cr }, ⟨f0, MM⟩, ⟨fE, fdE, ⟨aE, iE⟩, RE, bE⟩⟩
end
end K1

namespace K1
open PySem PySem.Spec
open PyProof.Rows L2 L2H EnT StX SmX TxS DuX XdI Tr3 CnB ClX
section
variable {w : World} {P : Program} {base : Heap} {mg : Str → Option Value} {K : PySem.W.Frag} {C CN CM S1 S2 S3 : Addr} {mc : Value}
theorem scXorM : FnScope nmSO nmSO (defScope sXorM) := ⟨rfl, rfl, rfl, by decide +kernel, rfl, by decide +kernel, by decide +kernel⟩
theorem ok_xorM {f : Addr} {fd : FuncData} (F : Fun K "__xor__" "Members.__xor__" sXorM f fd) (B : Mb P w K mg base C CN CM mc) (or : ∃ g, OwnM K C sgO g ∧ FnR P w K mg base (L2.CX P w) 7 g (spBinM C rOr)) (sub : ∃ g, OwnM K C sgS g ∧ FnR P w K mg base (L2.CX P w) 7 g (spBinM C rSub)) : FnOk P w K mg base (L2.CX P w) 8 f fd nmSO (spBinM C rXor) := by
  obtain ⟨gO, mO, FO⟩ := or
  obtain ⟨gS, mS, FS⟩ := sub
  have sf := B.sf
  refine F.okX scXorM (fun vs H Q E h => ?_) (fun cdv A outer s H vs Q E hr h => ?_)
  · obtain ⟨a, b, zs, ws, rfl, _⟩ := h
    rfl
  · obtain ⟨a, b, zs, ws, rfl, m1, m2, hl, q⟩ := h
    obtain ⟨dx, t, d, h1, _, _⟩ := m1.at_
    obtain ⟨dy, t2, d2, k1, _, _⟩ := m2.at_
    refine ⟨_, pss_one (ps_ret (pe_op (op_binO mO sf FO hr (passes_call (takes_of rfl rfl rfl rfl) fun _ _ _ _ h => h)) (pe_op (op_binO mS sf FS hr (passes_call (takes_of rfl rfl rfl rfl) fun _ _ _ _ h => h)) (pv 0) (pv 1)) (pe_op (op_binO mS sf FS hr (passes_call (takes_of rfl rfl rfl rfl) fun _ _ _ _ h => h)) (pv 1) (pv 0)))), ?_⟩
    refine ⟨_, rfl, _, rfl, a, dx, _, b, dy, _, rfl, rfl, h1, k1, a, b, zs, ws, rfl, m1, m2, hl, fun p1 y1 H1 n1 s1 e1 M1 => ?_⟩
    have m1' := m1.same s1
    have m2' := m2.same s1
    refine ⟨_, rfl, _, rfl, b, dy, _, a, dx, _, rfl, rfl, s1 _ _ k1, s1 _ _ h1, b, a, ws, zs, rfl, m2', m1', by omega, fun p2 y2 H2 n2 s2 e2 M2 => ?_⟩
    obtain ⟨dz, t3, d3, j1, _, _⟩ := (M1.same s2).at_
    obtain ⟨dv, t4, d4, j2, _, _⟩ := M2.at_
    have l1 : y1.length ≤ zs.length := len_sub M1.nd fun z hz => ((e1 z).mp hz).1
    have l2 : y2.length ≤ ws.length := len_sub M2.nd fun z hz => ((e2 z).mp hz).1
    refine ⟨p1, dz, _, p2, dv, _, rfl, rfl, j1, j2, p1, p2, y1, y2, rfl, M1.same s2, M2, by omega, q.imp (s1.trans s2) (fun z => ?_) fun _ _ h => h⟩
    have a1 := e1 z
    have a2 := e2 z
    show z ∈ y1 ∨ z ∈ y2 ↔ rXor (z ∈ zs) (z ∈ ws)
    rw [a1, a2]
theorem mo_of (B : Mb P w K mg base C CN CM (.type "type")) (R : RawM K C CN CM S1 S2 S3) : Mo P w K mg base C CN CM (.type "type") := by
  obtain ⟨g1, a1, j1, d1⟩ := R.m1
  obtain ⟨fd1, F1⟩ := d1.fun_
  have b1 : L2.Binds K fd1 nmSO [] := F1.binds (ps := nmSO) fun _ _ _ _ _ _ us hl => match us, hl with | [_, _], _ => rfl
  obtain ⟨g2, a2, j2, d2⟩ := R.m2
  obtain ⟨fd2, F2⟩ := d2.fun_
  have b2 : L2.Binds K fd2 nmSO [] := F2.binds (ps := nmSO) fun _ _ _ _ _ _ us hl => match us, hl with | [_, _], _ => rfl
  obtain ⟨g3, a3, j3, d3⟩ := R.m3
  obtain ⟨fd3, F3⟩ := d3.fun_
  have b3 : L2.Binds K fd3 nmSO [] := F3.binds (ps := nmSO) fun _ _ _ _ _ _ us hl => match us, hl with | [_, _], _ => rfl
  obtain ⟨g4, a4, j4, d4⟩ := R.m4
  obtain ⟨fd4, F4⟩ := d4.fun_
  have b4 : L2.Binds K fd4 nmSO [] := F4.binds (ps := nmSO) fun _ _ _ _ _ _ us hl => match us, hl with | [_, _], _ => rfl
  have O : ∃ g, OwnM K C sgO g ∧ FnR P w K mg base (L2.CX P w) 7 g (spBinM C rOr) := ⟨g1, ⟨by rw [u_orM]; exact a1, j1⟩, raw_2 b1 (ok_orM F1 B)⟩
  have S : ∃ g, OwnM K C sgS g ∧ FnR P w K mg base (L2.CX P w) 7 g (spBinM C rSub) := ⟨g3, ⟨by rw [u_subM]; exact a3, j3⟩, raw_2 b3 (ok_subM F3 B)⟩
  exact ⟨B, O, ⟨g2, ⟨by rw [u_andM]; exact a2, j2⟩, raw_2 b2 (ok_andM F2 B)⟩, S, ⟨g4, ⟨by rw [u_xorM]; exact a4, j4⟩, raw_2 b4 (ok_xorM F4 B O S)⟩⟩
end
end K1

namespace K1
open PySem PySem.Spec
open PyProof.Rows L2 L2H EnT StX SmX TxS DuX XdI Tr3 CnB ClX
/-! ### what is known of Expression -/
/-- the tuple of the signs -/
def SgD (K : PySem.W.Frag) (aS : Addr) : Prop := PySem.W.nsIn K mainGlobals "SIGNS" = some (some (.ref aS)) ∧ ∃ (dd : Option Addr) (t1 t2 t3 t4 : Tok) (n : Nat) (sl : Array (Option Value)), K.lookup aS = some ⟨.type "tuple", dd, .seq #[.str "|" t1, .str "&" t2, .str "-" t3, .str "^" t4] n, sl⟩
theorem sgD_mk {K : PySem.W.Frag} {aS : Addr} {dd : Option Addr} {t1 t2 t3 t4 : Tok} {n : Nat} {sl : Array (Option Value)} (a : PySem.W.nsIn K mainGlobals "SIGNS" = some (some (.ref aS))) (l : K.lookup aS = some ⟨.type "tuple", dd, .seq #[.str "|" t1, .str "&" t2, .str "-" t3, .str "^" t4] n, sl⟩) : SgD K aS := ⟨a, dd, t1, t2, t3, t4, n, sl, l⟩
structure RawE (K : PySem.W.Frag) (CE aS : Addr) : Prop where
  exp : ClsD K "Expression" CE
  n1 : PySem.W.findIn K (.ref CE) "_form" = some none
  n2 : PySem.W.findIn K (.ref CE) "_leaves" = some none
  n3 : PySem.W.findIn K (.ref CE) "_depth" = some none
  n4 : PySem.W.findIn K (.ref CE) "_fields" = some none
  n5 : PySem.W.findIn K (.ref CE) "_has_given" = some none
  sf : PySem.W.selfFirst K CE = true
  ini : MethD K CE "__init__" "Expression.__init__" sInitE
  m1 : MethD K CE "__or__" "Expression.__or__" sOrE
  m2 : MethD K CE "__and__" "Expression.__and__" sAndE
  m3 : MethD K CE "__sub__" "Expression.__sub__" sSubE
  m4 : MethD K CE "__xor__" "Expression.__xor__" sXorE
  p1 : PropD K CE "form" "Expression.form" sFormP
  p4 : PropD K CE "fields" "Expression.fields" sFieldsP
  g1 : GloD K "is_name" sIsName
  g2 : GloD K "is_field" sIsField
  g3 : GloD K "form_size" sSize
  g4 : GloD K "is_triple" sTriple
  g5 : GloD K "check_leaves" sChkL
  g6 : GloD K "check_depth" sChkD
  g12 : GloD K "form_leaves" sLeavesF
  g13 : GloD K "form_fields" sFieldsF
  g14 : GloD K "check_expression" sChkE
  g15 : GloD K "with_sign" sSign
  sg : SgD K aS
  c1 : ∃ t, PySem.W.nsIn K mainGlobals "LONGEST_NAME" = some (some (.int 8 t))
  c2 : ∃ t, PySem.W.nsIn K mainGlobals "GIVEN" = some (some (.str tGiven t))
  c3 : ∃ t, PySem.W.nsIn K mainGlobals "NONE" = some (some (.str tNone t))
  c4 : ∃ t, PySem.W.nsIn K mainGlobals "MOST_LEAVES" = some (some (.int 200 t))
  c5 : ∃ t, PySem.W.nsIn K mainGlobals "MOST_DEPTH" = some (some (.int 20 t))
/-- what follows of it -/
structure ExE (P : Program) (w : World) (K : PySem.W.Frag) (mg : Str → Option Value) (base : Heap) (CE aS : Addr) : Prop where
  G : Gf K mg aS
  M : ExpC K mg CE
  nm : ∃ f, Has P w K mg base CX0 1 "is_name" f ["value"] spIsName
  fld : ∃ f, Has P w K mg base CX0 2 "is_field" f ["value"] spIsField
  make : ∃ fI, Mk K CE fI ∧ FnR P w K mg base CX0 8 fI (spInitE CE)
  pS : Pp P w K mg base CE "fields" "_fields"
  orE : ∃ g, OwnM K CE sgO g ∧ FnR P w K mg base CX0 11 g (spOp CE "|")
  andE : ∃ g, OwnM K CE sgA g ∧ FnR P w K mg base CX0 11 g (spOp CE "&")
  subE : ∃ g, OwnM K CE sgS g ∧ FnR P w K mg base CX0 11 g (spOp CE "-")
  xorE : ∃ g, OwnM K CE sgX g ∧ FnR P w K mg base CX0 11 g (spOp CE "^")
section
variable {w : World} {P : Program} {base : Heap} {mg : Str → Option Value} {K : PySem.W.Frag} {CE C aS : Addr} {h : Heap}
theorem has_of {k : Nat} {x : Str} {st : Stmt} {ps : List Str} {sp : Sp} (d : GloD K x st) (X : K.In h) (G : h.Ns mainGlobals mg) (B : ∀ f fd, Fun K x x st f fd → L2.Binds K fd ps []) (ok : ∀ f fd, mg x = some (.ref f) → Fun K x x st f fd → FnOk P w K mg base CX0 k f fd ps sp) : ∃ f, Has P w K mg base CX0 k x f ps sp := by
  obtain ⟨f, a, d⟩ := d
  obtain ⟨fd, F⟩ := d.fun_
  have m := PySem.W.mg_of X G a
  exact ⟨f, m, F.kp, fd, ok f fd m F, B f fd F⟩
theorem pp_of {D : Addr} {x y qual : Str} {st : Stmt} (c : Cls K D) (d : PropD K D x qual st) (B : ∀ f fd, Fun K x qual st f fd → L2.Binds K fd ["self"] []) (ok : ∀ f fd, Fun K x qual st f fd → FnOk P w K mg base CX0 1 f fd ["self"] (getSp D y)) : Pp P w K mg base D x y := by
  obtain ⟨p, g, pr, d⟩ := d
  obtain ⟨fd, F⟩ := d.fun_
  exact ⟨c, p, g, fd, pr, ok g fd F, B g fd F⟩
theorem own_of {D : Addr} {x qual : Str} {st : Stmt} {k : Nat} {ps : List Str} {sp : Sp} (d : MethD K D x qual st) (B : ∀ f fd, Fun K x qual st f fd → L2.Binds K fd ps []) (ok : ∀ f fd, Fun K x qual st f fd → FnOk P w K mg base CX0 k f fd ps sp) : ∃ g, OwnM K D x g ∧ FnR P w K mg base CX0 k g sp := by
  obtain ⟨f, a, i, d⟩ := d
  obtain ⟨fd, F⟩ := d.fun_
  exact ⟨f, ⟨a, i⟩, raw_2 (B f fd F) (ok f fd F)⟩
theorem exe_of (T : Free mg) (R : RawE K CE aS) (X : K.In h) (G : h.Ns mainGlobals mg) : ExE P w K mg base CE aS := by
  obtain ⟨a, dd, t1, t2, t3, t4, n, sl, l⟩ := R.sg
  obtain ⟨u2, e2⟩ := R.c2
  obtain ⟨u3, e3⟩ := R.c3
  obtain ⟨u4, e4⟩ := R.c4
  obtain ⟨u5, e5⟩ := R.c5
  have GF : Gf K mg aS := ⟨T, PySem.W.mg_of X G a, fun H => .inr ⟨_, _, _, l, rfl, rfl, (by show 4 ≤ sizeLine; decide), .cons ⟨_, rfl⟩ (.cons ⟨_, rfl⟩ (.cons ⟨_, rfl⟩ (.cons ⟨_, rfl⟩ .nil)))⟩, ⟨u2, PySem.W.mg_of X G e2⟩, ⟨u3, PySem.W.mg_of X G e3⟩, ⟨u4, PySem.W.mg_of X G e4⟩, ⟨u5, PySem.W.mg_of X G e5⟩⟩
  have M : ExpC K mg CE := ⟨PySem.W.mg_of X G R.exp.g, R.exp.cl, R.n1, R.n2, R.n3, R.n4, R.n5⟩
  obtain ⟨tL, lL⟩ := R.c1
  obtain ⟨f1, h1⟩ := has_of (P := P) (w := w) (base := base) (k := 1) (ps := ["value"]) (sp := spIsName) R.g1 X G (fun f fd F => F.binds (ps := ["value"]) fun _ _ _ _ _ _ us hl => match us, hl with | [_], _ => rfl) fun f fd m F => ok_isname F T ⟨tL, PySem.W.mg_of X G lL⟩
  obtain ⟨f2, h2⟩ := has_of (P := P) (w := w) (base := base) (k := 2) (ps := ["value"]) (sp := spIsField) R.g2 X G (fun f fd F => F.binds (ps := ["value"]) fun _ _ _ _ _ _ us hl => match us, hl with | [_], _ => rfl) fun f fd m F => ok_isfield F GF h1
  obtain ⟨f4, h4⟩ := has_of (P := P) (w := w) (base := base) (k := 1) (ps := ["value"]) (sp := spTriple) R.g4 X G (fun f fd F => F.binds (ps := ["value"]) fun _ _ _ _ _ _ us hl => match us, hl with | [_], _ => rfl) fun f fd m F => ok_triple F GF
  obtain ⟨f3, h3⟩ := has_of (P := P) (w := w) (base := base) (k := 2) (ps := ["value"]) (sp := spSize) R.g3 X G (fun f fd F => F.binds (ps := ["value"]) fun _ _ _ _ _ _ us hl => match us, hl with | [_], _ => rfl) fun f fd m F => ok_size F T h1 h4
  obtain ⟨f5, h5⟩ := has_of (P := P) (w := w) (base := base) (k := 1) (ps := ["leaves"]) (sp := spChk 200) R.g5 X G (fun f fd F => F.binds (ps := ["leaves"]) fun _ _ _ _ _ _ us hl => match us, hl with | [_], _ => rfl) fun f fd m F => ok_chkL F GF
  obtain ⟨f6, h6⟩ := has_of (P := P) (w := w) (base := base) (k := 1) (ps := ["depth"]) (sp := spChk 20) R.g6 X G (fun f fd F => F.binds (ps := ["depth"]) fun _ _ _ _ _ _ us hl => match us, hl with | [_], _ => rfl) fun f fd m F => ok_chkD F GF
  obtain ⟨f12, h12⟩ := has_of (P := P) (w := w) (base := base) (k := 6) (ps := ["form"]) (sp := spLeaves 6) R.g12 X G (fun f fd F => F.binds (ps := ["form"]) fun _ _ _ _ _ _ us hl => match us, hl with | [_], _ => rfl) fun f fd m F => ok_leavesF F T m 5
  obtain ⟨f13, h13⟩ := has_of (P := P) (w := w) (base := base) (k := 7) (ps := ["form"]) (sp := spFields 6) R.g13 X G (fun f fd F => F.binds (ps := ["form"]) fun _ _ _ _ _ _ us hl => match us, hl with | [_], _ => rfl) fun f fd m F => ok_fieldsF (n := 3) F T h12 h2
  obtain ⟨f14, h14⟩ := has_of (P := P) (w := w) (base := base) (k := 1) (ps := ["value"]) (sp := spChkE CE) R.g14 X G (fun f fd F => F.binds (ps := ["value"]) fun _ _ _ _ _ _ us hl => match us, hl with | [_], _ => rfl) fun f fd m F => ok_chkE F T M R.exp.is
  obtain ⟨fI, aI, iI, dI⟩ := R.ini
  obtain ⟨ocI, odI, kVI, docI, pmI, anI, cdI, ctI, oslI, lI, cI⟩ := dI.ex
  have FI := fun_mk (st := sInitE) lI cI dI.kp
  have bI : L2.Binds K _ ["self", "form"] [] := FI.binds (ps := ["self", "form"]) fun _ _ _ _ _ _ us hl => match us, hl with | [_, _], _ => rfl
  have OI : FnOk P w K mg base CX0 8 fI _ ["self", "form"] (spInitE CE) := ok_initE FI GF M h3 h5 h6 h13 h12
  have MK : Mk K CE fI := ⟨R.exp.mk', aI, iI, R.exp.kC⟩
  have pF : Pp P w K mg base CE "form" "_form" := pp_of R.exp.cl R.p1 (fun f fd F => F.binds (ps := ["self"]) fun _ _ _ _ _ _ us hl => match us, hl with | [_], _ => rfl) fun f fd F => ok_formP F M
  obtain ⟨f15, h15⟩ := has_of (P := P) (w := w) (base := base) (k := 10) (ps := ["sign", "one", "other"]) (sp := spSign CE) R.g15 X G (fun f fd F => F.binds (ps := ["sign", "one", "other"]) fun _ _ _ _ _ _ us hl => match us, hl with | [_, _, _], _ => rfl) fun f fd m F => ok_sign F M MK (raw_2 bI OI) h14 pF
  exact {
    G := GF
    M := M
    nm := ⟨f1, h1⟩
    fld := ⟨f2, h2⟩
    make := ⟨fI, MK, raw_2 bI OI⟩
    pS := pp_of R.exp.cl R.p4 (fun f fd F => F.binds (ps := ["self"]) fun _ _ _ _ _ _ us hl => match us, hl with | [_], _ => rfl) fun f fd F => ok_fieldsP F M
    orE := by rw [u_orM]; exact own_of R.m1 (fun f fd F => F.binds (ps := ["self", "other"]) fun _ _ _ _ _ _ us hl => match us, hl with | [_, _], _ => rfl) fun f fd F => ok_orE F h15
    andE := by rw [u_andM]; exact own_of R.m2 (fun f fd F => F.binds (ps := ["self", "other"]) fun _ _ _ _ _ _ us hl => match us, hl with | [_, _], _ => rfl) fun f fd F => ok_andE F h15
    subE := by rw [u_subM]; exact own_of R.m3 (fun f fd F => F.binds (ps := ["self", "other"]) fun _ _ _ _ _ _ us hl => match us, hl with | [_, _], _ => rfl) fun f fd F => ok_subE F h15
    xorE := by rw [u_xorM]; exact own_of R.m4 (fun f fd F => F.binds (ps := ["self", "other"]) fun _ _ _ _ _ _ us hl => match us, hl with | [_, _], _ => rfl) fun f fd F => ok_xorE F h15 }
end
end K1

namespace K1
open PySem PySem.Spec
open PyProof.Rows L2 L2H EnT StX SmX TxS DuX XdI Tr3 CnB ClX
/-! ### of, meets, and what the law's asks catch -/
structure RawW (K : PySem.W.Frag) (CE C CN CM CS CU S1 S2 S3 : Addr) : Prop where
  s1 : PySem.W.nsIn K mainGlobals "SetError" = some (some (.ref S1))
  s2 : PySem.W.nsIn K mainGlobals "StateError" = some (some (.ref S2))
  s3 : PySem.W.nsIn K mainGlobals "LimitError" = some (some (.ref S3))
  eS : ErrD K "InvalidSets" "index" "InvalidSets.__init__" s_InvalidSets___init__ CS S1 S2 S3
  eU : ErrD K "UnknownField" "value" "UnknownField.__init__" s_UnknownField___init__ CU S1 S2 S3
  q11 : PySem.W.kitOne K (.ref CS) (.ref CS) = some true
  q12 : PySem.W.kitOne K (.ref CS) (.ref CM) = some false
  q13 : PySem.W.kitOne K (.ref CS) (.ref CU) = some false
  q14 : PySem.W.kitOne K (.ref CS) (.ref CN) = some false
  q21 : PySem.W.kitOne K (.ref CM) (.ref CS) = some false
  q22 : PySem.W.kitOne K (.ref CM) (.ref CM) = some true
  q23 : PySem.W.kitOne K (.ref CM) (.ref CU) = some false
  q24 : PySem.W.kitOne K (.ref CM) (.ref CN) = some false
  q31 : PySem.W.kitOne K (.ref CU) (.ref CS) = some false
  q32 : PySem.W.kitOne K (.ref CU) (.ref CM) = some false
  q33 : PySem.W.kitOne K (.ref CU) (.ref CU) = some true
  q34 : PySem.W.kitOne K (.ref CU) (.ref CN) = some false
  q41 : PySem.W.kitOne K (.ref CN) (.ref CS) = some false
  q42 : PySem.W.kitOne K (.ref CN) (.ref CM) = some false
  q43 : PySem.W.kitOne K (.ref CN) (.ref CU) = some false
  q44 : PySem.W.kitOne K (.ref CN) (.ref CN) = some true
  r1 : GloD K "is_field_set" s_is_field_set
  r2 : GloD K "field_sets" s_field_sets
  r3 : GloD K "all_sets" s_all_sets
  r4 : GloD K "form_value" s_form_value
  r5 : GloD K "wrong_or_twice_at" sWrong2
  r6 : GloD K "form_meets" s_form_meets
  of : MethK K CE "of" "Expression.of" s_of "given" .non
  mt : MethK K CE "meets" "Expression.meets" s_meets "given" (.bl false)
  fV : PySem.W.nsIn K mainGlobals "ValueError" = some none
  fL : PySem.W.nsIn K mainGlobals "LookupError" = some none
  fA : PySem.W.nsIn K mainGlobals "ArithmeticError" = some none
theorem ErrD.errF {K : PySem.W.Frag} {x fld qual : Str} {st : Stmt} {D S1 S2 S3 : Addr} (e : ErrD K x fld qual st D S1 S2 S3) : ErrF K S1 S2 S3 D 0 := ⟨e.xc, e.k1, e.k2, e.k3, e.kV, e.kL, e.kA, e.kx, e.xf⟩
section
variable {w : World} {P : Program} {base : Heap} {mg : Str → Option Value} {K : PySem.W.Frag} {CE C CN CM CS CU S1 S2 S3 aS : Addr} {h : Heap}
theorem hasX_of {CX : CXT} {k : Nat} {x : Str} {st : Stmt} {ps : List Str} {sp : Sp} (d : GloD K x st) (X : K.In h) (G : h.Ns mainGlobals mg) (B : ∀ f fd, Fun K x x st f fd → L2.Binds K fd ps []) (ok : ∀ f fd, mg x = some (.ref f) → Fun K x x st f fd → FnOk P w K mg base CX k f fd ps sp) : ∃ f, Has P w K mg base CX k x f ps sp := by
  obtain ⟨f, a, d⟩ := d
  obtain ⟨fd, F⟩ := d.fun_
  have m := PySem.W.mg_of X G a
  exact ⟨f, m, F.kp, fd, ok f fd m F, B f fd F⟩
theorem wo_of (T : Free mg) (RM : RawM K C CN CM S1 S2 S3) (RE : RawE K CE aS) (R : RawW K CE C CN CM CS CU S1 S2 S3) (X : K.In h) (G : h.Ns mainGlobals mg) : Wo P w K mg base CE C CN CM CS CU S1 S2 S3 (.type "type") := by
  obtain ⟨B, ⟨f0, MM⟩, _⟩ := mb_of (P := P) (w := w) (base := base) T RM X G
  have O := mo_of B RM
  have E := exe_of (P := P) (w := w) (base := base) T RE X G
  have MC := B.M
  have II := B.I
  obtain ⟨fM, iM1, iM2, dM⟩ := RM.eM.ini
  obtain ⟨fN, iN1, iN2, dN⟩ := RM.eN.ini
  obtain ⟨fS, iS1, iS2, dS⟩ := R.eS.ini
  obtain ⟨fU, iU1, iU2, dU⟩ := R.eU.ini
  obtain ⟨fdM, FM⟩ := dM.fun_
  obtain ⟨fdN, FN⟩ := dN.fun_
  obtain ⟨fdS, FS⟩ := dS.fun_
  obtain ⟨fdU, FU⟩ := dU.fun_
  have EM : ErrC K mg "NotMembers" "value" CM fM := ⟨PySem.W.mg_of X G RM.eM.g, RM.eM.ox, RM.eM.no, iM1, iM2⟩
  have EN : ErrC K mg "InvalidNames" "index" CN fN := ⟨PySem.W.mg_of X G RM.eN.g, RM.eN.ox, RM.eN.no, iN1, iN2⟩
  have ES : ErrC K mg "InvalidSets" "index" CS fS := ⟨PySem.W.mg_of X G R.eS.g, R.eS.ox, R.eS.no, iS1, iS2⟩
  have EU : ErrC K mg "UnknownField" "value" CU fU := ⟨PySem.W.mg_of X G R.eU.g, R.eU.ox, R.eU.no, iU1, iU2⟩
  obtain ⟨f1, h1⟩ := E.nm
  obtain ⟨f2, h2⟩ := E.fld
  obtain ⟨f3, h3⟩ := hasX_of (P := P) (w := w) (base := base) (CX := CX0) (k := 3) (ps := ["value"]) (sp := spFSet K C) R.r1 X G (fun f fd F => F.binds (ps := ["value"]) fun _ _ _ _ _ _ us hl => match us, hl with | [_], _ => rfl) fun f fd m F => ok_fset F T MC II h2
  obtain ⟨f4, h4⟩ := hasX_of (P := P) (w := w) (base := base) (CX := L2.CX P w) (k := 5) (ps := ["sets"]) (sp := spOr (spFSets K C CS) (spFSetsL CS)) R.r2 X G (fun f fd F => F.binds (ps := ["sets"]) fun _ _ _ _ _ _ us hl => match us, hl with | [_], _ => rfl) fun f fd m F => K1.FnOk.or (ok_fsets F T h3 ES FS) (ok_fsetsL F T h3 ES FS)
  obtain ⟨f5, h5⟩ := hasX_of (P := P) (w := w) (base := base) (CX := L2.CX P w) (k := 3) (ps := ["value"]) (sp := spChkG C CM) RM.chkM X G (fun f fd F => F.binds (ps := ["value"]) fun _ _ _ _ _ _ us hl => match us, hl with | [_], _ => rfl) fun f fd m F => K1.FnOk.or (ok_chkY F T MC II EM FM) (ok_chkN F T MC II EM FM)
  obtain ⟨f6, h6⟩ := hasX_of (P := P) (w := w) (base := base) (CX := L2.CX P w) (k := 7) (ps := ["fields", "sets", "given"]) (sp := spAll K C CS CM CU) R.r3 X G (fun f fd F => F.binds (ps := ["fields", "sets", "given"]) fun _ _ _ _ _ _ us hl => match us, hl with | [_, _, _], _ => rfl) fun f fd m F => ok_allsets F E.G h4 h5 MC MM.M MM.F EU FU
  obtain ⟨f7, h7⟩ := hasX_of (P := P) (w := w) (base := base) (CX := L2.CX P w) (k := 15) (ps := ["form", "table"]) (sp := spValue C 6) R.r4 X G (fun f fd F => F.binds (ps := ["form", "table"]) fun _ _ _ _ _ _ us hl => match us, hl with | [_, _], _ => rfl) fun f fd m F => ok_value F O m 5
  obtain ⟨f8, h8⟩ := hasX_of (P := P) (w := w) (base := base) (CX := CX0) (k := 2) (ps := ["values"]) (sp := spWT K) R.r5 X G (fun f fd F => F.binds (ps := ["values"]) fun _ _ _ _ _ _ us hl => match us, hl with | [_], _ => rfl) fun f fd m F => ok_wt F T h1
  obtain ⟨f9, h9⟩ := hasX_of (P := P) (w := w) (base := base) (CX := CX0) (k := 8) (ps := ["form", "inside", "given"]) (sp := spMeetsF 7) R.r6 X G (fun f fd F => F.binds (ps := ["form", "inside", "given"]) fun _ _ _ _ _ _ us hl => match us, hl with | [_, _, _], _ => rfl) fun f fd m F => ok_meetsF F T E.G m 7
  obtain ⟨gO, fdO, mO, FO⟩ := R.of
  obtain ⟨gT, fdT, mT, FT⟩ := R.mt
  exact {
    b := B
    EK := ⟨PySem.W.mg_of X G R.s1, PySem.W.mg_of X G R.s2, PySem.W.mg_of X G R.s3, PySem.W.mg_none_of X G R.fV, PySem.W.mg_none_of X G R.fL, PySem.W.mg_none_of X G R.fA,
      PySem.W.mg_of X G R.eS.g, R.eS.errF, R.eS.no, R.q11, R.q12, R.q13, R.q14, PySem.W.mg_of X G RM.eM.g, RM.eM.errF, RM.eM.no, R.q21, R.q22, R.q23, R.q24,
      PySem.W.mg_of X G R.eU.g, R.eU.errF, R.eU.no, R.q31, R.q32, R.q33, R.q34, PySem.W.mg_of X G RM.eN.g, RM.eN.errF, RM.eN.no, R.q41, R.q42, R.q43, R.q44⟩
    M := E.M
    of := ⟨gO, fdO, mO, FO, ok_of FO E.M h7 h6⟩
    mt := ⟨gT, fdT, mT, FT, ok_meets FT T E.M h8 h9 EN FN⟩
    pS := E.pS }
end
end K1

namespace K1
open PySem PySem.Spec
open PyProof.Rows L2 L2H EnT StX SmX TxS DuX XdI Tr3 CnB ClX
/-! ### the law's own defs, and the end -/
abbrev frees : List Str := ["len", "int", "abs", "range", "list", "str", "set", "sorted", "tuple", "isinstance", "enumerate", "repr", "bool", "any", "all", "max", "min"]
structure RawL (K : PySem.W.Frag) : Prop where
  i : GloD K "_law_in" s_L_in
  wn : GloD K "_law_wanted" s_L_wanted
  nm : GloD K "_law_names" sNames
  dr : GloD K "_law_draw" sDraw
  st : GloD K "_law_sets" s_L_sets
  pr : GloD K "_law_pairs" s_L_pairs
  fo : GloD K "_law_form" sForm
  be : GloD K "_law_bent" s_L_bent
  ce : GloD K "_law_cell" sCell
  po : GloD K "_law_pool" sPool
  ca : GloD K "_law_caught" sCaught
  dict : PySem.W.nsIn K mainGlobals "dict" = some none
  free : ∀ x ∈ frees, PySem.W.nsIn K mainGlobals x = some none
theorem free_of {h : Heap} {K : PySem.W.Frag} {mg : Str → Option Value} (R : RawL K) (X : K.In h) (G : h.Ns mainGlobals mg) : Free mg := by
  have z : ∀ x ∈ frees, mg x = none := fun x hx => PySem.W.mg_none_of X G (R.free x hx)
  exact ⟨z _ (by simp), z _ (by simp), z _ (by simp), z _ (by simp), z _ (by simp), z _ (by simp), z _ (by simp), z _ (by simp), z _ (by simp), z _ (by simp), z _ (by simp), z _ (by simp), z _ (by simp), z _ (by simp), z _ (by simp), z _ (by simp), z _ (by simp)⟩
theorem law_end {l : PySem.W.OpenLaw} {q : Program} {w : World} {mg : Str → Option Value} {fa : Addr} {h : Heap} {K : PySem.W.Frag} {CE C CN CM CS CU S1 S2 S3 aS fR cR PR fL cL PL fO cO PO : Addr} (RM : RawM K C CN CM S1 S2 S3) (RE : RawE K CE aS) (RW : RawW K CE C CN CM CS CU S1 S2 S3) (RL : RawL K) (DR : CodeD K "_law_right" sRight fR cR PR) (DL : CodeD K "law" sLaw fL cL PL)
    (DO : CodeD K "_law_odd_right" s_L_odd_right fO cO PO)
    (X : K.In h) (G : h.Ns mainGlobals mg) (hmg : mg "law" = some (.ref fa)) (TB : EnG.TabsAt q mg h) (hrec : ((recsOf q).any fun e => e.name == ("_law_odd_right" : Str)) = true) : EnG.LawG l w 22 63 mg fa h := by
  have e := hmg.symm.trans (PySem.W.mg_of X G DL.g)
  cases e
  have mgO := PySem.W.mg_of X G DO.g
  obtain ⟨oc, od, kV, doc, pm, an, ct, osl, lk, hcd⟩ := DO.fn.ex
  obtain ⟨ec, dc, vc, slc, lc, h11⟩ := DO.cd
  obtain ⟨tabP, codP⟩ := EnG.tab_of X TB hrec mgO lk rfl rfl lc h11
  refine ⟨K, [(cO, PO)], spLaw K PO, X, fun p hp => ?_, fun p hp => ?_, fun p hp => ?_, fun H a ns hl hH hS => ?_, fun base hb hG hT => ?_⟩
  · rw [List.mem_singleton.mp
        hp]
    exact tabP
  · rw [List.mem_singleton.mp
        hp]
    exact DO.no
  · rw [List.mem_singleton.mp
        hp]
    exact codP
  · refine ⟨a, ns, rfl, hS, by omega, fun p hp => ?_, fun _ => rfl⟩
    rw [List.mem_singleton.mp hp]
    exact LamX.TabS.nil (hH (cO, PO) List.mem_cons_self)
  · have T : Free mg := free_of RL X G
    have W : Wo l.prog w K mg base CE C CN CM CS CU S1 S2 S3 (.type "type") := wo_of T RM RE RW X G
    have B := W.b
    have O := mo_of B RM
    have Ee := exe_of (P := l.prog) (w := w) (base := base) T RE X G
    have EQ := (mb_of (P := l.prog) (w := w) (base := base) T RM X G).2.2
    have tb := hT (cO, PO) List.mem_cons_self
    obtain ⟨fC, aC, dC⟩ := RL.ca
    obtain ⟨fdC, FC⟩ := dC.fun_
    have AK : Asks K mg base cO PO := ⟨⟨fC, fdC, PySem.W.mg_of X G aC, FC⟩, tb⟩
    obtain ⟨fD, hD⟩ := hasX_of (P := l.prog) (w := w) (base := base) (CX := CX0) (k := 1) (ps := ["_law_pool_here", "_law_many"]) (sp := spDraw) RL.dr X G (fun f fd F => F.binds (ps := ["_law_pool_here", "_law_many"]) fun _ _ _ _ _ _ us hl => match us, hl with | [_, _], _ => rfl) fun f fd m F => ok_draw F T
    obtain ⟨fB, hB⟩ := hasX_of (P := l.prog) (w := w) (base := base) (CX := CX0) (k := 3) (ps := ["_law_pool_here", "_law_pairs_here"]) (sp := spBent K C) RL.be X G (fun f fd F => F.binds (ps := ["_law_pool_here", "_law_pairs_here"]) fun _ _ _ _ _ _ us hl => match us, hl with | [_, _], _ => rfl) fun f fd m F => ok_bent F B hD
    have HI := hasX_of (P := l.prog) (w := w) (base := base) (CX := CX0) (k := 8) (ps := ["_law_shape", "_law_among", "_law_gotten"]) (sp := spIn 7) RL.i X G (fun f fd F => F.binds (ps := ["_law_shape", "_law_among", "_law_gotten"]) fun _ _ _ _ _ _ us hl => match us, hl with | [_, _, _], _ => rfl) fun f fd m F => ok_in F T m 7
    obtain ⟨fI, hI⟩ := HI
    have HS := hasX_of (P := l.prog) (w := w) (base := base) (CX := CX0) (k := 2) (ps := ["_law_pool_here", "_law_fields", "_law_people"]) (sp := spSetsL) RL.st X G (fun f fd F => F.binds (ps := ["_law_pool_here", "_law_fields", "_law_people"]) fun _ _ _ _ _ _ us hl => match us, hl with | [_, _, _], _ => rfl) fun f fd m F => ok_sets F T (PySem.W.mg_none_of X G RL.dict) hD
    obtain ⟨gD, aD, dD⟩ := RL.dr
    obtain ⟨fdD, FD⟩ := dD.fun_
    have HN := hasX_of (P := l.prog) (w := w) (base := base) (CX := CX0) (k := 2) (ps := ["_law_pool_here", "_law_many"]) (sp := spNames) RL.nm X G (fun f fd F => F.binds (ps := ["_law_pool_here", "_law_many"]) fun _ _ _ _ _ _ us hl => match us, hl with | [_, _], _ => rfl) fun f fd m F => ok_names F T FD (PySem.W.mg_of X G aD)
    have H6 : Hp6 l.prog w K mg base C := {
      hi := ⟨fI, hI⟩
      hw := hasX_of (P := l.prog) (w := w) (base := base) (CX := CX0) (k := 9) (ps := ["_law_shape", "_law_known", "_law_people", "_law_given_here"]) (sp := spWanted) RL.wn X G (fun f fd F => F.binds (ps := ["_law_shape", "_law_known", "_law_people", "_law_given_here"]) fun _ _ _ _ _ _ us hl => match us, hl with | [_, _, _, _], _ => rfl) fun f fd m F => ok_wanted F T hI
      hn := HN
      hd := ⟨fD, hD⟩
      hs := HS
      hp := hasX_of (P := l.prog) (w := w) (base := base) (CX := CX0) (k := 8) (ps := ["_law_known"]) (sp := spPairs C) RL.pr X G (fun f fd F => F.binds (ps := ["_law_known"]) fun _ _ _ _ _ _ us hl => match us, hl with | [_], _ => rfl) fun f fd m F => ok_pairs F B
      hf := hasX_of (P := l.prog) (w := w) (base := base) (CX := CX0) (k := 6) (ps := ["_law_pool_here", "_law_words", "_law_deep"]) (sp := spFormL 4) RL.fo X G (fun f fd F => F.binds (ps := ["_law_pool_here", "_law_words", "_law_deep"]) fun _ _ _ _ _ _ us hl => match us, hl with | [_, _, _], _ => rfl) fun f fd m F => ok_form F T m hD 4 }
    have RI : Ri l.prog w K mg base CE C PO := ⟨EQ, RE.sf, Ee.orE, Ee.andE, Ee.subE, Ee.xorE, Ee.make, ⟨fO, mgO, DO.kp, ok_oddR W AK hD hB DO.fn⟩⟩
    have GR : FnG l.prog w K mg base CX0 21 fR (spRight PO) := ok_right W O RI H6 DR.fn
    obtain ⟨fE, aE, dE⟩ := RL.ce
    obtain ⟨fdE, FE⟩ := dE.fun_
    have bE : L2.Binds K fdE ["_law_cells", "_law_k"] [] := FE.binds (ps := ["_law_cells", "_law_k"]) fun _ _ _ _ _ _ us hl => match us, hl with | [_, _], _ => rfl
    obtain ⟨fQ, aQ, dQ⟩ := RL.po
    obtain ⟨fdQ, FQ⟩ := dQ.fun_
    have bQ : L2.Binds K fdQ ["_law_cell_here"] [] := FQ.binds (ps := ["_law_cell_here"]) fun _ _ _ _ _ _ us hl => match us, hl with | [_], _ => rfl
    exact ok_law T ⟨⟨fE, PySem.W.mg_of X G aE, FE.kp, fdE, ok_cell FE T, bE⟩, ⟨fQ, PySem.W.mg_of X G aQ, FQ.kp, fdQ, ok_pool FQ T, bQ⟩, ⟨fR, PySem.W.mg_of X G DR.g, DR.kp, GR⟩⟩ DL.fn
end K1
theorem K1.ex1 {α : Sort _} {p : α → Prop} {a : α} (h : p a) : ∃ x, p x := ⟨a, h⟩
set_option maxHeartbeats 0
section
open PySem PySem.W PyProof.Rows
theorem PySem.Challenge.cw_onemember_k06_whole_expressions_of_sets_holds : PySem.Challenge.rw_onemember_k06_whole_expressions_of_sets.Holds := by
  refine K1.hdT.2 (K1.HeadTag.mk ?_)
  delta K1.hdT
  dsimp only
  k_fill
  refine EnG.walk_G (l := PySem.Challenge.rw_onemember_k06_whole_expressions_of_sets) (n := 63) (k := 22) rfl (by decide) rfl ⟨rfl, by decide, by decide⟩ ?F
  intro w mg fa h Y G hmg TB
  have KX := kIn_of Y
  refine' K1.law_end ?RM ?RE { s1 := ?rw_s1, s2 := ?rw_s2, s3 := ?rw_s3, eS := ?rw_eS, eU := ?rw_eU, q11 := ?rw_q11, q12 := ?rw_q12, q13 := ?rw_q13, q14 := ?rw_q14, q21 := ?rw_q21, q22 := ?rw_q22, q23 := ?rw_q23, q24 := ?rw_q24, q31 := ?rw_q31, q32 := ?rw_q32, q33 := ?rw_q33, q34 := ?rw_q34, q41 := ?rw_q41, q42 := ?rw_q42, q43 := ?rw_q43, q44 := ?rw_q44, r1 := ?rw_r1, r2 := ?rw_r2, r3 := ?rw_r3, r4 := ?rw_r4, r5 := ?rw_r5, r6 := ?rw_r6, of := ?rw_of, mt := ?rw_mt, fV := ?rw_fV, fL := ?rw_fL, fA := ?rw_fA } ?RL ?DR ?DL ?DO KX G hmg TB ?hrec
  (case hrec => decide +kernel)
  case DR =>
    refine' K1.codeD_mk ?a ?l ?c ?k ?lc ?h ?no
    (case a => k_is)
    (case l => k_is)
    (case c => k_is)
    (case k => k_is)
    (case lc => k_is)
    (case h => exact rfl)
    (case no => exact rfl)
  case DL =>
    refine' K1.codeD_mk ?a ?l ?c ?k ?lc ?h ?no
    (case a => k_is)
    (case l => k_is)
    (case c => k_is)
    (case k => k_is)
    (case lc => k_is)
    (case h => exact rfl)
    (case no => exact rfl)
  case DO =>
    refine' K1.codeD_mk ?a ?l ?c ?k ?lc ?h ?no
    (case a => k_is)
    (case l => k_is)
    (case c => k_is)
    (case k => k_is)
    (case lc => k_is)
    (case h => exact rfl)
    (case no => exact rfl)
  (case rw_s1 => k_is)
  (case rw_s2 => k_is)
  (case rw_s3 => k_is)
  case RM =>
    refine' { mem := ?rm_mem, sf := ?rm_sf, ini := ?rm_ini, len := ?rm_len, has := ?rm_has, eq := ?rm_eq, m1 := ?rm_m1, m2 := ?rm_m2, m3 := ?rm_m3, m4 := ?rm_m4, prop := ?rm_prop, frm := ?rm_frm, eN := ?rm_eN, eM := ?rm_eM, isn := ?rm_isn, wrg := ?rm_wrg, chkM := ?rm_chkM, ln := ?rm_ln }
    case rm_mem =>
      refine' K1.memD_mk ?g ?pg ?hd ?po ?sa ?nN ?nT ?mk ?kC ?ha ?hn ?ht ?hm ?yes ?o1 ?o2 ?o3 ?o4 ?o5 ?o6 ?o7 ?f1 ?f2 ?f3 ?f4 ?f5 ?f6 ?f7 ?fC ?ne ?nb ?rd ?ga
      (case g => k_is)
      (case pg => k_is)
      (case hd => k_is)
      (case po => k_is)
      (case sa => k_is)
      (case nN => k_is)
      (case nT => k_is)
      (case mk => k_is)
      (case kC => k_is)
      (case ha => k_is)
      (case hn => k_is)
      (case ht => k_is)
      (case hm => k_is)
      (case yes => kit_is)
      (case o1 => kit_is)
      (case o2 => kit_is)
      (case o3 => kit_is)
      (case o4 => kit_is)
      (case o5 => kit_is)
      (case o6 => kit_is)
      (case o7 => kit_is)
      (case f1 => k_is)
      (case f2 => k_is)
      (case f3 => k_is)
      (case f4 => k_is)
      (case f5 => k_is)
      (case f6 => k_is)
      (case f7 => k_is)
      (case fC => k_is)
      (case ne => k_is)
      (case nb => k_is)
      (case rd => k_is)
      (case ga => k_is)
    (case rm_sf => k_is)
    case rm_ini =>
      refine' K1.methD_mk ?a ?i ?l ?c ?k
      (case a => k_is)
      (case i => k_is)
      (case l => k_is)
      (case c => k_is)
      (case k => k_is)
    case rm_len =>
      refine' K1.methD_mk ?a ?i ?l ?c ?k
      (case a => k_is)
      (case i => k_is)
      (case l => k_is)
      (case c => k_is)
      (case k => k_is)
    case rm_has =>
      refine' K1.methD_mk ?a ?i ?l ?c ?k
      (case a => k_is)
      (case i => k_is)
      (case l => k_is)
      (case c => k_is)
      (case k => k_is)
    case rm_eq =>
      refine' K1.methD_mk ?a ?i ?l ?c ?k
      (case a => k_is)
      (case i => k_is)
      (case l => k_is)
      (case c => k_is)
      (case k => k_is)
    case rm_m1 =>
      refine' K1.methD_mk ?a ?i ?l ?c ?k
      (case a => k_is)
      (case i => k_is)
      (case l => k_is)
      (case c => k_is)
      (case k => k_is)
    case rm_m2 =>
      refine' K1.methD_mk ?a ?i ?l ?c ?k
      (case a => k_is)
      (case i => k_is)
      (case l => k_is)
      (case c => k_is)
      (case k => k_is)
    case rm_m3 =>
      refine' K1.methD_mk ?a ?i ?l ?c ?k
      (case a => k_is)
      (case i => k_is)
      (case l => k_is)
      (case c => k_is)
      (case k => k_is)
    case rm_m4 =>
      refine' K1.methD_mk ?a ?i ?l ?c ?k
      (case a => k_is)
      (case i => k_is)
      (case l => k_is)
      (case c => k_is)
      (case k => k_is)
    case rm_prop =>
      refine' K1.propD_mk ?a ?g ?t ?r ?l ?c ?k
      (case a => k_is)
      (case g => k_is)
      (case t => k_is)
      (case r => k_is)
      (case l => k_is)
      (case c => k_is)
      (case k => k_is)
    case rm_frm =>
      refine' K1.statD_mk ?a ?r ?l ?c ?k
      (case a => k_is)
      (case r => k_is)
      (case l => k_is)
      (case c => k_is)
      (case k => k_is)
    case rm_eN =>
      refine' K1.errD_mk ?g ?lD ?sh ?sa ?exC ?tyC ?kC ?no ?a ?ty ?l ?c ?k ?hg ?hk ?hd ?ha ?hn ?ht ?hm ?k1 ?k2 ?k3 ?kV ?kL ?kA ?kx
      (case g => k_is)
      (case lD => k_is)
      (case sh => exact ⟨_, _, _, _, _, _, _, _, _, _, _, _, _, _, _, rfl, by decide⟩)
      (case sa => k_is)
      (case exC => k_is)
      (case tyC => k_is)
      (case kC => k_is)
      (case no => k_is)
      (case a => k_is)
      (case ty => k_is)
      (case l => k_is)
      (case c => k_is)
      (case k => k_is)
      (case hg => k_is)
      (case hk => k_is)
      (case hd => k_is)
      (case ha => k_is)
      (case hn => k_is)
      (case ht => k_is)
      (case hm => k_is)
      (case k1 => kit_is)
      (case k2 => kit_is)
      (case k3 => kit_is)
      (case kV => kit_is)
      (case kL => kit_is)
      (case kA => kit_is)
      (case kx => kts_exm)
    case rm_eM =>
      refine' K1.errD_mk ?g ?lD ?sh ?sa ?exC ?tyC ?kC ?no ?a ?ty ?l ?c ?k ?hg ?hk ?hd ?ha ?hn ?ht ?hm ?k1 ?k2 ?k3 ?kV ?kL ?kA ?kx
      (case g => k_is)
      (case lD => k_is)
      (case sh => exact ⟨_, _, _, _, _, _, _, _, _, _, _, _, _, _, _, rfl, by decide⟩)
      (case sa => k_is)
      (case exC => k_is)
      (case tyC => k_is)
      (case kC => k_is)
      (case no => k_is)
      (case a => k_is)
      (case ty => k_is)
      (case l => k_is)
      (case c => k_is)
      (case k => k_is)
      (case hg => k_is)
      (case hk => k_is)
      (case hd => k_is)
      (case ha => k_is)
      (case hn => k_is)
      (case ht => k_is)
      (case hm => k_is)
      (case k1 => kit_is)
      (case k2 => kit_is)
      (case k3 => kit_is)
      (case kV => kit_is)
      (case kL => kit_is)
      (case kA => kit_is)
      (case kx => kts_exm)
    case rm_isn =>
      refine' K1.gloD_mk ?a ?l ?c ?k
      (case a => k_is)
      (case l => k_is)
      (case c => k_is)
      (case k => k_is)
    case rm_wrg =>
      refine' K1.gloD_mk ?a ?l ?c ?k
      (case a => k_is)
      (case l => k_is)
      (case c => k_is)
      (case k => k_is)
    case rm_chkM =>
      refine' K1.gloD_mk ?a ?l ?c ?k
      (case a => k_is)
      (case l => k_is)
      (case c => k_is)
      (case k => k_is)
    (case rm_ln => refine' K1.ex1 ?a; (case a => k_is))
  case RE =>
    refine' { exp := ?re_exp, n1 := ?re_n1, n2 := ?re_n2, n3 := ?re_n3, n4 := ?re_n4, n5 := ?re_n5, sf := ?re_sf, ini := ?re_ini, m1 := ?re_m1, m2 := ?re_m2, m3 := ?re_m3, m4 := ?re_m4, p1 := ?re_p1, p4 := ?re_p4, g1 := ?re_g1, g2 := ?re_g2, g3 := ?re_g3, g4 := ?re_g4, g5 := ?re_g5, g6 := ?re_g6, g12 := ?re_g12, g13 := ?re_g13, g14 := ?re_g14, g15 := ?re_g15, sg := ?re_sg, c1 := ?re_c1, c2 := ?re_c2, c3 := ?re_c3, c4 := ?re_c4, c5 := ?re_c5 }
    case re_exp =>
      refine' K1.clsD_mk ?g ?hd ?pg ?sa ?po ?kC ?mk ?hm ?ht ?hn ?ha ?yes ?o1 ?o2 ?o3 ?o4 ?o5 ?o6 ?o7 ?f1 ?f2 ?f3 ?f4 ?f5 ?f6 ?f7 ?fC ?ne ?rd ?ga
      (case g => k_is)
      (case hd => k_is)
      (case pg => k_is)
      (case sa => k_is)
      (case po => k_is)
      (case kC => k_is)
      (case mk => k_is)
      (case hm => k_is)
      (case ht => k_is)
      (case hn => k_is)
      (case ha => k_is)
      (case yes => kit_is)
      (case o1 => kit_is)
      (case o2 => kit_is)
      (case o3 => kit_is)
      (case o4 => kit_is)
      (case o5 => kit_is)
      (case o6 => kit_is)
      (case o7 => kit_is)
      (case f1 => k_is)
      (case f2 => k_is)
      (case f3 => k_is)
      (case f4 => k_is)
      (case f5 => k_is)
      (case f6 => k_is)
      (case f7 => k_is)
      (case fC => k_is)
      (case ne => k_is)
      (case rd => k_is)
      (case ga => k_is)
    (case re_n1 => k_is)
    (case re_n2 => k_is)
    (case re_n3 => k_is)
    (case re_n4 => k_is)
    (case re_n5 => k_is)
    (case re_sf => k_is)
    case re_ini =>
      refine' K1.methD_mk ?a ?i ?l ?c ?k
      (case a => k_is)
      (case i => k_is)
      (case l => k_is)
      (case c => k_is)
      (case k => k_is)
    case re_m1 =>
      refine' K1.methD_mk ?a ?i ?l ?c ?k
      (case a => k_is)
      (case i => k_is)
      (case l => k_is)
      (case c => k_is)
      (case k => k_is)
    case re_m2 =>
      refine' K1.methD_mk ?a ?i ?l ?c ?k
      (case a => k_is)
      (case i => k_is)
      (case l => k_is)
      (case c => k_is)
      (case k => k_is)
    case re_m3 =>
      refine' K1.methD_mk ?a ?i ?l ?c ?k
      (case a => k_is)
      (case i => k_is)
      (case l => k_is)
      (case c => k_is)
      (case k => k_is)
    case re_m4 =>
      refine' K1.methD_mk ?a ?i ?l ?c ?k
      (case a => k_is)
      (case i => k_is)
      (case l => k_is)
      (case c => k_is)
      (case k => k_is)
    case re_p1 =>
      refine' K1.propD_mk ?a ?g ?t ?r ?l ?c ?k
      (case a => k_is)
      (case g => k_is)
      (case t => k_is)
      (case r => k_is)
      (case l => k_is)
      (case c => k_is)
      (case k => k_is)
    case re_p4 =>
      refine' K1.propD_mk ?a ?g ?t ?r ?l ?c ?k
      (case a => k_is)
      (case g => k_is)
      (case t => k_is)
      (case r => k_is)
      (case l => k_is)
      (case c => k_is)
      (case k => k_is)
    case re_g1 =>
      refine' K1.gloD_mk ?a ?l ?c ?k
      (case a => k_is)
      (case l => k_is)
      (case c => k_is)
      (case k => k_is)
    case re_g2 =>
      refine' K1.gloD_mk ?a ?l ?c ?k
      (case a => k_is)
      (case l => k_is)
      (case c => k_is)
      (case k => k_is)
    case re_g3 =>
      refine' K1.gloD_mk ?a ?l ?c ?k
      (case a => k_is)
      (case l => k_is)
      (case c => k_is)
      (case k => k_is)
    case re_g4 =>
      refine' K1.gloD_mk ?a ?l ?c ?k
      (case a => k_is)
      (case l => k_is)
      (case c => k_is)
      (case k => k_is)
    case re_g5 =>
      refine' K1.gloD_mk ?a ?l ?c ?k
      (case a => k_is)
      (case l => k_is)
      (case c => k_is)
      (case k => k_is)
    case re_g6 =>
      refine' K1.gloD_mk ?a ?l ?c ?k
      (case a => k_is)
      (case l => k_is)
      (case c => k_is)
      (case k => k_is)
    case re_g12 =>
      refine' K1.gloD_mk ?a ?l ?c ?k
      (case a => k_is)
      (case l => k_is)
      (case c => k_is)
      (case k => k_is)
    case re_g13 =>
      refine' K1.gloD_mk ?a ?l ?c ?k
      (case a => k_is)
      (case l => k_is)
      (case c => k_is)
      (case k => k_is)
    case re_g14 =>
      refine' K1.gloD_mk ?a ?l ?c ?k
      (case a => k_is)
      (case l => k_is)
      (case c => k_is)
      (case k => k_is)
    case re_g15 =>
      refine' K1.gloD_mk ?a ?l ?c ?k
      (case a => k_is)
      (case l => k_is)
      (case c => k_is)
      (case k => k_is)
    case re_sg =>
      refine' K1.sgD_mk ?a ?l
      (case a => k_is)
      (case l => k_is)
    (case re_c1 => refine' K1.ex1 ?a; (case a => k_is))
    (case re_c2 => refine' K1.ex1 ?a; (case a => k_is))
    (case re_c3 => refine' K1.ex1 ?a; (case a => k_is))
    (case re_c4 => refine' K1.ex1 ?a; (case a => k_is))
    (case re_c5 => refine' K1.ex1 ?a; (case a => k_is))
  case rw_eS =>
    refine' K1.errD_mk ?g ?lD ?sh ?sa ?exC ?tyC ?kC ?no ?a ?ty ?l ?c ?k ?hg ?hk ?hd ?ha ?hn ?ht ?hm ?k1 ?k2 ?k3 ?kV ?kL ?kA ?kx
    (case g => k_is)
    (case lD => k_is)
    (case sh => exact ⟨_, _, _, _, _, _, _, _, _, _, _, _, _, _, _, rfl, by decide⟩)
    (case sa => k_is)
    (case exC => k_is)
    (case tyC => k_is)
    (case kC => k_is)
    (case no => k_is)
    (case a => k_is)
    (case ty => k_is)
    (case l => k_is)
    (case c => k_is)
    (case k => k_is)
    (case hg => k_is)
    (case hk => k_is)
    (case hd => k_is)
    (case ha => k_is)
    (case hn => k_is)
    (case ht => k_is)
    (case hm => k_is)
    (case k1 => kit_is)
    (case k2 => kit_is)
    (case k3 => kit_is)
    (case kV => kit_is)
    (case kL => kit_is)
    (case kA => kit_is)
    (case kx => kts_exm)
  case rw_eU =>
    refine' K1.errD_mk ?g ?lD ?sh ?sa ?exC ?tyC ?kC ?no ?a ?ty ?l ?c ?k ?hg ?hk ?hd ?ha ?hn ?ht ?hm ?k1 ?k2 ?k3 ?kV ?kL ?kA ?kx
    (case g => k_is)
    (case lD => k_is)
    (case sh => exact ⟨_, _, _, _, _, _, _, _, _, _, _, _, _, _, _, rfl, by decide⟩)
    (case sa => k_is)
    (case exC => k_is)
    (case tyC => k_is)
    (case kC => k_is)
    (case no => k_is)
    (case a => k_is)
    (case ty => k_is)
    (case l => k_is)
    (case c => k_is)
    (case k => k_is)
    (case hg => k_is)
    (case hk => k_is)
    (case hd => k_is)
    (case ha => k_is)
    (case hn => k_is)
    (case ht => k_is)
    (case hm => k_is)
    (case k1 => kit_is)
    (case k2 => kit_is)
    (case k3 => kit_is)
    (case kV => kit_is)
    (case kL => kit_is)
    (case kA => kit_is)
    (case kx => kts_exm)
  (case rw_q11 => kit_is)
  (case rw_q12 => kit_is)
  (case rw_q13 => kit_is)
  (case rw_q14 => kit_is)
  (case rw_q21 => kit_is)
  (case rw_q22 => kit_is)
  (case rw_q23 => kit_is)
  (case rw_q24 => kit_is)
  (case rw_q31 => kit_is)
  (case rw_q32 => kit_is)
  (case rw_q33 => kit_is)
  (case rw_q34 => kit_is)
  (case rw_q41 => kit_is)
  (case rw_q42 => kit_is)
  (case rw_q43 => kit_is)
  (case rw_q44 => kit_is)
  case rw_r1 =>
    refine' K1.gloD_mk ?a ?l ?c ?k
    (case a => k_is)
    (case l => k_is)
    (case c => k_is)
    (case k => k_is)
  case rw_r2 =>
    refine' K1.gloD_mk ?a ?l ?c ?k
    (case a => k_is)
    (case l => k_is)
    (case c => k_is)
    (case k => k_is)
  case rw_r3 =>
    refine' K1.gloD_mk ?a ?l ?c ?k
    (case a => k_is)
    (case l => k_is)
    (case c => k_is)
    (case k => k_is)
  case rw_r4 =>
    refine' K1.gloD_mk ?a ?l ?c ?k
    (case a => k_is)
    (case l => k_is)
    (case c => k_is)
    (case k => k_is)
  case rw_r5 =>
    refine' K1.gloD_mk ?a ?l ?c ?k
    (case a => k_is)
    (case l => k_is)
    (case c => k_is)
    (case k => k_is)
  case rw_r6 =>
    refine' K1.gloD_mk ?a ?l ?c ?k
    (case a => k_is)
    (case l => k_is)
    (case c => k_is)
    (case k => k_is)
  case rw_of =>
    refine' K1.methK_mk ⟨?a, ?i, ?j⟩ ?l ?c ?k ?n ?r
    (case a => k_is)
    (case i => k_is)
    (case j => k_is)
    (case l => k_is)
    (case c => k_is)
    (case k => k_is)
    (case n => k_is)
    (case r => exact rfl)
  case rw_mt =>
    refine' K1.methK_mk ⟨?a, ?i, ?j⟩ ?l ?c ?k ?n ?r
    (case a => k_is)
    (case i => k_is)
    (case j => k_is)
    (case l => k_is)
    (case c => k_is)
    (case k => k_is)
    (case n => k_is)
    (case r => exact rfl)
  (case rw_fV => k_is)
  (case rw_fL => k_is)
  (case rw_fA => k_is)
  case RL =>
    refine' { i := ?rl_i, wn := ?rl_wn, nm := ?rl_nm, dr := ?rl_dr, st := ?rl_st, pr := ?rl_pr, fo := ?rl_fo, be := ?rl_be, ce := ?rl_ce, po := ?rl_po, ca := ?rl_ca, dict := ?rl_dict, free := ?rl_free }
    case rl_i =>
      refine' K1.gloD_mk ?a ?l ?c ?k
      (case a => k_is)
      (case l => k_is)
      (case c => k_is)
      (case k => k_is)
    case rl_wn =>
      refine' K1.gloD_mk ?a ?l ?c ?k
      (case a => k_is)
      (case l => k_is)
      (case c => k_is)
      (case k => k_is)
    case rl_nm =>
      refine' K1.gloD_mk ?a ?l ?c ?k
      (case a => k_is)
      (case l => k_is)
      (case c => k_is)
      (case k => k_is)
    case rl_dr =>
      refine' K1.gloD_mk ?a ?l ?c ?k
      (case a => k_is)
      (case l => k_is)
      (case c => k_is)
      (case k => k_is)
    case rl_st =>
      refine' K1.gloD_mk ?a ?l ?c ?k
      (case a => k_is)
      (case l => k_is)
      (case c => k_is)
      (case k => k_is)
    case rl_pr =>
      refine' K1.gloD_mk ?a ?l ?c ?k
      (case a => k_is)
      (case l => k_is)
      (case c => k_is)
      (case k => k_is)
    case rl_fo =>
      refine' K1.gloD_mk ?a ?l ?c ?k
      (case a => k_is)
      (case l => k_is)
      (case c => k_is)
      (case k => k_is)
    case rl_be =>
      refine' K1.gloD_mk ?a ?l ?c ?k
      (case a => k_is)
      (case l => k_is)
      (case c => k_is)
      (case k => k_is)
    case rl_ce =>
      refine' K1.gloD_mk ?a ?l ?c ?k
      (case a => k_is)
      (case l => k_is)
      (case c => k_is)
      (case k => k_is)
    case rl_po =>
      refine' K1.gloD_mk ?a ?l ?c ?k
      (case a => k_is)
      (case l => k_is)
      (case c => k_is)
      (case k => k_is)
    case rl_ca =>
      refine' K1.gloD_mk ?a ?l ?c ?k
      (case a => k_is)
      (case l => k_is)
      (case c => k_is)
      (case k => k_is)
    (case rl_dict => k_is)
    case rl_free =>
      intro x hx
      simp only [K1.frees, List.mem_cons, List.not_mem_nil,
          or_false] at hx
      rcases hx with rfl | rfl | rfl | rfl | rfl | rfl | rfl | rfl | rfl | rfl | rfl | rfl | rfl | rfl | rfl | rfl | rfl <;> k_is

end
