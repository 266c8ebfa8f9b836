import PyProof.Rows.All
import Wide.All
import OpenK.AllK
import Wide.FinOn
import HandS.ForMost
import HandS.ForExc
import HandS.Walk
import KE.GoesMore
import KE.GoesEnum
import HandS.StrMore
import HandS.IsInst
import KE.KxStill
import HandS.Star
import HandS.ClsMeth
import HandS.MakeKwOnly
import HandS.Set
import HandS.Strs
import HandS.SetFor
import HandS.ExcInit
import HandS.DictComp
import HandS.OwnEq
import KE.KCallOwn
import PyProof.InstEq
import PyProof.ListTruth
import PyProof.Conv_bool
import PyProof.ListNew
import HandS.Deep
import HandS.RaiseMore
import PyProof.ReprRoads
import KE.DatumIndex
import PyProof.ReprLen
import PyProof.StrLawsRepr
import HandS.FStr
import HandS.Property
import HandS.Small
import HandS.WordsExc
import KE.KOpsOwn
import HandS.SlotsOwn
import PyProof.Rows.StrMeet
import HandS.TupAny
import PyProof.NeKinds
import HandS.ExcIs
import KE.KTryMore
import PyProof.Rows.FactsN_abs
import HandS.HotCalls
import HandS.Dict
import HandS.Lambda
import HandS.NoneIn
import HandS.ExcField
import HandS.Flow
import HandS.ReplaceList
import HandS.ReplaceLit
import HandS.Zip
import HandS.EndTab
import KE.KSortAny
import KE.OsRunLaw
import PySem.Challenge.RW_onemember_k10_fields_and_modes_refused
set_option Elab.async false
set_option linter.all false
set_option maxRecDepth 100000
set_option maxHeartbeats 0
section
universe u
open PySem PySem.W PySem.Calls PyProof.Rows HeadRun
noncomputable def K1.tk {α : Type u} (n : Nat) (l : List α) : List α := List.rec (motive := fun _ => Nat → List α) (fun _ => []) (fun a _ ih n => Nat.rec [] (fun m _ => a :: ih m) n) l n
noncomputable def K1.dp {α : Type u} (n : Nat) (l : List α) : List α := List.rec (motive := fun _ => Nat → List α) (fun _ => []) (fun a t ih n => Nat.rec (a :: t) (fun m _ => ih m) n) l n
theorem K1.tk_eq {α : Type u} (l : List α) : ∀ n, K1.tk n l = l.take n := by
  induction l with
  | nil => intro n; cases n <;> rfl
  | cons a t ih => intro n; cases n with
    | zero => rfl
    | succ n => exact congrArg (a :: ·) (ih n)
theorem K1.dp_eq {α : Type u} (l : List α) : ∀ n, K1.dp n l = l.drop n := by
  induction l with
  | nil => intro n; cases n <;> rfl
  | cons a t ih => intro n; cases n with
    | zero => rfl
    | succ n => exact ih n
theorem K1.all_cut {α : Type u} {l : List α} {f : α → Bool} (n : Nat) (h1 : PySem.W.R.allR (K1.tk n l) f = true) (h2 : PySem.W.R.allR (K1.dp n l) f = true) : PySem.W.R.allR l f = true := by
  rw [K1.tk_eq] at h1
  rw [K1.dp_eq] at h2
  have e : ∀ l : List α, PySem.W.R.allR l f = l.all f := fun l => (congrFun (congrFun (congrFun PySem.W.R.allR_eq α) l) f).symm
  rw [e] at h1 h2 ⊢
  rw [← List.take_append_drop n l, List.all_append, h1, h2]
  rfl
theorem K1.three {α : Type u} {l e : List α} {n m : Nat} (h1 : K1.tk n l = e.take n) (h2 : K1.tk m (K1.dp n l) = (e.drop n).take m) (h3 : K1.dp m (K1.dp n l) = (e.drop n).drop m) : l = e := by
  rw [K1.tk_eq] at h1
  rw [K1.dp_eq, K1.tk_eq] at h2
  rw [K1.dp_eq, K1.dp_eq] at h3
  rw [← List.take_append_drop n l, ← List.take_append_drop m (l.drop n), h1, h2, h3, List.take_append_drop, List.take_append_drop]
theorem K1.seen_defs {a b : PyProof.Rows.Seen} (h4 : a.defs = b.defs) (h2 : { a with defs := [] } = { b with defs := [] }) : a = b := by
  cases a
  cases b
  simp only [PyProof.Rows.Seen.mk.injEq] at h2 ⊢
  exact ⟨h4, h2.2⟩
noncomputable abbrev K1.keyOk (a b c d : List PySem.Str) : PySem.Str → Bool := fun k =>
  @PySem.W.Fast.tw3471404346716756564 PySem.Str (@instBEqOfDecidableEq PySem.Str PySem.W.Fast.sDec) PySem.W.Fast.tw12749700546528644094 k || @PySem.W.Fast.tw3471404346716756564 PySem.Str (@instBEqOfDecidableEq PySem.Str PySem.W.Fast.sDec) a k || @PySem.W.Fast.tw3471404346716756564 PySem.Str (@instBEqOfDecidableEq PySem.Str PySem.W.Fast.sDec) b k || @PySem.W.Fast.tw3471404346716756564 PySem.Str (@instBEqOfDecidableEq PySem.Str PySem.W.Fast.sDec) c k || @PySem.W.Fast.tw3471404346716756564 PySem.Str (@instBEqOfDecidableEq PySem.Str PySem.W.Fast.sDec) d k
theorem K1.gd {α : Type} {o : Option SharedT} {f : SharedT → List α} {E : List α} {n m : Nat}
    (d1 : o.map (fun s => K1.tk n (f s)) = some (E.take n)) (d2 : o.map (fun s => K1.tk m (K1.dp n (f s))) = some ((E.drop n).take m)) (d3 : o.map (fun s => K1.dp m (K1.dp n (f s))) = some ((E.drop n).drop m)) : o.map f = some E := by
  cases o with
  | none => cases d1
  | some s => exact congrArg some (K1.three (Option.some.inj d1) (Option.some.inj d2) (Option.some.inj d3))
theorem K1.gk {o : Option SharedT} {n : Nat} {a b c d : List PySem.Str}
    (k1 : o.map (fun s => PySem.W.R.allR (K1.tk n (s.abs.heap.nsKeys mainGlobals)) (K1.keyOk a b c d)) = some true)
    (k2 : o.map (fun s => PySem.W.R.allR (K1.dp n (s.abs.heap.nsKeys mainGlobals)) (K1.keyOk a b c d)) = some true) : o.map (fun s => PySem.W.Fast.tw10880121769531294198 s.abs.heap a b c d) = some true := by
  cases o with
  | none => cases k1
  | some s => exact congrArg some (K1.all_cut n (Option.some.inj k1) (Option.some.inj k2))
theorem K1.ga {α : Type} {o : Option SharedT} {n m : Nat} {l : List α} {f : SharedT → α → Bool}
    (a4 : o.map (fun s => PySem.W.R.allR (K1.tk n l) (f s)) = some true) (a5 : o.map (fun s => PySem.W.R.allR (K1.tk m (K1.dp n l)) (f s)) = some true) (a6 : o.map (fun s => PySem.W.R.allR (K1.dp m (K1.dp n l)) (f s)) = some true) : o.map (fun s => PySem.W.R.allR l (f s)) = some true := by
  cases o with
  | none => cases a4
  | some s => exact congrArg some (K1.all_cut n (Option.some.inj a4) (K1.all_cut m (Option.some.inj a5) (Option.some.inj a6)))
theorem K1.gate9 {p q : Program} {loose mods : List PySem.Str} {Xt : Shared → Bool} {h0 : Heap} {o : Option SharedT}
    (x1 : o.map (fun s => (looksF p h0 s.abs, (seenQ q loose mods Xt s.abs).2.1, (seenQ q loose mods Xt s.abs).2.2.2.2.2.2.2.2)) = some (true, bltViewBooted, clsGoodW q loose))
    (x2 : o.map (fun s => ((seenQ q loose mods Xt s.abs).2.2.2.2.1, (seenQ q loose mods Xt s.abs).2.2.2.2.2.2.1)) = some (pinGoodD (drecsOf q), plainGoodD q loose))
    (d : o.map (fun s => (seenQ q loose mods Xt s.abs).1.defs) = some (expectedOf q).defs)
    (c : o.map (fun s => (({ (seenQ q loose mods Xt s.abs).1 with defs := [] } : PyProof.Rows.Seen), (PySem.W.Fast.tw14722251495701143533 s.abs.heap mods && Heap.isNs s.abs.heap mainGlobals && Heap.isNs s.abs.heap builtinsNs && PySem.W.Fast.tw10994771534591457954 q s.abs.heap && Xt s.abs && (s.abs.gens.size == 0) && PySem.W.Fast.tw5244371056499926238 s.abs.heap && PySem.W.Fast.tw2578726214315757710 q s.abs.heap && (!PySem.W.Fast.tw2458874890965802552 q || PySem.W.Fast.tw9649274521512697073 s.abs.heap)))) = some ({ (expectedOf q) with defs := [] }, true))
    (a3 : o.map (fun s => PySem.W.Fast.tw10880121769531294198 s.abs.heap (PySem.W.Fast.tw821141287760084731 q loose) (PySem.W.R.mapR (fun x => DefRec.name x) (PySem.W.Fast.tw3399658132070893891 q)) (PySem.W.R.mapR (fun x => Prod.fst x) (PySem.W.Fast.tw7409074990110511671 q)) (PySem.W.R.mapR (fun x => ClsRec.name x) (PySem.W.Fast.tw13664370479719496447 q (PySem.W.Fast.tw821141287760084731 q loose)))) = some true)
    (a4 : o.map (fun s => PySem.W.R.allR (PySem.W.Fast.tw3399658132070893891 q) fun d => PySem.W.Fast.tw5930804224584009831 s.abs.heap (DefRec.name d)) = some true)
    (h4 : plainsOf q (looseW q loose) = [])
    (e1 : o.map (fun s => (seenQ q loose mods Xt s.abs).2.2.2.2.2.2.2.1.1) = some (wideGood q).1)
    (e2 : o.map (fun s => (seenQ q loose mods Xt s.abs).2.2.2.2.2.2.2.1.2) = some (wideGood q).2) :
    o.map (fun s => (looksF p h0 s.abs, (seenQ q loose mods Xt s.abs))) = some (true, openGood q loose) := by
  cases o with
  | none => cases a3
  | some s =>
    simp only [Option.map_some, Option.some.injEq, Prod.mk.injEq] at x1 x2 d c a3 a4 e1 e2 ⊢
    obtain ⟨b1, b2, b5⟩ := x1
    obtain ⟨b3, b4⟩ := x2
    obtain ⟨c1, c2⟩ := c
    simp only [Bool.and_eq_true] at c2
    obtain ⟨⟨⟨⟨⟨⟨⟨⟨m1, m2⟩, m3⟩, m4⟩, m5⟩, m6⟩, m7⟩, m8⟩, m9⟩ := c2
    have k3 : (seenQ q loose mods Xt s.abs).2.2.1 = true := by
      show (PySem.W.Fast.tw10880121769531294198 s.abs.heap (PySem.W.Fast.tw821141287760084731 q loose) (PySem.W.R.mapR (fun x => DefRec.name x) (PySem.W.Fast.tw3399658132070893891 q)) (PySem.W.R.mapR (fun x => Prod.fst x) (PySem.W.Fast.tw7409074990110511671 q)) (PySem.W.R.mapR (fun x => ClsRec.name x) (PySem.W.Fast.tw13664370479719496447 q (PySem.W.Fast.tw821141287760084731 q loose))) && _ && _ && _ && _ && _ && _) = true
      simp only [Bool.and_eq_true]
      exact ⟨⟨⟨⟨⟨⟨a3, m1⟩, m2⟩, m3⟩, m4⟩, m5⟩, m6⟩
    have k4 : (seenQ q loose mods Xt s.abs).2.2.2.1 = true := by
      show (_ && _ && _ && _) = true
      simp only [Bool.and_eq_true]
      exact ⟨⟨⟨a4, m7⟩, m8⟩, m9⟩
    have h6 : (seenQ q loose mods Xt s.abs).2.2.2.2.2.1 = plainGoodE q (looseW q loose) := by
      rw [← seenQ_eq]
      show plainSeenE q (looseW q loose) s.abs = _
      unfold plainSeenE plainGoodE
      rw [h4]
      rfl
    exact ⟨b1, Prod.ext (K1.seen_defs d c1) (Prod.ext b2 (Prod.ext k3 (Prod.ext k4 (Prod.ext b3 (Prod.ext h6 (Prod.ext b4 (Prod.ext (Prod.ext e1 e2) b5)))))))⟩
theorem K1.gate3 {p p' q q' : Program} {loose loose' mods mods' : List PySem.Str} {Xt Xt' : Shared → Bool} {M M' : Nat} {as : List Addr} {v : List (Option Obj)} {S : World → OsState → SharedT}
    (ran : ∀ (w : World) (os : OsState), endF (stepQ (denQ tabQ) p' w) M' p' w os = some (S w os))
    (pre : ∀ (w : World) (os : OsState), (some (S w os)).map (fun s => (looksF p' (boot_heap w.params) s.abs, seenQ q' loose' mods' Xt' s.abs)) = some (true, openGood q' loose'))
    {w : World} {os : OsState}
    (h : as.map (getT (S w os)) = v)
    (e0 : endF (stepQ (denQ tabQ) p w) M p w os = endF (stepQ (denQ tabQ) p' w) M' p' w os)
    (e1 : (some (S w os)).map (fun s => (looksF p (boot_heap w.params) s.abs, seenQ q loose mods Xt s.abs)) = (some (S w os)).map (fun s => (looksF p' (boot_heap w.params) s.abs, seenQ q' loose' mods' Xt' s.abs)))
    (e2 : (some (true, openGood q' loose') : Option (Bool × _)) = some (true, openGood q loose)) :
    (endF (stepQ (denQ tabQ) p w) M p w os).map (fun s => (looksF p (boot_heap w.params) s.abs, seenQ q loose mods Xt s.abs, as.map (getT s))) = some (true, openGood q loose, v) := by
  have z := e1.trans ((pre w os).trans e2)
  rw [e0, ran w os]
  simp only [Option.map_some, Option.some.injEq, Prod.mk.injEq] at z ⊢
  exact ⟨z.1, z.2, h⟩
theorem K1.swap {q : Program} {loose : List PySem.Str} {XP : (PySem.Str → Option Value) → Heap → Prop} {K : Params → Frag} {as : List Addr} {e : ∀ P, as = (K P).map (·.1)} {r : RowW} {d : DefRec} {kwd : List (PySem.Str × Expr)} {run : Value → List Value → Sem Value} (e' : ∀ P, as = (K P).map (·.1)) (z : WalkO q loose XP (kHook K as e').says r d kwd run) : WalkO q loose XP (kHook K as e).says r d kwd run := z
structure K1.HeadTag (T : Prop) : Prop where
  out : T
end
noncomputable section
open PySem PySem.W PySem.Calls PyProof.Rows HeadRun
namespace K1.Hs
def goS (st : SharedT → Thread → Option (SharedT × Thread)) (n0 : Nat) (ann : Option Value) : Nat → SharedT → Thread → Option (SharedT × Thread)
  | 0, s, t => some (s, t)
  | m + 1, s, t => match through t with
    | true => none
    | false => match stepOk n0 ann t with
      | false => none
      | true => match st s t with
        | some (s', t') => frS s' fun s' => goS st n0 ann m s' t'
        | none => none
theorem goS_goF {st : SharedT → Thread → Option (SharedT × Thread)} {n0 : Nat} {ann : Option Value} : ∀ {m N : Nat} {s s' : SharedT} {t t' : Thread} {r : SharedT}, goS st n0 ann m s t = some (s', t') → goF st n0 ann N s' t' = some r → goF st n0 ann (m + N) s t = some r
  | 0, N, s, s', t, t', r, h, k => by
    cases h
    rw [Nat.zero_add]
    exact k
  | m + 1, N, s, s', t, t', r, h, k => by
    rw [show m + 1 + N = m + N + 1 by omega]
    unfold goS at h
    unfold goF
    cases ht : through t with
    | true => rw [ht] at h; cases h
    | false =>
      rw [ht] at h
      cases hk : stepOk n0 ann t with
      | false => rw [hk] at h; cases h
      | true =>
        rw [hk] at h
        cases hs : st s t with
        | none => rw [hs] at h; cases h
        | some x =>
          obtain ⟨s2, t2⟩ := x
          rw [hs] at h
          have h3 : (frS s2 fun s' => goS st n0 ann m s' t2) = some (s', t') := h
          rw [frS_eq] at h3
          show (frS s2 fun s' => goF st n0 ann (m + N) s' t2) = some r
          rw [frS_eq]
          exact goS_goF h3 k
theorem end_of {st : SharedT → Thread → Option (SharedT × Thread)} {M : Nat} {p : Program} {w : World} {os : OsState} {t : BT} {n : Nat} {r : SharedT} (h : putAll (boot_heap w.params).objs.toList .nil 0 = some (t, n)) (k : goF st n (bootAnn w) M (bootT w os (t, n)) (topStub p) = some r) : endF st M p w os = some r := by
  unfold endF
  rw [h]
  show (frNat n fun n0 => goF st n0 (bootAnn w) M (bootT w os (t, n0)) (topStub p)) = some r
  rw [frNat_eq]
  exact k
abbrev RR : OpenRow := OpenLaw.row PySem.Challenge.rw_onemember_k10_fields_and_modes_refused
abbrev N : Value := .none
abbrev I (i : Int) : Value := .int i 0
abbrev S (x : String) (t : Nat) : Value := .str (PySem.Str.ofString x) t
abbrev u (x : String) : PySem.Str := .ofString x
abbrev T (x : String) : Value := .type x
abbrev B (x : String) : Value := .builtin x
abbrev R (a : Nat) : Value := .ref a
abbrev E (P : Params) (x : String) (t : Nat) (v : Value) : DictEntry := ⟨PyData.keyHash P (.ofString x), .str (.ofString x) t, v⟩
def bd : List Stmt := behindTheImports RR.prog
def A (i : Nat) : Stmt := bd.getD i (.Pass default)
def C (i j : Nat) : Stmt := match A i with
  | .ClassDef _ _ _ b _ _ _ _ _ _ _ => b.getD j (.Pass default)
  | s => s
def F (s : Stmt) (nm q : PySem.Str) (g : Nat) (cl : List (PySem.Str × Addr)) (dv kv doc md : Value) (an : Option Addr) (co ct : Value) (bl : Nat) : Data := match s with
  | .FunctionDef _ a b _ _ _ sc _ _ _ => .func ⟨nm, q, a, .stmts b, sc, g, cl, dv, kv, doc, md, an, co, ct, bl⟩
  | _ => .plain
abbrev n (o : Obj) (l r : BT) : BT := .node o l r
abbrev z : BT := .nil
def ev : Env := { scope := RR.prog.main.scope, locals := mainNs, globals := mainNs, cells := [], code := (R 13), frame := some 14 }
def th (i : Nat) (p : Pos) : Thread := ⟨denQ tabQ (.body (bd.drop i) ev), .body bd ev, p, [topFrame ⟨0, 0, 0, 0⟩]⟩
def sh (w : World) (os : OsState) (t : BT) (n k : Nat) : SharedT := ⟨t, n, (boot_heap w.params).life, #[], boot_drawn, k, os⟩
def t0 (P : Params) : BT := (n (boot_o_0 P) (n (boot_o_1 P) (n (boot_o_3 P) (n (boot_o_7 P) z z) z) (n (boot_o_5 P) (n (boot_o_9 P) z z) z)) (n (boot_o_2 P) (n (boot_o_4 P) (n (boot_o_8 P) z z) z) (n (boot_o_6 P) (n (boot_o_10 P) z z) z)))

def o2_1 (P : Params) : Obj := ⟨N, none, (.dict ⟨[E P "type.__subclasses__.ArithmeticError.0" 248 (I 57), E P "type.__subclasses__.ArithmeticError.n" 249 (I 1)]⟩ 2), ⟨[]⟩⟩
def o3_1 (P : Params) : Obj := ⟨(T "dict"), none, (.dict ⟨[E P "__name__" 165 (S "onemember.errors" 194), E P "__doc__" 166 N, E P "__package__" 167 N, E P "__loader__" 168 (B "__main__.__loader__#opaque"), E P "__spec__" 169 N, E P "__annotations__" 170 (R 6), E P "__builtins__" 171 (R 4), E P "__file__" 173 (S "/claim/cut.py" 172), E P "__cached__" 174 N, E P "_wall" 193 (R 21), E P "SetError" 213 (R 31), E P "StateError" 231 (R 44), E P "LimitError" 251 (R 57), E P "NotMembers" 276 (R 77), E P "NotAChange" 301 (R 96), E P "NotAnExpression" 326 (R 115), E P "InvalidForm" 351 (R 134), E P "InvalidText" 376 (R 153), E P "UnknownField" 401 (R 172), E P "InvalidNames" 426 (R 191), E P "InvalidSets" 451 (R 210)]⟩ 21), ⟨[]⟩⟩
def o11 : Obj := ⟨(T "tuple"), none, (.seq ⟨[]⟩ 0), ⟨[]⟩⟩
def o12 : Obj := ⟨N, none, (.fields ⟨[(I 1), (I 0), (R 20), (I 5), (I 0), (R 27), (I 7), (I 0), (R 40), (I 9), (I 0), (R 53), (I 11), (I 0), (R 66), (I 15), (I 0), (R 85), (I 19), (I 0), (R 104), (I 23), (I 0), (R 123), (I 27), (I 0), (R 142), (I 31), (I 0), (R 161), (I 35), (I 0), (R 180), (I 39), (I 0), (R 199)]⟩), ⟨[]⟩⟩
def o13 : Obj := ⟨(T "code"), none, (.fields ⟨[(S "<module>" 182), (S "<module>" 183), (S "/claim/cut.py" 184), (I 1), (I 0), (I 0), (I 0), (I 0), (R 11), (.bool false), (I 181), (R 12), N, N, N, N, (I 185), (I 1), (S "/claim/cut.py" 186)]⟩), ⟨[]⟩⟩
def o14 : Obj := ⟨(T "frame"), none, .plain, ⟨[some (R 13), some (R 3), some (R 3), none, some (S "__main__" 164), none, some (R 0)]⟩⟩
def o15 : Obj := ⟨(T "tuple"), none, (.seq ⟨[]⟩ 0), ⟨[]⟩⟩
def o16 : Obj := ⟨N, none, (.fields ⟨[]⟩), ⟨[]⟩⟩
def o17 : Obj := ⟨(T "tuple"), none, (.seq ⟨[(S "k" 190)]⟩ 0), ⟨[]⟩⟩
def o18 : Obj := ⟨(T "tuple"), none, (.seq ⟨[]⟩ 0), ⟨[]⟩⟩
def o19 : Obj := ⟨N, none, (F (A 0) (u "_wall") (u "_wall") 0 [] N N N N none N N 0), ⟨[]⟩⟩
def o20 : Obj := ⟨(T "code"), none, (.fields ⟨[(S "_wall" 187), (S "_wall" 188), (S "/claim/cut.py" 189), (I 1), (I 1), (I 0), (I 0), (I 3), (R 15), (.bool true), (I 181), (R 16), N, (R 17), (R 18), (R 19), (I 191), (I 1), (S "/claim/cut.py" 192)]⟩), ⟨[]⟩⟩
def o21 : Obj := ⟨(T "function"), none, (F (A 0) (u "_wall") (u "_wall") 3 [] N N N (S "__main__" 164) none (R 20) N 0), ⟨[]⟩⟩
def o22 : Obj := ⟨(T "tuple"), none, (.seq ⟨[(T "ValueError")]⟩ 0), ⟨[]⟩⟩
def o23 : Obj := ⟨(T "builtin_function_or_method"), none, (.fields ⟨[(B "type.__prepare__"), (T "type")]⟩), ⟨[]⟩⟩
def o24 (P : Params) : Obj := ⟨(T "dict"), none, (.dict ⟨[E P "__module__" 203 (S "onemember.errors" 194), E P "__qualname__" 205 (S "SetError" 204), E P "__firstlineno__" 207 (.int 5 206), E P "__static_attributes__" 208 (R 29)]⟩ 4), ⟨[]⟩⟩
def o25 : Obj := ⟨(T "tuple"), none, (.seq ⟨[]⟩ 0), ⟨[]⟩⟩
def o26 : Obj := ⟨N, none, (.fields ⟨[]⟩), ⟨[]⟩⟩
def o27 : Obj := ⟨(T "code"), none, (.fields ⟨[(S "SetError" 198), (S "SetError" 199), (S "/claim/cut.py" 200), (I 5), (I 0), (I 0), (I 0), (I 0), (R 25), (.bool false), (I 181), (R 26), N, N, N, N, (I 201), (I 5), (S "/claim/cut.py" 202)]⟩), ⟨[]⟩⟩
def o28 : Obj := ⟨(T "frame"), none, .plain, ⟨[some (R 27), some (R 3), some (R 24), none, some (S "onemember.errors" 194), none, some (R 0)]⟩⟩
def o29 : Obj := ⟨(T "tuple"), none, (.seq ⟨[]⟩ 0), ⟨[]⟩⟩
def o30 (P : Params) : Obj := ⟨(T "dict"), none, (.dict ⟨[E P "__module__" 203 (S "onemember.errors" 194), E P "__firstlineno__" 207 (.int 5 206), E P "__static_attributes__" 208 (R 29), E P "__weakref__" 210 (R 32), E P "__doc__" 211 N]⟩ 3), ⟨[]⟩⟩
def o31 : Obj := ⟨(T "type"), none, (.cls ⟨(u "SetError"), [(T "ValueError")], [(R 31), (T "ValueError"), (T "Exception"), (T "BaseException"), (T "object")], 30, (u "SetError"), true, [], [(R 77), (R 96), (R 115), (R 134), (R 153), (R 172), (R 191), (R 210)], false, none, false⟩), ⟨[some (R 22), none, some (S "SetError" 196), some (S "SetError" 204), some (B "ValueError.__new__"), some (.bool true)]⟩⟩
def o32 : Obj := ⟨(T "getset_descriptor"), none, (.fields ⟨[(S "__weakref__" 209), (R 31), (B "ExceptionGroup.__weakref__"), N]⟩), ⟨[]⟩⟩
def o33 : Obj := ⟨(T "super"), none, (.fields ⟨[(R 31), (R 31), (R 31)]⟩), ⟨[]⟩⟩
def o34 : Obj := ⟨(T "builtin_function_or_method"), none, (.fields ⟨[(B "object.__init_subclass__"), (R 31)]⟩), ⟨[]⟩⟩
def o35 : Obj := ⟨(T "tuple"), none, (.seq ⟨[(T "LookupError")]⟩ 0), ⟨[]⟩⟩
def o36 : Obj := ⟨(T "builtin_function_or_method"), none, (.fields ⟨[(B "type.__prepare__"), (T "type")]⟩), ⟨[]⟩⟩
def o37 (P : Params) : Obj := ⟨(T "dict"), none, (.dict ⟨[E P "__module__" 221 (S "onemember.errors" 194), E P "__qualname__" 223 (S "StateError" 222), E P "__firstlineno__" 225 (.int 7 224), E P "__static_attributes__" 226 (R 42)]⟩ 4), ⟨[]⟩⟩
def o38 : Obj := ⟨(T "tuple"), none, (.seq ⟨[]⟩ 0), ⟨[]⟩⟩
def o39 : Obj := ⟨N, none, (.fields ⟨[]⟩), ⟨[]⟩⟩
def o40 : Obj := ⟨(T "code"), none, (.fields ⟨[(S "StateError" 216), (S "StateError" 217), (S "/claim/cut.py" 218), (I 7), (I 0), (I 0), (I 0), (I 0), (R 38), (.bool false), (I 181), (R 39), N, N, N, N, (I 219), (I 7), (S "/claim/cut.py" 220)]⟩), ⟨[]⟩⟩
def o41 : Obj := ⟨(T "frame"), none, .plain, ⟨[some (R 40), some (R 3), some (R 37), none, some (S "onemember.errors" 194), none, some (R 0)]⟩⟩
def o42 : Obj := ⟨(T "tuple"), none, (.seq ⟨[]⟩ 0), ⟨[]⟩⟩
def o43 (P : Params) : Obj := ⟨(T "dict"), none, (.dict ⟨[E P "__module__" 221 (S "onemember.errors" 194), E P "__firstlineno__" 225 (.int 7 224), E P "__static_attributes__" 226 (R 42), E P "__weakref__" 228 (R 45), E P "__doc__" 229 N]⟩ 3), ⟨[]⟩⟩
def o44 : Obj := ⟨(T "type"), none, (.cls ⟨(u "StateError"), [(T "LookupError")], [(R 44), (T "LookupError"), (T "Exception"), (T "BaseException"), (T "object")], 43, (u "StateError"), true, [], [], false, none, false⟩), ⟨[some (R 35), none, some (S "StateError" 214), some (S "StateError" 222), some (B "LookupError.__new__"), some (.bool true)]⟩⟩
def o45 : Obj := ⟨(T "getset_descriptor"), none, (.fields ⟨[(S "__weakref__" 227), (R 44), (B "ExceptionGroup.__weakref__"), N]⟩), ⟨[]⟩⟩
def o46 : Obj := ⟨(T "super"), none, (.fields ⟨[(R 44), (R 44), (R 44)]⟩), ⟨[]⟩⟩
def o47 : Obj := ⟨(T "builtin_function_or_method"), none, (.fields ⟨[(B "object.__init_subclass__"), (R 44)]⟩), ⟨[]⟩⟩
def o48 : Obj := ⟨(T "tuple"), none, (.seq ⟨[(T "ArithmeticError")]⟩ 0), ⟨[]⟩⟩
def o49 : Obj := ⟨(T "builtin_function_or_method"), none, (.fields ⟨[(B "type.__prepare__"), (T "type")]⟩), ⟨[]⟩⟩
def o50 (P : Params) : Obj := ⟨(T "dict"), none, (.dict ⟨[E P "__module__" 239 (S "onemember.errors" 194), E P "__qualname__" 241 (S "LimitError" 240), E P "__firstlineno__" 243 (.int 9 242), E P "__static_attributes__" 244 (R 55)]⟩ 4), ⟨[]⟩⟩
def o51 : Obj := ⟨(T "tuple"), none, (.seq ⟨[]⟩ 0), ⟨[]⟩⟩
def o52 : Obj := ⟨N, none, (.fields ⟨[]⟩), ⟨[]⟩⟩
def o53 : Obj := ⟨(T "code"), none, (.fields ⟨[(S "LimitError" 234), (S "LimitError" 235), (S "/claim/cut.py" 236), (I 9), (I 0), (I 0), (I 0), (I 0), (R 51), (.bool false), (I 181), (R 52), N, N, N, N, (I 237), (I 9), (S "/claim/cut.py" 238)]⟩), ⟨[]⟩⟩
def o54 : Obj := ⟨(T "frame"), none, .plain, ⟨[some (R 53), some (R 3), some (R 50), none, some (S "onemember.errors" 194), none, some (R 0)]⟩⟩
def o55 : Obj := ⟨(T "tuple"), none, (.seq ⟨[]⟩ 0), ⟨[]⟩⟩
def o56 (P : Params) : Obj := ⟨(T "dict"), none, (.dict ⟨[E P "__module__" 239 (S "onemember.errors" 194), E P "__firstlineno__" 243 (.int 9 242), E P "__static_attributes__" 244 (R 55), E P "__weakref__" 246 (R 58), E P "__doc__" 247 N]⟩ 3), ⟨[]⟩⟩
def o57 : Obj := ⟨(T "type"), none, (.cls ⟨(u "LimitError"), [(T "ArithmeticError")], [(R 57), (T "ArithmeticError"), (T "Exception"), (T "BaseException"), (T "object")], 56, (u "LimitError"), true, [], [], false, none, false⟩), ⟨[some (R 48), none, some (S "LimitError" 232), some (S "LimitError" 240), some (B "ArithmeticError.__new__"), some (.bool true)]⟩⟩
def o58 : Obj := ⟨(T "getset_descriptor"), none, (.fields ⟨[(S "__weakref__" 245), (R 57), (B "ExceptionGroup.__weakref__"), N]⟩), ⟨[]⟩⟩
def o59 : Obj := ⟨(T "super"), none, (.fields ⟨[(R 57), (R 57), (R 57)]⟩), ⟨[]⟩⟩
def o60 : Obj := ⟨(T "builtin_function_or_method"), none, (.fields ⟨[(B "object.__init_subclass__"), (R 57)]⟩), ⟨[]⟩⟩
def o61 : Obj := ⟨(T "tuple"), none, (.seq ⟨[(R 31)]⟩ 0), ⟨[]⟩⟩
def o62 : Obj := ⟨(T "builtin_function_or_method"), none, (.fields ⟨[(B "type.__prepare__"), (T "type")]⟩), ⟨[]⟩⟩
def o63 (P : Params) : Obj := ⟨(T "dict"), none, (.dict ⟨[E P "__module__" 259 (S "onemember.errors" 194), E P "__qualname__" 261 (S "NotMembers" 260), E P "__firstlineno__" 263 (.int 11 262), E P "__init__" 271 (R 74), E P "__static_attributes__" 273 (R 75)]⟩ 5), ⟨[]⟩⟩
def o64 : Obj := ⟨(T "tuple"), none, (.seq ⟨[]⟩ 0), ⟨[]⟩⟩
def o65 : Obj := ⟨N, none, (.fields ⟨[(I 13), (I 4), (R 73)]⟩), ⟨[]⟩⟩
def o66 : Obj := ⟨(T "code"), none, (.fields ⟨[(S "NotMembers" 254), (S "NotMembers" 255), (S "/claim/cut.py" 256), (I 11), (I 0), (I 0), (I 0), (I 0), (R 64), (.bool false), (I 181), (R 65), N, N, N, N, (I 257), (I 11), (S "/claim/cut.py" 258)]⟩), ⟨[]⟩⟩
def o67 : Obj := ⟨(T "frame"), none, .plain, ⟨[some (R 66), some (R 3), some (R 63), none, some (S "onemember.errors" 194), none, some (R 0)]⟩⟩
def o68 : Obj := ⟨(T "tuple"), none, (.seq ⟨[]⟩ 0), ⟨[]⟩⟩
def o69 : Obj := ⟨N, none, (.fields ⟨[]⟩), ⟨[]⟩⟩
def o70 : Obj := ⟨(T "tuple"), none, (.seq ⟨[(S "self" 267), (S "value" 268)]⟩ 0), ⟨[]⟩⟩
def o71 : Obj := ⟨(T "tuple"), none, (.seq ⟨[]⟩ 0), ⟨[]⟩⟩
def o72 : Obj := ⟨N, none, (F (C 5 0) (u "__init__") (u "NotMembers.__init__") 0 [] N N N N none N N 0), ⟨[]⟩⟩
def o73 : Obj := ⟨(T "code"), none, (.fields ⟨[(S "__init__" 264), (S "NotMembers.__init__" 265), (S "/claim/cut.py" 266), (I 13), (I 2), (I 0), (I 0), (I 3), (R 68), (.bool true), (I 181), (R 69), N, (R 70), (R 71), (R 72), (I 269), (I 13), (S "/claim/cut.py" 270)]⟩), ⟨[]⟩⟩
def o74 : Obj := ⟨(T "function"), none, (F (C 5 0) (u "__init__") (u "NotMembers.__init__") 3 [] N N N (S "onemember.errors" 194) none (R 73) N 0), ⟨[]⟩⟩
def o75 : Obj := ⟨(T "tuple"), none, (.seq ⟨[(S "value" 272)]⟩ 0), ⟨[]⟩⟩
def o76 (P : Params) : Obj := ⟨(T "dict"), none, (.dict ⟨[E P "__module__" 259 (S "onemember.errors" 194), E P "__firstlineno__" 263 (.int 11 262), E P "__init__" 271 (R 74), E P "__static_attributes__" 273 (R 75), E P "__doc__" 274 N]⟩ 2), ⟨[]⟩⟩
def o77 : Obj := ⟨(T "type"), none, (.cls ⟨(u "NotMembers"), [(R 31)], [(R 77), (R 31), (T "ValueError"), (T "Exception"), (T "BaseException"), (T "object")], 76, (u "NotMembers"), true, [], [], false, none, false⟩), ⟨[some (R 61), none, some (S "NotMembers" 252), some (S "NotMembers" 260), some (B "ValueError.__new__"), some (.bool true)]⟩⟩
def o78 : Obj := ⟨(T "super"), none, (.fields ⟨[(R 77), (R 77), (R 77)]⟩), ⟨[]⟩⟩
def o79 : Obj := ⟨(T "builtin_function_or_method"), none, (.fields ⟨[(B "object.__init_subclass__"), (R 77)]⟩), ⟨[]⟩⟩
def o80 : Obj := ⟨(T "tuple"), none, (.seq ⟨[(R 31)]⟩ 0), ⟨[]⟩⟩
def o81 : Obj := ⟨(T "builtin_function_or_method"), none, (.fields ⟨[(B "type.__prepare__"), (T "type")]⟩), ⟨[]⟩⟩
def o82 (P : Params) : Obj := ⟨(T "dict"), none, (.dict ⟨[E P "__module__" 284 (S "onemember.errors" 194), E P "__qualname__" 286 (S "NotAChange" 285), E P "__firstlineno__" 288 (.int 15 287), E P "__init__" 296 (R 93), E P "__static_attributes__" 298 (R 94)]⟩ 5), ⟨[]⟩⟩
def o83 : Obj := ⟨(T "tuple"), none, (.seq ⟨[]⟩ 0), ⟨[]⟩⟩
def o84 : Obj := ⟨N, none, (.fields ⟨[(I 17), (I 4), (R 92)]⟩), ⟨[]⟩⟩
def o85 : Obj := ⟨(T "code"), none, (.fields ⟨[(S "NotAChange" 279), (S "NotAChange" 280), (S "/claim/cut.py" 281), (I 15), (I 0), (I 0), (I 0), (I 0), (R 83), (.bool false), (I 181), (R 84), N, N, N, N, (I 282), (I 15), (S "/claim/cut.py" 283)]⟩), ⟨[]⟩⟩
def o86 : Obj := ⟨(T "frame"), none, .plain, ⟨[some (R 85), some (R 3), some (R 82), none, some (S "onemember.errors" 194), none, some (R 0)]⟩⟩
def o87 : Obj := ⟨(T "tuple"), none, (.seq ⟨[]⟩ 0), ⟨[]⟩⟩
def o88 : Obj := ⟨N, none, (.fields ⟨[]⟩), ⟨[]⟩⟩
def o89 : Obj := ⟨(T "tuple"), none, (.seq ⟨[(S "self" 292), (S "value" 293)]⟩ 0), ⟨[]⟩⟩
def o90 : Obj := ⟨(T "tuple"), none, (.seq ⟨[]⟩ 0), ⟨[]⟩⟩
def o91 : Obj := ⟨N, none, (F (C 6 0) (u "__init__") (u "NotAChange.__init__") 0 [] N N N N none N N 0), ⟨[]⟩⟩
def o92 : Obj := ⟨(T "code"), none, (.fields ⟨[(S "__init__" 289), (S "NotAChange.__init__" 290), (S "/claim/cut.py" 291), (I 17), (I 2), (I 0), (I 0), (I 3), (R 87), (.bool true), (I 181), (R 88), N, (R 89), (R 90), (R 91), (I 294), (I 17), (S "/claim/cut.py" 295)]⟩), ⟨[]⟩⟩
def o93 : Obj := ⟨(T "function"), none, (F (C 6 0) (u "__init__") (u "NotAChange.__init__") 3 [] N N N (S "onemember.errors" 194) none (R 92) N 0), ⟨[]⟩⟩
def o94 : Obj := ⟨(T "tuple"), none, (.seq ⟨[(S "value" 297)]⟩ 0), ⟨[]⟩⟩
def o95 (P : Params) : Obj := ⟨(T "dict"), none, (.dict ⟨[E P "__module__" 284 (S "onemember.errors" 194), E P "__firstlineno__" 288 (.int 15 287), E P "__init__" 296 (R 93), E P "__static_attributes__" 298 (R 94), E P "__doc__" 299 N]⟩ 2), ⟨[]⟩⟩
def o96 : Obj := ⟨(T "type"), none, (.cls ⟨(u "NotAChange"), [(R 31)], [(R 96), (R 31), (T "ValueError"), (T "Exception"), (T "BaseException"), (T "object")], 95, (u "NotAChange"), true, [], [], false, none, false⟩), ⟨[some (R 80), none, some (S "NotAChange" 277), some (S "NotAChange" 285), some (B "ValueError.__new__"), some (.bool true)]⟩⟩
def o97 : Obj := ⟨(T "super"), none, (.fields ⟨[(R 96), (R 96), (R 96)]⟩), ⟨[]⟩⟩
def o98 : Obj := ⟨(T "builtin_function_or_method"), none, (.fields ⟨[(B "object.__init_subclass__"), (R 96)]⟩), ⟨[]⟩⟩
def o99 : Obj := ⟨(T "tuple"), none, (.seq ⟨[(R 31)]⟩ 0), ⟨[]⟩⟩
def o100 : Obj := ⟨(T "builtin_function_or_method"), none, (.fields ⟨[(B "type.__prepare__"), (T "type")]⟩), ⟨[]⟩⟩
def o101 (P : Params) : Obj := ⟨(T "dict"), none, (.dict ⟨[E P "__module__" 309 (S "onemember.errors" 194), E P "__qualname__" 311 (S "NotAnExpression" 310), E P "__firstlineno__" 313 (.int 19 312), E P "__init__" 321 (R 112), E P "__static_attributes__" 323 (R 113)]⟩ 5), ⟨[]⟩⟩
def o102 : Obj := ⟨(T "tuple"), none, (.seq ⟨[]⟩ 0), ⟨[]⟩⟩
def o103 : Obj := ⟨N, none, (.fields ⟨[(I 21), (I 4), (R 111)]⟩), ⟨[]⟩⟩
def o104 : Obj := ⟨(T "code"), none, (.fields ⟨[(S "NotAnExpression" 304), (S "NotAnExpression" 305), (S "/claim/cut.py" 306), (I 19), (I 0), (I 0), (I 0), (I 0), (R 102), (.bool false), (I 181), (R 103), N, N, N, N, (I 307), (I 19), (S "/claim/cut.py" 308)]⟩), ⟨[]⟩⟩
def o105 : Obj := ⟨(T "frame"), none, .plain, ⟨[some (R 104), some (R 3), some (R 101), none, some (S "onemember.errors" 194), none, some (R 0)]⟩⟩
def o106 : Obj := ⟨(T "tuple"), none, (.seq ⟨[]⟩ 0), ⟨[]⟩⟩
def o107 : Obj := ⟨N, none, (.fields ⟨[]⟩), ⟨[]⟩⟩
def o108 : Obj := ⟨(T "tuple"), none, (.seq ⟨[(S "self" 317), (S "value" 318)]⟩ 0), ⟨[]⟩⟩
def o109 : Obj := ⟨(T "tuple"), none, (.seq ⟨[]⟩ 0), ⟨[]⟩⟩
def o110 : Obj := ⟨N, none, (F (C 7 0) (u "__init__") (u "NotAnExpression.__init__") 0 [] N N N N none N N 0), ⟨[]⟩⟩
def o111 : Obj := ⟨(T "code"), none, (.fields ⟨[(S "__init__" 314), (S "NotAnExpression.__init__" 315), (S "/claim/cut.py" 316), (I 21), (I 2), (I 0), (I 0), (I 3), (R 106), (.bool true), (I 181), (R 107), N, (R 108), (R 109), (R 110), (I 319), (I 21), (S "/claim/cut.py" 320)]⟩), ⟨[]⟩⟩
def o112 : Obj := ⟨(T "function"), none, (F (C 7 0) (u "__init__") (u "NotAnExpression.__init__") 3 [] N N N (S "onemember.errors" 194) none (R 111) N 0), ⟨[]⟩⟩
def o113 : Obj := ⟨(T "tuple"), none, (.seq ⟨[(S "value" 322)]⟩ 0), ⟨[]⟩⟩
def o114 (P : Params) : Obj := ⟨(T "dict"), none, (.dict ⟨[E P "__module__" 309 (S "onemember.errors" 194), E P "__firstlineno__" 313 (.int 19 312), E P "__init__" 321 (R 112), E P "__static_attributes__" 323 (R 113), E P "__doc__" 324 N]⟩ 2), ⟨[]⟩⟩
def o115 : Obj := ⟨(T "type"), none, (.cls ⟨(u "NotAnExpression"), [(R 31)], [(R 115), (R 31), (T "ValueError"), (T "Exception"), (T "BaseException"), (T "object")], 114, (u "NotAnExpression"), true, [], [], false, none, false⟩), ⟨[some (R 99), none, some (S "NotAnExpression" 302), some (S "NotAnExpression" 310), some (B "ValueError.__new__"), some (.bool true)]⟩⟩
def o116 : Obj := ⟨(T "super"), none, (.fields ⟨[(R 115), (R 115), (R 115)]⟩), ⟨[]⟩⟩
def o117 : Obj := ⟨(T "builtin_function_or_method"), none, (.fields ⟨[(B "object.__init_subclass__"), (R 115)]⟩), ⟨[]⟩⟩
def o118 : Obj := ⟨(T "tuple"), none, (.seq ⟨[(R 31)]⟩ 0), ⟨[]⟩⟩
def o119 : Obj := ⟨(T "builtin_function_or_method"), none, (.fields ⟨[(B "type.__prepare__"), (T "type")]⟩), ⟨[]⟩⟩
def o120 (P : Params) : Obj := ⟨(T "dict"), none, (.dict ⟨[E P "__module__" 334 (S "onemember.errors" 194), E P "__qualname__" 336 (S "InvalidForm" 335), E P "__firstlineno__" 338 (.int 23 337), E P "__init__" 346 (R 131), E P "__static_attributes__" 348 (R 132)]⟩ 5), ⟨[]⟩⟩
def o121 : Obj := ⟨(T "tuple"), none, (.seq ⟨[]⟩ 0), ⟨[]⟩⟩
def o122 : Obj := ⟨N, none, (.fields ⟨[(I 25), (I 4), (R 130)]⟩), ⟨[]⟩⟩
def o123 : Obj := ⟨(T "code"), none, (.fields ⟨[(S "InvalidForm" 329), (S "InvalidForm" 330), (S "/claim/cut.py" 331), (I 23), (I 0), (I 0), (I 0), (I 0), (R 121), (.bool false), (I 181), (R 122), N, N, N, N, (I 332), (I 23), (S "/claim/cut.py" 333)]⟩), ⟨[]⟩⟩
def o124 : Obj := ⟨(T "frame"), none, .plain, ⟨[some (R 123), some (R 3), some (R 120), none, some (S "onemember.errors" 194), none, some (R 0)]⟩⟩
def o125 : Obj := ⟨(T "tuple"), none, (.seq ⟨[]⟩ 0), ⟨[]⟩⟩
def o126 : Obj := ⟨N, none, (.fields ⟨[]⟩), ⟨[]⟩⟩
def o127 : Obj := ⟨(T "tuple"), none, (.seq ⟨[(S "self" 342), (S "value" 343)]⟩ 0), ⟨[]⟩⟩
def o128 : Obj := ⟨(T "tuple"), none, (.seq ⟨[]⟩ 0), ⟨[]⟩⟩
def o129 : Obj := ⟨N, none, (F (C 8 0) (u "__init__") (u "InvalidForm.__init__") 0 [] N N N N none N N 0), ⟨[]⟩⟩
def o130 : Obj := ⟨(T "code"), none, (.fields ⟨[(S "__init__" 339), (S "InvalidForm.__init__" 340), (S "/claim/cut.py" 341), (I 25), (I 2), (I 0), (I 0), (I 3), (R 125), (.bool true), (I 181), (R 126), N, (R 127), (R 128), (R 129), (I 344), (I 25), (S "/claim/cut.py" 345)]⟩), ⟨[]⟩⟩
def o131 : Obj := ⟨(T "function"), none, (F (C 8 0) (u "__init__") (u "InvalidForm.__init__") 3 [] N N N (S "onemember.errors" 194) none (R 130) N 0), ⟨[]⟩⟩
def o132 : Obj := ⟨(T "tuple"), none, (.seq ⟨[(S "value" 347)]⟩ 0), ⟨[]⟩⟩
def o133 (P : Params) : Obj := ⟨(T "dict"), none, (.dict ⟨[E P "__module__" 334 (S "onemember.errors" 194), E P "__firstlineno__" 338 (.int 23 337), E P "__init__" 346 (R 131), E P "__static_attributes__" 348 (R 132), E P "__doc__" 349 N]⟩ 2), ⟨[]⟩⟩
def o134 : Obj := ⟨(T "type"), none, (.cls ⟨(u "InvalidForm"), [(R 31)], [(R 134), (R 31), (T "ValueError"), (T "Exception"), (T "BaseException"), (T "object")], 133, (u "InvalidForm"), true, [], [], false, none, false⟩), ⟨[some (R 118), none, some (S "InvalidForm" 327), some (S "InvalidForm" 335), some (B "ValueError.__new__"), some (.bool true)]⟩⟩
def o135 : Obj := ⟨(T "super"), none, (.fields ⟨[(R 134), (R 134), (R 134)]⟩), ⟨[]⟩⟩
def o136 : Obj := ⟨(T "builtin_function_or_method"), none, (.fields ⟨[(B "object.__init_subclass__"), (R 134)]⟩), ⟨[]⟩⟩
def o137 : Obj := ⟨(T "tuple"), none, (.seq ⟨[(R 31)]⟩ 0), ⟨[]⟩⟩
def o138 : Obj := ⟨(T "builtin_function_or_method"), none, (.fields ⟨[(B "type.__prepare__"), (T "type")]⟩), ⟨[]⟩⟩
def o139 (P : Params) : Obj := ⟨(T "dict"), none, (.dict ⟨[E P "__module__" 359 (S "onemember.errors" 194), E P "__qualname__" 361 (S "InvalidText" 360), E P "__firstlineno__" 363 (.int 27 362), E P "__init__" 371 (R 150), E P "__static_attributes__" 373 (R 151)]⟩ 5), ⟨[]⟩⟩
def o140 : Obj := ⟨(T "tuple"), none, (.seq ⟨[]⟩ 0), ⟨[]⟩⟩
def o141 : Obj := ⟨N, none, (.fields ⟨[(I 29), (I 4), (R 149)]⟩), ⟨[]⟩⟩
def o142 : Obj := ⟨(T "code"), none, (.fields ⟨[(S "InvalidText" 354), (S "InvalidText" 355), (S "/claim/cut.py" 356), (I 27), (I 0), (I 0), (I 0), (I 0), (R 140), (.bool false), (I 181), (R 141), N, N, N, N, (I 357), (I 27), (S "/claim/cut.py" 358)]⟩), ⟨[]⟩⟩
def o143 : Obj := ⟨(T "frame"), none, .plain, ⟨[some (R 142), some (R 3), some (R 139), none, some (S "onemember.errors" 194), none, some (R 0)]⟩⟩
def o144 : Obj := ⟨(T "tuple"), none, (.seq ⟨[]⟩ 0), ⟨[]⟩⟩
def o145 : Obj := ⟨N, none, (.fields ⟨[]⟩), ⟨[]⟩⟩
def o146 : Obj := ⟨(T "tuple"), none, (.seq ⟨[(S "self" 367), (S "value" 368)]⟩ 0), ⟨[]⟩⟩
def o147 : Obj := ⟨(T "tuple"), none, (.seq ⟨[]⟩ 0), ⟨[]⟩⟩
def o148 : Obj := ⟨N, none, (F (C 9 0) (u "__init__") (u "InvalidText.__init__") 0 [] N N N N none N N 0), ⟨[]⟩⟩
def o149 : Obj := ⟨(T "code"), none, (.fields ⟨[(S "__init__" 364), (S "InvalidText.__init__" 365), (S "/claim/cut.py" 366), (I 29), (I 2), (I 0), (I 0), (I 3), (R 144), (.bool true), (I 181), (R 145), N, (R 146), (R 147), (R 148), (I 369), (I 29), (S "/claim/cut.py" 370)]⟩), ⟨[]⟩⟩
def o150 : Obj := ⟨(T "function"), none, (F (C 9 0) (u "__init__") (u "InvalidText.__init__") 3 [] N N N (S "onemember.errors" 194) none (R 149) N 0), ⟨[]⟩⟩
def o151 : Obj := ⟨(T "tuple"), none, (.seq ⟨[(S "value" 372)]⟩ 0), ⟨[]⟩⟩
def o152 (P : Params) : Obj := ⟨(T "dict"), none, (.dict ⟨[E P "__module__" 359 (S "onemember.errors" 194), E P "__firstlineno__" 363 (.int 27 362), E P "__init__" 371 (R 150), E P "__static_attributes__" 373 (R 151), E P "__doc__" 374 N]⟩ 2), ⟨[]⟩⟩
def o153 : Obj := ⟨(T "type"), none, (.cls ⟨(u "InvalidText"), [(R 31)], [(R 153), (R 31), (T "ValueError"), (T "Exception"), (T "BaseException"), (T "object")], 152, (u "InvalidText"), true, [], [], false, none, false⟩), ⟨[some (R 137), none, some (S "InvalidText" 352), some (S "InvalidText" 360), some (B "ValueError.__new__"), some (.bool true)]⟩⟩
def o154 : Obj := ⟨(T "super"), none, (.fields ⟨[(R 153), (R 153), (R 153)]⟩), ⟨[]⟩⟩
def o155 : Obj := ⟨(T "builtin_function_or_method"), none, (.fields ⟨[(B "object.__init_subclass__"), (R 153)]⟩), ⟨[]⟩⟩
def o156 : Obj := ⟨(T "tuple"), none, (.seq ⟨[(R 31)]⟩ 0), ⟨[]⟩⟩
def o157 : Obj := ⟨(T "builtin_function_or_method"), none, (.fields ⟨[(B "type.__prepare__"), (T "type")]⟩), ⟨[]⟩⟩
def o158 (P : Params) : Obj := ⟨(T "dict"), none, (.dict ⟨[E P "__module__" 384 (S "onemember.errors" 194), E P "__qualname__" 386 (S "UnknownField" 385), E P "__firstlineno__" 388 (.int 31 387), E P "__init__" 396 (R 169), E P "__static_attributes__" 398 (R 170)]⟩ 5), ⟨[]⟩⟩
def o159 : Obj := ⟨(T "tuple"), none, (.seq ⟨[]⟩ 0), ⟨[]⟩⟩
def o160 : Obj := ⟨N, none, (.fields ⟨[(I 33), (I 4), (R 168)]⟩), ⟨[]⟩⟩
def o161 : Obj := ⟨(T "code"), none, (.fields ⟨[(S "UnknownField" 379), (S "UnknownField" 380), (S "/claim/cut.py" 381), (I 31), (I 0), (I 0), (I 0), (I 0), (R 159), (.bool false), (I 181), (R 160), N, N, N, N, (I 382), (I 31), (S "/claim/cut.py" 383)]⟩), ⟨[]⟩⟩
def o162 : Obj := ⟨(T "frame"), none, .plain, ⟨[some (R 161), some (R 3), some (R 158), none, some (S "onemember.errors" 194), none, some (R 0)]⟩⟩
def o163 : Obj := ⟨(T "tuple"), none, (.seq ⟨[]⟩ 0), ⟨[]⟩⟩
def o164 : Obj := ⟨N, none, (.fields ⟨[]⟩), ⟨[]⟩⟩
def o165 : Obj := ⟨(T "tuple"), none, (.seq ⟨[(S "self" 392), (S "value" 393)]⟩ 0), ⟨[]⟩⟩
def o166 : Obj := ⟨(T "tuple"), none, (.seq ⟨[]⟩ 0), ⟨[]⟩⟩
def o167 : Obj := ⟨N, none, (F (C 10 0) (u "__init__") (u "UnknownField.__init__") 0 [] N N N N none N N 0), ⟨[]⟩⟩
def o168 : Obj := ⟨(T "code"), none, (.fields ⟨[(S "__init__" 389), (S "UnknownField.__init__" 390), (S "/claim/cut.py" 391), (I 33), (I 2), (I 0), (I 0), (I 3), (R 163), (.bool true), (I 181), (R 164), N, (R 165), (R 166), (R 167), (I 394), (I 33), (S "/claim/cut.py" 395)]⟩), ⟨[]⟩⟩
def o169 : Obj := ⟨(T "function"), none, (F (C 10 0) (u "__init__") (u "UnknownField.__init__") 3 [] N N N (S "onemember.errors" 194) none (R 168) N 0), ⟨[]⟩⟩
def o170 : Obj := ⟨(T "tuple"), none, (.seq ⟨[(S "value" 397)]⟩ 0), ⟨[]⟩⟩
def o171 (P : Params) : Obj := ⟨(T "dict"), none, (.dict ⟨[E P "__module__" 384 (S "onemember.errors" 194), E P "__firstlineno__" 388 (.int 31 387), E P "__init__" 396 (R 169), E P "__static_attributes__" 398 (R 170), E P "__doc__" 399 N]⟩ 2), ⟨[]⟩⟩
def o172 : Obj := ⟨(T "type"), none, (.cls ⟨(u "UnknownField"), [(R 31)], [(R 172), (R 31), (T "ValueError"), (T "Exception"), (T "BaseException"), (T "object")], 171, (u "UnknownField"), true, [], [], false, none, false⟩), ⟨[some (R 156), none, some (S "UnknownField" 377), some (S "UnknownField" 385), some (B "ValueError.__new__"), some (.bool true)]⟩⟩
def o173 : Obj := ⟨(T "super"), none, (.fields ⟨[(R 172), (R 172), (R 172)]⟩), ⟨[]⟩⟩
def o174 : Obj := ⟨(T "builtin_function_or_method"), none, (.fields ⟨[(B "object.__init_subclass__"), (R 172)]⟩), ⟨[]⟩⟩
def o175 : Obj := ⟨(T "tuple"), none, (.seq ⟨[(R 31)]⟩ 0), ⟨[]⟩⟩
def o176 : Obj := ⟨(T "builtin_function_or_method"), none, (.fields ⟨[(B "type.__prepare__"), (T "type")]⟩), ⟨[]⟩⟩
def o177 (P : Params) : Obj := ⟨(T "dict"), none, (.dict ⟨[E P "__module__" 409 (S "onemember.errors" 194), E P "__qualname__" 411 (S "InvalidNames" 410), E P "__firstlineno__" 413 (.int 35 412), E P "__init__" 421 (R 188), E P "__static_attributes__" 423 (R 189)]⟩ 5), ⟨[]⟩⟩
def o178 : Obj := ⟨(T "tuple"), none, (.seq ⟨[]⟩ 0), ⟨[]⟩⟩
def o179 : Obj := ⟨N, none, (.fields ⟨[(I 37), (I 4), (R 187)]⟩), ⟨[]⟩⟩
def o180 : Obj := ⟨(T "code"), none, (.fields ⟨[(S "InvalidNames" 404), (S "InvalidNames" 405), (S "/claim/cut.py" 406), (I 35), (I 0), (I 0), (I 0), (I 0), (R 178), (.bool false), (I 181), (R 179), N, N, N, N, (I 407), (I 35), (S "/claim/cut.py" 408)]⟩), ⟨[]⟩⟩
def o181 : Obj := ⟨(T "frame"), none, .plain, ⟨[some (R 180), some (R 3), some (R 177), none, some (S "onemember.errors" 194), none, some (R 0)]⟩⟩
def o182 : Obj := ⟨(T "tuple"), none, (.seq ⟨[]⟩ 0), ⟨[]⟩⟩
def o183 : Obj := ⟨N, none, (.fields ⟨[]⟩), ⟨[]⟩⟩
def o184 : Obj := ⟨(T "tuple"), none, (.seq ⟨[(S "self" 417), (S "index" 418)]⟩ 0), ⟨[]⟩⟩
def o185 : Obj := ⟨(T "tuple"), none, (.seq ⟨[]⟩ 0), ⟨[]⟩⟩
def o186 : Obj := ⟨N, none, (F (C 11 0) (u "__init__") (u "InvalidNames.__init__") 0 [] N N N N none N N 0), ⟨[]⟩⟩
def o187 : Obj := ⟨(T "code"), none, (.fields ⟨[(S "__init__" 414), (S "InvalidNames.__init__" 415), (S "/claim/cut.py" 416), (I 37), (I 2), (I 0), (I 0), (I 3), (R 182), (.bool true), (I 181), (R 183), N, (R 184), (R 185), (R 186), (I 419), (I 37), (S "/claim/cut.py" 420)]⟩), ⟨[]⟩⟩
def o188 : Obj := ⟨(T "function"), none, (F (C 11 0) (u "__init__") (u "InvalidNames.__init__") 3 [] N N N (S "onemember.errors" 194) none (R 187) N 0), ⟨[]⟩⟩
def o189 : Obj := ⟨(T "tuple"), none, (.seq ⟨[(S "index" 422)]⟩ 0), ⟨[]⟩⟩
def o190 (P : Params) : Obj := ⟨(T "dict"), none, (.dict ⟨[E P "__module__" 409 (S "onemember.errors" 194), E P "__firstlineno__" 413 (.int 35 412), E P "__init__" 421 (R 188), E P "__static_attributes__" 423 (R 189), E P "__doc__" 424 N]⟩ 2), ⟨[]⟩⟩
def o191 : Obj := ⟨(T "type"), none, (.cls ⟨(u "InvalidNames"), [(R 31)], [(R 191), (R 31), (T "ValueError"), (T "Exception"), (T "BaseException"), (T "object")], 190, (u "InvalidNames"), true, [], [], false, none, false⟩), ⟨[some (R 175), none, some (S "InvalidNames" 402), some (S "InvalidNames" 410), some (B "ValueError.__new__"), some (.bool true)]⟩⟩
def o192 : Obj := ⟨(T "super"), none, (.fields ⟨[(R 191), (R 191), (R 191)]⟩), ⟨[]⟩⟩
def o193 : Obj := ⟨(T "builtin_function_or_method"), none, (.fields ⟨[(B "object.__init_subclass__"), (R 191)]⟩), ⟨[]⟩⟩
def o194 : Obj := ⟨(T "tuple"), none, (.seq ⟨[(R 31)]⟩ 0), ⟨[]⟩⟩
def o195 : Obj := ⟨(T "builtin_function_or_method"), none, (.fields ⟨[(B "type.__prepare__"), (T "type")]⟩), ⟨[]⟩⟩
def o196 (P : Params) : Obj := ⟨(T "dict"), none, (.dict ⟨[E P "__module__" 434 (S "onemember.errors" 194), E P "__qualname__" 436 (S "InvalidSets" 435), E P "__firstlineno__" 438 (.int 39 437), E P "__init__" 446 (R 207), E P "__static_attributes__" 448 (R 208)]⟩ 5), ⟨[]⟩⟩
def o197 : Obj := ⟨(T "tuple"), none, (.seq ⟨[]⟩ 0), ⟨[]⟩⟩
def o198 : Obj := ⟨N, none, (.fields ⟨[(I 41), (I 4), (R 206)]⟩), ⟨[]⟩⟩
def o199 : Obj := ⟨(T "code"), none, (.fields ⟨[(S "InvalidSets" 429), (S "InvalidSets" 430), (S "/claim/cut.py" 431), (I 39), (I 0), (I 0), (I 0), (I 0), (R 197), (.bool false), (I 181), (R 198), N, N, N, N, (I 432), (I 39), (S "/claim/cut.py" 433)]⟩), ⟨[]⟩⟩
def o200 : Obj := ⟨(T "frame"), none, .plain, ⟨[some (R 199), some (R 3), some (R 196), none, some (S "onemember.errors" 194), none, some (R 0)]⟩⟩
def o201 : Obj := ⟨(T "tuple"), none, (.seq ⟨[]⟩ 0), ⟨[]⟩⟩
def o202 : Obj := ⟨N, none, (.fields ⟨[]⟩), ⟨[]⟩⟩
def o203 : Obj := ⟨(T "tuple"), none, (.seq ⟨[(S "self" 442), (S "index" 443)]⟩ 0), ⟨[]⟩⟩
def o204 : Obj := ⟨(T "tuple"), none, (.seq ⟨[]⟩ 0), ⟨[]⟩⟩
def o205 : Obj := ⟨N, none, (F (C 12 0) (u "__init__") (u "InvalidSets.__init__") 0 [] N N N N none N N 0), ⟨[]⟩⟩
def o206 : Obj := ⟨(T "code"), none, (.fields ⟨[(S "__init__" 439), (S "InvalidSets.__init__" 440), (S "/claim/cut.py" 441), (I 41), (I 2), (I 0), (I 0), (I 3), (R 201), (.bool true), (I 181), (R 202), N, (R 203), (R 204), (R 205), (I 444), (I 41), (S "/claim/cut.py" 445)]⟩), ⟨[]⟩⟩
def o207 : Obj := ⟨(T "function"), none, (F (C 12 0) (u "__init__") (u "InvalidSets.__init__") 3 [] N N N (S "onemember.errors" 194) none (R 206) N 0), ⟨[]⟩⟩
def o208 : Obj := ⟨(T "tuple"), none, (.seq ⟨[(S "index" 447)]⟩ 0), ⟨[]⟩⟩
def o209 (P : Params) : Obj := ⟨(T "dict"), none, (.dict ⟨[E P "__module__" 434 (S "onemember.errors" 194), E P "__firstlineno__" 438 (.int 39 437), E P "__init__" 446 (R 207), E P "__static_attributes__" 448 (R 208), E P "__doc__" 449 N]⟩ 2), ⟨[]⟩⟩
def o210 : Obj := ⟨(T "type"), none, (.cls ⟨(u "InvalidSets"), [(R 31)], [(R 210), (R 31), (T "ValueError"), (T "Exception"), (T "BaseException"), (T "object")], 209, (u "InvalidSets"), true, [], [], false, none, false⟩), ⟨[some (R 194), none, some (S "InvalidSets" 427), some (S "InvalidSets" 435), some (B "ValueError.__new__"), some (.bool true)]⟩⟩
def o211 : Obj := ⟨(T "super"), none, (.fields ⟨[(R 210), (R 210), (R 210)]⟩), ⟨[]⟩⟩
def o212 : Obj := ⟨(T "builtin_function_or_method"), none, (.fields ⟨[(B "object.__init_subclass__"), (R 210)]⟩), ⟨[]⟩⟩
def t1 (P : Params) : BT := (n (boot_o_0 P) (n (boot_o_1 P) (n (o3_1 P) (n (boot_o_7 P) (n o15 (n o31 (n (o63 P) (n o127 z z) (n o191 z z)) (n (o95 P) (n o159 z z) z)) (n o47 (n o79 (n o143 z z) (n o207 z z)) (n o111 (n o175 z z) z))) (n o23 (n o39 (n o71 (n o135 z z) (n o199 z z)) (n o103 (n o167 z z) z)) (n o55 (n o87 (n o151 z z) z) (n o119 (n o183 z z) z)))) (n o11 (n o19 (n o35 (n o67 (n o131 z z) (n o195 z z)) (n o99 (n o163 z z) z)) (n o51 (n o83 (n o147 z z) (n o211 z z)) (n o115 (n o179 z z) z))) (n o27 (n (o43 P) (n o75 (n (o139 P) z z) (n o203 z z)) (n o107 (n (o171 P) z z) z)) (n o59 (n o91 (n o155 z z) z) (n o123 (n o187 z z) z))))) (n (boot_o_5 P) (n (boot_o_9 P) (n o17 (n o33 (n o65 (n o129 z z) (n o193 z z)) (n o97 (n o161 z z) z)) (n o49 (n o81 (n o145 z z) (n (o209 P) z z)) (n o113 (n (o177 P) z z) z))) (n o25 (n o41 (n o73 (n o137 z z) (n o201 z z)) (n o105 (n o169 z z) z)) (n o57 (n o89 (n o153 z z) z) (n o121 (n o185 z z) z)))) (n o13 (n o21 (n (o37 P) (n o69 (n (o133 P) z z) (n o197 z z)) (n (o101 P) (n o165 z z) z)) (n o53 (n o85 (n o149 z z) z) (n o117 (n o181 z z) z))) (n o29 (n o45 (n o77 (n o141 z z) (n o205 z z)) (n o109 (n o173 z z) z)) (n o61 (n o93 (n o157 z z) z) (n o125 (n o189 z z) z)))))) (n (o2_1 P) (n (boot_o_4 P) (n (boot_o_8 P) (n o16 (n o32 (n o64 (n o128 z z) (n o192 z z)) (n o96 (n o160 z z) z)) (n o48 (n o80 (n o144 z z) (n o208 z z)) (n o112 (n o176 z z) z))) (n (o24 P) (n o40 (n o72 (n o136 z z) (n o200 z z)) (n o104 (n o168 z z) z)) (n (o56 P) (n o88 (n (o152 P) z z) z) (n (o120 P) (n o184 z z) z)))) (n o12 (n o20 (n o36 (n o68 (n o132 z z) (n (o196 P) z z)) (n o100 (n o164 z z) z)) (n o52 (n o84 (n o148 z z) (n o212 z z)) (n o116 (n o180 z z) z))) (n o28 (n o44 (n (o76 P) (n o140 z z) (n o204 z z)) (n o108 (n o172 z z) z)) (n o60 (n o92 (n o156 z z) z) (n o124 (n o188 z z) z))))) (n (boot_o_6 P) (n (boot_o_10 P) (n o18 (n o34 (n o66 (n o130 z z) (n o194 z z)) (n o98 (n o162 z z) z)) (n (o50 P) (n (o82 P) (n o146 z z) (n o210 z z)) (n (o114 P) (n o178 z z) z))) (n o26 (n o42 (n o74 (n o138 z z) (n o202 z z)) (n o106 (n o170 z z) z)) (n o58 (n o90 (n o154 z z) z) (n o122 (n o186 z z) z)))) (n o14 (n o22 (n o38 (n o70 (n o134 z z) (n o198 z z)) (n o102 (n o166 z z) z)) (n o54 (n o86 (n o150 z z) z) (n o118 (n o182 z z) z))) (n (o30 P) (n o46 (n o78 (n o142 z z) (n o206 z z)) (n o110 (n o174 z z) z)) (n o62 (n o94 (n (o158 P) z z) z) (n o126 (n (o190 P) z z) z)))))))
def o3_2 (P : Params) : Obj := ⟨(T "dict"), none, (.dict ⟨[E P "__name__" 165 (S "onemember.members" 788), E P "__doc__" 166 N, E P "__package__" 167 N, E P "__loader__" 168 (B "__main__.__loader__#opaque"), E P "__spec__" 169 N, E P "__annotations__" 170 (R 6), E P "__builtins__" 171 (R 4), E P "__file__" 173 (S "/claim/cut.py" 172), E P "__cached__" 174 N, E P "_wall" 193 (R 21), E P "SetError" 213 (R 31), E P "StateError" 231 (R 44), E P "LimitError" 251 (R 57), E P "NotMembers" 276 (R 77), E P "NotAChange" 301 (R 96), E P "NotAnExpression" 326 (R 115), E P "InvalidForm" 351 (R 134), E P "InvalidText" 376 (R 153), E P "UnknownField" 401 (R 172), E P "InvalidNames" 426 (R 191), E P "InvalidSets" 451 (R 210), E P "InvalidFields" 476 (R 229), E P "InvalidModes" 501 (R 248), E P "InvalidCalls" 526 (R 267), E P "InvalidViews" 551 (R 286), E P "NotComparable" 567 (R 298), E P "TooManyLeaves" 592 (R 317), E P "TooManyLevels" 617 (R 336), E P "MOST_FIELDS" 619 (.int 4 618), E P "MOST_MODES" 621 (.int 4 620), E P "MOST_CALLS" 623 (.int 8 622), E P "MOST_VIEWS" 625 (.int 4 624), E P "MOST_FACTS" 627 (.int 5 626), E P "MOST_LEAVES" 629 (.int 200 628), E P "MOST_DEPTH" 631 (.int 20 630), E P "LONGEST_NAME" 635 (.int 8 634), E P "is_name" 642 (R 345), E P "wrong_at" 651 (R 352), E P "wrong_or_twice_at" 661 (R 359), E P "SIGNS" 668 (R 360), E P "GIVEN" 670 (S "given" 669), E P "NONE" 672 (S "none" 671), E P "is_field" 679 (R 367), E P "form_size" 685 (R 372), E P "is_triple" 692 (R 379), E P "is_form_of" 698 (R 384), E P "check_leaves" 705 (R 391), E P "check_depth" 712 (R 398), E P "form_text" 722 (R 405), E P "side_text" 729 (R 412), E P "read_counted" 740 (R 419), E P "take_word" 749 (R 426), E P "joined" 761 (R 433), E P "form_leaves" 768 (R 440), E P "form_fields" 774 (R 445), E P "form_value" 787 (R 452), E P "Members" 1008 (R 622)]⟩ 57), ⟨[]⟩⟩
def o12_2 : Obj := ⟨N, none, (.fields ⟨[(I 1), (I 0), (R 20), (I 5), (I 0), (R 27), (I 7), (I 0), (R 40), (I 9), (I 0), (R 53), (I 11), (I 0), (R 66), (I 15), (I 0), (R 85), (I 19), (I 0), (R 104), (I 23), (I 0), (R 123), (I 27), (I 0), (R 142), (I 31), (I 0), (R 161), (I 35), (I 0), (R 180), (I 39), (I 0), (R 199), (I 43), (I 0), (R 218), (I 47), (I 0), (R 237), (I 51), (I 0), (R 256), (I 55), (I 0), (R 275), (I 59), (I 0), (R 294), (I 61), (I 0), (R 306), (I 65), (I 0), (R 325), (I 78), (I 0), (R 344), (I 84), (I 0), (R 351), (I 89), (I 0), (R 358), (I 100), (I 0), (R 366), (I 102), (I 0), (R 371), (I 117), (I 0), (R 378), (I 119), (I 0), (R 383), (I 133), (I 0), (R 390), (I 136), (I 0), (R 397), (I 139), (I 0), (R 404), (I 144), (I 0), (R 411), (I 148), (I 0), (R 418), (I 162), (I 0), (R 425), (I 176), (I 0), (R 432), (I 179), (I 0), (R 439), (I 183), (I 0), (R 444), (I 186), (I 0), (R 451), (I 200), (I 0), (R 458)]⟩), ⟨[]⟩⟩
def o31_2 : Obj := ⟨(T "type"), none, (.cls ⟨(u "SetError"), [(T "ValueError")], [(R 31), (T "ValueError"), (T "Exception"), (T "BaseException"), (T "object")], 30, (u "SetError"), true, [], [(R 77), (R 96), (R 115), (R 134), (R 153), (R 172), (R 191), (R 210), (R 229), (R 248), (R 267), (R 286)], false, none, false⟩), ⟨[some (R 22), none, some (S "SetError" 196), some (S "SetError" 204), some (B "ValueError.__new__"), some (.bool true)]⟩⟩
def o44_2 : Obj := ⟨(T "type"), none, (.cls ⟨(u "StateError"), [(T "LookupError")], [(R 44), (T "LookupError"), (T "Exception"), (T "BaseException"), (T "object")], 43, (u "StateError"), true, [], [(R 298)], false, none, false⟩), ⟨[some (R 35), none, some (S "StateError" 214), some (S "StateError" 222), some (B "LookupError.__new__"), some (.bool true)]⟩⟩
def o57_2 : Obj := ⟨(T "type"), none, (.cls ⟨(u "LimitError"), [(T "ArithmeticError")], [(R 57), (T "ArithmeticError"), (T "Exception"), (T "BaseException"), (T "object")], 56, (u "LimitError"), true, [], [(R 317), (R 336)], false, none, false⟩), ⟨[some (R 48), none, some (S "LimitError" 232), some (S "LimitError" 240), some (B "ArithmeticError.__new__"), some (.bool true)]⟩⟩
def o213 : Obj := ⟨(T "tuple"), none, (.seq ⟨[(R 31)]⟩ 0), ⟨[]⟩⟩
def o214 : Obj := ⟨(T "builtin_function_or_method"), none, (.fields ⟨[(B "type.__prepare__"), (T "type")]⟩), ⟨[]⟩⟩
def o215 (P : Params) : Obj := ⟨(T "dict"), none, (.dict ⟨[E P "__module__" 459 (S "onemember.errors" 194), E P "__qualname__" 461 (S "InvalidFields" 460), E P "__firstlineno__" 463 (.int 43 462), E P "__init__" 471 (R 226), E P "__static_attributes__" 473 (R 227)]⟩ 5), ⟨[]⟩⟩
def o216 : Obj := ⟨(T "tuple"), none, (.seq ⟨[]⟩ 0), ⟨[]⟩⟩
def o217 : Obj := ⟨N, none, (.fields ⟨[(I 45), (I 4), (R 225)]⟩), ⟨[]⟩⟩
def o218 : Obj := ⟨(T "code"), none, (.fields ⟨[(S "InvalidFields" 454), (S "InvalidFields" 455), (S "/claim/cut.py" 456), (I 43), (I 0), (I 0), (I 0), (I 0), (R 216), (.bool false), (I 181), (R 217), N, N, N, N, (I 457), (I 43), (S "/claim/cut.py" 458)]⟩), ⟨[]⟩⟩
def o219 : Obj := ⟨(T "frame"), none, .plain, ⟨[some (R 218), some (R 3), some (R 215), none, some (S "onemember.errors" 194), none, some (R 0)]⟩⟩
def o220 : Obj := ⟨(T "tuple"), none, (.seq ⟨[]⟩ 0), ⟨[]⟩⟩
def o221 : Obj := ⟨N, none, (.fields ⟨[]⟩), ⟨[]⟩⟩
def o222 : Obj := ⟨(T "tuple"), none, (.seq ⟨[(S "self" 467), (S "index" 468)]⟩ 0), ⟨[]⟩⟩
def o223 : Obj := ⟨(T "tuple"), none, (.seq ⟨[]⟩ 0), ⟨[]⟩⟩
def o224 : Obj := ⟨N, none, (F (C 13 0) (u "__init__") (u "InvalidFields.__init__") 0 [] N N N N none N N 0), ⟨[]⟩⟩
def o225 : Obj := ⟨(T "code"), none, (.fields ⟨[(S "__init__" 464), (S "InvalidFields.__init__" 465), (S "/claim/cut.py" 466), (I 45), (I 2), (I 0), (I 0), (I 3), (R 220), (.bool true), (I 181), (R 221), N, (R 222), (R 223), (R 224), (I 469), (I 45), (S "/claim/cut.py" 470)]⟩), ⟨[]⟩⟩
def o226 : Obj := ⟨(T "function"), none, (F (C 13 0) (u "__init__") (u "InvalidFields.__init__") 3 [] N N N (S "onemember.errors" 194) none (R 225) N 0), ⟨[]⟩⟩
def o227 : Obj := ⟨(T "tuple"), none, (.seq ⟨[(S "index" 472)]⟩ 0), ⟨[]⟩⟩
def o228 (P : Params) : Obj := ⟨(T "dict"), none, (.dict ⟨[E P "__module__" 459 (S "onemember.errors" 194), E P "__firstlineno__" 463 (.int 43 462), E P "__init__" 471 (R 226), E P "__static_attributes__" 473 (R 227), E P "__doc__" 474 N]⟩ 2), ⟨[]⟩⟩
def o229 : Obj := ⟨(T "type"), none, (.cls ⟨(u "InvalidFields"), [(R 31)], [(R 229), (R 31), (T "ValueError"), (T "Exception"), (T "BaseException"), (T "object")], 228, (u "InvalidFields"), true, [], [], false, none, false⟩), ⟨[some (R 213), none, some (S "InvalidFields" 452), some (S "InvalidFields" 460), some (B "ValueError.__new__"), some (.bool true)]⟩⟩
def o230 : Obj := ⟨(T "super"), none, (.fields ⟨[(R 229), (R 229), (R 229)]⟩), ⟨[]⟩⟩
def o231 : Obj := ⟨(T "builtin_function_or_method"), none, (.fields ⟨[(B "object.__init_subclass__"), (R 229)]⟩), ⟨[]⟩⟩
def o232 : Obj := ⟨(T "tuple"), none, (.seq ⟨[(R 31)]⟩ 0), ⟨[]⟩⟩
def o233 : Obj := ⟨(T "builtin_function_or_method"), none, (.fields ⟨[(B "type.__prepare__"), (T "type")]⟩), ⟨[]⟩⟩
def o234 (P : Params) : Obj := ⟨(T "dict"), none, (.dict ⟨[E P "__module__" 484 (S "onemember.errors" 194), E P "__qualname__" 486 (S "InvalidModes" 485), E P "__firstlineno__" 488 (.int 47 487), E P "__init__" 496 (R 245), E P "__static_attributes__" 498 (R 246)]⟩ 5), ⟨[]⟩⟩
def o235 : Obj := ⟨(T "tuple"), none, (.seq ⟨[]⟩ 0), ⟨[]⟩⟩
def o236 : Obj := ⟨N, none, (.fields ⟨[(I 49), (I 4), (R 244)]⟩), ⟨[]⟩⟩
def o237 : Obj := ⟨(T "code"), none, (.fields ⟨[(S "InvalidModes" 479), (S "InvalidModes" 480), (S "/claim/cut.py" 481), (I 47), (I 0), (I 0), (I 0), (I 0), (R 235), (.bool false), (I 181), (R 236), N, N, N, N, (I 482), (I 47), (S "/claim/cut.py" 483)]⟩), ⟨[]⟩⟩
def o238 : Obj := ⟨(T "frame"), none, .plain, ⟨[some (R 237), some (R 3), some (R 234), none, some (S "onemember.errors" 194), none, some (R 0)]⟩⟩
def o239 : Obj := ⟨(T "tuple"), none, (.seq ⟨[]⟩ 0), ⟨[]⟩⟩
def o240 : Obj := ⟨N, none, (.fields ⟨[]⟩), ⟨[]⟩⟩
def o241 : Obj := ⟨(T "tuple"), none, (.seq ⟨[(S "self" 492), (S "index" 493)]⟩ 0), ⟨[]⟩⟩
def o242 : Obj := ⟨(T "tuple"), none, (.seq ⟨[]⟩ 0), ⟨[]⟩⟩
def o243 : Obj := ⟨N, none, (F (C 14 0) (u "__init__") (u "InvalidModes.__init__") 0 [] N N N N none N N 0), ⟨[]⟩⟩
def o244 : Obj := ⟨(T "code"), none, (.fields ⟨[(S "__init__" 489), (S "InvalidModes.__init__" 490), (S "/claim/cut.py" 491), (I 49), (I 2), (I 0), (I 0), (I 3), (R 239), (.bool true), (I 181), (R 240), N, (R 241), (R 242), (R 243), (I 494), (I 49), (S "/claim/cut.py" 495)]⟩), ⟨[]⟩⟩
def o245 : Obj := ⟨(T "function"), none, (F (C 14 0) (u "__init__") (u "InvalidModes.__init__") 3 [] N N N (S "onemember.errors" 194) none (R 244) N 0), ⟨[]⟩⟩
def o246 : Obj := ⟨(T "tuple"), none, (.seq ⟨[(S "index" 497)]⟩ 0), ⟨[]⟩⟩
def o247 (P : Params) : Obj := ⟨(T "dict"), none, (.dict ⟨[E P "__module__" 484 (S "onemember.errors" 194), E P "__firstlineno__" 488 (.int 47 487), E P "__init__" 496 (R 245), E P "__static_attributes__" 498 (R 246), E P "__doc__" 499 N]⟩ 2), ⟨[]⟩⟩
def o248 : Obj := ⟨(T "type"), none, (.cls ⟨(u "InvalidModes"), [(R 31)], [(R 248), (R 31), (T "ValueError"), (T "Exception"), (T "BaseException"), (T "object")], 247, (u "InvalidModes"), true, [], [], false, none, false⟩), ⟨[some (R 232), none, some (S "InvalidModes" 477), some (S "InvalidModes" 485), some (B "ValueError.__new__"), some (.bool true)]⟩⟩
def o249 : Obj := ⟨(T "super"), none, (.fields ⟨[(R 248), (R 248), (R 248)]⟩), ⟨[]⟩⟩
def o250 : Obj := ⟨(T "builtin_function_or_method"), none, (.fields ⟨[(B "object.__init_subclass__"), (R 248)]⟩), ⟨[]⟩⟩
def o251 : Obj := ⟨(T "tuple"), none, (.seq ⟨[(R 31)]⟩ 0), ⟨[]⟩⟩
def o252 : Obj := ⟨(T "builtin_function_or_method"), none, (.fields ⟨[(B "type.__prepare__"), (T "type")]⟩), ⟨[]⟩⟩
def o253 (P : Params) : Obj := ⟨(T "dict"), none, (.dict ⟨[E P "__module__" 509 (S "onemember.errors" 194), E P "__qualname__" 511 (S "InvalidCalls" 510), E P "__firstlineno__" 513 (.int 51 512), E P "__init__" 521 (R 264), E P "__static_attributes__" 523 (R 265)]⟩ 5), ⟨[]⟩⟩
def o254 : Obj := ⟨(T "tuple"), none, (.seq ⟨[]⟩ 0), ⟨[]⟩⟩
def o255 : Obj := ⟨N, none, (.fields ⟨[(I 53), (I 4), (R 263)]⟩), ⟨[]⟩⟩
def o256 : Obj := ⟨(T "code"), none, (.fields ⟨[(S "InvalidCalls" 504), (S "InvalidCalls" 505), (S "/claim/cut.py" 506), (I 51), (I 0), (I 0), (I 0), (I 0), (R 254), (.bool false), (I 181), (R 255), N, N, N, N, (I 507), (I 51), (S "/claim/cut.py" 508)]⟩), ⟨[]⟩⟩
def o257 : Obj := ⟨(T "frame"), none, .plain, ⟨[some (R 256), some (R 3), some (R 253), none, some (S "onemember.errors" 194), none, some (R 0)]⟩⟩
def o258 : Obj := ⟨(T "tuple"), none, (.seq ⟨[]⟩ 0), ⟨[]⟩⟩
def o259 : Obj := ⟨N, none, (.fields ⟨[]⟩), ⟨[]⟩⟩
def o260 : Obj := ⟨(T "tuple"), none, (.seq ⟨[(S "self" 517), (S "index" 518)]⟩ 0), ⟨[]⟩⟩
def o261 : Obj := ⟨(T "tuple"), none, (.seq ⟨[]⟩ 0), ⟨[]⟩⟩
def o262 : Obj := ⟨N, none, (F (C 15 0) (u "__init__") (u "InvalidCalls.__init__") 0 [] N N N N none N N 0), ⟨[]⟩⟩
def o263 : Obj := ⟨(T "code"), none, (.fields ⟨[(S "__init__" 514), (S "InvalidCalls.__init__" 515), (S "/claim/cut.py" 516), (I 53), (I 2), (I 0), (I 0), (I 3), (R 258), (.bool true), (I 181), (R 259), N, (R 260), (R 261), (R 262), (I 519), (I 53), (S "/claim/cut.py" 520)]⟩), ⟨[]⟩⟩
def o264 : Obj := ⟨(T "function"), none, (F (C 15 0) (u "__init__") (u "InvalidCalls.__init__") 3 [] N N N (S "onemember.errors" 194) none (R 263) N 0), ⟨[]⟩⟩
def o265 : Obj := ⟨(T "tuple"), none, (.seq ⟨[(S "index" 522)]⟩ 0), ⟨[]⟩⟩
def o266 (P : Params) : Obj := ⟨(T "dict"), none, (.dict ⟨[E P "__module__" 509 (S "onemember.errors" 194), E P "__firstlineno__" 513 (.int 51 512), E P "__init__" 521 (R 264), E P "__static_attributes__" 523 (R 265), E P "__doc__" 524 N]⟩ 2), ⟨[]⟩⟩
def o267 : Obj := ⟨(T "type"), none, (.cls ⟨(u "InvalidCalls"), [(R 31)], [(R 267), (R 31), (T "ValueError"), (T "Exception"), (T "BaseException"), (T "object")], 266, (u "InvalidCalls"), true, [], [], false, none, false⟩), ⟨[some (R 251), none, some (S "InvalidCalls" 502), some (S "InvalidCalls" 510), some (B "ValueError.__new__"), some (.bool true)]⟩⟩
def o268 : Obj := ⟨(T "super"), none, (.fields ⟨[(R 267), (R 267), (R 267)]⟩), ⟨[]⟩⟩
def o269 : Obj := ⟨(T "builtin_function_or_method"), none, (.fields ⟨[(B "object.__init_subclass__"), (R 267)]⟩), ⟨[]⟩⟩
def o270 : Obj := ⟨(T "tuple"), none, (.seq ⟨[(R 31)]⟩ 0), ⟨[]⟩⟩
def o271 : Obj := ⟨(T "builtin_function_or_method"), none, (.fields ⟨[(B "type.__prepare__"), (T "type")]⟩), ⟨[]⟩⟩
def o272 (P : Params) : Obj := ⟨(T "dict"), none, (.dict ⟨[E P "__module__" 534 (S "onemember.errors" 194), E P "__qualname__" 536 (S "InvalidViews" 535), E P "__firstlineno__" 538 (.int 55 537), E P "__init__" 546 (R 283), E P "__static_attributes__" 548 (R 284)]⟩ 5), ⟨[]⟩⟩
def o273 : Obj := ⟨(T "tuple"), none, (.seq ⟨[]⟩ 0), ⟨[]⟩⟩
def o274 : Obj := ⟨N, none, (.fields ⟨[(I 57), (I 4), (R 282)]⟩), ⟨[]⟩⟩
def o275 : Obj := ⟨(T "code"), none, (.fields ⟨[(S "InvalidViews" 529), (S "InvalidViews" 530), (S "/claim/cut.py" 531), (I 55), (I 0), (I 0), (I 0), (I 0), (R 273), (.bool false), (I 181), (R 274), N, N, N, N, (I 532), (I 55), (S "/claim/cut.py" 533)]⟩), ⟨[]⟩⟩
def o276 : Obj := ⟨(T "frame"), none, .plain, ⟨[some (R 275), some (R 3), some (R 272), none, some (S "onemember.errors" 194), none, some (R 0)]⟩⟩
def o277 : Obj := ⟨(T "tuple"), none, (.seq ⟨[]⟩ 0), ⟨[]⟩⟩
def o278 : Obj := ⟨N, none, (.fields ⟨[]⟩), ⟨[]⟩⟩
def o279 : Obj := ⟨(T "tuple"), none, (.seq ⟨[(S "self" 542), (S "index" 543)]⟩ 0), ⟨[]⟩⟩
def o280 : Obj := ⟨(T "tuple"), none, (.seq ⟨[]⟩ 0), ⟨[]⟩⟩
def o281 : Obj := ⟨N, none, (F (C 16 0) (u "__init__") (u "InvalidViews.__init__") 0 [] N N N N none N N 0), ⟨[]⟩⟩
def o282 : Obj := ⟨(T "code"), none, (.fields ⟨[(S "__init__" 539), (S "InvalidViews.__init__" 540), (S "/claim/cut.py" 541), (I 57), (I 2), (I 0), (I 0), (I 3), (R 277), (.bool true), (I 181), (R 278), N, (R 279), (R 280), (R 281), (I 544), (I 57), (S "/claim/cut.py" 545)]⟩), ⟨[]⟩⟩
def o283 : Obj := ⟨(T "function"), none, (F (C 16 0) (u "__init__") (u "InvalidViews.__init__") 3 [] N N N (S "onemember.errors" 194) none (R 282) N 0), ⟨[]⟩⟩
def o284 : Obj := ⟨(T "tuple"), none, (.seq ⟨[(S "index" 547)]⟩ 0), ⟨[]⟩⟩
def o285 (P : Params) : Obj := ⟨(T "dict"), none, (.dict ⟨[E P "__module__" 534 (S "onemember.errors" 194), E P "__firstlineno__" 538 (.int 55 537), E P "__init__" 546 (R 283), E P "__static_attributes__" 548 (R 284), E P "__doc__" 549 N]⟩ 2), ⟨[]⟩⟩
def o286 : Obj := ⟨(T "type"), none, (.cls ⟨(u "InvalidViews"), [(R 31)], [(R 286), (R 31), (T "ValueError"), (T "Exception"), (T "BaseException"), (T "object")], 285, (u "InvalidViews"), true, [], [], false, none, false⟩), ⟨[some (R 270), none, some (S "InvalidViews" 527), some (S "InvalidViews" 535), some (B "ValueError.__new__"), some (.bool true)]⟩⟩
def o287 : Obj := ⟨(T "super"), none, (.fields ⟨[(R 286), (R 286), (R 286)]⟩), ⟨[]⟩⟩
def o288 : Obj := ⟨(T "builtin_function_or_method"), none, (.fields ⟨[(B "object.__init_subclass__"), (R 286)]⟩), ⟨[]⟩⟩
def o289 : Obj := ⟨(T "tuple"), none, (.seq ⟨[(R 44)]⟩ 0), ⟨[]⟩⟩
def o290 : Obj := ⟨(T "builtin_function_or_method"), none, (.fields ⟨[(B "type.__prepare__"), (T "type")]⟩), ⟨[]⟩⟩
def o291 (P : Params) : Obj := ⟨(T "dict"), none, (.dict ⟨[E P "__module__" 559 (S "onemember.errors" 194), E P "__qualname__" 561 (S "NotComparable" 560), E P "__firstlineno__" 563 (.int 59 562), E P "__static_attributes__" 564 (R 296)]⟩ 4), ⟨[]⟩⟩
def o292 : Obj := ⟨(T "tuple"), none, (.seq ⟨[]⟩ 0), ⟨[]⟩⟩
def o293 : Obj := ⟨N, none, (.fields ⟨[]⟩), ⟨[]⟩⟩
def o294 : Obj := ⟨(T "code"), none, (.fields ⟨[(S "NotComparable" 554), (S "NotComparable" 555), (S "/claim/cut.py" 556), (I 59), (I 0), (I 0), (I 0), (I 0), (R 292), (.bool false), (I 181), (R 293), N, N, N, N, (I 557), (I 59), (S "/claim/cut.py" 558)]⟩), ⟨[]⟩⟩
def o295 : Obj := ⟨(T "frame"), none, .plain, ⟨[some (R 294), some (R 3), some (R 291), none, some (S "onemember.errors" 194), none, some (R 0)]⟩⟩
def o296 : Obj := ⟨(T "tuple"), none, (.seq ⟨[]⟩ 0), ⟨[]⟩⟩
def o297 (P : Params) : Obj := ⟨(T "dict"), none, (.dict ⟨[E P "__module__" 559 (S "onemember.errors" 194), E P "__firstlineno__" 563 (.int 59 562), E P "__static_attributes__" 564 (R 296), E P "__doc__" 565 N]⟩ 2), ⟨[]⟩⟩
def o298 : Obj := ⟨(T "type"), none, (.cls ⟨(u "NotComparable"), [(R 44)], [(R 298), (R 44), (T "LookupError"), (T "Exception"), (T "BaseException"), (T "object")], 297, (u "NotComparable"), true, [], [], false, none, false⟩), ⟨[some (R 289), none, some (S "NotComparable" 552), some (S "NotComparable" 560), some (B "LookupError.__new__"), some (.bool true)]⟩⟩
def o299 : Obj := ⟨(T "super"), none, (.fields ⟨[(R 298), (R 298), (R 298)]⟩), ⟨[]⟩⟩
def o300 : Obj := ⟨(T "builtin_function_or_method"), none, (.fields ⟨[(B "object.__init_subclass__"), (R 298)]⟩), ⟨[]⟩⟩
def o301 : Obj := ⟨(T "tuple"), none, (.seq ⟨[(R 57)]⟩ 0), ⟨[]⟩⟩
def o302 : Obj := ⟨(T "builtin_function_or_method"), none, (.fields ⟨[(B "type.__prepare__"), (T "type")]⟩), ⟨[]⟩⟩
def o303 (P : Params) : Obj := ⟨(T "dict"), none, (.dict ⟨[E P "__module__" 575 (S "onemember.errors" 194), E P "__qualname__" 577 (S "TooManyLeaves" 576), E P "__firstlineno__" 579 (.int 61 578), E P "__init__" 587 (R 314), E P "__static_attributes__" 589 (R 315)]⟩ 5), ⟨[]⟩⟩
def o304 : Obj := ⟨(T "tuple"), none, (.seq ⟨[]⟩ 0), ⟨[]⟩⟩
def o305 : Obj := ⟨N, none, (.fields ⟨[(I 63), (I 4), (R 313)]⟩), ⟨[]⟩⟩
def o306 : Obj := ⟨(T "code"), none, (.fields ⟨[(S "TooManyLeaves" 570), (S "TooManyLeaves" 571), (S "/claim/cut.py" 572), (I 61), (I 0), (I 0), (I 0), (I 0), (R 304), (.bool false), (I 181), (R 305), N, N, N, N, (I 573), (I 61), (S "/claim/cut.py" 574)]⟩), ⟨[]⟩⟩
def o307 : Obj := ⟨(T "frame"), none, .plain, ⟨[some (R 306), some (R 3), some (R 303), none, some (S "onemember.errors" 194), none, some (R 0)]⟩⟩
def o308 : Obj := ⟨(T "tuple"), none, (.seq ⟨[]⟩ 0), ⟨[]⟩⟩
def o309 : Obj := ⟨N, none, (.fields ⟨[]⟩), ⟨[]⟩⟩
def o310 : Obj := ⟨(T "tuple"), none, (.seq ⟨[(S "self" 583), (S "limit" 584)]⟩ 0), ⟨[]⟩⟩
def o311 : Obj := ⟨(T "tuple"), none, (.seq ⟨[]⟩ 0), ⟨[]⟩⟩
def o312 : Obj := ⟨N, none, (F (C 18 0) (u "__init__") (u "TooManyLeaves.__init__") 0 [] N N N N none N N 0), ⟨[]⟩⟩
def o313 : Obj := ⟨(T "code"), none, (.fields ⟨[(S "__init__" 580), (S "TooManyLeaves.__init__" 581), (S "/claim/cut.py" 582), (I 63), (I 2), (I 0), (I 0), (I 3), (R 308), (.bool true), (I 181), (R 309), N, (R 310), (R 311), (R 312), (I 585), (I 63), (S "/claim/cut.py" 586)]⟩), ⟨[]⟩⟩
def o314 : Obj := ⟨(T "function"), none, (F (C 18 0) (u "__init__") (u "TooManyLeaves.__init__") 3 [] N N N (S "onemember.errors" 194) none (R 313) N 0), ⟨[]⟩⟩
def o315 : Obj := ⟨(T "tuple"), none, (.seq ⟨[(S "limit" 588)]⟩ 0), ⟨[]⟩⟩
def o316 (P : Params) : Obj := ⟨(T "dict"), none, (.dict ⟨[E P "__module__" 575 (S "onemember.errors" 194), E P "__firstlineno__" 579 (.int 61 578), E P "__init__" 587 (R 314), E P "__static_attributes__" 589 (R 315), E P "__doc__" 590 N]⟩ 2), ⟨[]⟩⟩
def o317 : Obj := ⟨(T "type"), none, (.cls ⟨(u "TooManyLeaves"), [(R 57)], [(R 317), (R 57), (T "ArithmeticError"), (T "Exception"), (T "BaseException"), (T "object")], 316, (u "TooManyLeaves"), true, [], [], false, none, false⟩), ⟨[some (R 301), none, some (S "TooManyLeaves" 568), some (S "TooManyLeaves" 576), some (B "ArithmeticError.__new__"), some (.bool true)]⟩⟩
def o318 : Obj := ⟨(T "super"), none, (.fields ⟨[(R 317), (R 317), (R 317)]⟩), ⟨[]⟩⟩
def o319 : Obj := ⟨(T "builtin_function_or_method"), none, (.fields ⟨[(B "object.__init_subclass__"), (R 317)]⟩), ⟨[]⟩⟩
def o320 : Obj := ⟨(T "tuple"), none, (.seq ⟨[(R 57)]⟩ 0), ⟨[]⟩⟩
def o321 : Obj := ⟨(T "builtin_function_or_method"), none, (.fields ⟨[(B "type.__prepare__"), (T "type")]⟩), ⟨[]⟩⟩
def o322 (P : Params) : Obj := ⟨(T "dict"), none, (.dict ⟨[E P "__module__" 600 (S "onemember.errors" 194), E P "__qualname__" 602 (S "TooManyLevels" 601), E P "__firstlineno__" 604 (.int 65 603), E P "__init__" 612 (R 333), E P "__static_attributes__" 614 (R 334)]⟩ 5), ⟨[]⟩⟩
def o323 : Obj := ⟨(T "tuple"), none, (.seq ⟨[]⟩ 0), ⟨[]⟩⟩
def o324 : Obj := ⟨N, none, (.fields ⟨[(I 67), (I 4), (R 332)]⟩), ⟨[]⟩⟩
def o325 : Obj := ⟨(T "code"), none, (.fields ⟨[(S "TooManyLevels" 595), (S "TooManyLevels" 596), (S "/claim/cut.py" 597), (I 65), (I 0), (I 0), (I 0), (I 0), (R 323), (.bool false), (I 181), (R 324), N, N, N, N, (I 598), (I 65), (S "/claim/cut.py" 599)]⟩), ⟨[]⟩⟩
def o326 : Obj := ⟨(T "frame"), none, .plain, ⟨[some (R 325), some (R 3), some (R 322), none, some (S "onemember.errors" 194), none, some (R 0)]⟩⟩
def o327 : Obj := ⟨(T "tuple"), none, (.seq ⟨[]⟩ 0), ⟨[]⟩⟩
def o328 : Obj := ⟨N, none, (.fields ⟨[]⟩), ⟨[]⟩⟩
def o329 : Obj := ⟨(T "tuple"), none, (.seq ⟨[(S "self" 608), (S "limit" 609)]⟩ 0), ⟨[]⟩⟩
def o330 : Obj := ⟨(T "tuple"), none, (.seq ⟨[]⟩ 0), ⟨[]⟩⟩
def o331 : Obj := ⟨N, none, (F (C 19 0) (u "__init__") (u "TooManyLevels.__init__") 0 [] N N N N none N N 0), ⟨[]⟩⟩
def o332 : Obj := ⟨(T "code"), none, (.fields ⟨[(S "__init__" 605), (S "TooManyLevels.__init__" 606), (S "/claim/cut.py" 607), (I 67), (I 2), (I 0), (I 0), (I 3), (R 327), (.bool true), (I 181), (R 328), N, (R 329), (R 330), (R 331), (I 610), (I 67), (S "/claim/cut.py" 611)]⟩), ⟨[]⟩⟩
def o333 : Obj := ⟨(T "function"), none, (F (C 19 0) (u "__init__") (u "TooManyLevels.__init__") 3 [] N N N (S "onemember.errors" 194) none (R 332) N 0), ⟨[]⟩⟩
def o334 : Obj := ⟨(T "tuple"), none, (.seq ⟨[(S "limit" 613)]⟩ 0), ⟨[]⟩⟩
def o335 (P : Params) : Obj := ⟨(T "dict"), none, (.dict ⟨[E P "__module__" 600 (S "onemember.errors" 194), E P "__firstlineno__" 604 (.int 65 603), E P "__init__" 612 (R 333), E P "__static_attributes__" 614 (R 334), E P "__doc__" 615 N]⟩ 2), ⟨[]⟩⟩
def o336 : Obj := ⟨(T "type"), none, (.cls ⟨(u "TooManyLevels"), [(R 57)], [(R 336), (R 57), (T "ArithmeticError"), (T "Exception"), (T "BaseException"), (T "object")], 335, (u "TooManyLevels"), true, [], [], false, none, false⟩), ⟨[some (R 320), none, some (S "TooManyLevels" 593), some (S "TooManyLevels" 601), some (B "ArithmeticError.__new__"), some (.bool true)]⟩⟩
def o337 : Obj := ⟨(T "super"), none, (.fields ⟨[(R 336), (R 336), (R 336)]⟩), ⟨[]⟩⟩
def o338 : Obj := ⟨(T "builtin_function_or_method"), none, (.fields ⟨[(B "object.__init_subclass__"), (R 336)]⟩), ⟨[]⟩⟩
def o339 : Obj := ⟨(T "tuple"), none, (.seq ⟨[]⟩ 0), ⟨[]⟩⟩
def o340 : Obj := ⟨N, none, (.fields ⟨[]⟩), ⟨[]⟩⟩
def o341 : Obj := ⟨(T "tuple"), none, (.seq ⟨[(S "value" 639)]⟩ 0), ⟨[]⟩⟩
def o342 : Obj := ⟨(T "tuple"), none, (.seq ⟨[]⟩ 0), ⟨[]⟩⟩
def o343 : Obj := ⟨N, none, (F (A 29) (u "is_name") (u "is_name") 0 [] N N N N none N N 0), ⟨[]⟩⟩
def o344 : Obj := ⟨(T "code"), none, (.fields ⟨[(S "is_name" 636), (S "is_name" 637), (S "/claim/cut.py" 638), (I 78), (I 1), (I 0), (I 0), (I 3), (R 339), (.bool true), (I 181), (R 340), N, (R 341), (R 342), (R 343), (I 640), (I 78), (S "/claim/cut.py" 641)]⟩), ⟨[]⟩⟩
def o345 : Obj := ⟨(T "function"), none, (F (A 29) (u "is_name") (u "is_name") 3 [] N N N (S "onemember.names" 632) none (R 344) N 0), ⟨[]⟩⟩
def o346 : Obj := ⟨(T "tuple"), none, (.seq ⟨[]⟩ 0), ⟨[]⟩⟩
def o347 : Obj := ⟨N, none, (.fields ⟨[]⟩), ⟨[]⟩⟩
def o348 : Obj := ⟨(T "tuple"), none, (.seq ⟨[(S "values" 646), (S "at" 647), (S "value" 648)]⟩ 0), ⟨[]⟩⟩
def o349 : Obj := ⟨(T "tuple"), none, (.seq ⟨[]⟩ 0), ⟨[]⟩⟩
def o350 : Obj := ⟨N, none, (F (A 30) (u "wrong_at") (u "wrong_at") 0 [] N N N N none N N 0), ⟨[]⟩⟩
def o351 : Obj := ⟨(T "code"), none, (.fields ⟨[(S "wrong_at" 643), (S "wrong_at" 644), (S "/claim/cut.py" 645), (I 84), (I 1), (I 0), (I 0), (I 3), (R 346), (.bool true), (I 181), (R 347), N, (R 348), (R 349), (R 350), (I 649), (I 84), (S "/claim/cut.py" 650)]⟩), ⟨[]⟩⟩
def o352 : Obj := ⟨(T "function"), none, (F (A 30) (u "wrong_at") (u "wrong_at") 3 [] N N N (S "onemember.names" 632) none (R 351) N 0), ⟨[]⟩⟩
def o353 : Obj := ⟨(T "tuple"), none, (.seq ⟨[]⟩ 0), ⟨[]⟩⟩
def o354 : Obj := ⟨N, none, (.fields ⟨[]⟩), ⟨[]⟩⟩
def o355 : Obj := ⟨(T "tuple"), none, (.seq ⟨[(S "values" 655), (S "seen" 656), (S "at" 657), (S "value" 658)]⟩ 0), ⟨[]⟩⟩
def o356 : Obj := ⟨(T "tuple"), none, (.seq ⟨[]⟩ 0), ⟨[]⟩⟩
def o357 : Obj := ⟨N, none, (F (A 31) (u "wrong_or_twice_at") (u "wrong_or_twice_at") 0 [] N N N N none N N 0), ⟨[]⟩⟩
def o358 : Obj := ⟨(T "code"), none, (.fields ⟨[(S "wrong_or_twice_at" 652), (S "wrong_or_twice_at" 653), (S "/claim/cut.py" 654), (I 89), (I 1), (I 0), (I 0), (I 3), (R 353), (.bool true), (I 181), (R 354), N, (R 355), (R 356), (R 357), (I 659), (I 89), (S "/claim/cut.py" 660)]⟩), ⟨[]⟩⟩
def o359 : Obj := ⟨(T "function"), none, (F (A 31) (u "wrong_or_twice_at") (u "wrong_or_twice_at") 3 [] N N N (S "onemember.names" 632) none (R 358) N 0), ⟨[]⟩⟩
def o360 : Obj := ⟨(T "tuple"), none, (.seq ⟨[(S "|" 664), (S "&" 665), (S "-" 666), (S "^" 667)]⟩ 0), ⟨[]⟩⟩
def o361 : Obj := ⟨(T "tuple"), none, (.seq ⟨[]⟩ 0), ⟨[]⟩⟩
def o362 : Obj := ⟨N, none, (.fields ⟨[]⟩), ⟨[]⟩⟩
def o363 : Obj := ⟨(T "tuple"), none, (.seq ⟨[(S "value" 676)]⟩ 0), ⟨[]⟩⟩
def o364 : Obj := ⟨(T "tuple"), none, (.seq ⟨[]⟩ 0), ⟨[]⟩⟩
def o365 : Obj := ⟨N, none, (F (A 36) (u "is_field") (u "is_field") 0 [] N N N N none N N 0), ⟨[]⟩⟩
def o366 : Obj := ⟨(T "code"), none, (.fields ⟨[(S "is_field" 673), (S "is_field" 674), (S "/claim/cut.py" 675), (I 100), (I 1), (I 0), (I 0), (I 3), (R 361), (.bool true), (I 181), (R 362), N, (R 363), (R 364), (R 365), (I 677), (I 100), (S "/claim/cut.py" 678)]⟩), ⟨[]⟩⟩
def o367 : Obj := ⟨(T "function"), none, (F (A 36) (u "is_field") (u "is_field") 3 [] N N N (S "onemember.forms" 662) none (R 366) N 0), ⟨[]⟩⟩
def o368 : Obj := ⟨(T "tuple"), none, (.seq ⟨[]⟩ 0), ⟨[]⟩⟩
def o369 : Obj := ⟨N, none, (.fields ⟨[]⟩), ⟨[]⟩⟩
def o370 : Obj := ⟨N, none, (F (A 37) (u "form_size") (u "form_size") 0 [] N N N N none N N 0), ⟨[]⟩⟩
def o371 : Obj := ⟨(T "code"), none, (.fields ⟨[(S "form_size" 680), (S "form_size" 681), (S "/claim/cut.py" 682), (I 102), (I 1), (I 0), (I 0), (I 3), (R 368), (.bool true), (I 181), (R 369), N, N, N, (R 370), (I 683), (I 102), (S "/claim/cut.py" 684)]⟩), ⟨[]⟩⟩
def o372 : Obj := ⟨(T "function"), none, (F (A 37) (u "form_size") (u "form_size") 3 [] N N N (S "onemember.forms" 662) none (R 371) N 0), ⟨[]⟩⟩
def o373 : Obj := ⟨(T "tuple"), none, (.seq ⟨[]⟩ 0), ⟨[]⟩⟩
def o374 : Obj := ⟨N, none, (.fields ⟨[]⟩), ⟨[]⟩⟩
def o375 : Obj := ⟨(T "tuple"), none, (.seq ⟨[(S "value" 689)]⟩ 0), ⟨[]⟩⟩
def o376 : Obj := ⟨(T "tuple"), none, (.seq ⟨[]⟩ 0), ⟨[]⟩⟩
def o377 : Obj := ⟨N, none, (F (A 38) (u "is_triple") (u "is_triple") 0 [] N N N N none N N 0), ⟨[]⟩⟩
def o378 : Obj := ⟨(T "code"), none, (.fields ⟨[(S "is_triple" 686), (S "is_triple" 687), (S "/claim/cut.py" 688), (I 117), (I 1), (I 0), (I 0), (I 3), (R 373), (.bool true), (I 181), (R 374), N, (R 375), (R 376), (R 377), (I 690), (I 117), (S "/claim/cut.py" 691)]⟩), ⟨[]⟩⟩
def o379 : Obj := ⟨(T "function"), none, (F (A 38) (u "is_triple") (u "is_triple") 3 [] N N N (S "onemember.forms" 662) none (R 378) N 0), ⟨[]⟩⟩
def o380 : Obj := ⟨(T "tuple"), none, (.seq ⟨[]⟩ 0), ⟨[]⟩⟩
def o381 : Obj := ⟨N, none, (.fields ⟨[]⟩), ⟨[]⟩⟩
def o382 : Obj := ⟨N, none, (F (A 39) (u "is_form_of") (u "is_form_of") 0 [] N N N N none N N 0), ⟨[]⟩⟩
def o383 : Obj := ⟨(T "code"), none, (.fields ⟨[(S "is_form_of" 693), (S "is_form_of" 694), (S "/claim/cut.py" 695), (I 119), (I 2), (I 0), (I 0), (I 3), (R 380), (.bool true), (I 181), (R 381), N, N, N, (R 382), (I 696), (I 119), (S "/claim/cut.py" 697)]⟩), ⟨[]⟩⟩
def o384 : Obj := ⟨(T "function"), none, (F (A 39) (u "is_form_of") (u "is_form_of") 3 [] N N N (S "onemember.forms" 662) none (R 383) N 0), ⟨[]⟩⟩
def o385 : Obj := ⟨(T "tuple"), none, (.seq ⟨[]⟩ 0), ⟨[]⟩⟩
def o386 : Obj := ⟨N, none, (.fields ⟨[]⟩), ⟨[]⟩⟩
def o387 : Obj := ⟨(T "tuple"), none, (.seq ⟨[(S "leaves" 702)]⟩ 0), ⟨[]⟩⟩
def o388 : Obj := ⟨(T "tuple"), none, (.seq ⟨[]⟩ 0), ⟨[]⟩⟩
def o389 : Obj := ⟨N, none, (F (A 40) (u "check_leaves") (u "check_leaves") 0 [] N N N N none N N 0), ⟨[]⟩⟩
def o390 : Obj := ⟨(T "code"), none, (.fields ⟨[(S "check_leaves" 699), (S "check_leaves" 700), (S "/claim/cut.py" 701), (I 133), (I 1), (I 0), (I 0), (I 3), (R 385), (.bool true), (I 181), (R 386), N, (R 387), (R 388), (R 389), (I 703), (I 133), (S "/claim/cut.py" 704)]⟩), ⟨[]⟩⟩
def o391 : Obj := ⟨(T "function"), none, (F (A 40) (u "check_leaves") (u "check_leaves") 3 [] N N N (S "onemember.forms" 662) none (R 390) N 0), ⟨[]⟩⟩
def o392 : Obj := ⟨(T "tuple"), none, (.seq ⟨[]⟩ 0), ⟨[]⟩⟩
def o393 : Obj := ⟨N, none, (.fields ⟨[]⟩), ⟨[]⟩⟩
def o394 : Obj := ⟨(T "tuple"), none, (.seq ⟨[(S "depth" 709)]⟩ 0), ⟨[]⟩⟩
def o395 : Obj := ⟨(T "tuple"), none, (.seq ⟨[]⟩ 0), ⟨[]⟩⟩
def o396 : Obj := ⟨N, none, (F (A 41) (u "check_depth") (u "check_depth") 0 [] N N N N none N N 0), ⟨[]⟩⟩
def o397 : Obj := ⟨(T "code"), none, (.fields ⟨[(S "check_depth" 706), (S "check_depth" 707), (S "/claim/cut.py" 708), (I 136), (I 1), (I 0), (I 0), (I 3), (R 392), (.bool true), (I 181), (R 393), N, (R 394), (R 395), (R 396), (I 710), (I 136), (S "/claim/cut.py" 711)]⟩), ⟨[]⟩⟩
def o398 : Obj := ⟨(T "function"), none, (F (A 41) (u "check_depth") (u "check_depth") 3 [] N N N (S "onemember.forms" 662) none (R 397) N 0), ⟨[]⟩⟩
def o399 : Obj := ⟨(T "tuple"), none, (.seq ⟨[]⟩ 0), ⟨[]⟩⟩
def o400 : Obj := ⟨N, none, (.fields ⟨[]⟩), ⟨[]⟩⟩
def o401 : Obj := ⟨(T "tuple"), none, (.seq ⟨[(S "form" 716), (S "sign" 717), (S "left" 718), (S "right" 719)]⟩ 0), ⟨[]⟩⟩
def o402 : Obj := ⟨(T "tuple"), none, (.seq ⟨[]⟩ 0), ⟨[]⟩⟩
def o403 : Obj := ⟨N, none, (F (A 42) (u "form_text") (u "form_text") 0 [] N N N N none N N 0), ⟨[]⟩⟩
def o404 : Obj := ⟨(T "code"), none, (.fields ⟨[(S "form_text" 713), (S "form_text" 714), (S "/claim/cut.py" 715), (I 139), (I 1), (I 0), (I 0), (I 3), (R 399), (.bool true), (I 181), (R 400), N, (R 401), (R 402), (R 403), (I 720), (I 139), (S "/claim/cut.py" 721)]⟩), ⟨[]⟩⟩
def o405 : Obj := ⟨(T "function"), none, (F (A 42) (u "form_text") (u "form_text") 3 [] N N N (S "onemember.forms" 662) none (R 404) N 0), ⟨[]⟩⟩
def o406 : Obj := ⟨(T "tuple"), none, (.seq ⟨[]⟩ 0), ⟨[]⟩⟩
def o407 : Obj := ⟨N, none, (.fields ⟨[]⟩), ⟨[]⟩⟩
def o408 : Obj := ⟨(T "tuple"), none, (.seq ⟨[(S "form" 726)]⟩ 0), ⟨[]⟩⟩
def o409 : Obj := ⟨(T "tuple"), none, (.seq ⟨[]⟩ 0), ⟨[]⟩⟩
def o410 : Obj := ⟨N, none, (F (A 43) (u "side_text") (u "side_text") 0 [] N N N N none N N 0), ⟨[]⟩⟩
def o411 : Obj := ⟨(T "code"), none, (.fields ⟨[(S "side_text" 723), (S "side_text" 724), (S "/claim/cut.py" 725), (I 144), (I 1), (I 0), (I 0), (I 3), (R 406), (.bool true), (I 181), (R 407), N, (R 408), (R 409), (R 410), (I 727), (I 144), (S "/claim/cut.py" 728)]⟩), ⟨[]⟩⟩
def o412 : Obj := ⟨(T "function"), none, (F (A 43) (u "side_text") (u "side_text") 3 [] N N N (S "onemember.forms" 662) none (R 411) N 0), ⟨[]⟩⟩
def o413 : Obj := ⟨(T "tuple"), none, (.seq ⟨[]⟩ 0), ⟨[]⟩⟩
def o414 : Obj := ⟨N, none, (.fields ⟨[]⟩), ⟨[]⟩⟩
def o415 : Obj := ⟨(T "tuple"), none, (.seq ⟨[(S "text" 733), (S "words" 734), (S "opened" 735), (S "word" 736), (S "outermost" 737)]⟩ 0), ⟨[]⟩⟩
def o416 : Obj := ⟨(T "tuple"), none, (.seq ⟨[]⟩ 0), ⟨[]⟩⟩
def o417 : Obj := ⟨N, none, (F (A 44) (u "read_counted") (u "read_counted") 0 [] N N N N none N N 0), ⟨[]⟩⟩
def o418 : Obj := ⟨(T "code"), none, (.fields ⟨[(S "read_counted" 730), (S "read_counted" 731), (S "/claim/cut.py" 732), (I 148), (I 1), (I 0), (I 0), (I 3), (R 413), (.bool true), (I 181), (R 414), N, (R 415), (R 416), (R 417), (I 738), (I 148), (S "/claim/cut.py" 739)]⟩), ⟨[]⟩⟩
def o419 : Obj := ⟨(T "function"), none, (F (A 44) (u "read_counted") (u "read_counted") 3 [] N N N (S "onemember.forms" 662) none (R 418) N 0), ⟨[]⟩⟩
def o420 : Obj := ⟨(T "tuple"), none, (.seq ⟨[]⟩ 0), ⟨[]⟩⟩
def o421 : Obj := ⟨N, none, (.fields ⟨[]⟩), ⟨[]⟩⟩
def o422 : Obj := ⟨(T "tuple"), none, (.seq ⟨[(S "opened" 744), (S "word" 745), (S "innermost" 746)]⟩ 0), ⟨[]⟩⟩
def o423 : Obj := ⟨(T "tuple"), none, (.seq ⟨[]⟩ 0), ⟨[]⟩⟩
def o424 : Obj := ⟨N, none, (F (A 45) (u "take_word") (u "take_word") 0 [] N N N N none N N 0), ⟨[]⟩⟩
def o425 : Obj := ⟨(T "code"), none, (.fields ⟨[(S "take_word" 741), (S "take_word" 742), (S "/claim/cut.py" 743), (I 162), (I 2), (I 0), (I 0), (I 3), (R 420), (.bool true), (I 181), (R 421), N, (R 422), (R 423), (R 424), (I 747), (I 162), (S "/claim/cut.py" 748)]⟩), ⟨[]⟩⟩
def o426 : Obj := ⟨(T "function"), none, (F (A 45) (u "take_word") (u "take_word") 3 [] N N N (S "onemember.forms" 662) none (R 425) N 0), ⟨[]⟩⟩
def o427 : Obj := ⟨(T "tuple"), none, (.seq ⟨[]⟩ 0), ⟨[]⟩⟩
def o428 : Obj := ⟨N, none, (.fields ⟨[]⟩), ⟨[]⟩⟩
def o429 : Obj := ⟨(T "tuple"), none, (.seq ⟨[(S "parts" 753), (S "left" 754), (S "left_leaves" 755), (S "sign" 756), (S "right" 757), (S "right_leaves" 758)]⟩ 0), ⟨[]⟩⟩
def o430 : Obj := ⟨(T "tuple"), none, (.seq ⟨[]⟩ 0), ⟨[]⟩⟩
def o431 : Obj := ⟨N, none, (F (A 46) (u "joined") (u "joined") 0 [] N N N N none N N 0), ⟨[]⟩⟩
def o432 : Obj := ⟨(T "code"), none, (.fields ⟨[(S "joined" 750), (S "joined" 751), (S "/claim/cut.py" 752), (I 176), (I 1), (I 0), (I 0), (I 3), (R 427), (.bool true), (I 181), (R 428), N, (R 429), (R 430), (R 431), (I 759), (I 176), (S "/claim/cut.py" 760)]⟩), ⟨[]⟩⟩
def o433 : Obj := ⟨(T "function"), none, (F (A 46) (u "joined") (u "joined") 3 [] N N N (S "onemember.forms" 662) none (R 432) N 0), ⟨[]⟩⟩
def o434 : Obj := ⟨(T "tuple"), none, (.seq ⟨[]⟩ 0), ⟨[]⟩⟩
def o435 : Obj := ⟨N, none, (.fields ⟨[]⟩), ⟨[]⟩⟩
def o436 : Obj := ⟨(T "tuple"), none, (.seq ⟨[(S "form" 765)]⟩ 0), ⟨[]⟩⟩
def o437 : Obj := ⟨(T "tuple"), none, (.seq ⟨[]⟩ 0), ⟨[]⟩⟩
def o438 : Obj := ⟨N, none, (F (A 47) (u "form_leaves") (u "form_leaves") 0 [] N N N N none N N 0), ⟨[]⟩⟩
def o439 : Obj := ⟨(T "code"), none, (.fields ⟨[(S "form_leaves" 762), (S "form_leaves" 763), (S "/claim/cut.py" 764), (I 179), (I 1), (I 0), (I 0), (I 3), (R 434), (.bool true), (I 181), (R 435), N, (R 436), (R 437), (R 438), (I 766), (I 179), (S "/claim/cut.py" 767)]⟩), ⟨[]⟩⟩
def o440 : Obj := ⟨(T "function"), none, (F (A 47) (u "form_leaves") (u "form_leaves") 3 [] N N N (S "onemember.forms" 662) none (R 439) N 0), ⟨[]⟩⟩
def o441 : Obj := ⟨(T "tuple"), none, (.seq ⟨[]⟩ 0), ⟨[]⟩⟩
def o442 : Obj := ⟨N, none, (.fields ⟨[]⟩), ⟨[]⟩⟩
def o443 : Obj := ⟨N, none, (F (A 48) (u "form_fields") (u "form_fields") 0 [] N N N N none N N 0), ⟨[]⟩⟩
def o444 : Obj := ⟨(T "code"), none, (.fields ⟨[(S "form_fields" 769), (S "form_fields" 770), (S "/claim/cut.py" 771), (I 183), (I 1), (I 0), (I 0), (I 3), (R 441), (.bool true), (I 181), (R 442), N, N, N, (R 443), (I 772), (I 183), (S "/claim/cut.py" 773)]⟩), ⟨[]⟩⟩
def o445 : Obj := ⟨(T "function"), none, (F (A 48) (u "form_fields") (u "form_fields") 3 [] N N N (S "onemember.forms" 662) none (R 444) N 0), ⟨[]⟩⟩
def o446 : Obj := ⟨(T "tuple"), none, (.seq ⟨[]⟩ 0), ⟨[]⟩⟩
def o447 : Obj := ⟨N, none, (.fields ⟨[]⟩), ⟨[]⟩⟩
def o448 : Obj := ⟨(T "tuple"), none, (.seq ⟨[(S "form" 778), (S "table" 779), (S "sign" 780), (S "left" 781), (S "right" 782), (S "one" 783), (S "other" 784)]⟩ 0), ⟨[]⟩⟩
def o449 : Obj := ⟨(T "tuple"), none, (.seq ⟨[]⟩ 0), ⟨[]⟩⟩
def o450 : Obj := ⟨N, none, (F (A 49) (u "form_value") (u "form_value") 0 [] N N N N none N N 0), ⟨[]⟩⟩
def o451 : Obj := ⟨(T "code"), none, (.fields ⟨[(S "form_value" 775), (S "form_value" 776), (S "/claim/cut.py" 777), (I 186), (I 2), (I 0), (I 0), (I 3), (R 446), (.bool true), (I 181), (R 447), N, (R 448), (R 449), (R 450), (I 785), (I 186), (S "/claim/cut.py" 786)]⟩), ⟨[]⟩⟩
def o452 : Obj := ⟨(T "function"), none, (F (A 49) (u "form_value") (u "form_value") 3 [] N N N (S "onemember.forms" 662) none (R 451) N 0), ⟨[]⟩⟩
def o453 : Obj := ⟨(T "tuple"), none, (.seq ⟨[]⟩ 0), ⟨[]⟩⟩
def o454 : Obj := ⟨(T "builtin_function_or_method"), none, (.fields ⟨[(B "type.__prepare__"), (T "type")]⟩), ⟨[]⟩⟩
def o455 (P : Params) : Obj := ⟨(T "dict"), none, (.dict ⟨[E P "__module__" 797 (S "onemember.members" 788), E P "__qualname__" 799 (S "Members" 798), E P "__firstlineno__" 801 (.int 200 800), E P "__init__" 807 (R 464), E P "from_names" 826 (R 473), E P "read" 847 (R 483), E P "names" 855 (R 492), E P "__str__" 862 (R 499), E P "__repr__" 869 (R 506), E P "__len__" 876 (R 513), E P "__iter__" 883 (R 520), E P "__contains__" 891 (R 527), E P "__eq__" 899 (R 534), E P "__or__" 907 (R 541), E P "__and__" 913 (R 546), E P "__sub__" 919 (R 551), E P "__xor__" 927 (R 558), E P "__ior__" 935 (R 565), E P "__iand__" 943 (R 572), E P "__isub__" 951 (R 579), E P "__ixor__" 959 (R 586), E P "__le__" 965 (R 591), E P "__lt__" 973 (R 598), E P "__ge__" 981 (R 605), E P "__gt__" 989 (R 612), E P "__add__" 997 (R 619), E P "__static_attributes__" 1000 (R 620)]⟩ 27), ⟨[]⟩⟩
def o456 : Obj := ⟨(T "tuple"), none, (.seq ⟨[]⟩ 0), ⟨[]⟩⟩
def o457 : Obj := ⟨N, none, (.fields ⟨[(I 202), (I 4), (R 463), (I 210), (I 4), (R 470), (I 216), (I 4), (R 480), (I 228), (I 4), (R 490), (I 231), (I 4), (R 498), (I 234), (I 4), (R 505), (I 237), (I 4), (R 512), (I 240), (I 4), (R 519), (I 243), (I 4), (R 526), (I 246), (I 4), (R 533), (I 249), (I 4), (R 540), (I 253), (I 4), (R 545), (I 257), (I 4), (R 550), (I 261), (I 4), (R 557), (I 264), (I 4), (R 564), (I 267), (I 4), (R 571), (I 270), (I 4), (R 578), (I 273), (I 4), (R 585), (I 276), (I 4), (R 590), (I 280), (I 4), (R 597), (I 283), (I 4), (R 604), (I 287), (I 4), (R 611), (I 291), (I 4), (R 618)]⟩), ⟨[]⟩⟩
def o458 : Obj := ⟨(T "code"), none, (.fields ⟨[(S "Members" 792), (S "Members" 793), (S "/claim/cut.py" 794), (I 200), (I 0), (I 0), (I 0), (I 0), (R 456), (.bool false), (I 181), (R 457), N, N, N, N, (I 795), (I 200), (S "/claim/cut.py" 796)]⟩), ⟨[]⟩⟩
def o459 : Obj := ⟨(T "frame"), none, .plain, ⟨[some (R 458), some (R 3), some (R 455), none, some (S "onemember.members" 788), none, some (R 0)]⟩⟩
def o460 : Obj := ⟨(T "tuple"), none, (.seq ⟨[]⟩ 0), ⟨[]⟩⟩
def o461 : Obj := ⟨N, none, (.fields ⟨[]⟩), ⟨[]⟩⟩
def o462 : Obj := ⟨N, none, (F (C 51 0) (u "__init__") (u "Members.__init__") 0 [] N N N N none N N 0), ⟨[]⟩⟩
def o463 : Obj := ⟨(T "code"), none, (.fields ⟨[(S "__init__" 802), (S "Members.__init__" 803), (S "/claim/cut.py" 804), (I 202), (I 1), (I 0), (I 0), (I 7), (R 460), (.bool true), (I 181), (R 461), N, N, N, (R 462), (I 805), (I 202), (S "/claim/cut.py" 806)]⟩), ⟨[]⟩⟩
def o464 : Obj := ⟨(T "function"), none, (F (C 51 0) (u "__init__") (u "Members.__init__") 3 [] N N N (S "onemember.members" 788) none (R 463) N 0), ⟨[]⟩⟩
def o465 : Obj := ⟨(T "tuple"), none, (.seq ⟨[]⟩ 0), ⟨[]⟩⟩
def o466 : Obj := ⟨N, none, (.fields ⟨[]⟩), ⟨[]⟩⟩
def o467 : Obj := ⟨(T "tuple"), none, (.seq ⟨[(S "names" 811)]⟩ 0), ⟨[]⟩⟩
def o468 : Obj := ⟨(T "tuple"), none, (.seq ⟨[]⟩ 0), ⟨[]⟩⟩
def o469 : Obj := ⟨N, none, (F (C 51 1) (u "from_names") (u "Members.from_names") 0 [] N N N N none N N 0), ⟨[]⟩⟩
def o470 : Obj := ⟨(T "code"), none, (.fields ⟨[(S "from_names" 808), (S "Members.from_names" 809), (S "/claim/cut.py" 810), (I 209), (I 1), (I 0), (I 0), (I 3), (R 465), (.bool true), (I 181), (R 466), N, (R 467), (R 468), (R 469), (I 812), (I 209), (S "/claim/cut.py" 813)]⟩), ⟨[]⟩⟩
def o471 : Obj := ⟨(T "function"), none, (F (C 51 1) (u "from_names") (u "Members.from_names") 3 [] N N N (S "onemember.members" 788) (some 474) (R 470) N 0), ⟨[]⟩⟩
def o472 (P : Params) : Obj := ⟨(T "dict"), none, (.dict ⟨[E P "__module__" 815 (S "onemember.members" 788), E P "__name__" 818 (S "from_names" 817), E P "__qualname__" 821 (S "Members.from_names" 820), E P "__doc__" 823 N, E P "__annotations__" 825 (R 474)]⟩ 5), ⟨[]⟩⟩
def o473 : Obj := ⟨(T "staticmethod"), (some 472), (.fields ⟨[(R 471), (.bool false)]⟩), ⟨[]⟩⟩
def o474 (P : Params) : Obj := ⟨(T "dict"), none, (.dict ⟨[]⟩ 0), ⟨[]⟩⟩
def o475 : Obj := ⟨(T "tuple"), none, (.seq ⟨[]⟩ 0), ⟨[]⟩⟩
def o476 : Obj := ⟨N, none, (.fields ⟨[]⟩), ⟨[]⟩⟩
def o477 : Obj := ⟨(T "tuple"), none, (.seq ⟨[(S "text" 830), (S "names" 831), (S "members" 832)]⟩ 0), ⟨[]⟩⟩
def o478 : Obj := ⟨(T "tuple"), none, (.seq ⟨[]⟩ 0), ⟨[]⟩⟩
def o479 : Obj := ⟨N, none, (F (C 51 2) (u "read") (u "Members.read") 0 [] N N N N none N N 0), ⟨[]⟩⟩
def o480 : Obj := ⟨(T "code"), none, (.fields ⟨[(S "read" 827), (S "Members.read" 828), (S "/claim/cut.py" 829), (I 215), (I 1), (I 0), (I 0), (I 3), (R 475), (.bool true), (I 181), (R 476), N, (R 477), (R 478), (R 479), (I 833), (I 215), (S "/claim/cut.py" 834)]⟩), ⟨[]⟩⟩
def o481 : Obj := ⟨(T "function"), none, (F (C 51 2) (u "read") (u "Members.read") 3 [] N N N (S "onemember.members" 788) (some 484) (R 480) N 0), ⟨[]⟩⟩
def o482 (P : Params) : Obj := ⟨(T "dict"), none, (.dict ⟨[E P "__module__" 836 (S "onemember.members" 788), E P "__name__" 839 (S "read" 838), E P "__qualname__" 842 (S "Members.read" 841), E P "__doc__" 844 N, E P "__annotations__" 846 (R 484)]⟩ 5), ⟨[]⟩⟩
def o483 : Obj := ⟨(T "staticmethod"), (some 482), (.fields ⟨[(R 481), (.bool false)]⟩), ⟨[]⟩⟩
def o484 (P : Params) : Obj := ⟨(T "dict"), none, (.dict ⟨[]⟩ 0), ⟨[]⟩⟩
def o485 : Obj := ⟨(T "tuple"), none, (.seq ⟨[]⟩ 0), ⟨[]⟩⟩
def o486 : Obj := ⟨N, none, (.fields ⟨[]⟩), ⟨[]⟩⟩
def o487 : Obj := ⟨(T "tuple"), none, (.seq ⟨[(S "self" 851)]⟩ 0), ⟨[]⟩⟩
def o488 : Obj := ⟨(T "tuple"), none, (.seq ⟨[]⟩ 0), ⟨[]⟩⟩
def o489 : Obj := ⟨N, none, (F (C 51 3) (u "names") (u "Members.names") 0 [] N N N N none N N 0), ⟨[]⟩⟩
def o490 : Obj := ⟨(T "code"), none, (.fields ⟨[(S "names" 848), (S "Members.names" 849), (S "/claim/cut.py" 850), (I 227), (I 1), (I 0), (I 0), (I 3), (R 485), (.bool true), (I 181), (R 486), N, (R 487), (R 488), (R 489), (I 852), (I 227), (S "/claim/cut.py" 853)]⟩), ⟨[]⟩⟩
def o491 : Obj := ⟨(T "function"), none, (F (C 51 3) (u "names") (u "Members.names") 3 [] N N N (S "onemember.members" 788) none (R 490) N 0), ⟨[]⟩⟩
def o492 : Obj := ⟨(T "property"), none, (.fields ⟨[(R 491), N, N, N, (S "names" 855), (.bool false)]⟩), ⟨[]⟩⟩
def o493 : Obj := ⟨(T "tuple"), none, (.seq ⟨[]⟩ 0), ⟨[]⟩⟩
def o494 : Obj := ⟨N, none, (.fields ⟨[]⟩), ⟨[]⟩⟩
def o495 : Obj := ⟨(T "tuple"), none, (.seq ⟨[(S "self" 859)]⟩ 0), ⟨[]⟩⟩
def o496 : Obj := ⟨(T "tuple"), none, (.seq ⟨[]⟩ 0), ⟨[]⟩⟩
def o497 : Obj := ⟨N, none, (F (C 51 4) (u "__str__") (u "Members.__str__") 0 [] N N N N none N N 0), ⟨[]⟩⟩
def o498 : Obj := ⟨(T "code"), none, (.fields ⟨[(S "__str__" 856), (S "Members.__str__" 857), (S "/claim/cut.py" 858), (I 231), (I 1), (I 0), (I 0), (I 3), (R 493), (.bool true), (I 181), (R 494), N, (R 495), (R 496), (R 497), (I 860), (I 231), (S "/claim/cut.py" 861)]⟩), ⟨[]⟩⟩
def o499 : Obj := ⟨(T "function"), none, (F (C 51 4) (u "__str__") (u "Members.__str__") 3 [] N N N (S "onemember.members" 788) none (R 498) N 0), ⟨[]⟩⟩
def o500 : Obj := ⟨(T "tuple"), none, (.seq ⟨[]⟩ 0), ⟨[]⟩⟩
def o501 : Obj := ⟨N, none, (.fields ⟨[]⟩), ⟨[]⟩⟩
def o502 : Obj := ⟨(T "tuple"), none, (.seq ⟨[(S "self" 866)]⟩ 0), ⟨[]⟩⟩
def o503 : Obj := ⟨(T "tuple"), none, (.seq ⟨[]⟩ 0), ⟨[]⟩⟩
def o504 : Obj := ⟨N, none, (F (C 51 5) (u "__repr__") (u "Members.__repr__") 0 [] N N N N none N N 0), ⟨[]⟩⟩
def o505 : Obj := ⟨(T "code"), none, (.fields ⟨[(S "__repr__" 863), (S "Members.__repr__" 864), (S "/claim/cut.py" 865), (I 234), (I 1), (I 0), (I 0), (I 3), (R 500), (.bool true), (I 181), (R 501), N, (R 502), (R 503), (R 504), (I 867), (I 234), (S "/claim/cut.py" 868)]⟩), ⟨[]⟩⟩
def o506 : Obj := ⟨(T "function"), none, (F (C 51 5) (u "__repr__") (u "Members.__repr__") 3 [] N N N (S "onemember.members" 788) none (R 505) N 0), ⟨[]⟩⟩
def o507 : Obj := ⟨(T "tuple"), none, (.seq ⟨[]⟩ 0), ⟨[]⟩⟩
def o508 : Obj := ⟨N, none, (.fields ⟨[]⟩), ⟨[]⟩⟩
def o509 : Obj := ⟨(T "tuple"), none, (.seq ⟨[(S "self" 873)]⟩ 0), ⟨[]⟩⟩
def o510 : Obj := ⟨(T "tuple"), none, (.seq ⟨[]⟩ 0), ⟨[]⟩⟩
def o511 : Obj := ⟨N, none, (F (C 51 6) (u "__len__") (u "Members.__len__") 0 [] N N N N none N N 0), ⟨[]⟩⟩
def o512 : Obj := ⟨(T "code"), none, (.fields ⟨[(S "__len__" 870), (S "Members.__len__" 871), (S "/claim/cut.py" 872), (I 237), (I 1), (I 0), (I 0), (I 3), (R 507), (.bool true), (I 181), (R 508), N, (R 509), (R 510), (R 511), (I 874), (I 237), (S "/claim/cut.py" 875)]⟩), ⟨[]⟩⟩
def o513 : Obj := ⟨(T "function"), none, (F (C 51 6) (u "__len__") (u "Members.__len__") 3 [] N N N (S "onemember.members" 788) none (R 512) N 0), ⟨[]⟩⟩
def o514 : Obj := ⟨(T "tuple"), none, (.seq ⟨[]⟩ 0), ⟨[]⟩⟩
def o515 : Obj := ⟨N, none, (.fields ⟨[]⟩), ⟨[]⟩⟩
def o516 : Obj := ⟨(T "tuple"), none, (.seq ⟨[(S "self" 880)]⟩ 0), ⟨[]⟩⟩
def o517 : Obj := ⟨(T "tuple"), none, (.seq ⟨[]⟩ 0), ⟨[]⟩⟩
def o518 : Obj := ⟨N, none, (F (C 51 7) (u "__iter__") (u "Members.__iter__") 0 [] N N N N none N N 0), ⟨[]⟩⟩
def o519 : Obj := ⟨(T "code"), none, (.fields ⟨[(S "__iter__" 877), (S "Members.__iter__" 878), (S "/claim/cut.py" 879), (I 240), (I 1), (I 0), (I 0), (I 3), (R 514), (.bool true), (I 181), (R 515), N, (R 516), (R 517), (R 518), (I 881), (I 240), (S "/claim/cut.py" 882)]⟩), ⟨[]⟩⟩
def o520 : Obj := ⟨(T "function"), none, (F (C 51 7) (u "__iter__") (u "Members.__iter__") 3 [] N N N (S "onemember.members" 788) none (R 519) N 0), ⟨[]⟩⟩
def o521 : Obj := ⟨(T "tuple"), none, (.seq ⟨[]⟩ 0), ⟨[]⟩⟩
def o522 : Obj := ⟨N, none, (.fields ⟨[]⟩), ⟨[]⟩⟩
def o523 : Obj := ⟨(T "tuple"), none, (.seq ⟨[(S "self" 887), (S "value" 888)]⟩ 0), ⟨[]⟩⟩
def o524 : Obj := ⟨(T "tuple"), none, (.seq ⟨[]⟩ 0), ⟨[]⟩⟩
def o525 : Obj := ⟨N, none, (F (C 51 8) (u "__contains__") (u "Members.__contains__") 0 [] N N N N none N N 0), ⟨[]⟩⟩
def o526 : Obj := ⟨(T "code"), none, (.fields ⟨[(S "__contains__" 884), (S "Members.__contains__" 885), (S "/claim/cut.py" 886), (I 243), (I 2), (I 0), (I 0), (I 3), (R 521), (.bool true), (I 181), (R 522), N, (R 523), (R 524), (R 525), (I 889), (I 243), (S "/claim/cut.py" 890)]⟩), ⟨[]⟩⟩
def o527 : Obj := ⟨(T "function"), none, (F (C 51 8) (u "__contains__") (u "Members.__contains__") 3 [] N N N (S "onemember.members" 788) none (R 526) N 0), ⟨[]⟩⟩
def o528 : Obj := ⟨(T "tuple"), none, (.seq ⟨[]⟩ 0), ⟨[]⟩⟩
def o529 : Obj := ⟨N, none, (.fields ⟨[]⟩), ⟨[]⟩⟩
def o530 : Obj := ⟨(T "tuple"), none, (.seq ⟨[(S "self" 895), (S "other" 896)]⟩ 0), ⟨[]⟩⟩
def o531 : Obj := ⟨(T "tuple"), none, (.seq ⟨[]⟩ 0), ⟨[]⟩⟩
def o532 : Obj := ⟨N, none, (F (C 51 9) (u "__eq__") (u "Members.__eq__") 0 [] N N N N none N N 0), ⟨[]⟩⟩
def o533 : Obj := ⟨(T "code"), none, (.fields ⟨[(S "__eq__" 892), (S "Members.__eq__" 893), (S "/claim/cut.py" 894), (I 246), (I 2), (I 0), (I 0), (I 3), (R 528), (.bool true), (I 181), (R 529), N, (R 530), (R 531), (R 532), (I 897), (I 246), (S "/claim/cut.py" 898)]⟩), ⟨[]⟩⟩
def o534 : Obj := ⟨(T "function"), none, (F (C 51 9) (u "__eq__") (u "Members.__eq__") 3 [] N N N (S "onemember.members" 788) none (R 533) N 0), ⟨[]⟩⟩
def o535 : Obj := ⟨(T "tuple"), none, (.seq ⟨[]⟩ 0), ⟨[]⟩⟩
def o536 : Obj := ⟨N, none, (.fields ⟨[]⟩), ⟨[]⟩⟩
def o537 : Obj := ⟨(T "tuple"), none, (.seq ⟨[(S "self" 903), (S "other" 904)]⟩ 0), ⟨[]⟩⟩
def o538 : Obj := ⟨(T "tuple"), none, (.seq ⟨[]⟩ 0), ⟨[]⟩⟩
def o539 : Obj := ⟨N, none, (F (C 51 10) (u "__or__") (u "Members.__or__") 0 [] N N N N none N N 0), ⟨[]⟩⟩
def o540 : Obj := ⟨(T "code"), none, (.fields ⟨[(S "__or__" 900), (S "Members.__or__" 901), (S "/claim/cut.py" 902), (I 249), (I 2), (I 0), (I 0), (I 3), (R 535), (.bool true), (I 181), (R 536), N, (R 537), (R 538), (R 539), (I 905), (I 249), (S "/claim/cut.py" 906)]⟩), ⟨[]⟩⟩
def o541 : Obj := ⟨(T "function"), none, (F (C 51 10) (u "__or__") (u "Members.__or__") 3 [] N N N (S "onemember.members" 788) none (R 540) N 0), ⟨[]⟩⟩
def o542 : Obj := ⟨(T "tuple"), none, (.seq ⟨[]⟩ 0), ⟨[]⟩⟩
def o543 : Obj := ⟨N, none, (.fields ⟨[]⟩), ⟨[]⟩⟩
def o544 : Obj := ⟨N, none, (F (C 51 11) (u "__and__") (u "Members.__and__") 0 [] N N N N none N N 0), ⟨[]⟩⟩
def o545 : Obj := ⟨(T "code"), none, (.fields ⟨[(S "__and__" 908), (S "Members.__and__" 909), (S "/claim/cut.py" 910), (I 253), (I 2), (I 0), (I 0), (I 3), (R 542), (.bool true), (I 181), (R 543), N, N, N, (R 544), (I 911), (I 253), (S "/claim/cut.py" 912)]⟩), ⟨[]⟩⟩
def o546 : Obj := ⟨(T "function"), none, (F (C 51 11) (u "__and__") (u "Members.__and__") 3 [] N N N (S "onemember.members" 788) none (R 545) N 0), ⟨[]⟩⟩
def o547 : Obj := ⟨(T "tuple"), none, (.seq ⟨[]⟩ 0), ⟨[]⟩⟩
def o548 : Obj := ⟨N, none, (.fields ⟨[]⟩), ⟨[]⟩⟩
def o549 : Obj := ⟨N, none, (F (C 51 12) (u "__sub__") (u "Members.__sub__") 0 [] N N N N none N N 0), ⟨[]⟩⟩
def o550 : Obj := ⟨(T "code"), none, (.fields ⟨[(S "__sub__" 914), (S "Members.__sub__" 915), (S "/claim/cut.py" 916), (I 257), (I 2), (I 0), (I 0), (I 3), (R 547), (.bool true), (I 181), (R 548), N, N, N, (R 549), (I 917), (I 257), (S "/claim/cut.py" 918)]⟩), ⟨[]⟩⟩
def o551 : Obj := ⟨(T "function"), none, (F (C 51 12) (u "__sub__") (u "Members.__sub__") 3 [] N N N (S "onemember.members" 788) none (R 550) N 0), ⟨[]⟩⟩
def o552 : Obj := ⟨(T "tuple"), none, (.seq ⟨[]⟩ 0), ⟨[]⟩⟩
def o553 : Obj := ⟨N, none, (.fields ⟨[]⟩), ⟨[]⟩⟩
def o554 : Obj := ⟨(T "tuple"), none, (.seq ⟨[(S "self" 923), (S "other" 924)]⟩ 0), ⟨[]⟩⟩
def o555 : Obj := ⟨(T "tuple"), none, (.seq ⟨[]⟩ 0), ⟨[]⟩⟩
def o556 : Obj := ⟨N, none, (F (C 51 13) (u "__xor__") (u "Members.__xor__") 0 [] N N N N none N N 0), ⟨[]⟩⟩
def o557 : Obj := ⟨(T "code"), none, (.fields ⟨[(S "__xor__" 920), (S "Members.__xor__" 921), (S "/claim/cut.py" 922), (I 261), (I 2), (I 0), (I 0), (I 3), (R 552), (.bool true), (I 181), (R 553), N, (R 554), (R 555), (R 556), (I 925), (I 261), (S "/claim/cut.py" 926)]⟩), ⟨[]⟩⟩
def o558 : Obj := ⟨(T "function"), none, (F (C 51 13) (u "__xor__") (u "Members.__xor__") 3 [] N N N (S "onemember.members" 788) none (R 557) N 0), ⟨[]⟩⟩
def o559 : Obj := ⟨(T "tuple"), none, (.seq ⟨[]⟩ 0), ⟨[]⟩⟩
def o560 : Obj := ⟨N, none, (.fields ⟨[]⟩), ⟨[]⟩⟩
def o561 : Obj := ⟨(T "tuple"), none, (.seq ⟨[(S "self" 931), (S "other" 932)]⟩ 0), ⟨[]⟩⟩
def o562 : Obj := ⟨(T "tuple"), none, (.seq ⟨[]⟩ 0), ⟨[]⟩⟩
def o563 : Obj := ⟨N, none, (F (C 51 14) (u "__ior__") (u "Members.__ior__") 0 [] N N N N none N N 0), ⟨[]⟩⟩
def o564 : Obj := ⟨(T "code"), none, (.fields ⟨[(S "__ior__" 928), (S "Members.__ior__" 929), (S "/claim/cut.py" 930), (I 264), (I 2), (I 0), (I 0), (I 3), (R 559), (.bool true), (I 181), (R 560), N, (R 561), (R 562), (R 563), (I 933), (I 264), (S "/claim/cut.py" 934)]⟩), ⟨[]⟩⟩
def o565 : Obj := ⟨(T "function"), none, (F (C 51 14) (u "__ior__") (u "Members.__ior__") 3 [] N N N (S "onemember.members" 788) none (R 564) N 0), ⟨[]⟩⟩
def o566 : Obj := ⟨(T "tuple"), none, (.seq ⟨[]⟩ 0), ⟨[]⟩⟩
def o567 : Obj := ⟨N, none, (.fields ⟨[]⟩), ⟨[]⟩⟩
def o568 : Obj := ⟨(T "tuple"), none, (.seq ⟨[(S "self" 939), (S "other" 940)]⟩ 0), ⟨[]⟩⟩
def o569 : Obj := ⟨(T "tuple"), none, (.seq ⟨[]⟩ 0), ⟨[]⟩⟩
def o570 : Obj := ⟨N, none, (F (C 51 15) (u "__iand__") (u "Members.__iand__") 0 [] N N N N none N N 0), ⟨[]⟩⟩
def o571 : Obj := ⟨(T "code"), none, (.fields ⟨[(S "__iand__" 936), (S "Members.__iand__" 937), (S "/claim/cut.py" 938), (I 267), (I 2), (I 0), (I 0), (I 3), (R 566), (.bool true), (I 181), (R 567), N, (R 568), (R 569), (R 570), (I 941), (I 267), (S "/claim/cut.py" 942)]⟩), ⟨[]⟩⟩
def o572 : Obj := ⟨(T "function"), none, (F (C 51 15) (u "__iand__") (u "Members.__iand__") 3 [] N N N (S "onemember.members" 788) none (R 571) N 0), ⟨[]⟩⟩
def o573 : Obj := ⟨(T "tuple"), none, (.seq ⟨[]⟩ 0), ⟨[]⟩⟩
def o574 : Obj := ⟨N, none, (.fields ⟨[]⟩), ⟨[]⟩⟩
def o575 : Obj := ⟨(T "tuple"), none, (.seq ⟨[(S "self" 947), (S "other" 948)]⟩ 0), ⟨[]⟩⟩
def o576 : Obj := ⟨(T "tuple"), none, (.seq ⟨[]⟩ 0), ⟨[]⟩⟩
def o577 : Obj := ⟨N, none, (F (C 51 16) (u "__isub__") (u "Members.__isub__") 0 [] N N N N none N N 0), ⟨[]⟩⟩
def o578 : Obj := ⟨(T "code"), none, (.fields ⟨[(S "__isub__" 944), (S "Members.__isub__" 945), (S "/claim/cut.py" 946), (I 270), (I 2), (I 0), (I 0), (I 3), (R 573), (.bool true), (I 181), (R 574), N, (R 575), (R 576), (R 577), (I 949), (I 270), (S "/claim/cut.py" 950)]⟩), ⟨[]⟩⟩
def o579 : Obj := ⟨(T "function"), none, (F (C 51 16) (u "__isub__") (u "Members.__isub__") 3 [] N N N (S "onemember.members" 788) none (R 578) N 0), ⟨[]⟩⟩
def o580 : Obj := ⟨(T "tuple"), none, (.seq ⟨[]⟩ 0), ⟨[]⟩⟩
def o581 : Obj := ⟨N, none, (.fields ⟨[]⟩), ⟨[]⟩⟩
def o582 : Obj := ⟨(T "tuple"), none, (.seq ⟨[(S "self" 955), (S "other" 956)]⟩ 0), ⟨[]⟩⟩
def o583 : Obj := ⟨(T "tuple"), none, (.seq ⟨[]⟩ 0), ⟨[]⟩⟩
def o584 : Obj := ⟨N, none, (F (C 51 17) (u "__ixor__") (u "Members.__ixor__") 0 [] N N N N none N N 0), ⟨[]⟩⟩
def o585 : Obj := ⟨(T "code"), none, (.fields ⟨[(S "__ixor__" 952), (S "Members.__ixor__" 953), (S "/claim/cut.py" 954), (I 273), (I 2), (I 0), (I 0), (I 3), (R 580), (.bool true), (I 181), (R 581), N, (R 582), (R 583), (R 584), (I 957), (I 273), (S "/claim/cut.py" 958)]⟩), ⟨[]⟩⟩
def o586 : Obj := ⟨(T "function"), none, (F (C 51 17) (u "__ixor__") (u "Members.__ixor__") 3 [] N N N (S "onemember.members" 788) none (R 585) N 0), ⟨[]⟩⟩
def o587 : Obj := ⟨(T "tuple"), none, (.seq ⟨[]⟩ 0), ⟨[]⟩⟩
def o588 : Obj := ⟨N, none, (.fields ⟨[]⟩), ⟨[]⟩⟩
def o589 : Obj := ⟨N, none, (F (C 51 18) (u "__le__") (u "Members.__le__") 0 [] N N N N none N N 0), ⟨[]⟩⟩
def o590 : Obj := ⟨(T "code"), none, (.fields ⟨[(S "__le__" 960), (S "Members.__le__" 961), (S "/claim/cut.py" 962), (I 276), (I 2), (I 0), (I 0), (I 3), (R 587), (.bool true), (I 181), (R 588), N, N, N, (R 589), (I 963), (I 276), (S "/claim/cut.py" 964)]⟩), ⟨[]⟩⟩
def o591 : Obj := ⟨(T "function"), none, (F (C 51 18) (u "__le__") (u "Members.__le__") 3 [] N N N (S "onemember.members" 788) none (R 590) N 0), ⟨[]⟩⟩
def o592 : Obj := ⟨(T "tuple"), none, (.seq ⟨[]⟩ 0), ⟨[]⟩⟩
def o593 : Obj := ⟨N, none, (.fields ⟨[]⟩), ⟨[]⟩⟩
def o594 : Obj := ⟨(T "tuple"), none, (.seq ⟨[(S "self" 969), (S "other" 970)]⟩ 0), ⟨[]⟩⟩
def o595 : Obj := ⟨(T "tuple"), none, (.seq ⟨[]⟩ 0), ⟨[]⟩⟩
def o596 : Obj := ⟨N, none, (F (C 51 19) (u "__lt__") (u "Members.__lt__") 0 [] N N N N none N N 0), ⟨[]⟩⟩
def o597 : Obj := ⟨(T "code"), none, (.fields ⟨[(S "__lt__" 966), (S "Members.__lt__" 967), (S "/claim/cut.py" 968), (I 280), (I 2), (I 0), (I 0), (I 3), (R 592), (.bool true), (I 181), (R 593), N, (R 594), (R 595), (R 596), (I 971), (I 280), (S "/claim/cut.py" 972)]⟩), ⟨[]⟩⟩
def o598 : Obj := ⟨(T "function"), none, (F (C 51 19) (u "__lt__") (u "Members.__lt__") 3 [] N N N (S "onemember.members" 788) none (R 597) N 0), ⟨[]⟩⟩
def o599 : Obj := ⟨(T "tuple"), none, (.seq ⟨[]⟩ 0), ⟨[]⟩⟩
def o600 : Obj := ⟨N, none, (.fields ⟨[]⟩), ⟨[]⟩⟩
def o601 : Obj := ⟨(T "tuple"), none, (.seq ⟨[(S "self" 977), (S "other" 978)]⟩ 0), ⟨[]⟩⟩
def o602 : Obj := ⟨(T "tuple"), none, (.seq ⟨[]⟩ 0), ⟨[]⟩⟩
def o603 : Obj := ⟨N, none, (F (C 51 20) (u "__ge__") (u "Members.__ge__") 0 [] N N N N none N N 0), ⟨[]⟩⟩
def o604 : Obj := ⟨(T "code"), none, (.fields ⟨[(S "__ge__" 974), (S "Members.__ge__" 975), (S "/claim/cut.py" 976), (I 283), (I 2), (I 0), (I 0), (I 3), (R 599), (.bool true), (I 181), (R 600), N, (R 601), (R 602), (R 603), (I 979), (I 283), (S "/claim/cut.py" 980)]⟩), ⟨[]⟩⟩
def o605 : Obj := ⟨(T "function"), none, (F (C 51 20) (u "__ge__") (u "Members.__ge__") 3 [] N N N (S "onemember.members" 788) none (R 604) N 0), ⟨[]⟩⟩
def o606 : Obj := ⟨(T "tuple"), none, (.seq ⟨[]⟩ 0), ⟨[]⟩⟩
def o607 : Obj := ⟨N, none, (.fields ⟨[]⟩), ⟨[]⟩⟩
def o608 : Obj := ⟨(T "tuple"), none, (.seq ⟨[(S "self" 985), (S "other" 986)]⟩ 0), ⟨[]⟩⟩
def o609 : Obj := ⟨(T "tuple"), none, (.seq ⟨[]⟩ 0), ⟨[]⟩⟩
def o610 : Obj := ⟨N, none, (F (C 51 21) (u "__gt__") (u "Members.__gt__") 0 [] N N N N none N N 0), ⟨[]⟩⟩
def o611 : Obj := ⟨(T "code"), none, (.fields ⟨[(S "__gt__" 982), (S "Members.__gt__" 983), (S "/claim/cut.py" 984), (I 287), (I 2), (I 0), (I 0), (I 3), (R 606), (.bool true), (I 181), (R 607), N, (R 608), (R 609), (R 610), (I 987), (I 287), (S "/claim/cut.py" 988)]⟩), ⟨[]⟩⟩
def o612 : Obj := ⟨(T "function"), none, (F (C 51 21) (u "__gt__") (u "Members.__gt__") 3 [] N N N (S "onemember.members" 788) none (R 611) N 0), ⟨[]⟩⟩
def o613 : Obj := ⟨(T "tuple"), none, (.seq ⟨[]⟩ 0), ⟨[]⟩⟩
def o614 : Obj := ⟨N, none, (.fields ⟨[]⟩), ⟨[]⟩⟩
def o615 : Obj := ⟨(T "tuple"), none, (.seq ⟨[(S "self" 993), (S "other" 994)]⟩ 0), ⟨[]⟩⟩
def o616 : Obj := ⟨(T "tuple"), none, (.seq ⟨[]⟩ 0), ⟨[]⟩⟩
def o617 : Obj := ⟨N, none, (F (C 51 22) (u "__add__") (u "Members.__add__") 0 [] N N N N none N N 0), ⟨[]⟩⟩
def o618 : Obj := ⟨(T "code"), none, (.fields ⟨[(S "__add__" 990), (S "Members.__add__" 991), (S "/claim/cut.py" 992), (I 291), (I 2), (I 0), (I 0), (I 3), (R 613), (.bool true), (I 181), (R 614), N, (R 615), (R 616), (R 617), (I 995), (I 291), (S "/claim/cut.py" 996)]⟩), ⟨[]⟩⟩
def o619 : Obj := ⟨(T "function"), none, (F (C 51 22) (u "__add__") (u "Members.__add__") 3 [] N N N (S "onemember.members" 788) none (R 618) N 0), ⟨[]⟩⟩
def o620 : Obj := ⟨(T "tuple"), none, (.seq ⟨[(S "_names" 998), (S "_table" 999)]⟩ 0), ⟨[]⟩⟩
def o621 (P : Params) : Obj := ⟨(T "dict"), none, (.dict ⟨[E P "__module__" 797 (S "onemember.members" 788), E P "__firstlineno__" 801 (.int 200 800), E P "__init__" 807 (R 464), E P "from_names" 826 (R 473), E P "read" 847 (R 483), E P "names" 855 (R 492), E P "__str__" 862 (R 499), E P "__repr__" 869 (R 506), E P "__len__" 876 (R 513), E P "__iter__" 883 (R 520), E P "__contains__" 891 (R 527), E P "__eq__" 899 (R 534), E P "__or__" 907 (R 541), E P "__and__" 913 (R 546), E P "__sub__" 919 (R 551), E P "__xor__" 927 (R 558), E P "__ior__" 935 (R 565), E P "__iand__" 943 (R 572), E P "__isub__" 951 (R 579), E P "__ixor__" 959 (R 586), E P "__le__" 965 (R 591), E P "__lt__" 973 (R 598), E P "__ge__" 981 (R 605), E P "__gt__" 989 (R 612), E P "__add__" 997 (R 619), E P "__static_attributes__" 1000 (R 620), E P "__dict__" 1002 (R 623), E P "__weakref__" 1004 (R 624), E P "__doc__" 1005 N, E P "__hash__" 1006 N]⟩ 5), ⟨[]⟩⟩
def o622 : Obj := ⟨(T "type"), none, (.cls ⟨(u "Members"), [(T "object")], [(R 622), (T "object")], 621, (u "Members"), true, [], [], false, none, false⟩), ⟨[none, none, some (S "Members" 790), some (S "Members" 798), some (B "object.__new__"), some (.bool true)]⟩⟩
def o623 : Obj := ⟨(T "getset_descriptor"), none, (.fields ⟨[(S "__dict__" 1001), (R 622), (B "function.__dict__"), (B "function.__dict__#set")]⟩), ⟨[]⟩⟩
def o624 : Obj := ⟨(T "getset_descriptor"), none, (.fields ⟨[(S "__weakref__" 1003), (R 622), (B "ExceptionGroup.__weakref__"), N]⟩), ⟨[]⟩⟩
def o625 : Obj := ⟨(T "super"), none, (.fields ⟨[(R 622), (R 622), (R 622)]⟩), ⟨[]⟩⟩
def o626 : Obj := ⟨(T "builtin_function_or_method"), none, (.fields ⟨[(B "object.__init_subclass__"), (R 622)]⟩), ⟨[]⟩⟩
def t2 (P : Params) : BT := (n (boot_o_0 P) (n (boot_o_1 P) (n (o3_2 P) (n (boot_o_7 P) (n o15 (n o31_2 (n (o63 P) (n o127 (n o255 (n o511 z z) z) (n o383 z z)) (n o191 (n o319 (n o575 z z) z) (n o447 z z))) (n (o95 P) (n o159 (n o287 (n o543 z z) z) (n o415 z z)) (n o223 (n o351 (n o607 z z) z) (n o479 z z)))) (n o47 (n o79 (n o143 (n o271 (n o527 z z) z) (n o399 z z)) (n o207 (n (o335 P) (n o591 z z) z) (n o463 z z))) (n o111 (n o175 (n (o303 P) (n o559 z z) z) (n o431 z z)) (n o239 (n o367 (n o623 z z) z) (n o495 z z))))) (n o23 (n o39 (n o71 (n o135 (n o263 (n o519 z z) z) (n o391 z z)) (n o199 (n o327 (n o583 z z) z) (n (o455 P) z z))) (n o103 (n o167 (n o295 (n o551 z z) z) (n o423 z z)) (n o231 (n o359 (n o615 z z) z) (n o487 z z)))) (n o55 (n o87 (n o151 (n o279 (n o535 z z) z) (n o407 z z)) (n (o215 P) (n o343 (n o599 z z) z) (n o471 z z))) (n o119 (n o183 (n o311 (n o567 z z) z) (n o439 z z)) (n (o247 P) (n o375 z z) (n o503 z z)))))) (n o11 (n o19 (n o35 (n o67 (n o131 (n o259 (n o515 z z) z) (n o387 z z)) (n o195 (n o323 (n o579 z z) z) (n o451 z z))) (n o99 (n o163 (n (o291 P) (n o547 z z) z) (n o419 z z)) (n o227 (n o355 (n o611 z z) z) (n o483 z z)))) (n o51 (n o83 (n o147 (n o275 (n o531 z z) z) (n o403 z z)) (n o211 (n o339 (n o595 z z) z) (n o467 z z))) (n o115 (n o179 (n o307 (n o563 z z) z) (n o435 z z)) (n o243 (n o371 z z) (n o499 z z))))) (n o27 (n (o43 P) (n o75 (n (o139 P) (n o267 (n o523 z z) z) (n o395 z z)) (n o203 (n o331 (n o587 z z) z) (n o459 z z))) (n o107 (n (o171 P) (n o299 (n o555 z z) z) (n o427 z z)) (n o235 (n o363 (n o619 z z) z) (n o491 z z)))) (n o59 (n o91 (n o155 (n o283 (n o539 z z) z) (n o411 z z)) (n o219 (n o347 (n o603 z z) z) (n o475 z z))) (n o123 (n o187 (n o315 (n o571 z z) z) (n o443 z z)) (n o251 (n o379 z z) (n o507 z z))))))) (n (boot_o_5 P) (n (boot_o_9 P) (n o17 (n o33 (n o65 (n o129 (n o257 (n o513 z z) z) (n o385 z z)) (n o193 (n o321 (n o577 z z) z) (n o449 z z))) (n o97 (n o161 (n o289 (n o545 z z) z) (n o417 z z)) (n o225 (n o353 (n o609 z z) z) (n o481 z z)))) (n o49 (n o81 (n o145 (n o273 (n o529 z z) z) (n o401 z z)) (n (o209 P) (n o337 (n o593 z z) z) (n o465 z z))) (n o113 (n (o177 P) (n o305 (n o561 z z) z) (n o433 z z)) (n o241 (n o369 (n o625 z z) z) (n o497 z z))))) (n o25 (n o41 (n o73 (n o137 (n o265 (n o521 z z) z) (n o393 z z)) (n o201 (n o329 (n o585 z z) z) (n o457 z z))) (n o105 (n o169 (n (o297 P) (n o553 z z) z) (n o425 z z)) (n o233 (n o361 (n o617 z z) z) (n o489 z z)))) (n o57_2 (n o89 (n o153 (n o281 (n o537 z z) z) (n o409 z z)) (n o217 (n o345 (n o601 z z) z) (n o473 z z))) (n o121 (n o185 (n o313 (n o569 z z) z) (n o441 z z)) (n o249 (n o377 z z) (n o505 z z)))))) (n o13 (n o21 (n (o37 P) (n o69 (n (o133 P) (n o261 (n o517 z z) z) (n o389 z z)) (n o197 (n o325 (n o581 z z) z) (n o453 z z))) (n (o101 P) (n o165 (n o293 (n o549 z z) z) (n o421 z z)) (n o229 (n o357 (n o613 z z) z) (n o485 z z)))) (n o53 (n o85 (n o149 (n o277 (n o533 z z) z) (n o405 z z)) (n o213 (n o341 (n o597 z z) z) (n o469 z z))) (n o117 (n o181 (n o309 (n o565 z z) z) (n o437 z z)) (n o245 (n o373 z z) (n o501 z z))))) (n o29 (n o45 (n o77 (n o141 (n o269 (n o525 z z) z) (n o397 z z)) (n o205 (n o333 (n o589 z z) z) (n o461 z z))) (n o109 (n o173 (n o301 (n o557 z z) z) (n o429 z z)) (n o237 (n o365 (n (o621 P) z z) z) (n o493 z z)))) (n o61 (n o93 (n o157 (n (o285 P) (n o541 z z) z) (n o413 z z)) (n o221 (n o349 (n o605 z z) z) (n o477 z z))) (n o125 (n o189 (n o317 (n o573 z z) z) (n o445 z z)) (n (o253 P) (n o381 z z) (n o509 z z)))))))) (n (o2_1 P) (n (boot_o_4 P) (n (boot_o_8 P) (n o16 (n o32 (n o64 (n o128 (n o256 (n o512 z z) z) (n o384 z z)) (n o192 (n o320 (n o576 z z) z) (n o448 z z))) (n o96 (n o160 (n o288 (n o544 z z) z) (n o416 z z)) (n o224 (n o352 (n o608 z z) z) (n o480 z z)))) (n o48 (n o80 (n o144 (n (o272 P) (n o528 z z) z) (n o400 z z)) (n o208 (n o336 (n o592 z z) z) (n o464 z z))) (n o112 (n o176 (n o304 (n o560 z z) z) (n o432 z z)) (n o240 (n o368 (n o624 z z) z) (n o496 z z))))) (n (o24 P) (n o40 (n o72 (n o136 (n o264 (n o520 z z) z) (n o392 z z)) (n o200 (n o328 (n o584 z z) z) (n o456 z z))) (n o104 (n o168 (n o296 (n o552 z z) z) (n o424 z z)) (n o232 (n o360 (n o616 z z) z) (n o488 z z)))) (n (o56 P) (n o88 (n (o152 P) (n o280 (n o536 z z) z) (n o408 z z)) (n o216 (n o344 (n o600 z z) z) (n (o472 P) z z))) (n (o120 P) (n o184 (n o312 (n o568 z z) z) (n o440 z z)) (n o248 (n o376 z z) (n o504 z z)))))) (n o12_2 (n o20 (n o36 (n o68 (n o132 (n o260 (n o516 z z) z) (n o388 z z)) (n (o196 P) (n o324 (n o580 z z) z) (n o452 z z))) (n o100 (n o164 (n o292 (n o548 z z) z) (n o420 z z)) (n (o228 P) (n o356 (n o612 z z) z) (n (o484 P) z z)))) (n o52 (n o84 (n o148 (n o276 (n o532 z z) z) (n o404 z z)) (n o212 (n o340 (n o596 z z) z) (n o468 z z))) (n o116 (n o180 (n o308 (n o564 z z) z) (n o436 z z)) (n o244 (n o372 z z) (n o500 z z))))) (n o28 (n o44_2 (n (o76 P) (n o140 (n o268 (n o524 z z) z) (n o396 z z)) (n o204 (n o332 (n o588 z z) z) (n o460 z z))) (n o108 (n o172 (n o300 (n o556 z z) z) (n o428 z z)) (n o236 (n o364 (n o620 z z) z) (n o492 z z)))) (n o60 (n o92 (n o156 (n o284 (n o540 z z) z) (n o412 z z)) (n o220 (n o348 (n o604 z z) z) (n o476 z z))) (n o124 (n o188 (n (o316 P) (n o572 z z) z) (n o444 z z)) (n o252 (n o380 z z) (n o508 z z))))))) (n (boot_o_6 P) (n (boot_o_10 P) (n o18 (n o34 (n o66 (n o130 (n o258 (n o514 z z) z) (n o386 z z)) (n o194 (n (o322 P) (n o578 z z) z) (n o450 z z))) (n o98 (n o162 (n o290 (n o546 z z) z) (n o418 z z)) (n o226 (n o354 (n o610 z z) z) (n (o482 P) z z)))) (n (o50 P) (n (o82 P) (n o146 (n o274 (n o530 z z) z) (n o402 z z)) (n o210 (n o338 (n o594 z z) z) (n o466 z z))) (n (o114 P) (n o178 (n o306 (n o562 z z) z) (n o434 z z)) (n o242 (n o370 (n o626 z z) z) (n o498 z z))))) (n o26 (n o42 (n o74 (n o138 (n (o266 P) (n o522 z z) z) (n o394 z z)) (n o202 (n o330 (n o586 z z) z) (n o458 z z))) (n o106 (n o170 (n o298 (n o554 z z) z) (n o426 z z)) (n (o234 P) (n o362 (n o618 z z) z) (n o490 z z)))) (n o58 (n o90 (n o154 (n o282 (n o538 z z) z) (n o410 z z)) (n o218 (n o346 (n o602 z z) z) (n (o474 P) z z))) (n o122 (n o186 (n o314 (n o570 z z) z) (n o442 z z)) (n o250 (n o378 z z) (n o506 z z)))))) (n o14 (n o22 (n o38 (n o70 (n o134 (n o262 (n o518 z z) z) (n o390 z z)) (n o198 (n o326 (n o582 z z) z) (n o454 z z))) (n o102 (n o166 (n o294 (n o550 z z) z) (n o422 z z)) (n o230 (n o358 (n o614 z z) z) (n o486 z z)))) (n o54 (n o86 (n o150 (n o278 (n o534 z z) z) (n o406 z z)) (n o214 (n o342 (n o598 z z) z) (n o470 z z))) (n o118 (n o182 (n o310 (n o566 z z) z) (n o438 z z)) (n o246 (n o374 z z) (n o502 z z))))) (n (o30 P) (n o46 (n o78 (n o142 (n o270 (n o526 z z) z) (n o398 z z)) (n o206 (n o334 (n o590 z z) z) (n o462 z z))) (n o110 (n o174 (n o302 (n o558 z z) z) (n o430 z z)) (n o238 (n o366 (n o622 z z) z) (n o494 z z)))) (n o62 (n o94 (n (o158 P) (n o286 (n o542 z z) z) (n o414 z z)) (n o222 (n o350 (n o606 z z) z) (n o478 z z))) (n o126 (n (o190 P) (n o318 (n o574 z z) z) (n o446 z z)) (n o254 (n o382 z z) (n o510 z z)))))))))
def o3_3 (P : Params) : Obj := ⟨(T "dict"), none, (.dict ⟨[E P "__name__" 165 (S "onemember.expressions" 1137), E P "__doc__" 166 N, E P "__package__" 167 N, E P "__loader__" 168 (B "__main__.__loader__#opaque"), E P "__spec__" 169 N, E P "__annotations__" 170 (R 6), E P "__builtins__" 171 (R 4), E P "__file__" 173 (S "/claim/cut.py" 172), E P "__cached__" 174 N, E P "_wall" 193 (R 21), E P "SetError" 213 (R 31), E P "StateError" 231 (R 44), E P "LimitError" 251 (R 57), E P "NotMembers" 276 (R 77), E P "NotAChange" 301 (R 96), E P "NotAnExpression" 326 (R 115), E P "InvalidForm" 351 (R 134), E P "InvalidText" 376 (R 153), E P "UnknownField" 401 (R 172), E P "InvalidNames" 426 (R 191), E P "InvalidSets" 451 (R 210), E P "InvalidFields" 476 (R 229), E P "InvalidModes" 501 (R 248), E P "InvalidCalls" 526 (R 267), E P "InvalidViews" 551 (R 286), E P "NotComparable" 567 (R 298), E P "TooManyLeaves" 592 (R 317), E P "TooManyLevels" 617 (R 336), E P "MOST_FIELDS" 619 (.int 4 618), E P "MOST_MODES" 621 (.int 4 620), E P "MOST_CALLS" 623 (.int 8 622), E P "MOST_VIEWS" 625 (.int 4 624), E P "MOST_FACTS" 627 (.int 5 626), E P "MOST_LEAVES" 629 (.int 200 628), E P "MOST_DEPTH" 631 (.int 20 630), E P "LONGEST_NAME" 635 (.int 8 634), E P "is_name" 642 (R 345), E P "wrong_at" 651 (R 352), E P "wrong_or_twice_at" 661 (R 359), E P "SIGNS" 668 (R 360), E P "GIVEN" 670 (S "given" 669), E P "NONE" 672 (S "none" 671), E P "is_field" 679 (R 367), E P "form_size" 685 (R 372), E P "is_triple" 692 (R 379), E P "is_form_of" 698 (R 384), E P "check_leaves" 705 (R 391), E P "check_depth" 712 (R 398), E P "form_text" 722 (R 405), E P "side_text" 729 (R 412), E P "read_counted" 740 (R 419), E P "take_word" 749 (R 426), E P "joined" 761 (R 433), E P "form_leaves" 768 (R 440), E P "form_fields" 774 (R 445), E P "form_value" 787 (R 452), E P "Members" 1008 (R 622), E P "Change" 1122 (R 711), E P "check_members" 1129 (R 722), E P "check_change" 1136 (R 729), E P "Expression" 1319 (R 868), E P "Fact" 1447 (R 968)]⟩ 62), ⟨[]⟩⟩
def o12_3 : Obj := ⟨N, none, (.fields ⟨[(I 1), (I 0), (R 20), (I 5), (I 0), (R 27), (I 7), (I 0), (R 40), (I 9), (I 0), (R 53), (I 11), (I 0), (R 66), (I 15), (I 0), (R 85), (I 19), (I 0), (R 104), (I 23), (I 0), (R 123), (I 27), (I 0), (R 142), (I 31), (I 0), (R 161), (I 35), (I 0), (R 180), (I 39), (I 0), (R 199), (I 43), (I 0), (R 218), (I 47), (I 0), (R 237), (I 51), (I 0), (R 256), (I 55), (I 0), (R 275), (I 59), (I 0), (R 294), (I 61), (I 0), (R 306), (I 65), (I 0), (R 325), (I 78), (I 0), (R 344), (I 84), (I 0), (R 351), (I 89), (I 0), (R 358), (I 100), (I 0), (R 366), (I 102), (I 0), (R 371), (I 117), (I 0), (R 378), (I 119), (I 0), (R 383), (I 133), (I 0), (R 390), (I 136), (I 0), (R 397), (I 139), (I 0), (R 404), (I 144), (I 0), (R 411), (I 148), (I 0), (R 418), (I 162), (I 0), (R 425), (I 176), (I 0), (R 432), (I 179), (I 0), (R 439), (I 183), (I 0), (R 444), (I 186), (I 0), (R 451), (I 200), (I 0), (R 458), (I 294), (I 0), (R 632), (I 338), (I 0), (R 721), (I 341), (I 0), (R 728), (I 345), (I 0), (R 735), (I 418), (I 0), (R 878)]⟩), ⟨[]⟩⟩
def o627 : Obj := ⟨(T "tuple"), none, (.seq ⟨[]⟩ 0), ⟨[]⟩⟩
def o628 : Obj := ⟨(T "builtin_function_or_method"), none, (.fields ⟨[(B "type.__prepare__"), (T "type")]⟩), ⟨[]⟩⟩
def o629 (P : Params) : Obj := ⟨(T "dict"), none, (.dict ⟨[E P "__module__" 1016 (S "onemember.members" 788), E P "__qualname__" 1018 (S "Change" 1017), E P "__firstlineno__" 1020 (.int 294 1019), E P "__init__" 1029 (R 640), E P "between" 1049 (R 649), E P "came" 1057 (R 658), E P "went" 1065 (R 666), E P "__repr__" 1072 (R 673), E P "__bool__" 1079 (R 680), E P "__abs__" 1086 (R 687), E P "__eq__" 1094 (R 694), E P "__neg__" 1101 (R 701), E P "__add__" 1111 (R 708), E P "__static_attributes__" 1114 (R 709)]⟩ 14), ⟨[]⟩⟩
def o630 : Obj := ⟨(T "tuple"), none, (.seq ⟨[]⟩ 0), ⟨[]⟩⟩
def o631 : Obj := ⟨N, none, (.fields ⟨[(I 296), (I 4), (R 639), (I 305), (I 4), (R 646), (I 311), (I 4), (R 656), (I 315), (I 4), (R 664), (I 318), (I 4), (R 672), (I 321), (I 4), (R 679), (I 324), (I 4), (R 686), (I 327), (I 4), (R 693), (I 330), (I 4), (R 700), (I 333), (I 4), (R 707)]⟩), ⟨[]⟩⟩
def o632 : Obj := ⟨(T "code"), none, (.fields ⟨[(S "Change" 1011), (S "Change" 1012), (S "/claim/cut.py" 1013), (I 294), (I 0), (I 0), (I 0), (I 0), (R 630), (.bool false), (I 181), (R 631), N, N, N, N, (I 1014), (I 294), (S "/claim/cut.py" 1015)]⟩), ⟨[]⟩⟩
def o633 : Obj := ⟨(T "frame"), none, .plain, ⟨[some (R 632), some (R 3), some (R 629), none, some (S "onemember.members" 788), none, some (R 0)]⟩⟩
def o634 : Obj := ⟨(T "tuple"), none, (.seq ⟨[]⟩ 0), ⟨[]⟩⟩
def o635 : Obj := ⟨N, none, (.fields ⟨[]⟩), ⟨[]⟩⟩
def o636 : Obj := ⟨(T "tuple"), none, (.seq ⟨[(S "self" 1024), (S "came" 1025), (S "went" 1026)]⟩ 0), ⟨[]⟩⟩
def o637 : Obj := ⟨(T "tuple"), none, (.seq ⟨[]⟩ 0), ⟨[]⟩⟩
def o638 : Obj := ⟨N, none, (F (C 52 0) (u "__init__") (u "Change.__init__") 0 [] N N N N none N N 0), ⟨[]⟩⟩
def o639 : Obj := ⟨(T "code"), none, (.fields ⟨[(S "__init__" 1021), (S "Change.__init__" 1022), (S "/claim/cut.py" 1023), (I 296), (I 3), (I 0), (I 0), (I 3), (R 634), (.bool true), (I 181), (R 635), N, (R 636), (R 637), (R 638), (I 1027), (I 296), (S "/claim/cut.py" 1028)]⟩), ⟨[]⟩⟩
def o640 : Obj := ⟨(T "function"), none, (F (C 52 0) (u "__init__") (u "Change.__init__") 3 [] N N N (S "onemember.members" 788) none (R 639) N 0), ⟨[]⟩⟩
def o641 : Obj := ⟨(T "tuple"), none, (.seq ⟨[]⟩ 0), ⟨[]⟩⟩
def o642 : Obj := ⟨N, none, (.fields ⟨[]⟩), ⟨[]⟩⟩
def o643 : Obj := ⟨(T "tuple"), none, (.seq ⟨[(S "before" 1033), (S "after" 1034)]⟩ 0), ⟨[]⟩⟩
def o644 : Obj := ⟨(T "tuple"), none, (.seq ⟨[]⟩ 0), ⟨[]⟩⟩
def o645 : Obj := ⟨N, none, (F (C 52 1) (u "between") (u "Change.between") 0 [] N N N N none N N 0), ⟨[]⟩⟩
def o646 : Obj := ⟨(T "code"), none, (.fields ⟨[(S "between" 1030), (S "Change.between" 1031), (S "/claim/cut.py" 1032), (I 304), (I 2), (I 0), (I 0), (I 3), (R 641), (.bool true), (I 181), (R 642), N, (R 643), (R 644), (R 645), (I 1035), (I 304), (S "/claim/cut.py" 1036)]⟩), ⟨[]⟩⟩
def o647 : Obj := ⟨(T "function"), none, (F (C 52 1) (u "between") (u "Change.between") 3 [] N N N (S "onemember.members" 788) (some 650) (R 646) N 0), ⟨[]⟩⟩
def o648 (P : Params) : Obj := ⟨(T "dict"), none, (.dict ⟨[E P "__module__" 1038 (S "onemember.members" 788), E P "__name__" 1041 (S "between" 1040), E P "__qualname__" 1044 (S "Change.between" 1043), E P "__doc__" 1046 N, E P "__annotations__" 1048 (R 650)]⟩ 5), ⟨[]⟩⟩
def o649 : Obj := ⟨(T "staticmethod"), (some 648), (.fields ⟨[(R 647), (.bool false)]⟩), ⟨[]⟩⟩
def o650 (P : Params) : Obj := ⟨(T "dict"), none, (.dict ⟨[]⟩ 0), ⟨[]⟩⟩
def o651 : Obj := ⟨(T "tuple"), none, (.seq ⟨[]⟩ 0), ⟨[]⟩⟩
def o652 : Obj := ⟨N, none, (.fields ⟨[]⟩), ⟨[]⟩⟩
def o653 : Obj := ⟨(T "tuple"), none, (.seq ⟨[(S "self" 1053)]⟩ 0), ⟨[]⟩⟩
def o654 : Obj := ⟨(T "tuple"), none, (.seq ⟨[]⟩ 0), ⟨[]⟩⟩
def o655 : Obj := ⟨N, none, (F (C 52 2) (u "came") (u "Change.came") 0 [] N N N N none N N 0), ⟨[]⟩⟩
def o656 : Obj := ⟨(T "code"), none, (.fields ⟨[(S "came" 1050), (S "Change.came" 1051), (S "/claim/cut.py" 1052), (I 310), (I 1), (I 0), (I 0), (I 3), (R 651), (.bool true), (I 181), (R 652), N, (R 653), (R 654), (R 655), (I 1054), (I 310), (S "/claim/cut.py" 1055)]⟩), ⟨[]⟩⟩
def o657 : Obj := ⟨(T "function"), none, (F (C 52 2) (u "came") (u "Change.came") 3 [] N N N (S "onemember.members" 788) none (R 656) N 0), ⟨[]⟩⟩
def o658 : Obj := ⟨(T "property"), none, (.fields ⟨[(R 657), N, N, N, (S "came" 1057), (.bool false)]⟩), ⟨[]⟩⟩
def o659 : Obj := ⟨(T "tuple"), none, (.seq ⟨[]⟩ 0), ⟨[]⟩⟩
def o660 : Obj := ⟨N, none, (.fields ⟨[]⟩), ⟨[]⟩⟩
def o661 : Obj := ⟨(T "tuple"), none, (.seq ⟨[(S "self" 1061)]⟩ 0), ⟨[]⟩⟩
def o662 : Obj := ⟨(T "tuple"), none, (.seq ⟨[]⟩ 0), ⟨[]⟩⟩
def o663 : Obj := ⟨N, none, (F (C 52 3) (u "went") (u "Change.went") 0 [] N N N N none N N 0), ⟨[]⟩⟩
def o664 : Obj := ⟨(T "code"), none, (.fields ⟨[(S "went" 1058), (S "Change.went" 1059), (S "/claim/cut.py" 1060), (I 314), (I 1), (I 0), (I 0), (I 3), (R 659), (.bool true), (I 181), (R 660), N, (R 661), (R 662), (R 663), (I 1062), (I 314), (S "/claim/cut.py" 1063)]⟩), ⟨[]⟩⟩
def o665 : Obj := ⟨(T "function"), none, (F (C 52 3) (u "went") (u "Change.went") 3 [] N N N (S "onemember.members" 788) none (R 664) N 0), ⟨[]⟩⟩
def o666 : Obj := ⟨(T "property"), none, (.fields ⟨[(R 665), N, N, N, (S "went" 1065), (.bool false)]⟩), ⟨[]⟩⟩
def o667 : Obj := ⟨(T "tuple"), none, (.seq ⟨[]⟩ 0), ⟨[]⟩⟩
def o668 : Obj := ⟨N, none, (.fields ⟨[]⟩), ⟨[]⟩⟩
def o669 : Obj := ⟨(T "tuple"), none, (.seq ⟨[(S "self" 1069)]⟩ 0), ⟨[]⟩⟩
def o670 : Obj := ⟨(T "tuple"), none, (.seq ⟨[]⟩ 0), ⟨[]⟩⟩
def o671 : Obj := ⟨N, none, (F (C 52 4) (u "__repr__") (u "Change.__repr__") 0 [] N N N N none N N 0), ⟨[]⟩⟩
def o672 : Obj := ⟨(T "code"), none, (.fields ⟨[(S "__repr__" 1066), (S "Change.__repr__" 1067), (S "/claim/cut.py" 1068), (I 318), (I 1), (I 0), (I 0), (I 3), (R 667), (.bool true), (I 181), (R 668), N, (R 669), (R 670), (R 671), (I 1070), (I 318), (S "/claim/cut.py" 1071)]⟩), ⟨[]⟩⟩
def o673 : Obj := ⟨(T "function"), none, (F (C 52 4) (u "__repr__") (u "Change.__repr__") 3 [] N N N (S "onemember.members" 788) none (R 672) N 0), ⟨[]⟩⟩
def o674 : Obj := ⟨(T "tuple"), none, (.seq ⟨[]⟩ 0), ⟨[]⟩⟩
def o675 : Obj := ⟨N, none, (.fields ⟨[]⟩), ⟨[]⟩⟩
def o676 : Obj := ⟨(T "tuple"), none, (.seq ⟨[(S "self" 1076)]⟩ 0), ⟨[]⟩⟩
def o677 : Obj := ⟨(T "tuple"), none, (.seq ⟨[]⟩ 0), ⟨[]⟩⟩
def o678 : Obj := ⟨N, none, (F (C 52 5) (u "__bool__") (u "Change.__bool__") 0 [] N N N N none N N 0), ⟨[]⟩⟩
def o679 : Obj := ⟨(T "code"), none, (.fields ⟨[(S "__bool__" 1073), (S "Change.__bool__" 1074), (S "/claim/cut.py" 1075), (I 321), (I 1), (I 0), (I 0), (I 3), (R 674), (.bool true), (I 181), (R 675), N, (R 676), (R 677), (R 678), (I 1077), (I 321), (S "/claim/cut.py" 1078)]⟩), ⟨[]⟩⟩
def o680 : Obj := ⟨(T "function"), none, (F (C 52 5) (u "__bool__") (u "Change.__bool__") 3 [] N N N (S "onemember.members" 788) none (R 679) N 0), ⟨[]⟩⟩
def o681 : Obj := ⟨(T "tuple"), none, (.seq ⟨[]⟩ 0), ⟨[]⟩⟩
def o682 : Obj := ⟨N, none, (.fields ⟨[]⟩), ⟨[]⟩⟩
def o683 : Obj := ⟨(T "tuple"), none, (.seq ⟨[(S "self" 1083)]⟩ 0), ⟨[]⟩⟩
def o684 : Obj := ⟨(T "tuple"), none, (.seq ⟨[]⟩ 0), ⟨[]⟩⟩
def o685 : Obj := ⟨N, none, (F (C 52 6) (u "__abs__") (u "Change.__abs__") 0 [] N N N N none N N 0), ⟨[]⟩⟩
def o686 : Obj := ⟨(T "code"), none, (.fields ⟨[(S "__abs__" 1080), (S "Change.__abs__" 1081), (S "/claim/cut.py" 1082), (I 324), (I 1), (I 0), (I 0), (I 3), (R 681), (.bool true), (I 181), (R 682), N, (R 683), (R 684), (R 685), (I 1084), (I 324), (S "/claim/cut.py" 1085)]⟩), ⟨[]⟩⟩
def o687 : Obj := ⟨(T "function"), none, (F (C 52 6) (u "__abs__") (u "Change.__abs__") 3 [] N N N (S "onemember.members" 788) none (R 686) N 0), ⟨[]⟩⟩
def o688 : Obj := ⟨(T "tuple"), none, (.seq ⟨[]⟩ 0), ⟨[]⟩⟩
def o689 : Obj := ⟨N, none, (.fields ⟨[]⟩), ⟨[]⟩⟩
def o690 : Obj := ⟨(T "tuple"), none, (.seq ⟨[(S "self" 1090), (S "other" 1091)]⟩ 0), ⟨[]⟩⟩
def o691 : Obj := ⟨(T "tuple"), none, (.seq ⟨[]⟩ 0), ⟨[]⟩⟩
def o692 : Obj := ⟨N, none, (F (C 52 7) (u "__eq__") (u "Change.__eq__") 0 [] N N N N none N N 0), ⟨[]⟩⟩
def o693 : Obj := ⟨(T "code"), none, (.fields ⟨[(S "__eq__" 1087), (S "Change.__eq__" 1088), (S "/claim/cut.py" 1089), (I 327), (I 2), (I 0), (I 0), (I 3), (R 688), (.bool true), (I 181), (R 689), N, (R 690), (R 691), (R 692), (I 1092), (I 327), (S "/claim/cut.py" 1093)]⟩), ⟨[]⟩⟩
def o694 : Obj := ⟨(T "function"), none, (F (C 52 7) (u "__eq__") (u "Change.__eq__") 3 [] N N N (S "onemember.members" 788) none (R 693) N 0), ⟨[]⟩⟩
def o695 : Obj := ⟨(T "tuple"), none, (.seq ⟨[]⟩ 0), ⟨[]⟩⟩
def o696 : Obj := ⟨N, none, (.fields ⟨[]⟩), ⟨[]⟩⟩
def o697 : Obj := ⟨(T "tuple"), none, (.seq ⟨[(S "self" 1098)]⟩ 0), ⟨[]⟩⟩
def o698 : Obj := ⟨(T "tuple"), none, (.seq ⟨[]⟩ 0), ⟨[]⟩⟩
def o699 : Obj := ⟨N, none, (F (C 52 8) (u "__neg__") (u "Change.__neg__") 0 [] N N N N none N N 0), ⟨[]⟩⟩
def o700 : Obj := ⟨(T "code"), none, (.fields ⟨[(S "__neg__" 1095), (S "Change.__neg__" 1096), (S "/claim/cut.py" 1097), (I 330), (I 1), (I 0), (I 0), (I 3), (R 695), (.bool true), (I 181), (R 696), N, (R 697), (R 698), (R 699), (I 1099), (I 330), (S "/claim/cut.py" 1100)]⟩), ⟨[]⟩⟩
def o701 : Obj := ⟨(T "function"), none, (F (C 52 8) (u "__neg__") (u "Change.__neg__") 3 [] N N N (S "onemember.members" 788) none (R 700) N 0), ⟨[]⟩⟩
def o702 : Obj := ⟨(T "tuple"), none, (.seq ⟨[]⟩ 0), ⟨[]⟩⟩
def o703 : Obj := ⟨N, none, (.fields ⟨[]⟩), ⟨[]⟩⟩
def o704 : Obj := ⟨(T "tuple"), none, (.seq ⟨[(S "self" 1105), (S "other" 1106), (S "came" 1107), (S "went" 1108)]⟩ 0), ⟨[]⟩⟩
def o705 : Obj := ⟨(T "tuple"), none, (.seq ⟨[]⟩ 0), ⟨[]⟩⟩
def o706 : Obj := ⟨N, none, (F (C 52 9) (u "__add__") (u "Change.__add__") 0 [] N N N N none N N 0), ⟨[]⟩⟩
def o707 : Obj := ⟨(T "code"), none, (.fields ⟨[(S "__add__" 1102), (S "Change.__add__" 1103), (S "/claim/cut.py" 1104), (I 333), (I 2), (I 0), (I 0), (I 3), (R 702), (.bool true), (I 181), (R 703), N, (R 704), (R 705), (R 706), (I 1109), (I 333), (S "/claim/cut.py" 1110)]⟩), ⟨[]⟩⟩
def o708 : Obj := ⟨(T "function"), none, (F (C 52 9) (u "__add__") (u "Change.__add__") 3 [] N N N (S "onemember.members" 788) none (R 707) N 0), ⟨[]⟩⟩
def o709 : Obj := ⟨(T "tuple"), none, (.seq ⟨[(S "_came" 1112), (S "_went" 1113)]⟩ 0), ⟨[]⟩⟩
def o710 (P : Params) : Obj := ⟨(T "dict"), none, (.dict ⟨[E P "__module__" 1016 (S "onemember.members" 788), E P "__firstlineno__" 1020 (.int 294 1019), E P "__init__" 1029 (R 640), E P "between" 1049 (R 649), E P "came" 1057 (R 658), E P "went" 1065 (R 666), E P "__repr__" 1072 (R 673), E P "__bool__" 1079 (R 680), E P "__abs__" 1086 (R 687), E P "__eq__" 1094 (R 694), E P "__neg__" 1101 (R 701), E P "__add__" 1111 (R 708), E P "__static_attributes__" 1114 (R 709), E P "__dict__" 1116 (R 712), E P "__weakref__" 1118 (R 713), E P "__doc__" 1119 N, E P "__hash__" 1120 N]⟩ 5), ⟨[]⟩⟩
def o711 : Obj := ⟨(T "type"), none, (.cls ⟨(u "Change"), [(T "object")], [(R 711), (T "object")], 710, (u "Change"), true, [], [], false, none, false⟩), ⟨[none, none, some (S "Change" 1009), some (S "Change" 1017), some (B "object.__new__"), some (.bool true)]⟩⟩
def o712 : Obj := ⟨(T "getset_descriptor"), none, (.fields ⟨[(S "__dict__" 1115), (R 711), (B "function.__dict__"), (B "function.__dict__#set")]⟩), ⟨[]⟩⟩
def o713 : Obj := ⟨(T "getset_descriptor"), none, (.fields ⟨[(S "__weakref__" 1117), (R 711), (B "ExceptionGroup.__weakref__"), N]⟩), ⟨[]⟩⟩
def o714 : Obj := ⟨(T "super"), none, (.fields ⟨[(R 711), (R 711), (R 711)]⟩), ⟨[]⟩⟩
def o715 : Obj := ⟨(T "builtin_function_or_method"), none, (.fields ⟨[(B "object.__init_subclass__"), (R 711)]⟩), ⟨[]⟩⟩
def o716 : Obj := ⟨(T "tuple"), none, (.seq ⟨[]⟩ 0), ⟨[]⟩⟩
def o717 : Obj := ⟨N, none, (.fields ⟨[]⟩), ⟨[]⟩⟩
def o718 : Obj := ⟨(T "tuple"), none, (.seq ⟨[(S "value" 1126)]⟩ 0), ⟨[]⟩⟩
def o719 : Obj := ⟨(T "tuple"), none, (.seq ⟨[]⟩ 0), ⟨[]⟩⟩
def o720 : Obj := ⟨N, none, (F (A 53) (u "check_members") (u "check_members") 0 [] N N N N none N N 0), ⟨[]⟩⟩
def o721 : Obj := ⟨(T "code"), none, (.fields ⟨[(S "check_members" 1123), (S "check_members" 1124), (S "/claim/cut.py" 1125), (I 338), (I 1), (I 0), (I 0), (I 3), (R 716), (.bool true), (I 181), (R 717), N, (R 718), (R 719), (R 720), (I 1127), (I 338), (S "/claim/cut.py" 1128)]⟩), ⟨[]⟩⟩
def o722 : Obj := ⟨(T "function"), none, (F (A 53) (u "check_members") (u "check_members") 3 [] N N N (S "onemember.members" 788) none (R 721) N 0), ⟨[]⟩⟩
def o723 : Obj := ⟨(T "tuple"), none, (.seq ⟨[]⟩ 0), ⟨[]⟩⟩
def o724 : Obj := ⟨N, none, (.fields ⟨[]⟩), ⟨[]⟩⟩
def o725 : Obj := ⟨(T "tuple"), none, (.seq ⟨[(S "value" 1133)]⟩ 0), ⟨[]⟩⟩
def o726 : Obj := ⟨(T "tuple"), none, (.seq ⟨[]⟩ 0), ⟨[]⟩⟩
def o727 : Obj := ⟨N, none, (F (A 54) (u "check_change") (u "check_change") 0 [] N N N N none N N 0), ⟨[]⟩⟩
def o728 : Obj := ⟨(T "code"), none, (.fields ⟨[(S "check_change" 1130), (S "check_change" 1131), (S "/claim/cut.py" 1132), (I 341), (I 1), (I 0), (I 0), (I 3), (R 723), (.bool true), (I 181), (R 724), N, (R 725), (R 726), (R 727), (I 1134), (I 341), (S "/claim/cut.py" 1135)]⟩), ⟨[]⟩⟩
def o729 : Obj := ⟨(T "function"), none, (F (A 54) (u "check_change") (u "check_change") 3 [] N N N (S "onemember.members" 788) none (R 728) N 0), ⟨[]⟩⟩
def o730 : Obj := ⟨(T "tuple"), none, (.seq ⟨[]⟩ 0), ⟨[]⟩⟩
def o731 : Obj := ⟨(T "builtin_function_or_method"), none, (.fields ⟨[(B "type.__prepare__"), (T "type")]⟩), ⟨[]⟩⟩
def o732 (P : Params) : Obj := ⟨(T "dict"), none, (.dict ⟨[E P "__module__" 1146 (S "onemember.expressions" 1137), E P "__qualname__" 1148 (S "Expression" 1147), E P "__firstlineno__" 1150 (.int 345 1149), E P "__init__" 1161 (R 743), E P "read" 1183 (R 752), E P "form" 1191 (R 761), E P "leaves" 1199 (R 769), E P "depth" 1207 (R 777), E P "fields" 1215 (R 785), E P "has_given" 1223 (R 793), E P "__str__" 1230 (R 800), E P "__repr__" 1237 (R 807), E P "__eq__" 1245 (R 814), E P "__or__" 1253 (R 821), E P "__and__" 1261 (R 828), E P "__sub__" 1269 (R 835), E P "__xor__" 1277 (R 842), E P "within" 1285 (R 849), E P "of" 1295 (R 857), E P "meets" 1305 (R 865), E P "__static_attributes__" 1311 (R 866)]⟩ 21), ⟨[]⟩⟩
def o733 : Obj := ⟨(T "tuple"), none, (.seq ⟨[]⟩ 0), ⟨[]⟩⟩
def o734 : Obj := ⟨N, none, (.fields ⟨[(I 347), (I 4), (R 742), (I 361), (I 4), (R 749), (I 370), (I 4), (R 759), (I 374), (I 4), (R 767), (I 378), (I 4), (R 775), (I 382), (I 4), (R 783), (I 386), (I 4), (R 791), (I 389), (I 4), (R 799), (I 392), (I 4), (R 806), (I 395), (I 4), (R 813), (I 398), (I 4), (R 820), (I 401), (I 4), (R 827), (I 404), (I 4), (R 834), (I 407), (I 4), (R 841), (I 410), (I 4), (R 848), (I 413), (I 4), (R 856), (I 416), (I 4), (R 864)]⟩), ⟨[]⟩⟩
def o735 : Obj := ⟨(T "code"), none, (.fields ⟨[(S "Expression" 1141), (S "Expression" 1142), (S "/claim/cut.py" 1143), (I 345), (I 0), (I 0), (I 0), (I 0), (R 733), (.bool false), (I 181), (R 734), N, N, N, N, (I 1144), (I 345), (S "/claim/cut.py" 1145)]⟩), ⟨[]⟩⟩
def o736 : Obj := ⟨(T "frame"), none, .plain, ⟨[some (R 735), some (R 3), some (R 732), none, some (S "onemember.expressions" 1137), none, some (R 0)]⟩⟩
def o737 : Obj := ⟨(T "tuple"), none, (.seq ⟨[]⟩ 0), ⟨[]⟩⟩
def o738 : Obj := ⟨N, none, (.fields ⟨[]⟩), ⟨[]⟩⟩
def o739 : Obj := ⟨(T "tuple"), none, (.seq ⟨[(S "self" 1154), (S "form" 1155), (S "size" 1156), (S "leaves" 1157), (S "depth" 1158)]⟩ 0), ⟨[]⟩⟩
def o740 : Obj := ⟨(T "tuple"), none, (.seq ⟨[]⟩ 0), ⟨[]⟩⟩
def o741 : Obj := ⟨N, none, (F (C 56 0) (u "__init__") (u "Expression.__init__") 0 [] N N N N none N N 0), ⟨[]⟩⟩
def o742 : Obj := ⟨(T "code"), none, (.fields ⟨[(S "__init__" 1151), (S "Expression.__init__" 1152), (S "/claim/cut.py" 1153), (I 347), (I 2), (I 0), (I 0), (I 3), (R 737), (.bool true), (I 181), (R 738), N, (R 739), (R 740), (R 741), (I 1159), (I 347), (S "/claim/cut.py" 1160)]⟩), ⟨[]⟩⟩
def o743 : Obj := ⟨(T "function"), none, (F (C 56 0) (u "__init__") (u "Expression.__init__") 3 [] N N N (S "onemember.expressions" 1137) none (R 742) N 0), ⟨[]⟩⟩
def o744 : Obj := ⟨(T "tuple"), none, (.seq ⟨[]⟩ 0), ⟨[]⟩⟩
def o745 : Obj := ⟨N, none, (.fields ⟨[]⟩), ⟨[]⟩⟩
def o746 : Obj := ⟨(T "tuple"), none, (.seq ⟨[(S "text" 1165), (S "counted" 1166), (S "form" 1167), (S "leaves" 1168)]⟩ 0), ⟨[]⟩⟩
def o747 : Obj := ⟨(T "tuple"), none, (.seq ⟨[]⟩ 0), ⟨[]⟩⟩
def o748 : Obj := ⟨N, none, (F (C 56 1) (u "read") (u "Expression.read") 0 [] N N N N none N N 0), ⟨[]⟩⟩
def o749 : Obj := ⟨(T "code"), none, (.fields ⟨[(S "read" 1162), (S "Expression.read" 1163), (S "/claim/cut.py" 1164), (I 360), (I 1), (I 0), (I 0), (I 3), (R 744), (.bool true), (I 181), (R 745), N, (R 746), (R 747), (R 748), (I 1169), (I 360), (S "/claim/cut.py" 1170)]⟩), ⟨[]⟩⟩
def o750 : Obj := ⟨(T "function"), none, (F (C 56 1) (u "read") (u "Expression.read") 3 [] N N N (S "onemember.expressions" 1137) (some 753) (R 749) N 0), ⟨[]⟩⟩
def o751 (P : Params) : Obj := ⟨(T "dict"), none, (.dict ⟨[E P "__module__" 1172 (S "onemember.expressions" 1137), E P "__name__" 1175 (S "read" 1174), E P "__qualname__" 1178 (S "Expression.read" 1177), E P "__doc__" 1180 N, E P "__annotations__" 1182 (R 753)]⟩ 5), ⟨[]⟩⟩
def o752 : Obj := ⟨(T "staticmethod"), (some 751), (.fields ⟨[(R 750), (.bool false)]⟩), ⟨[]⟩⟩
def o753 (P : Params) : Obj := ⟨(T "dict"), none, (.dict ⟨[]⟩ 0), ⟨[]⟩⟩
def o754 : Obj := ⟨(T "tuple"), none, (.seq ⟨[]⟩ 0), ⟨[]⟩⟩
def o755 : Obj := ⟨N, none, (.fields ⟨[]⟩), ⟨[]⟩⟩
def o756 : Obj := ⟨(T "tuple"), none, (.seq ⟨[(S "self" 1187)]⟩ 0), ⟨[]⟩⟩
def o757 : Obj := ⟨(T "tuple"), none, (.seq ⟨[]⟩ 0), ⟨[]⟩⟩
def o758 : Obj := ⟨N, none, (F (C 56 2) (u "form") (u "Expression.form") 0 [] N N N N none N N 0), ⟨[]⟩⟩
def o759 : Obj := ⟨(T "code"), none, (.fields ⟨[(S "form" 1184), (S "Expression.form" 1185), (S "/claim/cut.py" 1186), (I 369), (I 1), (I 0), (I 0), (I 3), (R 754), (.bool true), (I 181), (R 755), N, (R 756), (R 757), (R 758), (I 1188), (I 369), (S "/claim/cut.py" 1189)]⟩), ⟨[]⟩⟩
def o760 : Obj := ⟨(T "function"), none, (F (C 56 2) (u "form") (u "Expression.form") 3 [] N N N (S "onemember.expressions" 1137) none (R 759) N 0), ⟨[]⟩⟩
def o761 : Obj := ⟨(T "property"), none, (.fields ⟨[(R 760), N, N, N, (S "form" 1191), (.bool false)]⟩), ⟨[]⟩⟩
def o762 : Obj := ⟨(T "tuple"), none, (.seq ⟨[]⟩ 0), ⟨[]⟩⟩
def o763 : Obj := ⟨N, none, (.fields ⟨[]⟩), ⟨[]⟩⟩
def o764 : Obj := ⟨(T "tuple"), none, (.seq ⟨[(S "self" 1195)]⟩ 0), ⟨[]⟩⟩
def o765 : Obj := ⟨(T "tuple"), none, (.seq ⟨[]⟩ 0), ⟨[]⟩⟩
def o766 : Obj := ⟨N, none, (F (C 56 3) (u "leaves") (u "Expression.leaves") 0 [] N N N N none N N 0), ⟨[]⟩⟩
def o767 : Obj := ⟨(T "code"), none, (.fields ⟨[(S "leaves" 1192), (S "Expression.leaves" 1193), (S "/claim/cut.py" 1194), (I 373), (I 1), (I 0), (I 0), (I 3), (R 762), (.bool true), (I 181), (R 763), N, (R 764), (R 765), (R 766), (I 1196), (I 373), (S "/claim/cut.py" 1197)]⟩), ⟨[]⟩⟩
def o768 : Obj := ⟨(T "function"), none, (F (C 56 3) (u "leaves") (u "Expression.leaves") 3 [] N N N (S "onemember.expressions" 1137) none (R 767) N 0), ⟨[]⟩⟩
def o769 : Obj := ⟨(T "property"), none, (.fields ⟨[(R 768), N, N, N, (S "leaves" 1199), (.bool false)]⟩), ⟨[]⟩⟩
def o770 : Obj := ⟨(T "tuple"), none, (.seq ⟨[]⟩ 0), ⟨[]⟩⟩
def o771 : Obj := ⟨N, none, (.fields ⟨[]⟩), ⟨[]⟩⟩
def o772 : Obj := ⟨(T "tuple"), none, (.seq ⟨[(S "self" 1203)]⟩ 0), ⟨[]⟩⟩
def o773 : Obj := ⟨(T "tuple"), none, (.seq ⟨[]⟩ 0), ⟨[]⟩⟩
def o774 : Obj := ⟨N, none, (F (C 56 4) (u "depth") (u "Expression.depth") 0 [] N N N N none N N 0), ⟨[]⟩⟩
def o775 : Obj := ⟨(T "code"), none, (.fields ⟨[(S "depth" 1200), (S "Expression.depth" 1201), (S "/claim/cut.py" 1202), (I 377), (I 1), (I 0), (I 0), (I 3), (R 770), (.bool true), (I 181), (R 771), N, (R 772), (R 773), (R 774), (I 1204), (I 377), (S "/claim/cut.py" 1205)]⟩), ⟨[]⟩⟩
def o776 : Obj := ⟨(T "function"), none, (F (C 56 4) (u "depth") (u "Expression.depth") 3 [] N N N (S "onemember.expressions" 1137) none (R 775) N 0), ⟨[]⟩⟩
def o777 : Obj := ⟨(T "property"), none, (.fields ⟨[(R 776), N, N, N, (S "depth" 1207), (.bool false)]⟩), ⟨[]⟩⟩
def o778 : Obj := ⟨(T "tuple"), none, (.seq ⟨[]⟩ 0), ⟨[]⟩⟩
def o779 : Obj := ⟨N, none, (.fields ⟨[]⟩), ⟨[]⟩⟩
def o780 : Obj := ⟨(T "tuple"), none, (.seq ⟨[(S "self" 1211)]⟩ 0), ⟨[]⟩⟩
def o781 : Obj := ⟨(T "tuple"), none, (.seq ⟨[]⟩ 0), ⟨[]⟩⟩
def o782 : Obj := ⟨N, none, (F (C 56 5) (u "fields") (u "Expression.fields") 0 [] N N N N none N N 0), ⟨[]⟩⟩
def o783 : Obj := ⟨(T "code"), none, (.fields ⟨[(S "fields" 1208), (S "Expression.fields" 1209), (S "/claim/cut.py" 1210), (I 381), (I 1), (I 0), (I 0), (I 3), (R 778), (.bool true), (I 181), (R 779), N, (R 780), (R 781), (R 782), (I 1212), (I 381), (S "/claim/cut.py" 1213)]⟩), ⟨[]⟩⟩
def o784 : Obj := ⟨(T "function"), none, (F (C 56 5) (u "fields") (u "Expression.fields") 3 [] N N N (S "onemember.expressions" 1137) none (R 783) N 0), ⟨[]⟩⟩
def o785 : Obj := ⟨(T "property"), none, (.fields ⟨[(R 784), N, N, N, (S "fields" 1215), (.bool false)]⟩), ⟨[]⟩⟩
def o786 : Obj := ⟨(T "tuple"), none, (.seq ⟨[]⟩ 0), ⟨[]⟩⟩
def o787 : Obj := ⟨N, none, (.fields ⟨[]⟩), ⟨[]⟩⟩
def o788 : Obj := ⟨(T "tuple"), none, (.seq ⟨[(S "self" 1219)]⟩ 0), ⟨[]⟩⟩
def o789 : Obj := ⟨(T "tuple"), none, (.seq ⟨[]⟩ 0), ⟨[]⟩⟩
def o790 : Obj := ⟨N, none, (F (C 56 6) (u "has_given") (u "Expression.has_given") 0 [] N N N N none N N 0), ⟨[]⟩⟩
def o791 : Obj := ⟨(T "code"), none, (.fields ⟨[(S "has_given" 1216), (S "Expression.has_given" 1217), (S "/claim/cut.py" 1218), (I 385), (I 1), (I 0), (I 0), (I 3), (R 786), (.bool true), (I 181), (R 787), N, (R 788), (R 789), (R 790), (I 1220), (I 385), (S "/claim/cut.py" 1221)]⟩), ⟨[]⟩⟩
def o792 : Obj := ⟨(T "function"), none, (F (C 56 6) (u "has_given") (u "Expression.has_given") 3 [] N N N (S "onemember.expressions" 1137) none (R 791) N 0), ⟨[]⟩⟩
def o793 : Obj := ⟨(T "property"), none, (.fields ⟨[(R 792), N, N, N, (S "has_given" 1223), (.bool false)]⟩), ⟨[]⟩⟩
def o794 : Obj := ⟨(T "tuple"), none, (.seq ⟨[]⟩ 0), ⟨[]⟩⟩
def o795 : Obj := ⟨N, none, (.fields ⟨[]⟩), ⟨[]⟩⟩
def o796 : Obj := ⟨(T "tuple"), none, (.seq ⟨[(S "self" 1227)]⟩ 0), ⟨[]⟩⟩
def o797 : Obj := ⟨(T "tuple"), none, (.seq ⟨[]⟩ 0), ⟨[]⟩⟩
def o798 : Obj := ⟨N, none, (F (C 56 7) (u "__str__") (u "Expression.__str__") 0 [] N N N N none N N 0), ⟨[]⟩⟩
def o799 : Obj := ⟨(T "code"), none, (.fields ⟨[(S "__str__" 1224), (S "Expression.__str__" 1225), (S "/claim/cut.py" 1226), (I 389), (I 1), (I 0), (I 0), (I 3), (R 794), (.bool true), (I 181), (R 795), N, (R 796), (R 797), (R 798), (I 1228), (I 389), (S "/claim/cut.py" 1229)]⟩), ⟨[]⟩⟩
def o800 : Obj := ⟨(T "function"), none, (F (C 56 7) (u "__str__") (u "Expression.__str__") 3 [] N N N (S "onemember.expressions" 1137) none (R 799) N 0), ⟨[]⟩⟩
def o801 : Obj := ⟨(T "tuple"), none, (.seq ⟨[]⟩ 0), ⟨[]⟩⟩
def o802 : Obj := ⟨N, none, (.fields ⟨[]⟩), ⟨[]⟩⟩
def o803 : Obj := ⟨(T "tuple"), none, (.seq ⟨[(S "self" 1234)]⟩ 0), ⟨[]⟩⟩
def o804 : Obj := ⟨(T "tuple"), none, (.seq ⟨[]⟩ 0), ⟨[]⟩⟩
def o805 : Obj := ⟨N, none, (F (C 56 8) (u "__repr__") (u "Expression.__repr__") 0 [] N N N N none N N 0), ⟨[]⟩⟩
def o806 : Obj := ⟨(T "code"), none, (.fields ⟨[(S "__repr__" 1231), (S "Expression.__repr__" 1232), (S "/claim/cut.py" 1233), (I 392), (I 1), (I 0), (I 0), (I 3), (R 801), (.bool true), (I 181), (R 802), N, (R 803), (R 804), (R 805), (I 1235), (I 392), (S "/claim/cut.py" 1236)]⟩), ⟨[]⟩⟩
def o807 : Obj := ⟨(T "function"), none, (F (C 56 8) (u "__repr__") (u "Expression.__repr__") 3 [] N N N (S "onemember.expressions" 1137) none (R 806) N 0), ⟨[]⟩⟩
def o808 : Obj := ⟨(T "tuple"), none, (.seq ⟨[]⟩ 0), ⟨[]⟩⟩
def o809 : Obj := ⟨N, none, (.fields ⟨[]⟩), ⟨[]⟩⟩
def o810 : Obj := ⟨(T "tuple"), none, (.seq ⟨[(S "self" 1241), (S "other" 1242)]⟩ 0), ⟨[]⟩⟩
def o811 : Obj := ⟨(T "tuple"), none, (.seq ⟨[]⟩ 0), ⟨[]⟩⟩
def o812 : Obj := ⟨N, none, (F (C 56 9) (u "__eq__") (u "Expression.__eq__") 0 [] N N N N none N N 0), ⟨[]⟩⟩
def o813 : Obj := ⟨(T "code"), none, (.fields ⟨[(S "__eq__" 1238), (S "Expression.__eq__" 1239), (S "/claim/cut.py" 1240), (I 395), (I 2), (I 0), (I 0), (I 3), (R 808), (.bool true), (I 181), (R 809), N, (R 810), (R 811), (R 812), (I 1243), (I 395), (S "/claim/cut.py" 1244)]⟩), ⟨[]⟩⟩
def o814 : Obj := ⟨(T "function"), none, (F (C 56 9) (u "__eq__") (u "Expression.__eq__") 3 [] N N N (S "onemember.expressions" 1137) none (R 813) N 0), ⟨[]⟩⟩
def o815 : Obj := ⟨(T "tuple"), none, (.seq ⟨[]⟩ 0), ⟨[]⟩⟩
def o816 : Obj := ⟨N, none, (.fields ⟨[]⟩), ⟨[]⟩⟩
def o817 : Obj := ⟨(T "tuple"), none, (.seq ⟨[(S "self" 1249), (S "other" 1250)]⟩ 0), ⟨[]⟩⟩
def o818 : Obj := ⟨(T "tuple"), none, (.seq ⟨[]⟩ 0), ⟨[]⟩⟩
def o819 : Obj := ⟨N, none, (F (C 56 10) (u "__or__") (u "Expression.__or__") 0 [] N N N N none N N 0), ⟨[]⟩⟩
def o820 : Obj := ⟨(T "code"), none, (.fields ⟨[(S "__or__" 1246), (S "Expression.__or__" 1247), (S "/claim/cut.py" 1248), (I 398), (I 2), (I 0), (I 0), (I 3), (R 815), (.bool true), (I 181), (R 816), N, (R 817), (R 818), (R 819), (I 1251), (I 398), (S "/claim/cut.py" 1252)]⟩), ⟨[]⟩⟩
def o821 : Obj := ⟨(T "function"), none, (F (C 56 10) (u "__or__") (u "Expression.__or__") 3 [] N N N (S "onemember.expressions" 1137) none (R 820) N 0), ⟨[]⟩⟩
def o822 : Obj := ⟨(T "tuple"), none, (.seq ⟨[]⟩ 0), ⟨[]⟩⟩
def o823 : Obj := ⟨N, none, (.fields ⟨[]⟩), ⟨[]⟩⟩
def o824 : Obj := ⟨(T "tuple"), none, (.seq ⟨[(S "self" 1257), (S "other" 1258)]⟩ 0), ⟨[]⟩⟩
def o825 : Obj := ⟨(T "tuple"), none, (.seq ⟨[]⟩ 0), ⟨[]⟩⟩
def o826 : Obj := ⟨N, none, (F (C 56 11) (u "__and__") (u "Expression.__and__") 0 [] N N N N none N N 0), ⟨[]⟩⟩
def o827 : Obj := ⟨(T "code"), none, (.fields ⟨[(S "__and__" 1254), (S "Expression.__and__" 1255), (S "/claim/cut.py" 1256), (I 401), (I 2), (I 0), (I 0), (I 3), (R 822), (.bool true), (I 181), (R 823), N, (R 824), (R 825), (R 826), (I 1259), (I 401), (S "/claim/cut.py" 1260)]⟩), ⟨[]⟩⟩
def o828 : Obj := ⟨(T "function"), none, (F (C 56 11) (u "__and__") (u "Expression.__and__") 3 [] N N N (S "onemember.expressions" 1137) none (R 827) N 0), ⟨[]⟩⟩
def o829 : Obj := ⟨(T "tuple"), none, (.seq ⟨[]⟩ 0), ⟨[]⟩⟩
def o830 : Obj := ⟨N, none, (.fields ⟨[]⟩), ⟨[]⟩⟩
def o831 : Obj := ⟨(T "tuple"), none, (.seq ⟨[(S "self" 1265), (S "other" 1266)]⟩ 0), ⟨[]⟩⟩
def o832 : Obj := ⟨(T "tuple"), none, (.seq ⟨[]⟩ 0), ⟨[]⟩⟩
def o833 : Obj := ⟨N, none, (F (C 56 12) (u "__sub__") (u "Expression.__sub__") 0 [] N N N N none N N 0), ⟨[]⟩⟩
def o834 : Obj := ⟨(T "code"), none, (.fields ⟨[(S "__sub__" 1262), (S "Expression.__sub__" 1263), (S "/claim/cut.py" 1264), (I 404), (I 2), (I 0), (I 0), (I 3), (R 829), (.bool true), (I 181), (R 830), N, (R 831), (R 832), (R 833), (I 1267), (I 404), (S "/claim/cut.py" 1268)]⟩), ⟨[]⟩⟩
def o835 : Obj := ⟨(T "function"), none, (F (C 56 12) (u "__sub__") (u "Expression.__sub__") 3 [] N N N (S "onemember.expressions" 1137) none (R 834) N 0), ⟨[]⟩⟩
def o836 : Obj := ⟨(T "tuple"), none, (.seq ⟨[]⟩ 0), ⟨[]⟩⟩
def o837 : Obj := ⟨N, none, (.fields ⟨[]⟩), ⟨[]⟩⟩
def o838 : Obj := ⟨(T "tuple"), none, (.seq ⟨[(S "self" 1273), (S "other" 1274)]⟩ 0), ⟨[]⟩⟩
def o839 : Obj := ⟨(T "tuple"), none, (.seq ⟨[]⟩ 0), ⟨[]⟩⟩
def o840 : Obj := ⟨N, none, (F (C 56 13) (u "__xor__") (u "Expression.__xor__") 0 [] N N N N none N N 0), ⟨[]⟩⟩
def o841 : Obj := ⟨(T "code"), none, (.fields ⟨[(S "__xor__" 1270), (S "Expression.__xor__" 1271), (S "/claim/cut.py" 1272), (I 407), (I 2), (I 0), (I 0), (I 3), (R 836), (.bool true), (I 181), (R 837), N, (R 838), (R 839), (R 840), (I 1275), (I 407), (S "/claim/cut.py" 1276)]⟩), ⟨[]⟩⟩
def o842 : Obj := ⟨(T "function"), none, (F (C 56 13) (u "__xor__") (u "Expression.__xor__") 3 [] N N N (S "onemember.expressions" 1137) none (R 841) N 0), ⟨[]⟩⟩
def o843 : Obj := ⟨(T "tuple"), none, (.seq ⟨[]⟩ 0), ⟨[]⟩⟩
def o844 : Obj := ⟨N, none, (.fields ⟨[]⟩), ⟨[]⟩⟩
def o845 : Obj := ⟨(T "tuple"), none, (.seq ⟨[(S "self" 1281), (S "other" 1282)]⟩ 0), ⟨[]⟩⟩
def o846 : Obj := ⟨(T "tuple"), none, (.seq ⟨[]⟩ 0), ⟨[]⟩⟩
def o847 : Obj := ⟨N, none, (F (C 56 14) (u "within") (u "Expression.within") 0 [] N N N N none N N 0), ⟨[]⟩⟩
def o848 : Obj := ⟨(T "code"), none, (.fields ⟨[(S "within" 1278), (S "Expression.within" 1279), (S "/claim/cut.py" 1280), (I 410), (I 2), (I 0), (I 0), (I 3), (R 843), (.bool true), (I 181), (R 844), N, (R 845), (R 846), (R 847), (I 1283), (I 410), (S "/claim/cut.py" 1284)]⟩), ⟨[]⟩⟩
def o849 : Obj := ⟨(T "function"), none, (F (C 56 14) (u "within") (u "Expression.within") 3 [] N N N (S "onemember.expressions" 1137) none (R 848) N 0), ⟨[]⟩⟩
def o850 (P : Params) : Obj := ⟨(T "dict"), none, (.dict ⟨[E P "given" 1286 N]⟩ 1), ⟨[]⟩⟩
def o851 : Obj := ⟨(T "tuple"), none, (.seq ⟨[]⟩ 0), ⟨[]⟩⟩
def o852 : Obj := ⟨N, none, (.fields ⟨[]⟩), ⟨[]⟩⟩
def o853 : Obj := ⟨(T "tuple"), none, (.seq ⟨[(S "self" 1290), (S "sets" 1291), (S "given" 1292)]⟩ 0), ⟨[]⟩⟩
def o854 : Obj := ⟨(T "tuple"), none, (.seq ⟨[]⟩ 0), ⟨[]⟩⟩
def o855 : Obj := ⟨N, none, (F (C 56 15) (u "of") (u "Expression.of") 0 [] N N N N none N N 0), ⟨[]⟩⟩
def o856 : Obj := ⟨(T "code"), none, (.fields ⟨[(S "of" 1287), (S "Expression.of" 1288), (S "/claim/cut.py" 1289), (I 413), (I 2), (I 0), (I 1), (I 3), (R 851), (.bool true), (I 181), (R 852), N, (R 853), (R 854), (R 855), (I 1293), (I 413), (S "/claim/cut.py" 1294)]⟩), ⟨[]⟩⟩
def o857 : Obj := ⟨(T "function"), none, (F (C 56 15) (u "of") (u "Expression.of") 3 [] N (R 850) N (S "onemember.expressions" 1137) none (R 856) N 0), ⟨[]⟩⟩
def o858 (P : Params) : Obj := ⟨(T "dict"), none, (.dict ⟨[E P "given" 1296 (.bool false)]⟩ 1), ⟨[]⟩⟩
def o859 : Obj := ⟨(T "tuple"), none, (.seq ⟨[]⟩ 0), ⟨[]⟩⟩
def o860 : Obj := ⟨N, none, (.fields ⟨[]⟩), ⟨[]⟩⟩
def o861 : Obj := ⟨(T "tuple"), none, (.seq ⟨[(S "self" 1300), (S "inside" 1301), (S "given" 1302)]⟩ 0), ⟨[]⟩⟩
def o862 : Obj := ⟨(T "tuple"), none, (.seq ⟨[]⟩ 0), ⟨[]⟩⟩
def o863 : Obj := ⟨N, none, (F (C 56 16) (u "meets") (u "Expression.meets") 0 [] N N N N none N N 0), ⟨[]⟩⟩
def o864 : Obj := ⟨(T "code"), none, (.fields ⟨[(S "meets" 1297), (S "Expression.meets" 1298), (S "/claim/cut.py" 1299), (I 416), (I 2), (I 0), (I 1), (I 3), (R 859), (.bool true), (I 181), (R 860), N, (R 861), (R 862), (R 863), (I 1303), (I 416), (S "/claim/cut.py" 1304)]⟩), ⟨[]⟩⟩
def o865 : Obj := ⟨(T "function"), none, (F (C 56 16) (u "meets") (u "Expression.meets") 3 [] N (R 858) N (S "onemember.expressions" 1137) none (R 864) N 0), ⟨[]⟩⟩
def o866 : Obj := ⟨(T "tuple"), none, (.seq ⟨[(S "_depth" 1306), (S "_fields" 1307), (S "_form" 1308), (S "_has_given" 1309), (S "_leaves" 1310)]⟩ 0), ⟨[]⟩⟩
def o867 (P : Params) : Obj := ⟨(T "dict"), none, (.dict ⟨[E P "__module__" 1146 (S "onemember.expressions" 1137), E P "__firstlineno__" 1150 (.int 345 1149), E P "__init__" 1161 (R 743), E P "read" 1183 (R 752), E P "form" 1191 (R 761), E P "leaves" 1199 (R 769), E P "depth" 1207 (R 777), E P "fields" 1215 (R 785), E P "has_given" 1223 (R 793), E P "__str__" 1230 (R 800), E P "__repr__" 1237 (R 807), E P "__eq__" 1245 (R 814), E P "__or__" 1253 (R 821), E P "__and__" 1261 (R 828), E P "__sub__" 1269 (R 835), E P "__xor__" 1277 (R 842), E P "within" 1285 (R 849), E P "of" 1295 (R 857), E P "meets" 1305 (R 865), E P "__static_attributes__" 1311 (R 866), E P "__dict__" 1313 (R 869), E P "__weakref__" 1315 (R 870), E P "__doc__" 1316 N, E P "__hash__" 1317 N]⟩ 5), ⟨[]⟩⟩
def o868 : Obj := ⟨(T "type"), none, (.cls ⟨(u "Expression"), [(T "object")], [(R 868), (T "object")], 867, (u "Expression"), true, [], [], false, none, false⟩), ⟨[none, none, some (S "Expression" 1139), some (S "Expression" 1147), some (B "object.__new__"), some (.bool true)]⟩⟩
def o869 : Obj := ⟨(T "getset_descriptor"), none, (.fields ⟨[(S "__dict__" 1312), (R 868), (B "function.__dict__"), (B "function.__dict__#set")]⟩), ⟨[]⟩⟩
def o870 : Obj := ⟨(T "getset_descriptor"), none, (.fields ⟨[(S "__weakref__" 1314), (R 868), (B "ExceptionGroup.__weakref__"), N]⟩), ⟨[]⟩⟩
def o871 : Obj := ⟨(T "super"), none, (.fields ⟨[(R 868), (R 868), (R 868)]⟩), ⟨[]⟩⟩
def o872 : Obj := ⟨(T "builtin_function_or_method"), none, (.fields ⟨[(B "object.__init_subclass__"), (R 868)]⟩), ⟨[]⟩⟩
def o873 : Obj := ⟨(T "tuple"), none, (.seq ⟨[]⟩ 0), ⟨[]⟩⟩
def o874 : Obj := ⟨(T "builtin_function_or_method"), none, (.fields ⟨[(B "type.__prepare__"), (T "type")]⟩), ⟨[]⟩⟩
def o875 (P : Params) : Obj := ⟨(T "dict"), none, (.dict ⟨[E P "__module__" 1327 (S "onemember.expressions" 1137), E P "__qualname__" 1329 (S "Fact" 1328), E P "__firstlineno__" 1331 (.int 418 1330), E P "__init__" 1340 (R 886), E P "read" 1364 (R 895), E P "left" 1372 (R 904), E P "right" 1380 (R 912), E P "form" 1388 (R 920), E P "fields" 1396 (R 928), E P "has_given" 1404 (R 936), E P "__str__" 1411 (R 943), E P "__repr__" 1418 (R 950), E P "__eq__" 1426 (R 957), E P "is_kept" 1436 (R 965), E P "__static_attributes__" 1439 (R 966)]⟩ 15), ⟨[]⟩⟩
def o876 : Obj := ⟨(T "tuple"), none, (.seq ⟨[]⟩ 0), ⟨[]⟩⟩
def o877 : Obj := ⟨N, none, (.fields ⟨[(I 420), (I 4), (R 885), (I 427), (I 4), (R 892), (I 439), (I 4), (R 902), (I 443), (I 4), (R 910), (I 447), (I 4), (R 918), (I 451), (I 4), (R 926), (I 455), (I 4), (R 934), (I 458), (I 4), (R 942), (I 461), (I 4), (R 949), (I 464), (I 4), (R 956), (I 467), (I 4), (R 964)]⟩), ⟨[]⟩⟩
def o878 : Obj := ⟨(T "code"), none, (.fields ⟨[(S "Fact" 1322), (S "Fact" 1323), (S "/claim/cut.py" 1324), (I 418), (I 0), (I 0), (I 0), (I 0), (R 876), (.bool false), (I 181), (R 877), N, N, N, N, (I 1325), (I 418), (S "/claim/cut.py" 1326)]⟩), ⟨[]⟩⟩
def o879 : Obj := ⟨(T "frame"), none, .plain, ⟨[some (R 878), some (R 3), some (R 875), none, some (S "onemember.expressions" 1137), none, some (R 0)]⟩⟩
def o880 : Obj := ⟨(T "tuple"), none, (.seq ⟨[]⟩ 0), ⟨[]⟩⟩
def o881 : Obj := ⟨N, none, (.fields ⟨[]⟩), ⟨[]⟩⟩
def o882 : Obj := ⟨(T "tuple"), none, (.seq ⟨[(S "self" 1335), (S "left" 1336), (S "right" 1337)]⟩ 0), ⟨[]⟩⟩
def o883 : Obj := ⟨(T "tuple"), none, (.seq ⟨[]⟩ 0), ⟨[]⟩⟩
def o884 : Obj := ⟨N, none, (F (C 57 0) (u "__init__") (u "Fact.__init__") 0 [] N N N N none N N 0), ⟨[]⟩⟩
def o885 : Obj := ⟨(T "code"), none, (.fields ⟨[(S "__init__" 1332), (S "Fact.__init__" 1333), (S "/claim/cut.py" 1334), (I 420), (I 3), (I 0), (I 0), (I 3), (R 880), (.bool true), (I 181), (R 881), N, (R 882), (R 883), (R 884), (I 1338), (I 420), (S "/claim/cut.py" 1339)]⟩), ⟨[]⟩⟩
def o886 : Obj := ⟨(T "function"), none, (F (C 57 0) (u "__init__") (u "Fact.__init__") 3 [] N N N (S "onemember.expressions" 1137) none (R 885) N 0), ⟨[]⟩⟩
def o887 : Obj := ⟨(T "tuple"), none, (.seq ⟨[]⟩ 0), ⟨[]⟩⟩
def o888 : Obj := ⟨N, none, (.fields ⟨[]⟩), ⟨[]⟩⟩
def o889 : Obj := ⟨(T "tuple"), none, (.seq ⟨[(S "text" 1344), (S "left_text" 1345), (S "_" 1346), (S "right_text" 1347), (S "left" 1348), (S "right" 1349)]⟩ 0), ⟨[]⟩⟩
def o890 : Obj := ⟨(T "tuple"), none, (.seq ⟨[]⟩ 0), ⟨[]⟩⟩
def o891 : Obj := ⟨N, none, (F (C 57 1) (u "read") (u "Fact.read") 0 [] N N N N none N N 0), ⟨[]⟩⟩
def o892 : Obj := ⟨(T "code"), none, (.fields ⟨[(S "read" 1341), (S "Fact.read" 1342), (S "/claim/cut.py" 1343), (I 426), (I 1), (I 0), (I 0), (I 3), (R 887), (.bool true), (I 181), (R 888), N, (R 889), (R 890), (R 891), (I 1350), (I 426), (S "/claim/cut.py" 1351)]⟩), ⟨[]⟩⟩
def o893 : Obj := ⟨(T "function"), none, (F (C 57 1) (u "read") (u "Fact.read") 3 [] N N N (S "onemember.expressions" 1137) (some 896) (R 892) N 0), ⟨[]⟩⟩
def o894 (P : Params) : Obj := ⟨(T "dict"), none, (.dict ⟨[E P "__module__" 1353 (S "onemember.expressions" 1137), E P "__name__" 1356 (S "read" 1355), E P "__qualname__" 1359 (S "Fact.read" 1358), E P "__doc__" 1361 N, E P "__annotations__" 1363 (R 896)]⟩ 5), ⟨[]⟩⟩
def o895 : Obj := ⟨(T "staticmethod"), (some 894), (.fields ⟨[(R 893), (.bool false)]⟩), ⟨[]⟩⟩
def o896 (P : Params) : Obj := ⟨(T "dict"), none, (.dict ⟨[]⟩ 0), ⟨[]⟩⟩
def o897 : Obj := ⟨(T "tuple"), none, (.seq ⟨[]⟩ 0), ⟨[]⟩⟩
def o898 : Obj := ⟨N, none, (.fields ⟨[]⟩), ⟨[]⟩⟩
def o899 : Obj := ⟨(T "tuple"), none, (.seq ⟨[(S "self" 1368)]⟩ 0), ⟨[]⟩⟩
def o900 : Obj := ⟨(T "tuple"), none, (.seq ⟨[]⟩ 0), ⟨[]⟩⟩
def o901 : Obj := ⟨N, none, (F (C 57 2) (u "left") (u "Fact.left") 0 [] N N N N none N N 0), ⟨[]⟩⟩
def o902 : Obj := ⟨(T "code"), none, (.fields ⟨[(S "left" 1365), (S "Fact.left" 1366), (S "/claim/cut.py" 1367), (I 438), (I 1), (I 0), (I 0), (I 3), (R 897), (.bool true), (I 181), (R 898), N, (R 899), (R 900), (R 901), (I 1369), (I 438), (S "/claim/cut.py" 1370)]⟩), ⟨[]⟩⟩
def o903 : Obj := ⟨(T "function"), none, (F (C 57 2) (u "left") (u "Fact.left") 3 [] N N N (S "onemember.expressions" 1137) none (R 902) N 0), ⟨[]⟩⟩
def o904 : Obj := ⟨(T "property"), none, (.fields ⟨[(R 903), N, N, N, (S "left" 1372), (.bool false)]⟩), ⟨[]⟩⟩
def o905 : Obj := ⟨(T "tuple"), none, (.seq ⟨[]⟩ 0), ⟨[]⟩⟩
def o906 : Obj := ⟨N, none, (.fields ⟨[]⟩), ⟨[]⟩⟩
def o907 : Obj := ⟨(T "tuple"), none, (.seq ⟨[(S "self" 1376)]⟩ 0), ⟨[]⟩⟩
def o908 : Obj := ⟨(T "tuple"), none, (.seq ⟨[]⟩ 0), ⟨[]⟩⟩
def o909 : Obj := ⟨N, none, (F (C 57 3) (u "right") (u "Fact.right") 0 [] N N N N none N N 0), ⟨[]⟩⟩
def o910 : Obj := ⟨(T "code"), none, (.fields ⟨[(S "right" 1373), (S "Fact.right" 1374), (S "/claim/cut.py" 1375), (I 442), (I 1), (I 0), (I 0), (I 3), (R 905), (.bool true), (I 181), (R 906), N, (R 907), (R 908), (R 909), (I 1377), (I 442), (S "/claim/cut.py" 1378)]⟩), ⟨[]⟩⟩
def o911 : Obj := ⟨(T "function"), none, (F (C 57 3) (u "right") (u "Fact.right") 3 [] N N N (S "onemember.expressions" 1137) none (R 910) N 0), ⟨[]⟩⟩
def o912 : Obj := ⟨(T "property"), none, (.fields ⟨[(R 911), N, N, N, (S "right" 1380), (.bool false)]⟩), ⟨[]⟩⟩
def o913 : Obj := ⟨(T "tuple"), none, (.seq ⟨[]⟩ 0), ⟨[]⟩⟩
def o914 : Obj := ⟨N, none, (.fields ⟨[]⟩), ⟨[]⟩⟩
def o915 : Obj := ⟨(T "tuple"), none, (.seq ⟨[(S "self" 1384)]⟩ 0), ⟨[]⟩⟩
def o916 : Obj := ⟨(T "tuple"), none, (.seq ⟨[]⟩ 0), ⟨[]⟩⟩
def o917 : Obj := ⟨N, none, (F (C 57 4) (u "form") (u "Fact.form") 0 [] N N N N none N N 0), ⟨[]⟩⟩
def o918 : Obj := ⟨(T "code"), none, (.fields ⟨[(S "form" 1381), (S "Fact.form" 1382), (S "/claim/cut.py" 1383), (I 446), (I 1), (I 0), (I 0), (I 3), (R 913), (.bool true), (I 181), (R 914), N, (R 915), (R 916), (R 917), (I 1385), (I 446), (S "/claim/cut.py" 1386)]⟩), ⟨[]⟩⟩
def o919 : Obj := ⟨(T "function"), none, (F (C 57 4) (u "form") (u "Fact.form") 3 [] N N N (S "onemember.expressions" 1137) none (R 918) N 0), ⟨[]⟩⟩
def o920 : Obj := ⟨(T "property"), none, (.fields ⟨[(R 919), N, N, N, (S "form" 1388), (.bool false)]⟩), ⟨[]⟩⟩
def o921 : Obj := ⟨(T "tuple"), none, (.seq ⟨[]⟩ 0), ⟨[]⟩⟩
def o922 : Obj := ⟨N, none, (.fields ⟨[]⟩), ⟨[]⟩⟩
def o923 : Obj := ⟨(T "tuple"), none, (.seq ⟨[(S "self" 1392)]⟩ 0), ⟨[]⟩⟩
def o924 : Obj := ⟨(T "tuple"), none, (.seq ⟨[]⟩ 0), ⟨[]⟩⟩
def o925 : Obj := ⟨N, none, (F (C 57 5) (u "fields") (u "Fact.fields") 0 [] N N N N none N N 0), ⟨[]⟩⟩
def o926 : Obj := ⟨(T "code"), none, (.fields ⟨[(S "fields" 1389), (S "Fact.fields" 1390), (S "/claim/cut.py" 1391), (I 450), (I 1), (I 0), (I 0), (I 3), (R 921), (.bool true), (I 181), (R 922), N, (R 923), (R 924), (R 925), (I 1393), (I 450), (S "/claim/cut.py" 1394)]⟩), ⟨[]⟩⟩
def o927 : Obj := ⟨(T "function"), none, (F (C 57 5) (u "fields") (u "Fact.fields") 3 [] N N N (S "onemember.expressions" 1137) none (R 926) N 0), ⟨[]⟩⟩
def o928 : Obj := ⟨(T "property"), none, (.fields ⟨[(R 927), N, N, N, (S "fields" 1396), (.bool false)]⟩), ⟨[]⟩⟩
def o929 : Obj := ⟨(T "tuple"), none, (.seq ⟨[]⟩ 0), ⟨[]⟩⟩
def o930 : Obj := ⟨N, none, (.fields ⟨[]⟩), ⟨[]⟩⟩
def o931 : Obj := ⟨(T "tuple"), none, (.seq ⟨[(S "self" 1400)]⟩ 0), ⟨[]⟩⟩
def o932 : Obj := ⟨(T "tuple"), none, (.seq ⟨[]⟩ 0), ⟨[]⟩⟩
def o933 : Obj := ⟨N, none, (F (C 57 6) (u "has_given") (u "Fact.has_given") 0 [] N N N N none N N 0), ⟨[]⟩⟩
def o934 : Obj := ⟨(T "code"), none, (.fields ⟨[(S "has_given" 1397), (S "Fact.has_given" 1398), (S "/claim/cut.py" 1399), (I 454), (I 1), (I 0), (I 0), (I 3), (R 929), (.bool true), (I 181), (R 930), N, (R 931), (R 932), (R 933), (I 1401), (I 454), (S "/claim/cut.py" 1402)]⟩), ⟨[]⟩⟩
def o935 : Obj := ⟨(T "function"), none, (F (C 57 6) (u "has_given") (u "Fact.has_given") 3 [] N N N (S "onemember.expressions" 1137) none (R 934) N 0), ⟨[]⟩⟩
def o936 : Obj := ⟨(T "property"), none, (.fields ⟨[(R 935), N, N, N, (S "has_given" 1404), (.bool false)]⟩), ⟨[]⟩⟩
def o937 : Obj := ⟨(T "tuple"), none, (.seq ⟨[]⟩ 0), ⟨[]⟩⟩
def o938 : Obj := ⟨N, none, (.fields ⟨[]⟩), ⟨[]⟩⟩
def o939 : Obj := ⟨(T "tuple"), none, (.seq ⟨[(S "self" 1408)]⟩ 0), ⟨[]⟩⟩
def o940 : Obj := ⟨(T "tuple"), none, (.seq ⟨[]⟩ 0), ⟨[]⟩⟩
def o941 : Obj := ⟨N, none, (F (C 57 7) (u "__str__") (u "Fact.__str__") 0 [] N N N N none N N 0), ⟨[]⟩⟩
def o942 : Obj := ⟨(T "code"), none, (.fields ⟨[(S "__str__" 1405), (S "Fact.__str__" 1406), (S "/claim/cut.py" 1407), (I 458), (I 1), (I 0), (I 0), (I 3), (R 937), (.bool true), (I 181), (R 938), N, (R 939), (R 940), (R 941), (I 1409), (I 458), (S "/claim/cut.py" 1410)]⟩), ⟨[]⟩⟩
def o943 : Obj := ⟨(T "function"), none, (F (C 57 7) (u "__str__") (u "Fact.__str__") 3 [] N N N (S "onemember.expressions" 1137) none (R 942) N 0), ⟨[]⟩⟩
def o944 : Obj := ⟨(T "tuple"), none, (.seq ⟨[]⟩ 0), ⟨[]⟩⟩
def o945 : Obj := ⟨N, none, (.fields ⟨[]⟩), ⟨[]⟩⟩
def o946 : Obj := ⟨(T "tuple"), none, (.seq ⟨[(S "self" 1415)]⟩ 0), ⟨[]⟩⟩
def o947 : Obj := ⟨(T "tuple"), none, (.seq ⟨[]⟩ 0), ⟨[]⟩⟩
def o948 : Obj := ⟨N, none, (F (C 57 8) (u "__repr__") (u "Fact.__repr__") 0 [] N N N N none N N 0), ⟨[]⟩⟩
def o949 : Obj := ⟨(T "code"), none, (.fields ⟨[(S "__repr__" 1412), (S "Fact.__repr__" 1413), (S "/claim/cut.py" 1414), (I 461), (I 1), (I 0), (I 0), (I 3), (R 944), (.bool true), (I 181), (R 945), N, (R 946), (R 947), (R 948), (I 1416), (I 461), (S "/claim/cut.py" 1417)]⟩), ⟨[]⟩⟩
def o950 : Obj := ⟨(T "function"), none, (F (C 57 8) (u "__repr__") (u "Fact.__repr__") 3 [] N N N (S "onemember.expressions" 1137) none (R 949) N 0), ⟨[]⟩⟩
def o951 : Obj := ⟨(T "tuple"), none, (.seq ⟨[]⟩ 0), ⟨[]⟩⟩
def o952 : Obj := ⟨N, none, (.fields ⟨[]⟩), ⟨[]⟩⟩
def o953 : Obj := ⟨(T "tuple"), none, (.seq ⟨[(S "self" 1422), (S "other" 1423)]⟩ 0), ⟨[]⟩⟩
def o954 : Obj := ⟨(T "tuple"), none, (.seq ⟨[]⟩ 0), ⟨[]⟩⟩
def o955 : Obj := ⟨N, none, (F (C 57 9) (u "__eq__") (u "Fact.__eq__") 0 [] N N N N none N N 0), ⟨[]⟩⟩
def o956 : Obj := ⟨(T "code"), none, (.fields ⟨[(S "__eq__" 1419), (S "Fact.__eq__" 1420), (S "/claim/cut.py" 1421), (I 464), (I 2), (I 0), (I 0), (I 3), (R 951), (.bool true), (I 181), (R 952), N, (R 953), (R 954), (R 955), (I 1424), (I 464), (S "/claim/cut.py" 1425)]⟩), ⟨[]⟩⟩
def o957 : Obj := ⟨(T "function"), none, (F (C 57 9) (u "__eq__") (u "Fact.__eq__") 3 [] N N N (S "onemember.expressions" 1137) none (R 956) N 0), ⟨[]⟩⟩
def o958 (P : Params) : Obj := ⟨(T "dict"), none, (.dict ⟨[E P "given" 1427 N]⟩ 1), ⟨[]⟩⟩
def o959 : Obj := ⟨(T "tuple"), none, (.seq ⟨[]⟩ 0), ⟨[]⟩⟩
def o960 : Obj := ⟨N, none, (.fields ⟨[]⟩), ⟨[]⟩⟩
def o961 : Obj := ⟨(T "tuple"), none, (.seq ⟨[(S "self" 1431), (S "sets" 1432), (S "given" 1433)]⟩ 0), ⟨[]⟩⟩
def o962 : Obj := ⟨(T "tuple"), none, (.seq ⟨[]⟩ 0), ⟨[]⟩⟩
def o963 : Obj := ⟨N, none, (F (C 57 10) (u "is_kept") (u "Fact.is_kept") 0 [] N N N N none N N 0), ⟨[]⟩⟩
def o964 : Obj := ⟨(T "code"), none, (.fields ⟨[(S "is_kept" 1428), (S "Fact.is_kept" 1429), (S "/claim/cut.py" 1430), (I 467), (I 2), (I 0), (I 1), (I 3), (R 959), (.bool true), (I 181), (R 960), N, (R 961), (R 962), (R 963), (I 1434), (I 467), (S "/claim/cut.py" 1435)]⟩), ⟨[]⟩⟩
def o965 : Obj := ⟨(T "function"), none, (F (C 57 10) (u "is_kept") (u "Fact.is_kept") 3 [] N (R 958) N (S "onemember.expressions" 1137) none (R 964) N 0), ⟨[]⟩⟩
def o966 : Obj := ⟨(T "tuple"), none, (.seq ⟨[(S "_left" 1437), (S "_right" 1438)]⟩ 0), ⟨[]⟩⟩
def o967 (P : Params) : Obj := ⟨(T "dict"), none, (.dict ⟨[E P "__module__" 1327 (S "onemember.expressions" 1137), E P "__firstlineno__" 1331 (.int 418 1330), E P "__init__" 1340 (R 886), E P "read" 1364 (R 895), E P "left" 1372 (R 904), E P "right" 1380 (R 912), E P "form" 1388 (R 920), E P "fields" 1396 (R 928), E P "has_given" 1404 (R 936), E P "__str__" 1411 (R 943), E P "__repr__" 1418 (R 950), E P "__eq__" 1426 (R 957), E P "is_kept" 1436 (R 965), E P "__static_attributes__" 1439 (R 966), E P "__dict__" 1441 (R 969), E P "__weakref__" 1443 (R 970), E P "__doc__" 1444 N, E P "__hash__" 1445 N]⟩ 5), ⟨[]⟩⟩
def o968 : Obj := ⟨(T "type"), none, (.cls ⟨(u "Fact"), [(T "object")], [(R 968), (T "object")], 967, (u "Fact"), true, [], [], false, none, false⟩), ⟨[none, none, some (S "Fact" 1320), some (S "Fact" 1328), some (B "object.__new__"), some (.bool true)]⟩⟩
def o969 : Obj := ⟨(T "getset_descriptor"), none, (.fields ⟨[(S "__dict__" 1440), (R 968), (B "function.__dict__"), (B "function.__dict__#set")]⟩), ⟨[]⟩⟩
def o970 : Obj := ⟨(T "getset_descriptor"), none, (.fields ⟨[(S "__weakref__" 1442), (R 968), (B "ExceptionGroup.__weakref__"), N]⟩), ⟨[]⟩⟩
def o971 : Obj := ⟨(T "super"), none, (.fields ⟨[(R 968), (R 968), (R 968)]⟩), ⟨[]⟩⟩
def o972 : Obj := ⟨(T "builtin_function_or_method"), none, (.fields ⟨[(B "object.__init_subclass__"), (R 968)]⟩), ⟨[]⟩⟩
def t3 (P : Params) : BT := (n (boot_o_0 P) (n (boot_o_1 P) (n (o3_3 P) (n (boot_o_7 P) (n o15 (n o31_2 (n (o63 P) (n o127 (n o255 (n o511 z z) (n o767 z z)) (n o383 (n o639 z z) (n o895 z z))) (n o191 (n o319 (n o575 z z) (n o831 z z)) (n o447 (n o703 z z) (n o959 z z)))) (n (o95 P) (n o159 (n o287 (n o543 z z) (n o799 z z)) (n o415 (n o671 z z) (n o927 z z))) (n o223 (n o351 (n o607 z z) (n o863 z z)) (n o479 (n o735 z z) z)))) (n o47 (n o79 (n o143 (n o271 (n o527 z z) (n o783 z z)) (n o399 (n o655 z z) (n o911 z z))) (n o207 (n (o335 P) (n o591 z z) (n o847 z z)) (n o463 (n o719 z z) z))) (n o111 (n o175 (n (o303 P) (n o559 z z) (n o815 z z)) (n o431 (n o687 z z) (n o943 z z))) (n o239 (n o367 (n o623 z z) (n o879 z z)) (n o495 (n (o751 P) z z) z))))) (n o23 (n o39 (n o71 (n o135 (n o263 (n o519 z z) (n o775 z z)) (n o391 (n o647 z z) (n o903 z z))) (n o199 (n o327 (n o583 z z) (n o839 z z)) (n (o455 P) (n o711 z z) (n (o967 P) z z)))) (n o103 (n o167 (n o295 (n o551 z z) (n o807 z z)) (n o423 (n o679 z z) (n o935 z z))) (n o231 (n o359 (n o615 z z) (n o871 z z)) (n o487 (n o743 z z) z)))) (n o55 (n o87 (n o151 (n o279 (n o535 z z) (n o791 z z)) (n o407 (n o663 z z) (n o919 z z))) (n (o215 P) (n o343 (n o599 z z) (n o855 z z)) (n o471 (n o727 z z) z))) (n o119 (n o183 (n o311 (n o567 z z) (n o823 z z)) (n o439 (n o695 z z) (n o951 z z))) (n (o247 P) (n o375 (n o631 z z) (n o887 z z)) (n o503 (n o759 z z) z)))))) (n o11 (n o19 (n o35 (n o67 (n o131 (n o259 (n o515 z z) (n o771 z z)) (n o387 (n o643 z z) (n o899 z z))) (n o195 (n o323 (n o579 z z) (n o835 z z)) (n o451 (n o707 z z) (n o963 z z)))) (n o99 (n o163 (n (o291 P) (n o547 z z) (n o803 z z)) (n o419 (n o675 z z) (n o931 z z))) (n o227 (n o355 (n o611 z z) (n (o867 P) z z)) (n o483 (n o739 z z) z)))) (n o51 (n o83 (n o147 (n o275 (n o531 z z) (n o787 z z)) (n o403 (n o659 z z) (n o915 z z))) (n o211 (n o339 (n o595 z z) (n o851 z z)) (n o467 (n o723 z z) z))) (n o115 (n o179 (n o307 (n o563 z z) (n o819 z z)) (n o435 (n o691 z z) (n o947 z z))) (n o243 (n o371 (n o627 z z) (n o883 z z)) (n o499 (n o755 z z) z))))) (n o27 (n (o43 P) (n o75 (n (o139 P) (n o267 (n o523 z z) (n o779 z z)) (n o395 (n o651 z z) (n o907 z z))) (n o203 (n o331 (n o587 z z) (n o843 z z)) (n o459 (n o715 z z) (n o971 z z)))) (n o107 (n (o171 P) (n o299 (n o555 z z) (n o811 z z)) (n o427 (n o683 z z) (n o939 z z))) (n o235 (n o363 (n o619 z z) (n (o875 P) z z)) (n o491 (n o747 z z) z)))) (n o59 (n o91 (n o155 (n o283 (n o539 z z) (n o795 z z)) (n o411 (n o667 z z) (n o923 z z))) (n o219 (n o347 (n o603 z z) (n o859 z z)) (n o475 (n o731 z z) z))) (n o123 (n o187 (n o315 (n o571 z z) (n o827 z z)) (n o443 (n o699 z z) (n o955 z z))) (n o251 (n o379 (n o635 z z) (n o891 z z)) (n o507 (n o763 z z) z))))))) (n (boot_o_5 P) (n (boot_o_9 P) (n o17 (n o33 (n o65 (n o129 (n o257 (n o513 z z) (n o769 z z)) (n o385 (n o641 z z) (n o897 z z))) (n o193 (n o321 (n o577 z z) (n o833 z z)) (n o449 (n o705 z z) (n o961 z z)))) (n o97 (n o161 (n o289 (n o545 z z) (n o801 z z)) (n o417 (n o673 z z) (n o929 z z))) (n o225 (n o353 (n o609 z z) (n o865 z z)) (n o481 (n o737 z z) z)))) (n o49 (n o81 (n o145 (n o273 (n o529 z z) (n o785 z z)) (n o401 (n o657 z z) (n o913 z z))) (n (o209 P) (n o337 (n o593 z z) (n o849 z z)) (n o465 (n o721 z z) z))) (n o113 (n (o177 P) (n o305 (n o561 z z) (n o817 z z)) (n o433 (n o689 z z) (n o945 z z))) (n o241 (n o369 (n o625 z z) (n o881 z z)) (n o497 (n (o753 P) z z) z))))) (n o25 (n o41 (n o73 (n o137 (n o265 (n o521 z z) (n o777 z z)) (n o393 (n o649 z z) (n o905 z z))) (n o201 (n o329 (n o585 z z) (n o841 z z)) (n o457 (n o713 z z) (n o969 z z)))) (n o105 (n o169 (n (o297 P) (n o553 z z) (n o809 z z)) (n o425 (n o681 z z) (n o937 z z))) (n o233 (n o361 (n o617 z z) (n o873 z z)) (n o489 (n o745 z z) z)))) (n o57_2 (n o89 (n o153 (n o281 (n o537 z z) (n o793 z z)) (n o409 (n o665 z z) (n o921 z z))) (n o217 (n o345 (n o601 z z) (n o857 z z)) (n o473 (n o729 z z) z))) (n o121 (n o185 (n o313 (n o569 z z) (n o825 z z)) (n o441 (n o697 z z) (n o953 z z))) (n o249 (n o377 (n o633 z z) (n o889 z z)) (n o505 (n o761 z z) z)))))) (n o13 (n o21 (n (o37 P) (n o69 (n (o133 P) (n o261 (n o517 z z) (n o773 z z)) (n o389 (n o645 z z) (n o901 z z))) (n o197 (n o325 (n o581 z z) (n o837 z z)) (n o453 (n o709 z z) (n o965 z z)))) (n (o101 P) (n o165 (n o293 (n o549 z z) (n o805 z z)) (n o421 (n o677 z z) (n o933 z z))) (n o229 (n o357 (n o613 z z) (n o869 z z)) (n o485 (n o741 z z) z)))) (n o53 (n o85 (n o149 (n o277 (n o533 z z) (n o789 z z)) (n o405 (n o661 z z) (n o917 z z))) (n o213 (n o341 (n o597 z z) (n o853 z z)) (n o469 (n o725 z z) z))) (n o117 (n o181 (n o309 (n o565 z z) (n o821 z z)) (n o437 (n o693 z z) (n o949 z z))) (n o245 (n o373 (n (o629 P) z z) (n o885 z z)) (n o501 (n o757 z z) z))))) (n o29 (n o45 (n o77 (n o141 (n o269 (n o525 z z) (n o781 z z)) (n o397 (n o653 z z) (n o909 z z))) (n o205 (n o333 (n o589 z z) (n o845 z z)) (n o461 (n o717 z z) z))) (n o109 (n o173 (n o301 (n o557 z z) (n o813 z z)) (n o429 (n o685 z z) (n o941 z z))) (n o237 (n o365 (n (o621 P) z z) (n o877 z z)) (n o493 (n o749 z z) z)))) (n o61 (n o93 (n o157 (n (o285 P) (n o541 z z) (n o797 z z)) (n o413 (n o669 z z) (n o925 z z))) (n o221 (n o349 (n o605 z z) (n o861 z z)) (n o477 (n o733 z z) z))) (n o125 (n o189 (n o317 (n o573 z z) (n o829 z z)) (n o445 (n o701 z z) (n o957 z z))) (n (o253 P) (n o381 (n o637 z z) (n o893 z z)) (n o509 (n o765 z z) z)))))))) (n (o2_1 P) (n (boot_o_4 P) (n (boot_o_8 P) (n o16 (n o32 (n o64 (n o128 (n o256 (n o512 z z) (n o768 z z)) (n o384 (n o640 z z) (n (o896 P) z z))) (n o192 (n o320 (n o576 z z) (n o832 z z)) (n o448 (n o704 z z) (n o960 z z)))) (n o96 (n o160 (n o288 (n o544 z z) (n o800 z z)) (n o416 (n o672 z z) (n o928 z z))) (n o224 (n o352 (n o608 z z) (n o864 z z)) (n o480 (n o736 z z) z)))) (n o48 (n o80 (n o144 (n (o272 P) (n o528 z z) (n o784 z z)) (n o400 (n o656 z z) (n o912 z z))) (n o208 (n o336 (n o592 z z) (n o848 z z)) (n o464 (n o720 z z) z))) (n o112 (n o176 (n o304 (n o560 z z) (n o816 z z)) (n o432 (n o688 z z) (n o944 z z))) (n o240 (n o368 (n o624 z z) (n o880 z z)) (n o496 (n o752 z z) z))))) (n (o24 P) (n o40 (n o72 (n o136 (n o264 (n o520 z z) (n o776 z z)) (n o392 (n (o648 P) z z) (n o904 z z))) (n o200 (n o328 (n o584 z z) (n o840 z z)) (n o456 (n o712 z z) (n o968 z z)))) (n o104 (n o168 (n o296 (n o552 z z) (n o808 z z)) (n o424 (n o680 z z) (n o936 z z))) (n o232 (n o360 (n o616 z z) (n o872 z z)) (n o488 (n o744 z z) z)))) (n (o56 P) (n o88 (n (o152 P) (n o280 (n o536 z z) (n o792 z z)) (n o408 (n o664 z z) (n o920 z z))) (n o216 (n o344 (n o600 z z) (n o856 z z)) (n (o472 P) (n o728 z z) z))) (n (o120 P) (n o184 (n o312 (n o568 z z) (n o824 z z)) (n o440 (n o696 z z) (n o952 z z))) (n o248 (n o376 (n o632 z z) (n o888 z z)) (n o504 (n o760 z z) z)))))) (n o12_3 (n o20 (n o36 (n o68 (n o132 (n o260 (n o516 z z) (n o772 z z)) (n o388 (n o644 z z) (n o900 z z))) (n (o196 P) (n o324 (n o580 z z) (n o836 z z)) (n o452 (n o708 z z) (n o964 z z)))) (n o100 (n o164 (n o292 (n o548 z z) (n o804 z z)) (n o420 (n o676 z z) (n o932 z z))) (n (o228 P) (n o356 (n o612 z z) (n o868 z z)) (n (o484 P) (n o740 z z) z)))) (n o52 (n o84 (n o148 (n o276 (n o532 z z) (n o788 z z)) (n o404 (n o660 z z) (n o916 z z))) (n o212 (n o340 (n o596 z z) (n o852 z z)) (n o468 (n o724 z z) z))) (n o116 (n o180 (n o308 (n o564 z z) (n o820 z z)) (n o436 (n o692 z z) (n o948 z z))) (n o244 (n o372 (n o628 z z) (n o884 z z)) (n o500 (n o756 z z) z))))) (n o28 (n o44_2 (n (o76 P) (n o140 (n o268 (n o524 z z) (n o780 z z)) (n o396 (n o652 z z) (n o908 z z))) (n o204 (n o332 (n o588 z z) (n o844 z z)) (n o460 (n o716 z z) (n o972 z z)))) (n o108 (n o172 (n o300 (n o556 z z) (n o812 z z)) (n o428 (n o684 z z) (n o940 z z))) (n o236 (n o364 (n o620 z z) (n o876 z z)) (n o492 (n o748 z z) z)))) (n o60 (n o92 (n o156 (n o284 (n o540 z z) (n o796 z z)) (n o412 (n o668 z z) (n o924 z z))) (n o220 (n o348 (n o604 z z) (n o860 z z)) (n o476 (n (o732 P) z z) z))) (n o124 (n o188 (n (o316 P) (n o572 z z) (n o828 z z)) (n o444 (n o700 z z) (n o956 z z))) (n o252 (n o380 (n o636 z z) (n o892 z z)) (n o508 (n o764 z z) z))))))) (n (boot_o_6 P) (n (boot_o_10 P) (n o18 (n o34 (n o66 (n o130 (n o258 (n o514 z z) (n o770 z z)) (n o386 (n o642 z z) (n o898 z z))) (n o194 (n (o322 P) (n o578 z z) (n o834 z z)) (n o450 (n o706 z z) (n o962 z z)))) (n o98 (n o162 (n o290 (n o546 z z) (n o802 z z)) (n o418 (n o674 z z) (n o930 z z))) (n o226 (n o354 (n o610 z z) (n o866 z z)) (n (o482 P) (n o738 z z) z)))) (n (o50 P) (n (o82 P) (n o146 (n o274 (n o530 z z) (n o786 z z)) (n o402 (n o658 z z) (n o914 z z))) (n o210 (n o338 (n o594 z z) (n (o850 P) z z)) (n o466 (n o722 z z) z))) (n (o114 P) (n o178 (n o306 (n o562 z z) (n o818 z z)) (n o434 (n o690 z z) (n o946 z z))) (n o242 (n o370 (n o626 z z) (n o882 z z)) (n o498 (n o754 z z) z))))) (n o26 (n o42 (n o74 (n o138 (n (o266 P) (n o522 z z) (n o778 z z)) (n o394 (n (o650 P) z z) (n o906 z z))) (n o202 (n o330 (n o586 z z) (n o842 z z)) (n o458 (n o714 z z) (n o970 z z)))) (n o106 (n o170 (n o298 (n o554 z z) (n o810 z z)) (n o426 (n o682 z z) (n o938 z z))) (n (o234 P) (n o362 (n o618 z z) (n o874 z z)) (n o490 (n o746 z z) z)))) (n o58 (n o90 (n o154 (n o282 (n o538 z z) (n o794 z z)) (n o410 (n o666 z z) (n o922 z z))) (n o218 (n o346 (n o602 z z) (n (o858 P) z z)) (n (o474 P) (n o730 z z) z))) (n o122 (n o186 (n o314 (n o570 z z) (n o826 z z)) (n o442 (n o698 z z) (n o954 z z))) (n o250 (n o378 (n o634 z z) (n o890 z z)) (n o506 (n o762 z z) z)))))) (n o14 (n o22 (n o38 (n o70 (n o134 (n o262 (n o518 z z) (n o774 z z)) (n o390 (n o646 z z) (n o902 z z))) (n o198 (n o326 (n o582 z z) (n o838 z z)) (n o454 (n (o710 P) z z) (n o966 z z)))) (n o102 (n o166 (n o294 (n o550 z z) (n o806 z z)) (n o422 (n o678 z z) (n o934 z z))) (n o230 (n o358 (n o614 z z) (n o870 z z)) (n o486 (n o742 z z) z)))) (n o54 (n o86 (n o150 (n o278 (n o534 z z) (n o790 z z)) (n o406 (n o662 z z) (n o918 z z))) (n o214 (n o342 (n o598 z z) (n o854 z z)) (n o470 (n o726 z z) z))) (n o118 (n o182 (n o310 (n o566 z z) (n o822 z z)) (n o438 (n o694 z z) (n o950 z z))) (n o246 (n o374 (n o630 z z) (n o886 z z)) (n o502 (n o758 z z) z))))) (n (o30 P) (n o46 (n o78 (n o142 (n o270 (n o526 z z) (n o782 z z)) (n o398 (n o654 z z) (n o910 z z))) (n o206 (n o334 (n o590 z z) (n o846 z z)) (n o462 (n o718 z z) z))) (n o110 (n o174 (n o302 (n o558 z z) (n o814 z z)) (n o430 (n o686 z z) (n o942 z z))) (n o238 (n o366 (n o622 z z) (n o878 z z)) (n o494 (n o750 z z) z)))) (n o62 (n o94 (n (o158 P) (n o286 (n o542 z z) (n o798 z z)) (n o414 (n o670 z z) (n o926 z z))) (n o222 (n o350 (n o606 z z) (n o862 z z)) (n o478 (n o734 z z) z))) (n o126 (n (o190 P) (n o318 (n o574 z z) (n o830 z z)) (n o446 (n o702 z z) (n (o958 P) z z))) (n o254 (n o382 (n o638 z z) (n (o894 P) z z)) (n o510 (n o766 z z) z)))))))))
def o3_4 (P : Params) : Obj := ⟨(T "dict"), none, (.dict ⟨[E P "__name__" 165 (S "law_onemember_k10_fields_and_modes_refused" 1869), E P "__doc__" 166 N, E P "__package__" 167 N, E P "__loader__" 168 (B "__main__.__loader__#opaque"), E P "__spec__" 169 N, E P "__annotations__" 170 (R 6), E P "__builtins__" 171 (R 4), E P "__file__" 173 (S "/claim/cut.py" 172), E P "__cached__" 174 N, E P "_wall" 193 (R 21), E P "SetError" 213 (R 31), E P "StateError" 231 (R 44), E P "LimitError" 251 (R 57), E P "NotMembers" 276 (R 77), E P "NotAChange" 301 (R 96), E P "NotAnExpression" 326 (R 115), E P "InvalidForm" 351 (R 134), E P "InvalidText" 376 (R 153), E P "UnknownField" 401 (R 172), E P "InvalidNames" 426 (R 191), E P "InvalidSets" 451 (R 210), E P "InvalidFields" 476 (R 229), E P "InvalidModes" 501 (R 248), E P "InvalidCalls" 526 (R 267), E P "InvalidViews" 551 (R 286), E P "NotComparable" 567 (R 298), E P "TooManyLeaves" 592 (R 317), E P "TooManyLevels" 617 (R 336), E P "MOST_FIELDS" 619 (.int 4 618), E P "MOST_MODES" 621 (.int 4 620), E P "MOST_CALLS" 623 (.int 8 622), E P "MOST_VIEWS" 625 (.int 4 624), E P "MOST_FACTS" 627 (.int 5 626), E P "MOST_LEAVES" 629 (.int 200 628), E P "MOST_DEPTH" 631 (.int 20 630), E P "LONGEST_NAME" 635 (.int 8 634), E P "is_name" 642 (R 345), E P "wrong_at" 651 (R 352), E P "wrong_or_twice_at" 661 (R 359), E P "SIGNS" 668 (R 360), E P "GIVEN" 670 (S "given" 669), E P "NONE" 672 (S "none" 671), E P "is_field" 679 (R 367), E P "form_size" 685 (R 372), E P "is_triple" 692 (R 379), E P "is_form_of" 698 (R 384), E P "check_leaves" 705 (R 391), E P "check_depth" 712 (R 398), E P "form_text" 722 (R 405), E P "side_text" 729 (R 412), E P "read_counted" 740 (R 419), E P "take_word" 749 (R 426), E P "joined" 761 (R 433), E P "form_leaves" 768 (R 440), E P "form_fields" 774 (R 445), E P "form_value" 787 (R 452), E P "Members" 1008 (R 622), E P "Change" 1122 (R 711), E P "check_members" 1129 (R 722), E P "check_change" 1136 (R 729), E P "Expression" 1319 (R 868), E P "Fact" 1447 (R 968), E P "fields_of_two" 1455 (R 979), E P "check_expression" 1462 (R 986), E P "with_sign" 1471 (R 993), E P "all_sets" 1482 (R 1000), E P "field_sets" 1492 (R 1007), E P "is_field_set" 1499 (R 1014), E P "is_tuple_of" 1509 (R 1021), E P "ONE" 1513 (S "one" 1512), E P "NO_ARGUMENT" 1515 (S "none" 1514), E P "SORTS" 1519 (R 1022), E P "check_fields" 1528 (R 1029), E P "check_modes" 1536 (R 1036), E P "check_calls" 1548 (R 1043), E P "check_views" 1560 (R 1050), E P "is_call" 1574 (R 1057), E P "is_case" 1589 (R 1064), E P "are_facts" 1598 (R 1071), E P "are_updates" 1609 (R 1078), E P "is_view" 1615 (R 1083), E P "design_lines" 1623 (R 1088), E P "case_lines" 1629 (R 1093), E P "read_parts" 1635 (R 1098), E P "as_cases" 1641 (R 1103), E P "take_call_line" 1657 (R 1110), E P "take_view_line" 1666 (R 1117), E P "read_form" 1674 (R 1124), E P "Design" 1868 (R 1274), E P "_law_cell" 1880 (R 1285), E P "_law_pool" 1887 (R 1292), E P "_law_draw" 1897 (R 1299), E P "_law_names" 1903 (R 1304), E P "_law_caught" 1916 (R 1311), E P "_law_bent" 1928 (R 1318), E P "_law_right" 1945 (R 1325), E P "law" 1951 (R 1330)]⟩ 97), ⟨[]⟩⟩
def o12_4 : Obj := ⟨N, none, (.fields ⟨[(I 1), (I 0), (R 20), (I 5), (I 0), (R 27), (I 7), (I 0), (R 40), (I 9), (I 0), (R 53), (I 11), (I 0), (R 66), (I 15), (I 0), (R 85), (I 19), (I 0), (R 104), (I 23), (I 0), (R 123), (I 27), (I 0), (R 142), (I 31), (I 0), (R 161), (I 35), (I 0), (R 180), (I 39), (I 0), (R 199), (I 43), (I 0), (R 218), (I 47), (I 0), (R 237), (I 51), (I 0), (R 256), (I 55), (I 0), (R 275), (I 59), (I 0), (R 294), (I 61), (I 0), (R 306), (I 65), (I 0), (R 325), (I 78), (I 0), (R 344), (I 84), (I 0), (R 351), (I 89), (I 0), (R 358), (I 100), (I 0), (R 366), (I 102), (I 0), (R 371), (I 117), (I 0), (R 378), (I 119), (I 0), (R 383), (I 133), (I 0), (R 390), (I 136), (I 0), (R 397), (I 139), (I 0), (R 404), (I 144), (I 0), (R 411), (I 148), (I 0), (R 418), (I 162), (I 0), (R 425), (I 176), (I 0), (R 432), (I 179), (I 0), (R 439), (I 183), (I 0), (R 444), (I 186), (I 0), (R 451), (I 200), (I 0), (R 458), (I 294), (I 0), (R 632), (I 338), (I 0), (R 721), (I 341), (I 0), (R 728), (I 345), (I 0), (R 735), (I 418), (I 0), (R 878), (I 469), (I 0), (R 978), (I 471), (I 0), (R 985), (I 474), (I 0), (R 992), (I 477), (I 0), (R 999), (I 487), (I 0), (R 1006), (I 496), (I 0), (R 1013), (I 501), (I 0), (R 1020), (I 507), (I 0), (R 1028), (I 513), (I 0), (R 1035), (I 519), (I 0), (R 1042), (I 527), (I 0), (R 1049), (I 535), (I 0), (R 1056), (I 547), (I 0), (R 1063), (I 555), (I 0), (R 1070), (I 562), (I 0), (R 1077), (I 573), (I 0), (R 1082), (I 578), (I 0), (R 1087), (I 588), (I 0), (R 1092), (I 593), (I 0), (R 1097), (I 606), (I 0), (R 1102), (I 608), (I 0), (R 1109), (I 624), (I 0), (R 1116), (I 632), (I 0), (R 1123), (I 636), (I 0), (R 1130), (I 723), (I 0), (R 1284), (I 730), (I 0), (R 1291), (I 732), (I 0), (R 1298), (I 741), (I 0), (R 1303), (I 750), (I 0), (R 1310), (I 775), (I 0), (R 1317), (I 785), (I 0), (R 1324), (I 804), (I 0), (R 1329)]⟩), ⟨[]⟩⟩
def o973 : Obj := ⟨(T "tuple"), none, (.seq ⟨[]⟩ 0), ⟨[]⟩⟩
def o974 : Obj := ⟨N, none, (.fields ⟨[]⟩), ⟨[]⟩⟩
def o975 : Obj := ⟨(T "tuple"), none, (.seq ⟨[(S "one" 1451), (S "other" 1452)]⟩ 0), ⟨[]⟩⟩
def o976 : Obj := ⟨(T "tuple"), none, (.seq ⟨[]⟩ 0), ⟨[]⟩⟩
def o977 : Obj := ⟨N, none, (F (A 58) (u "fields_of_two") (u "fields_of_two") 0 [] N N N N none N N 0), ⟨[]⟩⟩
def o978 : Obj := ⟨(T "code"), none, (.fields ⟨[(S "fields_of_two" 1448), (S "fields_of_two" 1449), (S "/claim/cut.py" 1450), (I 469), (I 2), (I 0), (I 0), (I 3), (R 973), (.bool true), (I 181), (R 974), N, (R 975), (R 976), (R 977), (I 1453), (I 469), (S "/claim/cut.py" 1454)]⟩), ⟨[]⟩⟩
def o979 : Obj := ⟨(T "function"), none, (F (A 58) (u "fields_of_two") (u "fields_of_two") 3 [] N N N (S "onemember.expressions" 1137) none (R 978) N 0), ⟨[]⟩⟩
def o980 : Obj := ⟨(T "tuple"), none, (.seq ⟨[]⟩ 0), ⟨[]⟩⟩
def o981 : Obj := ⟨N, none, (.fields ⟨[]⟩), ⟨[]⟩⟩
def o982 : Obj := ⟨(T "tuple"), none, (.seq ⟨[(S "value" 1459)]⟩ 0), ⟨[]⟩⟩
def o983 : Obj := ⟨(T "tuple"), none, (.seq ⟨[]⟩ 0), ⟨[]⟩⟩
def o984 : Obj := ⟨N, none, (F (A 59) (u "check_expression") (u "check_expression") 0 [] N N N N none N N 0), ⟨[]⟩⟩
def o985 : Obj := ⟨(T "code"), none, (.fields ⟨[(S "check_expression" 1456), (S "check_expression" 1457), (S "/claim/cut.py" 1458), (I 471), (I 1), (I 0), (I 0), (I 3), (R 980), (.bool true), (I 181), (R 981), N, (R 982), (R 983), (R 984), (I 1460), (I 471), (S "/claim/cut.py" 1461)]⟩), ⟨[]⟩⟩
def o986 : Obj := ⟨(T "function"), none, (F (A 59) (u "check_expression") (u "check_expression") 3 [] N N N (S "onemember.expressions" 1137) none (R 985) N 0), ⟨[]⟩⟩
def o987 : Obj := ⟨(T "tuple"), none, (.seq ⟨[]⟩ 0), ⟨[]⟩⟩
def o988 : Obj := ⟨N, none, (.fields ⟨[]⟩), ⟨[]⟩⟩
def o989 : Obj := ⟨(T "tuple"), none, (.seq ⟨[(S "sign" 1466), (S "one" 1467), (S "other" 1468)]⟩ 0), ⟨[]⟩⟩
def o990 : Obj := ⟨(T "tuple"), none, (.seq ⟨[]⟩ 0), ⟨[]⟩⟩
def o991 : Obj := ⟨N, none, (F (A 60) (u "with_sign") (u "with_sign") 0 [] N N N N none N N 0), ⟨[]⟩⟩
def o992 : Obj := ⟨(T "code"), none, (.fields ⟨[(S "with_sign" 1463), (S "with_sign" 1464), (S "/claim/cut.py" 1465), (I 474), (I 3), (I 0), (I 0), (I 3), (R 987), (.bool true), (I 181), (R 988), N, (R 989), (R 990), (R 991), (I 1469), (I 474), (S "/claim/cut.py" 1470)]⟩), ⟨[]⟩⟩
def o993 : Obj := ⟨(T "function"), none, (F (A 60) (u "with_sign") (u "with_sign") 3 [] N N N (S "onemember.expressions" 1137) none (R 992) N 0), ⟨[]⟩⟩
def o994 : Obj := ⟨(T "tuple"), none, (.seq ⟨[]⟩ 0), ⟨[]⟩⟩
def o995 : Obj := ⟨N, none, (.fields ⟨[]⟩), ⟨[]⟩⟩
def o996 : Obj := ⟨(T "tuple"), none, (.seq ⟨[(S "fields" 1475), (S "sets" 1476), (S "given" 1477), (S "table" 1478), (S "field" 1479)]⟩ 0), ⟨[]⟩⟩
def o997 : Obj := ⟨(T "tuple"), none, (.seq ⟨[]⟩ 0), ⟨[]⟩⟩
def o998 : Obj := ⟨N, none, (F (A 61) (u "all_sets") (u "all_sets") 0 [] N N N N none N N 0), ⟨[]⟩⟩
def o999 : Obj := ⟨(T "code"), none, (.fields ⟨[(S "all_sets" 1472), (S "all_sets" 1473), (S "/claim/cut.py" 1474), (I 477), (I 3), (I 0), (I 0), (I 3), (R 994), (.bool true), (I 181), (R 995), N, (R 996), (R 997), (R 998), (I 1480), (I 477), (S "/claim/cut.py" 1481)]⟩), ⟨[]⟩⟩
def o1000 : Obj := ⟨(T "function"), none, (F (A 61) (u "all_sets") (u "all_sets") 3 [] N N N (S "onemember.expressions" 1137) none (R 999) N 0), ⟨[]⟩⟩
def o1001 : Obj := ⟨(T "tuple"), none, (.seq ⟨[]⟩ 0), ⟨[]⟩⟩
def o1002 : Obj := ⟨N, none, (.fields ⟨[]⟩), ⟨[]⟩⟩
def o1003 : Obj := ⟨(T "tuple"), none, (.seq ⟨[(S "sets" 1486), (S "table" 1487), (S "at" 1488), (S "pair" 1489)]⟩ 0), ⟨[]⟩⟩
def o1004 : Obj := ⟨(T "tuple"), none, (.seq ⟨[]⟩ 0), ⟨[]⟩⟩
def o1005 : Obj := ⟨N, none, (F (A 62) (u "field_sets") (u "field_sets") 0 [] N N N N none N N 0), ⟨[]⟩⟩
def o1006 : Obj := ⟨(T "code"), none, (.fields ⟨[(S "field_sets" 1483), (S "field_sets" 1484), (S "/claim/cut.py" 1485), (I 487), (I 1), (I 0), (I 0), (I 3), (R 1001), (.bool true), (I 181), (R 1002), N, (R 1003), (R 1004), (R 1005), (I 1490), (I 487), (S "/claim/cut.py" 1491)]⟩), ⟨[]⟩⟩
def o1007 : Obj := ⟨(T "function"), none, (F (A 62) (u "field_sets") (u "field_sets") 3 [] N N N (S "onemember.expressions" 1137) none (R 1006) N 0), ⟨[]⟩⟩
def o1008 : Obj := ⟨(T "tuple"), none, (.seq ⟨[]⟩ 0), ⟨[]⟩⟩
def o1009 : Obj := ⟨N, none, (.fields ⟨[]⟩), ⟨[]⟩⟩
def o1010 : Obj := ⟨(T "tuple"), none, (.seq ⟨[(S "value" 1496)]⟩ 0), ⟨[]⟩⟩
def o1011 : Obj := ⟨(T "tuple"), none, (.seq ⟨[]⟩ 0), ⟨[]⟩⟩
def o1012 : Obj := ⟨N, none, (F (A 63) (u "is_field_set") (u "is_field_set") 0 [] N N N N none N N 0), ⟨[]⟩⟩
def o1013 : Obj := ⟨(T "code"), none, (.fields ⟨[(S "is_field_set" 1493), (S "is_field_set" 1494), (S "/claim/cut.py" 1495), (I 496), (I 1), (I 0), (I 0), (I 3), (R 1008), (.bool true), (I 181), (R 1009), N, (R 1010), (R 1011), (R 1012), (I 1497), (I 496), (S "/claim/cut.py" 1498)]⟩), ⟨[]⟩⟩
def o1014 : Obj := ⟨(T "function"), none, (F (A 63) (u "is_field_set") (u "is_field_set") 3 [] N N N (S "onemember.expressions" 1137) none (R 1013) N 0), ⟨[]⟩⟩
def o1015 : Obj := ⟨(T "tuple"), none, (.seq ⟨[]⟩ 0), ⟨[]⟩⟩
def o1016 : Obj := ⟨N, none, (.fields ⟨[]⟩), ⟨[]⟩⟩
def o1017 : Obj := ⟨(T "tuple"), none, (.seq ⟨[(S "value" 1505), (S "many" 1506)]⟩ 0), ⟨[]⟩⟩
def o1018 : Obj := ⟨(T "tuple"), none, (.seq ⟨[]⟩ 0), ⟨[]⟩⟩
def o1019 : Obj := ⟨N, none, (F (A 65) (u "is_tuple_of") (u "is_tuple_of") 0 [] N N N N none N N 0), ⟨[]⟩⟩
def o1020 : Obj := ⟨(T "code"), none, (.fields ⟨[(S "is_tuple_of" 1502), (S "is_tuple_of" 1503), (S "/claim/cut.py" 1504), (I 501), (I 2), (I 0), (I 0), (I 3), (R 1015), (.bool true), (I 181), (R 1016), N, (R 1017), (R 1018), (R 1019), (I 1507), (I 501), (S "/claim/cut.py" 1508)]⟩), ⟨[]⟩⟩
def o1021 : Obj := ⟨(T "function"), none, (F (A 65) (u "is_tuple_of") (u "is_tuple_of") 3 [] N N N (S "onemember.kinds" 1500) none (R 1020) N 0), ⟨[]⟩⟩
def o1022 : Obj := ⟨(T "tuple"), none, (.seq ⟨[(S "one" 1516), (S "many" 1517), (S "none" 1518)]⟩ 0), ⟨[]⟩⟩
def o1023 : Obj := ⟨(T "tuple"), none, (.seq ⟨[]⟩ 0), ⟨[]⟩⟩
def o1024 : Obj := ⟨N, none, (.fields ⟨[]⟩), ⟨[]⟩⟩
def o1025 : Obj := ⟨(T "tuple"), none, (.seq ⟨[(S "fields" 1523), (S "at" 1524), (S "field" 1525)]⟩ 0), ⟨[]⟩⟩
def o1026 : Obj := ⟨(T "tuple"), none, (.seq ⟨[]⟩ 0), ⟨[]⟩⟩
def o1027 : Obj := ⟨N, none, (F (A 70) (u "check_fields") (u "check_fields") 0 [] N N N N none N N 0), ⟨[]⟩⟩
def o1028 : Obj := ⟨(T "code"), none, (.fields ⟨[(S "check_fields" 1520), (S "check_fields" 1521), (S "/claim/cut.py" 1522), (I 507), (I 1), (I 0), (I 0), (I 3), (R 1023), (.bool true), (I 181), (R 1024), N, (R 1025), (R 1026), (R 1027), (I 1526), (I 507), (S "/claim/cut.py" 1527)]⟩), ⟨[]⟩⟩
def o1029 : Obj := ⟨(T "function"), none, (F (A 70) (u "check_fields") (u "check_fields") 3 [] N N N (S "onemember.shapes" 1510) none (R 1028) N 0), ⟨[]⟩⟩
def o1030 : Obj := ⟨(T "tuple"), none, (.seq ⟨[]⟩ 0), ⟨[]⟩⟩
def o1031 : Obj := ⟨N, none, (.fields ⟨[]⟩), ⟨[]⟩⟩
def o1032 : Obj := ⟨(T "tuple"), none, (.seq ⟨[(S "modes" 1532), (S "at" 1533)]⟩ 0), ⟨[]⟩⟩
def o1033 : Obj := ⟨(T "tuple"), none, (.seq ⟨[]⟩ 0), ⟨[]⟩⟩
def o1034 : Obj := ⟨N, none, (F (A 71) (u "check_modes") (u "check_modes") 0 [] N N N N none N N 0), ⟨[]⟩⟩
def o1035 : Obj := ⟨(T "code"), none, (.fields ⟨[(S "check_modes" 1529), (S "check_modes" 1530), (S "/claim/cut.py" 1531), (I 513), (I 1), (I 0), (I 0), (I 3), (R 1030), (.bool true), (I 181), (R 1031), N, (R 1032), (R 1033), (R 1034), (I 1534), (I 513), (S "/claim/cut.py" 1535)]⟩), ⟨[]⟩⟩
def o1036 : Obj := ⟨(T "function"), none, (F (A 71) (u "check_modes") (u "check_modes") 3 [] N N N (S "onemember.shapes" 1510) none (R 1035) N 0), ⟨[]⟩⟩
def o1037 : Obj := ⟨(T "tuple"), none, (.seq ⟨[]⟩ 0), ⟨[]⟩⟩
def o1038 : Obj := ⟨N, none, (.fields ⟨[]⟩), ⟨[]⟩⟩
def o1039 : Obj := ⟨(T "tuple"), none, (.seq ⟨[(S "calls" 1540), (S "fields" 1541), (S "modes" 1542), (S "names" 1543), (S "at" 1544), (S "call" 1545)]⟩ 0), ⟨[]⟩⟩
def o1040 : Obj := ⟨(T "tuple"), none, (.seq ⟨[]⟩ 0), ⟨[]⟩⟩
def o1041 : Obj := ⟨N, none, (F (A 72) (u "check_calls") (u "check_calls") 0 [] N N N N none N N 0), ⟨[]⟩⟩
def o1042 : Obj := ⟨(T "code"), none, (.fields ⟨[(S "check_calls" 1537), (S "check_calls" 1538), (S "/claim/cut.py" 1539), (I 519), (I 3), (I 0), (I 0), (I 3), (R 1037), (.bool true), (I 181), (R 1038), N, (R 1039), (R 1040), (R 1041), (I 1546), (I 519), (S "/claim/cut.py" 1547)]⟩), ⟨[]⟩⟩
def o1043 : Obj := ⟨(T "function"), none, (F (A 72) (u "check_calls") (u "check_calls") 3 [] N N N (S "onemember.shapes" 1510) none (R 1042) N 0), ⟨[]⟩⟩
def o1044 : Obj := ⟨(T "tuple"), none, (.seq ⟨[]⟩ 0), ⟨[]⟩⟩
def o1045 : Obj := ⟨N, none, (.fields ⟨[]⟩), ⟨[]⟩⟩
def o1046 : Obj := ⟨(T "tuple"), none, (.seq ⟨[(S "views" 1552), (S "fields" 1553), (S "modes" 1554), (S "names" 1555), (S "at" 1556), (S "view" 1557)]⟩ 0), ⟨[]⟩⟩
def o1047 : Obj := ⟨(T "tuple"), none, (.seq ⟨[]⟩ 0), ⟨[]⟩⟩
def o1048 : Obj := ⟨N, none, (F (A 73) (u "check_views") (u "check_views") 0 [] N N N N none N N 0), ⟨[]⟩⟩
def o1049 : Obj := ⟨(T "code"), none, (.fields ⟨[(S "check_views" 1549), (S "check_views" 1550), (S "/claim/cut.py" 1551), (I 527), (I 3), (I 0), (I 0), (I 3), (R 1044), (.bool true), (I 181), (R 1045), N, (R 1046), (R 1047), (R 1048), (I 1558), (I 527), (S "/claim/cut.py" 1559)]⟩), ⟨[]⟩⟩
def o1050 : Obj := ⟨(T "function"), none, (F (A 73) (u "check_views") (u "check_views") 3 [] N N N (S "onemember.shapes" 1510) none (R 1049) N 0), ⟨[]⟩⟩
def o1051 : Obj := ⟨(T "tuple"), none, (.seq ⟨[]⟩ 0), ⟨[]⟩⟩
def o1052 : Obj := ⟨N, none, (.fields ⟨[]⟩), ⟨[]⟩⟩
def o1053 : Obj := ⟨(T "tuple"), none, (.seq ⟨[(S "value" 1564), (S "fields" 1565), (S "modes" 1566), (S "name" 1567), (S "sort" 1568), (S "cases" 1569), (S "found" 1570), (S "case" 1571)]⟩ 0), ⟨[]⟩⟩
def o1054 : Obj := ⟨(T "tuple"), none, (.seq ⟨[]⟩ 0), ⟨[]⟩⟩
def o1055 : Obj := ⟨N, none, (F (A 74) (u "is_call") (u "is_call") 0 [] N N N N none N N 0), ⟨[]⟩⟩
def o1056 : Obj := ⟨(T "code"), none, (.fields ⟨[(S "is_call" 1561), (S "is_call" 1562), (S "/claim/cut.py" 1563), (I 535), (I 3), (I 0), (I 0), (I 3), (R 1051), (.bool true), (I 181), (R 1052), N, (R 1053), (R 1054), (R 1055), (I 1572), (I 535), (S "/claim/cut.py" 1573)]⟩), ⟨[]⟩⟩
def o1057 : Obj := ⟨(T "function"), none, (F (A 74) (u "is_call") (u "is_call") 3 [] N N N (S "onemember.shapes" 1510) none (R 1056) N 0), ⟨[]⟩⟩
def o1058 : Obj := ⟨(T "tuple"), none, (.seq ⟨[]⟩ 0), ⟨[]⟩⟩
def o1059 : Obj := ⟨N, none, (.fields ⟨[]⟩), ⟨[]⟩⟩
def o1060 : Obj := ⟨(T "tuple"), none, (.seq ⟨[(S "value" 1578), (S "sort" 1579), (S "fields" 1580), (S "modes" 1581), (S "mode" 1582), (S "facts" 1583), (S "updates" 1584), (S "after" 1585), (S "leaves" 1586)]⟩ 0), ⟨[]⟩⟩
def o1061 : Obj := ⟨(T "tuple"), none, (.seq ⟨[]⟩ 0), ⟨[]⟩⟩
def o1062 : Obj := ⟨N, none, (F (A 75) (u "is_case") (u "is_case") 0 [] N N N N none N N 0), ⟨[]⟩⟩
def o1063 : Obj := ⟨(T "code"), none, (.fields ⟨[(S "is_case" 1575), (S "is_case" 1576), (S "/claim/cut.py" 1577), (I 547), (I 4), (I 0), (I 0), (I 3), (R 1058), (.bool true), (I 181), (R 1059), N, (R 1060), (R 1061), (R 1062), (I 1587), (I 547), (S "/claim/cut.py" 1588)]⟩), ⟨[]⟩⟩
def o1064 : Obj := ⟨(T "function"), none, (F (A 75) (u "is_case") (u "is_case") 3 [] N N N (S "onemember.shapes" 1510) none (R 1063) N 0), ⟨[]⟩⟩
def o1065 : Obj := ⟨(T "tuple"), none, (.seq ⟨[]⟩ 0), ⟨[]⟩⟩
def o1066 : Obj := ⟨N, none, (.fields ⟨[]⟩), ⟨[]⟩⟩
def o1067 : Obj := ⟨(T "tuple"), none, (.seq ⟨[(S "value" 1593), (S "leaves" 1594), (S "fact" 1595)]⟩ 0), ⟨[]⟩⟩
def o1068 : Obj := ⟨(T "tuple"), none, (.seq ⟨[]⟩ 0), ⟨[]⟩⟩
def o1069 : Obj := ⟨N, none, (F (A 76) (u "are_facts") (u "are_facts") 0 [] N N N N none N N 0), ⟨[]⟩⟩
def o1070 : Obj := ⟨(T "code"), none, (.fields ⟨[(S "are_facts" 1590), (S "are_facts" 1591), (S "/claim/cut.py" 1592), (I 555), (I 2), (I 0), (I 0), (I 3), (R 1065), (.bool true), (I 181), (R 1066), N, (R 1067), (R 1068), (R 1069), (I 1596), (I 555), (S "/claim/cut.py" 1597)]⟩), ⟨[]⟩⟩
def o1071 : Obj := ⟨(T "function"), none, (F (A 76) (u "are_facts") (u "are_facts") 3 [] N N N (S "onemember.shapes" 1510) none (R 1070) N 0), ⟨[]⟩⟩
def o1072 : Obj := ⟨(T "tuple"), none, (.seq ⟨[]⟩ 0), ⟨[]⟩⟩
def o1073 : Obj := ⟨N, none, (.fields ⟨[]⟩), ⟨[]⟩⟩
def o1074 : Obj := ⟨(T "tuple"), none, (.seq ⟨[(S "value" 1602), (S "fields" 1603), (S "leaves" 1604), (S "found" 1605), (S "update" 1606)]⟩ 0), ⟨[]⟩⟩
def o1075 : Obj := ⟨(T "tuple"), none, (.seq ⟨[]⟩ 0), ⟨[]⟩⟩
def o1076 : Obj := ⟨N, none, (F (A 77) (u "are_updates") (u "are_updates") 0 [] N N N N none N N 0), ⟨[]⟩⟩
def o1077 : Obj := ⟨(T "code"), none, (.fields ⟨[(S "are_updates" 1599), (S "are_updates" 1600), (S "/claim/cut.py" 1601), (I 562), (I 3), (I 0), (I 0), (I 3), (R 1072), (.bool true), (I 181), (R 1073), N, (R 1074), (R 1075), (R 1076), (I 1607), (I 562), (S "/claim/cut.py" 1608)]⟩), ⟨[]⟩⟩
def o1078 : Obj := ⟨(T "function"), none, (F (A 77) (u "are_updates") (u "are_updates") 3 [] N N N (S "onemember.shapes" 1510) none (R 1077) N 0), ⟨[]⟩⟩
def o1079 : Obj := ⟨(T "tuple"), none, (.seq ⟨[]⟩ 0), ⟨[]⟩⟩
def o1080 : Obj := ⟨N, none, (.fields ⟨[]⟩), ⟨[]⟩⟩
def o1081 : Obj := ⟨N, none, (F (A 78) (u "is_view") (u "is_view") 0 [] N N N N none N N 0), ⟨[]⟩⟩
def o1082 : Obj := ⟨(T "code"), none, (.fields ⟨[(S "is_view" 1610), (S "is_view" 1611), (S "/claim/cut.py" 1612), (I 573), (I 3), (I 0), (I 0), (I 3), (R 1079), (.bool true), (I 181), (R 1080), N, N, N, (R 1081), (I 1613), (I 573), (S "/claim/cut.py" 1614)]⟩), ⟨[]⟩⟩
def o1083 : Obj := ⟨(T "function"), none, (F (A 78) (u "is_view") (u "is_view") 3 [] N N N (S "onemember.shapes" 1510) none (R 1082) N 0), ⟨[]⟩⟩
def o1084 : Obj := ⟨(T "tuple"), none, (.seq ⟨[]⟩ 0), ⟨[]⟩⟩
def o1085 : Obj := ⟨N, none, (.fields ⟨[]⟩), ⟨[]⟩⟩
def o1086 : Obj := ⟨N, none, (F (A 80) (u "design_lines") (u "design_lines") 0 [] N N N N none N N 0), ⟨[]⟩⟩
def o1087 : Obj := ⟨(T "code"), none, (.fields ⟨[(S "design_lines" 1618), (S "design_lines" 1619), (S "/claim/cut.py" 1620), (I 578), (I 4), (I 0), (I 0), (I 3), (R 1084), (.bool true), (I 181), (R 1085), N, N, N, (R 1086), (I 1621), (I 578), (S "/claim/cut.py" 1622)]⟩), ⟨[]⟩⟩
def o1088 : Obj := ⟨(T "function"), none, (F (A 80) (u "design_lines") (u "design_lines") 3 [] N N N (S "onemember.texts" 1616) none (R 1087) N 0), ⟨[]⟩⟩
def o1089 : Obj := ⟨(T "tuple"), none, (.seq ⟨[]⟩ 0), ⟨[]⟩⟩
def o1090 : Obj := ⟨N, none, (.fields ⟨[]⟩), ⟨[]⟩⟩
def o1091 : Obj := ⟨N, none, (F (A 81) (u "case_lines") (u "case_lines") 0 [] N N N N none N N 0), ⟨[]⟩⟩
def o1092 : Obj := ⟨(T "code"), none, (.fields ⟨[(S "case_lines" 1624), (S "case_lines" 1625), (S "/claim/cut.py" 1626), (I 588), (I 1), (I 0), (I 0), (I 3), (R 1089), (.bool true), (I 181), (R 1090), N, N, N, (R 1091), (I 1627), (I 588), (S "/claim/cut.py" 1628)]⟩), ⟨[]⟩⟩
def o1093 : Obj := ⟨(T "function"), none, (F (A 81) (u "case_lines") (u "case_lines") 3 [] N N N (S "onemember.texts" 1616) none (R 1092) N 0), ⟨[]⟩⟩
def o1094 : Obj := ⟨(T "tuple"), none, (.seq ⟨[]⟩ 0), ⟨[]⟩⟩
def o1095 : Obj := ⟨N, none, (.fields ⟨[]⟩), ⟨[]⟩⟩
def o1096 : Obj := ⟨N, none, (F (A 82) (u "read_parts") (u "read_parts") 0 [] N N N N none N N 0), ⟨[]⟩⟩
def o1097 : Obj := ⟨(T "code"), none, (.fields ⟨[(S "read_parts" 1630), (S "read_parts" 1631), (S "/claim/cut.py" 1632), (I 593), (I 1), (I 0), (I 0), (I 3), (R 1094), (.bool true), (I 181), (R 1095), N, N, N, (R 1096), (I 1633), (I 593), (S "/claim/cut.py" 1634)]⟩), ⟨[]⟩⟩
def o1098 : Obj := ⟨(T "function"), none, (F (A 82) (u "read_parts") (u "read_parts") 3 [] N N N (S "onemember.texts" 1616) none (R 1097) N 0), ⟨[]⟩⟩
def o1099 : Obj := ⟨(T "tuple"), none, (.seq ⟨[]⟩ 0), ⟨[]⟩⟩
def o1100 : Obj := ⟨N, none, (.fields ⟨[]⟩), ⟨[]⟩⟩
def o1101 : Obj := ⟨N, none, (F (A 83) (u "as_cases") (u "as_cases") 0 [] N N N N none N N 0), ⟨[]⟩⟩
def o1102 : Obj := ⟨(T "code"), none, (.fields ⟨[(S "as_cases" 1636), (S "as_cases" 1637), (S "/claim/cut.py" 1638), (I 606), (I 1), (I 0), (I 0), (I 3), (R 1099), (.bool true), (I 181), (R 1100), N, N, N, (R 1101), (I 1639), (I 606), (S "/claim/cut.py" 1640)]⟩), ⟨[]⟩⟩
def o1103 : Obj := ⟨(T "function"), none, (F (A 83) (u "as_cases") (u "as_cases") 3 [] N N N (S "onemember.texts" 1616) none (R 1102) N 0), ⟨[]⟩⟩
def o1104 : Obj := ⟨(T "tuple"), none, (.seq ⟨[]⟩ 0), ⟨[]⟩⟩
def o1105 : Obj := ⟨N, none, (.fields ⟨[]⟩), ⟨[]⟩⟩
def o1106 : Obj := ⟨(T "tuple"), none, (.seq ⟨[(S "calls" 1645), (S "word" 1646), (S "rest" 1647), (S "words" 1648), (S "cases" 1649), (S "left" 1650), (S "_" 1651), (S "right" 1652), (S "field" 1653), (S "form" 1654)]⟩ 0), ⟨[]⟩⟩
def o1107 : Obj := ⟨(T "tuple"), none, (.seq ⟨[]⟩ 0), ⟨[]⟩⟩
def o1108 : Obj := ⟨N, none, (F (A 84) (u "take_call_line") (u "take_call_line") 0 [] N N N N none N N 0), ⟨[]⟩⟩
def o1109 : Obj := ⟨(T "code"), none, (.fields ⟨[(S "take_call_line" 1642), (S "take_call_line" 1643), (S "/claim/cut.py" 1644), (I 608), (I 3), (I 0), (I 0), (I 3), (R 1104), (.bool true), (I 181), (R 1105), N, (R 1106), (R 1107), (R 1108), (I 1655), (I 608), (S "/claim/cut.py" 1656)]⟩), ⟨[]⟩⟩
def o1110 : Obj := ⟨(T "function"), none, (F (A 84) (u "take_call_line") (u "take_call_line") 3 [] N N N (S "onemember.texts" 1616) none (R 1109) N 0), ⟨[]⟩⟩
def o1111 : Obj := ⟨(T "tuple"), none, (.seq ⟨[]⟩ 0), ⟨[]⟩⟩
def o1112 : Obj := ⟨N, none, (.fields ⟨[]⟩), ⟨[]⟩⟩
def o1113 : Obj := ⟨(T "tuple"), none, (.seq ⟨[(S "views" 1661), (S "word" 1662), (S "rest" 1663)]⟩ 0), ⟨[]⟩⟩
def o1114 : Obj := ⟨(T "tuple"), none, (.seq ⟨[]⟩ 0), ⟨[]⟩⟩
def o1115 : Obj := ⟨N, none, (F (A 85) (u "take_view_line") (u "take_view_line") 0 [] N N N N none N N 0), ⟨[]⟩⟩
def o1116 : Obj := ⟨(T "code"), none, (.fields ⟨[(S "take_view_line" 1658), (S "take_view_line" 1659), (S "/claim/cut.py" 1660), (I 624), (I 3), (I 0), (I 0), (I 3), (R 1111), (.bool true), (I 181), (R 1112), N, (R 1113), (R 1114), (R 1115), (I 1664), (I 624), (S "/claim/cut.py" 1665)]⟩), ⟨[]⟩⟩
def o1117 : Obj := ⟨(T "function"), none, (F (A 85) (u "take_view_line") (u "take_view_line") 3 [] N N N (S "onemember.texts" 1616) none (R 1116) N 0), ⟨[]⟩⟩
def o1118 : Obj := ⟨(T "tuple"), none, (.seq ⟨[]⟩ 0), ⟨[]⟩⟩
def o1119 : Obj := ⟨N, none, (.fields ⟨[]⟩), ⟨[]⟩⟩
def o1120 : Obj := ⟨(T "tuple"), none, (.seq ⟨[(S "text" 1670), (S "counted" 1671)]⟩ 0), ⟨[]⟩⟩
def o1121 : Obj := ⟨(T "tuple"), none, (.seq ⟨[]⟩ 0), ⟨[]⟩⟩
def o1122 : Obj := ⟨N, none, (F (A 86) (u "read_form") (u "read_form") 0 [] N N N N none N N 0), ⟨[]⟩⟩
def o1123 : Obj := ⟨(T "code"), none, (.fields ⟨[(S "read_form" 1667), (S "read_form" 1668), (S "/claim/cut.py" 1669), (I 632), (I 1), (I 0), (I 0), (I 3), (R 1118), (.bool true), (I 181), (R 1119), N, (R 1120), (R 1121), (R 1122), (I 1672), (I 632), (S "/claim/cut.py" 1673)]⟩), ⟨[]⟩⟩
def o1124 : Obj := ⟨(T "function"), none, (F (A 86) (u "read_form") (u "read_form") 3 [] N N N (S "onemember.texts" 1616) none (R 1123) N 0), ⟨[]⟩⟩
def o1125 : Obj := ⟨(T "tuple"), none, (.seq ⟨[]⟩ 0), ⟨[]⟩⟩
def o1126 : Obj := ⟨(T "builtin_function_or_method"), none, (.fields ⟨[(B "type.__prepare__"), (T "type")]⟩), ⟨[]⟩⟩
def o1127 (P : Params) : Obj := ⟨(T "dict"), none, (.dict ⟨[E P "__module__" 1684 (S "onemember.designs" 1675), E P "__qualname__" 1686 (S "Design" 1685), E P "__firstlineno__" 1688 (.int 636 1687), E P "__init__" 1694 (R 1136), E P "read" 1715 (R 1145), E P "fields" 1723 (R 1154), E P "modes" 1731 (R 1162), E P "calls" 1739 (R 1170), E P "views" 1747 (R 1178), E P "names" 1755 (R 1186), E P "view_names" 1763 (R 1194), E P "__str__" 1770 (R 1201), E P "__repr__" 1777 (R 1208), E P "__len__" 1784 (R 1215), E P "__eq__" 1792 (R 1222), E P "__contains__" 1800 (R 1229), E P "sort_of" 1808 (R 1236), E P "case_of" 1817 (R 1243), E P "view_of" 1826 (R 1250), E P "with_call" 1834 (R 1257), E P "without" 1842 (R 1264), E P "renamed" 1850 (R 1271), E P "__static_attributes__" 1860 (R 1272)]⟩ 23), ⟨[]⟩⟩
def o1128 : Obj := ⟨(T "tuple"), none, (.seq ⟨[]⟩ 0), ⟨[]⟩⟩
def o1129 : Obj := ⟨N, none, (.fields ⟨[(I 638), (I 4), (R 1135), (I 654), (I 4), (R 1142), (I 667), (I 4), (R 1152), (I 671), (I 4), (R 1160), (I 675), (I 4), (R 1168), (I 679), (I 4), (R 1176), (I 683), (I 4), (R 1184), (I 687), (I 4), (R 1192), (I 690), (I 4), (R 1200), (I 693), (I 4), (R 1207), (I 696), (I 4), (R 1214), (I 699), (I 4), (R 1221), (I 702), (I 4), (R 1228), (I 705), (I 4), (R 1235), (I 708), (I 4), (R 1242), (I 711), (I 4), (R 1249), (I 714), (I 4), (R 1256), (I 717), (I 4), (R 1263), (I 720), (I 4), (R 1270)]⟩), ⟨[]⟩⟩
def o1130 : Obj := ⟨(T "code"), none, (.fields ⟨[(S "Design" 1679), (S "Design" 1680), (S "/claim/cut.py" 1681), (I 636), (I 0), (I 0), (I 0), (I 0), (R 1128), (.bool false), (I 181), (R 1129), N, N, N, N, (I 1682), (I 636), (S "/claim/cut.py" 1683)]⟩), ⟨[]⟩⟩
def o1131 : Obj := ⟨(T "frame"), none, .plain, ⟨[some (R 1130), some (R 3), some (R 1127), none, some (S "onemember.designs" 1675), none, some (R 0)]⟩⟩
def o1132 : Obj := ⟨(T "tuple"), none, (.seq ⟨[]⟩ 0), ⟨[]⟩⟩
def o1133 : Obj := ⟨N, none, (.fields ⟨[]⟩), ⟨[]⟩⟩
def o1134 : Obj := ⟨N, none, (F (C 88 0) (u "__init__") (u "Design.__init__") 0 [] N N N N none N N 0), ⟨[]⟩⟩
def o1135 : Obj := ⟨(T "code"), none, (.fields ⟨[(S "__init__" 1689), (S "Design.__init__" 1690), (S "/claim/cut.py" 1691), (I 638), (I 5), (I 0), (I 0), (I 3), (R 1132), (.bool true), (I 181), (R 1133), N, N, N, (R 1134), (I 1692), (I 638), (S "/claim/cut.py" 1693)]⟩), ⟨[]⟩⟩
def o1136 : Obj := ⟨(T "function"), none, (F (C 88 0) (u "__init__") (u "Design.__init__") 3 [] N N N (S "onemember.designs" 1675) none (R 1135) N 0), ⟨[]⟩⟩
def o1137 : Obj := ⟨(T "tuple"), none, (.seq ⟨[]⟩ 0), ⟨[]⟩⟩
def o1138 : Obj := ⟨N, none, (.fields ⟨[]⟩), ⟨[]⟩⟩
def o1139 : Obj := ⟨(T "tuple"), none, (.seq ⟨[(S "text" 1698), (S "parts" 1699), (S "design" 1700)]⟩ 0), ⟨[]⟩⟩
def o1140 : Obj := ⟨(T "tuple"), none, (.seq ⟨[]⟩ 0), ⟨[]⟩⟩
def o1141 : Obj := ⟨N, none, (F (C 88 1) (u "read") (u "Design.read") 0 [] N N N N none N N 0), ⟨[]⟩⟩
def o1142 : Obj := ⟨(T "code"), none, (.fields ⟨[(S "read" 1695), (S "Design.read" 1696), (S "/claim/cut.py" 1697), (I 653), (I 1), (I 0), (I 0), (I 3), (R 1137), (.bool true), (I 181), (R 1138), N, (R 1139), (R 1140), (R 1141), (I 1701), (I 653), (S "/claim/cut.py" 1702)]⟩), ⟨[]⟩⟩
def o1143 : Obj := ⟨(T "function"), none, (F (C 88 1) (u "read") (u "Design.read") 3 [] N N N (S "onemember.designs" 1675) (some 1146) (R 1142) N 0), ⟨[]⟩⟩
def o1144 (P : Params) : Obj := ⟨(T "dict"), none, (.dict ⟨[E P "__module__" 1704 (S "onemember.designs" 1675), E P "__name__" 1707 (S "read" 1706), E P "__qualname__" 1710 (S "Design.read" 1709), E P "__doc__" 1712 N, E P "__annotations__" 1714 (R 1146)]⟩ 5), ⟨[]⟩⟩
def o1145 : Obj := ⟨(T "staticmethod"), (some 1144), (.fields ⟨[(R 1143), (.bool false)]⟩), ⟨[]⟩⟩
def o1146 (P : Params) : Obj := ⟨(T "dict"), none, (.dict ⟨[]⟩ 0), ⟨[]⟩⟩
def o1147 : Obj := ⟨(T "tuple"), none, (.seq ⟨[]⟩ 0), ⟨[]⟩⟩
def o1148 : Obj := ⟨N, none, (.fields ⟨[]⟩), ⟨[]⟩⟩
def o1149 : Obj := ⟨(T "tuple"), none, (.seq ⟨[(S "self" 1719)]⟩ 0), ⟨[]⟩⟩
def o1150 : Obj := ⟨(T "tuple"), none, (.seq ⟨[]⟩ 0), ⟨[]⟩⟩
def o1151 : Obj := ⟨N, none, (F (C 88 2) (u "fields") (u "Design.fields") 0 [] N N N N none N N 0), ⟨[]⟩⟩
def o1152 : Obj := ⟨(T "code"), none, (.fields ⟨[(S "fields" 1716), (S "Design.fields" 1717), (S "/claim/cut.py" 1718), (I 666), (I 1), (I 0), (I 0), (I 3), (R 1147), (.bool true), (I 181), (R 1148), N, (R 1149), (R 1150), (R 1151), (I 1720), (I 666), (S "/claim/cut.py" 1721)]⟩), ⟨[]⟩⟩
def o1153 : Obj := ⟨(T "function"), none, (F (C 88 2) (u "fields") (u "Design.fields") 3 [] N N N (S "onemember.designs" 1675) none (R 1152) N 0), ⟨[]⟩⟩
def o1154 : Obj := ⟨(T "property"), none, (.fields ⟨[(R 1153), N, N, N, (S "fields" 1723), (.bool false)]⟩), ⟨[]⟩⟩
def o1155 : Obj := ⟨(T "tuple"), none, (.seq ⟨[]⟩ 0), ⟨[]⟩⟩
def o1156 : Obj := ⟨N, none, (.fields ⟨[]⟩), ⟨[]⟩⟩
def o1157 : Obj := ⟨(T "tuple"), none, (.seq ⟨[(S "self" 1727)]⟩ 0), ⟨[]⟩⟩
def o1158 : Obj := ⟨(T "tuple"), none, (.seq ⟨[]⟩ 0), ⟨[]⟩⟩
def o1159 : Obj := ⟨N, none, (F (C 88 3) (u "modes") (u "Design.modes") 0 [] N N N N none N N 0), ⟨[]⟩⟩
def o1160 : Obj := ⟨(T "code"), none, (.fields ⟨[(S "modes" 1724), (S "Design.modes" 1725), (S "/claim/cut.py" 1726), (I 670), (I 1), (I 0), (I 0), (I 3), (R 1155), (.bool true), (I 181), (R 1156), N, (R 1157), (R 1158), (R 1159), (I 1728), (I 670), (S "/claim/cut.py" 1729)]⟩), ⟨[]⟩⟩
def o1161 : Obj := ⟨(T "function"), none, (F (C 88 3) (u "modes") (u "Design.modes") 3 [] N N N (S "onemember.designs" 1675) none (R 1160) N 0), ⟨[]⟩⟩
def o1162 : Obj := ⟨(T "property"), none, (.fields ⟨[(R 1161), N, N, N, (S "modes" 1731), (.bool false)]⟩), ⟨[]⟩⟩
def o1163 : Obj := ⟨(T "tuple"), none, (.seq ⟨[]⟩ 0), ⟨[]⟩⟩
def o1164 : Obj := ⟨N, none, (.fields ⟨[]⟩), ⟨[]⟩⟩
def o1165 : Obj := ⟨(T "tuple"), none, (.seq ⟨[(S "self" 1735)]⟩ 0), ⟨[]⟩⟩
def o1166 : Obj := ⟨(T "tuple"), none, (.seq ⟨[]⟩ 0), ⟨[]⟩⟩
def o1167 : Obj := ⟨N, none, (F (C 88 4) (u "calls") (u "Design.calls") 0 [] N N N N none N N 0), ⟨[]⟩⟩
def o1168 : Obj := ⟨(T "code"), none, (.fields ⟨[(S "calls" 1732), (S "Design.calls" 1733), (S "/claim/cut.py" 1734), (I 674), (I 1), (I 0), (I 0), (I 3), (R 1163), (.bool true), (I 181), (R 1164), N, (R 1165), (R 1166), (R 1167), (I 1736), (I 674), (S "/claim/cut.py" 1737)]⟩), ⟨[]⟩⟩
def o1169 : Obj := ⟨(T "function"), none, (F (C 88 4) (u "calls") (u "Design.calls") 3 [] N N N (S "onemember.designs" 1675) none (R 1168) N 0), ⟨[]⟩⟩
def o1170 : Obj := ⟨(T "property"), none, (.fields ⟨[(R 1169), N, N, N, (S "calls" 1739), (.bool false)]⟩), ⟨[]⟩⟩
def o1171 : Obj := ⟨(T "tuple"), none, (.seq ⟨[]⟩ 0), ⟨[]⟩⟩
def o1172 : Obj := ⟨N, none, (.fields ⟨[]⟩), ⟨[]⟩⟩
def o1173 : Obj := ⟨(T "tuple"), none, (.seq ⟨[(S "self" 1743)]⟩ 0), ⟨[]⟩⟩
def o1174 : Obj := ⟨(T "tuple"), none, (.seq ⟨[]⟩ 0), ⟨[]⟩⟩
def o1175 : Obj := ⟨N, none, (F (C 88 5) (u "views") (u "Design.views") 0 [] N N N N none N N 0), ⟨[]⟩⟩
def o1176 : Obj := ⟨(T "code"), none, (.fields ⟨[(S "views" 1740), (S "Design.views" 1741), (S "/claim/cut.py" 1742), (I 678), (I 1), (I 0), (I 0), (I 3), (R 1171), (.bool true), (I 181), (R 1172), N, (R 1173), (R 1174), (R 1175), (I 1744), (I 678), (S "/claim/cut.py" 1745)]⟩), ⟨[]⟩⟩
def o1177 : Obj := ⟨(T "function"), none, (F (C 88 5) (u "views") (u "Design.views") 3 [] N N N (S "onemember.designs" 1675) none (R 1176) N 0), ⟨[]⟩⟩
def o1178 : Obj := ⟨(T "property"), none, (.fields ⟨[(R 1177), N, N, N, (S "views" 1747), (.bool false)]⟩), ⟨[]⟩⟩
def o1179 : Obj := ⟨(T "tuple"), none, (.seq ⟨[]⟩ 0), ⟨[]⟩⟩
def o1180 : Obj := ⟨N, none, (.fields ⟨[]⟩), ⟨[]⟩⟩
def o1181 : Obj := ⟨(T "tuple"), none, (.seq ⟨[(S "self" 1751)]⟩ 0), ⟨[]⟩⟩
def o1182 : Obj := ⟨(T "tuple"), none, (.seq ⟨[]⟩ 0), ⟨[]⟩⟩
def o1183 : Obj := ⟨N, none, (F (C 88 6) (u "names") (u "Design.names") 0 [] N N N N none N N 0), ⟨[]⟩⟩
def o1184 : Obj := ⟨(T "code"), none, (.fields ⟨[(S "names" 1748), (S "Design.names" 1749), (S "/claim/cut.py" 1750), (I 682), (I 1), (I 0), (I 0), (I 3), (R 1179), (.bool true), (I 181), (R 1180), N, (R 1181), (R 1182), (R 1183), (I 1752), (I 682), (S "/claim/cut.py" 1753)]⟩), ⟨[]⟩⟩
def o1185 : Obj := ⟨(T "function"), none, (F (C 88 6) (u "names") (u "Design.names") 3 [] N N N (S "onemember.designs" 1675) none (R 1184) N 0), ⟨[]⟩⟩
def o1186 : Obj := ⟨(T "property"), none, (.fields ⟨[(R 1185), N, N, N, (S "names" 1755), (.bool false)]⟩), ⟨[]⟩⟩
def o1187 : Obj := ⟨(T "tuple"), none, (.seq ⟨[]⟩ 0), ⟨[]⟩⟩
def o1188 : Obj := ⟨N, none, (.fields ⟨[]⟩), ⟨[]⟩⟩
def o1189 : Obj := ⟨(T "tuple"), none, (.seq ⟨[(S "self" 1759)]⟩ 0), ⟨[]⟩⟩
def o1190 : Obj := ⟨(T "tuple"), none, (.seq ⟨[]⟩ 0), ⟨[]⟩⟩
def o1191 : Obj := ⟨N, none, (F (C 88 7) (u "view_names") (u "Design.view_names") 0 [] N N N N none N N 0), ⟨[]⟩⟩
def o1192 : Obj := ⟨(T "code"), none, (.fields ⟨[(S "view_names" 1756), (S "Design.view_names" 1757), (S "/claim/cut.py" 1758), (I 686), (I 1), (I 0), (I 0), (I 3), (R 1187), (.bool true), (I 181), (R 1188), N, (R 1189), (R 1190), (R 1191), (I 1760), (I 686), (S "/claim/cut.py" 1761)]⟩), ⟨[]⟩⟩
def o1193 : Obj := ⟨(T "function"), none, (F (C 88 7) (u "view_names") (u "Design.view_names") 3 [] N N N (S "onemember.designs" 1675) none (R 1192) N 0), ⟨[]⟩⟩
def o1194 : Obj := ⟨(T "property"), none, (.fields ⟨[(R 1193), N, N, N, (S "view_names" 1763), (.bool false)]⟩), ⟨[]⟩⟩
def o1195 : Obj := ⟨(T "tuple"), none, (.seq ⟨[]⟩ 0), ⟨[]⟩⟩
def o1196 : Obj := ⟨N, none, (.fields ⟨[]⟩), ⟨[]⟩⟩
def o1197 : Obj := ⟨(T "tuple"), none, (.seq ⟨[(S "self" 1767)]⟩ 0), ⟨[]⟩⟩
def o1198 : Obj := ⟨(T "tuple"), none, (.seq ⟨[]⟩ 0), ⟨[]⟩⟩
def o1199 : Obj := ⟨N, none, (F (C 88 8) (u "__str__") (u "Design.__str__") 0 [] N N N N none N N 0), ⟨[]⟩⟩
def o1200 : Obj := ⟨(T "code"), none, (.fields ⟨[(S "__str__" 1764), (S "Design.__str__" 1765), (S "/claim/cut.py" 1766), (I 690), (I 1), (I 0), (I 0), (I 3), (R 1195), (.bool true), (I 181), (R 1196), N, (R 1197), (R 1198), (R 1199), (I 1768), (I 690), (S "/claim/cut.py" 1769)]⟩), ⟨[]⟩⟩
def o1201 : Obj := ⟨(T "function"), none, (F (C 88 8) (u "__str__") (u "Design.__str__") 3 [] N N N (S "onemember.designs" 1675) none (R 1200) N 0), ⟨[]⟩⟩
def o1202 : Obj := ⟨(T "tuple"), none, (.seq ⟨[]⟩ 0), ⟨[]⟩⟩
def o1203 : Obj := ⟨N, none, (.fields ⟨[]⟩), ⟨[]⟩⟩
def o1204 : Obj := ⟨(T "tuple"), none, (.seq ⟨[(S "self" 1774)]⟩ 0), ⟨[]⟩⟩
def o1205 : Obj := ⟨(T "tuple"), none, (.seq ⟨[]⟩ 0), ⟨[]⟩⟩
def o1206 : Obj := ⟨N, none, (F (C 88 9) (u "__repr__") (u "Design.__repr__") 0 [] N N N N none N N 0), ⟨[]⟩⟩
def o1207 : Obj := ⟨(T "code"), none, (.fields ⟨[(S "__repr__" 1771), (S "Design.__repr__" 1772), (S "/claim/cut.py" 1773), (I 693), (I 1), (I 0), (I 0), (I 3), (R 1202), (.bool true), (I 181), (R 1203), N, (R 1204), (R 1205), (R 1206), (I 1775), (I 693), (S "/claim/cut.py" 1776)]⟩), ⟨[]⟩⟩
def o1208 : Obj := ⟨(T "function"), none, (F (C 88 9) (u "__repr__") (u "Design.__repr__") 3 [] N N N (S "onemember.designs" 1675) none (R 1207) N 0), ⟨[]⟩⟩
def o1209 : Obj := ⟨(T "tuple"), none, (.seq ⟨[]⟩ 0), ⟨[]⟩⟩
def o1210 : Obj := ⟨N, none, (.fields ⟨[]⟩), ⟨[]⟩⟩
def o1211 : Obj := ⟨(T "tuple"), none, (.seq ⟨[(S "self" 1781)]⟩ 0), ⟨[]⟩⟩
def o1212 : Obj := ⟨(T "tuple"), none, (.seq ⟨[]⟩ 0), ⟨[]⟩⟩
def o1213 : Obj := ⟨N, none, (F (C 88 10) (u "__len__") (u "Design.__len__") 0 [] N N N N none N N 0), ⟨[]⟩⟩
def o1214 : Obj := ⟨(T "code"), none, (.fields ⟨[(S "__len__" 1778), (S "Design.__len__" 1779), (S "/claim/cut.py" 1780), (I 696), (I 1), (I 0), (I 0), (I 3), (R 1209), (.bool true), (I 181), (R 1210), N, (R 1211), (R 1212), (R 1213), (I 1782), (I 696), (S "/claim/cut.py" 1783)]⟩), ⟨[]⟩⟩
def o1215 : Obj := ⟨(T "function"), none, (F (C 88 10) (u "__len__") (u "Design.__len__") 3 [] N N N (S "onemember.designs" 1675) none (R 1214) N 0), ⟨[]⟩⟩
def o1216 : Obj := ⟨(T "tuple"), none, (.seq ⟨[]⟩ 0), ⟨[]⟩⟩
def o1217 : Obj := ⟨N, none, (.fields ⟨[]⟩), ⟨[]⟩⟩
def o1218 : Obj := ⟨(T "tuple"), none, (.seq ⟨[(S "self" 1788), (S "other" 1789)]⟩ 0), ⟨[]⟩⟩
def o1219 : Obj := ⟨(T "tuple"), none, (.seq ⟨[]⟩ 0), ⟨[]⟩⟩
def o1220 : Obj := ⟨N, none, (F (C 88 11) (u "__eq__") (u "Design.__eq__") 0 [] N N N N none N N 0), ⟨[]⟩⟩
def o1221 : Obj := ⟨(T "code"), none, (.fields ⟨[(S "__eq__" 1785), (S "Design.__eq__" 1786), (S "/claim/cut.py" 1787), (I 699), (I 2), (I 0), (I 0), (I 3), (R 1216), (.bool true), (I 181), (R 1217), N, (R 1218), (R 1219), (R 1220), (I 1790), (I 699), (S "/claim/cut.py" 1791)]⟩), ⟨[]⟩⟩
def o1222 : Obj := ⟨(T "function"), none, (F (C 88 11) (u "__eq__") (u "Design.__eq__") 3 [] N N N (S "onemember.designs" 1675) none (R 1221) N 0), ⟨[]⟩⟩
def o1223 : Obj := ⟨(T "tuple"), none, (.seq ⟨[]⟩ 0), ⟨[]⟩⟩
def o1224 : Obj := ⟨N, none, (.fields ⟨[]⟩), ⟨[]⟩⟩
def o1225 : Obj := ⟨(T "tuple"), none, (.seq ⟨[(S "self" 1796), (S "value" 1797)]⟩ 0), ⟨[]⟩⟩
def o1226 : Obj := ⟨(T "tuple"), none, (.seq ⟨[]⟩ 0), ⟨[]⟩⟩
def o1227 : Obj := ⟨N, none, (F (C 88 12) (u "__contains__") (u "Design.__contains__") 0 [] N N N N none N N 0), ⟨[]⟩⟩
def o1228 : Obj := ⟨(T "code"), none, (.fields ⟨[(S "__contains__" 1793), (S "Design.__contains__" 1794), (S "/claim/cut.py" 1795), (I 702), (I 2), (I 0), (I 0), (I 3), (R 1223), (.bool true), (I 181), (R 1224), N, (R 1225), (R 1226), (R 1227), (I 1798), (I 702), (S "/claim/cut.py" 1799)]⟩), ⟨[]⟩⟩
def o1229 : Obj := ⟨(T "function"), none, (F (C 88 12) (u "__contains__") (u "Design.__contains__") 3 [] N N N (S "onemember.designs" 1675) none (R 1228) N 0), ⟨[]⟩⟩
def o1230 : Obj := ⟨(T "tuple"), none, (.seq ⟨[]⟩ 0), ⟨[]⟩⟩
def o1231 : Obj := ⟨N, none, (.fields ⟨[]⟩), ⟨[]⟩⟩
def o1232 : Obj := ⟨(T "tuple"), none, (.seq ⟨[(S "self" 1804), (S "call" 1805)]⟩ 0), ⟨[]⟩⟩
def o1233 : Obj := ⟨(T "tuple"), none, (.seq ⟨[]⟩ 0), ⟨[]⟩⟩
def o1234 : Obj := ⟨N, none, (F (C 88 13) (u "sort_of") (u "Design.sort_of") 0 [] N N N N none N N 0), ⟨[]⟩⟩
def o1235 : Obj := ⟨(T "code"), none, (.fields ⟨[(S "sort_of" 1801), (S "Design.sort_of" 1802), (S "/claim/cut.py" 1803), (I 705), (I 2), (I 0), (I 0), (I 3), (R 1230), (.bool true), (I 181), (R 1231), N, (R 1232), (R 1233), (R 1234), (I 1806), (I 705), (S "/claim/cut.py" 1807)]⟩), ⟨[]⟩⟩
def o1236 : Obj := ⟨(T "function"), none, (F (C 88 13) (u "sort_of") (u "Design.sort_of") 3 [] N N N (S "onemember.designs" 1675) none (R 1235) N 0), ⟨[]⟩⟩
def o1237 : Obj := ⟨(T "tuple"), none, (.seq ⟨[]⟩ 0), ⟨[]⟩⟩
def o1238 : Obj := ⟨N, none, (.fields ⟨[]⟩), ⟨[]⟩⟩
def o1239 : Obj := ⟨(T "tuple"), none, (.seq ⟨[(S "self" 1812), (S "call" 1813), (S "mode" 1814)]⟩ 0), ⟨[]⟩⟩
def o1240 : Obj := ⟨(T "tuple"), none, (.seq ⟨[]⟩ 0), ⟨[]⟩⟩
def o1241 : Obj := ⟨N, none, (F (C 88 14) (u "case_of") (u "Design.case_of") 0 [] N N N N none N N 0), ⟨[]⟩⟩
def o1242 : Obj := ⟨(T "code"), none, (.fields ⟨[(S "case_of" 1809), (S "Design.case_of" 1810), (S "/claim/cut.py" 1811), (I 708), (I 3), (I 0), (I 0), (I 3), (R 1237), (.bool true), (I 181), (R 1238), N, (R 1239), (R 1240), (R 1241), (I 1815), (I 708), (S "/claim/cut.py" 1816)]⟩), ⟨[]⟩⟩
def o1243 : Obj := ⟨(T "function"), none, (F (C 88 14) (u "case_of") (u "Design.case_of") 3 [] N N N (S "onemember.designs" 1675) none (R 1242) N 0), ⟨[]⟩⟩
def o1244 : Obj := ⟨(T "tuple"), none, (.seq ⟨[]⟩ 0), ⟨[]⟩⟩
def o1245 : Obj := ⟨N, none, (.fields ⟨[]⟩), ⟨[]⟩⟩
def o1246 : Obj := ⟨(T "tuple"), none, (.seq ⟨[(S "self" 1821), (S "name" 1822), (S "mode" 1823)]⟩ 0), ⟨[]⟩⟩
def o1247 : Obj := ⟨(T "tuple"), none, (.seq ⟨[]⟩ 0), ⟨[]⟩⟩
def o1248 : Obj := ⟨N, none, (F (C 88 15) (u "view_of") (u "Design.view_of") 0 [] N N N N none N N 0), ⟨[]⟩⟩
def o1249 : Obj := ⟨(T "code"), none, (.fields ⟨[(S "view_of" 1818), (S "Design.view_of" 1819), (S "/claim/cut.py" 1820), (I 711), (I 3), (I 0), (I 0), (I 3), (R 1244), (.bool true), (I 181), (R 1245), N, (R 1246), (R 1247), (R 1248), (I 1824), (I 711), (S "/claim/cut.py" 1825)]⟩), ⟨[]⟩⟩
def o1250 : Obj := ⟨(T "function"), none, (F (C 88 15) (u "view_of") (u "Design.view_of") 3 [] N N N (S "onemember.designs" 1675) none (R 1249) N 0), ⟨[]⟩⟩
def o1251 : Obj := ⟨(T "tuple"), none, (.seq ⟨[]⟩ 0), ⟨[]⟩⟩
def o1252 : Obj := ⟨N, none, (.fields ⟨[]⟩), ⟨[]⟩⟩
def o1253 : Obj := ⟨(T "tuple"), none, (.seq ⟨[(S "self" 1830), (S "call" 1831)]⟩ 0), ⟨[]⟩⟩
def o1254 : Obj := ⟨(T "tuple"), none, (.seq ⟨[]⟩ 0), ⟨[]⟩⟩
def o1255 : Obj := ⟨N, none, (F (C 88 16) (u "with_call") (u "Design.with_call") 0 [] N N N N none N N 0), ⟨[]⟩⟩
def o1256 : Obj := ⟨(T "code"), none, (.fields ⟨[(S "with_call" 1827), (S "Design.with_call" 1828), (S "/claim/cut.py" 1829), (I 714), (I 2), (I 0), (I 0), (I 3), (R 1251), (.bool true), (I 181), (R 1252), N, (R 1253), (R 1254), (R 1255), (I 1832), (I 714), (S "/claim/cut.py" 1833)]⟩), ⟨[]⟩⟩
def o1257 : Obj := ⟨(T "function"), none, (F (C 88 16) (u "with_call") (u "Design.with_call") 3 [] N N N (S "onemember.designs" 1675) none (R 1256) N 0), ⟨[]⟩⟩
def o1258 : Obj := ⟨(T "tuple"), none, (.seq ⟨[]⟩ 0), ⟨[]⟩⟩
def o1259 : Obj := ⟨N, none, (.fields ⟨[]⟩), ⟨[]⟩⟩
def o1260 : Obj := ⟨(T "tuple"), none, (.seq ⟨[(S "self" 1838), (S "name" 1839)]⟩ 0), ⟨[]⟩⟩
def o1261 : Obj := ⟨(T "tuple"), none, (.seq ⟨[]⟩ 0), ⟨[]⟩⟩
def o1262 : Obj := ⟨N, none, (F (C 88 17) (u "without") (u "Design.without") 0 [] N N N N none N N 0), ⟨[]⟩⟩
def o1263 : Obj := ⟨(T "code"), none, (.fields ⟨[(S "without" 1835), (S "Design.without" 1836), (S "/claim/cut.py" 1837), (I 717), (I 2), (I 0), (I 0), (I 3), (R 1258), (.bool true), (I 181), (R 1259), N, (R 1260), (R 1261), (R 1262), (I 1840), (I 717), (S "/claim/cut.py" 1841)]⟩), ⟨[]⟩⟩
def o1264 : Obj := ⟨(T "function"), none, (F (C 88 17) (u "without") (u "Design.without") 3 [] N N N (S "onemember.designs" 1675) none (R 1263) N 0), ⟨[]⟩⟩
def o1265 : Obj := ⟨(T "tuple"), none, (.seq ⟨[]⟩ 0), ⟨[]⟩⟩
def o1266 : Obj := ⟨N, none, (.fields ⟨[]⟩), ⟨[]⟩⟩
def o1267 : Obj := ⟨(T "tuple"), none, (.seq ⟨[(S "self" 1846), (S "pairs" 1847)]⟩ 0), ⟨[]⟩⟩
def o1268 : Obj := ⟨(T "tuple"), none, (.seq ⟨[]⟩ 0), ⟨[]⟩⟩
def o1269 : Obj := ⟨N, none, (F (C 88 18) (u "renamed") (u "Design.renamed") 0 [] N N N N none N N 0), ⟨[]⟩⟩
def o1270 : Obj := ⟨(T "code"), none, (.fields ⟨[(S "renamed" 1843), (S "Design.renamed" 1844), (S "/claim/cut.py" 1845), (I 720), (I 2), (I 0), (I 0), (I 3), (R 1265), (.bool true), (I 181), (R 1266), N, (R 1267), (R 1268), (R 1269), (I 1848), (I 720), (S "/claim/cut.py" 1849)]⟩), ⟨[]⟩⟩
def o1271 : Obj := ⟨(T "function"), none, (F (C 88 18) (u "renamed") (u "Design.renamed") 3 [] N N N (S "onemember.designs" 1675) none (R 1270) N 0), ⟨[]⟩⟩
def o1272 : Obj := ⟨(T "tuple"), none, (.seq ⟨[(S "_calls" 1851), (S "_cases" 1852), (S "_fields" 1853), (S "_modes" 1854), (S "_names" 1855), (S "_parts" 1856), (S "_shown" 1857), (S "_view_names" 1858), (S "_views" 1859)]⟩ 0), ⟨[]⟩⟩
def o1273 (P : Params) : Obj := ⟨(T "dict"), none, (.dict ⟨[E P "__module__" 1684 (S "onemember.designs" 1675), E P "__firstlineno__" 1688 (.int 636 1687), E P "__init__" 1694 (R 1136), E P "read" 1715 (R 1145), E P "fields" 1723 (R 1154), E P "modes" 1731 (R 1162), E P "calls" 1739 (R 1170), E P "views" 1747 (R 1178), E P "names" 1755 (R 1186), E P "view_names" 1763 (R 1194), E P "__str__" 1770 (R 1201), E P "__repr__" 1777 (R 1208), E P "__len__" 1784 (R 1215), E P "__eq__" 1792 (R 1222), E P "__contains__" 1800 (R 1229), E P "sort_of" 1808 (R 1236), E P "case_of" 1817 (R 1243), E P "view_of" 1826 (R 1250), E P "with_call" 1834 (R 1257), E P "without" 1842 (R 1264), E P "renamed" 1850 (R 1271), E P "__static_attributes__" 1860 (R 1272), E P "__dict__" 1862 (R 1275), E P "__weakref__" 1864 (R 1276), E P "__doc__" 1865 N, E P "__hash__" 1866 N]⟩ 5), ⟨[]⟩⟩
def o1274 : Obj := ⟨(T "type"), none, (.cls ⟨(u "Design"), [(T "object")], [(R 1274), (T "object")], 1273, (u "Design"), true, [], [], false, none, false⟩), ⟨[none, none, some (S "Design" 1677), some (S "Design" 1685), some (B "object.__new__"), some (.bool true)]⟩⟩
def o1275 : Obj := ⟨(T "getset_descriptor"), none, (.fields ⟨[(S "__dict__" 1861), (R 1274), (B "function.__dict__"), (B "function.__dict__#set")]⟩), ⟨[]⟩⟩
def o1276 : Obj := ⟨(T "getset_descriptor"), none, (.fields ⟨[(S "__weakref__" 1863), (R 1274), (B "ExceptionGroup.__weakref__"), N]⟩), ⟨[]⟩⟩
def o1277 : Obj := ⟨(T "super"), none, (.fields ⟨[(R 1274), (R 1274), (R 1274)]⟩), ⟨[]⟩⟩
def o1278 : Obj := ⟨(T "builtin_function_or_method"), none, (.fields ⟨[(B "object.__init_subclass__"), (R 1274)]⟩), ⟨[]⟩⟩
def o1279 : Obj := ⟨(T "tuple"), none, (.seq ⟨[]⟩ 0), ⟨[]⟩⟩
def o1280 : Obj := ⟨N, none, (.fields ⟨[]⟩), ⟨[]⟩⟩
def o1281 : Obj := ⟨(T "tuple"), none, (.seq ⟨[(S "_law_cells" 1874), (S "_law_k" 1875), (S "_law_mixed" 1876), (S "_law_cell_here" 1877)]⟩ 0), ⟨[]⟩⟩
def o1282 : Obj := ⟨(T "tuple"), none, (.seq ⟨[]⟩ 0), ⟨[]⟩⟩
def o1283 : Obj := ⟨N, none, (F (A 90) (u "_law_cell") (u "_law_cell") 0 [] N N N N none N N 0), ⟨[]⟩⟩
def o1284 : Obj := ⟨(T "code"), none, (.fields ⟨[(S "_law_cell" 1871), (S "_law_cell" 1872), (S "/claim/cut.py" 1873), (I 723), (I 2), (I 0), (I 0), (I 3), (R 1279), (.bool true), (I 181), (R 1280), N, (R 1281), (R 1282), (R 1283), (I 1878), (I 723), (S "/claim/cut.py" 1879)]⟩), ⟨[]⟩⟩
def o1285 : Obj := ⟨(T "function"), none, (F (A 90) (u "_law_cell") (u "_law_cell") 3 [] N N N (S "law_onemember_k10_fields_and_modes_refused" 1869) none (R 1284) N 0), ⟨[]⟩⟩
def o1286 : Obj := ⟨(T "tuple"), none, (.seq ⟨[]⟩ 0), ⟨[]⟩⟩
def o1287 : Obj := ⟨N, none, (.fields ⟨[]⟩), ⟨[]⟩⟩
def o1288 : Obj := ⟨(T "tuple"), none, (.seq ⟨[(S "_law_cell_here" 1884)]⟩ 0), ⟨[]⟩⟩
def o1289 : Obj := ⟨(T "tuple"), none, (.seq ⟨[]⟩ 0), ⟨[]⟩⟩
def o1290 : Obj := ⟨N, none, (F (A 91) (u "_law_pool") (u "_law_pool") 0 [] N N N N none N N 0), ⟨[]⟩⟩
def o1291 : Obj := ⟨(T "code"), none, (.fields ⟨[(S "_law_pool" 1881), (S "_law_pool" 1882), (S "/claim/cut.py" 1883), (I 730), (I 1), (I 0), (I 0), (I 3), (R 1286), (.bool true), (I 181), (R 1287), N, (R 1288), (R 1289), (R 1290), (I 1885), (I 730), (S "/claim/cut.py" 1886)]⟩), ⟨[]⟩⟩
def o1292 : Obj := ⟨(T "function"), none, (F (A 91) (u "_law_pool") (u "_law_pool") 3 [] N N N (S "law_onemember_k10_fields_and_modes_refused" 1869) none (R 1291) N 0), ⟨[]⟩⟩
def o1293 : Obj := ⟨(T "tuple"), none, (.seq ⟨[]⟩ 0), ⟨[]⟩⟩
def o1294 : Obj := ⟨N, none, (.fields ⟨[]⟩), ⟨[]⟩⟩
def o1295 : Obj := ⟨(T "tuple"), none, (.seq ⟨[(S "_law_pool_here" 1891), (S "_law_many" 1892), (S "_law_mixed" 1893), (S "_law_digit" 1894)]⟩ 0), ⟨[]⟩⟩
def o1296 : Obj := ⟨(T "tuple"), none, (.seq ⟨[]⟩ 0), ⟨[]⟩⟩
def o1297 : Obj := ⟨N, none, (F (A 92) (u "_law_draw") (u "_law_draw") 0 [] N N N N none N N 0), ⟨[]⟩⟩
def o1298 : Obj := ⟨(T "code"), none, (.fields ⟨[(S "_law_draw" 1888), (S "_law_draw" 1889), (S "/claim/cut.py" 1890), (I 732), (I 2), (I 0), (I 0), (I 3), (R 1293), (.bool true), (I 181), (R 1294), N, (R 1295), (R 1296), (R 1297), (I 1895), (I 732), (S "/claim/cut.py" 1896)]⟩), ⟨[]⟩⟩
def o1299 : Obj := ⟨(T "function"), none, (F (A 92) (u "_law_draw") (u "_law_draw") 3 [] N N N (S "law_onemember_k10_fields_and_modes_refused" 1869) none (R 1298) N 0), ⟨[]⟩⟩
def o1300 : Obj := ⟨(T "tuple"), none, (.seq ⟨[]⟩ 0), ⟨[]⟩⟩
def o1301 : Obj := ⟨N, none, (.fields ⟨[]⟩), ⟨[]⟩⟩
def o1302 : Obj := ⟨N, none, (F (A 93) (u "_law_names") (u "_law_names") 0 [] N N N N none N N 0), ⟨[]⟩⟩
def o1303 : Obj := ⟨(T "code"), none, (.fields ⟨[(S "_law_names" 1898), (S "_law_names" 1899), (S "/claim/cut.py" 1900), (I 741), (I 2), (I 0), (I 0), (I 3), (R 1300), (.bool true), (I 181), (R 1301), N, N, N, (R 1302), (I 1901), (I 741), (S "/claim/cut.py" 1902)]⟩), ⟨[]⟩⟩
def o1304 : Obj := ⟨(T "function"), none, (F (A 93) (u "_law_names") (u "_law_names") 3 [] N N N (S "law_onemember_k10_fields_and_modes_refused" 1869) none (R 1303) N 0), ⟨[]⟩⟩
def o1305 : Obj := ⟨(T "tuple"), none, (.seq ⟨[]⟩ 0), ⟨[]⟩⟩
def o1306 : Obj := ⟨N, none, (.fields ⟨[]⟩), ⟨[]⟩⟩
def o1307 : Obj := ⟨(T "tuple"), none, (.seq ⟨[(S "_law_ask" 1907), (S "_law_told" 1908), (S "e" 1909), (S "_law_sides" 1910), (S "_law_base" 1911), (S "_law_sorts" 1912), (S "_law_at" 1913)]⟩ 0), ⟨[]⟩⟩
def o1308 : Obj := ⟨(T "tuple"), none, (.seq ⟨[]⟩ 0), ⟨[]⟩⟩
def o1309 : Obj := ⟨N, none, (F (A 94) (u "_law_caught") (u "_law_caught") 0 [] N N N N none N N 0), ⟨[]⟩⟩
def o1310 : Obj := ⟨(T "code"), none, (.fields ⟨[(S "_law_caught" 1904), (S "_law_caught" 1905), (S "/claim/cut.py" 1906), (I 750), (I 1), (I 0), (I 0), (I 3), (R 1305), (.bool true), (I 181), (R 1306), N, (R 1307), (R 1308), (R 1309), (I 1914), (I 750), (S "/claim/cut.py" 1915)]⟩), ⟨[]⟩⟩
def o1311 : Obj := ⟨(T "function"), none, (F (A 94) (u "_law_caught") (u "_law_caught") 3 [] N N N (S "law_onemember_k10_fields_and_modes_refused" 1869) none (R 1310) N 0), ⟨[]⟩⟩
def o1312 : Obj := ⟨(T "tuple"), none, (.seq ⟨[]⟩ 0), ⟨[]⟩⟩
def o1313 : Obj := ⟨N, none, (.fields ⟨[]⟩), ⟨[]⟩⟩
def o1314 : Obj := ⟨(T "tuple"), none, (.seq ⟨[(S "_law_pool_here" 1920), (S "_law_names_here" 1921), (S "_law_more" 1922), (S "_law_way" 1923), (S "_law_at" 1924), (S "_law_bad" 1925)]⟩ 0), ⟨[]⟩⟩
def o1315 : Obj := ⟨(T "tuple"), none, (.seq ⟨[]⟩ 0), ⟨[]⟩⟩
def o1316 : Obj := ⟨N, none, (F (A 95) (u "_law_bent") (u "_law_bent") 0 [] N N N N none N N 0), ⟨[]⟩⟩
def o1317 : Obj := ⟨(T "code"), none, (.fields ⟨[(S "_law_bent" 1917), (S "_law_bent" 1918), (S "/claim/cut.py" 1919), (I 775), (I 3), (I 0), (I 0), (I 3), (R 1312), (.bool true), (I 181), (R 1313), N, (R 1314), (R 1315), (R 1316), (I 1926), (I 775), (S "/claim/cut.py" 1927)]⟩), ⟨[]⟩⟩
def o1318 : Obj := ⟨(T "function"), none, (F (A 95) (u "_law_bent") (u "_law_bent") 3 [] N N N (S "law_onemember_k10_fields_and_modes_refused" 1869) none (R 1317) N 0), ⟨[]⟩⟩
def o1319 : Obj := ⟨(T "tuple"), none, (.seq ⟨[]⟩ 0), ⟨[]⟩⟩
def o1320 : Obj := ⟨N, none, (.fields ⟨[]⟩), ⟨[]⟩⟩
def o1321 : Obj := ⟨(T "tuple"), none, (.seq ⟨[(S "_law_pool_here" 1932), (S "_law_at" 1933), (S "_law_place" 1934), (S "_law_told" 1935), (S "_law_due" 1936), (S "_law_words" 1937), (S "_law_made" 1938)]⟩ 0), ⟨[]⟩⟩
def o1322 : Obj := ⟨(T "tuple"), none, (.seq ⟨[(S "_law_bent_here" 1939), (S "_law_crooked" 1940), (S "_law_fields" 1941), (S "_law_modes" 1942)]⟩ 0), ⟨[]⟩⟩
def o1323 : Obj := ⟨N, none, (F (A 96) (u "_law_right") (u "_law_right") 0 [] N N N N none N N 0), ⟨[]⟩⟩
def o1324 : Obj := ⟨(T "code"), none, (.fields ⟨[(S "_law_right" 1929), (S "_law_right" 1930), (S "/claim/cut.py" 1931), (I 785), (I 1), (I 0), (I 0), (I 3), (R 1319), (.bool true), (I 181), (R 1320), N, (R 1321), (R 1322), (R 1323), (I 1943), (I 785), (S "/claim/cut.py" 1944)]⟩), ⟨[]⟩⟩
def o1325 : Obj := ⟨(T "function"), none, (F (A 96) (u "_law_right") (u "_law_right") 3 [] N N N (S "law_onemember_k10_fields_and_modes_refused" 1869) none (R 1324) N 0), ⟨[]⟩⟩
def o1326 : Obj := ⟨(T "tuple"), none, (.seq ⟨[]⟩ 0), ⟨[]⟩⟩
def o1327 : Obj := ⟨N, none, (.fields ⟨[]⟩), ⟨[]⟩⟩
def o1328 : Obj := ⟨N, none, (F (A 97) (u "law") (u "law") 0 [] N N N N none N N 0), ⟨[]⟩⟩
def o1329 : Obj := ⟨(T "code"), none, (.fields ⟨[(S "law" 1946), (S "law" 1947), (S "/claim/cut.py" 1948), (I 804), (I 1), (I 0), (I 0), (I 3), (R 1326), (.bool true), (I 181), (R 1327), N, N, N, (R 1328), (I 1949), (I 804), (S "/claim/cut.py" 1950)]⟩), ⟨[]⟩⟩
def o1330 : Obj := ⟨(T "function"), none, (F (A 97) (u "law") (u "law") 3 [] N N N (S "law_onemember_k10_fields_and_modes_refused" 1869) none (R 1329) N 0), ⟨[]⟩⟩
def t4 (P : Params) : BT := (n (boot_o_0 P) (n (boot_o_1 P) (n (o3_4 P) (n (boot_o_7 P) (n o15 (n o31_2 (n (o63 P) (n o127 (n o255 (n o511 (n o1023 z z) z) (n o767 (n o1279 z z) z)) (n o383 (n o639 (n o1151 z z) z) (n o895 z z))) (n o191 (n o319 (n o575 (n o1087 z z) z) (n o831 z z)) (n o447 (n o703 (n o1215 z z) z) (n o959 z z)))) (n (o95 P) (n o159 (n o287 (n o543 (n o1055 z z) z) (n o799 (n o1311 z z) z)) (n o415 (n o671 (n o1183 z z) z) (n o927 z z))) (n o223 (n o351 (n o607 (n o1119 z z) z) (n o863 z z)) (n o479 (n o735 (n o1247 z z) z) (n o991 z z))))) (n o47 (n o79 (n o143 (n o271 (n o527 (n o1039 z z) z) (n o783 (n o1295 z z) z)) (n o399 (n o655 (n o1167 z z) z) (n o911 z z))) (n o207 (n (o335 P) (n o591 (n o1103 z z) z) (n o847 z z)) (n o463 (n o719 (n o1231 z z) z) (n o975 z z)))) (n o111 (n o175 (n (o303 P) (n o559 (n o1071 z z) z) (n o815 (n o1327 z z) z)) (n o431 (n o687 (n o1199 z z) z) (n o943 z z))) (n o239 (n o367 (n o623 (n o1135 z z) z) (n o879 z z)) (n o495 (n (o751 P) (n o1263 z z) z) (n o1007 z z)))))) (n o23 (n o39 (n o71 (n o135 (n o263 (n o519 (n o1031 z z) z) (n o775 (n o1287 z z) z)) (n o391 (n o647 (n o1159 z z) z) (n o903 z z))) (n o199 (n o327 (n o583 (n o1095 z z) z) (n o839 z z)) (n (o455 P) (n o711 (n o1223 z z) z) (n (o967 P) z z)))) (n o103 (n o167 (n o295 (n o551 (n o1063 z z) z) (n o807 (n o1319 z z) z)) (n o423 (n o679 (n o1191 z z) z) (n o935 z z))) (n o231 (n o359 (n o615 (n (o1127 P) z z) z) (n o871 z z)) (n o487 (n o743 (n o1255 z z) z) (n o999 z z))))) (n o55 (n o87 (n o151 (n o279 (n o535 (n o1047 z z) z) (n o791 (n o1303 z z) z)) (n o407 (n o663 (n o1175 z z) z) (n o919 z z))) (n (o215 P) (n o343 (n o599 (n o1111 z z) z) (n o855 z z)) (n o471 (n o727 (n o1239 z z) z) (n o983 z z)))) (n o119 (n o183 (n o311 (n o567 (n o1079 z z) z) (n o823 z z)) (n o439 (n o695 (n o1207 z z) z) (n o951 z z))) (n (o247 P) (n o375 (n o631 (n o1143 z z) z) (n o887 z z)) (n o503 (n o759 (n o1271 z z) z) (n o1015 z z))))))) (n o11 (n o19 (n o35 (n o67 (n o131 (n o259 (n o515 (n o1027 z z) z) (n o771 (n o1283 z z) z)) (n o387 (n o643 (n o1155 z z) z) (n o899 z z))) (n o195 (n o323 (n o579 (n o1091 z z) z) (n o835 z z)) (n o451 (n o707 (n o1219 z z) z) (n o963 z z)))) (n o99 (n o163 (n (o291 P) (n o547 (n o1059 z z) z) (n o803 (n o1315 z z) z)) (n o419 (n o675 (n o1187 z z) z) (n o931 z z))) (n o227 (n o355 (n o611 (n o1123 z z) z) (n (o867 P) z z)) (n o483 (n o739 (n o1251 z z) z) (n o995 z z))))) (n o51 (n o83 (n o147 (n o275 (n o531 (n o1043 z z) z) (n o787 (n o1299 z z) z)) (n o403 (n o659 (n o1171 z z) z) (n o915 z z))) (n o211 (n o339 (n o595 (n o1107 z z) z) (n o851 z z)) (n o467 (n o723 (n o1235 z z) z) (n o979 z z)))) (n o115 (n o179 (n o307 (n o563 (n o1075 z z) z) (n o819 z z)) (n o435 (n o691 (n o1203 z z) z) (n o947 z z))) (n o243 (n o371 (n o627 (n o1139 z z) z) (n o883 z z)) (n o499 (n o755 (n o1267 z z) z) (n o1011 z z)))))) (n o27 (n (o43 P) (n o75 (n (o139 P) (n o267 (n o523 (n o1035 z z) z) (n o779 (n o1291 z z) z)) (n o395 (n o651 (n o1163 z z) z) (n o907 z z))) (n o203 (n o331 (n o587 (n o1099 z z) z) (n o843 z z)) (n o459 (n o715 (n o1227 z z) z) (n o971 z z)))) (n o107 (n (o171 P) (n o299 (n o555 (n o1067 z z) z) (n o811 (n o1323 z z) z)) (n o427 (n o683 (n o1195 z z) z) (n o939 z z))) (n o235 (n o363 (n o619 (n o1131 z z) z) (n (o875 P) z z)) (n o491 (n o747 (n o1259 z z) z) (n o1003 z z))))) (n o59 (n o91 (n o155 (n o283 (n o539 (n o1051 z z) z) (n o795 (n o1307 z z) z)) (n o411 (n o667 (n o1179 z z) z) (n o923 z z))) (n o219 (n o347 (n o603 (n o1115 z z) z) (n o859 z z)) (n o475 (n o731 (n o1243 z z) z) (n o987 z z)))) (n o123 (n o187 (n o315 (n o571 (n o1083 z z) z) (n o827 z z)) (n o443 (n o699 (n o1211 z z) z) (n o955 z z))) (n o251 (n o379 (n o635 (n o1147 z z) z) (n o891 z z)) (n o507 (n o763 (n o1275 z z) z) (n o1019 z z)))))))) (n (boot_o_5 P) (n (boot_o_9 P) (n o17 (n o33 (n o65 (n o129 (n o257 (n o513 (n o1025 z z) z) (n o769 (n o1281 z z) z)) (n o385 (n o641 (n o1153 z z) z) (n o897 z z))) (n o193 (n o321 (n o577 (n o1089 z z) z) (n o833 z z)) (n o449 (n o705 (n o1217 z z) z) (n o961 z z)))) (n o97 (n o161 (n o289 (n o545 (n o1057 z z) z) (n o801 (n o1313 z z) z)) (n o417 (n o673 (n o1185 z z) z) (n o929 z z))) (n o225 (n o353 (n o609 (n o1121 z z) z) (n o865 z z)) (n o481 (n o737 (n o1249 z z) z) (n o993 z z))))) (n o49 (n o81 (n o145 (n o273 (n o529 (n o1041 z z) z) (n o785 (n o1297 z z) z)) (n o401 (n o657 (n o1169 z z) z) (n o913 z z))) (n (o209 P) (n o337 (n o593 (n o1105 z z) z) (n o849 z z)) (n o465 (n o721 (n o1233 z z) z) (n o977 z z)))) (n o113 (n (o177 P) (n o305 (n o561 (n o1073 z z) z) (n o817 (n o1329 z z) z)) (n o433 (n o689 (n o1201 z z) z) (n o945 z z))) (n o241 (n o369 (n o625 (n o1137 z z) z) (n o881 z z)) (n o497 (n (o753 P) (n o1265 z z) z) (n o1009 z z)))))) (n o25 (n o41 (n o73 (n o137 (n o265 (n o521 (n o1033 z z) z) (n o777 (n o1289 z z) z)) (n o393 (n o649 (n o1161 z z) z) (n o905 z z))) (n o201 (n o329 (n o585 (n o1097 z z) z) (n o841 z z)) (n o457 (n o713 (n o1225 z z) z) (n o969 z z)))) (n o105 (n o169 (n (o297 P) (n o553 (n o1065 z z) z) (n o809 (n o1321 z z) z)) (n o425 (n o681 (n o1193 z z) z) (n o937 z z))) (n o233 (n o361 (n o617 (n o1129 z z) z) (n o873 z z)) (n o489 (n o745 (n o1257 z z) z) (n o1001 z z))))) (n o57_2 (n o89 (n o153 (n o281 (n o537 (n o1049 z z) z) (n o793 (n o1305 z z) z)) (n o409 (n o665 (n o1177 z z) z) (n o921 z z))) (n o217 (n o345 (n o601 (n o1113 z z) z) (n o857 z z)) (n o473 (n o729 (n o1241 z z) z) (n o985 z z)))) (n o121 (n o185 (n o313 (n o569 (n o1081 z z) z) (n o825 z z)) (n o441 (n o697 (n o1209 z z) z) (n o953 z z))) (n o249 (n o377 (n o633 (n o1145 z z) z) (n o889 z z)) (n o505 (n o761 (n (o1273 P) z z) z) (n o1017 z z))))))) (n o13 (n o21 (n (o37 P) (n o69 (n (o133 P) (n o261 (n o517 (n o1029 z z) z) (n o773 (n o1285 z z) z)) (n o389 (n o645 (n o1157 z z) z) (n o901 z z))) (n o197 (n o325 (n o581 (n o1093 z z) z) (n o837 z z)) (n o453 (n o709 (n o1221 z z) z) (n o965 z z)))) (n (o101 P) (n o165 (n o293 (n o549 (n o1061 z z) z) (n o805 (n o1317 z z) z)) (n o421 (n o677 (n o1189 z z) z) (n o933 z z))) (n o229 (n o357 (n o613 (n o1125 z z) z) (n o869 z z)) (n o485 (n o741 (n o1253 z z) z) (n o997 z z))))) (n o53 (n o85 (n o149 (n o277 (n o533 (n o1045 z z) z) (n o789 (n o1301 z z) z)) (n o405 (n o661 (n o1173 z z) z) (n o917 z z))) (n o213 (n o341 (n o597 (n o1109 z z) z) (n o853 z z)) (n o469 (n o725 (n o1237 z z) z) (n o981 z z)))) (n o117 (n o181 (n o309 (n o565 (n o1077 z z) z) (n o821 z z)) (n o437 (n o693 (n o1205 z z) z) (n o949 z z))) (n o245 (n o373 (n (o629 P) (n o1141 z z) z) (n o885 z z)) (n o501 (n o757 (n o1269 z z) z) (n o1013 z z)))))) (n o29 (n o45 (n o77 (n o141 (n o269 (n o525 (n o1037 z z) z) (n o781 (n o1293 z z) z)) (n o397 (n o653 (n o1165 z z) z) (n o909 z z))) (n o205 (n o333 (n o589 (n o1101 z z) z) (n o845 z z)) (n o461 (n o717 (n o1229 z z) z) (n o973 z z)))) (n o109 (n o173 (n o301 (n o557 (n o1069 z z) z) (n o813 (n o1325 z z) z)) (n o429 (n o685 (n o1197 z z) z) (n o941 z z))) (n o237 (n o365 (n (o621 P) (n o1133 z z) z) (n o877 z z)) (n o493 (n o749 (n o1261 z z) z) (n o1005 z z))))) (n o61 (n o93 (n o157 (n (o285 P) (n o541 (n o1053 z z) z) (n o797 (n o1309 z z) z)) (n o413 (n o669 (n o1181 z z) z) (n o925 z z))) (n o221 (n o349 (n o605 (n o1117 z z) z) (n o861 z z)) (n o477 (n o733 (n o1245 z z) z) (n o989 z z)))) (n o125 (n o189 (n o317 (n o573 (n o1085 z z) z) (n o829 z z)) (n o445 (n o701 (n o1213 z z) z) (n o957 z z))) (n (o253 P) (n o381 (n o637 (n o1149 z z) z) (n o893 z z)) (n o509 (n o765 (n o1277 z z) z) (n o1021 z z))))))))) (n (o2_1 P) (n (boot_o_4 P) (n (boot_o_8 P) (n o16 (n o32 (n o64 (n o128 (n o256 (n o512 (n o1024 z z) z) (n o768 (n o1280 z z) z)) (n o384 (n o640 (n o1152 z z) z) (n (o896 P) z z))) (n o192 (n o320 (n o576 (n o1088 z z) z) (n o832 z z)) (n o448 (n o704 (n o1216 z z) z) (n o960 z z)))) (n o96 (n o160 (n o288 (n o544 (n o1056 z z) z) (n o800 (n o1312 z z) z)) (n o416 (n o672 (n o1184 z z) z) (n o928 z z))) (n o224 (n o352 (n o608 (n o1120 z z) z) (n o864 z z)) (n o480 (n o736 (n o1248 z z) z) (n o992 z z))))) (n o48 (n o80 (n o144 (n (o272 P) (n o528 (n o1040 z z) z) (n o784 (n o1296 z z) z)) (n o400 (n o656 (n o1168 z z) z) (n o912 z z))) (n o208 (n o336 (n o592 (n o1104 z z) z) (n o848 z z)) (n o464 (n o720 (n o1232 z z) z) (n o976 z z)))) (n o112 (n o176 (n o304 (n o560 (n o1072 z z) z) (n o816 (n o1328 z z) z)) (n o432 (n o688 (n o1200 z z) z) (n o944 z z))) (n o240 (n o368 (n o624 (n o1136 z z) z) (n o880 z z)) (n o496 (n o752 (n o1264 z z) z) (n o1008 z z)))))) (n (o24 P) (n o40 (n o72 (n o136 (n o264 (n o520 (n o1032 z z) z) (n o776 (n o1288 z z) z)) (n o392 (n (o648 P) (n o1160 z z) z) (n o904 z z))) (n o200 (n o328 (n o584 (n o1096 z z) z) (n o840 z z)) (n o456 (n o712 (n o1224 z z) z) (n o968 z z)))) (n o104 (n o168 (n o296 (n o552 (n o1064 z z) z) (n o808 (n o1320 z z) z)) (n o424 (n o680 (n o1192 z z) z) (n o936 z z))) (n o232 (n o360 (n o616 (n o1128 z z) z) (n o872 z z)) (n o488 (n o744 (n o1256 z z) z) (n o1000 z z))))) (n (o56 P) (n o88 (n (o152 P) (n o280 (n o536 (n o1048 z z) z) (n o792 (n o1304 z z) z)) (n o408 (n o664 (n o1176 z z) z) (n o920 z z))) (n o216 (n o344 (n o600 (n o1112 z z) z) (n o856 z z)) (n (o472 P) (n o728 (n o1240 z z) z) (n o984 z z)))) (n (o120 P) (n o184 (n o312 (n o568 (n o1080 z z) z) (n o824 z z)) (n o440 (n o696 (n o1208 z z) z) (n o952 z z))) (n o248 (n o376 (n o632 (n (o1144 P) z z) z) (n o888 z z)) (n o504 (n o760 (n o1272 z z) z) (n o1016 z z))))))) (n o12_4 (n o20 (n o36 (n o68 (n o132 (n o260 (n o516 (n o1028 z z) z) (n o772 (n o1284 z z) z)) (n o388 (n o644 (n o1156 z z) z) (n o900 z z))) (n (o196 P) (n o324 (n o580 (n o1092 z z) z) (n o836 z z)) (n o452 (n o708 (n o1220 z z) z) (n o964 z z)))) (n o100 (n o164 (n o292 (n o548 (n o1060 z z) z) (n o804 (n o1316 z z) z)) (n o420 (n o676 (n o1188 z z) z) (n o932 z z))) (n (o228 P) (n o356 (n o612 (n o1124 z z) z) (n o868 z z)) (n (o484 P) (n o740 (n o1252 z z) z) (n o996 z z))))) (n o52 (n o84 (n o148 (n o276 (n o532 (n o1044 z z) z) (n o788 (n o1300 z z) z)) (n o404 (n o660 (n o1172 z z) z) (n o916 z z))) (n o212 (n o340 (n o596 (n o1108 z z) z) (n o852 z z)) (n o468 (n o724 (n o1236 z z) z) (n o980 z z)))) (n o116 (n o180 (n o308 (n o564 (n o1076 z z) z) (n o820 z z)) (n o436 (n o692 (n o1204 z z) z) (n o948 z z))) (n o244 (n o372 (n o628 (n o1140 z z) z) (n o884 z z)) (n o500 (n o756 (n o1268 z z) z) (n o1012 z z)))))) (n o28 (n o44_2 (n (o76 P) (n o140 (n o268 (n o524 (n o1036 z z) z) (n o780 (n o1292 z z) z)) (n o396 (n o652 (n o1164 z z) z) (n o908 z z))) (n o204 (n o332 (n o588 (n o1100 z z) z) (n o844 z z)) (n o460 (n o716 (n o1228 z z) z) (n o972 z z)))) (n o108 (n o172 (n o300 (n o556 (n o1068 z z) z) (n o812 (n o1324 z z) z)) (n o428 (n o684 (n o1196 z z) z) (n o940 z z))) (n o236 (n o364 (n o620 (n o1132 z z) z) (n o876 z z)) (n o492 (n o748 (n o1260 z z) z) (n o1004 z z))))) (n o60 (n o92 (n o156 (n o284 (n o540 (n o1052 z z) z) (n o796 (n o1308 z z) z)) (n o412 (n o668 (n o1180 z z) z) (n o924 z z))) (n o220 (n o348 (n o604 (n o1116 z z) z) (n o860 z z)) (n o476 (n (o732 P) (n o1244 z z) z) (n o988 z z)))) (n o124 (n o188 (n (o316 P) (n o572 (n o1084 z z) z) (n o828 z z)) (n o444 (n o700 (n o1212 z z) z) (n o956 z z))) (n o252 (n o380 (n o636 (n o1148 z z) z) (n o892 z z)) (n o508 (n o764 (n o1276 z z) z) (n o1020 z z)))))))) (n (boot_o_6 P) (n (boot_o_10 P) (n o18 (n o34 (n o66 (n o130 (n o258 (n o514 (n o1026 z z) z) (n o770 (n o1282 z z) z)) (n o386 (n o642 (n o1154 z z) z) (n o898 z z))) (n o194 (n (o322 P) (n o578 (n o1090 z z) z) (n o834 z z)) (n o450 (n o706 (n o1218 z z) z) (n o962 z z)))) (n o98 (n o162 (n o290 (n o546 (n o1058 z z) z) (n o802 (n o1314 z z) z)) (n o418 (n o674 (n o1186 z z) z) (n o930 z z))) (n o226 (n o354 (n o610 (n o1122 z z) z) (n o866 z z)) (n (o482 P) (n o738 (n o1250 z z) z) (n o994 z z))))) (n (o50 P) (n (o82 P) (n o146 (n o274 (n o530 (n o1042 z z) z) (n o786 (n o1298 z z) z)) (n o402 (n o658 (n o1170 z z) z) (n o914 z z))) (n o210 (n o338 (n o594 (n o1106 z z) z) (n (o850 P) z z)) (n o466 (n o722 (n o1234 z z) z) (n o978 z z)))) (n (o114 P) (n o178 (n o306 (n o562 (n o1074 z z) z) (n o818 (n o1330 z z) z)) (n o434 (n o690 (n o1202 z z) z) (n o946 z z))) (n o242 (n o370 (n o626 (n o1138 z z) z) (n o882 z z)) (n o498 (n o754 (n o1266 z z) z) (n o1010 z z)))))) (n o26 (n o42 (n o74 (n o138 (n (o266 P) (n o522 (n o1034 z z) z) (n o778 (n o1290 z z) z)) (n o394 (n (o650 P) (n o1162 z z) z) (n o906 z z))) (n o202 (n o330 (n o586 (n o1098 z z) z) (n o842 z z)) (n o458 (n o714 (n o1226 z z) z) (n o970 z z)))) (n o106 (n o170 (n o298 (n o554 (n o1066 z z) z) (n o810 (n o1322 z z) z)) (n o426 (n o682 (n o1194 z z) z) (n o938 z z))) (n (o234 P) (n o362 (n o618 (n o1130 z z) z) (n o874 z z)) (n o490 (n o746 (n o1258 z z) z) (n o1002 z z))))) (n o58 (n o90 (n o154 (n o282 (n o538 (n o1050 z z) z) (n o794 (n o1306 z z) z)) (n o410 (n o666 (n o1178 z z) z) (n o922 z z))) (n o218 (n o346 (n o602 (n o1114 z z) z) (n (o858 P) z z)) (n (o474 P) (n o730 (n o1242 z z) z) (n o986 z z)))) (n o122 (n o186 (n o314 (n o570 (n o1082 z z) z) (n o826 z z)) (n o442 (n o698 (n o1210 z z) z) (n o954 z z))) (n o250 (n o378 (n o634 (n (o1146 P) z z) z) (n o890 z z)) (n o506 (n o762 (n o1274 z z) z) (n o1018 z z))))))) (n o14 (n o22 (n o38 (n o70 (n o134 (n o262 (n o518 (n o1030 z z) z) (n o774 (n o1286 z z) z)) (n o390 (n o646 (n o1158 z z) z) (n o902 z z))) (n o198 (n o326 (n o582 (n o1094 z z) z) (n o838 z z)) (n o454 (n (o710 P) (n o1222 z z) z) (n o966 z z)))) (n o102 (n o166 (n o294 (n o550 (n o1062 z z) z) (n o806 (n o1318 z z) z)) (n o422 (n o678 (n o1190 z z) z) (n o934 z z))) (n o230 (n o358 (n o614 (n o1126 z z) z) (n o870 z z)) (n o486 (n o742 (n o1254 z z) z) (n o998 z z))))) (n o54 (n o86 (n o150 (n o278 (n o534 (n o1046 z z) z) (n o790 (n o1302 z z) z)) (n o406 (n o662 (n o1174 z z) z) (n o918 z z))) (n o214 (n o342 (n o598 (n o1110 z z) z) (n o854 z z)) (n o470 (n o726 (n o1238 z z) z) (n o982 z z)))) (n o118 (n o182 (n o310 (n o566 (n o1078 z z) z) (n o822 z z)) (n o438 (n o694 (n o1206 z z) z) (n o950 z z))) (n o246 (n o374 (n o630 (n o1142 z z) z) (n o886 z z)) (n o502 (n o758 (n o1270 z z) z) (n o1014 z z)))))) (n (o30 P) (n o46 (n o78 (n o142 (n o270 (n o526 (n o1038 z z) z) (n o782 (n o1294 z z) z)) (n o398 (n o654 (n o1166 z z) z) (n o910 z z))) (n o206 (n o334 (n o590 (n o1102 z z) z) (n o846 z z)) (n o462 (n o718 (n o1230 z z) z) (n o974 z z)))) (n o110 (n o174 (n o302 (n o558 (n o1070 z z) z) (n o814 (n o1326 z z) z)) (n o430 (n o686 (n o1198 z z) z) (n o942 z z))) (n o238 (n o366 (n o622 (n o1134 z z) z) (n o878 z z)) (n o494 (n o750 (n o1262 z z) z) (n o1006 z z))))) (n o62 (n o94 (n (o158 P) (n o286 (n o542 (n o1054 z z) z) (n o798 (n o1310 z z) z)) (n o414 (n o670 (n o1182 z z) z) (n o926 z z))) (n o222 (n o350 (n o606 (n o1118 z z) z) (n o862 z z)) (n o478 (n o734 (n o1246 z z) z) (n o990 z z)))) (n o126 (n (o190 P) (n o318 (n o574 (n o1086 z z) z) (n o830 z z)) (n o446 (n o702 (n o1214 z z) z) (n (o958 P) z z))) (n o254 (n o382 (n o638 (n o1150 z z) z) (n (o894 P) z z)) (n o510 (n o766 (n o1278 z z) z) (n o1022 z z))))))))))
theorem g1 (w : World) (os : OsState) : goS (stepQ (denQ tabQ) RR.prog w) 11 (bootAnn w) 2578 (bootT w os (t0 w.params, 11)) (topStub RR.prog) = some ((sh w os (t1 w.params) 213 452), (th 13 ⟨39, 0, 42, 26⟩)) := by kernel_rfl
theorem g2 (w : World) (os : OsState) : goS (stepQ (denQ tabQ) RR.prog w) 11 (bootAnn w) 3557 (sh w os (t1 w.params) 213 452) (th 13 ⟨39, 0, 42, 26⟩) = some ((sh w os (t2 w.params) 627 1009), (th 52 ⟨200, 0, 293, 45⟩)) := by kernel_rfl
theorem g3 (w : World) (os : OsState) : goS (stepQ (denQ tabQ) RR.prog w) 11 (bootAnn w) 2980 (sh w os (t2 w.params) 627 1009) (th 52 ⟨200, 0, 293, 45⟩) = some ((sh w os (t3 w.params) 973 1448), (th 58 ⟨418, 0, 468, 16⟩)) := by kernel_rfl
theorem gz (w : World) (os : OsState) : goF (stepQ (denQ tabQ) RR.prog w) 11 (bootAnn w) 13857 (sh w os (t3 w.params) 973 1448) (th 58 ⟨418, 0, 468, 16⟩) = some (sh w os (t4 w.params) 1331 1952) := by kernel_rfl
def Sf (w : World) (os : OsState) : SharedT := (sh w os (t4 w.params) 1331 1952)
theorem p0 (w : World) : putAll (boot_heap w.params).objs.toList .nil 0 = some (t0 w.params, 11) := by kernel_rfl
theorem ran (w : World) (os : OsState) : endF (stepQ (denQ tabQ) RR.prog w) 22972 RR.prog w os = some (Sf w os) := end_of (p0 w) (goS_goF (g1 w os) (goS_goF (g2 w os) (goS_goF (g3 w os) (gz w os))))
end K1.Hs
end
namespace K1.Hd
open PySem PySem.W PySem.Calls PyProof.Rows HeadRun
abbrev RR : OpenRow := OpenLaw.row PySem.Challenge.rw_onemember_k10_fields_and_modes_refused
def qW : Program := view RR.prog [0, 2, 3, 4, 5, 6, 7, 8, 9, 10, 11, 12, 13, 14, 15, 16, 17, 18, 19, 20, 21, 22, 23, 24, 25, 26, 28, 29, 30, 31, 33, 34, 35, 36, 37, 38, 39, 40, 41, 42, 43, 44, 45, 46, 47, 48, 49, 51, 52, 53, 54, 56, 57, 58, 59, 60, 61, 62, 63, 65, 67, 68, 69, 70, 71, 72, 73, 74, 75, 76, 77, 78, 80, 81, 82, 83, 84, 85, 86, 88, 90, 91, 92, 93, 94, 95, 96, 97]
def lW : List PySem.Str := [PySem.Str.ofString "Members", PySem.Str.ofString "Change", PySem.Str.ofString "Expression", PySem.Str.ofString "Fact", PySem.Str.ofString "Design"]
def xW : Shared → Bool := fun s => xlAt qW [] s && recOk RR.toRowW.records s
theorem pL {α β γ : Type} {o : Option α} {f : α → β} {g : α → γ} {b : β} {c : γ} (h : o.map (fun s => (f s, g s)) = some (b, c)) : o.map f = some b := by
  cases o with
  | none => cases h
  | some a => exact congrArg some (congrArg Prod.fst (Option.some.inj h))
theorem pR {α β γ : Type} {o : Option α} {f : α → β} {g : α → γ} {b : β} {c : γ} (h : o.map (fun s => (f s, g s)) = some (b, c)) : o.map g = some c := by
  cases o with
  | none => cases h
  | some a => exact congrArg some (congrArg Prod.snd (Option.some.inj h))
theorem ax (w : World) (os : OsState) : (some (K1.Hs.Sf w os)).map (fun s => ((looksF RR.prog (boot_heap w.params) s.abs, (seenQ qW lW (importedModules RR.prog.main.body) xW s.abs).2.1, (seenQ qW lW (importedModules RR.prog.main.body) xW s.abs).2.2.2.2.2.2.2.2), PySem.W.R.allR (K1.tk 22 (PySem.W.Fast.tw3399658132070893891 qW)) fun d => PySem.W.Fast.tw5930804224584009831 s.abs.heap (DefRec.name d))) = some ((true, bltViewBooted, clsGoodW qW lW), true) := by kernel_rfl
theorem d3 (w : World) (os : OsState) : (some (K1.Hs.Sf w os)).map (fun s => K1.dp 19 (K1.dp 22 (seenQ qW lW (importedModules RR.prog.main.body) xW s.abs).1.defs)) = some (((expectedOf qW).defs.drop 22).drop 19) := by kernel_rfl
theorem e2 (w : World) (os : OsState) : (some (K1.Hs.Sf w os)).map (fun s => (seenQ qW lW (importedModules RR.prog.main.body) xW s.abs).2.2.2.2.2.2.2.1.2) = some ((wideGood qW).2) := by kernel_rfl
theorem d2 (w : World) (os : OsState) : (some (K1.Hs.Sf w os)).map (fun s => K1.tk 19 (K1.dp 22 (seenQ qW lW (importedModules RR.prog.main.body) xW s.abs).1.defs)) = some (((expectedOf qW).defs.drop 22).take 19) := by kernel_rfl
theorem a6 (w : World) (os : OsState) : (some (K1.Hs.Sf w os)).map (fun s => PySem.W.R.allR (K1.dp 19 (K1.dp 22 (PySem.W.Fast.tw3399658132070893891 qW))) fun d => PySem.W.Fast.tw5930804224584009831 s.abs.heap (DefRec.name d)) = some (true) := by kernel_rfl
theorem x2 (w : World) (os : OsState) : (some (K1.Hs.Sf w os)).map (fun s => ((seenQ qW lW (importedModules RR.prog.main.body) xW s.abs).2.2.2.2.1, (seenQ qW lW (importedModules RR.prog.main.body) xW s.abs).2.2.2.2.2.2.1)) = some (pinGoodD (drecsOf qW), plainGoodD qW lW) := by kernel_rfl
theorem a5 (w : World) (os : OsState) : (some (K1.Hs.Sf w os)).map (fun s => PySem.W.R.allR (K1.tk 19 (K1.dp 22 (PySem.W.Fast.tw3399658132070893891 qW))) fun d => PySem.W.Fast.tw5930804224584009831 s.abs.heap (DefRec.name d)) = some (true) := by kernel_rfl
theorem e1 (w : World) (os : OsState) : (some (K1.Hs.Sf w os)).map (fun s => (seenQ qW lW (importedModules RR.prog.main.body) xW s.abs).2.2.2.2.2.2.2.1.1) = some ((wideGood qW).1) := by kernel_rfl
theorem k1 (w : World) (os : OsState) : (some (K1.Hs.Sf w os)).map (fun s => PySem.W.R.allR (K1.tk 53 (s.abs.heap.nsKeys mainGlobals)) (K1.keyOk (PySem.W.Fast.tw821141287760084731 qW lW) (PySem.W.R.mapR (fun x => DefRec.name x) (PySem.W.Fast.tw3399658132070893891 qW)) (PySem.W.R.mapR (fun x => Prod.fst x) (PySem.W.Fast.tw7409074990110511671 qW)) (PySem.W.R.mapR (fun x => ClsRec.name x) (PySem.W.Fast.tw13664370479719496447 qW (PySem.W.Fast.tw821141287760084731 qW lW))))) = some (true) := by kernel_rfl
theorem k2 (w : World) (os : OsState) : (some (K1.Hs.Sf w os)).map (fun s => PySem.W.R.allR (K1.dp 53 (s.abs.heap.nsKeys mainGlobals)) (K1.keyOk (PySem.W.Fast.tw821141287760084731 qW lW) (PySem.W.R.mapR (fun x => DefRec.name x) (PySem.W.Fast.tw3399658132070893891 qW)) (PySem.W.R.mapR (fun x => Prod.fst x) (PySem.W.Fast.tw7409074990110511671 qW)) (PySem.W.R.mapR (fun x => ClsRec.name x) (PySem.W.Fast.tw13664370479719496447 qW (PySem.W.Fast.tw821141287760084731 qW lW))))) = some (true) := by kernel_rfl
theorem dc (w : World) (os : OsState) : (some (K1.Hs.Sf w os)).map (fun s => (K1.tk 22 (seenQ qW lW (importedModules RR.prog.main.body) xW s.abs).1.defs, (({ (seenQ qW lW (importedModules RR.prog.main.body) xW s.abs).1 with defs := [] } : PyProof.Rows.Seen), (PySem.W.Fast.tw14722251495701143533 s.abs.heap (importedModules RR.prog.main.body) && Heap.isNs s.abs.heap mainGlobals && Heap.isNs s.abs.heap builtinsNs && PySem.W.Fast.tw10994771534591457954 qW s.abs.heap && xW s.abs && (s.abs.gens.size == 0) && PySem.W.Fast.tw5244371056499926238 s.abs.heap && PySem.W.Fast.tw2578726214315757710 qW s.abs.heap && (!PySem.W.Fast.tw2458874890965802552 qW || PySem.W.Fast.tw9649274521512697073 s.abs.heap))))) = some ((expectedOf qW).defs.take 22, ({ (expectedOf qW) with defs := [] }, true)) := by kernel_rfl
theorem r4 : plainsOf qW (looseW qW lW) = [] := by kernel_rfl
theorem pre (w : World) (os : OsState) : (some (K1.Hs.Sf w os)).map (fun s => (looksF RR.prog (boot_heap w.params) s.abs, (seenQ qW lW (importedModules RR.prog.main.body) xW s.abs))) = some (true, openGood qW lW) := K1.gate9 (pL (ax w os)) (x2 w os) (K1.gd (pL (dc w os)) (d2 w os) (d3 w os)) (pR (dc w os)) (K1.gk (k1 w os) (k2 w os)) (K1.ga (pR (ax w os)) (a5 w os) (a6 w os)) r4 (e1 w os) (e2 w os)
end K1.Hd
section
open PySem PySem.W PySem.Calls PyProof.Rows HeadRun
local macro_rules
  | `(tactic| kernel_rfl) => `(tactic| (with_reducible refine K1.gate3 K1.Hs.ran K1.Hd.pre ?_ ?_ ?_ ?_) <;> kernel_rfl)
local macro_rules
  | `(tactic| kernel_rfl) => `(tactic| (with_reducible refine (fun (_ : K1.HeadTag _) => Eq.symm (?_ : List.map (fun x => x.1) (_ : List (Nat × Obj)) = _)) (by assumption)) <;> kernel_rfl)

noncomputable def K1.hdT : PSigma fun T : Prop => K1.HeadTag T → PySem.Challenge.rw_onemember_k10_fields_and_modes_refused.Holds := by
  apply PSigma.mk
  case snd =>
    intro h
    w_on; o_law; k_headL
    (case hw => w_witness2)
    apply K1.swap
    case e' => intro P; apply Eq.symm; kernel_rfl
    exact h.out
end
set_option maxHeartbeats 4000000
namespace K1
open PySem PySem.Spec
open PyProof.Rows L2
/-! ### the text by places -/
def top (i : Nat) : Stmt := PySem.Challenge.pw_onemember_k10_fields_and_modes_refused.main.body.getD i (.Pass ⟨0, 0, 0, 0⟩)
abbrev s__wall : Stmt := top 0
abbrev sErrMem : Stmt := inClass (top 5) 0
abbrev sErrChg : Stmt := inClass (top 6) 0
abbrev s_NotAnExpression___init__ : Stmt := inClass (top 7) 0
abbrev s_InvalidForm___init__ : Stmt := inClass (top 8) 0
abbrev sErrText : Stmt := inClass (top 9) 0
abbrev s_UnknownField___init__ : Stmt := inClass (top 10) 0
abbrev sErrNames : Stmt := inClass (top 11) 0
abbrev s_InvalidSets___init__ : Stmt := inClass (top 12) 0
abbrev s_InvalidFields___init__ : Stmt := inClass (top 13) 0
abbrev s_InvalidModes___init__ : Stmt := inClass (top 14) 0
abbrev s_InvalidCalls___init__ : Stmt := inClass (top 15) 0
abbrev s_InvalidViews___init__ : Stmt := inClass (top 16) 0
abbrev s_TooManyLeaves___init__ : Stmt := inClass (top 18) 0
abbrev s_TooManyLevels___init__ : Stmt := inClass (top 19) 0
abbrev sIsName : Stmt := top 29
abbrev sWrong : Stmt := top 30
abbrev sWrong2 : Stmt := top 31
abbrev s_is_field : Stmt := top 36
abbrev s_form_size : Stmt := top 37
abbrev s_is_triple : Stmt := top 38
abbrev s_is_form_of : Stmt := top 39
abbrev s_check_leaves : Stmt := top 40
abbrev s_check_depth : Stmt := top 41
abbrev s_form_text : Stmt := top 42
abbrev s_side_text : Stmt := top 43
abbrev s_read_counted : Stmt := top 44
abbrev s_take_word : Stmt := top 45
abbrev s_joined : Stmt := top 46
abbrev s_form_leaves : Stmt := top 47
abbrev s_form_fields : Stmt := top 48
abbrev s_form_value : Stmt := top 49
abbrev sInit : Stmt := inClass (top 51) 0
abbrev sFromN : Stmt := inClass (top 51) 1
abbrev sReadM : Stmt := inClass (top 51) 2
abbrev sNamesP : Stmt := inClass (top 51) 3
abbrev sStrM : Stmt := inClass (top 51) 4
abbrev sReprM : Stmt := inClass (top 51) 5
abbrev sLenM : Stmt := inClass (top 51) 6
abbrev sIterM : Stmt := inClass (top 51) 7
abbrev sHasM : Stmt := inClass (top 51) 8
abbrev sEqM : Stmt := inClass (top 51) 9
abbrev sOrM : Stmt := inClass (top 51) 10
abbrev sAndM : Stmt := inClass (top 51) 11
abbrev sSubM : Stmt := inClass (top 51) 12
abbrev sXorM : Stmt := inClass (top 51) 13
abbrev sIorM : Stmt := inClass (top 51) 14
abbrev sIandM : Stmt := inClass (top 51) 15
abbrev sIsubM : Stmt := inClass (top 51) 16
abbrev sIxorM : Stmt := inClass (top 51) 17
abbrev sLeM : Stmt := inClass (top 51) 18
abbrev sLtM : Stmt := inClass (top 51) 19
abbrev sGeM : Stmt := inClass (top 51) 20
abbrev sGtM : Stmt := inClass (top 51) 21
abbrev sAddM : Stmt := inClass (top 51) 22
abbrev sInitC : Stmt := inClass (top 52) 0
abbrev sBetC : Stmt := inClass (top 52) 1
abbrev sCameP : Stmt := inClass (top 52) 2
abbrev sWentP : Stmt := inClass (top 52) 3
abbrev sReprC : Stmt := inClass (top 52) 4
abbrev sBoolC : Stmt := inClass (top 52) 5
abbrev sAbsC : Stmt := inClass (top 52) 6
abbrev sEqC : Stmt := inClass (top 52) 7
abbrev sNegC : Stmt := inClass (top 52) 8
abbrev sAddC : Stmt := inClass (top 52) 9
abbrev sChkM : Stmt := top 53
abbrev sChkC : Stmt := top 54
abbrev s_Expression___init__ : Stmt := inClass (top 56) 0
abbrev s_Expression_read : Stmt := inClass (top 56) 1
abbrev s_Expression_form : Stmt := inClass (top 56) 2
abbrev s_Expression_leaves : Stmt := inClass (top 56) 3
abbrev s_Expression_depth : Stmt := inClass (top 56) 4
abbrev s_Expression_fields : Stmt := inClass (top 56) 5
abbrev s_Expression_has_given : Stmt := inClass (top 56) 6
abbrev s_Expression___str__ : Stmt := inClass (top 56) 7
abbrev s_Expression___repr__ : Stmt := inClass (top 56) 8
abbrev s_Expression___eq__ : Stmt := inClass (top 56) 9
abbrev s_Expression___or__ : Stmt := inClass (top 56) 10
abbrev s_Expression___and__ : Stmt := inClass (top 56) 11
abbrev s_Expression___sub__ : Stmt := inClass (top 56) 12
abbrev s_Expression___xor__ : Stmt := inClass (top 56) 13
abbrev s_Expression_within : Stmt := inClass (top 56) 14
abbrev s_Expression_of : Stmt := inClass (top 56) 15
abbrev s_Expression_meets : Stmt := inClass (top 56) 16
abbrev s_Fact___init__ : Stmt := inClass (top 57) 0
abbrev s_Fact_read : Stmt := inClass (top 57) 1
abbrev s_Fact_left : Stmt := inClass (top 57) 2
abbrev s_Fact_right : Stmt := inClass (top 57) 3
abbrev s_Fact_form : Stmt := inClass (top 57) 4
abbrev s_Fact_fields : Stmt := inClass (top 57) 5
abbrev s_Fact_has_given : Stmt := inClass (top 57) 6
abbrev s_Fact___str__ : Stmt := inClass (top 57) 7
abbrev s_Fact___repr__ : Stmt := inClass (top 57) 8
abbrev s_Fact___eq__ : Stmt := inClass (top 57) 9
abbrev s_Fact_is_kept : Stmt := inClass (top 57) 10
abbrev s_fields_of_two : Stmt := top 58
abbrev s_check_expression : Stmt := top 59
abbrev s_with_sign : Stmt := top 60
abbrev s_all_sets : Stmt := top 61
abbrev s_field_sets : Stmt := top 62
abbrev s_is_field_set : Stmt := top 63
abbrev s_is_tuple_of : Stmt := top 65
abbrev s_check_fields : Stmt := top 70
abbrev s_check_modes : Stmt := top 71
abbrev s_check_calls : Stmt := top 72
abbrev s_check_views : Stmt := top 73
abbrev s_is_call : Stmt := top 74
abbrev s_is_case : Stmt := top 75
abbrev s_are_facts : Stmt := top 76
abbrev s_are_updates : Stmt := top 77
abbrev s_is_view : Stmt := top 78
abbrev s_design_lines : Stmt := top 80
abbrev s_case_lines : Stmt := top 81
abbrev s_read_parts : Stmt := top 82
abbrev s_as_cases : Stmt := top 83
abbrev s_take_call_line : Stmt := top 84
abbrev s_take_view_line : Stmt := top 85
abbrev s_read_form : Stmt := top 86
abbrev s_Design___init__ : Stmt := inClass (top 88) 0
abbrev s_Design_read : Stmt := inClass (top 88) 1
abbrev s_Design_fields : Stmt := inClass (top 88) 2
abbrev s_Design_modes : Stmt := inClass (top 88) 3
abbrev s_Design_calls : Stmt := inClass (top 88) 4
abbrev s_Design_views : Stmt := inClass (top 88) 5
abbrev s_Design_names : Stmt := inClass (top 88) 6
abbrev s_Design_view_names : Stmt := inClass (top 88) 7
abbrev s_Design___str__ : Stmt := inClass (top 88) 8
abbrev s_Design___repr__ : Stmt := inClass (top 88) 9
abbrev s_Design___len__ : Stmt := inClass (top 88) 10
abbrev s_Design___eq__ : Stmt := inClass (top 88) 11
abbrev s_Design___contains__ : Stmt := inClass (top 88) 12
abbrev s_Design_sort_of : Stmt := inClass (top 88) 13
abbrev s_Design_case_of : Stmt := inClass (top 88) 14
abbrev s_Design_view_of : Stmt := inClass (top 88) 15
abbrev s_Design_with_call : Stmt := inClass (top 88) 16
abbrev s_Design_without : Stmt := inClass (top 88) 17
abbrev s_Design_renamed : Stmt := inClass (top 88) 18
abbrev sCell : Stmt := top 90
abbrev sPool : Stmt := top 91
abbrev sDraw : Stmt := top 92
abbrev sNames : Stmt := top 93
abbrev sCaught : Stmt := top 94
abbrev s_L_bent : Stmt := top 95
abbrev sRight : Stmt := top 96
abbrev sLaw : Stmt := top 97
abbrev sIsField : Stmt := top 36
abbrev sSize : Stmt := top 37
abbrev sTriple : Stmt := top 38
abbrev sChkL : Stmt := top 40
abbrev sChkD : Stmt := top 41
abbrev sText : Stmt := top 42
abbrev sSide : Stmt := top 43
abbrev sReadC : Stmt := top 44
abbrev sTake : Stmt := top 45
abbrev sJoined : Stmt := top 46
abbrev sLeavesF : Stmt := top 47
abbrev sFieldsF : Stmt := top 48
abbrev sInitE : Stmt := inClass (top 56) 0
abbrev sFormOf : Stmt := top 39
abbrev sTupOf : Stmt := top 65
abbrev sChkFi : Stmt := top 70
abbrev sChkMo : Stmt := top 71
abbrev sChkCa : Stmt := top 72
abbrev sChkVi : Stmt := top 73
abbrev sIsCall : Stmt := top 74
abbrev sIsView : Stmt := top 78
abbrev sInitD : Stmt := inClass (top 88) 0
abbrev sFieldsD : Stmt := inClass (top 88) 2
abbrev sModesD : Stmt := inClass (top 88) 3
abbrev sNamesD : Stmt := inClass (top 88) 6
abbrev sViewsD : Stmt := inClass (top 88) 7
abbrev sBent : Stmt := top 95
end K1
namespace K1
open PySem PySem.Spec
open PyProof.Rows L2
/-! ### which names are the built-ins' -/
structure Free (mg : Str → Option Value) : Prop where
  len : mg "len" = none
  int : mg "int" = none
  abs : mg "abs" = none
  range : mg "range" = none
  list : mg "list" = none
  str : mg "str" = none
  set : mg "set" = none
  sorted : mg "sorted" = none
  tuple : mg "tuple" = none
  isinstance : mg "isinstance" = none
  enumerate : mg "enumerate" = none
  repr : mg "repr" = none
  bool : mg "bool" = none
  any : mg "any" = none
  all : mg "all" = none
  max : mg "max" = none
  min : mg "min" = none
/-! ### the pool: a list of three ints -/
def PoolAt (H : Hp) (p : Addr) : Prop := ∃ a b c : Int, H p = some (.lst [.int a, .int b, .int c])
def spCell (K : PySem.W.Frag) : Sp := fun vs H Q _ => ∃ (a : Addr) (ns : List Int) (k : Nat), vs = [.ref a, .int k] ∧ SqL K H a (ns.map V.int) ∧ ∀ z : Int, Q (.int z) H
def spPool : Sp := fun vs H Q _ => ∃ z : Int, vs = [.int z] ∧ ∀ p, H p = none → ∀ a b c : Int, Q (.ref p) (upd H p (.lst [.int a, .int b, .int c]))
/-- all but the pool stays, the pool is a pool -/
structure Ext (p : Addr) (H H' : Hp) : Prop where
  pool : PoolAt H' p
  keep : ∀ b o, b ≠ p → H b = some o → H' b = some o
theorem PoolAt.ne {H : Hp} {p q : Addr} (h : PoolAt H p) (n : H q = none) : q ≠ p := fun e => by
  obtain ⟨a, b, c, h⟩ := h
  rw [e, h] at n
  cases n
theorem Ext.refl {p : Addr} {H : Hp} (h : PoolAt H p) : Ext p H H := ⟨h, fun _ _ _ e => e⟩
theorem Ext.trans {p : Addr} {H H1 H2 : Hp} (a : Ext p H H1) (b : Ext p H1 H2) : Ext p H H2 := ⟨b.pool, fun c o n e => b.keep c o n (a.keep c o n e)⟩
theorem Ext.free {p q : Addr} {H H' : Hp} (e : Ext p H H') (n : H' q = none) : H q = none := by
  have n2 := e.pool.ne n
  cases h : H q with
  | none => rfl
  | some o =>
    rw [e.keep q o n2 h] at n
    cases n
theorem Ext.same {p : Addr} {H H1 H2 : Hp} (a : Ext p H H1) (s : Same H1 H2) : Ext p H H2 := ⟨by
  obtain ⟨x, y, z, h⟩ := a.pool
  exact ⟨x, y, z, s _ _ h⟩, fun c o n e => s c o (a.keep c o n e)⟩
theorem same_upd {H : Hp} {p : Addr} {o : HO} (h : H p = none) : Same H (upd H p o) := fun b x e => by
  rw [upd_ne (ne_of_none e h)]
  exact e
theorem Ext.of {p : Addr} {H : Hp} (a b c : Int) : Ext p H (upd H p (.lst [.int a, .int b, .int c])) := ⟨⟨a, b, c, upd_same⟩, fun d o n e => by
  rw [upd_ne n]
  exact e⟩
theorem Ext.at {p q : Addr} {H H' : Hp} {o : HO} (e : Ext p H H') (n : q ≠ p) (h : H q = some o) : H' q = some o := e.keep q o n h
def spDraw : Sp := fun vs H Q _ => ∃ (p : Addr) (m : Int), vs = [.ref p, .int m] ∧ PoolAt H p ∧ 0 < m ∧ m < 1000 ∧ ∀ (d : Int) (H' : Hp), Ext p H H' → 0 ≤ d → d < m → Q (.int d) H'
section
variable {w : World} {P : Program}
variable {base : Heap} {mg : Str → Option Value} {K : PySem.W.Frag}
theorem scCell : FnScope ["_law_cells", "_law_k", "_law_mixed", "_law_cell_here"] ["_law_cells", "_law_k"] (defScope sCell) := ⟨rfl, rfl, rfl, by decide +kernel, rfl, by decide +kernel, by decide +kernel⟩
theorem ok_cell {f : Addr} {fd : FuncData} (F : Fun K "_law_cell" "_law_cell" sCell f fd) (T : Free mg) : FnOk P w K mg base CX0 1 f fd ["_law_cells", "_law_k"] (spCell K) := by
  refine F.ok scCell (fun vs H Q E h => ?_) (fun cdv A outer s H vs Q E hr h => ?_)
  · obtain ⟨a, ns, k, rfl, _⟩ := h
    rfl
  · obtain ⟨a, ns, k, rfl, hS, q⟩ := h
    refine ⟨_, pss_cons (ps_if (pt_cmpR op_lt (pv 1) (pe_callB call_len_seq (by rfl) T.len PySem.boot_len (pa_cons (pv 0) pa_nil)) (nomark _)) (pss_one (ps_ret (pe_ix ix_list (pv 0) (pv 1) (fun _ _ => rfl)))) pss_nil)
      (pss_cons (ps_set (i := 2) scCell.nd rfl (.inl rfl) (pe_op op_add pe_int (pe_op op_mul pe_int (pv 1))))
      (pss_cons (ps_for PassesOwn.never rfl (pi_list (pv 0)) (pg_name (i := 3) scCell.nd rfl (.inl rfl))
        (pss_one (ps_set (i := 2) scCell.nd rfl (.inl rfl) (pe_op op_mod (pe_callTy call_int1 (by rfl) T.int (by decide +kernel) (pa_cons (pe_op op_add (pe_op op_mul (pv 2) pe_int) (pe_callB call_abs (by rfl) T.abs (by decide +kernel) (pa_cons (pv 3) pa_nil))) pa_nil)) pe_int))))
      (pss_one (ps_ret (pe_op op_add (pe_op op_mul (pv 2) pe_int) (pv 1)))))), ?_⟩
    refine ⟨_, rfl, _, rfl, a, _, rfl, .inl hS, _, _, rfl, rfl, _, rfl, ?_⟩
    by_cases hk : (k : Int) < ((ns.map V.int).length : Nat)
    · rw [decide_eq_true hk]
      refine iteT ⟨_, rfl, _, rfl, a, _, _, V.int (ns.getD k 0), rfl, rfl, hS, ?_, q _⟩
      have hk2 : k < ns.length := by
        rw [List.length_map] at hk
        omega
      exact atI_nat (by rw [List.getElem?_map, List.getElem?_eq_getElem hk2, List.getD_eq_getElem?_getD, List.getElem?_eq_getElem hk2]; rfl)
    · rw [decide_eq_false hk]
      refine iteF ?_
      refine ⟨_, rfl, _, _, rfl, rfl, .inl (by decide), _, _, rfl, rfl, ?_⟩
      refine ⟨_, rfl, a, rfl, ⟨_, hS⟩, ?_⟩
      refine for_list (xs := ns.map V.int) (K := K) (a := a) (fun i σ H' => H' = H ∧ ∃ (z : Int) (o : Option V), σ = [some (.ref a), some (.int k), some (.int z), o]) ?_ ?_ ?_ ?_
      · exact ⟨rfl, _, none, rfl⟩
      · rintro i σ H' hi ⟨rfl, _⟩
        exact hS
      · rintro i x σ H' hx ⟨rfl, z, o, rfl⟩
        rw [List.getElem?_map] at hx
        obtain ⟨n, _, rfl⟩ := Option.map_eq_some_iff.mp hx
        refine ⟨_, rfl, _, _, rfl, rfl, .inr (by decide), ?_⟩
        refine ⟨_, rfl, n, rfl, _, _, rfl, rfl, ?_⟩
        refine .inl ⟨_, rfl, _, _, rfl, rfl, (by show (0 : Int) < 2147483629; decide), ?_⟩
        exact ⟨rfl, _, _, rfl⟩
      · rintro σ H' ⟨rfl, z, o, rfl⟩
        refine ⟨_, rfl, _, _, rfl, rfl, .inr (by decide), _, rfl, _, _, rfl, rfl, q _⟩
theorem scPool : FnScope ["_law_cell_here"] ["_law_cell_here"] (defScope sPool) := ⟨rfl, rfl, rfl, by decide +kernel, rfl, by decide +kernel, by decide +kernel⟩
theorem ok_pool {f : Addr} {fd : FuncData} (F : Fun K "_law_pool" "_law_pool" sPool f fd) (T : Free mg) : FnOk P w K mg base CX0 1 f fd ["_law_cell_here"] spPool := by
  refine F.ok scPool (fun vs H Q E h => ?_) (fun cdv A outer s H vs Q E hr h => ?_)
  · obtain ⟨z, rfl, _⟩ := h
    rfl
  · obtain ⟨z, rfl, q⟩ := h
    refine ⟨_, pss_one (ps_ret (pe_lst (pa_cons (pe_op op_mod (pe_callTy call_int1 (by rfl) T.int (by decide +kernel) (pa_cons (pv 0) pa_nil)) pe_int)
      (pa_cons (pe_ifExp (PW.pt (pw_or (pt_cmpR op_lt (pv 0) pe_int (nomark _)) (pw_or1 (pt_cmpR op_ge (pv 0) (pe_op op_pow pe_int pe_int) (nomark _))))) (pe_callB call_abs (by rfl) T.abs (by decide +kernel) (pa_cons (pv 0) pa_nil)) pe_int)
      (pa_cons pe_int pa_nil))))), ?_⟩
    refine ⟨_, rfl, .inl ⟨_, rfl, _, _, rfl, rfl, (by show (0 : Int) < 2147483629; decide), ?_⟩⟩
    have fin : ∀ b : Int, ([V.int (z % 2147483629), V.int b, V.int 0] : List V).length ≤ sizeLine ∧ ∀ p, H p = none → Q (.ref p) (upd H p (.lst [V.int (z % 2147483629), V.int b, V.int 0])) := fun b => ⟨by show 3 ≤ sizeLine; decide, fun p hp => q p hp _ _ _⟩
    refine ⟨_, rfl, _, _, rfl, rfl, _, rfl, ?_⟩
    refine ite2 (fun _ => ?_) (fun _ => ?_)
    · refine iteT ⟨_, rfl, _, rfl, fin _⟩
    · refine ⟨_, rfl, _, _, rfl, rfl, ⟨by decide, by decide, by decide⟩, _, _, rfl, rfl, _, rfl, ?_⟩
      refine ite2 (fun _ => ?_) (fun _ => ?_)
      · exact ⟨_, rfl, _, rfl, fin _⟩
      · exact fin 0
theorem scDraw : FnScope ["_law_pool_here", "_law_many", "_law_mixed", "_law_digit"] ["_law_pool_here", "_law_many"] (defScope sDraw) := ⟨rfl, rfl, rfl, by decide +kernel, rfl, by decide +kernel, by decide +kernel⟩
theorem at3 {a b c : V} {j : Nat} {v : V} (h : [a, b, c][j]? = some v) : atI [a, b, c] (j : Int) = some v := atI_nat h
theorem ok_draw {f : Addr} {fd : FuncData} (F : Fun K "_law_draw" "_law_draw" sDraw f fd) (T : Free mg) : FnOk P w K mg base CX0 1 f fd ["_law_pool_here", "_law_many"] spDraw := by
  refine F.ok scDraw (fun vs H Q E h => ?_) (fun cdv A outer s H vs Q E hr h => ?_)
  · obtain ⟨p, m, rfl, _⟩ := h
    rfl
  · obtain ⟨p, m, rfl, ⟨a, b, c, hp⟩, hm, hm2, q⟩ := h
    refine ⟨_, pss_cons (ps_asg (pe_op op_add (pe_ix ix_list (pv 0) pe_int (fun _ _ => rfl)) pe_int) (pg_sub (pv 0) pe_int set_list))
      (pss_cons (ps_set (i := 2) scDraw.nd rfl (.inl rfl) (pe_op op_mod (pe_callTy call_int1 (by rfl) T.int (by decide +kernel) (pa_cons (pe_op op_add (pe_op op_mul (pe_ix ix_list (pv 0) pe_int (fun _ _ => rfl)) pe_int) (pe_op op_mul (pe_ix ix_list (pv 0) pe_int (fun _ _ => rfl)) pe_int)) pa_nil)) pe_int))
      (pss_cons (ps_asg (pe_op op_mod (pe_callTy call_int1 (by rfl) T.int (by decide +kernel) (pa_cons (pe_op op_add (pe_op op_mul (pv 2) (pe_op op_add (pe_op op_fdiv (pv 2) pe_int) pe_int)) pe_int) pa_nil)) pe_int) (pg_sub (pv 0) pe_int set_list))
      (pss_cons (ps_if (pt_cmpR op_gt (pe_ix ix_list (pv 0) pe_int (fun _ _ => rfl)) pe_int (nomark _))
          (pss_cons (ps_set (i := 3) scDraw.nd rfl (.inl rfl) (pe_op op_modN (pe_callTy call_int1 (by rfl) T.int (by decide +kernel) (pa_cons (pe_ix ix_list (pv 0) pe_int (fun _ _ => rfl)) pa_nil)) (pv 1)))
          (pss_cons (ps_asg (pe_op op_fdivN (pe_callTy call_int1 (by rfl) T.int (by decide +kernel) (pa_cons (pe_ix ix_list (pv 0) pe_int (fun _ _ => rfl)) pa_nil)) (pv 1)) (pg_sub (pv 0) pe_int set_list))
          (pss_one (ps_ret (pv 3))))) pss_nil)
      (pss_one (ps_ret (pe_op op_modN (pe_callTy call_int1 (by rfl) T.int (by decide +kernel) (pa_cons (pe_op op_fdiv (pe_ix ix_list (pv 0) pe_int (fun _ _ => rfl)) pe_int) pa_nil)) (pv 1))))))), ?_⟩
    -- pool[2] = pool[2] + 1
    refine ⟨_, rfl, p, _, _, _, rfl, rfl, SqL.of hp, at3 (j := 2) rfl, _, _, rfl, rfl, _, rfl, p, _, _, 2, rfl, rfl, hp, rfl, ?_⟩
    generalize e1 : upd H p _ = H1
    have h1 : H1 p = some (.lst [.int a, .int b, .int (c + 1)]) := by rw [← e1]; exact upd_same
    have x1 : Ext p H H1 := by rw [← e1]; exact Ext.of a b (c + 1)
    clear e1
    -- mixed
    refine ⟨_, rfl, p, _, _, _, rfl, rfl, SqL.of h1, at3 (j := 0) rfl, _, _, rfl, rfl, .inr (by decide), ?_⟩
    refine ⟨_, rfl, p, _, _, _, rfl, rfl, SqL.of h1, at3 (j := 2) rfl, _, _, rfl, rfl, .inr (by decide), ?_⟩
    refine ⟨_, _, rfl, rfl, .inl ⟨_, rfl, _, _, rfl, rfl, (by show (0 : Int) < 2147483629; decide), ?_⟩⟩
    have hx : ∃ x : Int, x = (a * 48271 + (c + 1) * 69997) % 2147483629 ∧ 0 ≤ x ∧ x < 2147483629 := ⟨_, rfl, by omega, by omega⟩
    obtain ⟨x, ex, x0, xl⟩ := hx
    show tSeq _ _ _ (List.set _ _ (some (V.int ((a * 48271 + (c + 1) * 69997) % 2147483629)))) H1
    rw [← ex]
    -- pool[0]
    refine ⟨_, rfl, _, rfl, _, _, rfl, rfl, ⟨by decide, by decide⟩, _, _, rfl, rfl, _, _, rfl, rfl, .inl ⟨by omega, by omega⟩, _, _, rfl, rfl, .inl ⟨_, rfl, _, _, rfl, rfl, (by show (0 : Int) < 2147483629; decide), ?_⟩⟩
    refine ⟨_, rfl, p, _, _, 0, rfl, rfl, h1, rfl, ?_⟩
    generalize e2 : upd H1 p _ = H2
    obtain ⟨a2, h2, x2⟩ : ∃ a2 : Int, H2 p = some (.lst [.int a2, .int b, .int (c + 1)]) ∧ Ext p H H2 := ⟨(x * (x / 7 + 30011) + 12345) % 2147483629, by rw [← e2]; exact upd_same, x1.trans (by rw [← e2]; exact Ext.of _ b (c + 1))⟩
    clear e2
    -- the digits
    refine ⟨_, rfl, p, _, _, _, rfl, rfl, SqL.of h2, at3 (j := 1) rfl, _, _, rfl, rfl, _, rfl, ?_⟩
    have md : ∀ y : Int, 0 ≤ y.fmod m ∧ y.fmod m < m := fun y => ⟨Int.fmod_nonneg_of_pos _ hm, Int.fmod_lt_of_pos _ hm⟩
    refine ite2 (fun _ => ?_) (fun _ => ?_)
    · refine ⟨_, rfl, p, _, _, _, rfl, rfl, SqL.of h2, at3 (j := 1) rfl, .inl ⟨_, rfl, _, rfl, _, _, rfl, rfl, (by omega), ?_⟩⟩
      refine ⟨_, rfl, p, _, _, _, rfl, rfl, SqL.of h2, at3 (j := 1) rfl, .inl ⟨_, rfl, _, rfl, _, _, rfl, rfl, ⟨by omega, by omega⟩, ?_⟩⟩
      refine ⟨_, rfl, p, _, _, 1, rfl, rfl, h2, rfl, _, rfl, ?_⟩
      exact q _ _ (x2.trans (Ext.of a2 _ (c + 1))) (md _).1 (md _).2
    · refine ⟨_, rfl, p, _, _, _, rfl, rfl, SqL.of h2, at3 (j := 0) rfl, _, _, rfl, rfl, ⟨by decide, by decide⟩, .inl ⟨_, rfl, _, rfl, _, _, rfl, rfl, (by omega), ?_⟩⟩
      exact q _ _ x2 (md _).1 (md _).2
end
end K1
namespace K1
open PySem PySem.Spec PyProof.Rows L2 TL
/-! ### tags: texts of one to three lower-case letters -/
def Low (z : Str) : Prop := ∀ c ∈ tl z, 97 ≤ c ∧ c ≤ 122
structure Tag (z : Str) : Prop where
  lo : 1 ≤ (tl z).length
  hi : (tl z).length ≤ 3
  low : Low z
/-- a sign's text -/
abbrev sg (c : Nat) : Str := ⟨#[c]⟩
theorem len_tl (z : Str) : z.length = (tl z).length := by simp [Str.length]
theorem joinL_sg : ∀ cs : List Nat, joinL [] (cs.map fun c => [c]) = cs
  | [] => rfl
  | [c] => rfl
  | c :: d :: r => by
    show [c] ++ ([] ++ joinL [] ((d :: r).map fun c => [c])) = c :: d :: r
    rw [joinL_sg (d :: r)]
    rfl
theorem join_sg (cs : List Nat) : tl (Txt.join (Str.ofString "") (cs.map sg)) = cs := by
  rw [join_eq, tl_join, List.map_map]
  have e : tl (Str.ofString "") = [] := by decide +kernel
  rw [e]
  exact joinL_sg cs
abbrev letters : Str := Str.ofString "abcdefghijklmnopqrstuvwxyz"
theorem letters_len : letters.length = 26 := by decide +kernel
theorem letters_cps : letters.cps = (((List.range 26).map fun i => 97 + i).toArray) := by decide +kernel
theorem letters_at {i : Nat} (h : i < 26) : letters.cps[i]? = some (97 + i) := by
  rw [letters_cps]
  simp [h]
theorem sum_sg : ∀ cs : List Nat, ((cs.map sg).map (·.length)).sum = cs.length
  | [] => rfl
  | c :: r => by
    have ih := sum_sg r
    rw [List.map_cons, List.map_cons, List.sum_cons, ih, List.length_cons]
    show 1 + r.length
        = r.length + 1
    omega
theorem nodup_at {zs : List Str} {t : Nat} {b : Int} (hl : zs.length ≤ 26) (h : ∀ (k : Nat) (z : Str), zs[k]? = some z → (tl z)[t]? = some (97 + ((b + (0 + (k : Int))) % 26).toNat)) : zs.Nodup := by
  refine List.pairwise_iff_getElem.mpr fun i j hi hj hij e => ?_
  have a := h i _ (List.getElem?_eq_getElem hi)
  have b := h j _ (List.getElem?_eq_getElem hj)
  rw [e] at a
  have c := Option.some.inj (a.symm.trans b)
  omega
def spNames : Sp := fun vs H Q _ => ∃ (p : Addr) (m : Nat), vs = [.ref p, .int m] ∧ PoolAt H p ∧ m ≤ 26 ∧ ∀ (q : Addr) (zs : List Str) (H' : Hp), Ext p H H' → H q = none → H' q = some (.lst (zs.map V.str)) → zs.length = m → (∀ z ∈ zs, Tag z) → zs.Nodup → Q (.ref q) H'
section
variable {w : World} {P : Program}
variable {base : Heap} {mg : Str → Option Value} {K : PySem.W.Frag}
abbrev nmNames : List Str := ["_law_pool_here", "_law_many", "_law_letters", "_law_found", "_law_k", "_law_stem", "_law_at", "_law_base", "_law_own"]
theorem scNames : FnScope nmNames ["_law_pool_here", "_law_many"] (defScope sNames) := ⟨rfl, rfl, rfl, by decide +kernel, rfl, by decide +kernel, by decide +kernel⟩
theorem ok_names {f fD : Addr} {fd fdD : FuncData} (F : Fun K "_law_names" "_law_names" sNames f fd) (T : Free mg) (FD : Fun K "_law_draw" "_law_draw" sDraw fD fdD) (mgD : mg "_law_draw" = some (.ref fD)) :
    FnOk P w K mg base CX0 2 f fd ["_law_pool_here", "_law_many"] spNames := by
  have GD : FnOk P w K mg base CX0 1 fD fdD ["_law_pool_here", "_law_many"] spDraw := ok_draw FD T
  have bD : Binds K fdD ["_law_pool_here", "_law_many"] [] := FD.binds (ps := ["_law_pool_here", "_law_many"]) fun _ _ _ _ _ _ us hl => match us, hl with | [_, _], _ => rfl
  refine F.ok scNames (fun vs H Q E h => ?_) (fun cdv A outer s H vs Q E hr h => ?_)
  · obtain ⟨p, m, rfl, _⟩ := h
    rfl
  · obtain ⟨p, m, rfl, hp, hm, q⟩ := h
    refine ⟨_, pss_cons (ps_asg (pe_tup (pa_cons pe_str (pa_cons (pe_lst pa_nil) pa_nil))) (pg_tup rfl (pgs_cons (pg_name (i := 2) scNames.nd rfl (.inr rfl)) (pgs_cons (pg_name (i := 3) scNames.nd rfl (.inl rfl)) pgs_nil))))
      (pss_cons (ps_setLc (i := 5) (own := [("_law_k", 4)]) (g := gName 4) rfl scNames.nd rfl rfl (sw_true rfl rfl rfl (by decide +kernel))
          (pi_range1 rfl T.range (pa_cons (pe_op op_add pe_int (pe_call GD hr rfl mgD FD.kp bD .nil pass0 (pa_cons (pv 0) (pa_cons pe_int pa_nil)))) pa_nil))
          (blkOk_by (own := [("_law_k", 4)]) (N := nmNames) (sc := defScope sNames) (by decide +kernel)) (fun _ _ _ _ _ => pg_name (i := 4) scNames.nd rfl (Or.inl rfl)) (fun _ _ _ _ _ => pts_nil)
          (fun _ _ _ _ _ => pe_item_str (pv 2) (pe_call GD hr rfl mgD FD.kp bD .nil pass0 (pa_cons (pv 0) (pa_cons pe_int pa_nil))) (fun _ _ => rfl)))
      (pss_cons (ps_par (i := 6) (j := 7) rfl scNames.nd rfl rfl (by decide) rfl rfl (pa_cons (pe_call GD hr rfl mgD FD.kp bD .nil pass0 (pa_cons (pv 0) (pa_cons (pe_callB call_len_seq (by rfl) T.len PySem.boot_len (pa_cons (pv 5) pa_nil)) pa_nil))) (pa_cons (pe_call GD hr rfl mgD FD.kp bD .nil pass0 (pa_cons (pv 0) (pa_cons pe_int pa_nil))) pa_nil)) (by rfl))
      (pss_cons (ps_for PassesOwn.never rfl (pi_range1 rfl T.range (pa_cons (pv 1) pa_nil)) (pg_name (i := 4) scNames.nd rfl (.inl rfl))
          (pss_cons (ps_set (i := 8) scNames.nd rfl (.inl rfl) (pe_callTy call_list_of (by rfl) T.list (by decide +kernel) (pa_cons (pv 5) pa_nil)))
          (pss_cons (ps_asg (pe_item_str (pv 2) (pe_op op_mod (pe_callTy call_int1 (by rfl) T.int (by decide +kernel) (pa_cons (pe_op op_add (pv 7) (pv 4)) pa_nil)) pe_int) (fun _ _ => rfl)) (pg_sub (pv 8) (pv 6) set_list))
          (pss_one (ps_expr (pe_bm PySem.F.plainAttrs_list PySem.F.slot_list_append PySem.F.type_list_append mt_append (pv 3) (pa_cons (pe_join pe_str (pv 8)) pa_nil)))))))
      (pss_one (ps_ret (pv 3)))))), ?_⟩
    -- letters, found
    refine ⟨(by show 0 ≤ sizeLine; decide), fun F nF => ⟨(by show 2 ≤ sizeLine; decide), fun t nt => ?_⟩⟩
    refine ⟨t, _, rfl, SqT.of upd_same, rfl, ?_⟩
    have nFp : F ≠ p := hp.ne nF
    have ntF : t ≠ F := fun e => by
      rw [e, upd_same] at nt
      cases nt
    have s1 : Same H (upd H F (.lst [])) := same_upd nF
    have s2 : Same (upd H F (.lst [])) (upd (upd H F (.lst [])) t (.tup [.str letters, .ref F])) := same_upd nt
    have hF : (upd (upd H F (.lst [])) t (.tup [.str letters, .ref F])) F = some (.lst []) := by rw [upd_ne (Ne.symm ntF), upd_same]
    have x1 : Ext p H (upd (upd H F (.lst [])) t (.tup [.str letters, .ref F])) := ((Ext.refl hp).same s1).same s2
    generalize (upd (upd H F (.lst [])) t (.tup [.str letters, .ref F])) = H1 at hF x1 ⊢
    -- stem
    refine ⟨_, _, rfl, _, _, rfl, rfl, ?_⟩
    refine ⟨_, rfl, p, 3, rfl, x1.pool, by decide, by decide, fun d H2 x2 d0 d1 => ?_⟩
    refine ⟨_, _, rfl, rfl, _, rfl, by omega, by omega, fun S nS => ?_⟩
    have hF2 : H2 F = some (.lst []) := x2.at nFp hF
    have nSF : S ≠ F := fun e => by
      rw [e, hF2] at nS
      cases nS
    have nSp : S ≠ p := x2.pool.ne nS
    have xx : Ext p H H2 := x1.trans x2
    refine lc_range (lo := 0) (n := (1 + d).toNat) (fun i H' => Ext p H2 H' ∧ ∃ cs : List Nat, H' S = some (.lst ((cs.map sg).map V.str)) ∧ cs.length = i ∧ ∀ c ∈ cs, 97 ≤ c ∧ c ≤ 122) ?_ ?_ ?_
    · exact ⟨(Ext.refl x2.pool).same (same_upd nS), [], upd_same, rfl, fun c z => by cases z⟩
    · rintro i H' hi ⟨xe, cs, hS, hl, hc⟩
      refine ⟨rfl, ?_⟩
      refine ⟨_, rfl, _, rfl, p, 26, rfl, xe.pool, by decide, by decide, fun e H3 x3 e0 e1 => ?_⟩
      refine ⟨letters, e, 97 + e.toNat, rfl, rfl, e0, by omega, ?_, letters_at (by omega), (cs.map sg).map V.str, x3.at nSp hS, ?_, ?_⟩
      · rw [letters_len]
        exact e1
      · rw [List.length_map, List.length_map, hl]
        exact small1000 (by omega)
      · have hS3 : (H3 S) = some (.lst ((cs.map sg).map V.str)) := x3.at nSp hS
        refine ⟨⟨?_, fun b o n z => ?_⟩, cs ++ [97 + e.toNat], ?_, ?_, ?_⟩
        · obtain ⟨a, b, c, z⟩ := x3.pool
          exact ⟨a, b, c, by rw [upd_ne (Ne.symm nSp)]; exact z⟩
        · have nb : b ≠ S := ne_of_none z nS
          rw [upd_ne nb]
          exact x3.keep b o n (xe.keep b o n z)
        · rw [upd_same, List.map_append, List.map_append]
          rfl
        · rw [List.length_append, hl]
          rfl
        · intro c hc2
          rcases List.mem_append.mp hc2 with z | z
          · exact hc c z
          · have z2 : c = 97 + e.toNat := List.mem_singleton.mp z
            omega
    · rintro H3 ⟨xe, cs, hS, hl, hc⟩
      have hF3 : H3 F = some (.lst []) := xe.at nFp hF2
      -- at, base
      have hS2 : SqL K H3 S ((cs.map sg).map V.str) := SqL.of hS
      have hlS : (((cs.map sg).map V.str).length : Nat) = (1 + d).toNat := by rw [List.length_map, List.length_map, hl]
      refine ⟨_, rfl, _, rfl, S, _, rfl, .inl hS2, p, _, rfl, xe.pool, by omega, by omega, fun t1 H4 x4 t0 t2 => ?_⟩
      refine ⟨_, rfl, p, 26, rfl, x4.pool, by decide, by decide, fun b1 H5 x5 b0 b2 => ?_⟩
      refine ⟨_, _, rfl, ?_⟩
      have x45 : Ext p H3 H5 := x4.trans x5
      have xa : Ext p H H5 := xx.trans (xe.trans x45)
      -- the loop
      refine ⟨_, rfl, m, rfl, by omega, by omega, ?_⟩
      refine for_range (lo := 0) (n := ((m : Nat) : Int).toNat) (fun i σ H' => Ext p H H' ∧ H' S = some (.lst ((cs.map sg).map V.str)) ∧ (∃ zs : List Str, H' F = some (.lst (zs.map V.str)) ∧ zs.length = i ∧ (∀ z ∈ zs, Tag z) ∧ ∀ (k : Nat) (z : Str), zs[k]? = some z → (tl z)[t1.toNat]? = some (97 + ((b1 + (0 + (k : Int))) % 26).toNat)) ∧
        ∃ o1 o2 : Option V, σ = [some (.ref p), some (.int m), some (.str letters), some (.ref F), o1, some (.ref S), some (.int t1), some (.int b1), o2]) ?_ ?_ ?_
      · exact ⟨xa, x45.at nSp hS, ⟨[], x45.at nFp hF3, rfl, fun z hz => (by cases hz), fun k z hk => by cases hk⟩, none, none, rfl⟩
      · rintro i σ H' hi ⟨xf, hS', ⟨zs, hF', hz, ht, hk⟩, o1, o2, rfl⟩
        -- own = list(stem)
        refine ⟨_, rfl, S, _, rfl, .inl (SqL.of hS'), fun W nW => ?_⟩
        have nWp : W ≠ p := xf.pool.ne nW
        have nWF : W ≠ F := fun e => by
          rw [e, hF'] at nW
          cases nW
        refine ⟨_, rfl, _, rfl, _, rfl, _, _, rfl, rfl, .inl ⟨_, rfl, _, _, rfl, rfl, (by show (0 : Int) < 26; decide), ?_⟩⟩
        have r0 : 0 ≤ (b1 + (0 + (i : Int))) % 26 := by omega
        have r1 : (b1 + (0 + (i : Int))) % 26 < 26 := by omega
        refine ⟨letters, _, 97 + ((b1 + (0 + (i : Int))) % 26).toNat, rfl, rfl, r0, by omega, ?_, letters_at (by omega), ?_⟩
        · rw [letters_len]
          exact r1
        have ht1 : t1.toNat < cs.length := by
          rw [hl]
          omega
        refine ⟨_, rfl, _, rfl, W, _, _, t1.toNat, rfl, rfl, upd_same, ?_, ?_⟩
        · rw [List.length_map, List.length_map]
          unfold ixN
          rw [if_pos t0, if_pos (by omega)]
        have eset : ((cs.map sg).map V.str).set t1.toNat (V.str (sg (97 + ((b1 + (0 + (i : Int))) % 26).toNat))) = ((cs.set t1.toNat (97 + ((b1 + (0 + (i : Int))) % 26).toNat)).map sg).map V.str := by
          rw [List.map_set, List.map_set]
        have hcs : ∀ c ∈ cs.set t1.toNat (97 + ((b1 + (0 + (i : Int))) % 26).toNat), 97 ≤ c ∧ c ≤ 122 := fun c z => by
          rcases List.mem_or_eq_of_mem_set z with z | z
          · exact hc c z
          · omega
        have hln : (cs.set t1.toNat (97 + ((b1 + (0 + (i : Int))) % 26).toNat)).length = cs.length := List.length_set
        have hat : (cs.set t1.toNat (97 + ((b1 + (0 + (i : Int))) % 26).toNat))[t1.toNat]? = some (97 + ((b1 + (0 + (i : Int))) % 26).toNat) := List.getElem?_set_self ht1
        generalize cs.set t1.toNat (97 + ((b1 + (0 + (i : Int))) % 26).toNat) = cs2 at eset hcs hln hat
        generalize eW : upd (upd H' W _) W _ = H6
        have hW : H6 W = some (.lst ((cs2.map sg).map V.str)) := by
          rw [← eW, ← eset]
          exact upd_same
        have sm : Same H' H6 := fun b o z => by
          have nb : b ≠ W := ne_of_none z nW
          rw [← eW, upd_ne nb, upd_ne nb]
          exact z
        clear eW
        refine ⟨_, rfl, .inl ⟨rfl, _, SqL.of (sm _ _ hF')⟩, ⟨_, rfl⟩, _, rfl, _, W, cs2.map sg, rfl, rfl, .inl (SqL.of hW), ?_, ?_⟩
        · have e0 := sum_sg cs2
          have e2 : (Str.ofString "").length = 0 := by decide +kernel
          rw [e0, e2]
          omega
        refine ⟨F, _, _, rfl, rfl, sm _ _ hF', ?_, ?_⟩
        · rw [List.length_map, hz]
          exact small1000 (by omega)
        refine ⟨⟨?_, fun b o n z => ?_⟩, ?_, ⟨zs ++ [Txt.join (Str.ofString "") (cs2.map sg)], ?_, ?_, ?_, ?_⟩, _, _, rfl⟩
        · obtain ⟨a, b, c, z⟩ := xf.pool
          exact ⟨a, b, c, by rw [upd_ne (Ne.symm nFp)]; exact sm _ _ z⟩
        · rw [upd_ne (ne_of_none z nF)]
          exact sm _ _ (xf.keep b o n z)
        · rw [upd_ne nSF]
          exact sm _ _ hS'
        · rw [upd_same, List.map_append]
          rfl
        · rw [List.length_append, hz]
          rfl
        · intro z hz2
          rcases List.mem_append.mp hz2 with y | y
          · exact ht z y
          · have y2 : z = Txt.join (Str.ofString "") (cs2.map sg) := List.mem_singleton.mp y
            subst y2
            have ej := join_sg cs2
            refine ⟨?_, ?_, fun c hc2 => ?_⟩
            · rw [ej]
              omega
            · rw [ej]
              omega
            · rw [ej] at hc2
              exact hcs c hc2
        · intro k z hz2
          by_cases hlt : k < zs.length
          · rw [List.getElem?_append_left hlt] at hz2
            exact hk k z hz2
          · rw [List.getElem?_append_right (by omega)] at hz2
            have e3 : k - zs.length = 0 := by
              have := (List.getElem?_eq_some_iff.mp hz2).1
              simp at this
              omega
            rw [e3] at hz2
            cases hz2
            have e4 : k = i := by omega
            subst e4
            rw [join_sg cs2]
            exact hat
      · rintro σ H' ⟨xf, hS', ⟨zs, hF', hz, ht, hk⟩, o1, o2, rfl⟩
        exact ⟨_, rfl, q F zs H' xf nF hF' (by omega) ht (nodup_at (by omega) hk)⟩
end
end K1
/-! enumerate over a tuple -/
namespace EnT
open PySem PySem.Spec
open PyProof.Rows L2
open Builtin
set_option maxHeartbeats
    4000000 in
theorem meets_enumerate_newB1 {v : Value} {o : Obj} {H : Heap → Prop} (B : Begins v o H) :
    Meets (Builtin.«enumerate.__new__» ⟨[.type "enumerate", v], []⟩) (fun _ R s => H s.heap ∧
      R (.ok (.ret (.ref (s.heap.push o).objs.size))) { s with heap := (s.heap.push o).push { cls := .type "enumerate", data := .fields #[.none, .bool false, .ref s.heap.objs.size, rawInt 0, .none, .none] } }) :=
  .of_wp fun prog w A R s hyp => by
    obtain ⟨hp, g, d, tk, os⟩ := s; obtain ⟨h1, hyp⟩ := hyp
    have hsub := sub_enumerate
    have q1 : ∀ {A' : Around} {E : Value → Shared → Prop} {Q : Value → Shared → Prop}, Q (.ref
        hp.objs.size) ⟨hp.push o, g, d, tk, os⟩ → wpAny (model prog w) A' (pyIter v) Q E ⟨hp, g, d, tk, os⟩ :=
      fun q => B.iter prog w _
          _ ⟨hp, g, d, tk, os⟩ _ h1 q
    wp_walk using q1
    refine wpAny_stack_any fun stA => wpAny_pure ?_
    split
    · rename_i c _ _ _ _ _
      cases (c == Value.type
          "enumerate")
      · wp_walk using q1
        exact ⟨_, rfl, hyp⟩
      · wp_walk using q1
        exact ⟨_, rfl, hyp⟩
    · wp_walk using q1
      exact ⟨_, rfl, hyp⟩
section
variable {prog : Program} {w : World} {A
    : Around} {E : Value → Shared → Prop} {s : Shared}
theorem enum_begins1 {v : Value} {o : Obj} {H : Heap → Prop} {Q : Value → Shared → Prop} (B : Begins v o H) (h1 : H s.heap)
    (hyp : ∀ h', IsEnum h' (s.heap.objs.size + 1) s.heap.objs.size 0 .none → h'.get? s.heap.objs.size = some o → h'.objs.size = s.heap.objs.size + 2 →
      (∀ b o, s.heap.get? b = some o → h'.get? b = some
          o) → Q (.ref (s.heap.objs.size + 1)) { s with heap := h' }) :
    wpAny (model prog w) A (call (.type "enumerate") [v]) Q E s := by
  refine callType_new F.called_enumerate (by decide) (F.typeCall_enumerate_1
      _) (F.newCall_enumerate_1 _) (fun obj => F.args_object_init_2 obj _) F.entry_enumerate_new
    (meets_enumerate_newB1 B) ⟨h1, ?_⟩
  have szA : (s.heap.push o).objs.size = s.heap.objs.size + 1 := Heap.size_push ..
  show _ ∧ _
  rw [szA]
  have enA : IsEnum ((s.heap.push o).push { cls := .type "enumerate", data := .fields #[.none, .bool false, .ref s.heap.objs.size, rawInt 0, .none, .none] }) (s.heap.objs.size + 1) s.heap.objs.size 0 .none := by
    have := Heap.get?_push_size (s.heap.push o) (o := { cls := .type "enumerate", data := .fields #[.none, .bool false, .ref s.heap.objs.size, rawInt 0, .none, .none] }) rfl
    rw [szA] at this; exact this
  refine ⟨⟨_, enA, rfl⟩, hyp _ enA (Heap.get?_push_of_some _ (Heap.get?_push_size _ B.free)) (by rw [Heap.size_push, szA]) fun b o x => Heap.get?_push_of_some _ (Heap.get?_push_of_some _ x)⟩
end
/-- the tuple at a, each item in a new pair -/
def Itet (K : PySem.W.Frag) (a : Addr) : It :=
  ⟨fun i H => ∃ (xs : List V) (x : V), SqT K H a xs ∧ xs[i]? = some x, fun i H v H' => ∃ T x, v = .ref T ∧ H T = none ∧ H' = upd H T (.tup [.int (i : Nat), x]) ∧ ∀ xs, SqT K H a xs → xs[i]? = some x, fun i H => ∃ xs : List V, SqT K H a xs ∧ xs.length ≤ i⟩
theorem turn_enumT {P : Program} {w : World} {K : PySem.W.Frag} {elts : List Expr} {kk : Nat} {tpos : Pos} (a e it : Addr) (hai : a ≠ it) (hae : e ≠ a) :
    Turn P w K (.Tuple elts kk tpos) (Itet K a) [e, it] e (fun i hyp => (∃ old, IsEnum hyp e it ((i : Nat) : Int) old) ∧ hyp.IsTupleIter it a i ∧ e ≠ it) where
  mem := by simp
  obj := fun i hyp stA b memB => by
    obtain ⟨⟨old, enA⟩, ⟨o, obA, clA, dtA⟩, _⟩ := stA
    have eqB : b = e ∨ b = it := by simpa using memB
    rcases eqB with zA | zA
    · rw [zA]; exact ⟨_, enA, fun v q => nomatch q⟩
    · rw [zA]; exact ⟨o, obA, fun v q => by rw [dtA] at q; cases q⟩
  keep := fun i hyp h' stA k => let ⟨⟨old, enA⟩, hi, neA⟩ := stA; ⟨⟨old, k e (by simp) _ enA⟩, hi.at fun o q => k it (by simp) o q, neA⟩
  item := by
    intro X hP hw hK clA i pins s σ H E Iv fpA stA hg
    subst hP hw hK
    obtain ⟨⟨old, enA⟩, itA, neA⟩ := stA
    obtain ⟨xs, x, seqA, hx⟩ := hg
    obtain ⟨vsA, relA, p, szA⟩ := Iv.tuple seqA
    obtain ⟨u, getA, rlA⟩ := relA.get hx
    have ltE : e < s.heap.objs.size := Heap.lt_size enA
    have ltI : it < s.heap.objs.size := by obtain ⟨_, q, _⟩ := itA; exact Heap.lt_size q
    have hlt : i < vsA.toArray.size := by
      have := (List.getElem?_eq_some_iff.mp getA).1
      simpa using this
    refine wpAny_pyNext_enum_itemD (Draws.tuple (A := X.A.in1) (prog := X.prog) (w := X.w) (show X.A.in1.handled = none from Iv.ok.hd clA) it a hai vsA.toArray) enA ⟨itA, p⟩ hlt neA (by simp [neA, hae]) fun x' h' tk hx' obA st' tyA hsz kpA => ?_
    have ex : x' = u := by
      have : vsA[i]? = some x' := by simpa using hx'
      rw [getA] at this
      exact (Option.some.inj
          this).symm
    subst ex
    refine ⟨_, rfl, wpAny_letOwnedTupleGo_enum (s := { s with heap := h', toks := tk + 1 }) obA fun h'' he' sameB => ?_⟩
    have hT2 : h''.get? s.heap.objs.size = some { cls := .type "tuple", data := .seq #[.int i tk, x'] } := (sameB.2 _ (Nat.ne_of_gt ltE)).trans tyA
    have new : ObjOk X.prog X.w (upd H s.heap.objs.size (.tup [.int
        (i : Nat), x])) h'' s.heap.objs.size (.tup [.int (i : Nat), x]) :=
      ⟨by show 2 ≤ sizeLine; decide, [.int i tk, x'], .cons ⟨_, rfl⟩ (.cons rlA .nil), ⟨_, hT2, rfl, _, rfl⟩⟩
    have Iv1 : Inv X pins σ (upd H s.heap.objs.size (.tup [.int (i : Nat), x])) { s with heap := h'', toks := tk + 1 } :=
      Iv.turnedNew (ch := [e, it]) (fun b ob memB q => (sameB.2 b (fun zA => memB (by simp [zA]))).trans (kpA b ob (fun zA => memB (by simp [zA])) (fun zA => memB (by simp [zA])) q)) fpA (Nat.le_refl _) new
    refine ⟨.ref s.heap.objs.size, _, Iv1, rfl, ⟨_, x, rfl, Iv.hok.fresh (Nat.le_refl _), rfl, fun ys hy => by rw [Iv.tuple_inj hy seqA]; exact hx⟩, ⟨⟨x', ?_⟩, st'.1.at fun o q => (sameB.2 it (Ne.symm neA)).trans q, neA⟩, fun b memB => ?_⟩
    · have eqA : ((i + 1 : Nat) : Int) = (i : Int) + 1 := by omega
      rw [eqA]; exact he'
    · have ltB : b < s.heap.objs.size := by
        have eqB : b = e ∨ b = it := by simpa using memB
        rcases eqB with zA | zA
        · rw [zA]; exact ltE
        · rw [zA]; exact ltI
      rw [upd_ne (Nat.ne_of_lt ltB)]
      exact (fpA b memB).1
  done := by
    intro X hP hw hK clA i pins s σ H E Iv fpA stA hg
    subst hP hw hK
    obtain ⟨⟨old, enA⟩, itA, neA⟩ := stA
    obtain ⟨xs, seqA, hx⟩ := hg
    obtain ⟨vsA, relA, p, szA⟩ := Iv.tuple seqA
    obtain ⟨f0, f1, f2, f3, f4, f5⟩ := fpA it (by simp)
    have hl := relA.length
    have tyA : s.TypeIs (.ref e) "enumerate" := ⟨_, enA, rfl⟩
    unfold pyNext
    refine wpAny_bind (wpAny_attempt (wpAny_callSpecial?_slot (name := Str.ofString "__next__") tyA F.slot_enumerate_next
      (wpAny_call_entry F.slot_enumerate_next tyA F.entry_enumerate_next ?_ (F.args_enumerate_next_1 _))))
    show wpAny _ _ (field
        (.ref e) 2 >>= _) _ _ _
    refine wpAny_bind (wpAny_field enA rfl (x := .ref it) rfl ?_)
    refine wpAny_bind (wpAny_nextOf_tuple_end (A := X.A.in1) (show X.A.in1.handled = none from Iv.ok.hd clA) itA p (by simp; omega) fun h' x he' hx' => ?_)
    obtain ⟨o, obA, hcl⟩ := hx'
    refine wpAny_bind (wpAny_isInstance (T := "StopIteration") (b := true) ⟨o, obA, hcl⟩ isSubtype_stop ?_)
    exact wpAny_pure ⟨rfl, Iv.turned (t' := s.toks) (fun b o memB q => he' b o memB q) f0 f1 f3 f4 f5⟩
  self := fun A i s Q E stA hyp => let ⟨⟨_, enA⟩, _⟩ := stA; wpAny_pyIter_enum enA hyp
def iEnumT (K : PySem.W.Frag) (ta : TA) : TI := fun σ H R => ta σ H fun vs H1 => ∃ a xs, vs = [.ref a] ∧ SqT K H1 a xs ∧ R (Itet K a) H1
theorem pi_enumT {X : Cx} {e : Expr} {ta : TA} {p pos tpos : Pos} {elts : List Expr} {kk : Nat} (hg : Gl X "enumerate") (hm : X.mg "enumerate" = none) (ha : PA X [e] ta) (hs : starEach [e] X.env = [(false, eval e X.env)] := by rfl) :
    PI X (.Tuple elts kk tpos) (.Call (.Name "enumerate" p) [e] [] pos) (iEnumT X.K ta) := by
  refine ⟨fun pins s σ H R Iv hyp => ?_⟩
  refine Call_ (ld_blt Iv hg hm boot_enumerate (PyProof.Rows.callWith_type1 (thn (ha.run pos pins s σ H _ Iv hyp) fun us s1 ⟨vs, H1, Iv1, r1, q1⟩ => ?_) hs rfl))
  obtain ⟨a, xs, ex, seqA, q⟩ := q1
  subst ex
  cases r1 with
  | cons r rr =>
    cases rr
    cases r
    obtain ⟨vsA, relA, p', szA⟩ := Iv1.tuple seqA
    have hal : a < s1.heap.objs.size := by
      obtain ⟨_, q, _⟩ := p'
      exact Heap.lt_size q
    refine enum_begins1 (begins_tuple a vsA.toArray) p' fun h' enA itA hsz kpA => wpAny_pyIter_enum enA ?_
    have Iv2 : Inv X pins σ H1 { s1 with heap := h' } := Iv1.kept (t' := s1.toks) kpA
    refine ⟨s1.heap.objs.size + 1, [s1.heap.objs.size + 1, s1.heap.objs.size], _, _, H1, rfl, Iv2, turn_enumT a (s1.heap.objs.size + 1) s1.heap.objs.size (Nat.ne_of_lt hal) (Nat.ne_of_gt (Nat.lt_succ_of_lt hal)), ⟨⟨.none, enA⟩, ⟨_, itA, rfl, rfl⟩, Nat.succ_ne_self _⟩, fun b memB => ?_, q⟩
    have eqB : b = s1.heap.objs.size + 1 ∨ b = s1.heap.objs.size := by simpa using memB
    have leB : s1.heap.objs.size ≤ b := by
      rcases eqB with zA | zA
      · rw [zA]; exact Nat.le_add_right _ _
      · rw [zA]; exact Nat.le_refl _
    exact Iv1.fpOk leB (Iv1.hok.fresh leB)
theorem walk_enumT {K : PySem.W.Frag} {a : Addr} {xs : List V} : Walk (Itet K a) xs.length (fun H => SqT K H a xs) (YPair (fun i => some (.int (i : Nat))) (fun i => xs[i]?)) := by
  refine ⟨fun i _ hi q => ⟨xs, xs[i], q, by simp [hi]⟩,
      fun _ q => ⟨xs, q, Nat.le_refl _⟩, fun i H v H' _ q y => ?_⟩
  obtain ⟨T, x, h1,
      h2, h3, h4⟩ := y
  exact ⟨T, .int (i : Nat),
      x, h1, h2, h3, rfl, h4 xs q⟩
end EnT
namespace K1
open PySem PySem.Spec
open PyProof.Rows L2
open TL hiding len_tl
/-! ### what a name is -/
def nameB (z : Str) : Bool := if 8 < z.length then false else if Txt.isascii z = false then false else if Txt.isalnum z = false then false else if Txt.isalpha (sg (z.cps.getD 0 0)) = false then false else decide (z = Txt.lower z)
theorem alnum_all : ((List.range 128).all fun c => !((97 ≤ c && c ≤ 122) || (48 ≤ c && c ≤ 57)) || Unicode.isAlnum c) = true := by decide +kernel
theorem alpha_all : ((List.range 128).all fun c => !(97 ≤ c && c ≤ 122) || Unicode.isAlpha c) = true := by decide +kernel
theorem lo1_all : ((List.range 128).all fun c => !((97 ≤ c && c ≤ 122) || (48 ≤ c && c ≤ 57)) || PyProof.Rows.lo1 c == c) = true := by decide +kernel
theorem small_at {p : Nat → Bool} (h : ((List.range 128).all p) = true) {c : Nat} (hc : c < 128) : p c = true := (List.all_eq_true.mp h) c (List.mem_range.mpr hc)
def NameCh (c : Nat) : Prop := (97 ≤ c ∧ c ≤ 122) ∨ (48 ≤ c ∧ c ≤ 57)
theorem name_of {z : Str} (h1 : 1 ≤ (tl z).length) (h8 : (tl z).length ≤ 8) (ha : ∀ c ∈ tl z, NameCh c) (hf : ∀ c r, tl z = c :: r → 97 ≤ c ∧ c ≤ 122) : nameB z = true := by
  have hl : z.length = (tl z).length := TL.len_tl z
  have h128 : ∀ c ∈ tl z, c < 128 := fun c hc => by
    rcases ha c hc with q | q <;> omega
  have e1 : Txt.isascii z = true := by
    show z.cps.all (· < 128) = true
    rw [← Array.all_toList]
    exact List.all_eq_true.mpr fun c hc => decide_eq_true (h128 c hc)
  have e2 : Txt.isalnum z = true := by
    show (decide (z.length > 0) && z.cps.all Unicode.isAlnum) = true
    rw [decide_eq_true (by omega), ← Array.all_toList, Bool.true_and]
    refine List.all_eq_true.mpr fun c hc => ?_
    have q := small_at alnum_all (h128 c hc)
    rcases ha c hc with y | y
    · simpa [y.1, y.2] using q
    · simpa [y.1, y.2] using q
  obtain ⟨c, r, er⟩ : ∃ c r, tl z = c :: r := by
    cases e : tl z with
    | nil =>
      rw [e] at h1
      cases h1
    | cons c r => exact ⟨c, r, rfl⟩
  have e0 : z.cps.getD 0 0 = c := by
    have q : z.cps.getD 0 0 = (tl z).getD 0 0 := by simp [Array.getD_eq_getD_getElem?]
    rw [q, er]
    rfl
  have e3 : Txt.isalpha (sg c) = true := by
    have hc := hf c r er
    have q := small_at alpha_all (h128 c (by rw [er]; exact List.mem_cons_self))
    have q2 : Unicode.isAlpha c = true := by simpa [hc.1, hc.2] using q
    show (decide ((sg c).length > 0) && (sg c).cps.all Unicode.isAlpha) = true
    have e : (sg c).cps.all Unicode.isAlpha = true := by simp [q2]
    rw [e]
    rfl
  have e4 : Txt.lower z = z := by
    rw [lower_ascii h128]
    refine ext_tl ?_
    show (z.cps.map lo1).toList = tl z
    rw [Array.toList_map]
    have q : ∀ l : List Nat, (∀ c ∈ l, NameCh c) → l.map lo1 = l := fun l => by
      induction l with
      | nil => exact fun _ => rfl
      | cons a t ih =>
        intro h
        rw [List.map_cons, ih fun c hc => h c (List.mem_cons_of_mem _ hc)]
        have hn := h a List.mem_cons_self
        have h128 : a < 128 := by rcases hn with y | y <;> omega
        have q := small_at lo1_all h128
        have q2 : lo1 a = a := by
          rcases hn with y | y
          · simpa [y.1, y.2] using q
          · simpa [y.1, y.2] using q
        rw [q2]
    exact q _ ha
  unfold nameB
  rw [if_neg (by omega), e1, if_neg (by decide), e2, if_neg (by decide), e0, e3, if_neg (by decide), e4]
  exact decide_eq_true rfl
theorem tag_name {z : Str} (h : Tag z) : nameB z = true := name_of h.lo (Nat.le_trans h.hi (by decide)) (fun c hc => .inl (h.low c hc)) fun c r e => h.low c (by rw [e]; exact List.mem_cons_self)
/-! ### is_name -/
/-! ### values that are no texts -/
inductive NoStr (H : Hp) : V → Prop where
  | non : NoStr H .non
  | bl (b : Bool) : NoStr H (.bl b)
  | int (i : Int) : NoStr H (.int i)
  | lst {a : Addr} {xs : List V} (e : H a = some (.lst xs)) : NoStr H (.ref a)
  | tup {a : Addr} {xs : List V} (e : H a = some (.tup xs)) : NoStr H (.ref a)
  | dK {a : Addr} {kvs : List (Key × V)} (e : H a = some (.dK kvs)) : NoStr H (.ref a)
theorem NoStr.same {H H' : Hp} {v : V} (s : Same H H') (h : NoStr H v) : NoStr H' v := by
  cases h with
  | non => exact .non
  | bl b => exact .bl b
  | int i => exact .int i
  | lst e => exact .lst (s _ _ e)
  | tup e => exact .tup (s _ _ e)
  | dK e => exact .dK (s _ _ e)
theorem NoStr.ty {K : PySem.W.Frag} {H : Hp} {v : V} (h : NoStr H v) : ∃ t, TyX K H v t ∧ PySem.W.kitOne K t (.type "str") = some false := by
  cases h with
  | non => exact ⟨_, .base .non, kit_ty (by decide +kernel)⟩
  | bl b => exact ⟨_, .base (.bl b), kit_ty (by decide +kernel)⟩
  | int i => exact ⟨_, .base (.int i), kit_ty (by decide +kernel)⟩
  | lst e => exact ⟨_, .base (.lst e), kit_ty (by decide +kernel)⟩
  | tup e => exact ⟨_, .base (.tup e), kit_ty (by decide +kernel)⟩
  | dK e => exact ⟨_, .base (.dK e), kit_ty (by decide +kernel)⟩
def nameV : V → Bool
  | .str z => nameB z
  | _ => false
theorem NoStr.name {H : Hp} {v : V} (h : NoStr H v) : nameV v = false := by
  cases h <;> rfl
/-- a value that is_name may be asked of -/
def VOk (H : Hp) (v : V) : Prop := (∃ z, v = .str z ∧ z.length ≤ sizeLine) ∨ NoStr H v
theorem VOk.same {H H' : Hp} {v : V} (s : Same H H') (h : VOk H v) : VOk H' v := h.elim .inl fun n => .inr (n.same s)
def spIsName : Sp := fun vs H Q _ => ∃ v, vs = [v] ∧ VOk H v ∧ Q (.bl (nameV v)) H
section
variable {w : World} {P : Program}
variable {base : Heap} {mg : Str → Option Value} {K : PySem.W.Frag}
theorem scIsName : FnScope ["value"] ["value"] (defScope sIsName) := ⟨rfl, rfl, rfl, by decide +kernel, rfl, by decide +kernel, by decide +kernel⟩
theorem ok_isname {f : Addr} {fd : FuncData} (F : Fun K "is_name" "is_name" sIsName f fd) (T : Free mg) (mgL : ∃ t, mg "LONGEST_NAME" = some (.int 8 t)) : FnOk P w K mg base CX0 1 f fd ["value"] spIsName := by
  obtain ⟨tL, mgL⟩ := mgL
  refine F.ok scIsName (fun vs H Q E h => ?_) (fun cdv A outer s H vs Q E hr h => ?_)
  · obtain ⟨v, rfl, _⟩ := h
    rfl
  · obtain ⟨v, rfl, h⟩ := h
    refine ⟨_, pss_cons (ps_if (PW.pt (pw_or (pt_not (pt_val (pe_callB call_isi (by rfl) T.isinstance (by decide +kernel) (pa_cons (pv 0) (pa_cons (pe_bltn (v := .ty "str") (u := .type "str") (by rfl) T.str (by decide +kernel) rfl) pa_nil)))))
          (pw_or1 (pt_cmpR op_gt (pe_callB call_len_str (by rfl) T.len PySem.boot_len (pa_cons (pv 0) pa_nil)) (pe_glob (v := .int 8) rfl mgL ⟨_, rfl⟩) (nomark _))))) (pss_one (ps_ret pe_bl)) pss_nil)
      (pss_cons (ps_if (PW.pt (pw_or (pt_not (pt_val (pe_m0 PySem.F.slot_str_isascii PySem.F.type_str_isascii mt_isascii (pv 0)))) (pw_or1 (pt_not (pt_val (pe_m0 PySem.F.slot_str_isalnum PySem.F.type_str_isalnum mt_isalnum (pv 0))))))) (pss_one (ps_ret pe_bl)) pss_nil)
      (pss_one (ps_ret (pe_and (pe_m0 PySem.F.slot_str_isalpha PySem.F.type_str_isalpha mt_isalpha (pe_item_str (pv 0) pe_int (fun _ _ => rfl))) (pe_one (pe_cmpR op_eq (pv 0) (pe_lower (pv 0)) (nomark _))))))), ?_⟩
    obtain ⟨hv, q⟩ := h
    rcases hv with ⟨z, rfl, hz⟩ | n
    · refine ⟨_, rfl, _, _, _, _, true, rfl, .ty _, .base (.str z), kit_ty (by decide +kernel), true, rfl, ?_⟩
      refine iteF ?_
      refine ⟨_, rfl, z, rfl, hz, _, _, rfl, rfl, _, rfl, ?_⟩
      have q : Q (.bl (nameB z)) H := q
      unfold nameB at q
      by_cases h8 : 8 < z.length
      · rw [decide_eq_true (by omega)]
        rw [if_pos h8] at q
        exact iteT q
      rw [decide_eq_false
          (by omega)]
      rw [if_neg h8] at q
      refine iteF ?_
      refine ⟨_, rfl, ⟨_, rfl⟩, _, rfl, rfl, True.intro, _, rfl, ?_⟩
      cases ea : Txt.isascii z with
      | false =>
        rw [ea, if_pos rfl] at q
        exact iteT (iteT q)
      | true =>
        rw [ea, if_neg (by decide)] at q
        refine iteF ?_
        refine ⟨_, rfl, ⟨_, rfl⟩, _, rfl, rfl, True.intro, _, rfl, ?_⟩
        cases en : Txt.isalnum z with
        | false =>
          rw [en, if_pos rfl] at q
          exact iteT q
        | true =>
          rw [en, if_neg (by decide)] at q
          refine iteF ?_
          have hpos : 0 < z.length := by
            have e : (decide (z.length > 0) && z.cps.all Unicode.isAlnum) = true := en
            simp only [Bool.and_eq_true, decide_eq_true_eq] at e
            exact e.1
          have hcp : z.cps[(0 : Int).toNat]? = some (z.cps.getD 0 0) := by
            have h0 : 0 < z.cps.size := hpos
            show z.cps[0]? = _
            rw [Array.getD_eq_getD_getElem?, Array.getElem?_eq_getElem h0]
            rfl
          refine ⟨_, rfl, z, 0, z.cps.getD 0 0, rfl, rfl, by decide, by decide, by omega, hcp, ⟨_, rfl⟩, _, rfl, rfl, True.intro, _, rfl, ?_⟩
          cases el : Txt.isalpha (sg (z.cps.getD 0 0)) with
          | false =>
            rw [el, if_pos rfl] at q
            exact iteF q
          | true =>
            rw [el, if_neg (by decide)] at q
            refine iteT ?_
            refine ⟨_, rfl, _, rfl, ⟨_, rfl⟩, _, rfl, rfl, by omega, rfl, ?_⟩
            have e : decide (V.str z = V.str (Txt.lower z)) = decide (z = Txt.lower z) := by
              by_cases h : z = Txt.lower z
              · rw [decide_eq_true h, decide_eq_true (congrArg V.str h)]
              · rw [decide_eq_false h, decide_eq_false fun y => h (V.str.inj y)]
            show Q (V.bl (decide (V.str z = V.str (Txt.lower z)))) H
            rw [e]
            exact q
    · obtain ⟨t, ty, kt⟩ := n.ty (K := K)
      rw [n.name] at q
      refine ⟨_, rfl, _, _, _, _, false, rfl, .ty _, ty, kt, false, rfl, ?_⟩
      exact iteT (iteT q)
end
end K1
namespace K1
open PySem PySem.Spec PyProof.Rows L2 EnT
/-! ### wrong_at -/
def wrongIx (xs : List V) : Option Nat := xs.findIdx? fun v => !nameV v
def optInt : Option Nat → V
  | some i => .int i
  | none => .non
theorem wrong_some {xs : List V} {i : Nat} {v : V} (hv : xs[i]? = some v) (hn : nameV v = false) (h : (xs.take i).all nameV = true) : wrongIx xs = some i := by
  unfold wrongIx
  rw [List.findIdx?_eq_some_iff_getElem]
  obtain ⟨hi, e⟩ := List.getElem?_eq_some_iff.mp hv
  refine ⟨hi, by rw [e, hn]; rfl, fun j hj => ?_⟩
  have q := (List.all_eq_true.mp h) (xs[j]'(Nat.lt_trans hj hi)) (List.mem_iff_getElem.mpr ⟨j, by rw [List.length_take]; omega, by rw [List.getElem_take]⟩)
  rw [q]
  decide
theorem wrong_none {xs : List V} (h : xs.all nameV = true) : wrongIx xs = none := by
  unfold wrongIx
  rw [List.findIdx?_eq_none_iff]
  intro x hx
  rw [(List.all_eq_true.mp h) x hx]
  rfl
theorem take_all_succ {xs : List V} {i : Nat} {v : V} (hv : xs[i]? = some v) (hn : nameV v = true) (h : (xs.take i).all nameV = true) : (xs.take (i + 1)).all nameV = true := by
  rw [List.take_succ, hv, List.all_append, h]
  simp [hn]
def spWrongT (K : PySem.W.Frag) : Sp := fun vs H Q _ => ∃ (a : Addr) (xs : List V), vs = [.ref a] ∧ SqT K H a xs ∧ (∀ v ∈ xs, VOk H v) ∧ ∀ H', Same H H' → Q (optInt (wrongIx xs)) H'
def spWrongL (K : PySem.W.Frag) : Sp := fun vs H Q _ => ∃ (a : Addr) (xs : List V), vs = [.ref a] ∧ SqL K H a xs ∧ (∀ v ∈ xs, VOk H v) ∧ ∀ H', Same H H' → Q (optInt (wrongIx xs)) H'
theorem sameT {K : PySem.W.Frag} {H H' : Hp} {a : Addr} {xs : List V} (e : Same H H') (h : SqT K H a xs) : SqT K H' a xs := by
  rcases h with h | h
  · rcases h with h | ⟨o, h⟩
    · exact .inl (.inl (e _ _ h))
    · exact .inl (.inr
          ⟨o, e _ _ h⟩)
  · exact .inr h
section
variable {w : World} {P : Program}
variable {base : Heap} {mg : Str → Option Value} {K : PySem.W.Frag}
theorem scWrong : FnScope ["values", "at", "value"] ["values"] (defScope sWrong) := ⟨rfl, rfl, rfl, by decide +kernel, rfl, by decide +kernel, by decide +kernel⟩
theorem ok_wrongT {f fN : Addr} {fd fdN : FuncData} (F : Fun K "wrong_at" "wrong_at" sWrong f fd) (T : Free mg) (GN : FnOk P w K mg base CX0 1 fN fdN ["value"] spIsName) (FN : Fun K "is_name" "is_name" sIsName fN fdN) (mgN : mg "is_name" = some (.ref fN)) :
    FnOk P w K mg base CX0 2 f fd ["values"] (spWrongT K) := by
  have bN : Binds K fdN ["value"] [] := FN.binds (ps := ["value"]) fun _ _ _ _ _ _ us hl => match us, hl with | [_], _ => rfl
  refine F.ok scWrong (fun vs H Q E h => ?_) (fun cdv A outer s H vs Q E hr h => ?_)
  · obtain ⟨a, xs, rfl, _⟩ := h
    rfl
  · obtain ⟨a, xs, rfl, hS, hv, q⟩ := h
    refine ⟨_, pss_cons (ps_for PassesOwn.never rfl (pi_enumT (by rfl) T.enumerate (pa_cons (pv 0) pa_nil)) (pg_tup rfl (pgs_cons (pg_name (i := 1) scWrong.nd rfl (.inl rfl)) (pgs_cons (pg_name (i := 2) scWrong.nd rfl (.inl rfl)) pgs_nil)))
        (pss_one (ps_if (pt_not (pt_val (pe_call GN hr rfl mgN FN.kp bN .nil pass0 (pa_cons (pv 2) pa_nil)))) (pss_one (ps_ret (pv 1))) pss_nil)))
      (pss_one (ps_ret pe_non)), ?_⟩
    refine ⟨_, rfl, a, xs, rfl, hS, ?_⟩
    refine for_it (walk_enumT (xs := xs)) (fun i σ H' => Same H H' ∧ (xs.take i).all nameV = true ∧ ∃ o1 o2 : Option V, σ = [some (.ref a), o1, o2]) ?_ ?_ ?_ ?_
    · exact ⟨Same.refl H, rfl, none, none, rfl⟩
    · rintro i σ H' hi ⟨sm, _⟩
      exact sameT sm hS
    · rintro i x σ H1 H2 hi ⟨sm, ha, o1, o2, rfl⟩ ⟨t, y1, y2, rfl, nt, rfl, e1, e2⟩
      cases e1
      refine ⟨t, _, rfl, SqT.of upd_same, rfl, _, _, rfl, _, _, rfl, rfl, ?_⟩
      have sm2 : Same H (upd H1 t (.tup [.int (i : Nat), y2])) := sm.trans (same_upd nt)
      have hm : y2 ∈ xs := List.mem_of_getElem? e2
      refine ⟨_, rfl, _, rfl, (hv y2 hm).same sm2, _, rfl, ?_⟩
      cases en : nameV y2 with
      | false =>
        refine iteT ⟨_, rfl, ?_⟩
        have z := q _ sm2
        rw [wrong_some e2 en ha] at z
        exact z
      | true =>
        refine iteF ⟨sm2, take_all_succ e2 en ha, _, _, rfl⟩
    · rintro σ H' ⟨sm, ha, o1, o2, rfl⟩
      have z := q _ sm
      rw [List.take_length] at ha
      rw [wrong_none ha] at z
      exact z
theorem ok_wrongL {f fN : Addr} {fd fdN : FuncData} (F : Fun K "wrong_at" "wrong_at" sWrong f fd) (T : Free mg) (GN : FnOk P w K mg base CX0 1 fN fdN ["value"] spIsName) (FN : Fun K "is_name" "is_name" sIsName fN fdN) (mgN : mg "is_name" = some (.ref fN)) :
    FnOk P w K mg base CX0 2 f fd ["values"] (spWrongL K) := by
  have bN : Binds K fdN ["value"] [] := FN.binds (ps := ["value"]) fun _ _ _ _ _ _ us hl => match us, hl with | [_], _ => rfl
  refine F.ok scWrong (fun vs H Q E h => ?_) (fun cdv A outer s H vs Q E hr h => ?_)
  · obtain ⟨a, xs, rfl, _⟩ := h
    rfl
  · obtain ⟨a, xs, rfl, hS, hv, q⟩ := h
    refine ⟨_, pss_cons (ps_for PassesOwn.never rfl (pi_enum (by rfl) T.enumerate (pa_cons (pv 0) pa_nil)) (pg_tup rfl (pgs_cons (pg_name (i := 1) scWrong.nd rfl (.inl rfl)) (pgs_cons (pg_name (i := 2) scWrong.nd rfl (.inl rfl)) pgs_nil)))
        (pss_one (ps_if (pt_not (pt_val (pe_call GN hr rfl mgN FN.kp bN .nil pass0 (pa_cons (pv 2) pa_nil)))) (pss_one (ps_ret (pv 1))) pss_nil)))
      (pss_one (ps_ret pe_non)), ?_⟩
    refine ⟨_, rfl, a, xs, rfl, hS, ?_⟩
    refine for_it (walk_enum (xs := xs)) (fun i σ H' => Same H H' ∧ (xs.take i).all nameV = true ∧ ∃ o1 o2 : Option V, σ = [some (.ref a), o1, o2]) ?_ ?_ ?_ ?_
    · exact ⟨Same.refl H, rfl, none, none, rfl⟩
    · rintro i σ H' hi ⟨sm, _⟩
      exact sm.seq hS
    · rintro i x σ H1 H2 hi ⟨sm, ha, o1, o2, rfl⟩ ⟨t, y1, y2, rfl, nt, rfl, e1, e2⟩
      cases e1
      refine ⟨t, _, rfl, SqT.of upd_same, rfl, _, _, rfl, _, _, rfl, rfl, ?_⟩
      have sm2 : Same H (upd H1 t (.tup [.int (i : Nat), y2])) := sm.trans (same_upd nt)
      have hm : y2 ∈ xs := List.mem_of_getElem? e2
      refine ⟨_, rfl, _, rfl, (hv y2 hm).same sm2, _, rfl, ?_⟩
      cases en : nameV y2 with
      | false =>
        refine iteT ⟨_, rfl, ?_⟩
        have z := q _ sm2
        rw [wrong_some e2 en ha] at z
        exact z
      | true =>
        refine iteF ⟨sm2, take_all_succ e2 en ha, _, _, rfl⟩
    · rintro σ H' ⟨sm, ha, o1, o2, rfl⟩
      have z := q _ sm
      rw [List.take_length] at ha
      rw [wrong_none ha] at z
      exact z
end
end K1
/-! static methods called through their class; instances made by a starred or an empty argument list -/
namespace SmX
open PySem PySem.Spec PyProof.Rows L2 StX ClX
section
variable {X : Cx} {CX : CXT} {k i : Nat} {f C : Addr} {sp : Sp} {E : XK}
    {x m : Str} {e o : Expr} {es : List Expr} {te ta : TE} {t : TA} {p sp_ pos apos : Pos}
/-- C(*y) -/
theorem pe_makeS1 (M : Mk X.K C f) (F : FnR X.prog X.w X.K X.mg X.base CX k f sp) (hr : Room (k + 1) X.A) (hg : Gl X x) (hm : X.mg x = some (.ref C)) (hx : Passes CX X E) (he : PE X e te) (hd : (x == ("__debug__" : Str)) = false := by decide)
    (hst : starEach [.Starred e sp_] X.env
        = [(true, eval e X.env)] := by rfl) :
    PE X (.Call (.Name x p) [.Starred e sp_] [] pos) (fun σ H Q => te σ H fun y H1 => ∃ a xs, y = V.ref a ∧ (SqT X.K H1 a xs ∨ SqL X.K H1 a xs) ∧ ∀ x dx, H1 x = Option.none → H1 dx = Option.none → dx ≠ x →
      sp (V.ref x :: xs) (upd (upd H1 dx (.own x)) x (.ins C dx [])) (fun v H2 => v = .non ∧ Q (.ref x) H2) E) := by
  refine ⟨fun pins s σ H Q Iv hyp => ?_⟩
  refine wpAny_Call_Name_kw (ld_glob Iv hg hm ?_ hd)
  refine PySem.W.callWith_S (h₀ := X.base) Iv.ok.mod.kin M.kp (thn (he.run pins s σ H _ Iv hyp) fun v st1 ⟨y, H1, Iv1, relY, a, xs, ey, hxs, cont⟩ => ?_) hst
  subst ey
  obtain rfl : v = Value.ref a := relY
  exact star_any Iv1 hxs fun us st2 Iv2 rv => ⟨Iv2.kIn, run_makeR M F hr hx Iv2 rv cont⟩
/-- C() -/
theorem pe_makeR0 (M : Mk X.K C f) (F : FnR X.prog X.w X.K X.mg X.base CX k f sp) (hr : Room (k + 1) X.A) (hg : Gl X x) (hm : X.mg x = some (.ref C)) (hx : Passes CX X E) (hd : (x == ("__debug__" : Str)) = false := by decide) :
    PE X (.Call (.Name x p) [] [] pos) (tMakeR C sp E tNil) := by
  refine ⟨fun pins s σ H Q Iv hyp => ?_⟩
  refine wpAny_Call_Name_kw (ld_glob Iv hg hm ?_ hd)
  exact PySem.W.callWith_K0 Iv.kIn M.kp (run_makeR (us := []) (vs := []) M F hr hx Iv .nil hyp)
end
/-- C.m is a staticmethod: its record at p, its def at g -/
structure SMet (K : PySem.W.Frag) (C : Addr) (mc : Value) (m : Str) (p g : Addr) : Prop where
  at_ : PySem.W.findCls K (.ref C) mc m = some (.get (.builtin "staticmethod.__get__") (.ref p) .none (.ref C))
  rc : ∃ rest, PySem.W.recIn K p "staticmethod" = some (.ref g :: rest)
  kp : PySem.W.keepIn K (.ref g) = true
def tSMeth (C : Addr) (sp : Sp) (E : XK) (ta : TE) (t : TA) : TE := fun σ H Q => ta σ H fun x H1 => x = .ref C ∧ t σ H1 fun vs H2 => sp vs H2 Q E
def tSMethK (C : Addr) (m : Nat) (sp : Sp) (gV : List V → List V → List V) (E : XK) (ta : TE) (tk : TA) : TE := fun σ H Q => ta σ H fun x H1 => x = .ref C ∧ tk σ H1 fun zs H2 => zs.length = m ∧ sp (gV [] zs) H2 Q E
section
variable {X : Cx} {CX : CXT} {k : Nat} {C p g : Addr} {mc : Value} {sp : Sp} {E : XK} {o e : Expr} {es : List Expr} {f m : Str} {pos apos : Pos} {ta : TE} {t tk : TA} {pl : Sem Bool} {pins : List (Addr × Obj)} {σ : L2.St} {H : Hp} {s : Shared} {A : Around} {E' : Value → Shared → Prop}
theorem getmethsm_ok {Q : Value × List Value → Shared → Prop} (Iv : Inv X pins σ H s) (r : CRead X.K C mc) (k : SMet X.K C mc m p g) (hyp : ∀ s', Inv X pins σ H s' → Q (.ref g, []) s') : wpAny (model X.prog X.w) A (getMethod (.ref C) m pl) Q E' s := by
  obtain ⟨rest, hp⟩ := k.rc
  refine PySem.W.method_cls Iv.kIn r.ga (PySem.W.cls_bind Iv.kIn r.rd k.at_ ?_)
  exact wpAny_call (PySem.W.sm_get (s := { s with toks := s.toks + 1 }) Iv.kIn hp (PySem.W.handed_on rfl (hyp _ (Iv.tok _))))
theorem pe_smeth (he : PE X o ta) (r : CRead X.K C mc) (c : SMet X.K C mc m p g) (F : FnR X.prog X.w X.K X.mg X.base CX k g sp) (hr : Room k X.A) (hx : Passes CX X E) (ha : PA X (e :: es) t)
    (hst : starEach (e :: es) X.env = (false, eval e X.env) :: starEach es
        X.env := by rfl) (hpl : (backTo pos (starEach es X.env)).any (·.1) = false := by rfl)
    (ht : eval (.Call (.Attribute o
        m apos) (e :: es) [] pos) X.env = (do
      let ov ← eval o X.env
      standAt apos.atName
      let (f, first) ← holding
          [ov] (getMethod ov m pl)
      callWith pos f first (backTo pos (starEach (e :: es)
          X.env)) (backToKw pos (keywordEach [] X.env))) := by rfl) :
    PE X (.Call (.Attribute o m apos) (e :: es) [] pos) (tSMeth C sp E ta t) := by
  refine ⟨fun pins s σ H Q Iv hyp => ?_⟩
  refine PySem.W.methodCall_KW (pl := pl) (thn (he.run pins s σ H _ Iv hyp) fun usV st1 ⟨x, H1, Iv1, relX, ex, cont⟩ => ?_) ht
  subst ex
  obtain rfl : usV = Value.ref C := relX
  refine getmethsm_ok Iv1 r c fun st2 Iv2 => ?_
  refine PySem.W.callWith_K (h₀ := X.base) Iv.ok.mod.kin c.kp (thn (ha.run pos pins st2 σ H1 _ Iv2 cont) fun us st3 ⟨vs, H2, Iv3, rv, q2⟩ => ⟨Iv3.kIn, ?_⟩) hst hpl
  exact wpAny_call (run_fnR F hr hx Iv3 rv q2)
theorem pe_smethK {fd : FuncData} {ps ks : List Str} {kws : List Keyword} {gg : List Value → List Value → List Value} {gV : List V → List V → List V} (he : PE X o ta) (r : CRead X.K C mc) (c : SMet X.K C mc m p g) (F : FnOk X.prog X.w X.K X.mg X.base CX k g fd ps sp) (hb : KBn X.K fd ps 0 ks gg gV) (hr : Room k X.A) (hx : Passes CX X E) (hkw : PK X kws tk)
    (hall : (backToKw pos (keywordEach kws X.env)).all (·.1.isSome) = true := by rfl) (hks : (backToKw pos (keywordEach kws X.env)).filterMap (·.1) = ks := by rfl)
    (hpl : ((backTo pos (starEach [] X.env)).any (·.1) || (backToKw pos (keywordEach kws X.env)).any (·.1.isNone)) = false := by rfl)
    (ht : eval (.Call (.Attribute o m apos) [] kws pos) X.env = (do
      let ov ← eval o X.env
      standAt apos.atName
      let (f, first) ← holding
          [ov] (getMethod ov m pl)
      callWith pos f first (backTo pos (starEach [] X.env)) (backToKw pos (keywordEach kws X.env))) := by rfl) :
    PE X (.Call (.Attribute o m apos) [] kws pos) (tSMethK C ks.length sp gV E ta tk) := by
  refine ⟨fun pins s σ H Q Iv hyp => ?_⟩
  refine PySem.W.methodCall_KW (pl := pl) (thn (he.run pins s σ H _ Iv hyp) fun usV st1 ⟨x, H1, Iv1, relX, ex, cont⟩ => ?_) ht
  subst ex
  obtain rfl : usV = Value.ref C := relX
  refine getmethsm_ok Iv1 r c fun st2 Iv2 => ?_
  refine PySem.W.callWith_KW0 (h₀ := X.base) Iv.ok.mod.kin c.kp hall ?_ hpl
  refine thn (hkw.run pos pins st2 σ H1 _ Iv2 cont) fun ws st3 ⟨zs, H2, Iv3, rz, l2, q2⟩ => ⟨Iv3.kIn, ?_⟩
  rw [hks]
  exact run_fnN (us := []) (vs := []) (n := 0) F hr hb hx Iv3 .nil rz rfl l2 q2
end
end SmX
/-! sorted(set(texts)) -/
namespace TxS
open PySem PySem.Spec
open PyProof.Rows L2
/-- a set whose table can be walked; its members and their hashes are ms -/
def Tbl (w : World) (hp : Heap) (S : Addr) (ms : Array (Int × Value)) : Prop :=
  ∃ (ob : Obj) (ep : Nat) (tb : SetTable), hp.get? S = some ob ∧ ob.ExactSet ∧ ob.data = .set ms ep tb ∧ ms.size < scanBound ∧ tb.fits ms.size = true ∧ Ris tb.place.toList ∧ (w.params.followText "set-order" = true ∨ tb.led = true)
theorem Tbl.moved {w : World} {hp hp' : Heap} {S : Addr} {ms : Array (Int × Value)} (T : Tbl w hp S ms) (kp : ∀ ob, hp.get? S = some ob → hp'.get? S = some ob) : Tbl w hp' S ms := by
  obtain ⟨ob, ep, tb, h0, rest⟩ := T
  exact ⟨ob, ep, tb, kp ob h0, rest⟩
section
variable {P : Program} {w : World} {A : Around} {Er : Value → Shared → Prop} {st : Shared} {S : Addr}
theorem gave_ok {Q1 : Unit → Shared → Prop} {s1 : Shared} (gv : Bool) (cont : Q1 () s1) : wpAny (model P w) A (match gv with | true => rule "set.scan.the-table-gave-way" | false => pure ()) Q1 Er s1 := by
  cases gv with
  | true => exact wpAny_rule cont
  | false => exact wpAny_pure cont
/-- the table laid, and laid anew where it is too full -/
theorem tail_ok {ms ms1 : Array (Int × Value)} {ob : Obj} {ep : Nat} {tb t1 : SetTable} (h0 : st.heap.get? S = some ob) (hx : ob.ExactSet) (hd : ob.data = .set ms ep tb) (b1 : ms1.size < scanBound) (f1 : t1.fits ms1.size = true) (r1 : Ris t1.place.toList)
    (l1 : w.params.followText "set-order" = true ∨ t1.led = true) (wd : Bool) {R : Option Bool → Shared → Prop}
    (hR : ∀ hp' ms', Heap.SameBut S st.heap hp' → Tbl w hp' S ms' → ms'.toList.Perm ms1.toList → R (some true) { st with heap := hp' }) :
    wpAny (model P w) A (do
      storeSet S ms1 t1
      if (!wd && t1.tooFull) = true then do
        (match (relayAll t1 ms1 (SetTable.grown ms1.size)).2.2 with | true => rule "set.scan.the-table-gave-way" | false => pure ())
        storeSet S (relayAll t1 ms1 (SetTable.grown ms1.size)).1 (relayAll t1 ms1 (SetTable.grown ms1.size)).2.1
        pure (some true)
      else pure (some true)) R Er st := by
  refine wpAny_bind (wpAny_storeSet_of h0 hd ?_ (fits_of_scanBound b1))
  have a1 := store_at (es' := ms1) (t' := t1) h0 hd
  have k1 := Heap.SameBut.update st.heap S (Obj.putSet ms1 t1)
  by_cases full : (!wd && t1.tooFull) = true
  · rw [if_pos full]
    have p2 := relayAll_perm t1 ms1 (SetTable.grown ms1.size)
    have n2 : (relayAll t1 ms1 (SetTable.grown ms1.size)).1.size = ms1.size := by
      have cont := p2.length_eq
      simpa using cont
    refine wpAny_bind (gave_ok _ ?_)
    refine wpAny_bind (wpAny_storeSet_of a1 rfl ?_ (fits_of_scanBound (by rw [n2]; exact b1)))
    have a2 := store_at (es' := (relayAll t1 ms1 (SetTable.grown ms1.size)).1) (t' := (relayAll t1 ms1 (SetTable.grown ms1.size)).2.1) a1 rfl
    refine wpAny_pure (hR _ _ (k1.trans (Heap.SameBut.update _ S _)) ⟨_, _, _, a2, hx, rfl, by rw [n2]; exact b1, relayAll_fits t1 ms1 _, relayAll_ris t1 ms1 _, ?_⟩ p2)
    rw [relayAll_led t1 ms1 _]
    exact l1
  · rw [if_neg full]
    exact wpAny_pure (hR _ _ k1 ⟨_, _, _, a1, hx, rfl, b1, f1, r1, l1⟩ .rfl)
variable {κ : Type} [DecidableEq κ] [BEq κ] [LawfulBEq κ] {knd : KeyKind P w κ}
theorem add_ok {ms : Array (Int × Value)} {k : κ} {v : Value} {Q : Bool → Shared → Prop} (T : Tbl w st.heap S ms) (el : ElemsOf knd ms.toList) (hk : knd.is k v = true) (sc : v.scannable = true) (room : ms.size + 1 < scanBound)
    (old : (∃ e ∈ ms.toList, knd.is k e.2 = true) → Q false st)
    (new : (∀ e ∈ ms.toList, knd.is k e.2 = false) → ∀ hp' ms', Heap.SameBut S st.heap hp' → Tbl w hp' S ms' → ms'.toList.Perm ((knd.hash k, v) :: ms.toList) → Q true { st with heap := hp' }) :
    wpAny (model P w) A (setAddHashed S v (knd.hash k)) Q Er st := by
  obtain ⟨ob, ep, tb, h0, hx, hd, b0, f0, r0, l0⟩ := T
  unfold setAddHashed
      setAddHashedIn
  refine wpAny_holding (wpAny_bind (wpAny_setState_of h0 hd f0 ?_))
  dsimp only
  rw [byScan_of sc b0 el]
  simp only [↓reduceIte]
  unfold setAddByScan
  refine wpAny_bind (wpAny_bind (wpAny_rule (wpAny_bind (wpAny_setScan_of hk h0 hd f0 el ?_))))
  cases fdA : List.findIdx? (fun e => knd.is k e.2) ms.toList with
  | some j =>
    obtain ⟨jA, pA, _⟩ := List.findIdx?_eq_some_iff_getElem.mp fdA
    exact wpAny_pure (wpAny_pure (old ⟨_, List.getElem_mem jA, pA⟩))
  | none =>
    have none_ : ∀ e ∈ ms.toList, knd.is k e.2 = false := fun e he => List.findIdx?_eq_none_iff.mp fdA e he
    dsimp only
    have pm := layNew_perm tb ms (knd.hash k) v
    have hf1 := layNew_fits tb ms (knd.hash k) v
    have hr1 := layNew_ris tb ms (knd.hash k) v r0
    have hl1 := layNew_led tb ms (knd.hash k) v
    generalize layNew tb ms (knd.hash k) v = Z at pm hf1 hr1 hl1 ⊢
    obtain ⟨ms1, t1, wd, gv⟩ := Z
    dsimp only at pm hl1 hr1 hf1 ⊢
    have pc : ms1.toList.Perm ((knd.hash k, v) :: ms.toList) := by
      rw [Array.toList_push] at pm
      exact pm.trans (List.perm_append_singleton _ _)
    have n1 : ms1.size = ms.size + 1 := by
      have cont := pc.length_eq
      simpa using cont
    have fin : ∀ hp' ms', Heap.SameBut S st.heap hp' → Tbl w hp' S ms' → ms'.toList.Perm ms1.toList → Q true { st with heap := hp' } := fun hp' ms' sb T' pp => new none_ hp' ms' sb T' (pp.trans pc)
    have led1 : w.params.followText "set-order" = true ∨ t1.led = true := by
      rw [hl1]
      exact l0
    refine wpAny_bind (gave_ok _ ?_)
    by_cases pl : t1.plain = true
    · rw [if_pos pl, hashByValue_scannable 8 sc]
      refine wpAny_bind
          (wpAny_pure ?_)
      by_cases pk : plainKind v = true
      · rw [pk]
        exact tail_ok h0 hx hd (by rw [n1]; exact room) hf1 hr1 led1 wd fun hp' ms' sb T' pp => wpAny_pure (fin hp' ms' sb T' pp)
      · have pk' : plainKind v = false := by simpa using pk
        rw [pk']
        exact tail_ok (t1 := { t1 with plain := false }) h0 hx hd (by rw [n1]; exact room) (SetTable.fits_plain_off hf1) hr1 led1 wd fun hp' ms' sb T' pp => wpAny_pure (fin hp' ms' sb T' pp)
    · rw [if_neg pl]
      refine wpAny_bind
          (wpAny_pure ?_)
      exact tail_ok h0 hx hd (by rw [n1]; exact room) hf1 hr1 led1 wd fun hp' ms' sb T' pp => wpAny_pure (fin hp' ms' sb T' pp)
end
/-! ### texts -/
def txt (e : Int × Value) : Str := match e.2 with
  | .str z _ => z
  | _ => Str.empty
def Txts (P : Program) (w : World) (ms : List (Int × Value)) : Prop := ∀ e ∈ ms, ∃ z t, e.2 = Value.str z t ∧ e.1 = (PySem.strKind P w).hash z
theorem Txts.el {P : Program} {w : World} {ms : List (Int × Value)} (g : Txts P w ms) : ElemsOf (PySem.strKind P w) ms := fun e he => by
  obtain ⟨z, t, e1, e2⟩ := g e he
  exact ⟨⟨z, by rw [e1]; exact strKind_is P w z t, e2⟩, by rw [e1]; rfl⟩
theorem is_txt {P : Program} {w : World} {e : Int × Value} {z y : Str} {t : Tok} (e1 : e.2 = Value.str z t) : (PySem.strKind P w).is y e.2 = true ↔ txt e = y := by
  have cont : txt e = z := by
    unfold txt
    rw [e1]
  rw [cont]
  constructor
  · intro hyp
    have h2 := strKind_is P w z t
    rw [← e1] at h2
    exact (PySem.strKind P w).inj _ _ _ h2 hyp
  · rintro rfl
    rw [e1]
    exact strKind_is P w z t
/-- the set at S holds just the texts in zs -/
def SetTx (P : Program) (w : World) (hp : Heap) (S : Addr) (zs : List Str) (n : Nat) : Prop :=
  ∃ ms, Tbl w hp S ms ∧ Txts P w ms.toList ∧ (ms.toList.map txt).Nodup ∧ (∀ z, z ∈ ms.toList.map txt ↔ z ∈ zs) ∧ ms.size ≤ n
theorem SetTx.moved {P : Program} {w : World} {hp hp' : Heap} {S : Addr} {zs : List Str} {n : Nat} (T : SetTx P w hp S zs n) (kp : ∀ ob, hp.get? S = some ob → hp'.get? S = some ob) : SetTx P w hp' S zs n := by
  obtain ⟨ms, T0, rest⟩ := T
  exact ⟨ms, T0.moved kp, rest⟩
section
variable {P : Program} {w : World} {A : Around} {Er : Value → Shared → Prop} {st : Shared} {S : Addr}
theorem add_text {zs : List Str} {n : Nat} {y : Str} {t : Tok} {Q : Bool → Shared → Prop} (T : SetTx P w st.heap S zs n) (room : n + 1 < scanBound)
    (cont : ∀ b hp', Heap.SameBut S st.heap hp' → SetTx P w hp' S (zs ++ [y]) (n + 1) → Q b { st with heap := hp' }) :
    wpAny (model P w) A (setAddHashed S (.str y t) ((PySem.strKind P w).hash y)) Q Er st := by
  obtain ⟨ms, T0, g, nd, hm, hn⟩ := T
  refine add_ok (knd := PySem.strKind P w) T0 g.el (strKind_is P w y t) rfl (by omega) (fun ⟨e, he, hy⟩ => ?_) (fun no hp' ms' sb T' pp => ?_)
  · obtain ⟨z, t', e1, _⟩ := g e he
    have ey := (is_txt (P := P) (w := w) e1).mp hy
    refine cont false st.heap (Heap.SameBut.refl S st.heap) ⟨ms, T0, g, nd, fun x => ?_, by omega⟩
    rw [hm x, List.mem_append, List.mem_singleton]
    refine ⟨.inl, fun hyp => hyp.elim id fun h2 => ?_⟩
    rw [h2, ← ey]
    exact (hm _).mp (List.mem_map.mpr ⟨e, he, rfl⟩)
  · have nin : y ∉ ms.toList.map txt := fun hyp => by
      obtain ⟨e, he, ey⟩ := List.mem_map.mp hyp
      obtain ⟨z, t', e1, _⟩ := g e he
      have b := (is_txt (P := P) (w := w) (y := y) e1).mpr ey
      rw [no e he] at b
      cases b
    have pk : (ms'.toList.map txt).Perm (y :: ms.toList.map txt) := pp.map txt
    refine cont true hp' sb ⟨ms', T', fun e he => ?_, pk.nodup_iff.mpr (List.nodup_cons.mpr ⟨nin, nd⟩), fun x => ?_, ?_⟩
    · rcases List.mem_cons.mp (pp.mem_iff.mp he) with hyp | hyp
      · rw [hyp]
        exact ⟨y, t, rfl, rfl⟩
      · exact g e hyp
    · rw [pk.mem_iff, List.mem_cons, hm x, List.mem_append, List.mem_singleton]
      exact Or.comm
    · have cont := pp.length_eq
      rw [Array.length_toList, List.length_cons, Array.length_toList] at cont
      omega
/-- all that is walked is added -/
theorem loop_texts {Iv : Addr} {fp wr : List Addr} {G : Array GenState → Array GenState → Prop} {n : Nat} {Pv : Nat → Value → Prop} {Sv : Nat → Shared → Prop} {R : Result → Shared → Prop} (Wk : WalksS P w A.in1 Iv fp wr G n Pv Sv) (far : S ∉ fp)
    (zs : List Str) (hz : zs.length = n) (room : n + 1 < scanBound) (val : ∀ i v, Pv i v → ∃ z t, zs[i]? = some z ∧ v = Value.str z t)
    (fin : ∀ s1, Moved (S :: wr) G st s1 → SetTx P w s1.heap S zs n → R (.ok (.ret .none)) s1) :
    ∀ (left i : Nat) (s1 : Shared), i + left = n → Sv i s1 → Moved (S :: wr) G st s1 → SetTx P w s1.heap S (zs.take i) i → codeAny (model P w) A (.builtin "set.update.loop" ⟨[.ref S, .ref Iv], []⟩) R s1 := by
  have farw : S ∉ wr := fun hyp => far (Wk.sub _ hyp)
  have inc : ∀ b ∈ wr, b ∈ S :: wr := fun b hb => List.mem_cons_of_mem _ hb
  intro left
  induction left with
  | zero =>
    intro i s1 e hs mv T
    have ei : i = n := by omega
    subst ei
    refine codeAny_builtin
        F.entry_set_update_loop ?_
    rw [Around.under_plainId
        F.plain_set_update_loop _]
    show wpAny _ A.in1 (pyNext (.ref Iv) >>= _) _ _ s1
    refine wpAny_bind (Wk.done s1 _ _ hs fun s2 m2 => ?_)
    rw [List.take_of_length_le (by omega)] at T
    exact wpAny_pure (fin s2 (Moved.trans Wk.gtrans mv (m2.mono inc)) (T.moved fun ob hb => m2.heap S ob farw hb))
  | succ left ih =>
    intro i s1 e hs mv T
    refine codeAny_builtin
        F.entry_set_update_loop ?_
    rw [Around.under_plainId
        F.plain_set_update_loop _]
    show wpAny _ A.in1 (pyNext (.ref Iv) >>= _) _ _ s1
    refine wpAny_bind (Wk.item i s1 _ _ (by omega) hs fun v s2 hv hs2 m2 => ?_)
    obtain ⟨z, t, ez, rfl⟩ := val i v hv
    show wpAny _ A.in1 (holding [Value.str z t] (setAdd S (.str z t)) >>= _) _ _ s2
    refine wpAny_bind
        (wpAny_holding ?_)
    unfold setAdd
    refine wpAny_holding (wpAny_bind ((PySem.strKind P w).pyHash (k := z) (strKind_is P w z t) ?_))
    refine add_text (st := { s2 with toks := s2.toks + 1 }) (T.moved fun ob hb => m2.heap S ob farw hb) (by omega) fun b hp' sb T' => ?_
    have et : zs.take i ++ [z] = zs.take (i + 1) := by
      rw [List.take_add_one, ez]
      rfl
    rw [et] at T'
    have apart : ∀ b ∈ fp, b ≠ S := fun b hb hyp => far (hyp ▸ hb)
    refine wpAny_pure ⟨plainId_quiet F.plain_set_update_loop _, ih (i + 1) _ (by omega) (Wk.frame _ s2 _ _ hs2 (Nat.le_succ _) fun b hb ob eb => (sb.2 b (apart b hb)).trans eb) ?_ T'⟩
    exact Moved.trans Wk.gtrans mv ((m2.mono inc).then_heap (Nat.le_succ _) fun b ob hb eb => (sb.2 b fun hyp => hb (hyp ▸ List.mem_cons_self)).trans eb)
/-- a set as it is made -/
abbrev fresh0 (w : World) : Obj := { cls := .type "set", dict := none, data := .set #[] 0 (.fresh 0 0 (!w.params.followText "set-order")) }
theorem fresh_tx {hp : Heap} {zs : List Str} (hyp : hp.get? S = some (fresh0 w)) : SetTx P w hp S (zs.take 0) 0 := by
  refine ⟨#[], ⟨_, 0, _, hyp, ⟨rfl, rfl, rfl⟩, rfl, by decide, rfl, List.Pairwise.nil, ?_⟩, fun e he => by simp at he, by simp, fun z => by simp, Nat.le_refl _⟩
  show _ ∨ (!w.params.followText
      "set-order") = true
  cases w.params.followText "set-order" with
  | false => exact .inr rfl
  | true => exact .inl rfl
/-- what a list and a tuple have alike, to be made a set of -/
structure Src (P : Program) (w : World) (l : Addr) (items : Array Value) (T : String) (it : Obj) (Sv : Addr → Nat → Heap → Prop) (Is : Heap → Prop) : Prop where
  s1 : isSubtype (.type T) (.type "set") = pure false
  s2 : isSubtype (.type T) (.type "frozenset") = pure false
  nd : (Value.type T == Value.type "dict") = false
  beg : Begins (.ref l) it Is
  walk : ∀ (A' : Around) (Iv : Addr), A'.handled = none → l ≠ Iv → Walks P w A' Iv [Iv, l] [Iv] items.size (fun i v => items[i]? = some v) (Sv Iv)
  st0 : ∀ (Iv : Addr) (hp : Heap), Is hp → hp.get? Iv = some it → Sv Iv 0 hp
set_option maxHeartbeats 6400000 in
theorem call_set_any {l : Addr} {items : Array Value} {T : String} {it : Obj} {Sv : Addr → Nat → Heap → Prop} {Is : Heap → Prop} {zs : List Str} {Q : Value → Shared → Prop} {od : Option Addr} {dt : Data} {sl : Array (Option Value)} (src : Src P w l items T it Sv Is) (hh : A.handled = none)
    (hol : st.heap.get? l = some { cls := .type T, dict := od, data := dt, slots := sl }) (is0 : Is st.heap) (val : ∀ (i : Nat) (v : Value), items[i]? = some v → ∃ (z : Str) (t : Tok), zs[i]? = some z ∧ v = Value.str z t) (hz : zs.length = items.size) (room : items.size + 1 < scanBound)
    (cont : ∀ (hp' : Heap) (tk : Nat), SetTx P w hp' st.heap.objs.size zs items.size → (∀ b ob, st.heap.get? b = some ob → hp'.get? b = some ob) → Q (.ref st.heap.objs.size) { st with heap := hp', toks := tk }) :
    wpAny (model P w) A (call (.type "set") [.ref l]) Q Er st := by
  obtain ⟨c, tl, hmro⟩
      := F.called_set.mro
  have hmade :=
      F.called_set.made
  have hsub := F.called_set.sub
  refine wpAny_call
      (codeAny_of_tree ?_)
  show wpAny _ _ (callAny
      (.type "set") _) _ _ _
  refine wpAny_pure ⟨Code.quiet_builtin _ (by decide +kernel),
      codeAny_builtin F.entry_type_call ?_⟩
  rw [Around.under_plain (weight_type_call_type
      "set" [.ref l] []) rfl]
  have nt := F.called_set.notType
  have cc := F.called_set.canCreate
  have tc := F.typeCall_set_1 (.ref l)
  repeat (any_goals (first
      | assumption | wp_step))
  refine codeAny_mono (code_set_led1 (.ref l) (E := Er) (Q₁ := fun obj sx => obj = .ref st.heap.objs.size ∧ sx = { st with heap := st.heap.push (fresh0 w) }) ⟨rfl, rfl⟩) fun r sx hr => ?_
  cases r with
  | error e => exact hr
  | ok fl =>
    cases fl with
    | ret obj =>
      obtain ⟨rfl, rfl⟩ := hr
      have hS : (st.heap.push (fresh0 w)).get? st.heap.objs.size = some (fresh0 w) := Heap.get?_push_size _ rfl
      have hT : Shared.TypeIs { st with heap := st.heap.push (fresh0 w) } (.ref st.heap.objs.size) "set" := ⟨_, hS, rfl⟩
      have li := F.called_set.init.lookup
      have bi := F.called_set.init.bind (.ref st.heap.objs.size)
      repeat (any_goals (first
          | assumption | wp_step))
      refine codeAny_mono (codeAny_call_builtin (R := wants (fun r s₂ => r = .none ∧ ∃ hp' tk, s₂ = { st with heap := hp', toks := tk } ∧ SetTx P w hp' st.heap.objs.size zs items.size ∧ (∀ b ob, st.heap.get? b = some ob → hp'.get? b = some ob)) Er)
        F.called_set.init.plain F.entry_set_init (check_set_init_1 hT ?_)) fun r₂ s₂ hr₂ => ?_
      · have hol2 : (st.heap.push (fresh0 w)).get? l = some { cls := .type T, dict := od, data := dt, slots := sl } := Heap.get?_push_of_some _ hol
        have e1 := src.s1
        have e2 := src.s2
        have e3 := src.nd
        have is1 : Is (st.heap.push (fresh0 w)) := src.beg.keeps _ _ is0 fun b ob e => Heap.get?_push_of_some _ e
        unfold Builtin.«set.__init__» noKeywords
            Builtin.Frozenset.updateFrom
        generalize hPI : pyIter = PI
        wp_walk
        subst hPI
        refine src.beg.iter P w _ _ _ _ is1 ?_
        refine wpAny_bind
            (wpAny_runValue ?_)
        have ls : l < st.heap.objs.size := Heap.lt_size hol
        have z1 : (st.heap.push (fresh0 w)).objs.size = st.heap.objs.size + 1 := Heap.size_push ..
        have hget : ((st.heap.push (fresh0 w)).push it).get? st.heap.objs.size = some (fresh0 w) := Heap.get?_push_of_some _ hS
        have lI : l ≠ (st.heap.push (fresh0 w)).objs.size := by
          rw [z1]
          exact Nat.ne_of_lt (Nat.lt_succ_of_lt ls)
        refine loop_texts (st := { st with heap := (st.heap.push (fresh0 w)).push it }) ((src.walk _ _ (by simp [hh]) lI).toS) ?_ zs hz room val (fun s1 mv T' => ?_) items.size 0 _ (by omega) ?_ ⟨fun _ _ _ e => e, rfl, rfl, rfl, Nat.le_refl _⟩ (fresh_tx hget)
        · rw [z1]
          intro hm
          rcases List.mem_cons.mp hm with hyp | hyp
          · exact Nat.ne_of_lt (Nat.lt_succ_self _) hyp
          · exact Nat.ne_of_gt ls (List.mem_singleton.mp hyp)
        · obtain ⟨hp', g', d', tk', os'⟩ := s1
          obtain rfl : g' = st.gens := mv.gens
          obtain rfl : d' = st.drawn := mv.drawn
          obtain rfl : os' = st.os := mv.os
          show wpAny _ _ _ _ _ _
          refine wpAny_pure ?_
          show wpAny _ _ (ret
              Value.none) _ _ _
          refine wpAny_pure ⟨rfl, hp', tk', rfl, T', fun b ob e => ?_⟩
          have bl := Heap.lt_size e
          refine mv.heap b ob ?_ (Heap.get?_push_of_some _ (Heap.get?_push_of_some _ e))
          rw [z1]
          intro hm
          rcases List.mem_cons.mp hm with hyp | hyp
          · exact Nat.ne_of_lt bl hyp
          · exact Nat.ne_of_lt (Nat.lt_succ_of_lt bl) (List.mem_singleton.mp hyp)
        · exact src.st0 _ _ (src.beg.keeps _ _ is1 fun b ob e => Heap.get?_push_of_some _ e) (Heap.get?_push_size _ src.beg.free)
      · cases r₂ with
        | error e => exact hr₂
        | ok fl₂ =>
          cases fl₂ with
          | ret r =>
            obtain ⟨rfl, hp', tk, rfl, T', kp⟩ := hr₂
            repeat (any_goals (first
                | assumption | wp_step))
            exact cont hp' tk T' kp
          | _ => exact hr₂.elim
    | _ => exact hr.elim
theorem src_list (l : Addr) (items : Array Value) : Src P w l items "list" { cls := .type "list_iterator", data := .fields #[.ref l, .int 0 0] } (fun Iv i hp => hp.IsListIter Iv l i ∧ hp.IsList l items) (fun hp => hp.IsList l items) :=
  ⟨F.sub_list_set, F.sub_list_frozenset, by decide, begins_list l items, fun A' Iv hh hne => Walks.list hh Iv l hne items, fun Iv hp h1 h2 => ⟨⟨_, h2, rfl, rfl⟩, h1⟩⟩
theorem src_tuple (l : Addr) (items : Array Value) : Src P w l items "tuple" { cls := .type "tuple_iterator", data := .fields #[.ref l, .int 0 0] } (fun Iv i hp => hp.IsTupleIter Iv l i ∧ hp.IsTuple l items) (fun hp => hp.IsTuple l items) :=
  ⟨F.sub_tuple_set, F.sub_tuple_frozenset, by decide, begins_tuple l items, fun A' Iv hh hne => Walks.tuple hh Iv l hne items, fun Iv hp h1 h2 => ⟨⟨_, h2, rfl, rfl⟩, h1⟩⟩
theorem strs_of_txts : ∀ (l : List (Int × Value)), Txts P w l → StrsAre (l.map (·.2)) (l.map txt)
  | [], _ => .nil
  | e :: l, g => by
    obtain ⟨z, t, e1, _⟩ := g e List.mem_cons_self
    have cont : txt e = z := by
      unfold txt
      rw [e1]
    rw [List.map_cons, List.map_cons, e1, cont]
    exact .cons z t (strs_of_txts l fun x hx => g x (List.mem_cons_of_mem _ hx))
theorem sorted_setTx {zs : List Str} {n : Nat} {Q : Value → Shared → Prop} (T : SetTx P w st.heap S zs n) (hh : A.handled = none)
    (cont : ∀ s1 p (out : Array Value) (c : Nat) (ys : List Str), (∀ b ob, st.heap.get? b = some ob → s1.heap.get? b = some ob) → s1.gens = st.gens → s1.os = st.os → st.heap.objs.size ≤ p → s1.heap.get? p = some (seqObj "list" out c) →
      StrsAre out.toList ys → sortedS ys = true → ys.Nodup → (∀ z, z ∈ ys ↔ z ∈ zs) → ys.length ≤ n → Q (.ref p) s1) :
    wpAny (model P w) A (call (.builtin "sorted") [.ref S]) Q Er st := by
  obtain ⟨ms, ⟨ob, ep, tb, h0, hx, hd, b0, f0, r0, l0⟩, g, nd, hm, hn⟩ := T
  refine Calls.call_function_entry kind_sorted
      plain_sorted entry_sorted (args_sorted1 _) ?_
  unfold Builtin.«sorted»
  refine wpAny_bind (m := checkCount "sorted" 1 1 _) (wpAny_pure (wpAny_bind (collect_set (A := A.in1) hh ⟨ob, h0, hx.1, hd⟩ f0 b0 r0 l0 fun s1 vs k1 z1 g1 o1 pm => ?_)))
  have lv : vs.length ≤ n := by
    rw [pm.length_eq, List.length_map, Array.length_toList]
    exact hn
  have lv2 : vs.length ≤ sizeLine := by
    rw [pm.length_eq, List.length_map, Array.length_toList]
    exact fits_of_scanBound b0
  have hS : StrsAre vs (vs.map strOf) := strsAre_map vs fun v hv => by
    obtain ⟨e, he, ev⟩ := List.mem_map.mp (pm.mem_iff.mp hv)
    obtain ⟨z, t, e1, _⟩ := g e he
    exact ⟨z, t, by rw [← ev, e1]⟩
  have pk : (vs.map strOf).Perm (ms.toList.map txt) := by
    have q1 := pm.map strOf
    rw [(strs_of_txts ms.toList g).strs] at q1
    exact q1
  refine wpAny_bind (wpAny_newList ?_ lv2)
  have hL : (s1.heap.push (seqObj "list" vs.toArray 0)).get? s1.heap.objs.size = some (seqObj "list" vs.toArray 0) := Heap.get?_push_size _ rfl
  refine wpAny_bind (wpAny_holding (wpAny_call_entry PyProof.Rows.slot_list_sort ⟨_, hL, rfl⟩ PyProof.Rows.entry_list_sort
    (list_sort_treeKAny strKind_oneLt hL hS.keysOf (fun v₁ v₂ rest e => keyKind_strs (by rw [← e]; exact hS)) lv2 fun sx hp hs => ⟨_, rfl, ?_⟩) (PyProof.Rows.args_list_sort _)))
  obtain ⟨ys, y1, y2, y3⟩ := sorted_out_str hS hp hs
  obtain ⟨c, hc⟩ := sortedHeap_at (vs := vs) (out := (arrOf sx).map (·.2)) hL
  have py := y2.trans pk
  refine wpAny_pure ⟨_, rfl, cont _ s1.heap.objs.size _ c ys (fun b u e => ?_) g1 o1 z1 hc y1 y3 (py.nodup_iff.mpr nd) (fun z => by rw [py.mem_iff, hm z]) ?_⟩
  · have e1 := k1 b u e
    have lt := Heap.lt_size e1
    show (sortedHeap (s1.heap.push (seqObj "list" vs.toArray 0)) s1.heap.objs.size vs ((arrOf sx).map (·.2))).get? b = some u
    rw [sortedHeap_old (Nat.ne_of_lt lt) (by rw [size_push']; exact Nat.lt_succ_of_lt lt)]
    exact Heap.get?_push_of_some _ e1
  · rw [y2.length_eq, List.length_map]
    exact lv
end
/-! ### the rule -/
/-- sorted(set(a)), a list or a tuple of texts -/
def tSortSet (K : PySem.W.Frag) (ta : TE) : TE := fun σ H Q => ta σ H fun x H1 => ∃ (l : Addr) (zs : List Str), x = .ref l ∧ (SqL K H1 l (zs.map V.str) ∨ SqT K H1 l (zs.map V.str)) ∧ zs.length ≤ 1000 ∧
  ∀ (ys : List Str) (p : Addr), sortedS ys = true → ys.Nodup → (∀ z, z ∈ ys ↔ z ∈ zs) → ys.length ≤ zs.length → H1 p = none → Q (.ref p) (upd H1 p (.lst (ys.map V.str)))
section
variable {X : Cx}
theorem vals_get {zs : List Str} {its : List Value} (r : Vals (zs.map V.str) its) (i : Nat) (v : Value) (hyp : its[i]? = some v) : ∃ (z : Str) (t : Tok), zs[i]? = some z ∧ v = Value.str z t := by
  have hl := r.length
  rw [List.length_map] at hl
  have hi : i < zs.length := by
    rw [hl]
    exact (List.getElem?_eq_some_iff.mp hyp).1
  obtain ⟨u, hu, ru⟩ := r.get (i := i) (x := V.str zs[i]) (by rw [List.getElem?_map, List.getElem?_eq_getElem hi]; rfl)
  rw [hyp] at hu
  obtain rfl : v = u := Option.some.inj hu
  obtain ⟨t, et⟩ := ru
  exact ⟨zs[i], t, List.getElem?_eq_getElem hi, et⟩
theorem len_of {zs : List Str} {its : List Value} (r : Vals (zs.map V.str) its) : zs.length = its.toArray.size := by
  have cont := r.length
  rw [List.length_map] at cont
  rw [List.size_toArray, cont]
theorem room_of {zs : List Str} {its : List Value} (r : Vals (zs.map V.str) its) (hyp : zs.length ≤ 1000) : its.toArray.size + 1 < scanBound := by
  rw [← len_of r]
  unfold scanBound
  omega
theorem pe_sortSet {a : Expr} {ta : TE} {p p2 q2 pos : Pos} (hc : X.calm = true) (hg : Gl X "sorted") (hm : X.mg "sorted" = none) (hg2 : Gl X "set") (hm2 : X.mg "set" = none) (ha : PE X a ta) (na : starEach [a] X.env = (false, eval a X.env) :: starEach [] X.env := by rfl) :
    PE X (.Call (.Name "sorted" p) [.Call (.Name "set" p2) [a] [] q2] [] pos) (tSortSet X.K ta) := by
  refine ⟨fun pins s σ H Q Iv hyp => ?_⟩
  refine Call_ (ld_blt Iv hg hm (show bootBuiltins "sorted" = some (.builtin "sorted") by decide +kernel) (PyProof.Rows.callWith_builtin1 (PyProof.Rows.args_cons ?_ rfl) rfl rfl))
  refine Call_ (ld_blt Iv hg2 hm2 boot_set (PyProof.Rows.callWith_type1 (PyProof.Rows.args_cons (thn (ha.run pins s σ H _ Iv hyp) fun v s1 ⟨x, H1, Iv1, r1, q1⟩ => PyProof.Rows.args_nil ?_) na) na rfl))
  obtain ⟨l, zs, rfl, hq, h1, q1⟩ := q1
  cases r1
  have fin : ∀ (its : List Value), Vals (zs.map V.str) its → ∀ (hp' : Heap) (tk : Nat), SetTx X.prog X.w hp' s1.heap.objs.size zs its.toArray.size → (∀ b ob, s1.heap.get? b = some ob → hp'.get? b = some ob) →
      wpAny (model X.prog X.w) X.A (spliced (backTo pos (starEach [] X.env))) (fun vs s₂ => wpAny (model X.prog X.w) X.A (call (.builtin "sorted") (Value.ref s1.heap.objs.size :: vs)) (EP X pins σ Q) X.xe s₂) X.xe { s1 with heap := hp', toks := tk } := fun its r hp' tk T kp => by
    refine PyProof.Rows.args_nil
        ?_
    have Iv2 : Inv X pins σ H1 { s1 with heap := hp', toks := tk } := Iv1.kept kp
    have n1 : its.toArray.size = zs.length := by
      have cont := r.length
      rw [List.length_map] at cont
      rw [List.size_toArray, cont]
    rw [n1] at T
    refine sorted_setTx T (Iv1.ok.hd hc) fun s3 p' out c ys k3 g3 o3 z3 hp3 y1 y2 y3 y4 y5 => ?_
    have Iv3 := Iv2.tok tk
    have hn : H1 p' = none := Iv2.hok.fresh z3
    have big : (ys.map V.str).length ≤ sizeLine := by
      rw [List.length_map,
          sizeLine_eq]
      omega
    obtain ⟨hp4, g4, d4, t4, o4⟩ := s3
    obtain rfl : o4 = s1.os := o3
    have bare4 : AllBare g4 := by
      rw [show g4 = s1.gens from g3]
      exact Iv2.bare
    have un : Un X.fs [] H1 (upd H1 p' (.lst (ys.map V.str))) hp' hp4 := Un.laid k3 z3 hn
    have ok4 : HOk X.prog X.w (upd H1 p' (.lst (ys.map V.str))) hp4 := Iv2.hok.laid k3 z3 ⟨big, out.toList, c, vals_of_strs y1, hp3⟩
    exact ⟨.ref p', _, L2.Inv.call (s := { s1 with heap := hp', toks := tk }) Iv2 (ch := []) (Un.laid k3 z3 hn) ok4 bare4 (fun _ z => nomatch z), rfl, q1 ys p' y2 y3 y4 y5 hn⟩
  rcases hq with hq | hq
  · obtain ⟨its, r, pl, hz⟩ := Iv1.list hq
    obtain ⟨⟨c0, d0, dt0, sl0⟩, ho, hc0, n0, hd0⟩ := pl.isList
    obtain rfl : c0 = Value.type "list" := hc0
    exact call_set_any (src_list l its.toArray) (Iv1.ok.hd hc) ho pl.isList (fun i v hv => vals_get r i v (by simpa using hv)) (len_of r) (room_of r h1) fun hp' tk T kp => fin its r hp' tk T kp
  · obtain ⟨its, r, pl, hz⟩ := Iv1.tuple hq
    obtain ⟨⟨c0, d0, dt0, sl0⟩, ho, hc0, n0, hd0⟩ := id pl
    obtain rfl : c0 = Value.type "tuple" := hc0
    exact call_set_any (src_tuple l its.toArray) (Iv1.ok.hd hc) ho pl (fun i v hv => vals_get r i v (by simpa using hv)) (len_of r) (room_of r h1) fun hp' tk T kp => fin its r hp' tk T kp
end
end TxS
namespace K1
open PySem PySem.Spec PyProof.Rows L2 EnT StX SmX TxS
/-! ### errors of the program -/
structure ErrC (K : PySem.W.Frag) (mg : Str → Option Value) (x f : Str) (C fI : Addr) : Prop where
  g : mg x = some (.ref C)
  ox : OexC K C
  no : PySem.W.findIn K (.ref C) f = some none
  ini : PySem.W.findIn K (.ref C) "__init__" = some (some (.ref fI))
  ty : PySem.W.typeIn K (.ref fI) = some (.type "function")
/-- an error of the class at C with one field, let go from the heap H -/
def ErrAt (C : Addr) (f : Str) (v : V) (H : Hp) (E : XK) : Prop := ∀ (d : Addr) (H' : Hp), Same H H' → H' d = none → E (.ref C) (some d) (upd H' d (.xd [(f, v)]))
def spErr (C : Addr) (f : Str) : Sp := fun vs H Q _ => ∃ (a : Addr) (v : V), vs = [.ref a, v] ∧ H a = some (exo a C none) ∧ ∀ d, H d = none → d ≠ a → Q .non (upd (upd H d (exd d [(f, v)])) a (exo a C (some d)))
theorem raise_heap {H : Hp} {a d : Addr} {o1 o2 o3 o4 : HO} (n : H a = none) (hd : d ≠ a) : upd (del (upd (upd (upd H a o1) d o2) a o3) a) d o4 = upd H d o4 := by
  funext b
  by_cases h1 : b = d
  · rw [h1, upd_same, upd_same]
  · rw [upd_ne h1, upd_ne h1]
    by_cases h2 : b = a
    · rw [h2, del_same, n]
    · rw [del_ne h2, upd_ne h2, upd_ne h1, upd_ne h2]
section
variable {w : World} {P : Program}
variable {base : Heap} {mg : Str → Option Value} {K : PySem.W.Frag}
theorem scErrN : FnScope ["self", "index"] ["self", "index"] (defScope sErrNames) := ⟨rfl, rfl, rfl, by decide +kernel, rfl, by decide +kernel, by decide +kernel⟩
theorem scErrT : FnScope ["self", "value"] ["self", "value"] (defScope sErrText) := ⟨rfl, rfl, rfl, by decide +kernel, rfl, by decide +kernel, by decide +kernel⟩
theorem ok_errN {f C fI : Addr} {fd : FuncData} (F : Fun K "__init__" "InvalidNames.__init__" sErrNames f fd) (T : ErrC K mg "InvalidNames" "index" C fI) : FnOk P w K mg base CX0 1 f fd ["self", "index"] (spErr C "index") := by
  refine F.ok scErrN (fun vs H Q E h => ?_) (fun cdv A outer s H vs Q E hr h => ?_)
  · obtain ⟨a, v, rfl, _⟩ := h
    rfl
  · obtain ⟨a, v, rfl, ha, q⟩ := h
    exact ⟨_, pss_one (ps_ost (pv 0) (pv 1)), _, rfl, _, rfl, a, C, rfl, T.ox, T.no, .inl ⟨ha, fun d nd ne => q d nd ne⟩⟩
theorem ok_errT {f C fI : Addr} {fd : FuncData} (F : Fun K "__init__" "InvalidText.__init__" sErrText f fd) (T : ErrC K mg "InvalidText" "value" C fI) : FnOk P w K mg base CX0 1 f fd ["self", "value"] (spErr C "value") := by
  refine F.ok scErrT (fun vs H Q E h => ?_) (fun cdv A outer s H vs Q E hr h => ?_)
  · obtain ⟨a, v, rfl, _⟩ := h
    rfl
  · obtain ⟨a, v, rfl, ha, q⟩ := h
    exact ⟨_, pss_one (ps_ost (pv 0) (pv 1)), _, rfl, _, rfl, a, C, rfl, T.ox, T.no, .inl ⟨ha, fun d nd ne => q d nd ne⟩⟩
end
/-! ### Members -/
def flds (t d : Addr) : List (Str × V) := putF "_table" (.ref d) (putF "_names" (.ref t) [])
def tabOf (zs : List Str) : List (Key × V) := zs.map fun z => (Sum.inr z, V.bl true)
structure MemAt (C : Addr) (H : Hp) (p : Addr) (zs : List Str) : Prop where
  at_ : ∃ dx t d, H p = some (.ins C dx (flds t d)) ∧ H t = some (.tup (zs.map V.str)) ∧ H d = some (.dK (tabOf zs))
  srt : sortedS zs = true
  nd : zs.Nodup
  few : zs.length ≤ 1000
  nm : ∀ z ∈ zs, nameB z = true
theorem MemAt.same {C : Addr} {H H' : Hp} {p : Addr} {zs : List Str} (s : Same H H') (m : MemAt C H p zs) : MemAt C H' p zs := by
  obtain ⟨⟨dx, t, d, h1, h2, h3⟩, a, b, c, e⟩ := m
  exact ⟨⟨dx, t, d, s _ _ h1, s _ _ h2, s _ _ h3⟩, a, b, c, e⟩
/-- what Members(..) gives: new Members of these texts -/
def Makes (C : Addr) (zs : List Str) (H : Hp) (Q : VK) : Prop := ∀ (p : Addr) (ys : List Str) (H' : Hp), H p = none → Same H H' → (∀ z, z ∈ ys ↔ z ∈ zs) → MemAt C H' p ys → Q (.ref p) H'
structure MemC (K : PySem.W.Frag) (mg : Str → Option Value) (C : Addr) : Prop where
  g : mg "Members" = some (.ref C)
  cl : Cls K C
  nN : NoAttr K C "_names"
  nT : NoAttr K C "_table"
/-- __init__, its names a tuple at t -/
def spInit0 (K : PySem.W.Frag) (C CN : Addr) : Sp := fun vs H Q E => ∃ (p t dx : Addr) (xs : List V), vs = [.ref p, .ref t] ∧ H p = some (.ins C dx []) ∧ SqT K H t xs ∧ (∀ v ∈ xs, VOk H v) ∧ xs.length ≤ 1000 ∧
  (∀ i, wrongIx xs = some i → ErrAt CN "index" (.int i) H E) ∧ (wrongIx xs = none → ∀ zs : List Str, xs = zs.map V.str → ∀ (ys : List Str) (H' : Hp), (∀ b o, b ≠ p → H b = some o → H' b = some o) → (∀ z, z ∈ ys ↔ z ∈ zs) → MemAt C H' p ys → Q .non H')
theorem all_texts : ∀ {xs : List V}, wrongIx xs = none → ∃ zs : List Str, xs = zs.map V.str
  | [], _ => ⟨[], rfl⟩
  | x :: r, h => by
    unfold wrongIx at h
    rw [List.findIdx?_eq_none_iff] at h
    have hr : wrongIx r = none := by
      unfold wrongIx
      rw [List.findIdx?_eq_none_iff]
      exact fun y hy => h y (List.mem_cons_of_mem _ hy)
    obtain ⟨zs, e⟩ := all_texts hr
    have hx := h x List.mem_cons_self
    cases x with
    | str z => exact ⟨z :: zs, by rw [e]; rfl⟩
    | _ => simp [nameV] at hx
theorem names_ok {zs : List Str} (h : wrongIx (zs.map V.str) = none) : ∀ z ∈ zs, nameB z = true := fun z hz => by
  unfold wrongIx at h
  rw [List.findIdx?_eq_none_iff] at h
  simpa [nameV] using h (V.str z) (List.mem_map.mpr ⟨z, hz, rfl⟩)
section
variable {w : World} {P : Program}
variable {base : Heap} {mg : Str → Option Value} {K : PySem.W.Frag}
theorem kNT : ¬ (("_names" : Str) = "_table") := by decide +kernel
theorem look_names (u : Addr) : (putF "_names" (V.ref u) []).lookup ("_names" : Str) = some (.ref u) := by
  rw [lookup_putF, if_pos rfl]
theorem tab_none {zs : List Str} {z : Str} (h : z ∉ zs) : valV (tabOf zs) (Sum.inr z : Key) = none := by
  induction zs with
  | nil => rfl
  | cons a r ih =>
    have ha : ¬ a = z := fun e => h (e ▸ List.mem_cons_self)
    show valV ((Sum.inr a, V.bl true) :: tabOf r) (Sum.inr z : Key) = none
    rw [valV_neg (fun e => ha (Sum.inr.inj e))]
    exact ih fun m => h (List.mem_cons_of_mem _ m)
theorem take_nodup_none {ys : List Str} {i : Nat} {z : Str} (nd : ys.Nodup) (h : ys[i]? = some z) : z ∉ ys.take i := by
  intro m
  obtain ⟨ltX, e⟩ := List.getElem?_eq_some_iff.mp h
  obtain ⟨j, hj, ej⟩ := List.mem_iff_getElem.mp m
  rw [List.length_take] at hj
  rw [List.getElem_take] at ej
  have := (List.getElem_inj nd).mp (ej.trans e.symm)
  omega
abbrev nmInit : List Str := ["self", "names", "at", "name"]
theorem scInit : FnScope nmInit ((["self"] : List Str) ++ (["names"] : List Str)) (defScope sInit) := ⟨rfl, rfl, rfl, by decide +kernel, rfl, by decide +kernel, by decide +kernel⟩
theorem ok_init {f fW fE C CN : Addr} {fd fdW fdE : FuncData} (F : Fun K "__init__" "Members.__init__" sInit f fd) (T : Free mg) (M : MemC K mg C) (GW : FnOk P w K mg base CX0 2 fW fdW ["values"] (spWrongT K)) (FW : Fun K "wrong_at" "wrong_at" sWrong fW fdW) (mgW : mg "wrong_at" = some (.ref fW))
    (EN : ErrC K mg "InvalidNames" "index" CN fE) (FE : Fun K "__init__" "InvalidNames.__init__" sErrNames fE fdE) :
    FnR P w K mg base (L2.CX P w) 4 f (fun vs H Q E => ∃ ws rest, vs = ws ++ rest ∧ ws.length = (["self"] : List Str).length ∧ rest.length ≤ sizeLine ∧ ∀ p, H p = Option.none → spInit0 K C CN (ws ++ [V.ref p]) (upd H p (.tup rest)) Q E) := by
  have bW : Binds K fdW ["values"] [] := FW.binds (ps := ["values"]) fun _ _ _ _ _ _ us hl => match us, hl with | [_], _ => rfl
  have bE : Binds K fdE ["self", "index"] [] := FE.binds (ps := ["self", "index"]) fun _ _ _ _ _ _ us hl => match us, hl with | [_, _], _ => rfl
  have GE : FnOk P w K mg base CX0 1 fE fdE ["self", "index"] (spErr CN "index") := ok_errN FE EN
  obtain ⟨oc, oD, kV, doc, pm, an, cdv, ct, osl, rfl, lk, hcd⟩ := F.ex
  refine fn_star (ps := ["self"]) (pv := "names") (sp := spInit0 K C CN) lk hcd scInit cxUp (bind_star1 (B := fun us => bindArgs (PySem.W.fnOf "__init__" "Members.__init__" (defArgs sInit) (defBody sInit) (defScope sInit) .none kV doc pm an cdv ct) ⟨us, []⟩) (p1 := "self") (pv := "names") (fun a => rfl) fun a r rs => rfl) fun A outer s H vs Q E hr h => ?_
  obtain ⟨p, t, dx, xs, rfl, hp, hS, hv, hl, qE, q⟩ := h
  refine ⟨_, pss_cons (ps_set (i := 2) scInit.nd rfl (.inl rfl) (pe_call GW (hr.mono (by decide)) rfl mgW FW.kp bW .nil pass0 (pa_cons (pv 1) pa_nil)))
    (pss_cons (ps_if (pt_cmp (pc_notN (pv 2))) (pss_one (ps_raise rfl (takes_of rfl rfl rfl rfl) (pmk_oex EN.ox EN.ini EN.ty GE (hr.mono (by decide)) bE .nil pass0 rfl EN.g (pa_cons (pv 2) pa_nil)))) pss_nil)
    (pss_cons (ps_fld (pv 0) (pe_callTy call_tuple_of (by rfl) T.tuple (by decide +kernel) (pa_cons (pe_sortSet rfl (by rfl) T.sorted (by rfl) T.set (pv 1)) pa_nil)) rfl)
    (pss_one (ps_fld (pv 0) (pe_dc (own := [("name", 3)]) (g := gName 3) (tt := tYes) rfl scInit.nd (pi_tup (pe_fld (pv 0) rfl)) (blkOk_by (own := [("name", 3)]) (N := nmInit) (sc := defScope sInit) (by decide +kernel)) (fun _ _ _ _ _ => pg_name (i := 3) scInit.nd rfl (Or.inl rfl)) (fun _ _ _ _ _ => pts_nil) (fun _ _ _ _ _ => pv 3) (fun _ _ _ _ _ => pe_bl)) rfl)))), ?_⟩
  refine ⟨_, rfl, t, xs, rfl, hS, hv, fun H1 sm => ?_⟩
  refine ⟨_, rfl, _, rfl, ?_⟩
  cases hw : wrongIx xs with
  | some i =>
    refine iteT ?_
    refine ⟨_, rfl, (by show 1 ≤ 1000; decide), fun a na => ⟨a, _, rfl, upd_same, fun d nd ne => ⟨rfl, d, [("index", .int i)], upd_same, ?_, ?_, ?_⟩⟩⟩
    · rw [upd_ne ne, upd_same]
      rfl
    · rw [upd_ne ne] at nd
      exact nd
    · rw [raise_heap na ne]
      rw [upd_ne ne] at nd
      exact qE i hw d H1 sm nd
  | none =>
    refine iteF ?_
    obtain ⟨zs, rfl⟩ := all_texts hw
    have hS1 : SqT K H1 t (zs.map V.str) := sameT sm hS
    have hp1 := sm _ _ hp
    refine ⟨_, rfl, t, zs, rfl, .inr hS1, by rw [List.length_map] at hl; exact hl, fun ys l y1 y2 y3 y4 nl => ?_⟩
    refine ⟨l, _, rfl, .inl ⟨SqL.of upd_same, fun u nu => ?_⟩⟩
    have nu1 : H1 u = none := by
      by_cases e : u = l
      · rw [e, upd_same] at nu
        cases nu
      · rw [upd_ne e] at nu
        exact nu
    have pu : p ≠ u := ne_of_none hp1 nu1
    have pl : p ≠ l := ne_of_none hp1 nl
    have s1 : Same H1 (upd H1 l (.lst (ys.map V.str))) := same_upd nl
    have s2 : Same (upd H1 l (.lst (ys.map V.str))) (upd (upd H1 l (.lst (ys.map V.str))) u (.tup (ys.map V.str))) := same_upd nu
    refine ⟨_, rfl, p, C, dx, [], rfl, s2 _ _ (s1 _ _ hp1), M.cl, M.nN, (by show 0 < 1000; decide), ?_⟩
    generalize e4 : upd (upd (upd H1 l _) u _) p _ = H4
    have h4p : H4 p = some (.ins C dx (putF "_names" (.ref u) [])) := by
      rw [← e4]
      exact upd_same
    have h4u : H4 u = some (.tup (ys.map V.str)) := by
      rw [← e4, upd_ne (Ne.symm pu)]
      exact upd_same
    have kp : ∀ b o, b ≠ p → H b = some o → H4 b = some o := fun b o n z => by
      rw [← e4, upd_ne n]
      exact s2 _ _ (s1 _ _ (sm _ _ z))
    clear e4
    refine ⟨_, rfl, p, C, dx, _, _, rfl, h4p, M.cl, M.nN, look_names u, u, rfl, ⟨_, SqT.of h4u⟩, fun D nD => ?_⟩
    have Dp : D ≠ p := fun e => by
      rw [e, h4p] at nD
      cases nD
    have Du : D ≠ u := fun e => by
      rw [e, h4u] at nD
      cases nD
    have few : ys.length ≤ 1000 := Nat.le_trans y4 (by rw [List.length_map] at hl; exact hl)
    refine dc_tup (K := K) (a := u) (xs := ys.map V.str) (fun i H' => (∀ b o, b ≠ D → H4 b = some o → H' b = some o) ∧ H' D = some (.dK (tabOf (ys.take i)))) ?_ ?_ ?_ ?_
    · exact ⟨fun b o n z => by rw [upd_ne n]; exact z, upd_same⟩
    · rintro i H' ltX ⟨k, hD⟩
      exact SqT.of (k _ _ (Ne.symm Du) h4u)
    · rintro i x H' hx ⟨k, hD⟩
      rw [List.getElem?_map] at hx
      obtain ⟨z, ez, rfl⟩ := Option.map_eq_some_iff.mp hx
      have ltX : i < ys.length := (List.getElem?_eq_some_iff.mp ez).1
      refine ⟨rfl, ?_⟩
      refine ⟨_, rfl, tabOf (ys.take i), Sum.inr z, rfl, hD, ?_, ?_, ?_⟩
      · unfold tabOf
        rw [List.length_map, List.length_take]
        exact small1000 (by omega)
      · intro b o n q2
        rw [upd_ne n]
        exact k b o n q2
      · rw [upd_same, putK_new _ (tab_none (take_nodup_none y2 ez))]
        unfold tabOf
        rw [List.take_add_one, ez, List.map_append]
        rfl
    · rintro H' ⟨k, hD⟩
      rw [List.length_map, List.take_length] at hD
      refine ⟨_, rfl, p, C, dx, _, rfl, k _ _ (Ne.symm Dp) h4p, M.cl, M.nT, (by rw [show (putF "_names" (V.ref u) []).length = 1 from rfl]; decide), ?_⟩
      refine q hw zs rfl ys _ (fun b o n z => ?_) y3 ⟨⟨dx, u, D, upd_same, ?_, ?_⟩, y1, y2, few, fun z hz => names_ok hw z ((y3 z).mp hz)⟩
      · rw [upd_ne n]
        exact k b o (fun e => by rw [e] at z; have := kp D o (e ▸ n) z; rw [nD] at this; cases this) (kp b o n z)
      · rw [upd_ne (Ne.symm pu)]
        exact k _ _ (Ne.symm Du) h4u
      · rw [upd_ne Dp]
        exact hD
end
end K1
/-! str(o), repr(o), len(o), bool(o), v in o, o == v, o != v by an own class's methods -/
namespace DuX
open PySem PySem.Spec
open PyProof.Rows L2
section
variable {X : Cx} {CX : CXT} {k : Nat} {g C : Addr} {sp : Sp} {Ek : XK} {pins : List (Addr × Obj)} {σ : L2.St} {H : Hp} {s : Shared}
/-- a method is run somewhere below the body that runs -/
theorem run_below {A : Around} {valsU : List Value} {vs : List V} {Q : VK} (F : FnR X.prog X.w X.K X.mg X.base CX k g sp) (hr : Room k A) (hf : A.frames = X.A.frames) (hx : Passes CX X Ek) (Iv : Inv X pins σ H s) (r : Vals vs valsU) (hyp : sp vs H Q Ek) :
    wpAny (model X.prog X.w) A (call (.ref g) valsU) (EP X pins σ Q) X.xe s := by
  have e0 : Env0 X.prog X.w X.K
      X.mg X.base A X.stack s H := by
    obtain ⟨a1, a2, a3, a4, a5, a6, a7, a8⟩ := Iv.env0
    exact ⟨by rw [hf]; exact a1, a2, a3, a4, a5, a6, a7, a8⟩
  refine wpAny_call (codeAny_mono (F A X.stack s H valsU vs Q Ek hr e0 r hyp) fun res s1 hq => ?_)
  match res, hq with
  | .error e, hq => exact hx pins σ H s e s1 Iv hq
  | .ok (.ret u), hq => exact Iv.after hq
  | .ok .next, hq => exact False.elim hq
  | .ok .brk, hq => exact False.elim hq
  | .ok .cont, hq => exact False.elim hq
/-- the class at C has the method m, at g -/
structure OwnM (K : PySem.W.Frag) (C : Addr) (m : Str) (g : Addr) : Prop where
  at_ : PySem.W.findIn K (.ref C) m = some (some (.ref g))
  fn : PySem.W.isFn
      K (.ref g) = true
theorem inst_of {a dx : Addr} {fs : List (Str × V)} (Iv : Inv X pins σ H s) (hyp : H a = some (.ins C dx fs)) : ∃ ox od, PySem.W.InstAt s.heap a ox C (some od) := by
  obtain ⟨mA, O, _⟩ := ins_get Iv.hok hyp
  obtain ⟨od, J, _⟩ := O.look
  exact ⟨_, od, J⟩
/-- str(o) -/
theorem call_strO (m : OwnM X.K C "__str__" g) (F : FnR X.prog X.w X.K X.mg X.base CX k g sp) (hr : Room (k + 2) X.A) (hx : Passes CX X Ek) :
    CallR X (.type "str") (fun xs H Q => ∃ a dx fs, xs = [.ref a] ∧ H a = some (.ins C dx fs) ∧ sp [.ref a] H (fun v H' => ∃ z, v = .str z ∧ Q (.str z) H') Ek) := by
  intro pins s σ H xs valsU Q Iv r hyp
  obtain ⟨a, dx, fs, rfl, atA, cont⟩ := hyp
  rw [Vals.ref1 r]
  obtain ⟨ox, od, J⟩ := inst_of Iv atA
  refine PySem.W.kso_call hr.in1.in1.units0 Iv.kIn J m.at_ m.fn ?_
  refine wpAny_mono (run_below F hr.in1.in1 rfl hx Iv (vs := [V.ref a]) (.cons rfl .nil) cont) (fun u s1 hu => ?_) fun _ _ e => e
  obtain ⟨v, H1, Iv1, rv, z, rfl, q1⟩ := hu
  obtain ⟨t, rfl⟩ := rv
  exact ⟨.str z, H1, Iv1, ⟨t, rfl⟩, q1⟩
/-- repr(o) -/
theorem call_reprO (m : OwnM X.K C "__repr__" g) (F : FnR X.prog X.w X.K X.mg X.base CX k g sp) (hr : Room (k + 1) X.A) (hx : Passes CX X Ek) :
    CallR X (.builtin "repr") (fun xs H Q => ∃ a dx fs, xs = [.ref a] ∧ H a = some (.ins C dx fs) ∧ sp [.ref a] H (fun v H' => ∃ z, v = .str z ∧ Q (.str z) H') Ek) := by
  intro pins s σ H xs valsU Q Iv r hyp
  obtain ⟨a, dx, fs, rfl, atA, cont⟩ := hyp
  rw [Vals.ref1 r]
  obtain ⟨ox, od, J⟩ := inst_of Iv atA
  obtain ⟨mm, hF⟩ := Iv.fr
  refine PySem.W.repr_K hr.in1.units0 hF Iv.ok.mod.kin J m.at_ m.fn ?_
  refine wpAny_mono (run_below F hr.in1 rfl hx Iv (vs := [V.ref a]) (.cons rfl .nil) cont) (fun u s1 hu => ?_) fun _ _ e => e
  obtain ⟨v, H1, Iv1, rv, z, rfl, q1⟩ := hu
  obtain ⟨t, rfl⟩ := rv
  exact ⟨.str z, H1, Iv1, ⟨t, rfl⟩, q1⟩
/-- len(o) -/
theorem call_lenO (m : OwnM X.K C "__len__" g) (F : FnR X.prog X.w X.K X.mg X.base CX k g sp) (hr : Room (k + 1) X.A) (hx : Passes CX X Ek) :
    CallR X (.builtin "len") (fun xs H Q => ∃ a dx fs, xs = [.ref a] ∧ H a = some (.ins C dx fs) ∧ sp [.ref a] H (fun v H' => ∃ n : Nat, v = .int n ∧ n < 2 ^ 62 ∧ Q (.int n) H') Ek) := by
  intro pins s σ H xs valsU Q Iv r hyp
  obtain ⟨a, dx, fs, rfl, atA, cont⟩ := hyp
  rw [Vals.ref1 r]
  obtain ⟨ox, od, J⟩ := inst_of Iv atA
  obtain ⟨mm, hF⟩ := Iv.fr
  refine PySem.W.len_K hF Iv.ok.mod.kin J m.at_ m.fn ?_
  refine wpAny_mono (run_below F hr.in1 rfl hx Iv (vs := [V.ref a]) (.cons rfl .nil) cont) (fun u s1 hu => ?_) fun _ _ e => e
  obtain ⟨v, H1, Iv1, rv, n, rfl, hn, q1⟩ := hu
  obtain ⟨t, rfl⟩ := rv
  exact ⟨⟨by omega, by omega⟩, .int n, H1, Iv1.tok _, ⟨_, rfl⟩, q1⟩
/-- v in o -/
theorem op_inO (m : OwnM X.K C "__contains__" g) (F : FnR X.prog X.w X.K X.mg X.base CX k g sp) (hr : Room k X.A) (hx : Passes CX X Ek) :
    OpR X (compareOp .In) (fun x y H Q => ∃ a dx fs, y = .ref a ∧ H a = some (.ins C dx fs) ∧ sp [.ref a, x] H (fun v H' => ∃ b, v = .bl b ∧ Q (.bl b) H') Ek) := by
  intro pins s σ H x y u v Q Iv rx ry hyp
  obtain ⟨a, dx, fs, rfl, atA, cont⟩ := hyp
  cases ry
  obtain ⟨ox, od, J⟩ := inst_of Iv atA
  obtain ⟨mm, hF⟩ := Iv.fr
  refine PySem.W.in_K hF Iv.ok.mod.kin J m.at_ m.fn ?_
  refine wpAny_mono (run_below F hr rfl hx Iv (vs := [V.ref a, x]) (.cons rfl (.cons rx .nil)) cont) (fun u' s1 hu => ?_) fun _ _ e => e
  obtain ⟨v', H1, Iv1, rv, b, rfl, q1⟩ := hu
  cases rv
  exact wpAny_truthy_bool ⟨.bl b, H1, Iv1, rfl, q1⟩
/-- o == v: the own method answers with a truth value -/
theorem rc_eq {A : Around} {a dx : Addr} {fs : List (Str × V)} {y : V} {u t : Value} {Q : Bool → Hp → Prop} (m : OwnM X.K C "__eq__" g) (F : FnR X.prog X.w X.K X.mg X.base CX k g sp) (hr : Room k A) (hf : A.frames = X.A.frames) (hx : Passes CX X Ek) (Iv : Inv X pins σ H s) (atA : H a = some (.ins C dx fs))
    (ry : RelV y u) (ty : ∀ M : Model, PySem.W.Looks M s.heap (typeOf u) t) (nf : PySem.W.notFirst X.K C t = true) (cont : sp [.ref a, y] H (fun v H' => ∃ b, v = .bl b ∧ Q b H') Ek) :
    wpAny (model X.prog X.w) A (richCompare .Eq (.ref a) u) (fun r s1 => ∃ b, r = .bool b ∧ ∃ H', Inv X pins σ H' s1 ∧ Q b H') X.xe s := by
  obtain ⟨ox, od, J⟩ := inst_of Iv atA
  obtain ⟨mm, hF⟩ := Iv.fr
  refine PySem.W.cmp_K (op := .Eq) hr.units0 hF Iv.ok.mod.kin J (ty _) nf m.at_ m.fn ?_
  refine wpAny_mono (run_below F hr hf hx Iv (vs := [V.ref a, y]) (.cons rfl (.cons ry .nil)) cont) (fun w s1 hu => ?_) fun _ _ e => e
  obtain ⟨v, H1, Iv1, rv, b, rfl, q1⟩ := hu
  cases rv
  exact ⟨b, rfl, H1, Iv1, q1⟩
theorem op_eqO (m : OwnM X.K C "__eq__" g) (F : FnR X.prog X.w X.K X.mg X.base CX k g sp) (hr : Room k X.A) (hx : Passes CX X Ek) :
    OpR X (compareOp .Eq) (fun x y H Q => ∃ a dx fs t, x = .ref a ∧ H a = some (.ins C dx fs) ∧ (∀ pins σ s u, Inv X pins σ H s → RelV y u → ∀ M : Model, PySem.W.Looks M s.heap (typeOf u) t) ∧ PySem.W.notFirst X.K C t = true ∧ sp [.ref a, y] H (fun v H' => ∃ b, v = .bl b ∧ Q (.bl b) H') Ek) := by
  intro pins s σ H x y u v Q Iv rx ry hyp
  obtain ⟨a, dx, fs, t, rfl, atA, ty, nf, cont⟩ := hyp
  cases rx
  refine wpAny_mono (rc_eq (Q := fun b H' => Q (.bl b) H') m F hr rfl hx Iv atA ry (ty pins σ s _ Iv ry) nf cont) (fun r s1 z => ?_) fun _ _ e => e
  obtain ⟨b, rfl, H1, Iv1, q1⟩ := z
  exact ⟨.bl b, H1, Iv1, rfl, q1⟩
/-- a special method that is a built-in's -/
theorem bound_bi {M : Model} {A : Around} {E : Value → Shared → Prop} {a : Addr} {ox : Obj} {od : Option Obj} {name : Str} {id : String} {args : List Value} {Q : Option Value → Shared → Prop} {Kf : PySem.W.Frag} (kin : Kf.In s.heap) (J : PySem.W.InstAt s.heap a ox C od) (hs : PySem.W.findIn Kf (.ref C) name = some (some (.builtin id)))
    (hb : ∀ self, bindSpecial (.builtin id) self = pure (.builtin id, [self])) (hyp : wpAny M A (call (.builtin id) (.ref a :: args)) (fun v => Q (some v)) E s) : wpAny M A (callSpecialIfBound? (.ref a) name args) Q E s := by
  simp only [callSpecialIfBound?,
      bindSpecialIfBound?]
  refine wpAny_holding (wpAny_bind (wpAny_bind (wpAny_bind (J.type.here ((PySem.W.looks_findIn kin hs).here ?_)))))
  have go : wpAny M A (call (.builtin id) ([.ref a] ++ args) >>= fun v => pure (some v)) Q E s := wpAny_bind (wpAny_mono hyp (fun v s1 z => wpAny_pure z) fun _ _ z => z)
  refine wpAny_bind (wpAny_askSetting
      (wpAny_ite ?_))
  split
  · exact wpAny_bind ((PySem.W.Looks.of_pure (hb _)).here (wpAny_pure go))
  · exact wpAny_tryCatch (wpAny_bind ((PySem.W.Looks.of_pure (hb _)).here (wpAny_pure go)))
/-- object.__ne__(o, v), where o's class has its own == -/
theorem one_ne {A : Around} {a dx : Addr} {fs : List (Str × V)} {y : V} {u : Value} {Q : Bool → Hp → Prop} (m : OwnM X.K C "__eq__" g) (hm : PySem.W.mroIn X.K C (.type "object") = some true) (F : FnR X.prog X.w X.K X.mg X.base CX k g sp) (hr : Room (k + 1) A) (hf : A.frames = X.A.frames) (hx : Passes CX X Ek) (Iv : Inv X pins σ H s) (atA : H a = some (.ins C dx fs))
    (ry : RelV y u) (cont : sp [.ref a, y] H (fun v H' => ∃ b, v = .bl b ∧ Q b H') Ek) :
    wpAny (model X.prog X.w) A (call (.builtin "object.__ne__") [.ref a, u]) (fun r s1 => ∃ b, r = .bool (!b) ∧ ∃ H', Inv X pins σ H' s1 ∧ Q b H') X.xe s := by
  obtain ⟨ox, od, J⟩ := inst_of Iv atA
  refine wpAny_call (codeAny_call_builtin PySem.F.slot_object_ne.plain PySem.F.cmpEntry_ne (PySem.W.check_slot (i := "object.__ne__") (owner := "object") (n := "__ne__") (by decide +kernel) (by decide +kernel) (J.type.andThen (PySem.W.looks_mroIn Iv.kIn hm)) (PySem.F.cmpArgs_ne _ _) ?_))
  unfold
    Builtin.«object.__ne__»
  refine wpAny_bind (m := slotArgs "__ne__" 1 _) (wpAny_pure ?_)
  refine wpAny_bind (m := cRoomFor _ _) (wpAny_cRoomFor hr.in1.units0 ?_)
  refine wpAny_bind (m := callSpecialIfBound? (.ref a) (Str.ofString "__eq__") _) (PySem.W.ifBound_K Iv.kIn J m.at_ m.fn ?_)
  refine wpAny_mono (run_below F hr.in1 hf hx Iv (vs := [V.ref a, y]) (.cons rfl (.cons ry .nil)) cont) (fun w s1 hu => ?_) fun _ _ e => e
  obtain ⟨v, H1, Iv1, rv, b, rfl, q1⟩ := hu
  cases rv
  refine wpAny_bind (wpAny_truthy_bool ?_)
  exact wpAny_pure ⟨_, rfl, H1, Iv1, q1⟩
theorem rc_ne {A : Around} {a dx : Addr} {fs : List (Str × V)} {y : V} {u t : Value} {Q : Bool → Hp → Prop} (m : OwnM X.K C "__eq__" g) (hn : PySem.W.findIn X.K (.ref C) "__ne__" = some (some (.builtin "object.__ne__"))) (hm : PySem.W.mroIn X.K C (.type "object") = some true) (F : FnR X.prog X.w X.K X.mg X.base CX k g sp) (hr : Room (k + 1) A) (hf : A.frames = X.A.frames)
    (hx : Passes CX X Ek) (Iv : Inv X pins σ H s) (atA : H a = some (.ins C dx fs)) (ry : RelV y u) (ty : ∀ M : Model, PySem.W.Looks M s.heap (typeOf u) t) (nf : PySem.W.notFirst X.K C t = true) (cont : sp [.ref a, y] H (fun v H' => ∃ b, v = .bl b ∧ Q b H') Ek) :
    wpAny (model X.prog X.w) A (richCompare .NotEq (.ref a) u) (fun r s1 => ∃ b, r = .bool (!b) ∧ ∃ H', Inv X pins σ H' s1 ∧ Q b H') X.xe s := by
  obtain ⟨ox, od, J⟩ := inst_of Iv atA
  have one : wpAny (model X.prog X.w) A (tryCompare (.ref a) (cmpInfo .NotEq).2.1 u) (fun r s1 => ∃ b, r = some (.bool (!b)) ∧ ∃ H', Inv X pins σ H' s1 ∧ Q b H') X.xe s := by
    unfold tryCompare
    refine wpAny_bind (bound_bi Iv.kIn J hn PySem.F.slot_object_ne.bind (wpAny_mono (one_ne m hm F hr hf hx Iv atA ry cont) (fun r s1 z => ?_) fun _ _ e => e))
    obtain ⟨b, rfl, z⟩ := z
    exact wpAny_pure ⟨b, rfl, z⟩
  unfold richCompare
  simp only [oneThing_ref]
  refine wpAny_holding (wpAny_bind (wpAny_cRoomFor hr.units0 ?_))
  refine wpAny_bind (J.type.here (wpAny_bind ((ty _).here ?_)))
  split
  · rename_i z
    have e : PySem.W.subIn X.K t (.ref C) = some false := by
      rcases Bool.or_eq_true_iff.mp nf with e | e
      · rw [beq_iff_eq.mp e] at z
        simp at z
      · exact beq_iff_eq.mp e
    refine wpAny_bind ((PySem.W.looks_subIn Iv.kIn e).here ?_)
    simp only [Bool.false_eq_true,
        if_false]
    refine wpAny_bind (wpAny_mono one (fun r s1 zz => ?_) fun _ _ e => e)
    obtain ⟨b, rfl, zz⟩ := zz
    exact wpAny_pure ⟨b, rfl, zz⟩
  · refine wpAny_bind
        (wpAny_pure ?_)
    simp only [Bool.false_eq_true,
        if_false]
    refine wpAny_bind (wpAny_mono one (fun r s1 zz => ?_) fun _ _ e => e)
    obtain ⟨b, rfl, zz⟩ := zz
    exact wpAny_pure ⟨b, rfl, zz⟩
end
end DuX
/-! o != v; bool(o) by the own __len__ -/
namespace DuX
open PySem PySem.Spec
open PyProof.Rows L2
section
variable {X : Cx} {CX : CXT} {k : Nat} {g C : Addr} {sp : Sp} {Ek : XK} {pins : List (Addr × Obj)} {σ : L2.St} {H : Hp} {s : Shared}
/-- what the class at C has from object: its != -/
structure NeM (K : PySem.W.Frag) (C : Addr) : Prop where
  ne : PySem.W.findIn K (.ref C) "__ne__" = some (some (.builtin "object.__ne__"))
  mro : PySem.W.mroIn K C (.type "object") = some true
theorem op_neO (m : OwnM X.K C "__eq__" g) (n : NeM X.K C) (F : FnR X.prog X.w X.K X.mg X.base CX k g sp) (hr : Room (k + 1) X.A) (hx : Passes CX X Ek) :
    OpR X (compareOp .NotEq) (fun x y H Q => ∃ a dx fs t, x = .ref a ∧ H a = some (.ins C dx fs) ∧ (∀ pins σ s u, Inv X pins σ H s → RelV y u → ∀ M : Model, PySem.W.Looks M s.heap (typeOf u) t) ∧ PySem.W.notFirst X.K C t = true ∧ sp [.ref a, y] H (fun v H' => ∃ b, v = .bl b ∧ Q (.bl (!b)) H') Ek) := by
  intro pins s σ H x y u v Q Iv rx ry h
  obtain ⟨a, dx, fs, t, rfl, ha, ty, nf, q⟩ := h
  cases rx
  refine wpAny_mono (rc_ne (Q := fun b H' => Q (.bl (!b)) H') m n.ne n.mro F hr rfl hx Iv ha ry (ty pins σ s _ Iv ry) nf q) (fun r s1 z => ?_) fun _ _ e => e
  obtain ⟨b, rfl, H1, I1, q1⟩ := z
  exact ⟨.bl (!b), H1, I1, rfl, q1⟩
/-- the truth of o, by its __len__ -/
theorem truthy_lenO {A : Around} {a dx : Addr} {fs : List (Str × V)} {Q : Bool → Hp → Prop} (m : OwnM X.K C "__len__" g) (nb : PySem.W.findIn X.K (.ref C) "__bool__" = some none) (F : FnR X.prog X.w X.K X.mg X.base CX k g sp) (hr : Room (k + 1) A) (hf : A.frames = X.A.frames) (hx : Passes CX X Ek) (Iv : Inv X pins σ H s) (ha : H a = some (.ins C dx fs))
    (q : sp [.ref a] H (fun v H' => ∃ n : Nat, v = .int n ∧ n < 2 ^ 62 ∧ Q (n != 0) H') Ek) :
    wpAny (model X.prog X.w) A (truthy (.ref a)) (fun b s1 => ∃ H', Inv X pins σ H' s1 ∧ Q b H') X.xe s := by
  obtain ⟨ox, od, J⟩ := inst_of Iv ha
  have len : wpAny (model X.prog X.w) A (runValue (.builtin "len" ⟨[.ref a], []⟩)) (fun r s1 => ∃ (n : Nat) (t : Tok), r = .int n t ∧ ∃ H', Inv X pins σ H' s1 ∧ Q (n != 0) H') X.xe s := by
    refine wpAny_runValue (codeAny_builtin
        entry_len ?_)
    rw [Around.under_plainId
        plain_len _]
    unfold Builtin.«len»
    refine wpAny_bind (m := oneArg
        "len" _) (wpAny_pure ?_)
    refine wpAny_bind (m := callSpecial? (.ref a) (Str.ofString "__len__")) (PySem.W.special_fn Iv.kIn J m.at_ (beq_iff_eq.mp m.fn) (wpAny_mono (run_below F hr.in1 hf hx Iv (vs := [V.ref a]) (.cons rfl .nil) q) (fun r s' z => ?_) fun _ _ y => y))
    obtain ⟨v, H1, I1, rv, n, rfl, hn, q1⟩ := z
    obtain ⟨t, rfl⟩ := rv
    refine wpAny_bind (wpAny_holding
        (wpAny_pure ?_))
    refine wpAny_bind
        (wpAny_letGo ?_)
    show wpAny _ _ (if ((n : Nat) : Int) < 0 then _ else _) _ _ _
    rw [if_neg (by omega)]
    show wpAny _ _ (if ((n : Nat) : Int) ≥ 2 ^ 63 then _ else _) _ _ _
    rw [if_neg (by omega)]
    exact wpAny_bind (wpAny_mkInt (wpAny_pure ⟨n, _, rfl, H1, I1.tok _, q1⟩))
  unfold truthy
  refine wpAny_bind (m := callSpecial? (.ref a) (Str.ofString "__bool__")) (wpAny_bind (wpAny_bind (J.type.here ((PySem.W.looks_findIn Iv.kIn nb).here (wpAny_pure ?_)))))
  refine wpAny_bind (wpAny_bind (J.type.here ((PySem.W.looks_findIn Iv.kIn m.at_).here ?_)))
  refine wpAny_bind (wpAny_mono len (fun r s1 z => ?_) fun _ _ e => e)
  obtain ⟨n, t, rfl, H1, I1, q1⟩ := z
  have e : ((n : Int) != 0) = (n != 0) := by
    cases n with
    | zero => rfl
    | succ n => rfl
  show wpAny _ _ (pure ((n : Int) != 0)) _ _ _
  rw [e]
  exact wpAny_pure ⟨H1, I1, q1⟩
/-- bool(o) -/
theorem call_boolO (m : OwnM X.K C "__len__" g) (nb : PySem.W.findIn X.K (.ref C) "__bool__" = some none) (F : FnR X.prog X.w X.K X.mg X.base CX k g sp) (hr : Room (k + 3) X.A) (hx : Passes CX X Ek) :
    CallR X (.type "bool") (fun xs H Q => ∃ a dx fs, xs = [.ref a] ∧ H a = some (.ins C dx fs) ∧ sp [.ref a] H (fun v H' => ∃ n : Nat, v = .int n ∧ n < 2 ^ 62 ∧ Q (.bl (n != 0)) H') Ek) := by
  intro pins s σ H xs us Q Iv r h
  obtain ⟨a, dx, fs,
      rfl, ha, q⟩ := h
  rw [Vals.ref1 r]
  have f1 := PySem.F.conv_sub_bool
  refine callType_codes (T := "bool") (Bi := Builtin.«object.__init__») (Q₁ := fun r s₁ => ∃ b, r = .bool b ∧ ∃ H', Inv X pins σ H' s₁ ∧ Q (.bl b) H') PySem.F.called_bool (PySem.F.typeCall_bool_1 _) PySem.F.entry_object_init ?_ ?_
  · refine codeAny_of_tree ?_
    show wpAny _ X.A.in1.in1 (do checkBuiltinCall "bool.__new__" ⟨[.type "bool", .ref a], []⟩; again (.builtin "bool.__new__" ⟨[.type "bool", .ref a], []⟩)) _ _ s
    refine wpAny_bind (wpAny_of_eq (PySem.F.newCall_bool_1 _) (wpAny_pure ⟨plainId_quiet (by decide +kernel) _, codeAny_builtin PySem.F.entry_bool_new ?_⟩))
    rw [Around.under_plainId
        (by decide +kernel) _]
    unfold Builtin.«bool.__new__»
    refine wpAny_bind (m := isType (.type "bool")) (wpAny_pure ?_)
    simp only [Bool.not_true,
        Bool.false_eq_true, if_false]
    refine wpAny_bind (wpAny_of_eq f1 ?_)
    simp only [Bool.not_true,
        Bool.false_eq_true, if_false]
    refine wpAny_bind (m := someArgs "bool" 0 1 _) (wpAny_pure ?_)
    refine wpAny_bind (wpAny_mono (truthy_lenO (Q := fun b H' => Q (.bl b) H') m nb F hr.in1.in1 rfl hx Iv ha q) (fun b s1 z => ?_) fun _ _ e => e)
    exact wpAny_pure ⟨b, rfl, z⟩
  · rintro obj s₁ ⟨b, rfl, H1, I1, q1⟩
    exact ⟨rfl, PySem.F.args_object_init_2 _ _, object_init_meets PySem.F.called_bool.init.lookup PySem.F.called_bool.made (by decide) X.prog X.w X.A.in1 _ s₁ ⟨rfl, rfl, .bl b, H1, I1, rfl, q1⟩⟩
end
end DuX
/-! repr of data of any depth -/
namespace RpD
open PySem PySem.Spec
open PyProof.Rows L2
section
variable {X : Cx}
structure Shows (d : PyData) : Prop where
  sh : d.showable = true
  nd : d.hasDict = false
  dp : d.depth ≤ 20
  sz : d.shown.length ≤ sizeLine
/-- repr(x) -/
theorem call_reprD (hg : X.A.guards = some []) (hu : X.A.units + 100 < cLine) : CallR X (.builtin "repr") (fun xs H Q => ∃ x d, xs = [x] ∧ Dp X.K H x d ∧ Shows d ∧ Q (.str d.shown) H) := by
  intro pins s σ H xs us Q Iv r h
  obtain ⟨x, d, rfl, hd, S, q⟩ := h
  cases r with
  | cons r rr =>
    cases rr
    rename_i u
    obtain ⟨as, R⟩ := Dp.reads Iv d x u hd r
    have dp := S.dp
    have go : ∀ {a : Addr}, u = .ref a → wpAny (model X.prog X.w) X.A (call (.builtin "repr") [u]) (EP X pins σ Q) X.xe s := fun {a} e => by
      subst e
      refine repr_of_reads' R S.sh (fun e => by rw [S.nd] at e; cases e) hg (by omega) (fun _ _ e => e) (fun h' t tk kp => ⟨.str d.shown, H, Iv.kept kp, ⟨t, rfl⟩, q⟩) S.sz
    cases hd with
    | non =>
      cases r
      exact P.repr_of_none ⟨.str _, H, Iv.tok _, ⟨_, rfl⟩, q⟩
    | bl b =>
      cases r
      exact P.repr_of_bool ⟨.str _, H, Iv.tok _, ⟨_, rfl⟩, q⟩
    | int i =>
      obtain ⟨t, rfl⟩ := r
      have e : i.natAbs.log2 < 1920 := by simpa [PyData.showable] using S.sh
      exact P.repr_of_int e ⟨.str _, H, Iv.tok _, ⟨_, rfl⟩, q⟩
    | str z =>
      obtain ⟨t, rfl⟩ := r
      exact P.repr_of_str ⟨.str _, H, Iv.tok _, ⟨_, rfl⟩, q⟩ S.sz
    | lst h1 h2 =>
      cases r
      exact go rfl
    | tup h1 h2 =>
      cases r
      exact go rfl
end
/-! ### how long a text of data is -/
mutual
def wide : PyData → Nat
  | .none => 5
  | .bool _ => 5
  | .int _ => 5
  | .str x => 10 * x.length + 2
  | .list xs => wideAll xs + 3
  | .tuple xs => wideAll xs + 3
  | .dict _ => 0
def wideAll : List PyData → Nat
  | [] => 0
  | x :: xs => wide x + 2 + wideAll xs
end
mutual
def plainD : PyData → Bool
  | .none => true
  | .bool _ => true
  | .int i => decide (0 ≤ i ∧ i < 1000)
  | .str x => x.cps.toList.all
      fun c => decide (c < 16 ^ 8)
  | .list xs => plainAll xs
  | .tuple xs => plainAll xs
  | .dict _ => false
def plainAll :
    List PyData → Bool
  | [] => true
  | x :: xs => plainD x && plainAll xs
end
theorem dec1000 : ((List.range 1000).all fun n => decide ((toString (n : Int) : Str).length ≤ 5)) = true := by decide +kernel
theorem shown_int {i : Int} (h : 0 ≤ i ∧ i < 1000) : (toString i : Str).length ≤ 5 := by
  have q := (List.all_eq_true.mp dec1000) i.toNat (List.mem_range.mpr (by omega))
  have e : ((i.toNat : Nat) : Int) = i := by omega
  rw [e] at q
  exact of_decide_eq_true q
theorem log_small {i : Int} (h : 0 ≤ i ∧ i < 1024) : i.natAbs.log2 < 1920 := by
  by_cases h0 : i.natAbs = 0
  · rw [h0]
    decide
  · refine (Nat.log2_lt h0).mpr ?_
    refine Nat.lt_of_lt_of_le (show i.natAbs < 2 ^ 10 by omega) (Nat.pow_le_pow_right (by decide) (by decide))
mutual
theorem shown_le : ∀ d : PyData, plainD d = true → d.shown.length ≤ wide d ∧ d.showable = true ∧ d.hasDict = false
  | .none, _ => ⟨by decide +kernel, rfl, rfl⟩
  | .bool b, _ => ⟨by cases b <;> decide +kernel, rfl, rfl⟩
  | .int i, h => by
    have q : 0 ≤ i ∧ i < 1000 := of_decide_eq_true h
    exact ⟨shown_int q, decide_eq_true (log_small ⟨q.1, by omega⟩), rfl⟩
  | .str x, h => by
    refine ⟨StrLaws.reprText_len x fun c hc => of_decide_eq_true ((List.all_eq_true.mp h) c hc), rfl, rfl⟩
  | .list xs, h => by
    obtain ⟨a, b, c⟩ := shown_all xs h
    refine ⟨?_, b, c⟩
    show (listText (PyData.shownAll xs)).length ≤ wideAll xs + 3
    have := listText_len_le (PyData.shownAll xs)
    omega
  | .tuple xs, h => by
    obtain ⟨a, b, c⟩ := shown_all xs h
    refine ⟨?_, b, c⟩
    show (tupleText (PyData.shownAll xs)).length ≤ wideAll xs + 3
    have := tupleText_len_le (PyData.shownAll xs)
    omega
  | .dict _, h => by cases h
theorem shown_all : ∀ xs : List PyData, plainAll xs = true → ((PyData.shownAll xs).map (·.length)).sum + 2 * (PyData.shownAll xs).length ≤ wideAll xs ∧ PyData.showableAll xs = true ∧ PyData.hasDictAll xs = false
  | [], _ => ⟨Nat.le_refl _, rfl, rfl⟩
  | x :: xs, h => by
    have h : (plainD x && plainAll xs) = true := h
    rw [Bool.and_eq_true] at h
    obtain ⟨a, b, c⟩ := shown_le x h.1
    obtain ⟨a2, b2, c2⟩ := shown_all xs h.2
    refine ⟨?_, ?_, ?_⟩
    · show ((x.shown :: PyData.shownAll xs).map (·.length)).sum + 2 * (x.shown :: PyData.shownAll xs).length ≤ wide x + 2 + wideAll xs
      rw [List.map_cons, List.sum_cons, List.length_cons]
      omega
    · show (x.showable && PyData.showableAll xs) = true
      rw [b, b2]
      rfl
    · show (x.hasDict || PyData.hasDictAll xs) = false
      rw [c, c2]
      rfl
end
theorem Shows.of {d : PyData} (h : plainD d = true) (hd : d.depth ≤ 20) (hw : wide d ≤ 16000000) : Shows d := by
  obtain ⟨a, b, c⟩ := shown_le d h
  exact ⟨b, c, hd, by rw [sizeLine_eq]; omega⟩
end RpD
namespace K1
open PySem PySem.Spec
open PyProof.Rows L2 EnT StX SmX TxS DuX
/-! ### which class a value is of -/
def baseTys : List String := ["NoneType", "bool", "int", "str", "list", "tuple", "dict"]
structure MemIs (K : PySem.W.Frag) (C : Addr) : Prop where
  ha : PySem.W.findIn K (.ref C) "__class__"
      = some (some (.builtin "object.__class__"))
  hn : PySem.W.specialIn K (.builtin "object.__class__")
      "__get__" = some (some (.builtin "getset_descriptor.__get__"))
  htk : PySem.W.takesIn K (.builtin
      "object.__class__") = some true
  hm : PySem.W.mroIn K C
      (.type "object") = some true
  yes : PySem.W.kitOne K (.ref C) (.ref C) = some true
  no : ∀ t ∈ baseTys, PySem.W.kitOne K (.type t) (.ref C) = some false
  nf : ∀ t ∈ baseTys, PySem.W.notFirst K C (.type t) = true
  nfC : PySem.W.notFirst K C (.ref C) = true
theorem VOk.ty {K : PySem.W.Frag} {H : Hp} {v : V} (h : VOk H v) : ∃ t, t ∈ baseTys ∧ TyX K H v (.type t) := by
  rcases h with ⟨z, rfl, _⟩ | h
  · exact ⟨"str", by decide, .base (.str z)⟩
  cases h with
  | non => exact ⟨"NoneType", by decide, .base .non⟩
  | bl b => exact ⟨"bool", by decide, .base (.bl b)⟩
  | int i => exact ⟨"int", by decide, .base (.int i)⟩
  | lst e => exact ⟨"list", by decide, .base (.lst e)⟩
  | tup e => exact ⟨"tuple", by decide, .base (.tup e)⟩
  | dK e => exact ⟨"dict", by decide, .base (.dK e)⟩
theorem VOk.isStr {K : PySem.W.Frag} {H : Hp} {v : V} (h : VOk H v) : ∃ t b, TyX K H v (.type t) ∧ PySem.W.kitOne K (.type t) (.type "str") = some b ∧ (b = true → ∃ z, v = .str z) ∧ (b = false → NoStr H v) := by
  rcases h with ⟨z, rfl, _⟩ | h
  · exact ⟨"str", true, .base (.str z), kit_ty (by decide +kernel), fun _ => ⟨z, rfl⟩, fun e => by cases e⟩
  have h0 := h
  cases h with
  | non => exact ⟨"NoneType", false, .base .non, kit_ty (by decide +kernel), fun e => (by cases e), fun _ => h0⟩
  | bl b => exact ⟨"bool", false, .base (.bl b), kit_ty (by decide +kernel), fun e => (by cases e), fun _ => h0⟩
  | int i => exact ⟨"int", false, .base (.int i), kit_ty (by decide +kernel), fun e => (by cases e), fun _ => h0⟩
  | lst e => exact ⟨"list", false, .base (.lst e), kit_ty (by decide +kernel), fun e => (by cases e), fun _ => h0⟩
  | tup e => exact ⟨"tuple", false, .base (.tup e), kit_ty (by decide +kernel), fun e => (by cases e), fun _ => h0⟩
  | dK e => exact ⟨"dict", false, .base (.dK e), kit_ty (by decide +kernel), fun e => (by cases e), fun _ => h0⟩
/-! ### facts of names -/
theorem name_short {z : Str} (h : nameB z = true) : z.length ≤ 8 := by
  unfold nameB at h
  by_cases h8 : 8 < z.length
  · rw [if_pos h8] at h
    cases h
  · omega
def sp1 : Str := Str.ofString " "
def joinSp (zs : List Str) : Str := Txt.join sp1 zs
theorem sum_short : ∀ zs : List Str, (∀ z ∈ zs, z.length ≤ 8) → (zs.map (·.length)).sum ≤ zs.length * 8
  | [], _ => Nat.le_refl _
  | z :: r, h => by
    have a := h z List.mem_cons_self
    have b := sum_short r fun y hy => h y (List.mem_cons_of_mem _ hy)
    rw [List.map_cons, List.sum_cons, List.length_cons]
    omega
theorem join_fits {zs : List Str} (h : ∀ z ∈ zs, z.length ≤ 8) (hl : zs.length ≤ 1000) : (zs.map (·.length)).sum + zs.length * (sp1).length ≤ 16777216 := by
  have a := sum_short zs h
  have e : (sp1).length = 1 := by decide +kernel
  rw [e]
  omega
theorem flds_names (t d : Addr) : (flds t d).lookup ("_names" : Str) = some (.ref t) := by
  unfold flds
  rw [lookup_putF, lookup_putF, if_pos rfl, if_neg (by decide +kernel)]
theorem flds_table (t d : Addr) : (flds t d).lookup ("_table" : Str) = some (.ref d) := by
  unfold flds
  rw [lookup_putF, if_pos rfl]
theorem flds_str (t d : Addr) : (flds t d).lookup ("names" : Str) = none := by
  unfold flds
  rw [lookup_putF, lookup_putF, if_neg (by decide +kernel), if_neg (by decide +kernel)]
  rfl
theorem valV_tab {zs : List Str} {z : Str} : (valV (tabOf zs) (Sum.inr z : Key)).isSome = decide (z ∈ zs) := by
  induction zs with
  | nil => rfl
  | cons a r ih =>
    show (valV ((Sum.inr a, V.bl true) :: tabOf r) (Sum.inr z : Key)).isSome = _
    by_cases h : a = z
    · subst h
      have e : valV ((Sum.inr a, V.bl true) :: tabOf r) (Sum.inr a : Key) = some (V.bl true) := by
        unfold valV
        rw [List.find?_cons, decide_eq_true rfl]
        rfl
      rw [e, decide_eq_true List.mem_cons_self]
      rfl
    · rw [valV_neg (fun e => h (Sum.inr.inj e)), ih]
      by_cases m : z ∈ r
      · rw [decide_eq_true m, decide_eq_true (List.mem_cons_of_mem _ m)]
      · rw [decide_eq_false m, decide_eq_false fun q => by
          rcases List.mem_cons.mp q with q | q
          · exact h q.symm
          · exact m q]
/-! ### texts as data -/
def strD (zs : List Str) : List PyData := zs.map PyData.str
theorem dpAll_str {K : PySem.W.Frag} {H : Hp} : ∀ zs : List Str, DpAll K H (zs.map V.str) (strD zs)
  | [] => .nil
  | z :: r => .cons (.str z) (dpAll_str r)
def OkS (zs : List Str) : Prop := ∀ z ∈ zs, PyData.strOk z = true
theorem strD_lay : ∀ zs : List Str, OkS zs → PyData.canLayAll0 (strD zs) = true
  | [], _ => by simp [strD, PyData.canLayAll0]
  | z :: zs, h => by
    have := strD_lay zs fun y hy => h y (List.mem_cons_of_mem _ hy)
    have h1 := h z List.mem_cons_self
    simp only [strD] at this
    simp [strD, PyData.canLayAll0, PyData.canLay0, this, h1]
theorem name_low {z : Str} (h : nameB z = true) : ∀ c ∈ z.cps.toList, c < 128 := by
  unfold nameB at h
  split at h
  · cases h
  split at h
  · cases h
  · rename_i h2
    have e : z.cps.all (· < 128) = true := by
      cases q : Txt.isascii z with
      | true => exact q
      | false => exact absurd q h2
    rw [← Array.all_toList] at e
    exact fun c hc => of_decide_eq_true ((List.all_eq_true.mp e) c hc)
theorem strOk_low {z : Str} (h : ∀ c ∈ z.cps.toList, c < 128) : PyData.strOk z = true := by
  show z.cps.all (· < 0x110000) = true
  rw [← Array.all_toList]
  exact List.all_eq_true.mpr fun c hc => decide_eq_true (Nat.lt_trans (h c hc) (by decide))
theorem okS_names {zs : List Str} (h : ∀ z ∈ zs, nameB z = true) : OkS zs := fun z hz => strOk_low (name_low (h z hz))
theorem strD_depth : ∀ zs : List Str, PyData.depthAll (strD zs) = 0
  | [] => by simp [strD, PyData.depthAll]
  | z :: zs => by
    have := strD_depth zs
    simp only [strD] at this
    simp [strD, PyData.depthAll, PyData.depth, this]
theorem tupD_shaped {zs : List Str} (h : OkS zs) : SeqAt.shaped (.tuple (strD zs)) = true := by
  show (PyData.canLay0 (.tuple (strD zs)) && decide (PyData.depth (.tuple (strD zs)) ≤ 64)) = true
  rw [Bool.and_eq_true]
  refine ⟨by simp only [PyData.canLay0]; exact strD_lay zs h, decide_eq_true ?_⟩
  simp only [PyData.depth]
  rw [strD_depth]
  omega
theorem lstD_shaped {zs : List Str} (h : OkS zs) : SeqAt.shaped (.list (strD zs)) = true := by
  show (PyData.canLay0 (.list (strD zs)) && decide (PyData.depth (.list (strD zs)) ≤ 64)) = true
  rw [Bool.and_eq_true]
  refine ⟨by simp only [PyData.canLay0]; exact strD_lay zs h, decide_eq_true ?_⟩
  simp only [PyData.depth]
  rw [strD_depth]
  omega
theorem strD_eqv : ∀ zs ws : List Str, PyData.eqvAll (strD zs) (strD ws) = decide (zs = ws)
  | [], [] => by simp [strD, PyData.eqvAll]
  | [], w :: ws => by simp [strD, PyData.eqvAll]
  | z :: zs, [] => by simp [strD, PyData.eqvAll]
  | z :: zs, w :: ws => by
    have ih := strD_eqv zs ws
    simp only [strD] at ih
    simp only [strD, List.map_cons, PyData.eqvAll, PyData.eqv, ih]
    by_cases h : z = w
    · subst h
      simp
    · have : (z == w) = false := beq_eq_false_iff_ne.mpr h
      rw [this]
      simp [h]
/-! ### promises -/
def spNamesP (C : Addr) : Sp := fun vs H Q _ => ∃ a zs, vs = [.ref a] ∧ MemAt C H a zs ∧ ∀ t, H t = some (.tup (zs.map V.str)) → Q (.ref t) H
def spStrM (C : Addr) : Sp := fun vs H Q _ => ∃ a zs, vs = [.ref a] ∧ MemAt C H a zs ∧ (∀ z ∈ zs, z.length ≤ 8) ∧ Q (.str (joinSp zs)) H
def spReprM (C : Addr) : Sp := fun vs H Q _ => ∃ a zs, vs = [.ref a] ∧ MemAt C H a zs ∧ Q (.str (Str.empty ++ ("Members(" : Str) ++ (toString (zs.length : Int) : Str) ++ (")" : Str))) H
def spLenM (C : Addr) : Sp := fun vs H Q _ => ∃ a zs, vs = [.ref a] ∧ MemAt C H a zs ∧ Q (.int (zs.length : Nat)) H
def hasV (zs : List Str) : V → Bool
  | .str z => decide (z ∈ zs)
  | _ => false
def spHasM (C : Addr) : Sp := fun vs H Q _ => ∃ a zs v, vs = [.ref a, v] ∧ MemAt C H a zs ∧ VOk H v ∧ Q (.bl (hasV zs v)) H
def spEqM (C : Addr) : Sp := fun vs H Q _ => ∃ a zs y, vs = [.ref a, y] ∧ MemAt C H a zs ∧ ((∃ b ws, y = .ref b ∧ MemAt C H b ws ∧ Q (.bl (decide (zs = ws))) H) ∨ (VOk H y ∧ Q (.bl false) H))
section
variable {w : World} {P : Program} {base : Heap} {mg : Str → Option Value} {K : PySem.W.Frag}
theorem scStrM : FnScope ["self"] ["self"] (defScope sStrM) := ⟨rfl, rfl, rfl, by decide +kernel, rfl, by decide +kernel, by decide +kernel⟩
theorem scReprM : FnScope ["self"] ["self"] (defScope sReprM) := ⟨rfl, rfl, rfl, by decide +kernel, rfl, by decide +kernel, by decide +kernel⟩
theorem scLenM : FnScope ["self"] ["self"] (defScope sLenM) := ⟨rfl, rfl, rfl, by decide +kernel, rfl, by decide +kernel, by decide +kernel⟩
theorem scNamesP : FnScope ["self"] ["self"] (defScope sNamesP) := ⟨rfl, rfl, rfl, by decide +kernel, rfl, by decide +kernel, by decide +kernel⟩
theorem scHasM : FnScope ["self", "value"] ["self", "value"] (defScope sHasM) := ⟨rfl, rfl, rfl, by decide +kernel, rfl, by decide +kernel, by decide +kernel⟩
theorem scEqM : FnScope ["self", "other"] ["self", "other"] (defScope sEqM) := ⟨rfl, rfl, rfl, by decide +kernel, rfl, by decide +kernel, by decide +kernel⟩
theorem ok_namesP {f C : Addr} {fd : FuncData} (F : Fun K "names" "Members.names" sNamesP f fd) (M : MemC K mg C) : FnOk P w K mg base CX0 1 f fd ["self"] (getSp C "_names") := by
  refine F.ok scNamesP (fun vs H Q E h => ?_) (fun cdv A outer s H vs Q E hr h => ?_)
  · obtain ⟨a, dx, fs, v, rfl, _⟩ := h
    rfl
  · obtain ⟨a, dx, fs, v, rfl, ha, l, q⟩ := h
    exact ⟨_, pss_one (ps_ret (pe_fld (pv 0) rfl)), _, rfl, a, C, dx, fs, v, rfl, ha, M.cl, M.nN, l, q⟩
theorem ok_strM {f C : Addr} {fd : FuncData} (F : Fun K "__str__" "Members.__str__" sStrM f fd) (M : MemC K mg C) : FnOk P w K mg base CX0 1 f fd ["self"] (spStrM C) := by
  refine F.ok scStrM (fun vs H Q E h => ?_) (fun cdv A outer s H vs Q E hr h => ?_)
  · obtain ⟨a, zs, rfl, _⟩ := h
    rfl
  · obtain ⟨a, zs, rfl, m, hl, q⟩ := h
    obtain ⟨dx, t, d, h1, h2, h3⟩ := m.at_
    exact ⟨_, pss_one (ps_ret (pe_join pe_str (pe_fld (pv 0) rfl))), ⟨_, rfl⟩, _, rfl, a, C, dx, _, _, rfl, h1, M.cl, M.nN, flds_names t d, _, t, zs, rfl, rfl, .inr (SqT.of h2), join_fits hl m.few, q⟩
theorem ok_lenM {f C : Addr} {fd : FuncData} (F : Fun K "__len__" "Members.__len__" sLenM f fd) (T : Free mg) (M : MemC K mg C) : FnOk P w K mg base CX0 1 f fd ["self"] (spLenM C) := by
  refine F.ok scLenM (fun vs H Q E h => ?_) (fun cdv A outer s H vs Q E hr h => ?_)
  · obtain ⟨a, zs, rfl, _⟩ := h
    rfl
  · obtain ⟨a, zs, rfl, m, q⟩ := h
    obtain ⟨dx, t, d, h1, h2, h3⟩ := m.at_
    refine ⟨_, pss_one (ps_ret (pe_callB call_len_seq (by rfl) T.len PySem.boot_len (pa_cons (pe_fld (pv 0) rfl) pa_nil))), _, rfl, a, C, dx, _, _, rfl, h1, M.cl, M.nN, flds_names t d, t, zs.map V.str, rfl, .inr (SqT.of h2), ?_⟩
    rw [List.length_map]
    exact q
theorem str_short {n : Nat} (h : n ≤ 1000) : (toString (n : Int) : Str).length ≤ 5 := by
  by_cases e : n = 1000
  · subst e
    decide +kernel
  · exact RpD.shown_int (by omega)
theorem ok_reprM {f C : Addr} {fd : FuncData} (F : Fun K "__repr__" "Members.__repr__" sReprM f fd) (T : Free mg) (M : MemC K mg C) : FnOk P w K mg base CX0 1 f fd ["self"] (spReprM C) := by
  refine F.ok scReprM (fun vs H Q E h => ?_) (fun cdv A outer s H vs Q E hr h => ?_)
  · obtain ⟨a, zs, rfl, _⟩ := h
    rfl
  · obtain ⟨a, zs, rfl, m, q⟩ := h
    obtain ⟨dx, t, d, h1, h2, h3⟩ := m.at_
    have few := str_short m.few
    have e0 : (Str.empty ++ ("Members(" : Str)).length = 8 := by decide +kernel
    refine ⟨_, pss_one (ps_ret (pe_joined (.cons pe_str (.cons (pe_fmt (pe_callB call_len_seq (by rfl) T.len PySem.boot_len (pa_cons (pe_fld (pv 0) rfl) pa_nil))) (.cons pe_str .nil))))), ?_⟩
    have e8 : (8 : Nat) ≤ sizeLine := by rw [sizeLine_eq]; decide
    refine ⟨_, rfl, e0 ▸ e8, _, rfl, a, C, dx, _, _, rfl, h1, M.cl, M.nN, flds_names t d, t, zs.map V.str, rfl, .inr (SqT.of h2), .inr ⟨_, rfl, ?_, ?_⟩⟩
    · rw [List.length_map]
      have := m.few
      exact RpD.log_small (i := (zs.length : Nat)) (by omega)
    · rw [List.length_map]
      refine ⟨_, rfl, ?_, _, rfl, ?_, q⟩
      · rw [strLen_append, e0, sizeLine_eq]
        omega
      · rw [strLen_append, strLen_append, e0, sizeLine_eq]
        have : ((")" : Str)).length = 1 := by decide +kernel
        omega
theorem ok_hasM {f C : Addr} {fd : FuncData} (F : Fun K "__contains__" "Members.__contains__" sHasM f fd) (T : Free mg) (M : MemC K mg C) : FnOk P w K mg base CX0 1 f fd ["self", "value"] (spHasM C) := by
  refine F.ok scHasM (fun vs H Q E h => ?_) (fun cdv A outer s H vs Q E hr h => ?_)
  · obtain ⟨a, zs, v, rfl, _⟩ := h
    rfl
  · obtain ⟨a, zs, v, rfl, m, hv, q⟩ := h
    obtain ⟨dx, t, d, h1, h2, h3⟩ := m.at_
    obtain ⟨ty, b, e1, e2, e3, e4⟩ := hv.isStr (K := K)
    refine ⟨_, pss_one (ps_ret (pe_and (pe_callB call_isi (by rfl) T.isinstance (by decide +kernel) (pa_cons (pv 1) (pa_cons (pe_bltn (v := .ty "str") (u := .type "str") (by rfl) T.str (by decide +kernel) rfl) pa_nil))) (pe_one (pe_cmp (pc_din (by have := hr.un; show A.units + 3 + 1 < cLine; have e : (A.deeper (envOfC "Members.__contains__" (defScope sHasM) s.heap.objs.size f cdv)).units = A.units + 3 := rfl; omega) (pv 1) (pe_fld (pv 0) rfl)))))), ?_⟩
    refine ⟨_, rfl, _, _, _, _, b, rfl, .ty _, e1, e2, b, rfl, ?_⟩
    cases b with
    | true =>
      obtain ⟨z, rfl⟩ := e3 rfl
      rw [if_pos rfl]
      refine ⟨_, rfl, _, rfl, a, C, dx, _, _, rfl, h1, M.cl, M.nT, flds_table t d, d, _, rfl, .k (k := Sum.inr z) h3, ?_⟩
      rw [valV_tab]
      exact q
    | false =>
      rw [if_neg (by decide)]
      have n := e4 rfl
      have e : hasV zs v = false := by cases n <;> rfl
      rw [e] at q
      exact q
theorem ok_eqM {f C pN gN : Addr} {fd fdN : FuncData} (F : Fun K "__eq__" "Members.__eq__" sEqM f fd) (T : Free mg) (M : MemC K mg C) (I : MemIs K C) (pr : PropOf K C "names" pN gN) (GN : FnOk P w K mg base CX0 1 gN fdN ["self"] (getSp C "_names")) (FN : Fun K "names" "Members.names" sNamesP gN fdN) :
    FnOk P w K mg base CX0 3 f fd ["self", "other"] (spEqM C) := by
  have bN : Binds K fdN ["self"] [] := FN.binds (ps := ["self"]) fun _ _ _ _ _ _ us hl => match us, hl with | [_], _ => rfl
  refine F.ok scEqM (fun vs H Q E h => ?_) (fun cdv A outer s H vs Q E hr h => ?_)
  · obtain ⟨a, zs, y, rfl, _⟩ := h
    rfl
  · obtain ⟨a, zs, y, rfl, m, h⟩ := h
    obtain ⟨dx, t, d, h1, h2, h3⟩ := m.at_
    refine ⟨_, pss_one (ps_ret (pe_and (pe_callB call_isi (by rfl) T.isinstance (by decide +kernel) (pa_cons (pv 1) (pa_cons (pe_glob (v := .ref C) (by rfl) M.g rfl) pa_nil))) (pe_one (pe_cmpR (op_eqD (by have := hr.un; have e : (A.deeper (envOfC "Members.__eq__" (defScope sEqM) s.heap.objs.size f cdv)).units = A.units + 3 := rfl; show A.units + 3 + 64 < cLine; omega)) (pe_fld (pv 0) rfl) (pe_prop (pv 1) M.cl pr GN hr bN .nil pass0 rfl) (nomark _))))), ?_⟩
    rcases h with ⟨b, ws, rfl, m2, q⟩ | ⟨hv, q⟩
    · obtain ⟨dx2, t2, d2, k1, k2, k3⟩ := m2.at_
      refine ⟨_, rfl, _, _, _, _, true, rfl, .own C, .base (.ins k1 M.cl I.ha I.hn I.htk I.hm), I.yes, true, rfl, ?_⟩
      refine iteT ⟨_, rfl, a, C, dx, _, _, rfl, h1, M.cl, M.nN, flds_names t d, _, rfl, b, dx2, _, rfl, k1, b, dx2, _, _, rfl, k1, flds_names t2 d2, ?_⟩
      refine ⟨.tuple (strD zs), .tuple (strD ws), .tup (SqT.of h2) (dpAll_str zs), .tup (SqT.of k2) (dpAll_str ws), tupD_shaped (okS_names m.nm), tupD_shaped (okS_names m2.nm), ?_⟩
      have e : PyData.eqv (.tuple (strD zs)) (.tuple (strD ws)) = decide (zs = ws) := by
        simp only [PyData.eqv]
        exact strD_eqv zs ws
      rw [e]
      exact q
    · obtain ⟨ty, ht, tx⟩ := hv.ty (K := K)
      refine ⟨_, rfl, _, _, _, _, false, rfl, .own C, tx, I.no ty ht, false, rfl, ?_⟩
      exact iteF q
end
end K1
namespace K1
open PySem PySem.Spec
open PyProof.Rows L2 EnT StX SmX TxS DuX
/-- Members(*xs): what is asked, what is told -/
def spMk (C CN : Addr) : Sp := fun xs H Q E => (∀ v ∈ xs, VOk H v) ∧ xs.length ≤ 1000 ∧ (∀ i, wrongIx xs = some i → ErrAt CN "index" (.int i) H E) ∧ (wrongIx xs = none → ∀ zs : List Str, xs = zs.map V.str → Makes C zs H Q)
theorem ErrAt.same {C : Addr} {f : Str} {v : V} {H H' : Hp} {E : XK} (s : Same H H') (h : ErrAt C f v H E) : ErrAt C f v H' E := fun d H2 s2 n => h d H2 (s.trans s2) n
/-- what __init__ of Members promises, its names starred -/
def spInitR (K : PySem.W.Frag) (C CN : Addr) : Sp := fun vs H Q E => ∃ ws rest, vs = ws ++ rest ∧ ws.length = (["self"] : List Str).length ∧ rest.length ≤ sizeLine ∧ ∀ p, H p = Option.none → spInit0 K C CN (ws ++ [V.ref p]) (upd H p (.tup rest)) Q E
theorem make_of {K : PySem.W.Frag} {C CN : Addr} {xs : List V} {H : Hp} {Q : VK} {E : XK} (h : spMk C CN xs H Q E) :
    ∀ x dx, H x = Option.none → H dx = Option.none → dx ≠ x → spInitR K C CN (V.ref x :: xs) (upd (upd H dx (.own x)) x (.ins C dx [])) (fun v H2 => v = .non ∧ Q (.ref x) H2) E := by
  obtain ⟨hv, hl, he, hq⟩ := h
  intro x dx nx nd ne
  refine ⟨[.ref x], xs, rfl, rfl, by rw [sizeLine_eq]; omega, fun p np => ?_⟩
  have px : p ≠ x := fun e => by
    rw [e, upd_same] at np
    cases np
  have s1 : Same H (upd H dx (.own x)) := same_upd nd
  have s2 : Same (upd H dx (.own x)) (upd (upd H dx (.own x)) x (.ins C dx [])) := same_upd (by rw [upd_ne (Ne.symm ne)]; exact nx)
  have s3 : Same (upd (upd H dx (.own x)) x (.ins C dx [])) (upd (upd (upd H dx (.own x)) x (.ins C dx [])) p (.tup xs)) := same_upd np
  have s : Same H (upd (upd (upd H dx (.own x)) x (.ins C dx [])) p (.tup xs)) := (s1.trans s2).trans s3
  refine ⟨x, p, dx, xs, rfl, by rw [upd_ne (Ne.symm px), upd_same], SqT.of upd_same, fun v hm => (hv v hm).same s, hl, fun i hi => (he i hi).same s, fun hw zs ez ys H' k m M => ⟨rfl, ?_⟩⟩
  exact hq hw zs ez x ys H' nx (fun b o e => k b o (ne_of_none e nx) (s b o e)) m M
/-- the same, what follows told of the place -/
theorem make_at {K : PySem.W.Frag} {C CN : Addr} {xs : List V} {H : Hp} {QA : Addr → Hp → Prop} {E : XK} (h : spMk C CN xs H (fun v H2 => ∃ p, v = .ref p ∧ QA p H2) E) :
    ∀ x dx, H x = Option.none → H dx = Option.none → dx ≠ x → spInitR K C CN (V.ref x :: xs) (upd (upd H dx (.own x)) x (.ins C dx [])) (fun v H2 => v = .non ∧ QA x H2) E := fun x dx nx nd ne => by
  obtain ⟨ws, rest, e1, e2, e3, e4⟩ := make_of (K := K) h x dx nx nd ne
  refine ⟨ws, rest, e1, e2, e3, fun p np => ?_⟩
  obtain ⟨a1, a2, a3, a4, b1, b2, b3, b4, b5, b6, b7⟩ := e4 p np
  refine ⟨a1, a2, a3, a4, b1, b2, b3, b4, b5, b6, fun hw zs ez ys H' k m M => ?_⟩
  obtain ⟨c1, p', c2, c3⟩ := b7 hw zs ez ys H' k m M
  cases c2
  exact ⟨c1, c3⟩
def spFromT (C CN : Addr) : Sp := fun vs H Q E => ∃ a xs, vs = [.ref a] ∧ H a = some (.tup xs) ∧ spMk C CN xs H Q E
def spFromL (CN : Addr) : Sp := fun vs H Q E => ∃ a xs, vs = [.ref a] ∧ H a = some (.lst xs) ∧ ErrAt CN "index" .non H E
/-- what is known of the class that makes Members -/
structure MakeC (P : Program) (w : World) (K : PySem.W.Frag) (mg : Str → Option Value) (base : Heap) (C CN fI : Addr) : Prop where
  M : Mk K C fI
  F : FnR P w K mg base (L2.CX P w) 4 fI (spInitR K C CN)
section
variable {w : World} {P : Program} {base : Heap} {mg : Str → Option Value} {K : PySem.W.Frag}
theorem scFromN : FnScope ["names"] ["names"] (defScope sFromN) := ⟨rfl, rfl, rfl, by decide +kernel, rfl, by decide +kernel, by decide +kernel⟩
theorem ok_fromT {f fI fE C CN : Addr} {fd fdE : FuncData} (F : Fun K "from_names" "Members.from_names" sFromN f fd) (T : Free mg) (M : MemC K mg C) (MM : MakeC P w K mg base C CN fI) (EN : ErrC K mg "InvalidNames" "index" CN fE) (FE : Fun K "__init__" "InvalidNames.__init__" sErrNames fE fdE) :
    FnOk P w K mg base (L2.CX P w) 6 f fd ["names"] (spFromT C CN) := by
  have bE : Binds K fdE ["self", "index"] [] := FE.binds (ps := ["self", "index"]) fun _ _ _ _ _ _ us hl => match us, hl with | [_, _], _ => rfl
  have GE : FnOk P w K mg base CX0 1 fE fdE ["self", "index"] (spErr CN "index") := ok_errN FE EN
  refine F.okX scFromN (fun vs H Q E h => ?_) (fun cdv A outer s H vs Q E hr h => ?_)
  · obtain ⟨a, xs, rfl, _⟩ := h
    rfl
  · obtain ⟨a, xs, rfl, ha, q⟩ := h
    refine ⟨_, pss_cons (ps_if (pt_not (pt_val (pe_callB call_isi (by rfl) T.isinstance (by decide +kernel) (pa_cons (pv 0) (pa_cons (pe_bltn (v := .ty "tuple") (u := .type "tuple") (by rfl) T.tuple (by decide +kernel) rfl) pa_nil)))))
        (pss_one (ps_raise rfl (takes_of rfl rfl rfl rfl) (pmk_oex EN.ox EN.ini EN.ty GE (hr.mono (by decide)) bE .nil pass0 rfl EN.g (pa_cons pe_non pa_nil)))) pss_nil)
      (pss_one (ps_ret (pe_makeS1 MM.M MM.F hr (by rfl) M.g (passes_call (takes_of rfl rfl rfl rfl) fun _ _ _ _ h => h) (pv 0)))), ?_⟩
    refine ⟨_, rfl, _, _, _, _, true, rfl, .ty _, .base (.tup ha), kit_ty (by decide +kernel), true, rfl, ?_⟩
    refine iteF ?_
    exact ⟨_, rfl, a, xs, rfl, .inl (SqT.of ha), make_of q⟩
theorem ok_fromL {f fI fE C CN : Addr} {fd fdE : FuncData} (F : Fun K "from_names" "Members.from_names" sFromN f fd) (T : Free mg) (M : MemC K mg C) (MM : MakeC P w K mg base C CN fI) (EN : ErrC K mg "InvalidNames" "index" CN fE) (FE : Fun K "__init__" "InvalidNames.__init__" sErrNames fE fdE) :
    FnOk P w K mg base (L2.CX P w) 6 f fd ["names"] (spFromL CN) := by
  have bE : Binds K fdE ["self", "index"] [] := FE.binds (ps := ["self", "index"]) fun _ _ _ _ _ _ us hl => match us, hl with | [_, _], _ => rfl
  have GE : FnOk P w K mg base CX0 1 fE fdE ["self", "index"] (spErr CN "index") := ok_errN FE EN
  refine F.okX scFromN (fun vs H Q E h => ?_) (fun cdv A outer s H vs Q E hr h => ?_)
  · obtain ⟨a, xs, rfl, _⟩ := h
    rfl
  · obtain ⟨a, xs, rfl, ha, qE⟩ := h
    refine ⟨_, pss_cons (ps_if (pt_not (pt_val (pe_callB call_isi (by rfl) T.isinstance (by decide +kernel) (pa_cons (pv 0) (pa_cons (pe_bltn (v := .ty "tuple") (u := .type "tuple") (by rfl) T.tuple (by decide +kernel) rfl) pa_nil)))))
        (pss_one (ps_raise rfl (takes_of rfl rfl rfl rfl) (pmk_oex EN.ox EN.ini EN.ty GE (hr.mono (by decide)) bE .nil pass0 rfl EN.g (pa_cons pe_non pa_nil)))) pss_nil)
      (pss_one (ps_ret (pe_makeS1 MM.M MM.F hr (by rfl) M.g (passes_call (takes_of rfl rfl rfl rfl) fun _ _ _ _ h => h) (pv 0)))), ?_⟩
    refine ⟨_, rfl, _, _, _, _, false, rfl, .ty _, .base (.lst ha), kit_ty (by decide +kernel), false, rfl, ?_⟩
    refine iteT ?_
    refine ⟨(by show 1 ≤ 1000; decide), fun x nx => ⟨x, _, rfl, upd_same, fun d nd ne => ⟨rfl, d, [("index", .non)], upd_same, ?_, ?_, ?_⟩⟩⟩
    · rw [upd_ne ne, upd_same]
    · rw [upd_ne ne] at nd
      exact nd
    · rw [raise_heap nx ne]
      rw [upd_ne ne] at nd
      exact qE d H (Same.refl H) nd
end
end K1
/-! a | b, a |= b, a <= b by an own class's methods -/
namespace DuX
open PySem PySem.Spec
open PyProof.Rows L2
section
variable {X : Cx} {CX : CXT} {k : Nat} {g C : Addr} {sp : Sp} {Ek : XK}
/-- both are of the class at C -/
def rBinO (C : Addr) (sp : Sp) (Ek : XK) : R2 := fun x y H Q => ∃ a dx fs b dy gs, x = .ref a ∧ y = .ref b ∧ H a = some (.ins C dx fs) ∧ H b = some (.ins C dy gs) ∧ sp [.ref a, .ref b] H Q Ek
theorem op_binO {op : Operator} (m : OwnM X.K C (PySem.dunder op.info.2) g) (hc : PySem.W.selfFirst X.K C = true) (F : FnR X.prog X.w X.K X.mg X.base CX k g sp) (hr : Room k X.A) (hx : Passes CX X Ek) : OpR X (binaryOp op) (rBinO C sp Ek) := by
  intro pins s σ H x y v u Q Iv rx ry h
  obtain ⟨a, dx, fs, b, dy, gs, rfl, rfl, ha, hb, q⟩ := h
  cases rx
  cases ry
  obtain ⟨ox, od, J⟩ := inst_of Iv ha
  obtain ⟨oy, oe, J2⟩ := inst_of Iv hb
  obtain ⟨mm, hF⟩ := Iv.fr
  refine PySem.W.binop_K hF Iv.ok.mod.kin J J2.type hc m.at_ m.fn ?_
  refine wpAny_mono (run_below F hr rfl hx Iv (vs := [V.ref a, V.ref b]) (.cons rfl (.cons rfl .nil)) q) (fun z s1 hz => ?_) fun _ _ e => e
  obtain ⟨z', H1, I1, rz, qz⟩ := hz
  exact SlX.cmpback rz ⟨z', H1, I1, rz, qz⟩
/-- a op= b -/
def rInO (C : Addr) (sp : Sp) (Ek : XK) : TIp := fun x y H Q => ∃ a dx fs, x = .ref a ∧ H a = some (.ins C dx fs) ∧ sp [.ref a, y] H Q Ek
theorem ip_O {op : Operator} (m : OwnM X.K C (PySem.dunderI op.info.2) g) (hc : PySem.W.selfFirst X.K C = true) (F : FnR X.prog X.w X.K X.mg X.base CX k g sp) (hr : Room k X.A) (hx : Passes CX X Ek) : PIp X op (rInO C sp Ek) := by
  intro pins s σ H x y v u Q Iv rx ry h
  obtain ⟨a, dx, fs, rfl, ha, q⟩ := h
  cases rx
  obtain ⟨ox, od, J⟩ := inst_of Iv ha
  obtain ⟨mm, hF⟩ := Iv.fr
  refine PySem.W.ksp_inplace hF Iv.ok.mod.kin J hc m.at_ m.fn ?_
  refine wpAny_mono (run_below F hr rfl hx Iv (vs := [V.ref a, y]) (.cons rfl (.cons ry .nil)) q) (fun z s1 hz => ?_) fun _ _ e => e
  obtain ⟨z', H1, I1, rz, qz⟩ := hz
  exact SlX.cmpback rz ⟨z', H1, I1, rz, qz⟩
/-- an order by an own method -/
def rCmpO (K : PySem.W.Frag) (C : Addr) (sp : Sp) (Ek : XK) : R2 := fun x y H Q => ∃ a dx fs t, x = .ref a ∧ H a = some (.ins C dx fs) ∧ TyX K H y t ∧ PySem.W.notFirst K C t = true ∧ sp [.ref a, y] H Q Ek
theorem op_cmpO {op : CmpOp} (hop : ∀ a b, compareOp op a b = richCompare op a b) (m : OwnM X.K C (cmpInfo op).2.1 g) (F : FnR X.prog X.w X.K X.mg X.base CX k g sp) (hr : Room k X.A) (hx : Passes CX X Ek) : OpR X (compareOp op) (rCmpO X.K C sp Ek) := by
  intro pins s σ H x y v u Q Iv rx ry h
  obtain ⟨a, dx, fs, t, rfl, ha, ty, nf, q⟩ := h
  cases rx
  obtain ⟨ox, od, J⟩ := inst_of Iv ha
  obtain ⟨mm, hF⟩ := Iv.fr
  obtain ⟨Pz, Z, pz, _⟩ := kit_of Iv ry ty
  rw [hop]
  refine PySem.W.cmp_K (op := op) hr.units0 hF Iv.ok.mod.kin J (Z.ty _ _ Iv.kIn pz) nf m.at_ m.fn ?_
  refine wpAny_mono (run_below F hr rfl hx Iv (vs := [V.ref a, y]) (.cons rfl (.cons ry .nil)) q) (fun z s1 hz => ?_) fun _ _ e => e
  obtain ⟨z', H1, I1, rz, qz⟩ := hz
  exact SlX.cmpback rz ⟨z', H1, I1, rz, qz⟩
end
/-- what a built-in class has for an operator, and that it is not below C -/
structure OthT (K : PySem.W.Frag) (C : Addr) (nm T : String) : Prop where
  h1 : ∃ fo, PySem.W.findIn K (.type T) (PySem.dunder nm) = some fo
  h2 : ∃ ro, PySem.W.findIn K (.type T) (dunderR nm) = some ro
  hs : PySem.W.subIn K (.type T) (.ref C) = some false
section
variable {M : Model} {prog : Program} {w : World} {A : Around} {E : Value → Shared → Prop} {s : Shared} {K : PySem.W.Frag} {x C f : Addr} {ox : Obj} {od : Option Obj} {T : String}
open PySem.W in
theorem bin_other {op : Operator} {b : Value} {Q : Value → Shared → Prop} (X : K.In s.heap) (J : InstAt s.heap x ox C od) (hb : ∀ M : Model, Looks M s.heap (typeOf b) (.type T)) (hc : selfFirst K C = true) (hs : findIn K (.ref C) (PySem.dunder op.info.2) = some (some (.ref f))) (hf : isFn K (.ref f) = true)
    (hr : findIn K (.ref C) (dunderR op.info.2) = some none) (O : OthT K C op.info.2 T)
    (h : wpAny (model prog w) A (call (.ref f) [.ref x, b]) (PySem.W.CmpBack Q) E s) : wpAny (model prog w) A (binaryOp op (.ref x) b) Q E s := by
  obtain ⟨cd, more, hcd, hm⟩ := ksp_first hc
  obtain ⟨⟨fo, h1⟩, ⟨ro, h2⟩, hsub⟩ := O
  have one := ksp_try X J hs hf h
  rcases hi : op.info with ⟨sym, nm⟩
  rw [hi] at hs hr h1 h2 one
  dsimp only at hs hr h1 h2 one
  obtain ⟨hp, g, d, tk, os⟩ := s
  have la := J.type (M := model prog w)
  have lb := hb (model prog w)
  have lc := fills_K (M := model prog w) X hcd hm hs
  have ld := ksp_fillsT (M := model prog w) X h1 h2
  have le := looks_subIn (M := model prog w) X hsub
  have lf := ksp_inPy (M := model prog w) X hs hr (.inl rfl)
  have lg : Looks (model prog w) hp (numberSlotInPython (.type T) nm) false := .of_pure rfl
  have lh := looks_findIn (M := model prog w) X h2
  generalize ((fo.isSome && !isSeqSlot fo) || (ro.isSome && !isSeqSlot ro)) = right at ld
  have ne : (Value.ref C == Value.type T) = false := Bool.eq_false_iff.mpr fun q => by cases beq_iff_eq.mp q
  simp only [binaryOp, hi]
  refine wpAny_holding (wpAny_bind ?_)
  unfold binaryOp1
  refine wpAny_bind (la.at (wpAny_bind (lb.at (wpAny_bind (lc.at ?_)))))
  simp only [ne, if_false, Bool.false_eq_true]
  cases right <;>
  · ksp_lk
    refine wpAny_mono one (fun r s1 hz => ?_) fun _ _ e => e
    obtain ⟨v, rfl, q⟩ := hz
    ksp_lk
    exact q
end
section
variable {X : Cx} {CX : CXT} {k : Nat} {g C : Addr} {sp : Sp} {Ek : XK}
/-- the other one is of a built-in class -/
def rBinT (K : PySem.W.Frag) (C : Addr) (Ts : List String) (sp : Sp) (Ek : XK) : R2 := fun x y H Q => ∃ a dx fs t, x = .ref a ∧ H a = some (.ins C dx fs) ∧ t ∈ Ts ∧ TyX K H y (.type t) ∧ sp [.ref a, y] H Q Ek
theorem op_binT {op : Operator} {Ts : List String} (m : OwnM X.K C (PySem.dunder op.info.2) g) (hc : PySem.W.selfFirst X.K C = true) (hR : PySem.W.findIn X.K (.ref C) (dunderR op.info.2) = some none) (O : ∀ t ∈ Ts, OthT X.K C op.info.2 t) (F : FnR X.prog X.w X.K X.mg X.base CX k g sp) (hr : Room k X.A) (hx : Passes CX X Ek) :
    OpR X (binaryOp op) (rBinT X.K C Ts sp Ek) := by
  intro pins s σ H x y v u Q Iv rx ry h
  obtain ⟨a, dx, fs, t, rfl, ha, ht, ty, q⟩ := h
  cases rx
  obtain ⟨ox, od, J⟩ := inst_of Iv ha
  obtain ⟨Pz, Z, pz, _⟩ := kit_of Iv ry ty
  refine bin_other Iv.kIn J (fun M => Z.ty M _ Iv.kIn pz) hc m.at_ m.fn hR (O t ht) ?_
  refine wpAny_mono (run_below F hr rfl hx Iv (vs := [V.ref a, y]) (.cons rfl (.cons ry .nil)) q) (fun z s1 hz => ?_) fun _ _ e => e
  obtain ⟨z', H1, I1, rz, qz⟩ := hz
  exact SlX.cmpback rz ⟨z', H1, I1, rz, qz⟩
end
end DuX
/-! in, not in, ==, != of an own class's instances, told without the context -/
namespace DuX
open PySem PySem.Spec
open PyProof.Rows L2
section
variable {X : Cx} {CX : CXT} {k : Nat} {g C : Addr} {sp : Sp} {Ek : XK}
theorem op_ninO (m : OwnM X.K C "__contains__" g) (F : FnR X.prog X.w X.K X.mg X.base CX k g sp) (hr : Room k X.A) (hx : Passes CX X Ek) :
    OpR X (compareOp .NotIn) (fun x y H Q => ∃ a dx fs, y = .ref a ∧ H a = some (.ins C dx fs) ∧ sp [.ref a, x] H (fun v H' => ∃ b, v = .bl b ∧ Q (.bl (!b)) H') Ek) := by
  intro pins s σ H x y u v Q Iv rx ry hyp
  obtain ⟨a, dx, fs, rfl, atA, cont⟩ := hyp
  cases ry
  obtain ⟨ox, od, J⟩ := inst_of Iv atA
  obtain ⟨mm, hF⟩ := Iv.fr
  refine PySem.W.notIn_K hF Iv.ok.mod.kin J m.at_ m.fn ?_
  refine wpAny_mono (run_below F hr rfl hx Iv (vs := [V.ref a, x]) (.cons rfl (.cons rx .nil)) cont) (fun u' s1 hu => ?_) fun _ _ e => e
  obtain ⟨v', H1, Iv1, rv, b, rfl, q1⟩ := hu
  cases rv
  exact wpAny_truthy_bool ⟨.bl (!b), H1, Iv1, rfl, q1⟩
def rEqO (K : PySem.W.Frag) (C : Addr) (sp : Sp) : R2 := fun x y H Q => ∃ a dx fs t, x = .ref a ∧ H a = some (.ins C dx fs) ∧ TyX K H y t ∧ PySem.W.notFirst K C t = true ∧ sp [.ref a, y] H (fun v H' => ∃ b, v = .bl b ∧ Q (.bl b) H') E0
def rNeO (K : PySem.W.Frag) (C : Addr) (sp : Sp) : R2 := fun x y H Q => ∃ a dx fs t, x = .ref a ∧ H a = some (.ins C dx fs) ∧ TyX K H y t ∧ PySem.W.notFirst K C t = true ∧ sp [.ref a, y] H (fun v H' => ∃ b, v = .bl b ∧ Q (.bl (!b)) H') E0
def rHasO (C : Addr) (sp : Sp) : R2 := fun x y H Q => ∃ a dx fs, y = .ref a ∧ H a = some (.ins C dx fs) ∧ sp [.ref a, x] H (fun v H' => ∃ b, v = .bl b ∧ Q (.bl b) H') E0
def rNinO (C : Addr) (sp : Sp) : R2 := fun x y H Q => ∃ a dx fs, y = .ref a ∧ H a = some (.ins C dx fs) ∧ sp [.ref a, x] H (fun v H' => ∃ b, v = .bl b ∧ Q (.bl (!b)) H') E0
theorem op_eqX (m : OwnM X.K C "__eq__" g) (F : FnR X.prog X.w X.K X.mg X.base CX0 k g sp) (hr : Room k X.A) : OpR X (compareOp .Eq) (rEqO X.K C sp) := by
  intro pins s σ H x y u v Q I rx ry h
  obtain ⟨a, dx, fs, t, h1, h2, h3, h4, q⟩ := h
  exact op_eqO m F hr pass0 pins s σ H x y u v Q I rx ry ⟨a, dx, fs, t, h1, h2, fun pins σ s u Iv r M => by
    obtain ⟨Pz, Z, pz, _⟩ := kit_of Iv r h3
    exact Z.ty M s.heap Iv.kIn pz, h4, q⟩
theorem op_neX (m : OwnM X.K C "__eq__" g) (n : NeM X.K C) (F : FnR X.prog X.w X.K X.mg X.base CX0 k g sp) (hr : Room (k + 1) X.A) : OpR X (compareOp .NotEq) (rNeO X.K C sp) := by
  intro pins s σ H x y u v Q I rx ry h
  obtain ⟨a, dx, fs, t, h1, h2, h3, h4, q⟩ := h
  exact op_neO m n F hr pass0 pins s σ H x y u v Q I rx ry ⟨a, dx, fs, t, h1, h2, fun pins σ s u Iv r M => by
    obtain ⟨Pz, Z, pz, _⟩ := kit_of Iv r h3
    exact Z.ty M s.heap Iv.kIn pz, h4, q⟩
theorem op_inX (m : OwnM X.K C "__contains__" g) (F : FnR X.prog X.w X.K X.mg X.base CX0 k g sp) (hr : Room k X.A) : OpR X (compareOp .In) (rHasO C sp) := op_inO m F hr pass0
theorem op_ninX (m : OwnM X.K C "__contains__" g) (F : FnR X.prog X.w X.K X.mg X.base CX0 k g sp) (hr : Room k X.A) : OpR X (compareOp .NotIn) (rNinO C sp) := op_ninO m F hr pass0
end
/-! ### what is known of a def -/
structure Has (P : Program) (w : World) (K : PySem.W.Frag) (mg : Str → Option Value) (base : Heap) (CX : CXT) (k : Nat) (x : Str) (f : Addr) (ps : List Str) (sp : Sp) : Prop where
  gm : mg x = some (.ref f)
  kp : PySem.W.keepIn K (.ref f) = true
  ex : ∃ fd, FnOk P w K mg base CX k f fd ps sp ∧ L2.Binds K fd ps []
section
variable {X : Cx} {CX : CXT} {k : Nat} {x : Str} {f : Addr} {ps : List Str} {sp : Sp} {E : XK}
/-- x(e, ..) -/
theorem pe_has {e : Expr} {es : List Expr} {t : TA} {p pos : Pos} (F : Has X.prog X.w X.K X.mg X.base CX k x f ps sp) (hr : Room k X.A) (hg : Gl X x) (hx : Passes CX X E) (ha : PA X (e :: es) t) (hd : (x == ("__debug__" : Str)) = false := by decide)
    (hst : starEach (e :: es) X.env = (false, eval e X.env) :: starEach es X.env := by rfl) (hpl : (backTo pos (starEach es X.env)).any (·.1) = false := by rfl) :
    PE X (.Call (.Name x p) (e :: es) [] pos) (tCall sp [] E t) := by
  obtain ⟨gm, kp, fd, F, B⟩ := F
  exact pe_call F hr hg gm kp B .nil hx ha hd hst hpl
end
end DuX
/-! joined and sorted texts -/
namespace K1
open PySem PySem.Spec
open PyProof.Rows L2
def NotLt (a b : Str) : Prop := ¬ (b.cps.toList < a.cps.toList)
theorem notLt_of {a b : Str} (h : (!ltCps b.cps.toList a.cps.toList) = true) : NotLt a b := by
  rw [ltCps_eq] at h
  simpa [NotLt] using h
theorem notLt_trans {a b c : Str} (h1 : NotLt a b) (h2 : NotLt b c) : NotLt a c := by
  have h1 : a.cps.toList ≤ b.cps.toList := List.not_lt.mp h1
  have h2 : b.cps.toList ≤ c.cps.toList := List.not_lt.mp h2
  exact List.not_lt.mpr (List.le_trans h1 h2)
theorem notLt_anti {a b : Str} (h1 : NotLt a b) (h2 : NotLt b a) : a = b := by
  have h1 : a.cps.toList ≤ b.cps.toList := List.not_lt.mp h1
  have h2 : b.cps.toList ≤ a.cps.toList := List.not_lt.mp h2
  exact TL.ext_tl (List.le_antisymm h1 h2)
theorem rising_pw : ∀ (r : List Str) (p : Str), risingS p r = true → (p :: r).Pairwise NotLt
  | [], p, _ => List.pairwise_cons.mpr ⟨fun _ h => (by cases h), List.Pairwise.nil⟩
  | x :: r, p, h => by
    have h : (!ltCps x.cps.toList p.cps.toList && risingS x r) = true := h
    rw [Bool.and_eq_true] at h
    have ih := rising_pw r x h.2
    have h1 := notLt_of h.1
    refine List.pairwise_cons.mpr ⟨fun y hy => ?_, ih⟩
    rcases List.mem_cons.mp
        hy with e | e
    · rw [e]
      exact h1
    · exact notLt_trans h1 ((List.pairwise_cons.mp ih).1 y e)
theorem sorted_pw {xs : List Str} (h : sortedS xs = true) : xs.Pairwise NotLt := by
  cases xs with
  | nil => exact List.Pairwise.nil
  | cons x r => exact rising_pw r x h
theorem sorted_uniq {xs ys : List Str} (hx : sortedS xs = true) (hy : sortedS ys = true) (nx : xs.Nodup) (ny : ys.Nodup) (m : ∀ z, z ∈ xs ↔ z ∈ ys) : xs = ys :=
  List.Perm.eq_of_pairwise (le := NotLt) (fun a b _ _ h1 h2 => notLt_anti h1 h2) (sorted_pw hx) (sorted_pw hy) ((List.perm_ext_iff_of_nodup nx ny).mpr m)
end K1

namespace K1
open PySem PySem.Spec
open PyProof.Rows L2 EnT StX SmX TxS DuX ClX
/-! ### the signs of Members -/
theorem mk_names {C CN : Addr} {zs : List Str} {H : Hp} {Q : VK} {E : XK} (nm : ∀ z ∈ zs, nameB z = true) (hl : zs.length ≤ 1000)
    (q : ∀ b ys H', H b = none → Same H H' → (∀ z, z ∈ ys ↔ z ∈ zs) → MemAt C H' b ys → Q (.ref b) H') : spMk C CN (zs.map V.str) H Q E := by
  have hw : wrongIx (zs.map V.str) = none := wrong_none (List.all_eq_true.mpr fun v hv => by
    obtain ⟨z, hz, rfl⟩ := List.mem_map.mp hv
    exact nm z hz)
  refine ⟨fun v hv => ?_, by rw [List.length_map]; exact hl, fun i hi => (by rw [hw] at hi; cases hi), fun _ us eu b ws H' nb s m MA => ?_⟩
  · obtain ⟨z, hz, rfl⟩ := List.mem_map.mp hv
    exact .inl ⟨z, rfl, by have := name_short (nm z hz); rw [sizeLine_eq]; omega⟩
  · have eu2 : us = zs := (List.map_inj_right (fun _ _ h => V.str.inj h)).mp eu.symm
    subst eu2
    exact q b ws H' nb s m MA
/-- new Members of those that p tells -/
def MakesP (C : Addr) (p : Str → Prop) (H : Hp) (Q : VK) : Prop := ∀ (a : Addr) (ys : List Str) (H' : Hp), H a = none → Same H H' → (∀ z, z ∈ ys ↔ p z) → MemAt C H' a ys → Q (.ref a) H'
theorem MakesP.imp {C : Addr} {p p' : Str → Prop} {H H1 : Hp} {Q Q' : VK} (h : MakesP C p H Q) (s : Same H H1) (e : ∀ z, p' z ↔ p z) (q : ∀ a H', Q (.ref a) H' → Q' (.ref a) H') : MakesP C p' H1 Q' := fun a ys H' n s' m MA => q a H' (h a ys H' (by
  cases hh : H a with
  | none => rfl
  | some o =>
    rw [s _ _ hh] at n
    cases n) (s.trans s') (fun z => (m z).trans (e z)) MA)
abbrev rOr : Prop → Prop → Prop := fun a b => a ∨ b
abbrev rAnd : Prop → Prop → Prop := fun a b => a ∧ b
abbrev rSub : Prop → Prop → Prop := fun a b => a ∧ ¬ b
abbrev rXor : Prop → Prop → Prop := fun a b => (a ∧ ¬ b) ∨ (b ∧ ¬ a)
def spBinM (C : Addr) (r : Prop → Prop → Prop) : Sp := fun vs H Q _ => ∃ a b zs ws, vs = [.ref a, .ref b] ∧ MemAt C H a zs ∧ MemAt C H b ws ∧ zs.length + ws.length ≤ 1000 ∧ MakesP C (fun z => r (z ∈ zs) (z ∈ ws)) H Q
def spBadM (C CM : Addr) : Sp := fun vs H _ E => ∃ a zs v, vs = [.ref a, v] ∧ MemAt C H a zs ∧ VOk H v ∧ ErrAt CM "value" v H E
def spChkY (C : Addr) : Sp := fun vs H Q _ => ∃ b ws, vs = [.ref b] ∧ MemAt C H b ws ∧ Q .non H
def spChkN (CM : Addr) : Sp := fun vs H _ E => ∃ v, vs = [v] ∧ VOk H v ∧ ErrAt CM "value" v H E
/-- what the signs of Members lean on -/
structure Mb (P : Program) (w : World) (K : PySem.W.Frag) (mg : Str → Option Value) (base : Heap) (C CN CM : Addr) (mc : Value) : Prop where
  T : Free mg
  M : MemC K mg C
  I : MemIs K C
  sf : PySem.W.selfFirst K C = true
  chkY : ∃ f, Has P w K mg base (L2.CX P w) 3 "check_members" f ["value"] (spChkY C)
  chkN : ∃ f, Has P w K mg base (L2.CX P w) 3 "check_members" f ["value"] (spChkN CM)
  fromT : ∃ p g, SMet K C mc "from_names" p g ∧ FnR P w K mg base (L2.CX P w) 6 g (spFromT C CN)
  hasM : ∃ g, OwnM K C "__contains__" g ∧ FnR P w K mg base CX0 1 g (spHasM C)
  lenM : ∃ g, OwnM K C "__len__" g ∧ FnR P w K mg base CX0 1 g (spLenM C)
  prop : ∃ pN gN fdN, PropOf K C "names" pN gN ∧ FnOk P w K mg base CX0 1 gN fdN ["self"] (getSp C "_names") ∧ L2.Binds K fdN ["self"] []
  cr : CRead K C mc
section
variable {w : World} {P : Program} {base : Heap} {mg : Str → Option Value} {K : PySem.W.Frag} {C CN CM : Addr} {mc : Value}
theorem scErrM : FnScope ["self", "value"] ["self", "value"] (defScope sErrMem) := ⟨rfl, rfl, rfl, by decide +kernel, rfl, by decide +kernel, by decide +kernel⟩
theorem ok_errM {f C fI : Addr} {fd : FuncData} (F : Fun K "__init__" "NotMembers.__init__" sErrMem f fd) (T : ErrC K mg "NotMembers" "value" C fI) : FnOk P w K mg base CX0 1 f fd ["self", "value"] (spErr C "value") := by
  refine F.ok scErrM (fun vs H Q E h => ?_) (fun cdv A outer s H vs Q E hr h => ?_)
  · obtain ⟨a, v, rfl, _⟩ := h
    rfl
  · obtain ⟨a, v, rfl, ha, q⟩ := h
    exact ⟨_, pss_one (ps_ost (pv 0) (pv 1)), _, rfl, _, rfl, a, C, rfl, T.ox, T.no, .inl ⟨ha, fun d nd ne => q d nd ne⟩⟩
theorem scChkM : FnScope ["value"] ["value"] (defScope sChkM) := ⟨rfl, rfl, rfl, by decide +kernel, rfl, by decide +kernel, by decide +kernel⟩
theorem ok_chkY {f fE : Addr} {fd fdE : FuncData} (F : Fun K "check_members" "check_members" sChkM f fd) (T : Free mg) (M : MemC K mg C) (I : MemIs K C) (EM : ErrC K mg "NotMembers" "value" CM fE) (FE : Fun K "__init__" "NotMembers.__init__" sErrMem fE fdE) :
    FnOk P w K mg base (L2.CX P w) 3 f fd ["value"] (spChkY C) := by
  have bE : Binds K fdE ["self", "value"] [] := FE.binds (ps := ["self", "value"]) fun _ _ _ _ _ _ us hl => match us, hl with | [_, _], _ => rfl
  have GE : FnOk P w K mg base CX0 1 fE fdE ["self", "value"] (spErr CM "value") := ok_errM FE EM
  refine F.okX scChkM (fun vs H Q E h => ?_) (fun cdv A outer s H vs Q E hr h => ?_)
  · obtain ⟨b, ws, rfl, _⟩ := h
    rfl
  · obtain ⟨b, ws, rfl, m2, q⟩ := h
    obtain ⟨dx2, t2, d2, k1, k2, k3⟩ := m2.at_
    refine ⟨_, pss_one (ps_if (pt_not (pt_val (pe_callB call_isi (by rfl) T.isinstance (by decide +kernel) (pa_cons (pv 0) (pa_cons (pe_glob (v := .ref C) (by rfl) M.g rfl) pa_nil)))))
        (pss_one (ps_raise rfl (takes_of rfl rfl rfl rfl) (pmk_oex EM.ox EM.ini EM.ty GE (hr.mono (by decide)) bE .nil pass0 rfl EM.g (pa_cons (pv 0) pa_nil)))) pss_nil), ?_⟩
    refine ⟨_, rfl, _, _, _, _, true, rfl, .own C, .base (.ins k1 M.cl I.ha I.hn I.htk I.hm), I.yes, true, rfl, ?_⟩
    exact iteF q
theorem ok_chkN {f fE : Addr} {fd fdE : FuncData} (F : Fun K "check_members" "check_members" sChkM f fd) (T : Free mg) (M : MemC K mg C) (I : MemIs K C) (EM : ErrC K mg "NotMembers" "value" CM fE) (FE : Fun K "__init__" "NotMembers.__init__" sErrMem fE fdE) :
    FnOk P w K mg base (L2.CX P w) 3 f fd ["value"] (spChkN CM) := by
  have bE : Binds K fdE ["self", "value"] [] := FE.binds (ps := ["self", "value"]) fun _ _ _ _ _ _ us hl => match us, hl with | [_, _], _ => rfl
  have GE : FnOk P w K mg base CX0 1 fE fdE ["self", "value"] (spErr CM "value") := ok_errM FE EM
  refine F.okX scChkM (fun vs H Q E h => ?_) (fun cdv A outer s H vs Q E hr h => ?_)
  · obtain ⟨v, rfl, _⟩ := h
    rfl
  · obtain ⟨v, rfl, hv, q⟩ := h
    obtain ⟨ty, ht, tx⟩ := hv.ty (K := K)
    refine ⟨_, pss_one (ps_if (pt_not (pt_val (pe_callB call_isi (by rfl) T.isinstance (by decide +kernel) (pa_cons (pv 0) (pa_cons (pe_glob (v := .ref C) (by rfl) M.g rfl) pa_nil)))))
        (pss_one (ps_raise rfl (takes_of rfl rfl rfl rfl) (pmk_oex EM.ox EM.ini EM.ty GE (hr.mono (by decide)) bE .nil pass0 rfl EM.g (pa_cons (pv 0) pa_nil)))) pss_nil), ?_⟩
    refine ⟨_, rfl, _, _, _, _, false, rfl, .own C, tx, I.no ty ht, false, rfl, ?_⟩
    refine iteT ?_
    refine ⟨_, rfl, (by show 1 ≤ 1000; decide), fun x nx => ⟨x, _, rfl, upd_same, fun d nd ne => ⟨rfl, d, [("value", v)], upd_same, ?_, ?_, ?_⟩⟩⟩
    · rw [upd_ne ne, upd_same]
    · rw [upd_ne ne] at nd
      exact nd
    · rw [raise_heap nx ne]
      rw [upd_ne ne] at nd
      exact q d H (Same.refl H) nd
abbrev nmSO : List Str := ["self", "other"]
theorem scOrM : FnScope nmSO nmSO (defScope sOrM) := ⟨rfl, rfl, rfl, by decide +kernel, rfl, by decide +kernel, by decide +kernel⟩
theorem ok_orM {f : Addr} {fd : FuncData} (F : Fun K "__or__" "Members.__or__" sOrM f fd) (B : Mb P w K mg base C CN CM mc) : FnOk P w K mg base (L2.CX P w) 7 f fd nmSO (spBinM C rOr) := by
  obtain ⟨fC, hC⟩ := B.chkY
  obtain ⟨pF, gF, mF, FF⟩ := B.fromT
  obtain ⟨pN, gN, fdN, pr, GN, bN⟩ := B.prop
  have M := B.M
  refine F.okX scOrM (fun vs H Q E h => ?_) (fun cdv A outer s H vs Q E hr h => ?_)
  · obtain ⟨a, b, zs, ws, rfl, _⟩ := h
    rfl
  · obtain ⟨a, b, zs, ws, rfl, m1, m2, hl, q⟩ := h
    obtain ⟨dx, t, d, h1, h2, h3⟩ := m1.at_
    obtain ⟨dy, t2, d2, k1, k2, k3⟩ := m2.at_
    refine ⟨_, pss_cons (ps_expr (pe_has hC (hr.mono (by decide)) (by rfl) (passes_call (takes_of rfl rfl rfl rfl) fun _ _ _ _ h => h) (pa_cons (pv 1) pa_nil)))
      (pss_one (ps_ret (pe_smeth (pe_glob (v := .ref C) (by rfl) M.g rfl) B.cr mF FF hr (passes_call (takes_of rfl rfl rfl rfl) fun _ _ _ _ h => h) (pa_cons (pe_op op_catA (pe_fld (pv 0) rfl) (pe_prop (pv 1) M.cl pr GN (hr.mono (by decide)) bN .nil pass0 rfl)) pa_nil)))), ?_⟩
    have nm : ∀ z ∈ zs ++ ws, nameB z = true := fun z hz => (List.mem_append.mp hz).elim (m1.nm z) (m2.nm z)
    have hl2 : (zs ++ ws).length ≤ 1000 := by rw [List.length_append]; exact hl
    have fin : ∀ (l : Addr) (H1 : Hp), Same H H1 → H1 l = some (.tup ((zs ++ ws).map V.str)) → spFromT C CN [.ref l] H1 Q E := fun l H1 s1 hl1 => ⟨l, _, rfl, hl1, mk_names nm hl2 (q.imp s1 (fun z => List.mem_append) fun _ _ h => h)⟩
    refine ⟨_, rfl, b, ws, rfl, m2, ?_⟩
    refine ⟨rfl, _, rfl, a, C, dx, _, _, rfl, h1, M.cl, M.nN, flds_names t d, _, rfl, b, dy, _, rfl, k1, b, dy, _, _, rfl, k1, flds_names t2 d2, ?_⟩
    refine ⟨t, t2, zs.map V.str, ws.map V.str, rfl, rfl, SqT.of h2, SqT.of k2, by rw [List.length_map, List.length_map, sizeLine_eq]; omega, fun e => ?_, fun n e => ?_, fun n n2 p np => ?_⟩
    · have e2 : zs = [] := List.map_eq_nil_iff.mp e
      exact fin t2 H (Same.refl H) (by rw [e2]; exact k2)
    · have e2 : ws = [] := List.map_eq_nil_iff.mp e
      exact fin t H (Same.refl H) (by rw [e2, List.append_nil]; exact h2)
    · exact fin p _ (same_upd np) (by rw [upd_same, List.map_append])
end
end K1

namespace K1
open PySem PySem.Spec
open PyProof.Rows L2 EnT StX SmX TxS DuX ClX
theorem len_sub : ∀ {ys zs : List Str}, ys.Nodup → (∀ z ∈ ys, z ∈ zs) → ys.length ≤ zs.length
  | [], _, _, _ => Nat.zero_le _
  | y :: r, zs, nd, s => by
    have nd' := List.nodup_cons.mp nd
    have hy := s y List.mem_cons_self
    have h := len_sub (zs := zs.erase y) nd'.2 fun z hz => (List.mem_erase_of_ne fun e => nd'.1 (by rw [← e]; exact hz)).mpr (s z (List.mem_cons_of_mem _ hz))
    rw [List.length_erase_of_mem hy] at h
    have := List.length_pos_of_mem hy
    rw [List.length_cons]
    omega
theorem upd_upd {H : Hp} {d : Addr} {x y : HO} : upd (upd H d x) d y = upd H d y := by
  funext b
  by_cases h : b = d
  · rw [h, upd_same, upd_same]
  · rw [upd_ne h, upd_ne h, upd_ne h]
theorem filt_succ {zs : List Str} {i : Nat} {z : Str} {p : Str → Bool} (h : zs[i]? = some z) : (zs.take (i + 1)).filter p = (zs.take i).filter p ++ if p z = true then [z] else [] := by
  rw [List.take_add_one, h, List.filter_append]
  congr 1
  by_cases e : p z = true
  · rw [if_pos e]
    simp [e]
  · rw [if_neg e]
    simp [e]
theorem map_succ {zs : List Str} {i : Nat} {z : Str} {g : Str → V} (h : zs[i]? = some z) : (zs.take (i + 1)).map g = (zs.take i).map g ++ [g z] := by
  rw [List.take_add_one, h, List.map_append]
  rfl
theorem filt_len {zs : List Str} {p : Str → Bool} {n : Nat} (h : zs.length ≤ n) : (zs.filter p).length ≤ n := Nat.le_trans (List.length_filter_le _ _) h
section
variable {w : World} {P : Program} {base : Heap} {mg : Str → Option Value} {K : PySem.W.Frag} {C CN CM : Addr} {mc : Value}
abbrev nmSON : List Str := ["self", "other", "name"]
theorem scAndM : FnScope nmSON nmSO (defScope sAndM) := ⟨rfl, rfl, rfl, by decide +kernel, rfl, by decide +kernel, by decide +kernel⟩
theorem scSubM : FnScope nmSON nmSO (defScope sSubM) := ⟨rfl, rfl, rfl, by decide +kernel, rfl, by decide +kernel, by decide +kernel⟩
theorem ok_andM {f : Addr} {fd : FuncData} (F : Fun K "__and__" "Members.__and__" sAndM f fd) (B : Mb P w K mg base C CN CM mc) : FnOk P w K mg base (L2.CX P w) 7 f fd nmSO (spBinM C rAnd) := by
  obtain ⟨fC, hC⟩ := B.chkY
  obtain ⟨pF, gF, mF, FF⟩ := B.fromT
  obtain ⟨gH, mH, FH⟩ := B.hasM
  have M := B.M
  refine F.okX scAndM (fun vs H Q E h => ?_) (fun cdv A outer s H vs Q E hr h => ?_)
  · obtain ⟨a, b, zs, ws, rfl, _⟩ := h
    rfl
  · obtain ⟨a, b, zs, ws, rfl, m1, m2, hl, q⟩ := h
    obtain ⟨dx, t, d, h1, h2, h3⟩ := m1.at_
    obtain ⟨dy, t2, d2, k1, k2, k3⟩ := m2.at_
    refine ⟨_, pss_cons (ps_expr (pe_has hC (hr.mono (by decide)) (by rfl) (passes_call (takes_of rfl rfl rfl rfl) fun _ _ _ _ h => h) (pa_cons (pv 1) pa_nil)))
      (pss_one (ps_ret (pe_smeth (pe_glob (v := .ref C) (by rfl) M.g rfl) B.cr mF FF hr (passes_call (takes_of rfl rfl rfl rfl) fun _ _ _ _ h => h) (pa_cons (pe_callTy call_tuple_of (by rfl) B.T.tuple (by decide +kernel) (pa_cons
        (pe_lc (own := [("name", 2)]) (g := gName 2) (tt := tTest (tOp (rHasO C (spHasM C)) (tVar 2) (tVar 1))) rfl scAndM.nd (pi_tup (pe_fld (pv 0) rfl)) (blkOk_by (own := [("name", 2)]) (N := nmSON) (sc := defScope sAndM) (by decide +kernel)) (fun _ _ _ _ _ => pg_name (i := 2) scAndM.nd rfl (Or.inl rfl))
          (fun _ _ _ _ _ => pts_one (pt_cmpR (op_inX mH FH (hr.mono (by decide))) (pv 2) (pv 1) (by rfl))) (fun _ _ _ _ _ => pv 2)) pa_nil)) pa_nil)))), ?_⟩
    refine ⟨_, rfl, b, ws, rfl, m2, rfl, ?_⟩
    refine ⟨_, rfl, a, C, dx, _, _, rfl, h1, M.cl, M.nN, flds_names t d, t, rfl, ⟨_, SqT.of h2⟩, fun D nD => ?_⟩
    refine lc_tup (K := K) (a := t) (xs := zs.map V.str) (fun i H' => H' = upd H D (.lst (((zs.take i).filter fun z => decide (z ∈ ws)).map V.str))) rfl (fun i H' hi e => ?_) (fun i x H' hx e => ?_) (fun H' e => ?_)
    · subst e
      exact SqT.of (same_upd nD _ _ h2)
    · subst e
      rw [List.getElem?_map] at hx
      obtain ⟨z, hz, rfl⟩ := Option.map_eq_some_iff.mp hx
      have s1 : Same H (upd H D (.lst (((zs.take i).filter fun z => decide (z ∈ ws)).map V.str))) := same_upd nD
      refine ⟨rfl, ?_⟩
      refine ⟨_, rfl, _, rfl, b, dy, _, rfl, s1 _ _ k1, b, ws, _, rfl, m2.same s1, .inl ⟨z, rfl, by have := name_short (m1.nm z (List.mem_of_getElem? hz)); rw [sizeLine_eq]; omega⟩, _, rfl, _, rfl, ?_⟩
      have e1 : hasV ws (V.str z) = decide (z ∈ ws) := rfl
      rw [e1, filt_succ hz]
      by_cases hm : z ∈ ws
      · rw [decide_eq_true hm, if_pos rfl]
        refine iteT ⟨_, rfl, _, upd_same, ?_, ?_⟩
        · have : (((zs.take i).filter fun z => decide (z ∈ ws))).length ≤ 1000 := filt_len (by rw [List.length_take]; omega)
          rw [List.length_map, sizeLine_eq]
          omega
        · rw [upd_upd, List.map_append]
          rfl
      · rw [decide_eq_false hm, if_neg (by decide), List.append_nil]
        exact iteF rfl
    · subst e
      rw [List.length_map, List.take_length]
      have s1 : Same H (upd H D (.lst ((zs.filter fun z => decide (z ∈ ws)).map V.str))) := same_upd nD
      refine ⟨D, _, rfl, .inl ⟨SqL.of upd_same, fun l nl => ?_⟩⟩
      have s2 := same_upd (o := .tup ((zs.filter fun z => decide (z ∈ ws)).map V.str)) nl
      exact ⟨l, _, rfl, upd_same, mk_names (fun z hz => m1.nm z (List.mem_filter.mp hz).1) (filt_len (by omega)) (q.imp (s1.trans s2) (fun z => by rw [List.mem_filter, decide_eq_true_iff]) fun _ _ h => h)⟩
theorem ok_subM {f : Addr} {fd : FuncData} (F : Fun K "__sub__" "Members.__sub__" sSubM f fd) (B : Mb P w K mg base C CN CM mc) : FnOk P w K mg base (L2.CX P w) 7 f fd nmSO (spBinM C rSub) := by
  obtain ⟨fC, hC⟩ := B.chkY
  obtain ⟨pF, gF, mF, FF⟩ := B.fromT
  obtain ⟨gH, mH, FH⟩ := B.hasM
  have M := B.M
  refine F.okX scSubM (fun vs H Q E h => ?_) (fun cdv A outer s H vs Q E hr h => ?_)
  · obtain ⟨a, b, zs, ws, rfl, _⟩ := h
    rfl
  · obtain ⟨a, b, zs, ws, rfl, m1, m2, hl, q⟩ := h
    obtain ⟨dx, t, d, h1, h2, h3⟩ := m1.at_
    obtain ⟨dy, t2, d2, k1, k2, k3⟩ := m2.at_
    refine ⟨_, pss_cons (ps_expr (pe_has hC (hr.mono (by decide)) (by rfl) (passes_call (takes_of rfl rfl rfl rfl) fun _ _ _ _ h => h) (pa_cons (pv 1) pa_nil)))
      (pss_one (ps_ret (pe_smeth (pe_glob (v := .ref C) (by rfl) M.g rfl) B.cr mF FF hr (passes_call (takes_of rfl rfl rfl rfl) fun _ _ _ _ h => h) (pa_cons (pe_callTy call_tuple_of (by rfl) B.T.tuple (by decide +kernel) (pa_cons
        (pe_lc (own := [("name", 2)]) (g := gName 2) (tt := tTest (tOp (rNinO C (spHasM C)) (tVar 2) (tVar 1))) rfl scSubM.nd (pi_tup (pe_fld (pv 0) rfl)) (blkOk_by (own := [("name", 2)]) (N := nmSON) (sc := defScope sSubM) (by decide +kernel)) (fun _ _ _ _ _ => pg_name (i := 2) scSubM.nd rfl (Or.inl rfl))
          (fun _ _ _ _ _ => pts_one (pt_cmpR (op_ninX mH FH (hr.mono (by decide))) (pv 2) (pv 1) (by rfl))) (fun _ _ _ _ _ => pv 2)) pa_nil)) pa_nil)))), ?_⟩
    refine ⟨_, rfl, b, ws, rfl, m2, rfl, ?_⟩
    refine ⟨_, rfl, a, C, dx, _, _, rfl, h1, M.cl, M.nN, flds_names t d, t, rfl, ⟨_, SqT.of h2⟩, fun D nD => ?_⟩
    refine lc_tup (K := K) (a := t) (xs := zs.map V.str) (fun i H' => H' = upd H D (.lst (((zs.take i).filter fun z => !decide (z ∈ ws)).map V.str))) rfl (fun i H' hi e => ?_) (fun i x H' hx e => ?_) (fun H' e => ?_)
    · subst e
      exact SqT.of (same_upd nD _ _ h2)
    · subst e
      rw [List.getElem?_map] at hx
      obtain ⟨z, hz, rfl⟩ := Option.map_eq_some_iff.mp hx
      have s1 : Same H (upd H D (.lst (((zs.take i).filter fun z => !decide (z ∈ ws)).map V.str))) := same_upd nD
      refine ⟨rfl, ?_⟩
      refine ⟨_, rfl, _, rfl, b, dy, _, rfl, s1 _ _ k1, b, ws, _, rfl, m2.same s1, .inl ⟨z, rfl, by have := name_short (m1.nm z (List.mem_of_getElem? hz)); rw [sizeLine_eq]; omega⟩, _, rfl, _, rfl, ?_⟩
      have e1 : hasV ws (V.str z) = decide (z ∈ ws) := rfl
      rw [e1, filt_succ hz]
      by_cases hm : z ∈ ws
      · rw [decide_eq_true hm, if_neg (by decide), List.append_nil]
        exact iteF rfl
      · rw [decide_eq_false hm, Bool.not_false, if_pos rfl]
        refine iteT ⟨_, rfl, _, upd_same, ?_, ?_⟩
        · have : (((zs.take i).filter fun z => !decide (z ∈ ws))).length ≤ 1000 := filt_len (by rw [List.length_take]; omega)
          rw [List.length_map, sizeLine_eq]
          omega
        · rw [upd_upd, List.map_append]
          rfl
    · subst e
      rw [List.length_map, List.take_length]
      have s1 : Same H (upd H D (.lst ((zs.filter fun z => !decide (z ∈ ws)).map V.str))) := same_upd nD
      refine ⟨D, _, rfl, .inl ⟨SqL.of upd_same, fun l nl => ?_⟩⟩
      have s2 := same_upd (o := .tup ((zs.filter fun z => !decide (z ∈ ws)).map V.str)) nl
      exact ⟨l, _, rfl, upd_same, mk_names (fun z hz => m1.nm z (List.mem_filter.mp hz).1) (filt_len (by omega)) (q.imp (s1.trans s2) (fun z => by rw [List.mem_filter]; simp) fun _ _ h => h)⟩
/-! a sign with what is no Members -/
theorem ok_orN {f : Addr} {fd : FuncData} (F : Fun K "__or__" "Members.__or__" sOrM f fd) (B : Mb P w K mg base C CN CM mc) : FnOk P w K mg base (L2.CX P w) 7 f fd nmSO (spBadM C CM) := by
  obtain ⟨fC, hC⟩ := B.chkN
  obtain ⟨pF, gF, mF, FF⟩ := B.fromT
  obtain ⟨pN, gN, fdN, pr, GN, bN⟩ := B.prop
  have M := B.M
  refine F.okX scOrM (fun vs H Q E h => ?_) (fun cdv A outer s H vs Q E hr h => ?_)
  · obtain ⟨a, zs, v, rfl, _⟩ := h
    rfl
  · obtain ⟨a, zs, v, rfl, m1, hv, qE⟩ := h
    exact ⟨_, pss_cons (ps_expr (pe_has hC (hr.mono (by decide)) (by rfl) (passes_call (takes_of rfl rfl rfl rfl) fun _ _ _ _ h => h) (pa_cons (pv 1) pa_nil)))
      (pss_one (ps_ret (pe_smeth (pe_glob (v := .ref C) (by rfl) M.g rfl) B.cr mF FF hr (passes_call (takes_of rfl rfl rfl rfl) fun _ _ _ _ h => h) (pa_cons (pe_op op_catA (pe_fld (pv 0) rfl) (pe_prop (pv 1) M.cl pr GN (hr.mono (by decide)) bN .nil pass0 rfl)) pa_nil)))), _, rfl, v, rfl, hv, qE⟩
theorem ok_andN {f : Addr} {fd : FuncData} (F : Fun K "__and__" "Members.__and__" sAndM f fd) (B : Mb P w K mg base C CN CM mc) : FnOk P w K mg base (L2.CX P w) 7 f fd nmSO (spBadM C CM) := by
  obtain ⟨fC, hC⟩ := B.chkN
  obtain ⟨pF, gF, mF, FF⟩ := B.fromT
  obtain ⟨gH, mH, FH⟩ := B.hasM
  have M := B.M
  refine F.okX scAndM (fun vs H Q E h => ?_) (fun cdv A outer s H vs Q E hr h => ?_)
  · obtain ⟨a, zs, v, rfl, _⟩ := h
    rfl
  · obtain ⟨a, zs, v, rfl, m1, hv, qE⟩ := h
    exact ⟨_, pss_cons (ps_expr (pe_has hC (hr.mono (by decide)) (by rfl) (passes_call (takes_of rfl rfl rfl rfl) fun _ _ _ _ h => h) (pa_cons (pv 1) pa_nil)))
      (pss_one (ps_ret (pe_smeth (pe_glob (v := .ref C) (by rfl) M.g rfl) B.cr mF FF hr (passes_call (takes_of rfl rfl rfl rfl) fun _ _ _ _ h => h) (pa_cons (pe_callTy call_tuple_of (by rfl) B.T.tuple (by decide +kernel) (pa_cons
        (pe_lc (own := [("name", 2)]) (g := gName 2) (tt := tTest (tOp (rHasO C (spHasM C)) (tVar 2) (tVar 1))) rfl scAndM.nd (pi_tup (pe_fld (pv 0) rfl)) (blkOk_by (own := [("name", 2)]) (N := nmSON) (sc := defScope sAndM) (by decide +kernel)) (fun _ _ _ _ _ => pg_name (i := 2) scAndM.nd rfl (Or.inl rfl))
          (fun _ _ _ _ _ => pts_one (pt_cmpR (op_inX mH FH (hr.mono (by decide))) (pv 2) (pv 1) (by rfl))) (fun _ _ _ _ _ => pv 2)) pa_nil)) pa_nil)))), _, rfl, v, rfl, hv, qE⟩
theorem ok_subN {f : Addr} {fd : FuncData} (F : Fun K "__sub__" "Members.__sub__" sSubM f fd) (B : Mb P w K mg base C CN CM mc) : FnOk P w K mg base (L2.CX P w) 7 f fd nmSO (spBadM C CM) := by
  obtain ⟨fC, hC⟩ := B.chkN
  obtain ⟨pF, gF, mF, FF⟩ := B.fromT
  obtain ⟨gH, mH, FH⟩ := B.hasM
  have M := B.M
  refine F.okX scSubM (fun vs H Q E h => ?_) (fun cdv A outer s H vs Q E hr h => ?_)
  · obtain ⟨a, zs, v, rfl, _⟩ := h
    rfl
  · obtain ⟨a, zs, v, rfl, m1, hv, qE⟩ := h
    exact ⟨_, pss_cons (ps_expr (pe_has hC (hr.mono (by decide)) (by rfl) (passes_call (takes_of rfl rfl rfl rfl) fun _ _ _ _ h => h) (pa_cons (pv 1) pa_nil)))
      (pss_one (ps_ret (pe_smeth (pe_glob (v := .ref C) (by rfl) M.g rfl) B.cr mF FF hr (passes_call (takes_of rfl rfl rfl rfl) fun _ _ _ _ h => h) (pa_cons (pe_callTy call_tuple_of (by rfl) B.T.tuple (by decide +kernel) (pa_cons
        (pe_lc (own := [("name", 2)]) (g := gName 2) (tt := tTest (tOp (rNinO C (spHasM C)) (tVar 2) (tVar 1))) rfl scSubM.nd (pi_tup (pe_fld (pv 0) rfl)) (blkOk_by (own := [("name", 2)]) (N := nmSON) (sc := defScope sSubM) (by decide +kernel)) (fun _ _ _ _ _ => pg_name (i := 2) scSubM.nd rfl (Or.inl rfl))
          (fun _ _ _ _ _ => pts_one (pt_cmpR (op_ninX mH FH (hr.mono (by decide))) (pv 2) (pv 1) (by rfl))) (fun _ _ _ _ _ => pv 2)) pa_nil)) pa_nil)))), _, rfl, v, rfl, hv, qE⟩
end
end K1
/-! l.count(True), l a list of truths -/
namespace CnB
open PySem PySem.Spec
open PyProof.Rows L2
def tru : Value → Bool
  | .bool b => b
  | _ => false
theorem tru_vals : ∀ {bs : List Bool} {its : List Value}, Vals (bs.map V.bl) its → its.countP tru = bs.count true ∧ ∀ u ∈ its, ∃ b, u = .bool b
  | [], _, h => by
    cases h
    exact ⟨rfl, fun u z => by cases z⟩
  | b :: r, _, h => by
    cases h with
    | cons h1 h2 =>
      cases h1
      obtain ⟨e1, e2⟩ := tru_vals h2
      refine ⟨?_, fun u hu => ?_⟩
      · rw [List.countP_cons, e1, List.count_cons]
        cases b <;> rfl
      · rcases List.mem_cons.mp hu with e | e
        · exact ⟨b, e⟩
        · exact e2 u e
def rCntB (K : PySem.W.Frag) : V → List V → Hp → VK → Prop := fun x xs H Q => ∃ (p : Addr) (bs : List Bool), x = .ref p ∧ xs = [.bl true] ∧ SqL K H p (bs.map V.bl) ∧ Q (.int (bs.count true : Nat)) H
section
variable {X : Cx}
theorem mt_lcountB : MtR X "list.count" (rCntB X.K) := by
  intro pins s σ H x xs v us Q Iv rx rxs h
  obtain ⟨p, bs, rfl, rfl, hs, q⟩ := h
  cases rx
  obtain ⟨u, rfl,
      ru⟩ := rxs.one
  cases ru
  obtain ⟨its, rv, ⟨⟨cls, dd, data, sl⟩, n, ho, hc, hdn, hd⟩, hlen⟩ := Iv.list hs
  simp only at hc hd
  subst hc hd
  obtain ⟨ec, eb⟩ := tru_vals rv
  refine call_meets PySem.F.slot_list_count ⟨_, ho,
      rfl⟩ PySem.F.entry_list_count (PySem.F.args_list_count_2 _ _)
    (SeqAt.list_countAt p its.toArray n dd sl (.bool true) tru) ⟨ho, fun y hy => ?_, ?_⟩
  · obtain ⟨b, rfl⟩ := eb y (by simpa using hy)
    have z := eqAt_V (A := X.A.in1) (s := s) (y := .bl b) (x := .bl true) rfl rfl rfl rfl
    have e : eqV (.bl b) (.bl true) = b := by cases b <;> rfl
    rw [e] at z
    exact z
  · have e2 : its.toArray.toList.countP tru = bs.count true := ec
    refine ⟨.int (bs.count true : Nat), H, Iv.tok _, ⟨s.toks, ?_⟩, q⟩
    show Value.int ((its.toArray.toList.countP tru : Nat) : Int) _ = Value.int ((bs.count true : Nat) : Int) _
    rw [e2]
end
end CnB
/-! != of two lists whose items are equal one by one, by the items' own == -/
namespace NeL
open PySem PySem.SeqAt
open AutoSeq1
    (wpAny_loadPart')
open MeetsSeq MeetsSeq2
open MeetsSeq3 SeqRoads2
section
variable {w : World} {prog : Program}
variable {R : Result → Shared → Prop} {A : Around}
theorem loop3 (l b : Addr) (N : Nat) (J : Nat → Shared → Prop) (hl : GQ.ListI prog w A (fun e s' => R (.error e) s') l b N J)
    (fin : ∀ s, J N s → R (.ok (.ret (.bool false))) s) (m : Nat) :
    ∀ i : Nat, N - i = m → i ≤ N → ∀ s, J i s →
      wpAny (model prog w) A.in1 (Builtin.«list.__eq__.loop» ⟨[.ref l, .ref b, rawInt i, rawInt 3], []⟩) (GQ.FinOf prog w A R) (fun e s' => R (.error e) s') s := by
  induction m with
  | zero =>
    intro i hm hi s hj
    obtain ⟨xs, ys, n, n2, atL, atB, szX, szY, _⟩ := hl _ _ hj
    have ei : i = N := by omega
    have done : R (.ok (.ret (.bool false))) s := fin s (ei ▸ hj)
    obtain ⟨hp, g,
        d, tk, os⟩ := s
    wp_walk using wpAny_loadPart' atL, wpAny_loadPart' atB
    have no1 : xs[((i : Nat) : Int).toNat]? = none := by simp; omega
    have no2 : ys[((i : Nat) : Int).toNat]? = none := by simp; omega
    rw [no1, no2]
    wp_walk using wpAny_loadPart' atL, wpAny_loadPart' atB
    show R (.ok (.ret (.bool (xs.size != ys.size)))) _
    rw [szX, szY]
    simpa using done
  | succ m ih =>
    intro i hm hi s hj
    obtain ⟨xs, ys, n, n2, atL, atB, szX, szY, turn⟩ := hl _ _ hj
    have l1 : i < xs.size := by omega
    have l2 : i < ys.size := by omega
    have tt := turn l1 l2
    obtain ⟨hp, g,
        d, tk, os⟩ := s
    wp_walk using wpAny_loadPart' atL, wpAny_loadPart' atB
    have is1 : xs[((i : Nat) : Int).toNat]? = some xs[i] := by simp [l1]
    have is2 : ys[((i : Nat) : Int).toNat]? = some ys[i] := by simp [l2]
    have next : ((i : Int) + 1) = ((i + 1 : Nat) : Int) := by omega
    rw [is1, is2]
    refine wpAny_bind (wpAny_mono tt (fun r s2 h2 => ?_) fun _ _ x => x)
    obtain ⟨er, h2⟩ := h2
    subst er
    have go := ih (i + 1) (by omega) (by omega) s2 h2
    obtain ⟨hp2, g2,
        d2, tk2, os2⟩ := s2
    wp_walk
    rw [next]
    exact ⟨plainId_quiet plain_eq_loop
        _, codeAny_builtin entry_eq_loop (by
      rw [Around.under_plainId plain_eq_loop _]; exact go)⟩
theorem list_neG (l b : Addr) (N : Nat) (J : Nat → Shared → Prop) (hl : GQ.ListI prog w A (fun e s' => R (.error e) s') l b N J)
    (fin : ∀ s, J N s → R (.ok (.ret (.bool false))) s) {s : Shared} (hj : J 0 s) :
    wpAny (model prog w) A.in1 (Builtin.«list.__ne__» ⟨[.ref l, .ref b], []⟩) (GQ.FinOf prog w A R) (fun e s' => R (.error e) s') s := by
  obtain ⟨xs, ys, n, n2, atL, atB, szX, szY, _⟩ := hl _ _ hj
  have go := loop3 (A := A) (R := R) l b N J hl fin _ 0 rfl (Nat.zero_le _) s hj
  obtain ⟨hp, g,
      d, tk, os⟩ := s
  have sub := AutoSeq1.sub_list_list
  have same : ¬ (xs.size != ys.size) = true := by simp [szX, szY]
  wp_walk using wpAny_loadPart' atL, wpAny_loadPart' atB
  exact ⟨plainId_quiet plain_eq_loop
      _, codeAny_builtin entry_eq_loop (by
    rw [Around.under_plainId plain_eq_loop _]; exact go)⟩
end
section
variable {w : World} {prog : Program}
variable {E : Value → Shared → Prop} {A : Around} {s : Shared}
theorem rc_neG {l b : Addr} {N : Nat} {Q : Value → Shared → Prop} (hu : A.units < cLine) (J : Nat → Shared → Prop) (hl : GQ.ListI prog w A E l b N J)
    (fin : ∀ s, J N s → Q (.bool false) s) (hj : J 0 s) : wpAny (model prog w) A (richCompare .NotEq (.ref l) (.ref b)) Q E s := by
  obtain ⟨xs, ys, n, n2, atL, atB, _, _, _⟩ := hl _ _ hj
  refine wpAny_richCompare_same_room (op := .NotEq) ⟨_, atL, rfl⟩ ⟨_, atB, rfl⟩ F.slot_list_ne (GQ.call_here F.slot_list_ne ⟨_, atL, rfl⟩ F.entry_list_ne (F.args_list_ne_2 _ _) ?_) hu
  exact list_neG (R := wants (fun v s' => v ≠ .notImplemented ∧ Q v s') E) l b N J hl (fun s' q => ⟨(fun x => nomatch x), fin s' q⟩) hj
end
open PySem.Spec PyProof.Rows L2
section
variable {X : Cx} {n : Nat} {D : Eqv}
/-- x != y as an expression: the lists' items are equal -/
theorem op_neG (hD : Mon D) (h : EqG X n D) (hr : Room (n + 1) X.A) : OpR X (compareOp .NotEq) (fun x y H Q => DList D x y H ∧ ∀ H', L2.Ext H H' → Q (.bl false) H') := by
  intro pins s σ H x y v u Q Iv rx ry hq
  obtain ⟨⟨a, b, xs, ys, rfl, rfl, ha, hb, p⟩, q⟩ := hq
  cases rx
  cases ry
  have sb : Sub X (n + 1) X.A := ⟨hr, rfl⟩
  show wpAny (model X.prog X.w) X.A (richCompare .NotEq (.ref a) (.ref b)) (EP X pins σ Q) X.xe s
  refine rc_neG (N := xs.length) hr.units0 (fun _ s' => LoopI X pins σ H s') (fun i s' l => ?_) (fun s' l => ?_) ⟨H, Iv, L2.Ext.rfl'⟩
  · obtain ⟨H1, I1, e1⟩ := id l
    obtain ⟨z, its, k, r, e⟩
        := I1.hok a _ (e1 _ _ ha)
    obtain ⟨z2, its2, k2, r2,
        e2⟩ := I1.hok b _ (e1 _ _ hb)
    refine ⟨its.toArray, its2.toArray, k, k2, e, e2, by rw [List.size_toArray,
        ← r.length], by rw [List.size_toArray, ← r2.length, ← p.1], fun h1 h2 => ?_⟩
    exact turnG hD h sb p r r2 i h1 h2 s' l
  · obtain ⟨H1, I1, e1⟩ := l
    exact ⟨.bl false, H1, I1, rfl, q H1 e1⟩
end
end NeL

/-! isinstance of a caught error that has attributes -/
namespace XdI
open PySem PySem.Spec
    PySem.Calls
open PyProof.Rows PySem.W
section
variable {s : Shared} {prog : Program} {w : World}
variable {E : Value → Shared → Prop} {A : Around} {K : Frag} {x D : Addr} {ox od : Obj}
theorem cls_dict {Q : Option Value → Shared → Prop} (gA : findIn K (.ref D) "__getattribute__" = some (some (.builtin "BaseException.__getattribute__"))) (gT : findIn K (.ref D) "__getattr__" = some none) (sB : subIn K (.ref D) (.type "BaseException") = some true)
    (dC : hasDictIn K D = true) (cA : findIn K (.ref D) "__class__" = some (some (.builtin "object.__class__")))
    (sG : specialIn K (.builtin "object.__class__") "__get__" = some (some (.builtin "getset_descriptor.__get__"))) (tA : takesIn K (.builtin "object.__class__") = some true) (mO : mroIn K D (.type "object") = some true)
    (Kn : K.In s.heap) (Iv : InstAt s.heap x ox D (some od)) (h : Q (some (.ref D)) { s with toks := s.toks + 1 }) : wpAny (model prog w) A (getAttr? (.ref x) "__class__") Q E s := by
  have fO : findObj K D (some od) "__class__" = some (.bind (.builtin "getset_descriptor.__get__") (.builtin "object.__class__")) := findObj_data (by obtain ⟨cd, hc, _⟩ := any_some dC; rw [hc]; rfl) cA sG tA
  obtain ⟨hp, g, d, t, os⟩ := s
  have M0 := Iv.type (M := model prog w)
  have M1 := looks_findIn (M := model prog w) Kn gA
  have M2 := looks_findIn (M := model prog w) Kn gT
  have M3 := looks_find (M := model prog w) Kn Iv fO
  have sub : Looks (model prog w) hp (isInstance (.ref x) (.type "BaseException")) true := M0.andThen (looks_subIn Kn sB)
  have no0 : (false && onTheHeap (Value.builtin "BaseException.__getattribute__")) = false := rfl
  have no2 : (Value.builtin "BaseException.__getattribute__" == Value.builtin "object.__getattribute__") = false := by decide +kernel
  have no1 : (onTheHeap (Value.ref D) && Value.builtin "BaseException.__getattribute__" == Value.builtin "object.__getattribute__") = false := by rw [no2]; rfl
  unfold getAttr? getAttrBy?
      getAttrBy
  refine wpAny_bind (wpAny_mkText (wpAny_bind (wpAny_attempt (wpAny_holding (wpAny_bind (M0.at (wpAny_bind (M1.at ?_))))))))
  show wpAny _ _ (if (onTheHeap (Value.ref D) && Value.builtin "BaseException.__getattribute__"
      == Value.builtin "object.__getattribute__") = true then _ else _) _ _ _
  rw [no1, if_neg Bool.false_ne_true]
  unfold getAttrByItsOwn
      hookBefore
  refine wpAny_bind ?_
  rw [if_pos (show onTheHeap
      (Value.ref D) = true from rfl)]
  refine M2.at ?_
  refine wpAny_bind (wpAny_attempt
      (wpAny_holding ?_))
  unfold callGetattribute
  rw [no0, if_neg Bool.false_ne_true]
  unfold boundAndCalled
  rw [PySem.F.excAttr_ValueError.ga.bind
      (.ref x)]
  refine wpAny_bind
      (wpAny_pure ?_)
  show wpAny _ _ (call (.builtin "BaseException.__getattribute__")
      [.ref x, .str "__class__" t]) _ _ _
  refine wpAny_call (codeAny_call_builtin PySem.F.excAttr_ValueError.ga.plain
      PySem.F.entry_bexc_ga ?_)
  refine @check_slot (model prog w) _ _ ⟨hp, g, d, t + 1, os⟩ "BaseException.__getattribute__" "BaseException" "__getattribute__"
      (.ref x) [.str "__class__" t] [] _ (by decide +kernel) (by decide +kernel) sub (PySem.F.args_bexc_ga (.ref x) (.str "__class__" t)) ?_
  unfold
    Builtin.«object.__getattribute__»
  refine wpAny_bind (wpAny_of_eq (a := ((Value.ref x : Value), [Value.str
      "__class__" t])) (by first | rfl | (simp only [slotArgs]; rfl)) ?_)
  refine wpAny_bind (wpAny_pure (wpAny_bind (M0.at (wpAny_bind (M3.at ?_)))))
  show wpAny _ _ (holding [Value.builtin "object.__class__"] (call (.builtin
      "getset_descriptor.__get__") [.builtin "object.__class__", .ref x, .ref D]) >>= ret) _ _ _
  refine wpAny_bind (wpAny_holding (wpAny_call (class_get (s := ⟨hp, g, d, t + 1, os⟩) (ox := ox) (od := some od) Kn Iv mO ?_)))
  refine wpAny_pure ?_
  show wpAny _ _ (handedOut
      (.ref D)) _ _ _
  rw [handedOut_of
      (v := .ref D) rfl]
  first
    | exact wpAny_pure
        (wpAny_pure h)
    | exact wpAny_pure h
    | exact wpAny_pure (wpAny_bind
        (wpAny_pure (wpAny_pure h)))
theorem kitx_dict (gA : findIn K (.ref D) "__getattribute__" = some (some (.builtin "BaseException.__getattribute__"))) (gT : findIn K (.ref D) "__getattr__" = some none) (sB : subIn K (.ref D) (.type "BaseException") = some true) (dC : hasDictIn K D = true) (cA : findIn K (.ref D) "__class__" = some (some (.builtin "object.__class__")))
    (sG : specialIn K (.builtin "object.__class__") "__get__" = some (some (.builtin "getset_descriptor.__get__"))) (tA : takesIn K (.builtin "object.__class__") = some true) (mO : mroIn K D (.type "object") = some true) :
    KitX K (.ref x) (.ref D) (fun h
        => InstAt h x ox D (some od)) where
  ty := fun _ _ _ Iv => Iv.type
  it := fun _ _ Kn _ => by
    obtain ⟨rD, eD, _⟩ := any_some dC
    unfold clsIn at eD
    split at eD
    · rename_i c' d' cd' sl' ho
      intro A' Q' E' s' k q
      unfold isType loadHead
      exact wpAny_bind (wpAny_loadPart (k _ _ (Kn _ _ ho)) (wpAny_pure q))
    · cases eD
  ne := fun h tp dd its n sl Kn htp => by
    obtain ⟨rD, eD, _⟩ := any_some dC
    refine Bool.eq_false_iff.mpr
        fun q => ?_
    have e : D = tp := Value.ref.inj
        (beq_iff_eq.mp q)
    subst e
    unfold clsIn at eD
    split at eD
    · rename_i c' d' cd' sl' ho
      have z := (Kn _ _ ho).symm.trans htp
      cases z
    · cases eD
  ca := fun Kn Iv k => cls_dict gA gT sB dC cA sG tA mO Kn Iv k
end
end XdI
namespace XdI
open PySem PySem.Spec
open PyProof.Rows L2
/-- isinstance(e, c), e the exception that the suite holds, its attributes at dd -/
def rIsD (K : PySem.W.Frag) (D a : Addr) (d : Option Addr) : List V → Hp → VK → Prop := fun xs H Q => ∃ (c : V) (cv : Value) (b : Bool) (dd : Addr) (fs : List (Str × V)), xs = [.ref a, c] ∧ d = some dd ∧ H dd = some (.xd fs) ∧ (∀ u, RelV c u → u = cv) ∧ PySem.W.kitOne K (.ref D) cv = some b ∧ Q (.bl b) H
theorem call_isD {X : Cx} {a D : Addr} {d : Option Addr} {oe : Obj} {pn : List (Addr × Obj)} {cls : Value} (ec : cls = .ref D) (C : ExcC X.K D) (hz : Zc cls d oe) (hf : ∃ vs, oe.data = .fields vs) : CallR (X.suite a ((a, oe) :: pn)) (.builtin "isinstance") (rIsD X.K D a d) := by
  intro pins s σ H xs us Q Iv r h
  obtain ⟨c, cv, b, dd, fs, rfl, ed, hd, hcv, e, q⟩ := h
  subst ed
  subst ec
  cases r with
  | cons rx rr =>
    cases rr with
    | cons rt rr =>
      cases rr
      cases rx
      have ec := hcv _ rt
      subst ec
      obtain ⟨gotA, _⟩ := Iv.pin (a, oe) (List.mem_append.mpr (.inl List.mem_cons_self))
      obtain ⟨vs, vA⟩ := hf
      have okX : ObjOk X.prog X.w H s.heap dd (.xd fs) := Iv.hok dd _ hd
      obtain ⟨mA, hns, hr⟩ := okX
      obtain ⟨od, ho, hl⟩
          := lookIn_ns hns
      have Jv : PySem.W.InstAt s.heap a oe D (some od) := ⟨gotA, hz.1, by unfold PySem.W.notCls; rw [vA] <;> rfl, by rw [hz.2]; exact ho⟩
      exact PySem.W.kia_one (kitx_dict C.hg C.hk C.hs C.hd C.ha C.hn C.ht C.hm) Iv.kIn Jv e (fun z => nomatch z) fun tk => ⟨.bl b, H, Iv.kept (t' := tk) fun _ _ z => z, rfl, q⟩
end XdI

/-! try .. except (X1, X2, X3) as n, where the clause takes what is raised -/
namespace Tr3
open PySem PySem.Spec
open PyProof.Rows L2
theorem fly_keeps {B h h' : Heap} {l : List Env} {e : Addr} {Z : Obj → Prop} (x : HandSPX.FlyingZ B l e Z h) (k : ∀ b o, h.get? b = some o → h'.get? b = some o) : HandSPX.FlyingZ B l e Z h' := by
  obtain ⟨f1, f2, f3, oe, vs, T, oT, ts, h1, h2, hpA, hpB, h5, h6, h7, h8, h9⟩ := x
  exact ⟨fun b o q => k b o (f1 b o q), f2, f3.of_keeps fun b o q _ => ⟨o, k b o q, rfl⟩, oe, vs, T, oT, ts, k _ _ h1, h2, hpA, hpB, h5, h6, k _ _ h7, h8, h9⟩
/-- what the clause wishes of an exception of the body: slot i is n's -/
def wAs3 (K : PySem.W.Frag) (cs : List Value) (i : Nat) (ts : Addr → Value → Option Addr → TS) (D : Ends) : WX := fun cls d σ H =>
  PySem.W.exmAny K cls cs = some true ∧ ∀ a, H a = none → ts a cls d { nx := fun σ' H' => D.nx (σ'.set i none) H', rt := D.rt, bk := fun σ' H' => D.bk (σ'.set i none) H', ct := fun σ' H' => D.ct (σ'.set i none) H' } (σ.set i (some (.ref a))) H
section
variable {X : Cx} {n : Str} {x1 x2 x3 : Str} {c1 c2 c3 : Value} {i kk : Nat} {body suite : List Stmt}
variable {b₀ : Stmt} {pos pos' p1 p2 p3 tpos : Pos} {tb : WX → TS} {ts : Addr → Value → Option Addr → TS}
theorem ps_try_as3 (hs : X.stack = X.env :: X.outer) (hf : X.env.frame = some X.env.locals) (hN : X.N.Nodup) (hi : X.N[i]? = some n) (hln : X.env.kindOf n = some .local) (hc1 : Names X x1 c1) (hc2 : Names X x2 c2) (hc3 : Names X x3 c3)
    (hb : ∀ (W : WX) (pn : List (Addr × Obj)) (xe : Value → Shared → Prop), Takes
        (X.tr pn xe) W → PassesOwn (model X.prog X.w) X.A X.env xe → PSs (X.tr pn xe) body (tb W))
    (hsu : ∀ (a : Addr) (oe : Obj) (cls : Value) (d : Option Addr) (pn : List (Addr × Obj)),
        Zc cls d oe → (∃ vs, oe.data = .fields vs) → PSs (X.suite a ((a, oe) :: pn)) (b₀ :: suite) (ts a cls d)) :
    PS X (.Try body [.ExceptHandler (some (.Tuple [.Name x1 p1, .Name x2 p2, .Name x3 p3] kk tpos)) (some n) (b₀ :: suite) pos'] [] [] pos) (fun D σ H => tb (wAs3 X.K [c1, c2, c3] i ts D) D σ H) := by
  refine ⟨fun pins s σ H D Iv h => ?_⟩
  have okA := Iv.ok
  have frA : X.A.frames = some (X.env :: X.outer) := by rw [okA.frames, hs]
  have hloc : Loc X.env.scope
      n := .inl hln
  refine wpAny_Try_except ?_
  refine wpAny_mono ((hb (wAs3 X.K [c1, c2, c3] i ts D) (X.pn ++ pins) (fun e s₁ => wpAny (model X.prog X.w) X.A (noteFrame e X.env) (fun _ s₂ => wpAny (model X.prog X.w) X.A (setFlight e none) (fun _ s₃ =>
    wpAny (model X.prog X.w) X.A (handleBy e X.env [.ExceptHandler (some (.Tuple [.Name x1 p1, .Name x2 p2, .Name x3 p3] kk tpos)) (some n) (b₀ :: suite) pos']) (SP X pins D) X.xe s₃) X.xe s₂) X.xe s₁) (fun u s' xA => ?_) PassesOwn.looking).run [] s σ H D (Iv.toTry _) h) (fun f s1 hsp => ?_) (fun e s1 he => he)
  · -- the catch
    obtain ⟨a, B, sI, pins', σ', H', cls, d, rfl, J', nbA, up, skA, na, os, ag, hb1, hyes⟩ := xA
    have Jv : Inv X pins σ' H' sI := J'.ofTry okA
    have sky' : Sky B (X.env :: X.outer) a (Zc cls d) X.env.locals s'.heap := by rw [← hs]; exact skA
    show wpAny (model X.prog X.w)
        X.A (noteFrame (.ref a) X.env) _ _ _
    refine Sky.land Zc.steady frA hf sky' fun hpA flA upA => ?_
    have Jv3 : Inv X pins σ' H' { s' with heap := hpA } := Jv.landed nbA flA.1 (up.trans upA) os ag
    obtain ⟨oA, vA, eA, zA, dA⟩ := flA.there
    have notFr : ∀ {h : Heap} {o : Obj} {vs : Array Value}, h.FunFrames B (X.env :: X.outer)
        → h.get? a = some o → o.data = .fields vs → a ∉ frs (X.env :: X.outer) := fun {h o vs} ff e dd hm => by
      obtain ⟨_, o', e',
          hnf⟩ := ff.mem hm
      rw [e] at e'; cases e'
      exact hnf _ dd
    have notR := notFr flA.2.2.1 eA dA
    have notL : a ≠ X.env.locals := fun z => notR (List.mem_filterMap.mpr ⟨X.env, List.mem_cons_self, by rw [hf, z]⟩)
    have notF : a ∉ X.fs := fun hm => by
      obtain ⟨e, he, q⟩ :=
          List.mem_filterMap.mp hm
      exact notR (List.mem_filterMap.mpr ⟨e, List.mem_cons_of_mem _ he, q⟩)
    have SvA := Jv3.suite eA dA na notL notF
    refine wpAny_handleBy_cons (codeAny_handlers_test
        ?_) (by intro q; cases q)
    have LT : PySem.W.Looks (model X.prog X.w) hpA (typeOf (.ref a)) cls := fun A Q E s k q => wpAny_typeOf_ref (k _ _ eA) (by rw [zA.1]; exact q)
    have test : ∀ {x : Str} {c : Value} {np : Pos} {s1 : Shared} (hc : Names X x c) (I1 : Inv (X.suite a ((a, oA) :: (X.pn ++ pins))) [] σ' H' s1) {Q : Value → Shared → Prop} {E : Value → Shared → Prop}, Q c s1 → wpAny (model X.prog X.w) (X.A.mark (some (.ref a))) (eval (.Name x np) X.env) Q E s1 := by
      intro x c np s1 hc I1 Q E q
      obtain ⟨hg, hdbg, hm
          | ⟨hm, hv, hnn⟩⟩ := hc
      · exact ld_glob (X := X.suite a ((a, oA) :: (X.pn ++ pins))) I1 hg hm q hdbg
      · exact ld_blt (X := X.suite a ((a, oA) :: (X.pn ++ pins))) I1 hg hm hv q hnn hdbg
    refine wpAny_Tuple ?_
    refine wpAny_items_cons (test hc1 SvA ?_)
    refine wpAny_items_cons (test hc2 SvA ?_)
    refine wpAny_items_cons (test hc3 SvA ?_)
    refine wpAny_items_nil ⟨(by show 3 ≤ sizeLine; decide), ?_⟩
    have kp : ∀ q o, hpA.get? q = some o → (hpA.push { cls := .type "tuple", data := .seq [c1, c2, c3].toArray }).get? q = some o := fun _ _ z => Heap.get?_push_of_some _ z
    refine (PySem.W.exm_tup3 (Jv3.kIn.keeps kp) (LT.keeps kp) (Heap.get?_push_size hpA rfl) hb1).here ?_
    have flA := fly_keeps flA kp
    have upA := upA.trans (Heap.UpToSlots.of_keeps kp)
    refine codeAny_handlers_suite_as
        ?_
    refine HandSPX.lands_againZ flA fun hpB flB upB => ?_
    have Jv4 : Inv X pins σ' H' { s' with heap := hpB } := Jv.landed nbA flB.1 ((up.trans upA).trans upB) os ag
    obtain ⟨oB, vB, eB, zB, dB⟩ := flB.there
    have SvB := Jv4.suite eB dB na notL notF
    refine store_ok (X := X.suite a ((a, oB) :: (X.pn ++ pins))) (v := .ref a) SvB hN hi hloc rfl (fun s5 SvC => ?_) (.inr hln)
    refine wpAny_mono ((hsu a oB cls d (X.pn ++ pins) zB ⟨_, dB⟩).run [] s5 _ H' _ SvC (hyes a na)) (fun f s6 hsp => ?_) (fun _ _ z => False.elim z)
    have end_ : ∀ {σ6 : L2.St} {H6 : Hp} {Q : Shared → Prop}, Inv (X.suite a ((a, oB) :: (X.pn ++ pins))) [] σ6 H6 s6 → (∀ s7, Inv X pins (σ6.set i none) H6 s7 → Q s7) →
        wpAny (model X.prog X.w) X.A (do bindName X.env n .none; unbindBehindTheSuite X.env n pos') (fun _ s7 => Q s7) X.xe s6 := fun {σ6 H6 Q} SvD hq => gone_ok (SvD.unsuite okA) hN hi hln hq
    cases f with
    | next =>
      obtain ⟨σ6, H6, SvD, q6⟩ := hsp
      exact end_ SvD fun s7 J7 => ⟨_, _, J7, q6⟩
    | brk =>
      obtain ⟨σ6, H6, SvD, q6⟩ := hsp
      exact end_ SvD fun s7 J7 => ⟨_, _, J7, q6⟩
    | cont =>
      obtain ⟨σ6, H6, SvD, q6⟩ := hsp
      exact end_ SvD fun s7 J7 => ⟨_, _, J7, q6⟩
    | ret u =>
      obtain ⟨v6, σ6, H6, SvD, r6, q6⟩ := hsp
      exact end_ SvD fun s7 J7 => ⟨_, _, _, J7, r6, q6⟩
  · cases f with
    | next =>
      obtain ⟨σ', H', J', q⟩ := hsp
      exact wpAny_execs_nil ⟨σ', H', J'.ofTry okA, q⟩
    | brk =>
      obtain ⟨σ', H', J', q⟩ := hsp
      exact ⟨σ', H', J'.ofTry okA, q⟩
    | cont =>
      obtain ⟨σ', H', J', q⟩ := hsp
      exact ⟨σ', H', J'.ofTry okA, q⟩
    | ret u =>
      obtain ⟨v, σ', H',
          J', r, q⟩ := hsp
      exact ⟨v, σ', H', J'.ofTry okA, r, q⟩
end
end Tr3
/-! two own classes at an operator; -o, abs(o), bool(o) by own methods; the truth of o in a test -/
namespace DuX
open PySem PySem.Spec
open PyProof.Rows L2
/-- the class at D has the operator too, and is not below C -/
structure OthC (K : PySem.W.Frag) (C D : Addr) (nm : String) : Prop where
  ne : C ≠ D
  sf : PySem.W.selfFirst K D = true
  f : ∃ f, PySem.W.findIn K (.ref D) (PySem.dunder nm) = some (some (.ref f))
  r : PySem.W.findIn K (.ref D) (dunderR nm) = some none
  hs : PySem.W.subIn K (.ref D) (.ref C) = some false
section
variable {M : Model} {prog : Program} {w : World} {A : Around} {E : Value → Shared → Prop} {s : Shared} {K : PySem.W.Frag} {x C D f : Addr} {ox : Obj} {od : Option Obj}
open PySem.W in
theorem bin_two {op : Operator} {b : Value} {Q : Value → Shared → Prop} (X : K.In s.heap) (J : InstAt s.heap x ox C od) (hb : ∀ M : Model, Looks M s.heap (typeOf b) (.ref D)) (hc : selfFirst K C = true) (hs : findIn K (.ref C) (PySem.dunder op.info.2) = some (some (.ref f))) (hf : isFn K (.ref f) = true)
    (hr : findIn K (.ref C) (dunderR op.info.2) = some none) (O : OthC K C D op.info.2)
    (h : wpAny (model prog w) A (call (.ref f) [.ref x, b]) (PySem.W.CmpBack Q) E s) : wpAny (model prog w) A (binaryOp op (.ref x) b) Q E s := by
  obtain ⟨cd, more, hcd, hm⟩ := ksp_first hc
  obtain ⟨ne, sf, ⟨g, h1⟩, h2, hsub⟩ := O
  obtain ⟨cd2, more2, hcd2, hm2⟩ := ksp_first sf
  have one := ksp_try X J hs hf h
  rcases hi : op.info with ⟨sym, nm⟩
  rw [hi] at hs hr h1 h2 one
  dsimp only at hs hr h1 h2 one
  obtain ⟨hp, g', d, tk, os⟩ := s
  have la := J.type (M := model prog w)
  have lb := hb (model prog w)
  have lc := fills_K (M := model prog w) X hcd hm hs
  have ld := fills_K (M := model prog w) X hcd2 hm2 h1
  have le := looks_subIn (M := model prog w) X hsub
  have lf := ksp_inPy (M := model prog w) X hs hr (.inl rfl)
  have lg := ksp_inPy (M := model prog w) X h1 h2 (.inl rfl)
  have ne : (Value.ref C == Value.ref D) = false := Bool.eq_false_iff.mpr fun q => ne (Value.ref.inj (beq_iff_eq.mp q))
  simp only [binaryOp, hi]
  refine wpAny_holding (wpAny_bind ?_)
  unfold binaryOp1
  refine wpAny_bind (la.at (wpAny_bind (lb.at (wpAny_bind (lc.at ?_)))))
  simp only [ne, if_false, Bool.false_eq_true]
  ksp_lk
  refine wpAny_mono one (fun r s1 hz => ?_) fun _ _ e => e
  obtain ⟨v, rfl, q⟩ := hz
  ksp_lk
  exact q
end
section
variable {X : Cx} {CX : CXT} {k : Nat} {g C D : Addr} {sp : Sp} {Ek : XK} {pins : List (Addr × Obj)} {σ : L2.St} {H : Hp} {s : Shared}
/-- the left one of the class at C, the right one of the class at D -/
def rBinD (K : PySem.W.Frag) (C D : Addr) (sp : Sp) (Ek : XK) : R2 := fun x y H Q => ∃ a dx fs, x = .ref a ∧ H a = some (.ins C dx fs) ∧ TyX K H y (.ref D) ∧ sp [.ref a, y] H Q Ek
theorem op_binD {op : Operator} (m : OwnM X.K C (PySem.dunder op.info.2) g) (hc : PySem.W.selfFirst X.K C = true) (hR : PySem.W.findIn X.K (.ref C) (dunderR op.info.2) = some none) (O : OthC X.K C D op.info.2) (F : FnR X.prog X.w X.K X.mg X.base CX k g sp) (hr : Room k X.A) (hx : Passes CX X Ek) :
    OpR X (binaryOp op) (rBinD X.K C D sp Ek) := by
  intro pins s σ H x y v u Q Iv rx ry h
  obtain ⟨a, dx, fs, rfl, ha, ty, q⟩ := h
  cases rx
  obtain ⟨ox, od, J⟩ := inst_of Iv ha
  obtain ⟨Pz, Z, pz, _⟩ := kit_of Iv ry ty
  refine bin_two Iv.kIn J (fun M => Z.ty M _ Iv.kIn pz) hc m.at_ m.fn hR O ?_
  refine wpAny_mono (run_below F hr rfl hx Iv (vs := [V.ref a, y]) (.cons rfl (.cons ry .nil)) q) (fun z s1 hz => ?_) fun _ _ e => e
  obtain ⟨z', H1, I1, rz, qz⟩ := hz
  exact SlX.cmpback rz ⟨z', H1, I1, rz, qz⟩
/-- -o -/
def rNegO (C : Addr) (sp : Sp) (Ek : XK) : V → Hp → VK → Prop := fun x H Q => ∃ a dx fs, x = .ref a ∧ H a = some (.ins C dx fs) ∧ sp [.ref a] H Q Ek
theorem un_negO (m : OwnM X.K C "__neg__" g) (F : FnR X.prog X.w X.K X.mg X.base CX k g sp) (hr : Room k X.A) (hx : Passes CX X Ek) : UnR X (unaryOp .USub) (rNegO C sp Ek) := by
  intro pins s σ H x v Q Iv rx h
  obtain ⟨a, dx, fs, rfl, ha, q⟩ := h
  cases rx
  obtain ⟨ox, od, J⟩ := inst_of Iv ha
  obtain ⟨mm, hF⟩ := Iv.fr
  exact PySem.W.ksp_neg hF Iv.ok.mod.kin J m.at_ m.fn (run_below F hr rfl hx Iv (vs := [V.ref a]) (.cons rfl .nil) q)
/-- abs(o) -/
theorem call_absO (m : OwnM X.K C "__abs__" g) (F : FnR X.prog X.w X.K X.mg X.base CX k g sp) (hr : Room (k + 1) X.A) (hx : Passes CX X Ek) :
    CallR X (.builtin "abs") (fun xs H Q => ∃ a dx fs, xs = [.ref a] ∧ H a = some (.ins C dx fs) ∧ sp [.ref a] H Q Ek) := by
  intro pins s σ H xs us Q Iv r h
  obtain ⟨a, dx, fs, rfl, ha, q⟩ := h
  rw [Vals.ref1 r]
  obtain ⟨ox, od, J⟩ := inst_of Iv ha
  refine Calls.call_function_entry kind_abs plain_abs entry_abs (args_abs _) ?_
  unfold Builtin.«abs»
  refine wpAny_bind (m := oneArg "abs" _) (wpAny_pure ?_)
  refine wpAny_bind (m := callSpecial? (.ref a) (Str.ofString "__abs__")) (PySem.W.special_fn Iv.kIn J m.at_ (beq_iff_eq.mp m.fn) (wpAny_mono (run_below F hr.in1 rfl hx Iv (vs := [V.ref a]) (.cons rfl .nil) q) (fun z s1 hz => ?_) fun _ _ e => e))
  exact wpAny_pure ⟨_, rfl, hz⟩
/-- the truth of o, by its __bool__ -/
theorem truthy_boolO {A : Around} {a dx : Addr} {fs : List (Str × V)} {Q : Bool → Hp → Prop} (m : OwnM X.K C "__bool__" g) (F : FnR X.prog X.w X.K X.mg X.base CX k g sp) (hr : Room k A) (hf : A.frames = X.A.frames) (hx : Passes CX X Ek) (Iv : Inv X pins σ H s) (ha : H a = some (.ins C dx fs))
    (q : sp [.ref a] H (fun v H' => ∃ b, v = .bl b ∧ Q b H') Ek) :
    wpAny (model X.prog X.w) A (truthy (.ref a)) (fun b s1 => ∃ H', Inv X pins σ H' s1 ∧ Q b H') X.xe s := by
  obtain ⟨ox, od, J⟩ := inst_of Iv ha
  obtain ⟨mm, hF⟩ := Iv.fr
  refine PySem.W.truthy_K hF Iv.ok.mod.kin J m.at_ m.fn (wpAny_mono (run_below F hr hf hx Iv (vs := [V.ref a]) (.cons rfl .nil) q) (fun z s1 hz => ?_) fun _ _ e => e)
  obtain ⟨v, H1, I1, rv, b, rfl, q1⟩ := hz
  cases rv
  exact ⟨H1, I1, q1⟩
/-- bool(o), by its __bool__ -/
theorem call_boolB (m : OwnM X.K C "__bool__" g) (F : FnR X.prog X.w X.K X.mg X.base CX k g sp) (hr : Room (k + 2) X.A) (hx : Passes CX X Ek) :
    CallR X (.type "bool") (fun xs H Q => ∃ a dx fs, xs = [.ref a] ∧ H a = some (.ins C dx fs) ∧ sp [.ref a] H (fun v H' => ∃ b, v = .bl b ∧ Q (.bl b) H') Ek) := by
  intro pins s σ H xs us Q Iv r h
  obtain ⟨a, dx, fs, rfl, ha, q⟩ := h
  rw [Vals.ref1 r]
  have f1 := PySem.F.conv_sub_bool
  refine callType_codes (T := "bool") (Bi := Builtin.«object.__init__») (Q₁ := fun r s₁ => ∃ b, r = .bool b ∧ ∃ H', Inv X pins σ H' s₁ ∧ Q (.bl b) H') PySem.F.called_bool (PySem.F.typeCall_bool_1 _) PySem.F.entry_object_init ?_ ?_
  · refine codeAny_of_tree ?_
    show wpAny _ X.A.in1.in1 (do checkBuiltinCall "bool.__new__" ⟨[.type "bool", .ref a], []⟩; again (.builtin "bool.__new__" ⟨[.type "bool", .ref a], []⟩)) _ _ s
    refine wpAny_bind (wpAny_of_eq (PySem.F.newCall_bool_1 _) (wpAny_pure ⟨plainId_quiet (by decide +kernel) _, codeAny_builtin PySem.F.entry_bool_new ?_⟩))
    rw [Around.under_plainId
        (by decide +kernel) _]
    unfold Builtin.«bool.__new__»
    refine wpAny_bind (m := isType (.type "bool")) (wpAny_pure ?_)
    simp only [Bool.not_true,
        Bool.false_eq_true, if_false]
    refine wpAny_bind (wpAny_of_eq f1 ?_)
    simp only [Bool.not_true,
        Bool.false_eq_true, if_false]
    refine wpAny_bind (m := someArgs "bool" 0 1 _) (wpAny_pure ?_)
    refine wpAny_bind (wpAny_mono (truthy_boolO (Q := fun b H' => Q (.bl b) H') m F hr.in1.in1 rfl hx Iv ha q) (fun b s1 z => ?_) fun _ _ e => e)
    exact wpAny_pure ⟨b, rfl, z⟩
  · rintro obj s₁ ⟨b, rfl, H1, I1, q1⟩
    exact ⟨rfl, PySem.F.args_object_init_2 _ _, object_init_meets PySem.F.called_bool.init.lookup PySem.F.called_bool.made (by decide) X.prog X.w X.A.in1 _ s₁ ⟨rfl, rfl, .bl b, H1, I1, rfl, q1⟩⟩
/-- o in a test, by its __len__ -/
theorem pt_lenO {e : Expr} {ta : TE} (m : OwnM X.K C "__len__" g) (nb : PySem.W.findIn X.K (.ref C) "__bool__" = some none) (F : FnR X.prog X.w X.K X.mg X.base CX k g sp) (hr : Room (k + 1) X.A) (hx : Passes CX X Ek) (ha : PE X e ta)
    (he : ∀ whole, isTrue e X.env whole = (do let v ← whole; standAt e.pos; holding [v] (truthy v)) := by intro _; rfl) :
    PT X e (fun σ H Q => ta σ H fun x H' => ∃ a dx fs, x = .ref a ∧ H' a = some (.ins C dx fs) ∧ sp [.ref a] H' (fun v H2 => ∃ n : Nat, v = .int n ∧ n < 2 ^ 62 ∧ Q (n != 0) H2) Ek) := by
  refine ⟨fun pins s σ H Q Iv h => ?_⟩
  refine isTrue_plain (thn (ha.run pins s σ H _ Iv h) fun v s1 ⟨x, H1, I1, r1, q1⟩ => ?_) (he _)
  obtain ⟨a, dx, fs, rfl, h1, q⟩ := q1
  cases r1
  exact truthy_lenO m nb F hr rfl hx I1 h1 q
end
end DuX
/-! own methods that raise nothing, called in an except suite -/
namespace DuX
open PySem PySem.Spec
open PyProof.Rows L2 L2H
/-- what a def promises while an exception is handled, its object p aside -/
def FnQ (P : Program) (w : World) (K : PySem.W.Frag) (mg : Str → Option Value) (base : Heap) (k : Nat) (f : Addr) (sp : Sp) : Prop :=
  ∀ (A : Around) (outer : List Env) (s : Shared) (H : Hp) (us : List Value) (vs : List V) (Q : VK) (p : Addr × Obj), RoomH k A → PinOk outer H s p → Env0 P w K mg base A outer s H → Vals vs us → sp vs H Q E0 →
    codeAny (model P w) A (.call (.ref f) ⟨us, []⟩) (CR CX0 outer P w H s Q E0) s
section
variable {P : Program} {w : World} {K : PySem.W.Frag} {mg : Str → Option Value} {base : Heap}
theorem fnQ_of {k : Nat} {f : Addr} {name qual : Str} {st : Stmt} {fd : FuncData} {N ps : List Str} {sp : Sp} (F : Fun K name qual st f fd) (S : FnScope N ps (defScope st)) (hb : L2.Binds K fd ps [])
    (len : ∀ vs H Q E, sp vs H Q E → vs.length = ps.length)
    (body : ∀ (cdv : Value) (A : Around) (outer : List Env) (s : Shared) (H : Hp) (vs : List V) (Q : VK) (p : Addr × Obj), RoomH k (A.deeper (envOfC qual (defScope st) s.heap.objs.size f cdv)) → sp vs H Q E0 →
      ∃ t, PSs (cxH CX0 P w K mg base N qual (defScope st) f cdv A outer s H E0 p) (defBody st) t ∧ t { nx := fun _ H' => Q .non H', rt := Q } (L2.start N vs) H) : FnQ P w K mg base (k + 1) f sp := by
  intro A outer s H us vs Q p hr hpin e0 r hsp
  obtain ⟨oc, od, kV, doc, pm, an, cdv, ct, osl, rfl, lk, hcd⟩ := F.ex
  have hl := len _ _ _ _ hsp
  have hlu : us.length = ps.length := by rw [← r.length]; exact hl
  have KX : K.In s.heap := e0.mod.kin.keeps fun b o e => (e0.bs b o e).1
  have lim : s.heap.NoLimit := e0.mod.nolimit.keeps fun b o e => (e0.bs b o e).1
  have bb := hb s us KX (by rw [List.append_nil]; exact hlu)
  rw [List.append_nil] at bb
  have kinds : ∀ y ∈ ps.zip us, (defScope st).names.lookup y.1 = some .local ∨ ((defScope st).names.lookup y.1 = some .cell ∧ ((cellsFrom (s.heap.objs.size + 1) (defScope st).names []).lookup y.1).isSome = true) := fun ⟨n, v⟩ hy => by
    rcases S.par n (List.of_mem_zip hy).1 with q | q
    · exact .inl q
    · exact .inr ⟨q, PySem.W.cellsFrom_some _ _ _
          (.inl q)⟩
  refine codeAny_call_function hr.depth (KX _ _ lk) rfl S.co S.gen rfl
      (PySem.W.codeRec_of KX hcd) (bb _ _ _ _ ?_)
  refine wpAny_newFunctionEnv_cells S.kind kinds fun env he s1 x => ?_
  subst he
  refine ⟨lim.keeps
      x.toInCall.keep, codeAny_func ?_⟩
  obtain ⟨t, ht, hq⟩ := body cdv A outer s H vs Q p (hr.deeper _) hsp
  have I := inv_startH (CX := CX0) (E := E0) S hpin e0 hl r x
  refine wpAny_mono (ht.run [] s1 (L2.start N vs) H _ I hq) (fun fl s2 hs => ?_)
      fun e s2 hs => hs
  have fin : ∀ {σ' : L2.St} {H' : Hp} {v : V} {u : Value}, Inv (cxH CX0 P w K mg base N qual (defScope st) f cdv A outer s H E0 p) [] σ' H' s2 → RelV v u → Q v H' → CE outer P w H s Q u s2 :=
    fun {σ' H' v u} J rv q => ⟨v, H', J.os, J.bare, J.base,
        J.hok, rv, q⟩
  cases fl with
  | ret u =>
    obtain ⟨v, σ', H',
        J, rv, q⟩ := hs
    exact fin J rv q
  | next =>
    obtain ⟨σ', H',
        J, q⟩ := hs
    exact fin (v := V.non)
        (u := Value.none) J rfl q
  | brk =>
    obtain ⟨_, _, _,
        q⟩ := hs
    exact q.elim
  | cont =>
    obtain ⟨_, _, _,
        q⟩ := hs
    exact q.elim
end
section
variable {X : Cx} {k : Nat} {g C : Addr} {sp : Sp} {pins : List (Addr × Obj)} {σ : L2.St} {H : Hp} {s : Shared} {p : Addr × Obj}
theorem run_belowQ {A : Around} {us : List Value} {vs : List V} {Q : VK} (F : FnQ X.prog X.w X.K X.mg X.base k g sp) (hr : RoomH k A) (hf : A.frames = X.A.frames) (hp : p ∈ X.pn) (Iv : Inv X pins σ H s) (r : Vals vs us) (hyp : sp vs H Q E0) :
    wpAny (model X.prog X.w) A (call (.ref g) us) (EP X pins σ Q) X.xe s := by
  have e0 : Env0 X.prog X.w X.K X.mg X.base A X.stack s H := by
    obtain ⟨a1, a2, a3, a4, a5, a6, a7, a8⟩ := Iv.env0
    exact ⟨by rw [hf]; exact a1, a2, a3, a4, a5, a6, a7, a8⟩
  have P1 := Iv.pin p (List.mem_append_left _ hp)
  have pin : PinOk X.stack H s p := ⟨P1.1, P1.2.1, fun hm => (List.mem_cons.mp (Iv.stkSub p.1 hm)).elim P1.2.2.1 P1.2.2.2.1,
      P1.2.2.2.2⟩
  refine wpAny_call (codeAny_mono (F A X.stack s H us vs Q p hr pin e0 r hyp) fun res s1 hq => ?_)
  match res, hq with
  | .error e, hq => exact hq.elim
  | .ok (.ret u), hq => exact Iv.after hq
  | .ok .next, hq => exact False.elim hq
  | .ok .brk, hq => exact False.elim hq
  | .ok .cont, hq => exact False.elim hq
theorem roomH_in1 {k : Nat} {A : Around} (r : RoomH (k + 1) A) : RoomH k A.in1 :=
  ⟨by have := r.dp; show A.depth + 3 * k + 5 < _; omega, by have := r.un; show A.units + 1 + 16 * k + 200 < _; omega⟩
/-- len(o) there -/
theorem call_lenQ (m : OwnM X.K C "__len__" g) (F : FnQ X.prog X.w X.K X.mg X.base k g sp) (hr : RoomH (k + 1) X.A) (hp : p ∈ X.pn) :
    CallR X (.builtin "len") (fun xs H Q => ∃ a dx fs, xs = [.ref a] ∧ H a = some (.ins C dx fs) ∧ sp [.ref a] H (fun v H' => ∃ n : Nat, v = .int n ∧ n < 2 ^ 62 ∧ Q (.int n) H') E0) := by
  intro pins s σ H xs us Q Iv r hyp
  obtain ⟨a, dx, fs, rfl, atA, cont⟩ := hyp
  rw [Vals.ref1 r]
  obtain ⟨ox, od, J⟩ := inst_of Iv atA
  obtain ⟨mm, hF⟩ := Iv.fr
  refine PySem.W.len_K hF Iv.ok.mod.kin J m.at_ m.fn ?_
  refine wpAny_mono (run_belowQ F (roomH_in1 hr) rfl hp Iv (vs := [V.ref a]) (.cons rfl .nil) cont) (fun u s1 hu => ?_) fun _ _ e => e
  obtain ⟨v, H1, Iv1, rv, n, rfl, hn, q1⟩ := hu
  obtain ⟨t, rfl⟩ := rv
  exact ⟨⟨by omega, by omega⟩, .int n, H1, Iv1.tok _, ⟨_, rfl⟩, q1⟩
/-- repr(o) there -/
theorem call_reprQ (m : OwnM X.K C "__repr__" g) (F : FnQ X.prog X.w X.K X.mg X.base k g sp) (hr : RoomH (k + 1) X.A) (hp : p ∈ X.pn) :
    CallR X (.builtin "repr") (fun xs H Q => ∃ a dx fs, xs = [.ref a] ∧ H a = some (.ins C dx fs) ∧ sp [.ref a] H (fun v H' => ∃ z, v = .str z ∧ Q (.str z) H') E0) := by
  intro pins s σ H xs us Q Iv r hyp
  obtain ⟨a, dx, fs, rfl, atA, cont⟩ := hyp
  rw [Vals.ref1 r]
  obtain ⟨ox, od, J⟩ := inst_of Iv atA
  obtain ⟨mm, hF⟩ := Iv.fr
  refine PySem.W.repr_K (by have := hr.un; show X.A.units + 1 < cLine; omega) hF Iv.ok.mod.kin J m.at_ m.fn ?_
  refine wpAny_mono (run_belowQ F (roomH_in1 hr) rfl hp Iv (vs := [V.ref a]) (.cons rfl .nil) cont) (fun u s1 hu => ?_) fun _ _ e => e
  obtain ⟨v, H1, Iv1, rv, z, rfl, q1⟩ := hu
  obtain ⟨t, rfl⟩ := rv
  exact ⟨.str z, H1, Iv1, ⟨t, rfl⟩, q1⟩
end
end DuX
/-! repr of data, and of an empty dict -/
namespace RpD
open PySem PySem.Spec
open PyProof.Rows L2
def ShD (K : PySem.W.Frag) (H : Hp) (v : V) (d : PyData) : Prop := (Dp K H v d ∧ Shows d) ∨ ∃ a, v = .ref a ∧ H a = some (.dK []) ∧ d = .dict []
section
variable {X : Cx}
theorem call_reprE (hg : X.A.guards = some []) (hu : X.A.units + 100 < cLine) : CallR X (.builtin "repr") (fun xs H Q => ∃ x d, xs = [x] ∧ ShD X.K H x d ∧ Q (.str d.shown) H) := by
  intro pins s σ H xs us Q Iv r h
  obtain ⟨x, d, rfl, hd, q⟩ := h
  rcases hd with ⟨hd, S⟩ | ⟨a, rfl, hd, rfl⟩
  · exact call_reprD hg hu pins s σ H [x] us Q Iv r ⟨x, d, rfl, hd, S, q⟩
  · cases r with
    | cons r rr =>
      cases rr
      cases r
      obtain ⟨hl, hs, vs, kv, o, es, ep, ho, hx, e1, _, e2, _⟩ := Iv.hok a _ hd
      cases kv
      have e3 : es.toList = [] := by
        cases h : es.toList with
        | nil => rfl
        | cons x r =>
          rw [h] at e2
          cases e2
      have rd : Reads s.heap (.ref a) (.dict []) (a :: [] ++ []) := .dict ho hx.1 e1 (by rw [e3]; exact .nil) (by rw [e3]; exact .nil)
      have ns : sysModules ∉ (a :: [] ++ []) := fun m => by
        have e : sysModules = a := by simpa using m
        rw [← e] at hs
        simp at hs
      exact repr_of_reads' rd rfl (fun _ => ns) hg (by show X.A.units + (PyData.depth (.dict []) + 1) < cLine; have : PyData.depth (.dict []) ≤ 5 := (by decide); omega) (fun _ _ e => e) (fun h' t tk kp => ⟨.str _, H, Iv.kept kp, ⟨t, rfl⟩, q⟩) (by rw [sizeLine_eq]; decide +kernel)
theorem ShD.same {K : PySem.W.Frag} {H H' : Hp} {v : V} {d : PyData} (dp : Dp K H v d → Dp K H' v d) (s : Same H H') (h : ShD K H v d) : ShD K H' v d := by
  rcases h with ⟨a, b⟩ | ⟨a, e, h, e2⟩
  · exact .inl ⟨dp a, b⟩
  · exact .inr ⟨a, e, s _ _ h, e2⟩
end
end RpD

namespace K1
open PySem PySem.Spec
open PyProof.Rows L2 L2H EnT StX SmX TxS DuX XdI Tr3 CnB ClX
/-! ### from heap to heap, the pool and the tables aside -/
structure RX (p : Addr) (H H' : Hp) : Prop where
  pool : PoolAt H' p
  keep : ∀ b o, b ≠ p → H b = some o → (∀ ps, o ≠ .tbl ps) → H' b = some o
/-- a move: all but the pool and the tables stays, the tables are tables -/
structure Mv (p : Addr) (Tb : List (Addr × Str)) (H H' : Hp) : Prop where
  rx : RX p H H'
  tabs : LamX.Tabs Tb H'
theorem Mv.trans {p : Addr} {Tb : List (Addr × Str)} {H H1 H2 : Hp} (a : Mv p Tb H H1) (b : Mv p Tb H1 H2) : Mv p Tb H H2 := ⟨⟨b.rx.pool, fun c o n e t => b.rx.keep c o n (a.rx.keep c o n e t) t⟩, b.tabs⟩
theorem Mv.refl {p : Addr} {Tb : List (Addr × Str)} {H : Hp} (hp : PoolAt H p) (t : LamX.Tabs Tb H) : Mv p Tb H H := ⟨⟨hp, fun _ _ _ e _ => e⟩, t⟩
theorem PoolAt.same {p : Addr} {H H' : Hp} (s : Same H H') (h : PoolAt H p) : PoolAt H' p := by
  obtain ⟨a, b, c, e⟩ := h
  exact ⟨a, b, c, s _ _ e⟩
theorem Mv.same {p : Addr} {Tb : List (Addr × Str)} {H H' : Hp} (s : Same H H') (hp : PoolAt H p) (t : LamX.Tabs Tb H) : Mv p Tb H H' := ⟨⟨hp.same s, fun b o _ e _ => s b o e⟩, t.ext s⟩
theorem tabs_ext {p : Addr} {Tb : List (Addr × Str)} {H H' : Hp} (x : Ext p H H') (hp : PoolAt H p) (t : LamX.Tabs Tb H) : LamX.Tabs Tb H' := fun q hq => by
  obtain ⟨ps, h1, h2, h3⟩ := t q hq
  obtain ⟨a, b, c, e⟩ := hp
  refine ⟨ps, x.at (fun z => by rw [z, e] at h1; cases h1) h1, h2, fun pos cv hc => ?_⟩
  obtain ⟨d, e1, e2⟩ := h3 pos cv hc
  exact ⟨d, e1, x.at (fun z => by rw [z, e] at e2; unfold LamX.CodeO at e2; cases e2) e2⟩
theorem Mv.ext {p : Addr} {Tb : List (Addr × Str)} {H H' : Hp} (x : Ext p H H') (hp : PoolAt H p) (t : LamX.Tabs Tb H) : Mv p Tb H H' := ⟨⟨x.pool, fun b o n e _ => x.at n e⟩, tabs_ext x hp t⟩
theorem Mv.lam {p : Addr} {Tb : List (Addr × Str)} {H H' : Hp} (x : LamX.ExtN H H') (hp : PoolAt H p) (t : LamX.Tabs Tb H') : Mv p Tb H H' := by
  obtain ⟨a, b, c, e⟩ := hp
  exact ⟨⟨⟨a, b, c, x _ _ e (fun ps z => by cases z)⟩, fun d o _ h n => x d o h n⟩, t⟩
theorem Mv.at {p q : Addr} {Tb : List (Addr × Str)} {H H' : Hp} {o : HO} (m : Mv p Tb H H') (hp : PoolAt H p) (h : H q = some o) (n : ∀ x y z : Int, o ≠ .lst [.int x, .int y, .int z]) (nt : ∀ ps, o ≠ .tbl ps) : H' q = some o := by
  refine m.rx.keep q o (fun e => ?_) h nt
  obtain ⟨a, b, c, e2⟩ := hp
  rw [e, e2] at h
  exact n a b c (Option.some.inj h).symm
theorem strs_nopool {zs : List Str} : ∀ x y z : Int, (HO.lst (zs.map V.str)) ≠ .lst [.int x, .int y, .int z] := fun x y z e => by
  have q := HO.lst.inj e
  cases zs with
  | nil => cases q
  | cons a r => cases q
theorem Mv.strs {p q : Addr} {Tb : List (Addr × Str)} {H H' : Hp} {zs : List Str} (m : Mv p Tb H H') (hp : PoolAt H p) (h : H q = some (.lst (zs.map V.str))) : H' q = some (.lst (zs.map V.str)) := m.at hp h strs_nopool (fun _ e => by cases e)
theorem Mv.mem {C p q : Addr} {Tb : List (Addr × Str)} {H H' : Hp} {zs : List Str} (m : Mv p Tb H H') (hp : PoolAt H p) (h : MemAt C H q zs) : MemAt C H' q zs := by
  obtain ⟨⟨dx, t, d, h1, h2, h3⟩, a, b, c, e⟩ := h
  exact ⟨⟨dx, t, d, m.at hp h1 (fun _ _ _ e => by cases e) (fun _ e => by cases e), m.at hp h2 (fun _ _ _ e => by cases e) (fun _ e => by cases e), m.at hp h3 (fun _ _ _ e => by cases e) (fun _ e => by cases e)⟩, a, b, c, e⟩
theorem Mv.vok {p : Addr} {Tb : List (Addr × Str)} {H H' : Hp} {v : V} (m : Mv p Tb H H') (n : v ≠ .ref p) (h : VOk H v) : VOk H' v := by
  refine h.elim .inl fun g => .inr ?_
  have np : ∀ {a : Addr}, v = .ref a → a ≠ p := fun e z => n (by rw [e, z])
  cases g with
  | non => exact .non
  | bl b => exact .bl b
  | int i => exact .int i
  | lst e => exact .lst (m.rx.keep _ _ (np rfl) e (fun _ e => by cases e))
  | tup e => exact .tup (m.rx.keep _ _ (np rfl) e (fun _ e => by cases e))
  | dK e => exact .dK (m.rx.keep _ _ (np rfl) e (fun _ e => by cases e))
theorem refs_nopool {as : List Addr} : ∀ x y z : Int, (HO.lst (as.map V.ref)) ≠ .lst [.int x, .int y, .int z] := fun x y z e => by
  have q := HO.lst.inj e
  cases as with
  | nil => cases q
  | cons a r => cases q
theorem tabs_upd {Tb : List (Addr × Str)} {H : Hp} {t : Addr} {xs : List V} {o : HO} (h : H t = some (.lst xs)) (T : LamX.Tabs Tb H) : LamX.Tabs Tb (upd H t o) := fun q hq => by
  obtain ⟨ps, h1, h2, h3⟩ := T q hq
  refine ⟨ps, by rw [upd_ne (fun z => by rw [z, h] at h1; cases h1)]; exact h1, h2, fun pos cv hc => ?_⟩
  obtain ⟨d, e1, e2⟩ := h3 pos cv hc
  exact ⟨d, e1, by rw [upd_ne (fun z => by rw [z, h] at e2; unfold LamX.CodeO at e2; cases e2)]; exact e2⟩
/-- a promise where no text is being made around -/
def FnG (P : Program) (w : World) (K : PySem.W.Frag) (mg : Str → Option Value) (base : Heap) (CX : CXT) (k : Nat) (f : Addr) (sp : Sp) : Prop :=
  ∀ (A : Around) (outer : List Env) (s : Shared) (H : Hp) (us : List Value) (vs : List V) (Q : VK) (E : XK), A.guards = some [] → Room k A → Env0 P w K mg base A outer s H → Vals vs us → sp vs H Q E →
    codeAny (model P w) A (.call (.ref
        f) ⟨us, []⟩) (CR CX outer P w H s Q E) s
/-- the def of the law's right, its code object at c -/
structure FunC (K : PySem.W.Frag) (x qual : Str) (st : Stmt) (f c : Addr) : Prop where
  ex : ∃ (oc : Value) (od : Option Addr) (kV doc pm : Value) (an : Option Addr) (ct : Value) (osl : Array (Option Value)), K.lookup f = some ⟨oc, od, .func (PySem.W.fnOf x qual (defArgs st) (defBody st) (defScope st) .none kV doc pm an (.ref c) ct), osl⟩ ∧ PySem.W.codeIn K (.ref c) qual = true
section
variable {X : Cx} {k : Nat} {x : Str} {f : Addr} {sp : Sp}
/-- x(e, ..), where no text is being made around -/
theorem pe_callG {e : Expr} {es : List Expr} {t : TA} {p pos : Pos} (F : FnG X.prog X.w X.K X.mg X.base CX0 k f sp) (hgd : X.A.guards = some []) (hr : Room k X.A) (hg : Gl X x) (hm : X.mg x = some (.ref f)) (hk : PySem.W.keepIn X.K (.ref f) = true) (ha : PA X (e :: es) t)
    (hd : (x == ("__debug__" : Str)) = false := by decide) (hst : starEach (e :: es) X.env = (false, eval e X.env) :: starEach es X.env := by rfl) (hpl : (backTo pos (starEach es X.env)).any (·.1) = false := by rfl) :
    PE X (.Call (.Name x p) (e :: es) [] pos) (tCall sp [] E0 t) := by
  refine ⟨fun pins
      s σ H Q I h => ?_⟩
  refine wpAny_Call_Name_kw
      (ld_glob I hg hm ?_ hd)
  refine PySem.W.callWith_K (h₀ := X.base) I.ok.mod.kin hk (thn (ha.run pos pins s σ H _ I h) fun us s1 ⟨vs, H1, I1, rv, q⟩ => ⟨I1.kIn, ?_⟩) hst hpl
  have q : sp vs H1 Q E0 := by
    have q : sp (vs ++ []) H1 Q E0 := q
    rw [List.append_nil] at q
    exact q
  refine wpAny_call (codeAny_mono (F X.A X.stack s1 H1 us vs Q E0 hgd hr I1.env0 rv q) fun r s' hq => ?_)
  cases r with
  | error e => exact hq.elim
  | ok fl =>
    cases fl with
    | ret u => exact I1.after hq
    | next => exact False.elim hq
    | brk => exact False.elim hq
    | cont => exact False.elim hq
end
def tysB : List String := ["NoneType", "bool", "int", "str", "list", "tuple", "dict"]
theorem vok_tys {K : PySem.W.Frag} {H : Hp} {v : V} (h : VOk H v) : ∃ t, t ∈ tysB ∧ TyX K H v (.type t) := h.ty
def StepQ (D : Addr) (H : Hp) (out : Nat → List V) (i : Nat) : VK := fun y H4 => ∃ acc, H4 D = some (.lst acc) ∧ acc.length < sizeLine ∧ upd H4 D (.lst (acc ++ [y])) = upd H D (.lst (out (i + 1)))
theorem step_ok {D : Addr} {H : Hp} {out : Nat → List V} {i : Nat} {y : V} (hl : (out i).length < sizeLine) (e : out (i + 1) = out i ++ [y]) : StepQ D H out i y (upd H D (.lst (out i))) := ⟨_, upd_same, hl, by rw [upd_upd, e]⟩
theorem step_no {D : Addr} {H : Hp} {out : Nat → List V} {i : Nat} (e : out (i + 1) = out i) : upd H D (.lst (out i)) = upd H D (.lst (out (i + 1))) := by rw [e]
theorem lc_pure {K : PySem.W.Frag} {a : Addr} {xs : List V} {g : TG} {tt : TT} {te : TE} {vs : List Nat} {σ : L2.St} {H : Hp} {D : Addr} {Qd : Hp → Prop} (out : Nat → List V) (src : ∀ H', Same H H' → SqL K H' a xs) (nD : H D = none) (h0 : out 0 = [])
    (hs : ∀ i x, xs[i]? = some x → Same H (upd H D (.lst (out i))) → g x (wipe σ vs) (upd H D (.lst (out i))) fun σ2 H2 => wipe σ2 vs = wipe σ vs ∧ tt σ2 H2 fun b H3 => if b = true then te σ2 H3 (StepQ D H out i) else H3 = upd H D (.lst (out (i + 1))))
    (hd : ∀ H', Same H H' → H' D = some (.lst (out xs.length)) → Qd H') :
    ∃ W : Nat → Nat → Hp → Prop, (∃ m, W 0 m (upd H D (.lst []))) ∧ ∀ i m H, W i m H →
      ((Itl K a).stop i H ∧ Qd H) ∨ ((Itl K a).go i H ∧ ∃ Nx : Hp → Prop, (∀ H', Nx H' → ∃ m', m' < m ∧ W (i + 1) m' H') ∧ ∀ x H', (Itl K a).yld i H x H' → g x (wipe σ vs) H' fun σ2 H2 => wipe σ2 vs = wipe σ vs ∧ tt σ2 H2 fun b H3 =>
        if b = true then te σ2 H3 fun y H4 => ∃ acc, H4 D = some (.lst acc) ∧ acc.length < sizeLine ∧ Nx (upd H4 D (.lst (acc ++ [y]))) else Nx H3) := by
  refine lc_list (K := K) (a := a) (xs := xs) (fun i H' => H' = upd H D (.lst (out i))) (by rw [h0]) (fun i H' hi e => ?_) (fun i x H' hx e => ?_) (fun H' e => ?_)
  · subst e
    exact src _ (same_upd nD)
  · subst e
    exact hs i x hx (same_upd nD)
  · subst e
    exact hd _ (same_upd nD) upd_same
theorem str_at {zs : List Str} {i : Nat} {x : V} (h : (zs.map V.str)[i]? = some x) : ∃ z, zs[i]? = some z ∧ x = V.str z := by
  rw [List.getElem?_map] at h
  obtain ⟨z, hz, e⟩ := Option.map_eq_some_iff.mp h
  exact ⟨z, hz, e.symm⟩
/-- the texts of zs that p tells, up to the i-th -/
def outF (zs : List Str) (p : Str → Bool) (i : Nat) : List V := ((zs.take i).filter p).map V.str
def outM (zs : List Str) (e : Str → V) (i : Nat) : List V := (zs.take i).map e
theorem outF_yes {zs : List Str} {p : Str → Bool} {i : Nat} {z : Str} (h : zs[i]? = some z) (hp : p z = true) : outF zs p (i + 1) = outF zs p i ++ [V.str z] := by
  unfold outF
  rw [filt_succ h, if_pos hp, List.map_append]
  rfl
theorem outF_no {zs : List Str} {p : Str → Bool} {i : Nat} {z : Str} (h : zs[i]? = some z) (hp : p z = false) : outF zs p (i + 1) = outF zs p i := by
  unfold outF
  rw [filt_succ h, hp, if_neg (by decide), List.append_nil]
theorem outM_succ {zs : List Str} {e : Str → V} {i : Nat} {z : Str} (h : zs[i]? = some z) : outM zs e (i + 1) = outM zs e i ++ [e z] := map_succ h
theorem outF_len {zs : List Str} {p : Str → Bool} {i : Nat} (h : zs.length ≤ 1000) : (outF zs p i).length < sizeLine := by
  unfold outF
  have := List.length_filter_le p (zs.take i)
  rw [List.length_take] at this
  rw [List.length_map, sizeLine_eq]
  omega
theorem outM_len {zs : List Str} {e : Str → V} {i : Nat} (h : zs.length ≤ 1000) : (outM zs e i).length < sizeLine := by
  unfold outM
  rw [List.length_map, List.length_take, sizeLine_eq]
  omega
theorem outF_end {zs : List Str} {p : Str → Bool} {x : Nat} (h : x = zs.length) : outF zs p x = (zs.filter p).map V.str := by
  unfold outF
  rw [h, List.take_length]
theorem outM_end {zs : List Str} {e : Str → V} {x : Nat} (h : x = zs.length) : outM zs e x = zs.map e := by
  unfold outM
  rw [h, List.take_length]
theorem strs_flat (zs : List Str) : (zs.map V.str).all flatV = true := by simp [flatV]
theorem inV_mem (z : Str) : ∀ ys : List Str, inV (.str z) (ys.map V.str) = decide (z ∈ ys)
  | [] => rfl
  | y :: r => by
    have ih := inV_mem z r
    unfold inV at ih ⊢
    rw [List.map_cons, List.any_cons, ih]
    by_cases h : y = z
    · subst h
      rw [decide_eq_true List.mem_cons_self]
      simp [eqV]
    · have e : eqV (V.str y) (V.str z) = false := by
        show (y == z) = false
        exact beq_eq_false_iff_ne.mpr h
      rw [e, Bool.false_or]
      by_cases m : z ∈ r
      · rw [decide_eq_true m, decide_eq_true (List.mem_cons_of_mem _ m)]
      · rw [decide_eq_false m, decide_eq_false fun q => by
          rcases List.mem_cons.mp q with q | q
          · exact h q.symm
          · exact m q]
def rListOf (K : PySem.W.Frag) : List V → Hp → VK → Prop := fun xs H Q => ∃ p ys, xs = [.ref p] ∧ (SqL K H p ys ∨ SqT K H p ys) ∧ ∀ l, H l = none → Q (.ref l) (upd H l (.lst ys))
theorem call_listK {X : Cx} : CallR X (.type "list") (rListOf X.K) := call_list_of
def lsD (Y : List (List Str)) : List PyData := Y.map fun y => .list (strD y)
structure Lists (H : Hp) (ds : List Addr) (Y : List (List Str)) : Prop where
  len : ds.length = Y.length
  at_ : ∀ (j : Nat) (d : Addr) (y : List Str), ds[j]? = some d → Y[j]? = some y → H d = some (.lst (y.map V.str))
theorem Lists.same {H H' : Hp} {ds : List Addr} {Y : List (List Str)} (s : Same H H') (h : Lists H ds Y) : Lists H' ds Y := ⟨h.len, fun j d y a b => s _ _ (h.at_ j d y a b)⟩
theorem Lists.nil {H : Hp} : Lists H [] [] := ⟨rfl, fun j d y a => by cases a⟩
theorem Lists.snoc {H : Hp} {ds : List Addr} {Y : List (List Str)} {d : Addr} {y : List Str} (h : Lists H ds Y) (hd : H d = some (.lst (y.map V.str))) : Lists H (ds ++ [d]) (Y ++ [y]) := by
  refine ⟨by rw [List.length_append, List.length_append, h.len]; rfl, fun j d' y' a b => ?_⟩
  have l := h.len
  by_cases hj : j < ds.length
  · rw [List.getElem?_append_left hj] at a
    rw [List.getElem?_append_left (by omega)] at b
    exact h.at_ j d' y' a b
  · rw [List.getElem?_append_right (by omega)] at a
    rw [List.getElem?_append_right (by omega)] at b
    have e : j - ds.length = 0 := by
      have := (List.getElem?_eq_some_iff.mp a).1
      simp at this
      omega
    rw [e] at a
    rw [← l, e] at b
    cases a
    cases b
    exact hd
theorem Lists.dp {K : PySem.W.Frag} {H : Hp} : ∀ {ds : List Addr} {Y : List (List Str)}, Lists H ds Y → DpAll K H (ds.map V.ref) (lsD Y)
  | [], [], _ => .nil
  | [], y :: Y, h => by have := h.len; cases this
  | d :: ds, [], h => by have := h.len; cases this
  | d :: ds, y :: Y, h => .cons (.lst (SqL.of (h.at_ 0 d y rfl rfl)) (dpAll_str y)) (Lists.dp (ds := ds) (Y := Y) ⟨by have := h.len; simpa using this, fun j d' y' a b => h.at_ (j + 1) d' y' a b⟩)
theorem lsD_lay : ∀ {Y : List (List Str)}, (∀ y ∈ Y, OkS y) → PyData.canLayAll0 (lsD Y) = true
  | [], _ => by simp [lsD, PyData.canLayAll0]
  | y :: Y, h => by
    have h1 := lsD_lay (Y := Y) fun z hz => h z (List.mem_cons_of_mem _ hz)
    have h2 := strD_lay y (h y List.mem_cons_self)
    simp only [lsD] at h1
    simp [lsD, PyData.canLayAll0, PyData.canLay0, h1, h2]
theorem lsD_depth : ∀ Y : List (List Str), PyData.depthAll (lsD Y) ≤ 1
  | [] => by simp [lsD, PyData.depthAll]
  | y :: Y => by
    have h1 := lsD_depth Y
    have h2 := strD_depth y
    simp only [lsD] at h1
    simp only [lsD, List.map_cons, PyData.depthAll, PyData.depth, h2]
    omega
theorem lsD_shaped {Y : List (List Str)} (h : ∀ y ∈ Y, OkS y) : SeqAt.shaped (.list (lsD Y)) = true := by
  show (PyData.canLay0 (.list (lsD Y)) && decide (PyData.depth (.list (lsD Y)) ≤ 64)) = true
  rw [Bool.and_eq_true]
  refine ⟨by simp only [PyData.canLay0]; exact lsD_lay h, decide_eq_true ?_⟩
  simp only [PyData.depth]
  have := lsD_depth Y
  omega
theorem lsD_eqv {Y : List (List Str)} (h : ∀ y ∈ Y, OkS y) : PyData.eqv (.list (lsD Y)) (.list (lsD Y)) = true := SeqAt.eqv_refl _ (by simp only [PyData.canLay0]; exact lsD_lay h)
/-- Members at ps, of the names Y -/
structure Mems (C : Addr) (H : Hp) (ps : List Addr) (Y : List (List Str)) : Prop where
  len : ps.length = Y.length
  at_ : ∀ (j : Nat) (p : Addr) (y : List Str), ps[j]? = some p → Y[j]? = some y → MemAt C H p y
theorem Mems.same {C : Addr} {H H' : Hp} {ps : List Addr} {Y : List (List Str)} (s : Same H H') (h : Mems C H ps Y) : Mems C H' ps Y := ⟨h.len, fun j p y a b => (h.at_ j p y a b).same s⟩
theorem Mems.ok {C : Addr} {H : Hp} {ps : List Addr} {Y : List (List Str)} (h : Mems C H ps Y) : ∀ y ∈ Y, OkS y := fun y hy => by
  obtain ⟨j, hj, e⟩ := List.mem_iff_getElem.mp hy
  have l := h.len
  exact okS_names (h.at_ j (ps[j]'(by omega)) y (List.getElem?_eq_getElem _) (by rw [← e]; exact List.getElem?_eq_getElem _)).nm
theorem len_or {y zs ws : List Str} (nd : y.Nodup) (h : ∀ z, z ∈ y → z ∈ zs ∨ z ∈ ws) : y.length ≤ zs.length + ws.length := by
  have := len_sub (zs := zs ++ ws) nd fun z hz => List.mem_append.mpr (h z hz)
  rw [List.length_append] at this
  exact this
theorem pw_uniq {xs ys : List Str} (hx : xs.Pairwise NotLt) (hy : ys.Pairwise NotLt) (nx : xs.Nodup) (ny : ys.Nodup) (m : ∀ z, z ∈ xs ↔ z ∈ ys) : xs = ys :=
  List.Perm.eq_of_pairwise (le := NotLt) (fun a b _ _ p q => notLt_anti p q) hx hy ((List.perm_ext_iff_of_nodup nx ny).mpr m)
theorem lc_pureT {K : PySem.W.Frag} {a : Addr} {xs : List V} {g : TG} {tt : TT} {te : TE} {vs : List Nat} {σ : L2.St} {H : Hp} {D : Addr} {Qd : Hp → Prop} (out : Nat → List V) (src : ∀ H', Same H H' → SqT K H' a xs) (nD : H D = none) (h0 : out 0 = [])
    (hs : ∀ i x, xs[i]? = some x → Same H (upd H D (.lst (out i))) → g x (wipe σ vs) (upd H D (.lst (out i))) fun σ2 H2 => wipe σ2 vs = wipe σ vs ∧ tt σ2 H2 fun b H3 => if b = true then te σ2 H3 (StepQ D H out i) else H3 = upd H D (.lst (out (i + 1))))
    (hd : ∀ H', Same H H' → H' D = some (.lst (out xs.length)) → Qd H') :
    ∃ W : Nat → Nat → Hp → Prop, (∃ m, W 0 m (upd H D (.lst []))) ∧ ∀ i m H, W i m H →
      ((Itt K a).stop i H ∧ Qd H) ∨ ((Itt K a).go i H ∧ ∃ Nx : Hp → Prop, (∀ H', Nx H' → ∃ m', m' < m ∧ W (i + 1) m' H') ∧ ∀ x H', (Itt K a).yld i H x H' → g x (wipe σ vs) H' fun σ2 H2 => wipe σ2 vs = wipe σ vs ∧ tt σ2 H2 fun b H3 =>
        if b = true then te σ2 H3 fun y H4 => ∃ acc, H4 D = some (.lst acc) ∧ acc.length < sizeLine ∧ Nx (upd H4 D (.lst (acc ++ [y]))) else Nx H3) := by
  refine lc_tup (K := K) (a := a) (xs := xs) (fun i H' => H' = upd H D (.lst (out i))) (by rw [h0]) (fun i H' hi e => ?_) (fun i x H' hx e => ?_) (fun H' e => ?_)
  · subst e
    exact src _ (same_upd nD)
  · subst e
    exact hs i x hx (same_upd nD)
  · subst e
    exact hd _ (same_upd nD) upd_same
/-- the names of the comers, as a new list -/
theorem nm_of {K : PySem.W.Frag} {C a : Addr} {zs : List Str} {H : Hp} {te : TE} {σ : L2.St} {Q : VK} (m : MemAt C H a zs) (ht : ∀ Q' : VK, Q' (.ref a) H → te σ H Q') (q : ∀ r, H r = none → Q (.ref r) (upd H r (.lst (zs.map V.str)))) :
    tCB (rListOf K) (tCons (tProp C (getSp C "_names") [] E0 te) tNil) σ H Q := by
  obtain ⟨dx, t, d, k1, k2, k3⟩ := m.at_
  exact ht _ ⟨a, dx, _, rfl, k1, a, dx, _, _, rfl, k1, flds_names t d, t, _, rfl, .inr (SqT.of k2), q⟩
theorem pss_of {X : Cx} {b : List Stmt} {T : TS} (h : ∀ D σ H, T D σ H → ∃ t, PSs X b t ∧ t D σ H) : PSs X b T := ⟨fun pins s σ H D I hyp => by
  obtain ⟨t, ht, hq⟩ := h D σ H hyp
  exact ht.run pins s σ H D I hq⟩
def rTupOf (K : PySem.W.Frag) : List V → Hp → VK → Prop := fun xs H Q => ∃ p ys, xs = [.ref p] ∧ ((SqL K H p ys ∧ ∀ l, H l = none → Q (.ref l) (upd H l (.tup ys))) ∨ (SqT K H p ys ∧ Q (.ref p) H))
theorem call_tupK {X : Cx} : CallR X (.type "tuple") (rTupOf X.K) := call_tuple_of
/-- rows of names -/
structure Row (p a : Addr) (N : List Str) (H : Hp) : Prop where
  pool : PoolAt H p
  ne : a ≠ p
  at_ : H a = some (.lst (N.map V.str))
  len : N.length ≤ 20
  nd : N.Nodup
  nm : ∀ z ∈ N, nameB z = true
theorem Row.ext {p a : Addr} {N : List Str} {H H' : Hp} (r : Row p a N H) (x : Ext p H H') : Row p a N H' := ⟨x.pool, r.ne, x.at r.ne r.at_, r.len, r.nd, r.nm⟩
theorem MemAt.ext {C p q : Addr} {zs : List Str} {H H' : Hp} (hp : PoolAt H p) (x : Ext p H H') (m : MemAt C H q zs) : MemAt C H' q zs := by
  obtain ⟨⟨dx, t, d, h1, h2, h3⟩, a, b, c, e⟩ := m
  obtain ⟨i, j, k, hp⟩ := hp
  exact ⟨⟨dx, t, d, x.at (fun e => by rw [e, hp] at h1; cases h1) h1, x.at (fun e => by rw [e, hp] at h2; cases h2) h2, x.at (fun e => by rw [e, hp] at h3; cases h3) h3⟩, a, b, c, e⟩
theorem same_set {H H' : Hp} {d : Addr} {o : HO} (s : Same H H') (n : H d = none) : Same H (upd H' d o) := fun b x e => by
  rw [upd_ne (ne_of_none e n)]
  exact s _ _ e
theorem at0 {xs : List V} {i : Nat} {v : V} (h : xs[i]? = some v) : atI xs ((0 : Int) + (i : Nat)) = some v := by
  rw [Int.zero_add]
  exact atI_nat h
theorem lc_tupS {K : PySem.W.Frag} {a : Addr} {zs : List Str} {g : TG} {tt : TT} {te : TE} {vs : List Nat} {σ : L2.St} {H : Hp} {D : Addr} {Qd : Hp → Prop} (ha : H a = some (.tup (zs.map V.str))) (hl : zs.length ≤ 1000) (nD : H D = none)
    (hs : ∀ z H', g (.str z) (wipe σ vs) H' fun σ2 H2 => wipe σ2 vs = wipe σ vs ∧ tt σ2 H2 fun b H3 => b = true ∧ H3 = H' ∧ ∀ Q : VK, Q (.str z) H3 → te σ2 H3 Q)
    (hg : ∀ z H' (R R' : L2.St → Hp → Prop), (∀ s h, R s h → R' s h) → g (.str z) (wipe σ vs) H' R → g (.str z) (wipe σ vs) H' R')
    (ht : ∀ s h (R R' : Bool → Hp → Prop), (∀ b h', R b h' → R' b h') → tt s h R → tt s h R')
    (hd : ∀ H', Same H H' → H' D = some (.lst (zs.map V.str)) → Qd H') :
    ∃ W : Nat → Nat → Hp → Prop, (∃ m, W 0 m (upd H D (.lst []))) ∧ ∀ i m H, W i m H →
      ((Itt K a).stop i H ∧ Qd H) ∨ ((Itt K a).go i H ∧ ∃ Nx : Hp → Prop, (∀ H', Nx H' → ∃ m', m' < m ∧ W (i + 1) m' H') ∧ ∀ x H', (Itt K a).yld i H x H' → g x (wipe σ vs) H' fun σ2 H2 => wipe σ2 vs = wipe σ vs ∧ tt σ2 H2 fun b H3 =>
        if b = true then te σ2 H3 fun y H4 => ∃ acc, H4 D = some (.lst acc) ∧ acc.length < sizeLine ∧ Nx (upd H4 D (.lst (acc ++ [y]))) else Nx H3) := by
  refine lc_tup (K := K) (a := a) (xs := zs.map V.str) (fun i H' => H' = upd H D (.lst ((zs.take i).map V.str))) rfl (fun i H' hi e => ?_) (fun i x H' hx e => ?_) (fun H' e => ?_)
  · subst e
    exact SqT.of (same_upd nD _ _ ha)
  · subst e
    rw [List.getElem?_map] at hx
    obtain ⟨z, hz, rfl⟩ := Option.map_eq_some_iff.mp hx
    refine hg z _ _ _ (fun s h r => ⟨r.1, ht _ _ _ _ (fun b h' q => ?_) r.2⟩) (hs z _)
    obtain ⟨rfl, rfl, q⟩ := q
    rw [if_pos rfl]
    refine q _ ⟨_, upd_same, by rw [List.length_map, List.length_take, sizeLine_eq]; omega, ?_⟩
    rw [upd_upd, List.take_add_one, hz, List.map_append]
    rfl
  · subst e
    rw [List.length_map, List.take_length]
    exact hd _ (same_upd nD) upd_same
theorem upd_keep {H : Hp} {t b : Addr} {o1 o2 o : HO} (h : H t = some o1) (hb : H b = some o2) (n : o2 ≠ o1) : upd H t o b = some o2 := by
  rw [upd_ne (fun e => by rw [e, h] at hb; exact n (Option.some.inj hb).symm)]
  exact hb
abbrev sa : Str := Str.ofString "a"
inductive OddD (H : Hp) : V → PyData → Prop where
  | non : OddD H .non .none
  | int : OddD H (.int 0) (.int 0)
  | str : OddD H (.str sa) (.str sa)
  | tup0 {a : Addr} (e : H a = some (.tup [])) : OddD H (.ref a) (.tuple [])
  | tup1 {a : Addr} (e : H a = some (.tup [.str sa])) : OddD H (.ref a) (.tuple [.str sa])
  | lst {a : Addr} (e : H a = some (.lst [])) : OddD H (.ref a) (.list [])
  | dK {a : Addr} (e : H a = some (.dK [])) : OddD H (.ref a) (.dict [])
  | bl : OddD H (.bl true) (.bool true)
theorem OddD.keep {H H' : Hp} {v : V} {d : PyData} (h : OddD H v d) (k : ∀ a o, H a = some o → (∀ x y z : Int, o ≠ .lst [.int x, .int y, .int z]) → (∀ ps, o ≠ .tbl ps) → (∀ xs, o = .lst xs → xs = []) → H' a = some o) : OddD H' v d := by
  cases h with
  | non => exact .non
  | int => exact .int
  | str => exact .str
  | tup0 e => exact .tup0 (k _ _ e (fun _ _ _ e => by cases e) (fun _ e => by cases e) (fun _ e => by cases e))
  | tup1 e => exact .tup1 (k _ _ e (fun _ _ _ e => by cases e) (fun _ e => by cases e) (fun _ e => by cases e))
  | lst e => exact .lst (k _ _ e (fun _ _ _ e => by cases e) (fun _ e => by cases e) (fun _ e => by cases e; rfl))
  | dK e => exact .dK (k _ _ e (fun _ _ _ e => by cases e) (fun _ e => by cases e) (fun _ e => by cases e))
  | bl => exact .bl
theorem OddD.mv {p : Addr} {Tb : List (Addr × Str)} {H H' : Hp} {v : V} {d : PyData} (m : Mv p Tb H H') (hp : PoolAt H p) (h : OddD H v d) : OddD H' v d := h.keep fun a o e n nt _ => m.at hp e n nt
theorem OddD.set {t : Addr} {H : Hp} {as : List Addr} {o : HO} {v : V} {d : PyData} (ht : H t = some (.lst (as.map V.ref))) (hn : as ≠ []) (h : OddD H v d) : OddD (upd H t o) v d := h.keep fun a o e _ _ nl => upd_keep ht e fun q => by
  subst q
  have := nl _ rfl
  exact hn (List.map_eq_nil_iff.mp this)
theorem OddD.vok {H : Hp} {v : V} {d : PyData} (h : OddD H v d) : VOk H v := by
  cases h with
  | non => exact .inr .non
  | int => exact .inr (.int _)
  | str => exact .inl ⟨_, rfl, by rw [sizeLine_eq]; decide +kernel⟩
  | tup0 e => exact .inr (.tup e)
  | tup1 e => exact .inr (.tup e)
  | lst e => exact .inr (.lst e)
  | dK e => exact .inr (.dK e)
  | bl => exact .inr (.bl _)
theorem OddD.shd {K : PySem.W.Frag} {H : Hp} {v : V} {d : PyData} (h : OddD H v d) : RpD.ShD K H v d := by
  cases h with
  | non => exact .inl ⟨.non, .of rfl (by decide) (by decide)⟩
  | int => exact .inl ⟨.int _, .of (by decide) (by decide) (by decide)⟩
  | str => exact .inl ⟨.str _, .of (by decide +kernel) (by decide +kernel) (by decide +kernel)⟩
  | tup0 e => exact .inl ⟨.tup (SqT.of e) .nil, .of rfl (by decide) (by decide)⟩
  | tup1 e => exact .inl ⟨.tup (SqT.of e) (.cons (.str _) .nil), .of (by decide +kernel) (by decide +kernel) (by decide +kernel)⟩
  | lst e => exact .inl ⟨.lst (SqL.of e) .nil, .of rfl (by decide) (by decide)⟩
  | dK e => exact .inr ⟨_, rfl, e, rfl⟩
  | bl => exact .inl ⟨.bl _, .of rfl (by decide) (by decide)⟩
theorem OddD.ok {H : Hp} {v : V} {d : PyData} (h : OddD H v d) : PyData.strOk d.shown = true := by
  cases h <;> decide +kernel
theorem Lists.mv {p : Addr} {Tb : List (Addr × Str)} {H H' : Hp} {ds : List Addr} {Y : List (List Str)} (m : Mv p Tb H H') (hp : PoolAt H p) (h : Lists H ds Y) : Lists H' ds Y := ⟨h.len, fun j d y a b => m.strs hp (h.at_ j d y a b)⟩
theorem strs_refs {zs : List Str} {as : List Addr} (hn : as ≠ []) : HO.lst (zs.map V.str) ≠ HO.lst (as.map V.ref) := fun e => by
  have q := HO.lst.inj e
  cases as with
  | nil => exact hn rfl
  | cons a r =>
    cases zs with
    | nil => cases q
    | cons z s => cases q
theorem Lists.set {t : Addr} {H : Hp} {as ds : List Addr} {o : HO} {Y : List (List Str)} (ht : H t = some (.lst (as.map V.ref))) (hn : as ≠ []) (h : Lists H ds Y) : Lists (upd H t o) ds Y := ⟨h.len, fun j d y a b => upd_keep ht (h.at_ j d y a b) (strs_refs hn)⟩
/-- both are the Members of the same names -/
def SameMem (C : Addr) : Addr → Addr → Hp → Prop := fun a b H => ∃ ys, MemAt C H a ys ∧ MemAt C H b ys
theorem sameMem_mon (C : Addr) : ∀ a b H H', L2.Ext H H' → SameMem C a b H → SameMem C a b H' := fun a b H H' e h => by
  obtain ⟨ys, h1, h2⟩ := h
  exact ⟨ys, h1.same e, h2.same e⟩
theorem eq_same {P : Program} {w : World} {K : PySem.W.Frag} {mg : Str → Option Value} {base : Heap} {C g : Addr} {fd : FuncData} (F : FnOk P w K mg base CX0 3 g fd ["self", "other"] (spEqM C)) : FnOk P w K mg base CX0 3 g fd ["self", "other"] (spEq (SameMem C)) := by
  have imp : ∀ vs H Q E, spEq (SameMem C) vs H Q E → spEqM C vs H Q E := fun vs H Q E h => by
    obtain ⟨a, b, e, ⟨ys, h1, h2⟩, q⟩ := h
    refine ⟨a, ys, .ref b, e, h1, .inl ⟨b, ys, rfl, h2, ?_⟩⟩
    rw [decide_eq_true rfl]
    exact q H L2.Ext.rfl'
  exact ⟨fun vs H Q E h => F.len vs H Q E (imp vs H Q E h), fun A outer s H args us vs Q E hr e0 hb r h => F.run A outer s H args us vs Q E hr e0 hb r (imp vs H Q E h)⟩
theorem din {C a b : Addr} {ys zs : List Str} {H : Hp} (h1 : MemAt C H a ys) (h2 : MemAt C H b zs) (e : ys = zs) : DIns C (SameMem C) (.ref a) (.ref b) H := by
  subst e
  obtain ⟨dx, t, d, e1, _, _⟩ := h1.at_
  obtain ⟨dy, t2, d2, e2, _, _⟩ := h2.at_
  exact ⟨a, b, dx, dy, _, _, rfl, rfl, e1, e2, ys, h1, h2⟩
theorem MemAt.set {C a t : Addr} {H : Hp} {zs : List Str} {xs : List V} {o : HO} (h : H t = some (.lst xs)) (m : MemAt C H a zs) : MemAt C (upd H t o) a zs := by
  obtain ⟨⟨dx, t1, d, h1, h2, h3⟩, b, c, e, f⟩ := m
  exact ⟨⟨dx, t1, d, by rw [upd_ne (fun z => by rw [z, h] at h1; cases h1)]; exact h1, by rw [upd_ne (fun z => by rw [z, h] at h2; cases h2)]; exact h2, by rw [upd_ne (fun z => by rw [z, h] at h3; cases h3)]; exact h3⟩, b, c, e, f⟩
theorem mem_ty {K : PySem.W.Frag} {mg : Str → Option Value} {C b : Addr} {H : Hp} {ws : List Str} (M : MemC K mg C) (I : MemIs K C) (m : MemAt C H b ws) : TyX K H (.ref b) (.ref C) := by
  obtain ⟨dy, t2, d2, k1, _, _⟩ := m.at_
  exact .base (.ins k1 M.cl I.ha I.hn I.htk I.hm)
theorem bin_go {C a b : Addr} {zs ws : List Str} {r : Prop → Prop → Prop} {H : Hp} {Q : VK} {E : XK} (m1 : MemAt C H a zs) (m2 : MemAt C H b ws) (hl : zs.length + ws.length ≤ 1000) (q : MakesP C (fun z => r (z ∈ zs) (z ∈ ws)) H Q) : rBinO C (spBinM C r) E (.ref a) (.ref b) H Q := by
  obtain ⟨dx, t, d, h1, _, _⟩ := m1.at_
  obtain ⟨dy, t2, d2, k1, _, _⟩ := m2.at_
  exact ⟨a, dx, _, b, dy, _, rfl, rfl, h1, k1, a, b, zs, ws, rfl, m1, m2, hl, q⟩
theorem eq_go {K : PySem.W.Frag} {mg : Str → Option Value} {C a b : Addr} {zs ws : List Str} {H : Hp} {Q : VK} (M : MemC K mg C) (I : MemIs K C) (m1 : MemAt C H a zs) (m2 : MemAt C H b ws) (q : Q (.bl (decide (zs = ws))) H) : rEqO K C (spEqM C) (.ref a) (.ref b) H Q := by
  obtain ⟨dx, t, d, h1, _, _⟩ := m1.at_
  exact ⟨a, dx, _, _, rfl, h1, mem_ty M I m2, I.nfC, a, zs, .ref b, rfl, m1, .inl ⟨b, ws, rfl, m2, _, rfl, q⟩⟩
theorem ne_go {K : PySem.W.Frag} {mg : Str → Option Value} {C a b : Addr} {zs ws : List Str} {H : Hp} {Q : VK} (M : MemC K mg C) (I : MemIs K C) (m1 : MemAt C H a zs) (m2 : MemAt C H b ws) (q : Q (.bl (!decide (zs = ws))) H) : rNeO K C (spEqM C) (.ref a) (.ref b) H Q := by
  obtain ⟨dx, t, d, h1, _, _⟩ := m1.at_
  exact ⟨a, dx, _, _, rfl, h1, mem_ty M I m2, I.nfC, a, zs, .ref b, rfl, m1, .inl ⟨b, ws, rfl, m2, _, rfl, q⟩⟩
end K1

namespace K1
open PySem PySem.Spec
open PyProof.Rows L2 EnT StX SmX TxS DuX
/-! ### forms -/
inductive Fm where
  | leaf (z : Str)
  | node (s : Str) (l r : Fm)
abbrev tGiven : Str := "given"
abbrev tNone : Str := "none"
abbrev signs : List Str := ["|", "&", "-", "^"]
/-- a form on the heap -/
inductive FmAt (H : Hp) : V → Fm → Prop where
  | leaf (z : Str) : FmAt H (.str z) (.leaf z)
  | node {a : Addr} {s : Str} {vl vr : V} {l r : Fm} (h : H a = some (.tup [.str s, vl, vr])) (hl : FmAt H vl l) (hr : FmAt H vr r) : FmAt H (.ref a) (.node s l r)
/-- tuples stay -/
def TupK (H H' : Hp) : Prop := ∀ a xs, H a = some (.tup xs) → H' a = some (.tup xs)
theorem TupK.same {H H' : Hp} (s : Same H H') : TupK H H' := fun a xs h => s a _ h
theorem TupK.ext {p : Addr} {H H' : Hp} (hp : PoolAt H p) (x : K1.Ext p H H') : TupK H H' := fun a xs h => x.at (fun e => by
  obtain ⟨i, j, k, q⟩ := hp
  rw [e, q] at h
  cases h) h
theorem TupK.set {H H' : Hp} {t : Addr} {ys : List V} {o : HO} (k : TupK H H') (ht : H' t = some (.lst ys)) : TupK H (upd H' t o) := fun a xs h => by
  have h' := k a xs h
  rw [upd_ne (fun e => by rw [e, ht] at h'; cases h')]
  exact h'
theorem TupK.new {H H' : Hp} {t : Addr} {o : HO} (k : TupK H H') (ht : H t = none) : TupK H (upd H' t o) := fun a xs h => by
  rw [upd_ne (fun e => by rw [e, ht] at h; cases h)]
  exact k a xs h
theorem TupK.trans {H H1 H2 : Hp} (a : TupK H H1) (b : TupK H1 H2) : TupK H H2 := fun c xs h => b c xs (a c xs h)
theorem FmAt.keep {H H' : Hp} (k : TupK H H') {v : V} {t : Fm} (h : FmAt H v t) : FmAt H' v t := by
  induction h with
  | leaf z => exact .leaf z
  | node h _ _ ih1 ih2 => exact .node (k _ _ h) ih1 ih2
theorem FmAt.same {H H' : Hp} (s : Same H H') {v : V} {t : Fm} (h : FmAt H v t) : FmAt H' v t := h.keep (.same s)
namespace Fm
/-- the forms that are valid -/
def Ok : Fm → Prop
  | .leaf z => nameB z = true
  | .node s l r => s ∈ signs ∧ l.Ok ∧ r.Ok
def dep : Fm → Nat
  | .leaf _ => 1
  | .node _ l r => 1 + (if l.dep > r.dep then l.dep else r.dep)
def lvs : Fm → List Str
  | .leaf z => [z]
  | .node _ l r => l.lvs ++ r.lvs
def nl (t : Fm) : Nat := t.lvs.length
def size : Fm → Nat
  | .leaf _ => 1
  | .node _ l r => 1 + l.size + r.size
/-- the text; inside another one in brackets -/
def txt : Bool → Fm → Str
  | _, .leaf z => z
  | false, .node s l r => txt true l ++ (" " : Str) ++ s ++ (" " : Str) ++ txt true r
  | true, .node s l r => ("(" : Str) ++ (txt true l ++ (" " : Str) ++ s ++ (" " : Str) ++ txt true r) ++ (")" : Str)
def dat : Fm → PyData
  | .leaf z => .str z
  | .node s l r => .tuple [.str s, l.dat, r.dat]
theorem dep_pos : ∀ t : Fm, 1 ≤ t.dep
  | .leaf _ => Nat.le_refl _
  | .node _ l r => Nat.le_add_right _ _
theorem nl_pos : ∀ t : Fm, 1 ≤ t.nl
  | .leaf _ => Nat.le_refl _
  | .node _ l r => by
    have := nl_pos l
    unfold nl at this ⊢
    simp only [lvs, List.length_append]
    omega
theorem size_pos : ∀ t : Fm, 1 ≤ t.size
  | .leaf _ => Nat.le_refl _
  | .node _ l r => by simp only [size]; omega
theorem nl_node (s : Str) (l r : Fm) : (node s l r).nl = l.nl + r.nl := by
  unfold nl
  simp only [lvs, List.length_append]
theorem dep_node (s : Str) (l r : Fm) : (node s l r).dep = 1 + max l.dep r.dep := by
  simp only [dep]
  congr 1
  split <;> omega
theorem size_nl : ∀ t : Fm, t.size + 1 = 2 * t.nl
  | .leaf _ => rfl
  | .node s l r => by
    have a := size_nl l
    have b := size_nl r
    rw [nl_node]
    simp only [size]
    omega
theorem nl_dep : ∀ t : Fm, t.nl ≤ 2 ^ (t.dep - 1)
  | .leaf _ => Nat.le_refl _
  | .node s l r => by
    have a := nl_dep l
    have b := nl_dep r
    have pl := dep_pos l
    have pr := dep_pos r
    have a' : 2 ^ (l.dep - 1) ≤ 2 ^ (max l.dep r.dep - 1) := Nat.pow_le_pow_right (by decide) (by omega)
    have b' : 2 ^ (r.dep - 1) ≤ 2 ^ (max l.dep r.dep - 1) := Nat.pow_le_pow_right (by decide) (by omega)
    rw [nl_node, dep_node]
    have e : 1 + max l.dep r.dep - 1 = (max l.dep r.dep - 1) + 1 := by omega
    rw [e, Nat.pow_succ]
    omega
theorem Ok.names : ∀ {t : Fm}, t.Ok → ∀ z ∈ t.lvs, nameB z = true
  | .leaf z, h => fun y hy => by
    rw [List.mem_singleton.mp hy]
    exact h
  | .node s l r, h => fun y hy => by
    rcases List.mem_append.mp hy with e | e
    · exact h.2.1.names y e
    · exact h.2.2.names y e
end Fm
theorem sign_ok {s : Str} (h : s ∈ signs) : s.length = 1 ∧ PyData.strOk s = true := by
  simp only [signs, List.mem_cons, List.not_mem_nil, or_false] at h
  rcases h with rfl | rfl | rfl | rfl <;> decide +kernel
theorem txt_len5 : ∀ (b : Bool) (t : Fm), t.Ok → (t.txt b).length + 5 ≤ 13 * t.nl
  | b, .leaf z, h => by
    have := name_short (show nameB z = true from h)
    have e : (Fm.leaf z).txt b = z := by cases b <;> rfl
    rw [e]
    show z.length + 5 ≤ 13 * 1
    omega
  | b, .node s l r, h => by
    have a := txt_len5 true l h.2.1
    have b' := txt_len5 true r h.2.2
    have c := (sign_ok h.1).1
    have e1 : (" " : Str).length = 1 := by decide +kernel
    have e2 : ("(" : Str).length = 1 := by decide +kernel
    have e3 : (")" : Str).length = 1 := by decide +kernel
    rw [Fm.nl_node]
    cases b
    · simp only [Fm.txt]
      rw [strLen_append, strLen_append, strLen_append, strLen_append, c, e1]
      omega
    · simp only [Fm.txt]
      rw [strLen_append, strLen_append, strLen_append, strLen_append, strLen_append, strLen_append, c, e1, e2, e3]
      omega
theorem txt_len (b : Bool) (t : Fm) (h : t.Ok) : (t.txt b).length ≤ 13 * t.nl := Nat.le_trans (Nat.le_add_right _ _) (txt_len5 b t h)
theorem FmAt.dp {K : PySem.W.Frag} {H : Hp} {v : V} {t : Fm} (h : FmAt H v t) : Dp K H v t.dat := by
  induction h with
  | leaf z => exact .str z
  | node h _ _ ih1 ih2 => exact .tup (SqT.of h) (.cons (.str _) (.cons ih1 (.cons ih2 .nil)))
end K1

namespace K1
open PySem PySem.Spec
open PyProof.Rows L2 EnT StX SmX TxS DuX
/-- the names of the module of forms -/
structure Gf (K : PySem.W.Frag) (mg : Str → Option Value) (aS : Addr) : Prop where
  T : Free mg
  sg : mg "SIGNS" = some (.ref aS)
  st : ∀ H : Hp, SqT K H aS (signs.map V.str)
  gv : ∃ t, mg "GIVEN" = some (.str tGiven t)
  nn : ∃ t, mg "NONE" = some (.str tNone t)
  ml : ∃ t, mg "MOST_LEAVES" = some (.int 200 t)
  md : ∃ t, mg "MOST_DEPTH" = some (.int 20 t)
theorem name_line {z : Str} (h : nameB z = true) : z.length ≤ sizeLine := by
  have := name_short h
  rw [sizeLine_eq]
  omega
theorem FmAt.vok {H : Hp} {v : V} {t : Fm} (h : FmAt H v t) (ok : t.Ok) : VOk H v := by
  cases h with
  | leaf z => exact .inl ⟨z, rfl, name_line ok⟩
  | node h _ _ => exact .inr (.tup h)
/-! ### is_field, of a name -/
def fieldB (z : Str) : Bool := decide (z ≠ tGiven ∧ z ≠ tNone)
def spIsField : Sp := fun vs H Q _ => ∃ z : Str, vs = [.str z] ∧ nameB z = true ∧ ∀ H', Same H H' → Q (.bl (fieldB z)) H'
section
variable {w : World} {P : Program} {base : Heap} {mg : Str → Option Value} {K : PySem.W.Frag} {aS : Addr}
theorem scIsField : FnScope ["value"] ["value"] (defScope sIsField) := ⟨rfl, rfl, rfl, by decide +kernel, rfl, by decide +kernel, by decide +kernel⟩
theorem ok_isfield {f fN : Addr} {fd : FuncData} (F : Fun K "is_field" "is_field" sIsField f fd) (G : Gf K mg aS) (hN : Has P w K mg base CX0 1 "is_name" fN ["value"] spIsName) : FnOk P w K mg base CX0 2 f fd ["value"] spIsField := by
  obtain ⟨tg, hg⟩ := G.gv
  obtain ⟨tn, hn⟩ := G.nn
  refine F.ok scIsField (fun vs H Q E h => ?_) (fun cdv A outer s H vs Q E hr h => ?_)
  · obtain ⟨z, rfl, _⟩ := h
    rfl
  · obtain ⟨z, rfl, nz, q⟩ := h
    refine ⟨_, pss_one (ps_ret (pe_and (pe_has hN hr (by rfl) pass0 (pa_cons (pv 0) pa_nil)) (pe_one (pe_cmpR op_notIn_seq (pv 0) (pe_tup (pa_cons (pe_glob (v := .str tGiven) (by rfl) hg ⟨_, rfl⟩) (pa_cons (pe_glob (v := .str tNone) (by rfl) hn ⟨_, rfl⟩) pa_nil))) (by rfl))))), ?_⟩
    have e : nameV (.str z) = true := nz
    refine ⟨_, rfl, _, rfl, .inl ⟨z, rfl, name_line nz⟩, _, rfl, ?_⟩
    rw [e]
    refine iteT ⟨_, rfl, (by show 2 ≤ sizeLine; decide), fun a na => ⟨a, _, rfl, .inr (SqT.of upd_same), rfl, rfl, ?_⟩⟩
    have z2 : (!inV (.str z) [V.str tGiven, V.str tNone]) = fieldB z := by
      have := inV_mem z [tGiven, tNone]
      show (!inV (.str z) ([tGiven, tNone].map V.str)) = _
      rw [this]
      unfold fieldB
      by_cases h1 : z = tGiven <;> by_cases h2 : z = tNone <;> simp [h1, h2]
    rw [z2]
    exact q _ (same_upd na)
/-! ### is_triple, of a form -/
def isNode : Fm → Bool
  | .leaf _ => false
  | .node _ _ _ => true
def spTriple : Sp := fun vs H Q _ => ∃ (v : V) (t : Fm), vs = [v] ∧ FmAt H v t ∧ t.Ok ∧ Q (.bl (isNode t)) H
theorem scTriple : FnScope ["value"] ["value"] (defScope sTriple) := ⟨rfl, rfl, rfl, by decide +kernel, rfl, by decide +kernel, by decide +kernel⟩
theorem ok_triple {f : Addr} {fd : FuncData} (F : Fun K "is_triple" "is_triple" sTriple f fd) (G : Gf K mg aS) : FnOk P w K mg base CX0 1 f fd ["value"] spTriple := by
  have T := G.T
  refine F.ok scTriple (fun vs H Q E h => ?_) (fun cdv A outer s H vs Q E hr h => ?_)
  · obtain ⟨v, t, rfl, _⟩ := h
    rfl
  · obtain ⟨v, t, rfl, m, ok, q⟩ := h
    refine ⟨_, pss_one (ps_ret (pe_and (pe_callB call_isi (by rfl) T.isinstance (by decide +kernel) (pa_cons (pv 0) (pa_cons (pe_bltn (v := .ty "tuple") (u := .type "tuple") (by rfl) T.tuple (by decide +kernel) rfl) pa_nil)))
      (pe_and (pe_cmpR op_eq (pe_callB call_len_seq (by rfl) T.len PySem.boot_len (pa_cons (pv 0) pa_nil)) pe_int (nomark _))
      (pe_and (pe_callB call_isi (by rfl) T.isinstance (by decide +kernel) (pa_cons (pe_ix ix_tup (pv 0) pe_int (fun _ _ => rfl)) (pa_cons (pe_bltn (v := .ty "str") (u := .type "str") (by rfl) T.str (by decide +kernel) rfl) pa_nil)))
      (pe_one (pe_cmpR op_in_seq (pe_ix ix_tup (pv 0) pe_int (fun _ _ => rfl)) (pe_glob (v := .ref aS) (by rfl) G.sg rfl) (by rfl))))))), ?_⟩
    cases m with
    | leaf z => exact ⟨_, rfl, _, _, _, _, false, rfl, .ty _, .base (.str z), kit_ty (by decide +kernel), false, rfl, iteF q⟩
    | node h hl hr' =>
      rename_i a s vl vr l r
      refine ⟨_, rfl, _, _, _, _, true, rfl, .ty _, .base (.tup h), kit_ty (by decide +kernel), true, rfl, iteT ?_⟩
      refine ⟨_, rfl, a, _, rfl, .inr (SqT.of h), rfl, _, rfl, iteT ?_⟩
      refine ⟨_, rfl, a, _, _, .str s, rfl, rfl, SqT.of h, atI_nat (j := 0) rfl, ?_⟩
      refine ⟨_, _, _, _, true, rfl, .ty _, .base (.str s), kit_ty (by decide +kernel), true, rfl, iteT ?_⟩
      refine ⟨_, rfl, a, _, _, .str s, rfl, rfl, SqT.of h, atI_nat (j := 0) rfl, ?_⟩
      refine ⟨aS, _, rfl, .inr (G.st H), rfl, strs_flat _, ?_⟩
      rw [inV_mem, decide_eq_true ok.1]
      exact q
/-! ### check_leaves, check_depth, within the limits -/
def spChk (n : Int) : Sp := fun vs H Q _ => ∃ i : Int, vs = [.int i] ∧ i ≤ n ∧ Q .non H
theorem scChkL : FnScope ["leaves"] ["leaves"] (defScope sChkL) := ⟨rfl, rfl, rfl, by decide +kernel, rfl, by decide +kernel, by decide +kernel⟩
theorem scChkD : FnScope ["depth"] ["depth"] (defScope sChkD) := ⟨rfl, rfl, rfl, by decide +kernel, rfl, by decide +kernel, by decide +kernel⟩
theorem ok_chkL {f : Addr} {fd : FuncData} (F : Fun K "check_leaves" "check_leaves" sChkL f fd) (G : Gf K mg aS) : FnOk P w K mg base CX0 1 f fd ["leaves"] (spChk 200) := by
  obtain ⟨t, ht⟩ := G.ml
  refine F.ok scChkL (fun vs H Q E h => ?_) (fun cdv A outer s H vs Q E hr h => ?_)
  · obtain ⟨i, rfl, _⟩ := h
    rfl
  · obtain ⟨i, rfl, le, q⟩ := h
    refine ⟨_, pss_one (ps_if (pt_cmpR op_gt (pv 0) (pe_glob (v := .int 200) (by rfl) ht ⟨_, rfl⟩) (nomark _)) pss_never pss_nil), ?_⟩
    refine ⟨_, rfl, _, _, rfl, rfl, _, rfl, ?_⟩
    rw [decide_eq_false (by omega)]
    exact iteF q
theorem ok_chkD {f : Addr} {fd : FuncData} (F : Fun K "check_depth" "check_depth" sChkD f fd) (G : Gf K mg aS) : FnOk P w K mg base CX0 1 f fd ["depth"] (spChk 20) := by
  obtain ⟨t, ht⟩ := G.md
  refine F.ok scChkD (fun vs H Q E h => ?_) (fun cdv A outer s H vs Q E hr h => ?_)
  · obtain ⟨i, rfl, _⟩ := h
    rfl
  · obtain ⟨i, rfl, le, q⟩ := h
    refine ⟨_, pss_one (ps_if (pt_cmpR op_gt (pv 0) (pe_glob (v := .int 20) (by rfl) ht ⟨_, rfl⟩) (nomark _)) pss_never pss_nil), ?_⟩
    refine ⟨_, rfl, _, _, rfl, rfl, _, rfl, ?_⟩
    rw [decide_eq_false (by omega)]
    exact iteF q
end
end K1

namespace K1
open PySem PySem.Spec
open PyProof.Rows L2 EnT StX SmX TxS DuX
/-! ### comprehensions whose steps make objects -/
def StepG (D : Addr) (H : Hp) (out : Nat → List V) (i : Nat) : VK := fun y H4 => Same H H4 ∧ H4 D = some (.lst (out i)) ∧ (out i).length < sizeLine ∧ out (i + 1) = out i ++ [y]
theorem lc_grow {K : PySem.W.Frag} {a : Addr} {xs : List V} {g : TG} {tt : TT} {te : TE} {vs : List Nat} {σ : L2.St} {H : Hp} {D : Addr} {Qd : Hp → Prop} (out : Nat → List V) (src : ∀ H', Same H H' → SqL K H' a xs) (nD : H D = none) (h0 : out 0 = [])
    (hs : ∀ i x H', xs[i]? = some x → Same H H' → H' D = some (.lst (out i)) → g x (wipe σ vs) H' fun σ2 H2 => wipe σ2 vs = wipe σ vs ∧ tt σ2 H2 fun b H3 => if b = true then te σ2 H3 (StepG D H out i) else (Same H H3 ∧ H3 D = some (.lst (out (i + 1)))))
    (hg : ∀ x H' (R R' : L2.St → Hp → Prop), (∀ s h, R s h → R' s h) → g x (wipe σ vs) H' R → g x (wipe σ vs) H' R')
    (ht : ∀ s h (R R' : Bool → Hp → Prop), (∀ b h', R b h' → R' b h') → tt s h R → tt s h R')
    (he : ∀ s h (R R' : VK), (∀ b h', R b h' → R' b h') → te s h R → te s h R')
    (hd : ∀ H', Same H H' → H' D = some (.lst (out xs.length)) → Qd H') :
    ∃ W : Nat → Nat → Hp → Prop, (∃ m, W 0 m (upd H D (.lst []))) ∧ ∀ i m H, W i m H →
      ((Itl K a).stop i H ∧ Qd H) ∨ ((Itl K a).go i H ∧ ∃ Nx : Hp → Prop, (∀ H', Nx H' → ∃ m', m' < m ∧ W (i + 1) m' H') ∧ ∀ x H', (Itl K a).yld i H x H' → g x (wipe σ vs) H' fun σ2 H2 => wipe σ2 vs = wipe σ vs ∧ tt σ2 H2 fun b H3 =>
        if b = true then te σ2 H3 fun y H4 => ∃ acc, H4 D = some (.lst acc) ∧ acc.length < sizeLine ∧ Nx (upd H4 D (.lst (acc ++ [y]))) else Nx H3) := by
  refine lc_list (K := K) (a := a) (xs := xs) (fun i H' => Same H H' ∧ H' D = some (.lst (out i))) ⟨same_upd nD, by rw [upd_same, h0]⟩ (fun i H' hi e => src _ e.1) (fun i x H' hx e => ?_) (fun H' e => hd _ e.1 e.2)
  refine hg x H' _ _ (fun s h r => ⟨r.1, ht _ _ _ _ (fun b h' q => ?_) r.2⟩) (hs i x H' hx e.1 e.2)
  cases b with
  | false => exact q
  | true =>
    refine he _ _ _ _ (fun y h4 z => ?_) q
    obtain ⟨s4, d4, l4, o4⟩ := z
    exact ⟨_, d4, l4, same_set s4 nD, by rw [upd_same, o4]⟩
/-! ### form_leaves -/
def spLeaves (n : Nat) : Sp := fun vs H Q _ => ∃ (v : V) (t : Fm), vs = [v] ∧ FmAt H v t ∧ t.dep ≤ n ∧ t.nl ≤ 1000 ∧ ∀ (q : Addr) (H' : Hp), H q = none → Same H H' → H' q = some (.lst (t.lvs.map V.str)) → Q (.ref q) H'
section
variable {w : World} {P : Program} {base : Heap} {mg : Str → Option Value} {K : PySem.W.Frag} {aS : Addr}
theorem scLeavesF : FnScope ["form"] ["form"] (defScope sLeavesF) := ⟨rfl, rfl, rfl, by decide +kernel, rfl, by decide +kernel, by decide +kernel⟩
theorem ok_leavesF {f : Addr} {fd : FuncData} (F : Fun K "form_leaves" "form_leaves" sLeavesF f fd) (T : Free mg) (mgF : mg "form_leaves" = some (.ref f)) : ∀ n : Nat, FnOk P w K mg base CX0 (n + 1) f fd ["form"] (spLeaves (n + 1)) := by
  have bF : L2.Binds K fd ["form"] [] := F.binds (ps := ["form"]) fun _ _ _ _ _ _ us hl => match us, hl with | [_], _ => rfl
  intro n
  induction n with
  | zero =>
    refine F.ok scLeavesF (fun vs H Q E h => ?_) (fun cdv A outer s H vs Q E hr h => ?_)
    · obtain ⟨v, t, rfl, _⟩ := h
      rfl
    · obtain ⟨v, t, rfl, m, d, l, q⟩ := h
      refine ⟨_, pss_cons (ps_if (pt_val (pe_callB call_isi (by rfl) T.isinstance (by decide +kernel) (pa_cons (pv 0) (pa_cons (pe_bltn (v := .ty "str") (u := .type "str") (by rfl) T.str (by decide +kernel) rfl) pa_nil)))) (pss_one (ps_ret (pe_lst (pa_cons (pv 0) pa_nil)))) pss_nil) pss_never, ?_⟩
      cases m with
      | leaf z => exact ⟨_, rfl, _, _, _, _, true, rfl, .ty _, .base (.str z), kit_ty (by decide +kernel), true, rfl, iteT ⟨_, rfl, (by show 1 ≤ sizeLine; decide), fun p np => q p _ np (same_upd np) upd_same⟩⟩
      | node h hl hr' =>
        rename_i a s' vl vr l' r'
        have := Fm.dep_pos l'
        rw [Fm.dep_node] at d
        omega
  | succ n ih =>
    have hF : Has P w K mg base CX0 (n + 1) "form_leaves" f ["form"] (spLeaves (n + 1)) := ⟨mgF, F.kp, fd, ih, bF⟩
    refine F.ok scLeavesF (fun vs H Q E h => ?_) (fun cdv A outer s H vs Q E hr h => ?_)
    · obtain ⟨v, t, rfl, _⟩ := h
      rfl
    · obtain ⟨v, t, rfl, m, d, l, q⟩ := h
      refine ⟨_, pss_cons (ps_if (pt_val (pe_callB call_isi (by rfl) T.isinstance (by decide +kernel) (pa_cons (pv 0) (pa_cons (pe_bltn (v := .ty "str") (u := .type "str") (by rfl) T.str (by decide +kernel) rfl) pa_nil)))) (pss_one (ps_ret (pe_lst (pa_cons (pv 0) pa_nil)))) pss_nil)
        (pss_one (ps_ret (pe_op op_cat (pe_has hF hr (by rfl) pass0 (pa_cons (pe_ix ix_tup (pv 0) pe_int (fun _ _ => rfl)) pa_nil)) (pe_has hF hr (by rfl) pass0 (pa_cons (pe_ix ix_tup (pv 0) pe_int (fun _ _ => rfl)) pa_nil))))), ?_⟩
      cases m with
      | leaf z => exact ⟨_, rfl, _, _, _, _, true, rfl, .ty _, .base (.str z), kit_ty (by decide +kernel), true, rfl, iteT ⟨_, rfl, (by show 1 ≤ sizeLine; decide), fun p np => q p _ np (same_upd np) upd_same⟩⟩
      | node h hl hr' =>
        rename_i a s' vl vr l' r'
        rw [Fm.dep_node] at d
        rw [Fm.nl_node] at l
        refine ⟨_, rfl, _, _, _, _, false, rfl, .ty _, .base (.tup h), kit_ty (by decide +kernel), false, rfl, iteF ?_⟩
        refine ⟨_, rfl, a, _, _, vl, rfl, rfl, SqT.of h, atI_nat (j := 1) rfl, vl, l', rfl, hl, by omega, by omega, fun q1 H1 n1 s1 h1 => ?_⟩
        refine ⟨_, rfl, a, _, _, vr, rfl, rfl, SqT.of (s1 _ _ h), atI_nat (j := 2) rfl, vr, r', rfl, hr'.same s1, by omega, by omega, fun q2 H2 n2 s2 h2 => ?_⟩
        have e1 : (l'.lvs.map V.str).length = l'.nl := List.length_map ..
        have e2 : (r'.lvs.map V.str).length = r'.nl := List.length_map ..
        refine ⟨q1, q2, _, _, rfl, rfl, s2 _ _ h1, h2, by rw [e1, e2, sizeLine_eq]; omega, fun p np => ?_⟩
        have s12 := s1.trans s2
        refine q p _ ?_ (s12.trans (same_upd np)) (by rw [upd_same, ← List.map_append]; rfl)
        cases hh : H p with
        | none => rfl
        | some o =>
          rw [s12 _ _ hh] at np
          cases np
/-! ### form_fields -/
def spFields (n : Nat) : Sp := fun vs H Q _ => ∃ (v : V) (t : Fm), vs = [v] ∧ FmAt H v t ∧ t.Ok ∧ t.dep ≤ n ∧ t.nl ≤ 500 ∧ ∀ (q : Addr) (ys : List Str) (H' : Hp), Same H H' → H' q = some (.tup (ys.map V.str)) → sortedS ys = true → ys.Nodup → (∀ z, z ∈ ys ↔ z ∈ t.lvs ∧ fieldB z = true) → Q (.ref q) H'
abbrev nmFF : List Str := ["form", "leaves", "leaf"]
theorem scFieldsF : FnScope nmFF ["form"] (defScope sFieldsF) := ⟨rfl, rfl, rfl, by decide +kernel, rfl, by decide +kernel, by decide +kernel⟩
theorem ok_fieldsF {n : Nat} {f fL fI : Addr} {fd : FuncData} (F : Fun K "form_fields" "form_fields" sFieldsF f fd) (T : Free mg) (hL : Has P w K mg base CX0 (n + 3) "form_leaves" fL ["form"] (spLeaves (n + 3))) (hI : Has P w K mg base CX0 2 "is_field" fI ["value"] spIsField) :
    FnOk P w K mg base CX0 (n + 4) f fd ["form"] (spFields (n + 3)) := by
  refine F.ok scFieldsF (fun vs H Q E h => ?_) (fun cdv A outer s H vs Q E hr h => ?_)
  · obtain ⟨v, t, rfl, _⟩ := h
    rfl
  · obtain ⟨v, t, rfl, m, ok, d, l, q⟩ := h
    refine ⟨_, pss_cons (ps_set (i := 1) scFieldsF.nd rfl (.inl rfl) (pe_has hL hr (by rfl) pass0 (pa_cons (pv 0) pa_nil)))
      (pss_one (ps_ret (pe_callTy call_tuple_of (by rfl) T.tuple (by decide +kernel) (pa_cons (pe_sortSet rfl (by rfl) T.sorted (by rfl) T.set (pe_lc (own := [("leaf", 2)]) (g := gName 2) (tt := tTest (tCall spIsField [] E0 (tCons (tVar 2) tNil))) rfl scFieldsF.nd (pi_list (pv 1))
            (blkOk_by (own := [("leaf", 2)]) (N := nmFF) (sc := defScope sFieldsF) (by decide +kernel)) (fun _ _ _ _ _ => pg_name (i := 2) scFieldsF.nd rfl (Or.inl rfl))
            (fun _ _ _ _ _ => pts_one (pt_val (pe_has hI (hr.mono (by omega)) (by rfl) pass0 (pa_cons (pv 2) pa_nil)))) (fun _ _ _ _ _ => pv 2))) pa_nil)))), ?_⟩
    have lt : t.lvs.length ≤ 500 := l
    refine ⟨_, rfl, v, t, rfl, m, d, by omega, fun q1 H1 n1 s1 h1 => ?_⟩
    refine ⟨_, rfl, q1, rfl, ⟨_, SqL.of h1⟩, fun D1 nD => lc_grow (K := K) (a := q1) (xs := t.lvs.map V.str) (outF t.lvs fieldB) (fun H' e => SqL.of (e _ _ h1)) nD rfl (fun i x H' hx e1 e2 => ?_) (fun x H' R R' h hh => h _ _ hh) (fun s h R R' k hh => ?_) (fun s h R R' k hh => ?_) fun H2 s2 h2 => ?_⟩
    · obtain ⟨z, hz, rfl⟩ := str_at hx
      refine ⟨rfl, _, rfl, z, rfl, ok.names z (List.mem_of_getElem? hz), fun H2 s2 => ⟨_, rfl, ?_⟩⟩
      cases hf : fieldB z with
      | true => exact iteT ⟨_, rfl, e1.trans s2, s2 _ _ e2, outF_len (by omega), outF_yes hz hf⟩
      | false => exact iteF ⟨e1.trans s2, by rw [outF_no hz hf]; exact s2 _ _ e2⟩
    · obtain ⟨v', e, z, e2, nz, q⟩ := hh
      exact ⟨v', e, z, e2, nz, fun H' s' => by
        obtain ⟨k', e3, r⟩ := q H' s'
        exact ⟨k', e3, k _ _ r⟩⟩
    · obtain ⟨v', e, r⟩ := hh
      exact ⟨v', e, k _ _ r⟩
    · rw [outF_end (List.length_map ..)] at h2
      have lF := List.length_filter_le fieldB t.lvs
      refine ⟨D1, t.lvs.filter fieldB, rfl, .inl (SqL.of h2), by omega, fun ys q2 srt nd mem lys nq2 => ?_⟩
      have s3 : Same H2 (upd H2 q2 (.lst (ys.map V.str))) := same_upd nq2
      refine ⟨q2, _, rfl, .inl ⟨SqL.of upd_same, fun tp ntp => ?_⟩⟩
      have s4 := same_upd (o := .tup (ys.map V.str)) ntp
      exact q tp ys _ (((s1.trans s2).trans s3).trans s4) upd_same srt nd fun z => (mem z).trans (by rw [List.mem_filter])
end
end K1

namespace K1
open PySem PySem.Spec
open PyProof.Rows L2 EnT StX SmX TxS DuX
namespace Fm
theorem lay : ∀ {t : Fm}, t.Ok → PyData.canLay0 t.dat = true
  | .leaf z, h => by
    have := strOk_low (name_low (show nameB z = true from h))
    simp [dat, PyData.canLay0, this]
  | .node s l r, h => by
    have a := lay h.2.1
    have b := lay h.2.2
    have c := (sign_ok h.1).2
    simp [dat, PyData.canLay0, PyData.canLayAll0, a, b, c]
theorem ddep : ∀ t : Fm, PyData.depth t.dat + 1 = t.dep
  | .leaf z => rfl
  | .node s l r => by
    have a := ddep l
    have b := ddep r
    rw [dep_node]
    simp only [dat, PyData.depth, PyData.depthAll]
    omega
theorem shaped {t : Fm} (h : t.Ok) (d : t.dep ≤ 60) : SeqAt.shaped t.dat = true := by
  show (PyData.canLay0 t.dat && decide (PyData.depth t.dat ≤ 64)) = true
  rw [lay h, Bool.true_and]
  have := ddep t
  exact decide_eq_true (by omega)
theorem eqv_eq : ∀ {t u : Fm}, PyData.eqv t.dat u.dat = true → t = u
  | .leaf z, .leaf y, h => by
    simp only [dat, PyData.eqv] at h
    rw [beq_iff_eq.mp h]
  | .leaf z, .node _ _ _, h => by simp [dat, PyData.eqv] at h
  | .node _ _ _, .leaf z, h => by simp [dat, PyData.eqv] at h
  | .node s l r, .node s' l' r', h => by
    simp only [dat, PyData.eqv, PyData.eqvAll, Bool.and_eq_true, Bool.and_true] at h
    obtain ⟨h1, h2, h3⟩ := h
    rw [beq_iff_eq.mp h1, eqv_eq h2, eqv_eq h3]
theorem eqv_self {t : Fm} (h : t.Ok) : PyData.eqv t.dat t.dat = true := SeqAt.eqv_refl _ (lay h)
end Fm
/-! ### form_size -/
structure It4 where
  a : Addr
  v : V
  m : Nat
  k : Nat
  t : Fm
structure ItOk (H : Hp) (i : It4) : Prop where
  h : H i.a = some (.tup [i.v, .int i.m, .int i.k])
  f : FmAt H i.v i.t
  ok : i.t.Ok
  m1 : 1 ≤ i.m
  k1 : 1 ≤ i.k
theorem ItOk.keep {H H' : Hp} {i : It4} (k : TupK H H') (x : ItOk H i) : ItOk H' i := ⟨k _ _ x.h, x.f.keep k, x.ok, x.m1, x.k1⟩
def lsum : List It4 → Nat
  | [] => 0
  | i :: r => i.m * i.t.nl + lsum r
def lmax : List It4 → Nat
  | [] => 0
  | i :: r => max (i.k + i.t.dep - 1) (lmax r)
def lsz : List It4 → Nat
  | [] => 0
  | i :: r => i.t.size + lsz r
theorem lsum_app : ∀ (x y : List It4), lsum (x ++ y) = lsum x + lsum y
  | [], y => by simp [lsum]
  | i :: r, y => by
    have := lsum_app r y
    simp only [List.cons_append, lsum, this]
    omega
theorem lsz_app : ∀ (x y : List It4), lsz (x ++ y) = lsz x + lsz y
  | [], y => by simp [lsz]
  | i :: r, y => by
    have := lsz_app r y
    simp only [List.cons_append, lsz, this]
    omega
theorem lmax_app : ∀ (x y : List It4), lmax (x ++ y) = max (lmax x) (lmax y)
  | [], y => by simp [lmax]
  | i :: r, y => by
    have := lmax_app r y
    simp only [List.cons_append, lmax, this]
    omega
theorem lsum_len : ∀ {l : List It4}, (∀ i ∈ l, 1 ≤ i.m) → l.length ≤ lsum l
  | [], _ => Nat.le_refl _
  | i :: r, h => by
    have a := lsum_len (l := r) fun j hj => h j (List.mem_cons_of_mem _ hj)
    have b := h i List.mem_cons_self
    have c := Fm.nl_pos i.t
    have d : 1 * 1 ≤ i.m * i.t.nl := Nat.mul_le_mul b c
    simp only [List.length_cons, lsum]
    omega
def spSize : Sp := fun vs H Q _ => ∃ (v : V) (t : Fm), vs = [v] ∧ FmAt H v t ∧ t.Ok ∧ t.nl ≤ 500 ∧ t.dep ≤ 60 ∧ ∀ (q : Addr) (H' : Hp), Same H H' → H' q = some (.tup [.int t.nl, .int t.dep]) → Q (.ref q) H'
abbrev nmSz : List Str := ["value", "leaves", "depth", "parts", "part", "times", "level", "side"]
theorem scSize : FnScope nmSz ["value"] (defScope sSize) := ⟨rfl, rfl, rfl, by decide +kernel, rfl, by decide +kernel, by decide +kernel⟩
structure AtSz (T : Fm) (L : Addr) (H0 : Hp) (m : Nat) (σ : L2.St) (H : Hp) : Prop where
  ex : ∃ (its : List It4) (lv dp : Nat) (x0 x4 x5 x6 x7 : Option V), σ = [x0, some (.int lv), some (.int dp), some (.ref L), x4, x5, x6, x7] ∧ m = lsz its ∧ H L = some (.lst (its.map fun i => V.ref i.a)) ∧ (∀ i ∈ its, ItOk H i) ∧ lv + lsum its = T.nl ∧ max dp (lmax its) = T.dep ∧ Same H0 H
abbrev cxZ (P : Program) (w : World) (K : PySem.W.Frag) (mg : Str → Option Value) (base : Heap) (f : Addr) (cdv : Value) (A : Around) (outer : List Env) (s : Shared) (H : Hp) (E : XK) : Cx := (cxOf CX0 P w K mg base nmSz "form_size" (defScope sSize) f cdv A outer s H E).nox
def whB : List Stmt := match defBody sSize with
  | _ :: _ :: (.While _ b _ _) :: _ => b
  | _ => []
/-- a turn of the loop, behind the depth -/
structure AtB (R : Fm → Prop) (T : Fm) (L : Addr) (H0 : Hp) (σ : L2.St) (H : Hp) (En : Ends) : Prop where
  ex : ∃ (its : List It4) (v : V) (t : Fm) (lv dp m k M : Nat) (x0 x7 : Option V), σ = [x0, some (.int lv), some (.int dp), some (.ref L), some v, some (.int m), some (.int k), x7] ∧ H L = some (.lst (its.map fun i => V.ref i.a)) ∧ (∀ i ∈ its, ItOk H i) ∧ FmAt H v t ∧ t.Ok ∧ R t ∧ 1 ≤ m ∧ 1 ≤ k ∧ k ≤ dp ∧
    lv + (lsum its + m * t.nl) = T.nl ∧ max dp (max (lmax its) (k + t.dep - 1)) = T.dep ∧ lsz its + t.size ≤ M ∧ Same H0 H ∧ H0 L = none ∧ T.nl ≤ 500 ∧ T.dep ≤ 60 ∧ ∀ σ' H', (∃ m', m' < M ∧ AtSz T L H0 m' σ' H') → En.nx σ' H'
section
variable {w : World} {P : Program} {base : Heap} {mg : Str → Option Value} {K : PySem.W.Frag} {aS : Addr}
variable {f fN fT : Addr} {cdv : Value} {A : Around} {outer : List Env} {s : Shared} {H00 : Hp} {E : XK} {T0 : Fm} {L : Addr} {H0 : Hp}
def inIf : List Stmt → List Stmt × List Stmt
  | [.If _ a b _] => (a, b)
  | _ => ([], [])
def whI : List Stmt × List Stmt := inIf (inIf (inIf (whB.drop 2)).2).2
theorem sz_app (T : Free mg) (hr : Room 1 (A.deeper (envOfC "form_size" (defScope sSize) s.heap.objs.size f cdv))) :
    PSs (cxZ P w K mg base f cdv A outer s H00 E) whI.1 (fun En σ H => AtB (fun t => ∃ s l, t = .node s l l) T0 L H0 σ H En) := by
  refine pss_of fun En σ H hyp => ?_
  obtain ⟨its, v, t, lv, dp, m, k, M, x0, x7, eσ, hL, hi, ft, ok, rt, m1, k1, kd, e1, e2, e3, s0, nL, l5, d6, fin⟩ := hyp.ex
  refine ⟨_, pss_one (ps_expr (pe_bm PySem.F.plainAttrs_list PySem.F.slot_list_append PySem.F.type_list_append mt_append (pv 3) (pa_cons (pe_tup (pa_cons (pe_ix ix_tup (pv 4) pe_int (fun _ _ => rfl)) (pa_cons (pe_op op_add (pv 5) (pv 5)) (pa_cons (pe_op op_add (pv 6) pe_int) pa_nil)))) pa_nil))), ?_⟩
  subst eσ
  obtain ⟨s', l, rfl⟩ := rt
  cases ft with
  | node h hl hr' =>
    rename_i a vl vr
    have hlen : its.length ≤ 500 := by
      have := lsum_len (l := its) fun i hx => (hi i hx).m1
      omega
    refine ⟨_, rfl, .inl ⟨rfl, _, SqL.of hL⟩, ?_⟩
    refine ⟨_, rfl, a, _, _, vl, rfl, rfl, SqT.of h, atI_nat (j := 1) rfl, _, rfl, _, rfl, _, _, rfl, rfl, _, rfl, _, _, rfl, rfl, (by show 3 ≤ sizeLine; decide), fun p np => ?_⟩
    have s1 : Same H (upd H p (.tup [vl, .int ((m : Int) + m), .int ((k : Int) + 1)])) := same_upd np
    refine ⟨L, _, _, rfl, rfl, s1 _ _ hL, by rw [List.length_map, sizeLine_eq]; omega, ?_⟩
    have kp : TupK H (upd (upd H p (.tup [vl, .int ((m : Int) + m), .int ((k : Int) + 1)])) L (.lst (its.map (fun i => V.ref i.a) ++ [.ref p]))) := (TupK.same s1).set (s1 _ _ hL)
    have em : (m : Int) + m = ((m + m : Nat) : Int) := by omega
    have ek : (k : Int) + 1 = ((k + 1 : Nat) : Int) := by omega
    have pL : p ≠ L := fun e => by rw [e, hL] at np; cases np
    have hp : (upd (upd H p (.tup [vl, .int ((m : Int) + m), .int ((k : Int) + 1)])) L (.lst (its.map (fun i => V.ref i.a) ++ [.ref p]))) p = some (.tup [vl, .int (m + m : Nat), .int (k + 1 : Nat)]) := by
      rw [upd_ne pL, upd_same, em, ek]
    refine fin _ _ ⟨lsz (its ++ [⟨p, vl, m + m, k + 1, l⟩]), ?_, its ++ [⟨p, vl, m + m, k + 1, l⟩], lv, dp, _, _, _, _, _, rfl, rfl, by rw [upd_same, List.map_append]; rfl, fun i hx => ?_, ?_, ?_, same_set (s0.trans s1) nL⟩
    · rw [lsz_app]
      have := Fm.size_pos l
      simp only [lsz]
      simp only [Fm.size] at e3
      omega
    · rcases List.mem_append.mp hx with e | e
      · exact (hi i e).keep kp
      · rw [List.mem_singleton.mp e]
        exact ⟨hp, hl.keep kp, ok.2.1, by show 1 ≤ m + m; omega, by show 1 ≤ k + 1; omega⟩
    · rw [lsum_app]
      rw [Fm.nl_node, Nat.mul_add] at e1
      simp only [lsum, Nat.add_mul]
      omega
    · rw [lmax_app]
      rw [Fm.dep_node] at e2
      have := Fm.dep_pos l
      simp only [lmax]
      omega
theorem sz_ext (T : Free mg) (hr : Room 1 (A.deeper (envOfC "form_size" (defScope sSize) s.heap.objs.size f cdv))) :
    PSs (cxZ P w K mg base f cdv A outer s H00 E) whI.2 (fun En σ H => AtB (fun t => isNode t = true) T0 L H0 σ H En) := by
  refine pss_of fun En σ H hyp => ?_
  obtain ⟨its, v, t, lv, dp, m, k, M, x0, x7, eσ, hL, hi, ft, ok, rt, m1, k1, kd, e1, e2, e3, s0, nL, l5, d6, fin⟩ := hyp.ex
  refine ⟨_, pss_one (ps_expr (pe_bm PySem.F.plainAttrs_list PySem.F.slot_list_extend PySem.F.type_list_extend mt_extend (pv 3) (pa_cons (pe_lc (own := [("side", 7)]) (g := gName 7) (tt := tYes) (te := tTup (tCons (tVar 7) (tCons (tVar 5) (tCons (tOp (rI0 fun i j => .int (i + j)) (tVar 6) (tC (.int 1))) tNil)))) rfl scSize.nd (pi_tup (pe_slice sl_tup (pv 4) (po_some pe_int) po_none))
              (blkOk_by (own := [("side", 7)]) (N := nmSz) (sc := defScope sSize) (by decide +kernel)) (fun _ _ _ _ _ => pg_name (i := 7) scSize.nd rfl (Or.inl rfl)) (fun _ _ _ _ _ => pts_nil)
              (fun _ _ _ _ _ => pe_tup (pa_cons (pv 7) (pa_cons (pv 5) (pa_cons (pe_op op_add (pv 6) pe_int) pa_nil))))) pa_nil))), ?_⟩
  subst eσ
  cases ft with
  | leaf z => cases rt
  | node h hl hr' =>
    rename_i a s' vl vr l r
    have hlen : its.length ≤ 500 := by
      have := lsum_len (l := its) fun i hx => (hi i hx).m1
      omega
    refine ⟨_, rfl, .inl ⟨rfl, _, SqL.of hL⟩, ?_⟩
    refine ⟨_, rfl, 1, rfl, a, _, rfl, SqT.of h, (fun e => absurd e.1 (by show ¬ (HT.sIx 3 0 (some 1) = 0); decide)), fun pp npp => ?_⟩
    have s1 : Same H (upd H pp (.tup [vl, vr])) := same_upd npp
    have hpp : (upd H pp (.tup [vl, vr])) pp = some (.tup [vl, vr]) := upd_same
    refine ⟨pp, rfl, ⟨_, SqT.of upd_same⟩, fun D nD => ?_⟩
    refine lc_tup (K := K) (a := pp) (xs := [vl, vr]) (fun i H' => Same (upd H pp (.tup [vl, vr])) H' ∧ ∃ ps : List Addr, ps.length = i ∧ H' D = some (.lst (ps.map V.ref)) ∧ ∀ (j : Nat) (q : Addr) (u : V), ps[j]? = some q → ([vl, vr] : List V)[j]? = some u → H' q = some (.tup [u, .int m, .int ((k : Int) + 1)])) ?_ ?_ ?_ ?_
    · exact ⟨same_upd nD, [], rfl, upd_same, fun j q u e => by cases e⟩
    · rintro i H' _ ⟨s2, _⟩
      exact SqT.of (s2 _ _ hpp)
    · rintro i x H' hx ⟨s2, ps, lp, hD, hq⟩
      have hi2 : i < 2 := (List.getElem?_eq_some_iff.mp hx).1
      refine ⟨rfl, _, rfl, _, rfl, _, rfl, _, _, rfl, rfl, (by show 3 ≤ sizeLine; decide), fun q nq => ?_⟩
      have s3 : Same H' (upd H' q (.tup [x, .int m, .int ((k : Int) + 1)])) := same_upd nq
      have hD3 := s3 _ _ hD
      have nqD : q ≠ D := fun e => by rw [e, hD] at nq; cases nq
      refine ⟨_, hD3, by rw [List.length_map, lp, sizeLine_eq]; omega, same_set (s2.trans s3) nD, ps ++ [q], by rw [List.length_append, lp]; rfl, by rw [upd_same, List.map_append]; rfl, fun j q' u e1 e2 => ?_⟩
      by_cases hj : j < ps.length
      · rw [List.getElem?_append_left hj] at e1
        have z := hq j q' u e1 e2
        rw [upd_ne (fun e => by rw [e, hD] at z; cases z)]
        exact s3 _ _ z
      · rw [List.getElem?_append_right (by omega)] at e1
        have e : j - ps.length = 0 := by
          have := (List.getElem?_eq_some_iff.mp e1).1
          simp at this
          omega
        rw [e] at e1
        cases e1
        have ej : j = i := by omega
        rw [ej, hx] at e2
        cases e2
        rw [upd_ne nqD, upd_same]
    · rintro H' ⟨s2, ps, lp, hD, hq⟩
      obtain ⟨p1, p2, rfl⟩ : ∃ p1 p2, ps = [p1, p2] := by
        match ps, lp with
        | [p1, p2], _ => exact ⟨p1, p2, rfl⟩
      have q1 := hq 0 p1 vl rfl rfl
      have q2 := hq 1 p2 vr rfl rfl
      have s12 := s1.trans s2
      refine ⟨L, D, _, _, rfl, rfl, s12 _ _ hL, hD, by rw [List.length_map, sizeLine_eq]; show its.length + 2 ≤ _; omega, ?_⟩
      have kp : TupK H (upd H' L (.lst (its.map (fun i => V.ref i.a) ++ [V.ref p1, V.ref p2]))) := (TupK.same s12).set (s12 _ _ hL)
      have ek : (k : Int) + 1 = ((k + 1 : Nat) : Int) := by omega
      have g1 : (upd H' L (.lst (its.map (fun i => V.ref i.a) ++ [V.ref p1, V.ref p2]))) p1 = some (.tup [vl, .int m, .int (k + 1 : Nat)]) := by
        rw [upd_ne (fun e => by rw [e, s12 _ _ hL] at q1; cases q1), ← ek]
        exact q1
      have g2 : (upd H' L (.lst (its.map (fun i => V.ref i.a) ++ [V.ref p1, V.ref p2]))) p2 = some (.tup [vr, .int m, .int (k + 1 : Nat)]) := by
        rw [upd_ne (fun e => by rw [e, s12 _ _ hL] at q2; cases q2), ← ek]
        exact q2
      refine fin _ _ ⟨lsz (its ++ [⟨p1, vl, m, k + 1, l⟩, ⟨p2, vr, m, k + 1, r⟩]), ?_, its ++ [⟨p1, vl, m, k + 1, l⟩, ⟨p2, vr, m, k + 1, r⟩], lv, dp, _, _, _, _, _, rfl, rfl, by rw [upd_same, List.map_append]; rfl, fun i hx => ?_, ?_, ?_, same_set (s0.trans s12) nL⟩
      · rw [lsz_app]
        simp only [lsz]
        simp only [Fm.size] at e3
        omega
      · rcases List.mem_append.mp hx with e | e
        · exact (hi i e).keep kp
        · simp only [List.mem_cons, List.not_mem_nil, or_false] at e
          rcases e with rfl | rfl
          · exact ⟨g1, hl.keep kp, ok.2.1, m1, by show 1 ≤ k + 1; omega⟩
          · exact ⟨g2, hr'.keep kp, ok.2.2, m1, by show 1 ≤ k + 1; omega⟩
      · rw [lsum_app]
        rw [Fm.nl_node, Nat.mul_add] at e1
        simp only [lsum]
        omega
      · rw [lmax_app]
        rw [Fm.dep_node] at e2
        have := Fm.dep_pos l
        have := Fm.dep_pos r
        simp only [lmax]
        omega
theorem sz_rest (T : Free mg) (hN : Has P w K mg base CX0 1 "is_name" fN ["value"] spIsName) (hT : Has P w K mg base CX0 1 "is_triple" fT ["value"] spTriple) (hr : Room 1 (A.deeper (envOfC "form_size" (defScope sSize) s.heap.objs.size f cdv))) :
    PSs (cxZ P w K mg base f cdv A outer s H00 E) (whB.drop 2) (fun En σ H => AtB (fun _ => True) T0 L H0 σ H En) := by
  refine pss_of fun En σ H hyp => ?_
  obtain ⟨its, v, t, lv, dp, m, k, M, x0, x7, eσ, hL, hi, ft, ok, rt, m1, k1, kd, e1, e2, e3, s0, nL, l5, d6, fin⟩ := hyp.ex
  have hun := hr.un
  refine ⟨_, pss_one (ps_if (pt_val (pe_has hN hr (by rfl) pass0 (pa_cons (pv 4) pa_nil)))
          (pss_one (ps_set (i := 1) scSize.nd rfl (.inl rfl) (pe_op op_add (pv 1) (pv 5))))
          (pss_one (ps_if (pt_not (pt_val (pe_has hT hr (by rfl) pass0 (pa_cons (pv 4) pa_nil)))) pss_never
          (pss_one (ps_if (PW.pt (pw_and (pt_val (pe_has hT hr (by rfl) pass0 (pa_cons (pe_ix ix_tup (pv 4) pe_int (fun _ _ => rfl)) pa_nil))) (pw_and1 (pt_cmpR (op_eqD (by show (A.deeper (envOfC "form_size" (defScope sSize) s.heap.objs.size f cdv)).units + 64 < cLine; omega)) (pe_ix ix_tup (pv 4) pe_int (fun _ _ => rfl)) (pe_ix ix_tup (pv 4) pe_int (fun _ _ => rfl)) (nomark _)))))
            (sz_app (T0 := T0) (L := L) (H0 := H0) T hr)
            (sz_ext (T0 := T0) (L := L) (H0 := H0) T hr)))))), ?_⟩
  subst eσ
  refine ⟨_, rfl, v, rfl, ft.vok ok, _, rfl, ?_⟩
  cases ft with
  | leaf z =>
    rw [show nameV (.str z) = true from ok]
    refine iteT ⟨_, rfl, _, rfl, _, _, rfl, rfl, ?_⟩
    refine fin _ _ ⟨lsz its, ?_, its, lv + m, dp, _, _, _, _, _, rfl, rfl, hL, hi, ?_, ?_, s0⟩
    · have : (Fm.leaf z).size = 1 := rfl
      omega
    · have : m * (Fm.leaf z).nl = m := Nat.mul_one m
      omega
    · have : (Fm.leaf z).dep = 1 := rfl
      rw [this] at e2
      omega
  | node h hl hr' =>
    rename_i a s' vl vr l r
    rw [show nameV (.ref a) = false from rfl]
    refine iteF ?_
    refine ⟨_, rfl, .ref a, .node s' l r, rfl, .node h hl hr', ok, _, rfl, iteF ?_⟩
    refine ⟨_, rfl, a, _, _, vl, rfl, rfl, SqT.of h, atI_nat (j := 1) rfl, vl, l, rfl, hl, ok.2.1, _, rfl, ?_⟩
    have st : AtB (fun t => isNode t = true) T0 L H0 [x0, some (.int lv), some (.int dp), some (.ref L), some (.ref a), some (.int m), some (.int k), x7] H En := ⟨its, .ref a, .node s' l r, lv, dp, m, k, M, x0, x7, rfl, hL, hi, .node h hl hr', ok, rfl, m1, k1, kd, e1, e2, e3, s0, nL, l5, d6, fin⟩
    cases hn : isNode l with
    | false => exact iteF (iteF st)
    | true =>
      have dl : l.dep ≤ 60 ∧ r.dep ≤ 60 := by
        rw [Fm.dep_node] at e2
        omega
      refine iteT ⟨_, rfl, a, _, _, vl, rfl, rfl, SqT.of h, atI_nat (j := 1) rfl, _, rfl, a, _, _, vr, rfl, rfl, SqT.of h, atI_nat (j := 2) rfl, _, _, hl.dp, hr'.dp, Fm.shaped ok.2.1 dl.1, Fm.shaped ok.2.2 dl.2, _, rfl, ?_⟩
      cases he : PyData.eqv l.dat r.dat with
      | false => exact iteF st
      | true =>
        have er := Fm.eqv_eq he
        exact iteT ⟨its, .ref a, .node s' l r, lv, dp, m, k, M, x0, x7, rfl, hL, hi, .node h hl hr', ok, ⟨s', l, by rw [er]⟩, m1, k1, kd, e1, e2, e3, s0, nL, l5, d6, fin⟩
end
end K1

namespace K1
open PySem PySem.Spec
open PyProof.Rows L2 EnT StX SmX TxS DuX
section
variable {w : World} {P : Program} {base : Heap} {mg : Str → Option Value} {K : PySem.W.Frag} {aS : Addr}
theorem sz_any {f fN fT : Addr} {cdv : Value} {A : Around} {outer : List Env} {s : Shared} {H00 : Hp} {E : XK} (T0 : Fm) (H0 : Hp) (T : Free mg) (hN : Has P w K mg base CX0 1 "is_name" fN ["value"] spIsName) (hT : Has P w K mg base CX0 1 "is_triple" fT ["value"] spTriple) (hr : Room 1 (A.deeper (envOfC "form_size" (defScope sSize) s.heap.objs.size f cdv))) :
    PSs (cxZ P w K mg base f cdv A outer s H00 E) (whB.drop 2) (fun En σ H => ∃ L, AtB (fun _ => True) T0 L H0 σ H En) := pss_of fun En σ H h => by
  obtain ⟨L, h⟩ := h
  exact ⟨_, sz_rest (T0 := T0) (L := L) (H0 := H0) T hN hT hr, h⟩
theorem ok_size {f fN fT : Addr} {fd : FuncData} (F : Fun K "form_size" "form_size" sSize f fd) (T : Free mg) (hN : Has P w K mg base CX0 1 "is_name" fN ["value"] spIsName) (hT : Has P w K mg base CX0 1 "is_triple" fT ["value"] spTriple) : FnOk P w K mg base CX0 2 f fd ["value"] spSize := by
  refine F.ok scSize (fun vs H Q E h => ?_) (fun cdv A outer s H vs Q E hr h => ?_)
  · obtain ⟨v, t, rfl, _⟩ := h
    rfl
  · obtain ⟨v, t, rfl, mt, ok, l5, d6, q⟩ := h
    refine ⟨_, pss_cons (ps_asg2 pe_int (pg_name (i := 1) scSize.nd rfl (.inl rfl)) (pg_name (i := 2) scSize.nd rfl (.inl rfl)))
      (pss_cons (ps_set (i := 3) scSize.nd rfl (.inl rfl) (pe_lst (pa_cons (pe_tup (pa_cons (pv 0) (pa_cons pe_int (pa_cons pe_int pa_nil)))) pa_nil)))
      (pss_cons (ps_while PassesOwn.never (pt_truth (pv 3) (by intro _; rfl))
        (pss_cons (ps_asg (pe_bm0 PySem.F.plainAttrs_list PySem.F.slot_list_pop PySem.F.type_list_pop mt_pop (pv 3)) (pg_tup rfl (pgs_cons (pg_name (i := 4) scSize.nd rfl (.inl rfl)) (pgs_cons (pg_name (i := 5) scSize.nd rfl (.inr rfl)) (pgs_cons (pg_name (i := 6) scSize.nd rfl (.inr rfl)) pgs_nil)))))
        (pss_cons (ps_set (i := 2) scSize.nd rfl (.inl rfl) (pe_ifExp (pt_cmpR op_gt (pv 6) (pv 2) (nomark _)) (pv 6) (pv 2)))
        (sz_any t H T hN hT hr))))
      (pss_one (ps_ret (pe_tup (pa_cons (pv 1) (pa_cons (pv 2) pa_nil))))))), ?_⟩
    refine ⟨_, rfl, (by show 3 ≤ sizeLine; decide), fun a1 n1 => ⟨(by show 1 ≤ sizeLine; decide), fun L nL => ?_⟩⟩
    have s1 : Same H (upd H a1 (.tup [v, .int 1, .int 1])) := same_upd n1
    have h1 : (upd H a1 (.tup [v, .int 1, .int 1])) a1 = some (.tup [v, .int 1, .int 1]) := upd_same
    have nL0 : H L = none := by
      cases hh : H L with
      | none => rfl
      | some o =>
        rw [s1 _ _ hh] at nL
        cases nL
    have s2 := s1.trans (same_upd (o := .lst [.ref a1]) nL)
    have h2 := (same_upd (o := .lst [.ref a1]) nL) _ _ h1
    refine ⟨fun m σ H' => AtSz t L H m σ H', ⟨lsz [⟨a1, v, 1, 1, t⟩], [⟨a1, v, 1, 1, t⟩], 0, 0, _, _, _, _, _, rfl, rfl, upd_same, fun i hi => ?_, ?_, ?_, s2⟩, ?_⟩
    · rw [List.mem_singleton.mp hi]
      exact ⟨h2, mt.same s2, ok, Nat.le_refl _, Nat.le_refl _⟩
    · show 0 + (1 * t.nl + 0) = t.nl
      omega
    · have := Fm.dep_pos t
      show max 0 (max (1 + t.dep - 1) 0) = t.dep
      omega
    · rintro m σ1 H1 ⟨its, lv, dp, x0, x4, x5, x6, x7, rfl, rfl, hL, hi, e1, e2, s0⟩
      refine ⟨_, rfl, _, .inl ⟨_, SqL.of hL, rfl⟩, ?_⟩
      rcases List.eq_nil_or_concat its with rfl | ⟨ini, x, rfl⟩
      · refine iteF ?_
        refine ⟨_, rfl, _, rfl, (by show 2 ≤ sizeLine; decide), fun p np => ?_⟩
        have z1 : lv = t.nl := e1
        have z2 : dp = t.dep := by
          rw [← e2]
          show dp = max dp 0
          omega
        rw [z1, z2]
        exact q p _ (s0.trans (same_upd np)) upd_same
      · rw [List.concat_eq_append] at hL hi e1 e2 ⊢
        have em : ((ini ++ [x]).map fun i => V.ref i.a) = (ini.map fun i => V.ref i.a) ++ [.ref x.a] := by rw [List.map_append]; rfl
        rw [em] at hL ⊢
        have ek : (!((ini.map fun i => V.ref i.a) ++ [V.ref x.a]).isEmpty) = true := by simp
        rw [ek]
        refine iteT ⟨fun σ' H' => ∃ m', m' < lsz (ini ++ [x]) ∧ AtSz t L H m' σ' H', fun σ' H' h => h, ?_⟩
        have X := hi x (by simp)
        refine ⟨_, rfl, .inl ⟨rfl, _, SqL.of hL⟩, L, _, .ref x.a, rfl, rfl, hL, by simp, ?_⟩
        have ed : ((ini.map fun i => V.ref i.a) ++ [V.ref x.a]).dropLast = ini.map fun i => V.ref i.a := by simp
        rw [ed]
        have kp : TupK H1 (upd H1 L (.lst (ini.map fun i => V.ref i.a))) := TupK.set (H := H1) (H' := H1) (fun a xs h => h) hL
        have s3 : Same H (upd H1 L (.lst (ini.map fun i => V.ref i.a))) := same_set s0 nL0
        have X' := X.keep kp
        have hL' : (upd H1 L (.lst (ini.map fun i => V.ref i.a))) L = some (.lst (ini.map fun i => V.ref i.a)) := upd_same
        generalize upd H1 L (.lst (ini.map fun i => V.ref i.a)) = H2 at kp s3 X' hL' ⊢
        refine ⟨x.a, _, rfl, SqT.of X'.h, rfl, _, _, rfl, _, _, rfl, _, _, rfl, rfl, ?_⟩
        refine ⟨_, rfl, _, rfl, _, _, rfl, rfl, _, rfl, ?_⟩
        rw [lsum_app] at e1
        rw [lmax_app] at e2
        simp only [lsum, lmax] at e1 e2
        have D := Fm.dep_pos x.t
        have K1' := X.k1
        have key : ∀ dp' : Nat, dp' = max dp x.k → ∀ σ' : L2.St, σ' = [x0, some (.int lv), some (.int dp'), some (.ref L), some x.v, some (.int x.m), some (.int x.k), x7] → ∀ En : Ends, (∀ σ' H', (∃ m', m' < lsz (ini ++ [x]) ∧ AtSz t L H m' σ' H') → En.nx σ' H') → ∃ L', AtB (fun _ => True) t L' H σ' H2 En := fun dp' ed' σ' es En hn => ⟨L, ini, x.v, x.t, lv, dp', x.m, x.k, lsz (ini ++ [x]), _, _, es, hL', fun i hx => (hi i (by simp [hx])).keep kp, X'.f, X.ok, trivial, X.m1, X.k1, by omega, by omega, by omega, by rw [lsz_app]; simp only [lsz]; omega, s3, nL0, l5, d6, hn⟩
        by_cases hk : ((x.k : Nat) : Int) > ((dp : Nat) : Int)
        · rw [decide_eq_true hk]
          exact iteT ⟨_, rfl, key x.k (by omega) _ rfl _ fun σ' H' h => h⟩
        · rw [decide_eq_false hk]
          exact iteF ⟨_, rfl, key dp (by omega) _ rfl _ fun σ' H' h => h⟩
end
end K1

namespace K1
open PySem PySem.Spec
open PyProof.Rows L2 EnT StX SmX TxS DuX
/-! ### what is read: parts, rows of parts, the stack of rows -/
inductive Part where
  | f (t : Fm)
  | s (z : Str)
inductive PartAt (H : Hp) : V → Part → Prop where
  | f {a : Addr} {v : V} {t : Fm} (h : H a = some (.tup [v, .int (t.nl : Nat)])) (m : FmAt H v t) : PartAt H (.ref a) (.f t)
  | s (z : Str) : PartAt H (.str z) (.s z)
theorem PartAt.keep {H H' : Hp} (k : TupK H H') {v : V} {x : Part} (h : PartAt H v x) : PartAt H' v x := by
  cases h with
  | f h m => exact .f (k _ _ h) (m.keep k)
  | s z => exact .s z
inductive PartsAt (H : Hp) : List V → List Part → Prop where
  | nil : PartsAt H [] []
  | cons {v : V} {x : Part} {vs : List V} {xs : List Part} (h : PartAt H v x) (r : PartsAt H vs xs) : PartsAt H (v :: vs) (x :: xs)
theorem PartsAt.keep {H H' : Hp} (k : TupK H H') {vs : List V} {xs : List Part} (h : PartsAt H vs xs) : PartsAt H' vs xs := by
  induction h with
  | nil => exact .nil
  | cons h _ ih => exact .cons (h.keep k) ih
theorem PartsAt.len {H : Hp} {vs : List V} {xs : List Part} (h : PartsAt H vs xs) : vs.length = xs.length := by
  induction h with
  | nil => rfl
  | cons _ _ ih => rw [List.length_cons, List.length_cons, ih]
theorem PartsAt.snoc {H : Hp} {vs : List V} {xs : List Part} {v : V} {x : Part} (h : PartsAt H vs xs) (p : PartAt H v x) : PartsAt H (vs ++ [v]) (xs ++ [x]) := by
  induction h with
  | nil => exact .cons p .nil
  | cons h _ ih => exact .cons h ih
/-- an even row: nothing, or a form and a sign -/
inductive Even : List Part → Prop where
  | nil : Even []
  | two (t : Fm) (z : Str) : Even [.f t, .s z]
abbrev tOpen : Str := "("
abbrev tClose : Str := ")"
inductive Step : List (List Part) → Str → List (List Part) → Prop where
  | close (z : Str) (l r : Fm) (o : List Part) (os : List (List Part)) (h : Even o) : Step ([.f l, .s z, .f r] :: o :: os) tClose ((o ++ [.f (.node z l r)]) :: os)
  | sign (l : Fm) (z : Str) (os : List (List Part)) (h : z ∈ signs) : Step ([.f l] :: os) z ([.f l, .s z] :: os)
  | open_ (i : List Part) (os : List (List Part)) (h : Even i) : Step (i :: os) tOpen ([] :: i :: os)
  | name (i : List Part) (os : List (List Part)) (h : Even i) (z : Str) (n : nameB z = true) : Step (i :: os) z ((i ++ [.f (.leaf z)]) :: os)
inductive Runs : List (List Part) → List Str → List (List Part) → Prop where
  | nil (st : List (List Part)) : Runs st [] st
  | cons {st st1 st2 : List (List Part)} {z : Str} {ws : List Str} (h : Step st z st1) (r : Runs st1 ws st2) : Runs st (z :: ws) st2
theorem Runs.app {a b c : List (List Part)} {x y : List Str} (h : Runs a x b) (g : Runs b y c) : Runs a (x ++ y) c := by
  induction h with
  | nil st => exact g
  | cons h _ ih => exact .cons h (ih g)
/-- the words of a form's text -/
def Fm.tok : Bool → Fm → List Str
  | _, .leaf z => [z]
  | false, .node s l r => Fm.tok true l ++ (s :: Fm.tok true r)
  | true, .node s l r => tOpen :: (Fm.tok true l ++ (s :: (Fm.tok true r ++ [tClose])))
theorem runs_tok : ∀ (t : Fm) (i : List Part) (os : List (List Part)), t.Ok → Even i → Runs (i :: os) (t.tok true) ((i ++ [.f t]) :: os)
  | .leaf z, i, os, ok, e => .cons (.name i os e z ok) (.nil _)
  | .node s l r, i, os, ok, e => .cons (.open_ i os e) (Runs.app (runs_tok l [] (i :: os) ok.2.1 .nil) (.cons (.sign l s (i :: os) ok.1) (Runs.app (runs_tok r [.f l, .s s] (i :: os) ok.2.2 (.two l s)) (.cons (.close s l r i os e) (.nil _)))))
/-- what stands in the outermost row at the end -/
def Fm.outer : Fm → List Part
  | .leaf z => [.f (.leaf z)]
  | .node s l r => [.f l, .s s, .f r]
theorem runs_all (t : Fm) (ok : t.Ok) : Runs [[]] (t.tok false) [t.outer] := by
  cases t with
  | leaf z => exact .cons (.name [] [] .nil z ok) (.nil _)
  | node s l r => exact Runs.app (runs_tok l [] [] ok.2.1 .nil) (.cons (.sign l s [] ok.1) (runs_tok r [.f l, .s s] [] ok.2.2 (.two l s)))
/-! ### joined -/
def spJoined : Sp := fun vs H Q _ => ∃ (a : Addr) (xs : List V) (z : Str) (l r : Fm), vs = [.ref a] ∧ H a = some (.lst xs) ∧ PartsAt H xs [.f l, .s z, .f r] ∧ ∀ (v : V) (H' : Hp), Same H H' → PartAt H' v (.f (.node z l r)) → Q v H'
abbrev nmJo : List Str := ["parts", "left", "left_leaves", "sign", "right", "right_leaves"]
section
variable {w : World} {P : Program} {base : Heap} {mg : Str → Option Value} {K : PySem.W.Frag} {aS : Addr}
theorem scJoined : FnScope nmJo ["parts"] (defScope sJoined) := ⟨rfl, rfl, rfl, by decide +kernel, rfl, by decide +kernel, by decide +kernel⟩
theorem ok_joined {f : Addr} {fd : FuncData} (F : Fun K "joined" "joined" sJoined f fd) : FnOk P w K mg base CX0 1 f fd ["parts"] spJoined := by
  refine F.ok scJoined (fun vs H Q E h => ?_) (fun cdv A outer s H vs Q E hr h => ?_)
  · obtain ⟨a, xs, z, l, r, rfl, _⟩ := h
    rfl
  · obtain ⟨a, xs, z, l, r, rfl, ha, pa, q⟩ := h
    refine ⟨_, pss_cons (ps_asg (pv 0) (pg_unl rfl (pgs_cons (pg_tup rfl (pgs_cons (pg_name (i := 1) scJoined.nd rfl (.inl rfl)) (pgs_cons (pg_name (i := 2) scJoined.nd rfl (.inl rfl)) pgs_nil)))
        (pgs_cons (pg_name (i := 3) scJoined.nd rfl (.inl rfl)) (pgs_cons (pg_tup rfl (pgs_cons (pg_name (i := 4) scJoined.nd rfl (.inl rfl)) (pgs_cons (pg_name (i := 5) scJoined.nd rfl (.inl rfl)) pgs_nil))) pgs_nil)))))
      (pss_one (ps_ret (pe_tup (pa_cons (pe_tup (pa_cons (pv 3) (pa_cons (pv 1) (pa_cons (pv 4) pa_nil)))) (pa_cons (pe_op op_add (pv 2) (pv 5)) pa_nil))))), ?_⟩
    cases pa with
    | cons p1 r1 =>
    cases r1 with
    | cons p2 r2 =>
    cases r2 with
    | cons p3 r3 =>
    cases r3
    cases p1 with
    | f h1 m1 =>
    cases p2
    cases p3 with
    | f h3 m3 =>
    rename_i a1 v1 a3 v3
    refine ⟨_, rfl, a, _, rfl, SqL.of ha, rfl, _, _, rfl, ?_⟩
    refine ⟨a1, _, rfl, SqT.of h1, rfl, _, _, rfl, _, _, rfl, rfl, ?_⟩
    refine ⟨_, _, rfl, _, _, rfl, a3, _, rfl, SqT.of h3, rfl, _, _, rfl, _, _, rfl, rfl, rfl, ?_⟩
    refine ⟨_, rfl, _, rfl, _, rfl, (by show 3 ≤ sizeLine; decide), fun p np => ?_⟩
    refine ⟨_, rfl, _, rfl, _, _, rfl, rfl, (by show 2 ≤ sizeLine; decide), fun p2 np2 => ?_⟩
    have s1 : Same H (upd H p (.tup [.str z, v1, v3])) := same_upd np
    have hp : (upd H p (.tup [.str z, v1, v3])) p = some (.tup [.str z, v1, v3]) := upd_same
    have s2 := same_upd (o := .tup [.ref p, .int ((l.nl : Nat) + (r.nl : Nat))]) np2
    have e : ((l.nl : Nat) : Int) + (r.nl : Nat) = (((Fm.node z l r).nl : Nat) : Int) := by rw [Fm.nl_node]; omega
    refine q (.ref p2) _ (s1.trans s2) (.f (v := .ref p) ?_ (.node (s2 _ _ hp) (m1.same (s1.trans s2)) (m3.same (s1.trans s2))))
    rw [← e]
    exact upd_same
end
end K1

namespace K1
open PySem PySem.Spec
open PyProof.Rows L2 EnT StX SmX TxS DuX
/-! ### the stack on the heap, the innermost row first -/
inductive RowsAt (H0 H : Hp) (L : Addr) : List Addr → List (List Part) → Prop where
  | nil : RowsAt H0 H L [] []
  | cons {a : Addr} {as : List Addr} {vs : List V} {xs : List Part} {st : List (List Part)} (h : H a = some (.lst vs)) (p : PartsAt H vs xs) (n : H0 a = none) (ne : a ≠ L) (nd : a ∉ as) (r : RowsAt H0 H L as st) : RowsAt H0 H L (a :: as) (xs :: st)
theorem RowsAt.len {H0 H : Hp} {L : Addr} {as : List Addr} {st : List (List Part)} (h : RowsAt H0 H L as st) : as.length = st.length := by
  induction h with
  | nil => rfl
  | cons _ _ _ _ _ _ ih => rw [List.length_cons, List.length_cons, ih]
theorem RowsAt.move {H0 H H' : Hp} {L : Addr} {as : List Addr} {st : List (List Part)} (k : TupK H H') (g : ∀ a vs, a ∈ as → H a = some (.lst vs) → H' a = some (.lst vs)) (h : RowsAt H0 H L as st) : RowsAt H0 H' L as st := by
  induction h with
  | nil => exact .nil
  | cons h p n ne nd _ ih => exact .cons (g _ _ (List.mem_cons_self ..) h) (p.keep k) n ne nd (ih fun a vs m e => g a vs (List.mem_cons_of_mem _ m) e)
theorem RowsAt.same {H0 H H' : Hp} {L : Addr} {as : List Addr} {st : List (List Part)} (s : Same H H') (h : RowsAt H0 H L as st) : RowsAt H0 H' L as st := h.move (.same s) fun a vs _ e => s _ _ e
/-- a list that is none of the rows is stored into -/
theorem RowsAt.set {H0 H : Hp} {L t : Addr} {as : List Addr} {st : List (List Part)} {ys : List V} {o : HO} (ht : H t = some (.lst ys)) (n : t ∉ as) (h : RowsAt H0 H L as st) : RowsAt H0 (upd H t o) L as st :=
  h.move (TupK.set (H := H) (H' := H) (fun a xs e => e) ht) fun a vs m e => by rw [upd_ne (fun z => n (by rw [← z]; exact m))]; exact e
structure StackAt (H0 H : Hp) (L : Addr) (as : List Addr) (st : List (List Part)) : Prop where
  hL : H L = some (.lst (as.reverse.map V.ref))
  nL : H0 L = none
  rows : RowsAt H0 H L as st
theorem StackAt.same {H0 H H' : Hp} {L : Addr} {as : List Addr} {st : List (List Part)} (s : Same H H') (h : StackAt H0 H L as st) : StackAt H0 H' L as st := ⟨s _ _ h.hL, h.nL, h.rows.same s⟩
def spTake (H0 : Hp) : Sp := fun vs H Q _ => ∃ (L : Addr) (w : Str) (as : List Addr) (st st' : List (List Part)), vs = [.ref L, .str w] ∧ StackAt H0 H L as st ∧ Step st w st' ∧ Same H0 H ∧ st.length ≤ 100000 ∧ w.length ≤ sizeLine ∧
  ∀ (as' : List Addr) (H' : Hp), Same H0 H' → StackAt H0 H' L as' st' → Q (.bl true) H'
abbrev nmTk : List Str := ["opened", "word", "innermost"]
theorem last_ref {as : List Addr} {a : Addr} : atI ((a :: as).reverse.map V.ref) (-1) = some (.ref a) := by
  rw [List.reverse_cons, List.map_append]
  exact atI_last _ _
theorem last_at {as : List Addr} {a : Addr} : ((a :: as).reverse.map V.ref)[((a :: as).reverse.map V.ref).length - 1]? = some (.ref a) := by
  rw [List.reverse_cons, List.map_append]
  simp
theorem last_drop {as : List Addr} {a : Addr} : ((a :: as).reverse.map V.ref).dropLast = as.reverse.map V.ref := by
  rw [List.reverse_cons, List.map_append]
  simp
theorem even_len {i : List Part} (h : Even i) : i.length = 0 ∨ i.length = 2 := by
  cases h
  · exact .inl rfl
  · exact .inr rfl
theorem in_02 {n : Nat} : inV (.int n) [V.int 0, V.int 2] = decide (n = 0 ∨ n = 2) := by
  by_cases h0 : n = 0
  · subst h0
    rfl
  · by_cases h2 : n = 2
    · subst h2
      rfl
    · rw [decide_eq_false (by omega)]
      have a : eqV (.int 0) (.int n) = false := by
        show ((0 : Int) == (n : Int)) = false
        exact beq_eq_false_iff_ne.mpr (by omega)
      have b : eqV (.int 2) (.int n) = false := by
        show ((2 : Int) == (n : Int)) = false
        exact beq_eq_false_iff_ne.mpr (by omega)
      unfold inV
      simp [a, b]
theorem sign_no {z : Str} (h : z ∈ signs) : z ≠ tClose ∧ z ≠ tOpen := by
  simp only [signs, List.mem_cons, List.not_mem_nil, or_false] at h
  rcases h with rfl | rfl | rfl | rfl <;> decide +kernel
theorem name_no {z : Str} (h : nameB z = true) : z ≠ tClose ∧ z ≠ tOpen := ⟨fun e => by
  rw [e] at h
  revert h
  decide +kernel, fun e => by
  rw [e] at h
  revert h
  decide +kernel⟩
section
variable {w : World} {P : Program} {base : Heap} {mg : Str → Option Value} {K : PySem.W.Frag} {aS : Addr}
theorem scTake : FnScope nmTk ["opened", "word"] (defScope sTake) := ⟨rfl, rfl, rfl, by decide +kernel, rfl, by decide +kernel, by decide +kernel⟩
theorem ok_take {f fJ fN : Addr} {fd : FuncData} (H0 : Hp) (F : Fun K "take_word" "take_word" sTake f fd) (G : Gf K mg aS) (hJ : Has P w K mg base CX0 1 "joined" fJ ["parts"] spJoined) (hN : Has P w K mg base CX0 1 "is_name" fN ["value"] spIsName) : FnOk P w K mg base CX0 2 f fd ["opened", "word"] (spTake H0) := by
  have T := G.T
  refine F.ok scTake (fun vs H Q E h => ?_) (fun cdv A outer s H vs Q E hr h => ?_)
  · obtain ⟨L, z, as, st, st', rfl, _⟩ := h
    rfl
  · obtain ⟨L, z, as, st, st', rfl, sk, step, s0, ls, lz, q⟩ := h
    refine ⟨_, pss_cons (ps_set (i := 2) scTake.nd rfl (.inl rfl) (pe_ix ix_list (pv 0) (pe_un un_neg pe_int) (fun _ _ => rfl)))
      (pss_cons (ps_if (PW.pt (pw_and (pt_cmpR op_eq (pv 1) pe_str (nomark _)) (pw_and (pt_cmpR op_eq (pe_callB call_len_seq (by rfl) T.len PySem.boot_len (pa_cons (pv 2) pa_nil)) pe_int (nomark _)) (pw_and1 (pt_cmpR op_gt (pe_callB call_len_seq (by rfl) T.len PySem.boot_len (pa_cons (pv 0) pa_nil)) pe_int (nomark _))))))
          (pss_cons (ps_expr (pe_bm0 PySem.F.plainAttrs_list PySem.F.slot_list_pop PySem.F.type_list_pop mt_pop (pv 0)))
          (pss_one (ps_expr (pe_bm PySem.F.plainAttrs_list PySem.F.slot_list_append PySem.F.type_list_append mt_append (pe_ix ix_list (pv 0) (pe_un un_neg pe_int) (fun _ _ => rfl)) (pa_cons (pe_has hJ hr (by rfl) pass0 (pa_cons (pv 2) pa_nil)) pa_nil)))))
        (pss_one (ps_if (PW.pt (pw_and (pt_cmpR op_eq (pe_callB call_len_seq (by rfl) T.len PySem.boot_len (pa_cons (pv 2) pa_nil)) pe_int (nomark _)) (pw_and1 (pt_cmpR op_in_seq (pv 1) (pe_glob (v := .ref aS) (by rfl) G.sg rfl) (by rfl)))))
          (pss_one (ps_expr (pe_bm PySem.F.plainAttrs_list PySem.F.slot_list_append PySem.F.type_list_append mt_append (pv 2) (pa_cons (pv 1) pa_nil))))
        (pss_one (ps_if (PW.pt (pw_and (pt_cmpR op_in_seq (pe_callB call_len_seq (by rfl) T.len PySem.boot_len (pa_cons (pv 2) pa_nil)) (pe_tup (pa_cons pe_int (pa_cons pe_int pa_nil))) (by rfl)) (pw_and1 (pt_cmpR op_eq (pv 1) pe_str (nomark _)))))
          (pss_one (ps_expr (pe_bm PySem.F.plainAttrs_list PySem.F.slot_list_append PySem.F.type_list_append mt_append (pv 0) (pa_cons (pe_lst pa_nil) pa_nil))))
        (pss_one (ps_if (PW.pt (pw_and (pt_cmpR op_in_seq (pe_callB call_len_seq (by rfl) T.len PySem.boot_len (pa_cons (pv 2) pa_nil)) (pe_tup (pa_cons pe_int (pa_cons pe_int pa_nil))) (by rfl)) (pw_and1 (pt_val (pe_has hN hr (by rfl) pass0 (pa_cons (pv 1) pa_nil))))))
          (pss_one (ps_expr (pe_bm PySem.F.plainAttrs_list PySem.F.slot_list_append PySem.F.type_list_append mt_append (pv 2) (pa_cons (pe_tup (pa_cons (pv 1) (pa_cons pe_int pa_nil))) pa_nil))))
        pss_never)))))))
      (pss_one (ps_ret pe_bl))), ?_⟩
    have hL := sk.hL
    have nL := sk.nL
    obtain ⟨_, _, rows⟩ := sk
    cases step with
    | sign l z os hz =>
      cases rows with
      | cons ha p na ne nd r =>
        rename_i a ar vs hL
        have lv := p.len
        refine ⟨_, rfl, _, rfl, L, _, _, .ref a, rfl, rfl, SqL.of hL, last_ref, ?_⟩
        refine ⟨_, rfl, rfl, _, rfl, ?_⟩
        rw [decide_eq_false (fun e => (sign_no hz).1 (V.str.inj e))]
        refine iteF (iteF ?_)
        refine ⟨_, rfl, a, _, rfl, .inl (SqL.of ha), rfl, _, rfl, ?_⟩
        rw [decide_eq_true (by rw [lv]; rfl)]
        refine iteT ⟨_, rfl, aS, _, rfl, .inr (G.st H), rfl, strs_flat _, _, rfl, ?_⟩
        rw [inV_mem, decide_eq_true hz]
        refine iteT ⟨_, rfl, .inl ⟨rfl, _, SqL.of ha⟩, _, rfl, a, _, _, rfl, rfl, ha, by rw [lv, sizeLine_eq]; show 1 < _; decide, ?_⟩
        have aL : L ≠ a := fun e => ne e.symm
        refine q (a :: ar) _ (same_set s0 na) ⟨by rw [upd_ne aL]; exact hL, nL, .cons upd_same ((p.keep (TupK.set (H := H) (H' := H) (fun a xs e => e) ha)).snoc (.s z)) na ne nd (r.set ha nd)⟩
    | open_ i os hi =>
      cases rows with
      | cons ha p na ne nd r =>
        rename_i a ar vs hL
        have lv := p.len
        have el := even_len hi
        refine ⟨_, rfl, _, rfl, L, _, _, .ref a, rfl, rfl, SqL.of hL, last_ref, ?_⟩
        refine ⟨_, rfl, rfl, _, rfl, ?_⟩
        rw [decide_eq_false (fun e => absurd (V.str.inj e) (by decide +kernel))]
        refine iteF (iteF ?_)
        refine ⟨_, rfl, a, _, rfl, .inl (SqL.of ha), rfl, _, rfl, ?_⟩
        rw [decide_eq_false (fun e => by have := V.int.inj e; omega)]
        refine iteF (iteF ?_)
        refine ⟨_, rfl, a, _, rfl, .inl (SqL.of ha), (by show 2 ≤ sizeLine; decide), fun t nt => ?_⟩
        have s1 : Same H (upd H t (.tup [.int 0, .int 2])) := same_upd nt
        refine ⟨t, _, rfl, .inr (SqT.of upd_same), rfl, rfl, _, rfl, ?_⟩
        rw [in_02, decide_eq_true (by rw [lv]; exact el)]
        refine iteT ⟨_, rfl, rfl, _, rfl, ?_⟩
        rw [decide_eq_true rfl]
        refine iteT ?_
        generalize upd H t (.tup [.int 0, .int 2]) = H1 at s1 ⊢
        have hL1 := s1 _ _ hL
        refine ⟨_, rfl, .inl ⟨rfl, _, SqL.of hL1⟩, (by show 0 ≤ sizeLine; decide), fun b nb => ?_⟩
        have s2 : Same H1 (upd H1 b (.lst [])) := same_upd nb
        have s02 := s0.trans (s1.trans s2)
        have hL2 := s2 _ _ hL1
        have hb : (upd H1 b (.lst [])) b = some (.lst []) := upd_same
        have nb0 : H0 b = none := by
          cases hh : H0 b with
          | none => rfl
          | some o =>
            rw [s1 _ _ (s0 _ _ hh)] at nb
            cases nb
        have bL : b ≠ L := fun e => by rw [e, hL1] at nb; cases nb
        have rl := r.len
        have nbr : b ∉ a :: ar := by
          intro hm
          have rr : RowsAt H0 H1 L (a :: ar) (i :: os) := (RowsAt.cons ha p na ne nd r).same s1
          have : ∀ {as : List Addr} {st : List (List Part)}, RowsAt H0 H1 L as st → b ∈ as → False := fun h m => by
            induction h with
            | nil => cases m
            | cons h _ _ _ _ _ ih =>
              rcases List.mem_cons.mp m with e | e
              · rw [← e, nb] at h
                cases h
              · exact ih e
          exact this rr hm
        generalize upd H1 b (.lst []) = H2 at s2 s02 hL2 hb ⊢
        refine ⟨L, _, _, rfl, rfl, hL2, by rw [List.length_map, List.length_reverse, List.length_cons, rl, sizeLine_eq]; rw [List.length_cons] at ls; omega, ?_⟩
        have rr : RowsAt H0 H2 L (a :: ar) (i :: os) := (RowsAt.cons ha p na ne nd r).same (s1.trans s2)
        have nLr : L ∉ b :: a :: ar := by
          intro hm
          rcases List.mem_cons.mp hm with e | e
          · exact bL e.symm
          · have : ∀ {as : List Addr} {st : List (List Part)}, RowsAt H0 H2 L as st → L ∈ as → False := fun h m => by
              induction h with
              | nil => cases m
              | cons _ _ _ ne _ _ ih =>
                rcases List.mem_cons.mp m with e | e
                · exact ne e.symm
                · exact ih e
            exact this rr e
        refine q (b :: a :: ar) _ (same_set s02 nL) ⟨by rw [upd_same, List.reverse_cons (a := b), List.map_append]; rfl, nL, RowsAt.set hL2 nLr (.cons hb .nil nb0 bL nbr rr)⟩
    | name i os hi z nz =>
      cases rows with
      | cons ha p na ne nd r =>
        rename_i a ar vs hL
        have lv := p.len
        have el := even_len hi
        refine ⟨_, rfl, _, rfl, L, _, _, .ref a, rfl, rfl, SqL.of hL, last_ref, ?_⟩
        refine ⟨_, rfl, rfl, _, rfl, ?_⟩
        rw [decide_eq_false (fun e => (name_no nz).1 (V.str.inj e))]
        refine iteF (iteF ?_)
        refine ⟨_, rfl, a, _, rfl, .inl (SqL.of ha), rfl, _, rfl, ?_⟩
        rw [decide_eq_false (fun e => by have := V.int.inj e; omega)]
        refine iteF (iteF ?_)
        refine ⟨_, rfl, a, _, rfl, .inl (SqL.of ha), (by show 2 ≤ sizeLine; decide), fun t nt => ?_⟩
        have s1 : Same H (upd H t (.tup [.int 0, .int 2])) := same_upd nt
        refine ⟨t, _, rfl, .inr (SqT.of upd_same), rfl, rfl, _, rfl, ?_⟩
        rw [in_02, decide_eq_true (by rw [lv]; exact el)]
        refine iteT ⟨_, rfl, rfl, _, rfl, ?_⟩
        rw [decide_eq_false (fun e => (name_no nz).2 (V.str.inj e))]
        refine iteF ?_
        generalize upd H t (.tup [.int 0, .int 2]) = H1 at s1 ⊢
        refine ⟨_, rfl, a, _, rfl, .inl (SqL.of (s1 _ _ ha)), (by show 2 ≤ sizeLine; decide), fun t2 nt2 => ?_⟩
        have s2 : Same H1 (upd H1 t2 (.tup [.int 0, .int 2])) := same_upd nt2
        refine ⟨t2, _, rfl, .inr (SqT.of upd_same), rfl, rfl, _, rfl, ?_⟩
        rw [in_02, decide_eq_true (by rw [lv]; exact el)]
        refine iteT ⟨_, rfl, .str z, rfl, .inl ⟨z, rfl, lz⟩, _, rfl, ?_⟩
        rw [show nameV (.str z) = true from nz]
        refine iteT ?_
        generalize upd H1 t2 (.tup [.int 0, .int 2]) = H2 at s2 ⊢
        have s12 := s1.trans s2
        have ha2 := s12 _ _ ha
        refine ⟨_, rfl, .inl ⟨rfl, _, SqL.of ha2⟩, _, rfl, (by show 2 ≤ sizeLine; decide), fun u nu => ?_⟩
        have s3 : Same H2 (upd H2 u (.tup [.str z, .int 1])) := same_upd nu
        have hu : (upd H2 u (.tup [.str z, .int 1])) u = some (.tup [.str z, .int 1]) := upd_same
        have ha3 := s3 _ _ ha2
        have s13 := s12.trans s3
        generalize upd H2 u (.tup [.str z, .int 1]) = H3 at s3 hu ha3 s13 ⊢
        refine ⟨a, _, _, rfl, rfl, ha3, by rw [lv, sizeLine_eq]; omega, ?_⟩
        have aL : L ≠ a := fun e => ne e.symm
        have kp : TupK H3 (upd H3 a (.lst (vs ++ [.ref u]))) := TupK.set (H := H3) (H' := H3) (fun a xs e => e) ha3
        exact q (a :: ar) _ (same_set (s0.trans s13) na) ⟨by rw [upd_ne aL]; exact s13 _ _ hL, nL, .cons upd_same ((p.keep ((TupK.same s13).trans kp)).snoc (.f (t := .leaf z) (kp _ _ hu) (.leaf z))) na ne nd ((r.same s13).set ha3 nd)⟩
    | close z l r o os ho =>
      cases rows with
      | cons ha p na ne nd rr =>
        cases rr with
        | cons ha1 p1 na1 ne1 nd1 r2 =>
          rename_i a vs a1 ar vs1 hL
          have lv := p.len
          have lv1 := p1.len
          have el := even_len ho
          refine ⟨_, rfl, _, rfl, L, _, _, .ref a, rfl, rfl, SqL.of hL, last_ref, ?_⟩
          refine ⟨_, rfl, rfl, _, rfl, ?_⟩
          rw [decide_eq_true rfl]
          refine iteT ⟨_, rfl, a, _, rfl, .inl (SqL.of ha), rfl, _, rfl, ?_⟩
          rw [decide_eq_true (by rw [lv]; rfl)]
          refine iteT ⟨_, rfl, L, _, rfl, .inl (SqL.of hL), _, _, rfl, rfl, _, rfl, ?_⟩
          rw [decide_eq_true (by rw [List.length_map, List.length_reverse, List.length_cons, List.length_cons]; omega)]
          refine iteT ?_
          refine ⟨_, rfl, .inl ⟨rfl, _, SqL.of hL⟩, L, _, .ref a, rfl, rfl, hL, last_at, ?_⟩
          rw [last_drop]
          have k1 : TupK H (upd H L (.lst ((a1 :: ar).reverse.map V.ref))) := TupK.set (H := H) (H' := H) (fun a xs e => e) hL
          have s1 := same_set (o := .lst ((a1 :: ar).reverse.map V.ref)) s0 nL
          have hL1 : (upd H L (.lst ((a1 :: ar).reverse.map V.ref))) L = some (.lst ((a1 :: ar).reverse.map V.ref)) := upd_same
          have ha' : (upd H L (.lst ((a1 :: ar).reverse.map V.ref))) a = some (.lst vs) := by rw [upd_ne ne]; exact ha
          have ha1' : (upd H L (.lst ((a1 :: ar).reverse.map V.ref))) a1 = some (.lst vs1) := by rw [upd_ne ne1]; exact ha1
          have nLr : L ∉ ar := by
            intro hm
            have : ∀ {as : List Addr} {st : List (List Part)}, RowsAt H0 H L as st → L ∈ as → False := fun h m => by
              induction h with
              | nil => cases m
              | cons _ _ _ ne _ _ ih =>
                rcases List.mem_cons.mp m with e | e
                · exact ne e.symm
                · exact ih e
            exact this r2 hm
          have r2' := RowsAt.set (o := .lst ((a1 :: ar).reverse.map V.ref)) hL nLr r2
          have p' := p.keep k1
          have p1' := p1.keep k1
          generalize upd H L (.lst ((a1 :: ar).reverse.map V.ref)) = H1 at k1 s1 hL1 ha' ha1' r2' p' p1' ⊢
          refine ⟨_, rfl, _, rfl, L, _, _, .ref a1, rfl, rfl, SqL.of hL1, last_ref, .inl ⟨rfl, _, SqL.of ha1'⟩, ?_⟩
          refine ⟨_, rfl, a, vs, z, l, r, rfl, ha', p', fun v H2 s2 pv => ?_⟩
          have ha2 := s2 _ _ ha1'
          refine ⟨a1, _, _, rfl, rfl, ha2, by rw [lv1, sizeLine_eq]; omega, ?_⟩
          have aL : L ≠ a1 := fun e => ne1 e.symm
          have kp : TupK H2 (upd H2 a1 (.lst (vs1 ++ [v]))) := TupK.set (H := H2) (H' := H2) (fun a xs e => e) ha2
          exact q (a1 :: ar) _ (same_set (s1.trans s2) na1) ⟨by rw [upd_ne aL]; exact s2 _ _ hL1, nL, .cons upd_same ((p1'.keep ((TupK.same s2).trans kp)).snoc (pv.keep kp)) na1 ne1 nd1 ((r2'.same s2).set ha2 nd1)⟩
end
end K1

namespace K1
open PySem PySem.Spec
open PyProof.Rows L2 EnT StX SmX TxS DuX TL PySem.StrLaws
/-! ### the text of a form, cut into words -/
def rep1 (c : Nat) (z l : List Nat) : List Nat := l.flatMap fun d => if d = c then z else [d]
theorem repl_one (c : Nat) (z : List Nat) : ∀ l : List Nat, replL [c] z l = rep1 c z l
  | [] => replL_nil
  | d :: r => by
    by_cases h : d = c
    · subst h
      rw [replL_hit (by simp) rfl]
      show z ++ replL [d] z r = _
      rw [repl_one d z r]
      simp [rep1]
    · rw [replL_miss (by simp [h]), repl_one c z r]
      simp [rep1, h]
def spc (l : List Nat) : List Nat := l.flatMap fun d => if d = 40 then [40, 32] else if d = 41 then [32, 41] else [d]
theorem spc_app (x y : List Nat) : spc (x ++ y) = spc x ++ spc y := List.flatMap_append
theorem two_reps (l : List Nat) : rep1 41 [32, 41] (rep1 40 [40, 32] l) = spc l := by
  unfold rep1 spc
  rw [List.flatMap_assoc]
  congr 1
  funext d
  by_cases h : d = 40
  · simp [h]
  · by_cases g : d = 41 <;> simp [h, g]
abbrev twoSpc (x : Str) : Str := Txt.replace (Txt.replace x tOpen ("( " : Str)) tClose (" )" : Str)
theorem tl_open : tl tOpen = [40] := by decide +kernel
theorem tl_close : tl tClose = [41] := by decide +kernel
theorem tl_twoSpc (x : Str) : tl (twoSpc x) = spc (tl x) := by
  have a := replace_list (x := x) (y := tOpen) (z := ("( " : Str)) (by decide +kernel)
  have b := replace_list (x := Txt.replace x tOpen ("( " : Str)) (y := tClose) (z := (" )" : Str)) (by decide +kernel)
  have e1 : tOpen.cps.toList = [40] := tl_open
  have e2 : tClose.cps.toList = [41] := tl_close
  have e3 : ("( " : Str).cps.toList = [40, 32] := by decide +kernel
  have e4 : (" )" : Str).cps.toList = [32, 41] := by decide +kernel
  show (twoSpc x).cps.toList = _
  rw [b, a, e1, e2, e3, e4, repl_one, repl_one, two_reps]
/-- no bracket, no space -/
def Bare (l : List Nat) : Prop := ∀ c ∈ l, c ≠ 32 ∧ c ≠ 40 ∧ c ≠ 41
theorem spc_bare : ∀ {l : List Nat}, Bare l → spc l = l
  | [], _ => rfl
  | d :: r, h => by
    have a := h d List.mem_cons_self
    have b := spc_bare (l := r) fun c hc => h c (List.mem_cons_of_mem _ hc)
    show (if d = 40 then [40, 32] else if d = 41 then [32, 41] else [d]) ++ spc r = d :: r
    rw [if_neg a.2.1, if_neg a.2.2, b]
    rfl
theorem name_bare {z : Str} (h : nameB z = true) : Bare (tl z) := by
  unfold nameB at h
  split at h
  · cases h
  split at h
  · cases h
  split at h
  · cases h
  · rename_i h3
    intro c hc
    have e : Txt.isalnum z = true := by
      cases q : Txt.isalnum z with
      | true => rfl
      | false => exact absurd q h3
    unfold Txt.isalnum at e
    rw [Bool.and_eq_true] at e
    have e2 := e.2
    rw [← Array.all_toList] at e2
    have e3 : Unicode.isAlnum c = true := (List.all_eq_true.mp e2) c hc
    have no : ∀ d ∈ [32, 40, 41], Unicode.isAlnum d = false := by decide +kernel
    refine ⟨fun x => ?_, fun x => ?_, fun x => ?_⟩
    · rw [x, no 32 (by simp)] at e3
      cases e3
    · rw [x, no 40 (by simp)] at e3
      cases e3
    · rw [x, no 41 (by simp)] at e3
      cases e3
theorem sign_bare {z : Str} (h : z ∈ signs) : Bare (tl z) := by
  have all : ∀ z ∈ signs, (tl z).all (fun c => decide (c ≠ 32 ∧ c ≠ 40 ∧ c ≠ 41)) = true := by decide +kernel
  intro c hc
  exact of_decide_eq_true (List.all_eq_true.mp (all z h) c hc)
theorem joinL_app (S : List Nat) : ∀ {x y : List (List Nat)}, x ≠ [] → y ≠ [] → joinL S (x ++ y) = joinL S x ++ (S ++ joinL S y)
  | [], _, h, _ => absurd rfl h
  | [p], [], _, h => absurd rfl h
  | [p], q :: r, _, _ => rfl
  | p :: q :: r, y, _, hy => by
    have ih := joinL_app S (x := q :: r) (y := y) (by simp) hy
    show p ++ (S ++ joinL S ((q :: r) ++ y)) = (p ++ (S ++ joinL S (q :: r))) ++ (S ++ joinL S y)
    rw [ih]
    simp [List.append_assoc]
theorem joinL_cons (S p : List Nat) {y : List (List Nat)} (hy : y ≠ []) : joinL S (p :: y) = p ++ (S ++ joinL S y) := joinL_app S (x := [p]) (by simp) hy
theorem tok_ne : ∀ (b : Bool) (t : Fm), t.tok b ≠ []
  | _, .leaf z => by cases ‹Bool› <;> simp [Fm.tok]
  | false, .node s l r => by simp [Fm.tok]
  | true, .node s l r => by simp [Fm.tok]
theorem map_ne {l : List Str} (h : l ≠ []) : l.map tl ≠ [] := fun e => h (List.map_eq_nil_iff.mp e)
theorem tok_text : ∀ (b : Bool) (t : Fm), t.Ok → spc (tl (t.txt b)) = joinL [32] ((t.tok b).map tl)
  | b, .leaf z, h => by
    have e : (Fm.leaf z).txt b = z := by cases b <;> rfl
    have e2 : (Fm.leaf z).tok b = [z] := by cases b <;> rfl
    rw [e, e2, spc_bare (name_bare h)]
    rfl
  | b, .node s l r, h => by
    have il := tok_text true l h.2.1
    have ir := tok_text true r h.2.2
    have e1 : tl (" " : Str) = [32] := by decide +kernel
    have e5 : spc [32] = [32] := rfl
    have nl := map_ne (tok_ne true l)
    have nr := map_ne (tok_ne true r)
    have sb := spc_bare (sign_bare h.1)
    cases b
    · simp only [Fm.txt, Fm.tok]
      rw [tl_append, tl_append, tl_append, tl_append, spc_app, spc_app, spc_app, spc_app, e1, e5, il, ir, sb, List.map_append, List.map_cons, joinL_app _ nl (by simp), joinL_cons _ _ nr]
      simp only [List.append_assoc]
    · simp only [Fm.txt, Fm.tok]
      rw [tl_append, tl_append, tl_append, tl_append, tl_append, tl_append, spc_app, spc_app, spc_app, spc_app, spc_app, spc_app, e1, e5, il, ir, sb, List.map_cons, List.map_append, List.map_cons, List.map_append, joinL_cons _ _ (by simp [nl]), joinL_app _ nl (by simp), joinL_cons _ _ (by simp), joinL_app _ nr (by simp)]
      have e6 : spc (tl ("(" : Str)) = [40, 32] := by decide +kernel
      have e7 : spc (tl (")" : Str)) = [32, 41] := by decide +kernel
      rw [e6, e7, tl_open]
      show _ = [40] ++ ([32] ++ (joinL [32] (List.map tl (Fm.tok true l)) ++ ([32] ++ (tl s ++ ([32] ++ (joinL [32] (List.map tl (Fm.tok true r)) ++ ([32] ++ joinL [32] [tl tClose])))))))
      show _ = [40] ++ ([32] ++ (joinL [32] (List.map tl (Fm.tok true l)) ++ ([32] ++ (tl s ++ ([32] ++ (joinL [32] (List.map tl (Fm.tok true r)) ++ ([32] ++ tl tClose)))))))
      rw [tl_close]
      simp only [List.append_assoc, List.cons_append, List.nil_append]
theorem tok_bare : ∀ (b : Bool) (t : Fm), t.Ok → ∀ z ∈ t.tok b, 32 ∉ tl z ∧ z.length ≤ 8
  | b, .leaf y, h => fun z hz => by
    have e2 : (Fm.leaf y).tok b = [y] := by cases b <;> rfl
    rw [e2] at hz
    rw [List.mem_singleton.mp hz]
    exact ⟨fun m => (name_bare h 32 m).1 rfl, name_short h⟩
  | b, .node s l r, h => fun z hz => by
    have c1 := (sign_ok h.1).1
    have sg : 32 ∉ tl s ∧ s.length ≤ 8 := ⟨fun m => (sign_bare h.1 32 m).1 rfl, by omega⟩
    have op : 32 ∉ tl tOpen ∧ tOpen.length ≤ 8 := by decide +kernel
    have cl : 32 ∉ tl tClose ∧ tClose.length ≤ 8 := by decide +kernel
    have il := tok_bare true l h.2.1
    have ir := tok_bare true r h.2.2
    cases b
    · simp only [Fm.tok, List.mem_append, List.mem_cons] at hz
      rcases hz with e | rfl | e
      · exact il z e
      · exact sg
      · exact ir z e
    · simp only [Fm.tok, List.mem_append, List.mem_cons, List.not_mem_nil, or_false] at hz
      rcases hz with rfl | e | rfl | e | rfl
      · exact op
      · exact il z e
      · exact sg
      · exact ir z e
      · exact cl
theorem words_of (t : Fm) (h : t.Ok) : Txt.split (twoSpc (t.txt false)) (" " : Str) = t.tok false := by
  have e1 : tl (" " : Str) = [32] := by decide +kernel
  have e : twoSpc (t.txt false) = Txt.join (" " : Str) (t.tok false) := by
    have a : tl (twoSpc (t.txt false)) = tl (Txt.join (" " : Str) (t.tok false)) := by
      rw [tl_twoSpc, tok_text false t h, join_eq, tl_join, e1]
    rw [← mk_tl (twoSpc (t.txt false)), ← mk_tl (Txt.join (" " : Str) (t.tok false)), a]
  rw [e]
  exact split_join e1 (by decide +kernel) (tok_ne false t) fun p hp => (tok_bare false t h p hp).1
theorem tok_len : ∀ (b : Bool) (t : Fm), (t.tok b).length + 3 ≤ 4 * t.nl
  | b, .leaf y => by
    have e2 : (Fm.leaf y).tok b = [y] := by cases b <;> rfl
    rw [e2]
    show 1 + 3 ≤ 4 * 1
    omega
  | b, .node s l r => by
    have a := tok_len true l
    have c := tok_len true r
    rw [Fm.nl_node]
    cases b
    · simp only [Fm.tok, List.length_append, List.length_cons]
      omega
    · simp only [Fm.tok, List.length_append, List.length_cons, List.length_nil]
      omega
end K1

/-! defs that want a token out -/
namespace TkX
open PySem PySem.Spec PyProof.Rows L2 SmX ClX
structure FnT (P : Program) (w : World) (K : PySem.W.Frag) (mg : Str → Option Value) (base : Heap) (k : Nat) (f : Addr) (fd : FuncData) (ps : List Str) (sp : Sp) : Prop where
  len : ∀ vs H Q E, sp vs H Q E → vs.length = ps.length
  run : ∀ (A : Around) (outer : List Env) (s : Shared) (H : Hp) (args : Args) (us : List Value) (vs : List V) (Q : VK) (E : XK), 1 ≤ s.toks → Room k A → Env0 P w K mg base A outer s H → BindsTo s fd args (ps.zip us) → Vals vs us → sp vs H Q E →
    codeAny (model P w) A (.call (.ref f) args) (CR CX0 outer P w H s Q E) s
section
variable {P : Program} {w : World} {K : PySem.W.Frag} {mg : Str → Option Value} {base : Heap}
theorem fnT_of {k : Nat} {f : Addr} {name qual : Str} {st : Stmt} {fd : FuncData} {N ps : List Str} {sp : Sp} (F : Fun K name qual st f fd) (S : FnScope N ps (defScope st)) (len : ∀ vs H Q E, sp vs H Q E → vs.length = ps.length)
    (body : ∀ (cdv : Value) (A : Around) (outer : List Env) (s : Shared) (H : Hp) (vs : List V) (Q : VK) (E : XK), Room k (A.deeper (envOfC qual (defScope st) s.heap.objs.size f cdv)) → sp vs H Q E →
      ∃ t, PSsT (cxOf CX0 P w K mg base N qual (defScope st) f cdv A outer s H E).nox (defBody st) t ∧ t { nx := fun _ H' => Q .non H', rt := Q } (L2.start N vs) H) : FnT P w K mg base (k + 1) f fd ps sp := by
  refine ⟨len, fun A outer s H args us vs Q E h1 hr e0 hb r hsp => ?_⟩
  obtain ⟨oc, od, kV, doc, pm, an, cdv, ct, osl, rfl, lk, hcd⟩ := F.ex
  have hl := len _ _ _ _ hsp
  have inK : K.In s.heap := e0.mod.kin.keeps fun b o e => (e0.bs b o e).1
  have noL : s.heap.NoLimit := e0.mod.nolimit.keeps fun b o e => (e0.bs b o e).1
  have kinds : ∀ y ∈ ps.zip us, (defScope st).names.lookup y.1 = some .local ∨ ((defScope st).names.lookup y.1 = some .cell ∧ ((cellsFrom (s.heap.objs.size + 1) (defScope st).names []).lookup y.1).isSome = true) := fun ⟨n, v⟩ hy => by
    rcases S.par n (List.of_mem_zip hy).1 with q | q
    · exact .inl q
    · exact .inr ⟨q, PySem.W.cellsFrom_some _ _ _
          (.inl q)⟩
  refine codeAny_call_function hr.depth (inK _ _ lk) rfl S.co S.gen rfl
      (PySem.W.codeRec_of inK hcd) (hb _ _ _ _ ?_)
  refine wpAny_mono (PySem.wpAny_toks_of h1 (wpAny_newFunctionEnv_cells (Q := fun env s1 => env = envOfC qual (defScope st) s.heap.objs.size f cdv ∧ InCallC s s.heap.objs.size (bindL (envOfC qual (defScope st) s.heap.objs.size f cdv).kindOf (ps.zip us) fun _ => none) (cellsFrom (s.heap.objs.size + 1) (defScope st).names []) (bindC (envOfC qual (defScope st) s.heap.objs.size f cdv).kindOf (ps.zip us) fun _ => none) s1) S.kind kinds fun env he s1 x => ⟨he, by subst he; exact x⟩)) (fun env s1 hz => ?_) fun _ _ z => z.2
  obtain ⟨t1, rfl, x⟩ := hz
  refine ⟨noL.keeps
      x.toInCall.keep, codeAny_func ?_⟩
  obtain ⟨t, ht, hq⟩ := body cdv A outer s H vs Q E (hr.deeper _) hsp
  have I := (inv_start (CX := CX0) (E := E) S hr.hd e0 hl r x).wish fun _ _ => False
  refine wpAny_mono (ht [] s1 (L2.start N vs) H _ t1 I hq) (fun fl s2 hs => ?_) fun e s2 hs => False.elim hs
  have hs := hs.unwish
  have fin : ∀ {σ' : L2.St} {H' : Hp} {v : V} {u : Value}, Inv (cxOf CX0 P w K mg base N qual (defScope st) f cdv A outer s H E) [] σ' H' s2 → RelV v u → Q v H' → CE outer P w H s Q u s2 :=
    fun {σ' H' v u} J rv q => ⟨v, H', J.os, J.bare, J.base,
        J.hok, rv, q⟩
  cases fl with
  | ret u =>
    obtain ⟨v, σ', H',
        J, rv, q⟩ := hs
    exact fin J rv q
  | next =>
    obtain ⟨σ', H',
        J, q⟩ := hs
    exact fin (v := V.non)
        (u := Value.none) J rfl q
  | brk =>
    obtain ⟨_, _, _,
        q⟩ := hs
    exact q.elim
  | cont =>
    obtain ⟨_, _, _,
        q⟩ := hs
    exact q.elim
end
/-- x(e, ..), a token being out -/
structure HasT (P : Program) (w : World) (K : PySem.W.Frag) (mg : Str → Option Value) (base : Heap) (k : Nat) (x : Str) (f : Addr) (ps : List Str) (sp : Sp) : Prop where
  gm : mg x = some (.ref f)
  kp : PySem.W.keepIn K (.ref f) = true
  ex : ∃ fd, FnT P w K mg base k f fd ps sp ∧ L2.Binds K fd ps []
section
variable {X : Cx} {k : Nat} {x : Str} {f C p g : Addr} {ps : List Str} {sp : Sp} {o e : Expr} {es : List Expr} {te to : TE} {ta t : TA} {E : XK} {mc : Value} {m : Str} {pos apos : Pos}
theorem after_run {pins : List (Addr × Obj)} {σ : L2.St} {H : Hp} {s : Shared} {Q : VK} (I : Inv X pins σ H s) {r : Result} {s' : Shared} : CR CX0 X.stack X.prog X.w H s Q E0 r s' →
    (match r with | .ok (.ret v) => EP X pins σ Q v s' | .ok _ => False | .error e => X.xe e s') := by
  intro hq
  cases r with
  | error e => exact hq.elim
  | ok fl =>
    cases fl with
    | ret u => exact I.after hq
    | next => exact False.elim hq
    | brk => exact False.elim hq
    | cont => exact False.elim hq
theorem pet_has {pn : Pos} (F : HasT X.prog X.w X.K X.mg X.base k x f ps sp) (hr : Room k X.A) (hg : Gl X x) (ha : PA X (e :: es) t)
    (hd : (x == ("__debug__" : Str)) = false := by decide) (hst : starEach (e :: es) X.env = (false, eval e X.env) :: starEach es X.env := by rfl) (hpl : (backTo pos (starEach es X.env)).any (·.1) = false := by rfl) :
    PET X (.Call (.Name x pn) (e :: es) [] pos) (tCall sp [] E0 t) := by
  obtain ⟨gm, kp, fd, F, hb⟩ := F
  intro pins s σ H Q h1 I h
  refine wpAny_Call_Name_kw
      (ld_glob I hg gm ?_ hd)
  refine PySem.W.callWith_K (h₀ := X.base) I.ok.mod.kin kp (wpAny_mono (PySem.wpAny_toks_of h1 (ha.run pos pins s σ H _ I h)) (fun us s1 q => ?_) fun _ _ z => z.2) hst hpl
  obtain ⟨t1, vs, H1, I1, rv, q⟩ := q
  refine ⟨I1.kIn, ?_⟩
  have q : sp vs H1 Q E0 := by
    have q : sp (vs ++ []) H1 Q E0 := q
    rw [List.append_nil] at q
    exact q
  have hl : us.length = ps.length := by rw [← rv.length]; exact F.len _ _ _ _ q
  have bb := hb s1 us I1.kIn (by rw [List.append_nil]; exact hl)
  rw [List.append_nil] at bb
  exact wpAny_call (codeAny_mono (F.run X.A X.stack s1 H1 ⟨us, []⟩ us vs Q E0 t1 hr I1.env0 bb rv q) fun r s' hq => after_run I1 hq)
theorem pst_set {i : Nat} {pos' : Pos} (hN : X.N.Nodup) (hi : X.N[i]? = some x) (hx : Loc X.env.scope x) (he : PET X e te) (hs : swapsWith e (some (.Name x pos')) pos.line X.env = pure false := by rfl) (hf : X.fn x = true ∨ X.env.scope.names.lookup x = some .local := by first | exact .inl rfl | exact .inr rfl | assumption) :
    PST X (.Assign [.Name x pos'] e pos) (tAsg te (gName i)) := by
  intro pins s σ H D h1 I h
  refine wpAny_Assign_Name (thn (he pins s σ H _ h1 I h) fun v s1 ⟨y, H1, I1, r1, q1⟩ => ?_) hs
  exact store_ok I1 hN hi hx r1 (fun s2 I2 => ⟨_, H1, I2, q1⟩) hf
theorem pet_m1 {id : String} {name : Str} {r : V → List V → Hp → VK → Prop} (slot : Slot "str" name id) (ty : typeOf (.builtin id) = pure (.type "method_descriptor")) (rule : MtR X id r) (ho : PET X o to) (he : PE X e te)
    (hs : starEach [e] X.env = [(false, eval e X.env)] := by rfl) (hbase : attributeBase o name X.env (eval o X.env) = eval o X.env := by rfl) (hline : (apos.endLine == pos.line) = true := by rfl) :
    PET X (.Call (.Attribute o name apos) [e] [] pos) (tM1 r to te) := by
  intro pins s σ H Q h1 I h
  refine PySem.Call_method1 hbase hs hline (thn (ho pins s σ H _ h1 I h) fun v s1 ⟨x, H1, I1, r1, q1⟩ => ?_)
  obtain ⟨⟨a, rfl⟩, q1⟩ := q1
  obtain ⟨t, rfl⟩ := _root_.id r1
  refine ⟨"str", _, F.plainAttrs_str, slot, ty, typeIs_str _ _ _, (fun _ e => nomatch e), Calls.callWith_builtin rfl (Calls.evalArgs_plain (Calls.spliced_cons ?_))⟩
  exact thn (he.run pins s1 σ H1 _ I1 q1) fun u s2 ⟨y, H2, I2, r2, q2⟩ => Calls.spliced_nil (rule pins s2 σ H2 _ [y] _ [u] Q I2 r1 (.cons r2 .nil) q2)
theorem getsm_tok {pl : Sem Bool} {pins : List (Addr × Obj)} {σ : L2.St} {H : Hp} {s : Shared} {A : Around} {E' : Value → Shared → Prop} {Q : Value × List Value → Shared → Prop} (Iv : Inv X pins σ H s) (r : CRead X.K C mc) (k : SMet X.K C mc m p g) (hyp : ∀ s', 1 ≤ s'.toks → Inv X pins σ H s' → Q (.ref g, []) s') : wpAny (model X.prog X.w) A (getMethod (.ref C) m pl) Q E' s := by
  obtain ⟨rest, hp⟩ := k.rc
  refine PySem.W.method_cls Iv.kIn r.ga (PySem.W.cls_bind Iv.kIn r.rd k.at_ ?_)
  exact wpAny_call (PySem.W.sm_get (s := { s with toks := s.toks + 1 }) Iv.kIn hp (PySem.W.handed_on rfl (hyp _ (Nat.le_add_left 1 _) (Iv.tok _))))
/-- C.m(e, ..) of a static method that wants a token out -/
theorem pe_smT {fd : FuncData} {pl : Sem Bool} (he : PE X o to) (r : CRead X.K C mc) (c : SMet X.K C mc m p g) (F : FnT X.prog X.w X.K X.mg X.base k g fd ps sp) (hb : L2.Binds X.K fd ps []) (hr : Room k X.A) (ha : PA X (e :: es) t)
    (hst : starEach (e :: es) X.env = (false, eval e X.env) :: starEach es
        X.env := by rfl) (hpl : (backTo pos (starEach es X.env)).any (·.1) = false := by rfl)
    (ht : eval (.Call (.Attribute o
        m apos) (e :: es) [] pos) X.env = (do
      let ov ← eval o X.env
      standAt apos.atName
      let (f, first) ← holding
          [ov] (getMethod ov m pl)
      callWith pos f first (backTo pos (starEach (e :: es)
          X.env)) (backToKw pos (keywordEach [] X.env))) := by rfl) :
    PE X (.Call (.Attribute o m apos) (e :: es) [] pos) (tSMeth C sp E0 to t) := by
  refine ⟨fun pins s σ H Q Iv hyp => ?_⟩
  refine PySem.W.methodCall_KW (pl := pl) (thn (he.run pins s σ H _ Iv hyp) fun usV st1 ⟨x, H1, Iv1, relX, ex, cont⟩ => ?_) ht
  subst ex
  obtain rfl : usV = Value.ref C := relX
  refine getsm_tok Iv1 r c fun st2 t2 Iv2 => ?_
  refine PySem.W.callWith_K (h₀ := X.base) Iv.ok.mod.kin c.kp (wpAny_mono (PySem.wpAny_toks_of t2 (ha.run pos pins st2 σ H1 _ Iv2 cont)) (fun us s1 q => ?_) fun _ _ z => z.2) hst hpl
  obtain ⟨t3, vs, H2, I3, rv, q⟩ := q
  refine ⟨I3.kIn, ?_⟩
  have hl : us.length = ps.length := by rw [← rv.length]; exact F.len _ _ _ _ q
  have bb := hb s1 us I3.kIn (by rw [List.append_nil]; exact hl)
  rw [List.append_nil] at bb
  exact wpAny_call (codeAny_mono (F.run X.A X.stack s1 H2 ⟨us, []⟩ us vs Q E0 t3 hr I3.env0 bb rv q) fun r s' hq => after_run I3 hq)
end
end TkX

namespace K1
open PySem PySem.Spec
open PyProof.Rows L2 EnT StX SmX TxS DuX
/-! ### read_counted -/
def spTakeX : Sp := fun vs H Q E => ∃ H0, spTake H0 vs H Q E
def spReadC : Sp := fun vs H Q _ => ∃ t : Fm, vs = [.str (t.txt false)] ∧ t.Ok ∧ t.nl ≤ 500 ∧ ∀ (v : V) (H' : Hp), Same H H' → PartAt H' v (.f t) → Q v H'
abbrev nmRc : List Str := ["text", "words", "opened", "word", "outermost"]
theorem step_len {a b : List (List Part)} {z : Str} (h : Step a z b) : b.length ≤ a.length + 1 := by
  cases h <;> simp only [List.length_cons] <;> omega
section
variable {w : World} {P : Program} {base : Heap} {mg : Str → Option Value} {K : PySem.W.Frag} {aS : Addr}
theorem ok_takeX {f fJ fN : Addr} {fd : FuncData} (F : Fun K "take_word" "take_word" sTake f fd) (G : Gf K mg aS) (hJ : Has P w K mg base CX0 1 "joined" fJ ["parts"] spJoined) (hN : Has P w K mg base CX0 1 "is_name" fN ["value"] spIsName) : FnOk P w K mg base CX0 2 f fd ["opened", "word"] spTakeX :=
  ⟨fun vs H Q E ⟨H0, h⟩ => (ok_take H0 F G hJ hN).len vs H Q E h, fun A outer s H args us vs Q E hr e0 hb r ⟨H0, h⟩ => (ok_take H0 F G hJ hN).run A outer s H args us vs Q E hr e0 hb r h⟩
theorem scRc : FnScope nmRc ["text"] (defScope sReadC) := ⟨rfl, rfl, rfl, by decide +kernel, rfl, by decide +kernel, by decide +kernel⟩
theorem ok_readC {f fT fJ : Addr} {fd : FuncData} (F : Fun K "read_counted" "read_counted" sReadC f fd) (T : Free mg) (hT : Has P w K mg base CX0 2 "take_word" fT ["opened", "word"] spTakeX) (hJ : Has P w K mg base CX0 1 "joined" fJ ["parts"] spJoined) :
    TkX.FnT P w K mg base 3 f fd ["text"] spReadC := by
  refine TkX.fnT_of F scRc (fun vs H Q E h => ?_) (fun cdv A outer s H vs Q E hr h => ?_)
  · obtain ⟨t, rfl, _⟩ := h
    rfl
  · obtain ⟨t, rfl, ok, l, q⟩ := h
    refine ⟨_, psst_cons (PST.of (ps_if (pt_not (pt_val (pe_callB call_isi (by rfl) T.isinstance (by decide +kernel) (pa_cons (pv 0) (pa_cons (pe_bltn (v := .ty "str") (u := .type "str") (by rfl) T.str (by decide +kernel) rfl) pa_nil))))) pss_never pss_nil))
      (psst_cons (TkX.pst_set (i := 1) scRc.nd rfl (.inl rfl) (TkX.pet_m1 PySem.F.slot_str_split PySem.F.type_str_split mt_split (CwR.pet_replT (CwR.pet_replC (pv 0))) pe_str))
      (PSsT.of (pss_cons (ps_set (i := 2) scRc.nd rfl (.inl rfl) (pe_lst (pa_cons (pe_lst pa_nil) pa_nil)))
      (pss_cons (ps_for PassesOwn.never rfl (pi_list (pv 1)) (pg_name (i := 3) scRc.nd rfl (.inl rfl))
          (pss_one (ps_if (pt_not (pt_val (pe_has hT hr (by rfl) pass0 (pa_cons (pv 2) (pa_cons (pv 3) pa_nil))))) pss_never pss_nil)))
      (pss_cons (ps_set (i := 4) scRc.nd rfl (.inl rfl) (pe_ix ix_list (pv 2) pe_int (fun _ _ => rfl)))
      (pss_cons (ps_if (pt_cmpR op_eq (pe_callB call_len_seq (by rfl) T.len PySem.boot_len (pa_cons (pv 4) pa_nil)) pe_int (nomark _)) (pss_one (ps_ret (pe_has hJ (hr.mono (by decide)) (by rfl) pass0 (pa_cons (pv 4) pa_nil)))) pss_nil)
      (pss_cons (ps_if (PW.pt (pw_and (pt_cmpR op_eq (pe_callB call_len_seq (by rfl) T.len PySem.boot_len (pa_cons (pv 4) pa_nil)) pe_int (nomark _)) (pw_and1 (pt_val (pe_callB call_isi (by rfl) T.isinstance (by decide +kernel) (pa_cons (pe_ix ix_tup (pe_ix ix_list (pv 4) pe_int (fun _ _ => rfl)) pe_int (fun _ _ => rfl)) (pa_cons (pe_bltn (v := .ty "str") (u := .type "str") (by rfl) T.str (by decide +kernel) rfl) pa_nil)))))))
          (pss_one (ps_ret (pe_ix ix_list (pv 4) pe_int (fun _ _ => rfl)))) pss_nil) pss_never))))))), ?_⟩
    refine ⟨_, rfl, _, _, _, _, true, rfl, .ty _, .base (.str _), kit_ty (by decide +kernel), true, rfl, iteF ?_⟩
    have l1 := txt_len false t ok
    have z1 : ("( " : Str).length = 2 := by decide +kernel
    have z2 : (" )" : Str).length = 2 := by decide +kernel
    have l2 := TK.replace_len (t.txt false) ("(" : Str) ("( " : Str)
    have l3 := TK.replace_len (Txt.replace (t.txt false) ("(" : Str) ("( " : Str)) (")" : Str) (" )" : Str)
    have sl : sizeLine = 16777216 := by decide
    rw [z1] at l2
    rw [z2] at l3
    refine ⟨_, rfl, _, rfl, (by rw [z1]; omega), _, rfl, (by rw [z2]; omega), ⟨_, rfl⟩, _, _, rfl, rfl, by decide +kernel, (by omega), fun W nW => ?_⟩
    have wo := words_of t ok
    have hW : (upd H W (.lst ((Txt.split (twoSpc (t.txt false)) (" " : Str)).map V.str))) W = some (.lst ((t.tok false).map V.str)) := by rw [wo]; exact upd_same
    have s1 : Same H (upd H W (.lst ((Txt.split (twoSpc (t.txt false)) (" " : Str)).map V.str))) := same_upd nW
    generalize (upd H W (.lst ((Txt.split (twoSpc (t.txt false)) (" " : Str)).map V.str))) = H1 at hW s1
    refine ⟨(by show 0 ≤ sizeLine; decide), fun R nR => ⟨(by show 1 ≤ sizeLine; decide), fun L nL => ?_⟩⟩
    have nRL : R ≠ L := fun e => by
      rw [← e, upd_same] at nL
      cases nL
    have nL1 : H1 L = none := by
      rw [upd_ne (Ne.symm nRL)] at nL
      exact nL
    have s2 : Same H1 (upd (upd H1 R (.lst [])) L (.lst [.ref R])) := (same_upd nR).trans (same_upd nL)
    have sk : StackAt H1 (upd (upd H1 R (.lst [])) L (.lst [.ref R])) L [R] [[]] := ⟨upd_same, nL1, .cons (by rw [upd_ne nRL]; exact upd_same) .nil nR nRL (by simp) .nil⟩
    generalize (upd (upd H1 R (.lst [])) L (.lst [.ref R])) = H3 at s2 sk ⊢
    have run := runs_all t ok
    have tl4 := tok_len false t
    refine ⟨_, rfl, W, rfl, ⟨_, SqL.of (s2 _ _ hW)⟩, for_list (xs := (t.tok false).map V.str) (K := K) (a := W) (fun i σ H' => Same H1 H' ∧ ∃ (as : List Addr) (st : List (List Part)) (y3 : Option V), σ = [some (.str (t.txt false)), some (.ref W), some (.ref L), y3, none] ∧ StackAt H1 H' L as st ∧ st.length ≤ i + 1 ∧ Runs st ((t.tok false).drop i) [t.outer]) ⟨s2, _, _, _, rfl, sk, Nat.le_refl _, run⟩ ?_ ?_ ?_⟩
    · rintro i σ H' hi ⟨s3, _⟩
      exact SqL.of (s3 _ _ hW)
    · rintro i x σ H' hx ⟨s3, as, st, y3, rfl, k3, ll, rr⟩
      rw [List.getElem?_map] at hx
      obtain ⟨z, hz, rfl⟩ := Option.map_eq_some_iff.mp hx
      obtain ⟨hi, ez⟩ := List.getElem?_eq_some_iff.mp hz
      rw [List.drop_eq_getElem_cons hi, ez] at rr
      cases rr with
      | cons stp rr =>
      have hl8 := (tok_bare false t ok z (List.mem_of_getElem? hz)).2
      refine ⟨_, rfl, _, rfl, H1, L, z, as, st, _, rfl, k3, stp, s3, (by omega), (by omega), fun as' H4 s4 k4 => ?_⟩
      refine ⟨true, rfl, iteF ?_⟩
      have := step_len stp
      exact ⟨s4, as', _, _, rfl, k4, by omega, rr⟩
    · rintro σ H4 ⟨s4, as, st, y3, rfl, k4, ll, rr⟩
      rw [List.drop_eq_nil_of_le (by rw [List.length_map]; exact Nat.le_refl _)] at rr
      cases rr
      obtain ⟨hL, nL', rows⟩ := k4
      cases rows with
      | cons ha pa na ne nd r =>
      cases r
      rename_i a vs
      refine ⟨_, rfl, L, _, _, .ref a, rfl, rfl, SqL.of hL, rfl, ?_⟩
      have s5 := s1.trans s4
      have lv := pa.len
      cases t with
      | leaf z =>
        cases pa with
        | cons p1 r1 =>
        cases r1
        cases p1 with
        | f hb m =>
        rename_i b v
        cases m
        refine ⟨_, rfl, a, _, rfl, .inl (SqL.of ha), rfl, _, rfl, iteF ?_⟩
        refine ⟨_, rfl, a, _, rfl, .inl (SqL.of ha), rfl, _, rfl, iteT ?_⟩
        refine ⟨_, rfl, a, _, _, .ref b, rfl, rfl, SqL.of ha, rfl, b, _, _, .str z, rfl, rfl, SqT.of hb, rfl, _, _, _, _, true, rfl, .ty _, .base (.str _), kit_ty (by decide +kernel), true, rfl, iteT ?_⟩
        exact ⟨_, rfl, a, _, _, .ref b, rfl, rfl, SqL.of ha, rfl, q _ _ s5 (.f hb (.leaf z))⟩
      | node z l r =>
        refine ⟨_, rfl, a, _, rfl, .inl (SqL.of ha), rfl, _, rfl, ?_⟩
        rw [decide_eq_true (by rw [lv]; rfl)]
        exact iteT ⟨_, rfl, a, _, z, _, r, rfl, ha, pa, fun v H' s p => q v H' (s5.trans s) p⟩
end
end K1

namespace K1
open PySem PySem.Spec
open PyProof.Rows L2 EnT StX SmX TxS DuX
/-! ### expressions -/
def eflds (v : V) (t : Fm) (fl : Addr) : List (Str × V) := putF "_has_given" (.bl (decide (tGiven ∈ t.lvs))) (putF "_fields" (.ref fl) (putF "_depth" (.int (t.dep : Nat)) (putF "_leaves" (.int (t.nl : Nat)) (putF "_form" v []))))
theorem ef_form (v : V) (t : Fm) (fl : Addr) : (eflds v t fl).lookup ("_form" : Str) = some v := by
  unfold eflds
  rw [lookup_putF, if_neg (by decide +kernel), lookup_putF, if_neg (by decide +kernel), lookup_putF, if_neg (by decide +kernel), lookup_putF, if_neg (by decide +kernel), lookup_putF, if_pos rfl]
theorem ef_leaves (v : V) (t : Fm) (fl : Addr) : (eflds v t fl).lookup ("_leaves" : Str) = some (.int (t.nl : Nat)) := by
  unfold eflds
  rw [lookup_putF, if_neg (by decide +kernel), lookup_putF, if_neg (by decide +kernel), lookup_putF, if_neg (by decide +kernel), lookup_putF, if_pos rfl]
theorem ef_depth (v : V) (t : Fm) (fl : Addr) : (eflds v t fl).lookup ("_depth" : Str) = some (.int (t.dep : Nat)) := by
  unfold eflds
  rw [lookup_putF, if_neg (by decide +kernel), lookup_putF, if_neg (by decide +kernel), lookup_putF, if_pos rfl]
theorem ef_fields (v : V) (t : Fm) (fl : Addr) : (eflds v t fl).lookup ("_fields" : Str) = some (.ref fl) := by
  unfold eflds
  rw [lookup_putF, if_neg (by decide +kernel), lookup_putF, if_pos rfl]
theorem ef_given (v : V) (t : Fm) (fl : Addr) : (eflds v t fl).lookup ("_has_given" : Str) = some (.bl (decide (tGiven ∈ t.lvs))) := by
  unfold eflds
  rw [lookup_putF, if_pos rfl]
structure ExpC (K : PySem.W.Frag) (mg : Str → Option Value) (C : Addr) : Prop where
  g : mg "Expression" = some (.ref C)
  cl : Cls K C
  nF : NoAttr K C "_form"
  nL : NoAttr K C "_leaves"
  nD : NoAttr K C "_depth"
  nS : NoAttr K C "_fields"
  nG : NoAttr K C "_has_given"
structure ExpAt (C : Addr) (H : Hp) (p : Addr) (t : Fm) : Prop where
  at_ : ∃ (dx : Addr) (v : V) (fl : Addr) (ys : List Str), H p = some (.ins C dx (eflds v t fl)) ∧ FmAt H v t ∧ H fl = some (.tup (ys.map V.str)) ∧ sortedS ys = true ∧ ys.Nodup ∧ ∀ z, z ∈ ys ↔ z ∈ t.lvs ∧ fieldB z = true
  ok : t.Ok
  d : t.dep ≤ 6
theorem ExpAt.same {C p : Addr} {H H' : Hp} {t : Fm} (s : Same H H') (m : ExpAt C H p t) : ExpAt C H' p t := by
  obtain ⟨⟨dx, v, fl, ys, h1, h2, h3, h4⟩, a, b⟩ := m
  exact ⟨⟨dx, v, fl, ys, s _ _ h1, h2.same s, s _ _ h3, h4⟩, a, b⟩
theorem ExpAt.set {C p a : Addr} {H : Hp} {t : Fm} {xs : List V} {o : HO} (h : H a = some (.lst xs)) (m : ExpAt C H p t) : ExpAt C (upd H a o) p t := by
  obtain ⟨⟨dx, v, fl, ys, h1, h2, h3, h4⟩, b, c⟩ := m
  exact ⟨⟨dx, v, fl, ys, by rw [upd_ne (fun z => by rw [z, h] at h1; cases h1)]; exact h1, h2.keep (TupK.set (H := H) (H' := H) (fun _ _ e => e) h), by rw [upd_ne (fun z => by rw [z, h] at h3; cases h3)]; exact h3, h4⟩, b, c⟩
theorem nl32 {t : Fm} (h : t.dep ≤ 6) : t.nl ≤ 32 := Nat.le_trans (Fm.nl_dep t) (Nat.le_trans (Nat.pow_le_pow_right (by decide) (show t.dep - 1 ≤ 5 by omega)) (by decide))
/-- what Expression(..) gives -/
def spInitE (C : Addr) : Sp := fun vs H Q _ => ∃ (p dx : Addr) (v : V) (t : Fm), vs = [.ref p, v] ∧ H p = some (.ins C dx []) ∧ FmAt H v t ∧ t.Ok ∧ t.dep ≤ 6 ∧ ∀ H', (∀ x o, x ≠ p → H x = some o → H' x = some o) → ExpAt C H' p t → Q .non H'
abbrev nmIE : List Str := ["self", "form", "size", "leaves", "depth"]
section
variable {w : World} {P : Program} {base : Heap} {mg : Str → Option Value} {K : PySem.W.Frag} {aS C : Addr}
theorem scIE : FnScope nmIE ["self", "form"] (defScope sInitE) := ⟨rfl, rfl, rfl, by decide +kernel, rfl, by decide +kernel, by decide +kernel⟩
theorem ok_initE {f f1 f2 f3 f4 f5 : Addr} {fd : FuncData} (F : Fun K "__init__" "Expression.__init__" sInitE f fd) (G : Gf K mg aS) (M : ExpC K mg C) (hS : Has P w K mg base CX0 2 "form_size" f1 ["value"] spSize)
    (hL : Has P w K mg base CX0 1 "check_leaves" f2 ["leaves"] (spChk 200)) (hD : Has P w K mg base CX0 1 "check_depth" f3 ["depth"] (spChk 20)) (hF : Has P w K mg base CX0 7 "form_fields" f4 ["form"] (spFields 6)) (hV : Has P w K mg base CX0 6 "form_leaves" f5 ["form"] (spLeaves 6)) :
    FnOk P w K mg base CX0 8 f fd ["self", "form"] (spInitE C) := by
  obtain ⟨tg, hg⟩ := G.gv
  refine F.ok scIE (fun vs H Q E h => ?_) (fun cdv A outer s H vs Q E hr h => ?_)
  · obtain ⟨p, dx, v, t, rfl, _⟩ := h
    rfl
  · obtain ⟨p, dx, v, t, rfl, hp, hm, ok, hd, q⟩ := h
    refine ⟨_, pss_cons (ps_set (i := 2) scIE.nd rfl (.inl rfl) (pe_has hS (hr.mono (by decide)) (by rfl) pass0 (pa_cons (pv 1) pa_nil)))
      (pss_cons (ps_if (pt_cmp (pc_isN (pv 2))) pss_never pss_nil)
      (pss_cons (ps_asg (pv 2) (pg_tup rfl (pgs_cons (pg_name (i := 3) scIE.nd rfl (.inl rfl)) (pgs_cons (pg_name (i := 4) scIE.nd rfl (.inl rfl)) pgs_nil))))
      (pss_cons (ps_expr (pe_has hL (hr.mono (by decide)) (by rfl) pass0 (pa_cons (pv 3) pa_nil)))
      (pss_cons (ps_expr (pe_has hD (hr.mono (by decide)) (by rfl) pass0 (pa_cons (pv 4) pa_nil)))
      (pss_cons (ps_fld (pv 0) (pv 1) rfl) (pss_cons (ps_fld (pv 0) (pv 3) rfl) (pss_cons (ps_fld (pv 0) (pv 4) rfl)
      (pss_cons (ps_fld (pv 0) (pe_has hF hr (by rfl) pass0 (pa_cons (pv 1) pa_nil)) rfl)
      (pss_one (ps_fld (pv 0) (pe_cmpR op_in_seq (pe_glob (v := .str tGiven) (by rfl) hg ⟨_, rfl⟩) (pe_has hV (hr.mono (by decide)) (by rfl) pass0 (pa_cons (pv 1) pa_nil)) (by rfl)) rfl)))))))))), ?_⟩
    have nl := nl32 hd
    refine ⟨_, rfl, v, t, rfl, hm, ok, by omega, by omega, fun a H1 s1 ha => ?_⟩
    refine ⟨_, rfl, false, rfl, iteF ?_⟩
    refine ⟨_, rfl, a, _, rfl, SqT.of ha, rfl, _, _, rfl, _, _, rfl, rfl, ?_⟩
    refine ⟨_, rfl, _, rfl, by omega, ?_⟩
    refine ⟨_, rfl, _, rfl, by omega, ?_⟩
    have hp1 := s1 _ _ hp
    have hm1 := hm.same s1
    have pt : ∀ {fs : List (Str × V)} {H2 : Hp} {o : HO}, H2 p = some (.ins C dx fs) → TupK H2 (upd H2 p o) := fun {fs H2 o} e a xs h => by rw [upd_ne (fun z => by rw [z, e] at h; cases h)]; exact h
    refine ⟨_, rfl, _, rfl, p, C, dx, [], rfl, hp1, M.cl, M.nF, (by show 0 < 1000; decide), ?_⟩
    refine ⟨_, rfl, _, rfl, p, C, dx, _, rfl, upd_same, M.cl, M.nL, (by rw [show (putF "_form" v []).length = 1 from rfl]; decide), ?_⟩
    rw [upd_upd]
    refine ⟨_, rfl, _, rfl, p, C, dx, _, rfl, upd_same, M.cl, M.nD, (by rw [show (putF "_leaves" (V.int (t.nl : Nat)) (putF "_form" v [])).length = 2 from rfl]; decide), ?_⟩
    rw [upd_upd]
    refine ⟨_, rfl, v, t, rfl, hm1.keep (pt hp1), ok, hd, by omega, fun fl ys H2 s2 hf so nd iff => ?_⟩
    have hp2 := s2 _ _ (upd_same (H := H1) (a := p) (o := .ins C dx (putF "_depth" (V.int (t.dep : Nat)) (putF "_leaves" (V.int (t.nl : Nat)) (putF "_form" v [])))))
    have hm2 := (hm1.keep (pt hp1 (o := .ins C dx (putF "_depth" (V.int (t.dep : Nat)) (putF "_leaves" (V.int (t.nl : Nat)) (putF "_form" v [])))))).same s2
    refine ⟨_, rfl, p, C, dx, _, rfl, hp2, M.cl, M.nS, (by rw [show (putF "_depth" (V.int (t.dep : Nat)) (putF "_leaves" (V.int (t.nl : Nat)) (putF "_form" v []))).length = 3 from rfl]; decide), ?_⟩
    refine ⟨_, rfl, v, t, rfl, hm2.keep (pt hp2), hd, by omega, fun l H3 nl' s3 hl => ?_⟩
    have hp3 := s3 _ _ (upd_same (H := H2) (a := p) (o := .ins C dx (putF "_fields" (V.ref fl) (putF "_depth" (V.int (t.dep : Nat)) (putF "_leaves" (V.int (t.nl : Nat)) (putF "_form" v []))))))
    have hm3 := (hm2.keep (pt hp2 (o := .ins C dx (putF "_fields" (V.ref fl) (putF "_depth" (V.int (t.dep : Nat)) (putF "_leaves" (V.int (t.nl : Nat)) (putF "_form" v []))))))).same s3
    have hf3 := s3 _ _ (pt hp2 (o := .ins C dx (putF "_fields" (V.ref fl) (putF "_depth" (V.int (t.dep : Nat)) (putF "_leaves" (V.int (t.nl : Nat)) (putF "_form" v []))))) _ _ hf)
    refine ⟨l, _, rfl, .inl (SqL.of hl), rfl, strs_flat _, ?_⟩
    rw [inV_mem]
    refine ⟨_, rfl, p, C, dx, _, rfl, hp3, M.cl, M.nG, (by rw [show (putF "_fields" (V.ref fl) (putF "_depth" (V.int (t.dep : Nat)) (putF "_leaves" (V.int (t.nl : Nat)) (putF "_form" v [])))).length = 4 from rfl]; decide), ?_⟩
    refine q _ (fun x o n e => ?_) ⟨⟨dx, v, fl, ys, upd_same, hm3.keep (pt hp3), pt hp3 _ _ hf3, so, nd, iff⟩, ok, hd⟩
    rw [upd_ne n]
    refine s3 _ _ ?_
    rw [upd_ne n]
    refine s2 _ _ ?_
    rw [upd_ne n]
    exact s1 _ _ e
end
end K1

namespace K1
open PySem PySem.Spec
open PyProof.Rows L2 EnT StX SmX TxS DuX ClX
/-! ### names, each once -/
/-- zs are names, each once; the value behind them, if any, is refused -/
def spWT (K : PySem.W.Frag) : Sp := fun vs H Q _ => ∃ (a : Addr) (xs : List V) (zs : List Str), vs = [.ref a] ∧ SqT K H a xs ∧ xs.length ≤ 100 ∧ xs.take zs.length = zs.map V.str ∧ (∀ z ∈ zs, nameB z = true) ∧ zs.Nodup ∧
  ((zs.length = xs.length ∧ ∀ H', Same H H' → Q .non H') ∨ ∃ v, xs[zs.length]? = some v ∧ VOk H v ∧ (nameV v = false ∨ ∃ z ∈ zs, v = .str z ∧ nameV v = true) ∧ ∀ H', Same H H' → Q (.int zs.length) H')
abbrev nmWT : List Str := ["values", "seen", "at", "value"]
section
variable {w : World} {P : Program} {base : Heap} {mg : Str → Option Value} {K : PySem.W.Frag}
theorem scWT : FnScope nmWT ["values"] (defScope sWrong2) := ⟨rfl, rfl, rfl, by decide +kernel, rfl, by decide +kernel, by decide +kernel⟩
theorem ok_wt {f fN : Addr} {fd : FuncData} (F : Fun K "wrong_or_twice_at" "wrong_or_twice_at" sWrong2 f fd) (T : Free mg) (hN : Has P w K mg base CX0 1 "is_name" fN ["value"] spIsName) :
    FnOk P w K mg base CX0 2 f fd ["values"] (spWT K) := by
  refine F.ok scWT (fun vs H Q E h => ?_) (fun cdv A outer s H vs Q E hr h => ?_)
  · obtain ⟨a, xs, zs, rfl, _⟩ := h
    rfl
  · obtain ⟨a, xs, zs, rfl, hS, hl, ht, hz, nd, q⟩ := h
    refine ⟨_, pss_cons (ps_set (i := 1) scWT.nd rfl (.inl rfl) pe_dnewK)
      (pss_cons (ps_for PassesOwn.never rfl (pi_enumT (by rfl) T.enumerate (pa_cons (pv 0) pa_nil)) (pg_tup rfl (pgs_cons (pg_name (i := 2) scWT.nd rfl (.inl rfl)) (pgs_cons (pg_name (i := 3) scWT.nd rfl (.inl rfl)) pgs_nil)))
        (pss_cons (ps_if (PW.pt (pw_or (pt_not (pt_val (pe_has hN (hr.mono (by decide)) (by rfl) pass0 (pa_cons (pv 3) pa_nil)))) (pw_or1 (pt_cmp (pc_din (hu_of hr) (pv 3) (pv 1))))))
            (pss_one (ps_ret (pv 2))) pss_nil)
          (pss_one (ps_dput (hu_of hr) (pv 1) (pv 3) pe_bl rfl))))
      (pss_one (ps_ret pe_non))), ?_⟩
    refine fun d nd0 => ?_
    refine ⟨_, rfl, a, xs, rfl, sameT (same_upd nd0) hS, ?_⟩
    refine for_it (walk_enumT (xs := xs)) (fun i σ H' => Same H H' ∧ H' d = some (.dK (tabOf (zs.take i))) ∧ i ≤ zs.length ∧ ∃ o2 o3 : Option V, σ = [some (.ref a), some (.ref d), o2, o3]) ?_ ?_ ?_ ?_
    · exact ⟨same_upd nd0, upd_same, Nat.zero_le _, none, none, rfl⟩
    · rintro i σ H' hi ⟨sm, _⟩
      exact sameT sm hS
    · rintro i x σ H1 H2 hi ⟨sm, hd, le, o2, o3, rfl⟩ ⟨t, y1, y2, rfl, nt, rfl, e1, e2⟩
      cases e1
      refine ⟨t, _, rfl, SqT.of upd_same, rfl, _, _, rfl, _, _, rfl, rfl, ?_⟩
      have sm2 : Same H (upd H1 t (.tup [.int (i : Nat), y2])) := sm.trans (same_upd nt)
      have hd2 : (upd H1 t (.tup [.int (i : Nat), y2])) d = some (.dK (tabOf (zs.take i))) := same_upd nt _ _ hd
      by_cases hlt : i < zs.length
      · obtain ⟨z, ez⟩ : ∃ z, zs[i]? = some z := ⟨zs[i], by rw [List.getElem?_eq_getElem hlt]⟩
        have e3 : xs[i]? = some (.str z) := by
          have : (xs.take zs.length)[i]? = (zs.map V.str)[i]? := by rw [ht]
          rw [List.getElem?_take, if_pos hlt, List.getElem?_map, ez] at this
          exact this
        have e2 : xs[i]? = some y2 := e2
        rw [e3] at e2
        cases e2
        have nz := hz z (List.mem_iff_getElem?.mpr ⟨i, ez⟩)
        have zn : z ∉ zs.take i := fun hm => take_nodup_none nd ez hm
        refine ⟨_, rfl, _, rfl, (.inl ⟨z, rfl, by have := name_short nz; rw [sizeLine_eq]; omega⟩), _, rfl, ?_⟩
        rw [show nameV (.str z) = true from nz]
        refine iteF ?_
        refine ⟨_, rfl, _, rfl, d, _, rfl, DGet.k (k := Sum.inr z) hd2, ?_⟩
        rw [tab_none zn]
        refine ⟨_, rfl, iteF ?_⟩
        have lt : (tabOf (zs.take i)).length < sizeLine := by
          unfold tabOf
          rw [List.length_map, List.length_take, sizeLine_eq]
          have := (List.getElem?_eq_some_iff.mp e3).1
          omega
        refine ⟨_, rfl, _, rfl, d, _, rfl, DPut.k (k := Sum.inr z) hd2 lt, ?_⟩
        refine ⟨same_set sm2 nd0, ?_, hlt, _, _, rfl⟩
        rw [upd_same, putK_new _ (tab_none zn)]
        unfold tabOf
        rw [List.take_add_one, ez, List.map_append]
        rfl
      · have ei : i = zs.length := by omega
        subst ei
        rcases q with ⟨e3, _⟩ | ⟨v, ev, vo, bad, q⟩
        · have := (List.getElem?_eq_some_iff.mp e2).1
          omega
        have e2 : xs[zs.length]? = some y2 := e2
        rw [ev] at e2
        cases e2
        refine ⟨_, rfl, _, rfl, (vo.same (sm.trans (same_upd nt))), _, rfl, ?_⟩
        rcases bad with bad | ⟨z, hm, rfl, nz⟩
        · rw [bad]
          refine iteT (iteT ?_)
          exact ⟨_, rfl, q _ sm2⟩
        · rw [nz]
          refine iteF ?_
          rw [List.take_length] at hd2
          refine ⟨_, rfl, _, rfl, d, _, rfl, DGet.k (k := Sum.inr z) hd2, ?_⟩
          have hs : (valV (tabOf zs) (Sum.inr z : Key)).isSome = true := by
            rw [valV_tab]
            exact decide_eq_true hm
          rw [hs]
          exact ⟨_, rfl, iteT ⟨_, rfl, q _ sm2⟩⟩
    · rintro σ H' ⟨sm, hd, le, o2, o3, rfl⟩
      rcases q with ⟨e3, q⟩ | ⟨v, ev, _⟩
      · exact q H' sm
      · have := (List.getElem?_eq_some_iff.mp ev).1
        omega
end
end K1

namespace K1
open PySem PySem.Spec
open PyProof.Rows L2 EnT StX SmX TxS DuX ClX
/-! ### the errors with an index -/
theorem rz_err {C : Addr} {f : Str} {v : V} {H : Hp} {Q : XK} (q : ErrAt C f v H Q) : [v].length ≤ 1000 ∧ ∀ a, H a = none → spErr C f (.ref a :: ([v] ++ [])) (upd H a (exo a C none))
    (fun v H2 => v = .non ∧ ∃ (d : Addr) (fs : List (Str × V)), H2 a = some (exo a C (some d)) ∧ H2 d = some (exd d fs) ∧ H d = none ∧ Q (.ref C) (some d) (upd (del H2 a) d (.xd fs))) fun _ _ _ => False := by
  refine ⟨(by show 1 ≤ 1000; decide), fun x nx => ⟨x, _, rfl, upd_same, fun d nd ne => ⟨rfl, d, [(f, v)], upd_same, ?_, ?_, ?_⟩⟩⟩
  · rw [upd_ne ne, upd_same]
  · rw [upd_ne ne] at nd
    exact nd
  · rw [raise_heap nx ne]
    rw [upd_ne ne] at nd
    exact q d H (Same.refl H) nd
section
variable {w : World} {P : Program} {base : Heap} {mg : Str → Option Value} {K : PySem.W.Frag}
theorem scEFi : FnScope ["self", "index"] ["self", "index"] (defScope s_InvalidFields___init__) := ⟨rfl, rfl, rfl, by decide +kernel, rfl, by decide +kernel, by decide +kernel⟩
theorem ok_eFi {f C fI : Addr} {fd : FuncData} (F : Fun K "__init__" "InvalidFields.__init__" s_InvalidFields___init__ f fd) (T : ErrC K mg "InvalidFields" "index" C fI) : FnOk P w K mg base CX0 1 f fd ["self", "index"] (spErr C "index") := by
  refine F.ok scEFi (fun vs H Q E h => ?_) (fun cdv A outer s H vs Q E hr h => ?_)
  · obtain ⟨a, v, rfl, _⟩ := h
    rfl
  · obtain ⟨a, v, rfl, ha, q⟩ := h
    exact ⟨_, pss_one (ps_ost (pv 0) (pv 1)), _, rfl, _, rfl, a, C, rfl, T.ox, T.no, .inl ⟨ha, fun d nd ne => q d nd ne⟩⟩
theorem scEMo : FnScope ["self", "index"] ["self", "index"] (defScope s_InvalidModes___init__) := ⟨rfl, rfl, rfl, by decide +kernel, rfl, by decide +kernel, by decide +kernel⟩
theorem ok_eMo {f C fI : Addr} {fd : FuncData} (F : Fun K "__init__" "InvalidModes.__init__" s_InvalidModes___init__ f fd) (T : ErrC K mg "InvalidModes" "index" C fI) : FnOk P w K mg base CX0 1 f fd ["self", "index"] (spErr C "index") := by
  refine F.ok scEMo (fun vs H Q E h => ?_) (fun cdv A outer s H vs Q E hr h => ?_)
  · obtain ⟨a, v, rfl, _⟩ := h
    rfl
  · obtain ⟨a, v, rfl, ha, q⟩ := h
    exact ⟨_, pss_one (ps_ost (pv 0) (pv 1)), _, rfl, _, rfl, a, C, rfl, T.ox, T.no, .inl ⟨ha, fun d nd ne => q d nd ne⟩⟩
theorem scECa : FnScope ["self", "index"] ["self", "index"] (defScope s_InvalidCalls___init__) := ⟨rfl, rfl, rfl, by decide +kernel, rfl, by decide +kernel, by decide +kernel⟩
theorem ok_eCa {f C fI : Addr} {fd : FuncData} (F : Fun K "__init__" "InvalidCalls.__init__" s_InvalidCalls___init__ f fd) (T : ErrC K mg "InvalidCalls" "index" C fI) : FnOk P w K mg base CX0 1 f fd ["self", "index"] (spErr C "index") := by
  refine F.ok scECa (fun vs H Q E h => ?_) (fun cdv A outer s H vs Q E hr h => ?_)
  · obtain ⟨a, v, rfl, _⟩ := h
    rfl
  · obtain ⟨a, v, rfl, ha, q⟩ := h
    exact ⟨_, pss_one (ps_ost (pv 0) (pv 1)), _, rfl, _, rfl, a, C, rfl, T.ox, T.no, .inl ⟨ha, fun d nd ne => q d nd ne⟩⟩
theorem scEVi : FnScope ["self", "index"] ["self", "index"] (defScope s_InvalidViews___init__) := ⟨rfl, rfl, rfl, by decide +kernel, rfl, by decide +kernel, by decide +kernel⟩
theorem ok_eVi {f C fI : Addr} {fd : FuncData} (F : Fun K "__init__" "InvalidViews.__init__" s_InvalidViews___init__ f fd) (T : ErrC K mg "InvalidViews" "index" C fI) : FnOk P w K mg base CX0 1 f fd ["self", "index"] (spErr C "index") := by
  refine F.ok scEVi (fun vs H Q E h => ?_) (fun cdv A outer s H vs Q E hr h => ?_)
  · obtain ⟨a, v, rfl, _⟩ := h
    rfl
  · obtain ⟨a, v, rfl, ha, q⟩ := h
    exact ⟨_, pss_one (ps_ost (pv 0) (pv 1)), _, rfl, _, rfl, a, C, rfl, T.ox, T.no, .inl ⟨ha, fun d nd ne => q d nd ne⟩⟩
end
/-! ### is_field, of any value -/
def fieldV : V → Bool
  | .str z => nameB z && fieldB z
  | _ => false
def spIsFieldV : Sp := fun vs H Q _ => ∃ v : V, vs = [v] ∧ VOk H v ∧ ∀ H', Same H H' → Q (.bl (fieldV v)) H'
section
variable {w : World} {P : Program} {base : Heap} {mg : Str → Option Value} {K : PySem.W.Frag} {aS : Addr}
theorem fieldV_no {v : V} (h : nameV v = false) : fieldV v = false := by
  cases v with
  | str z => show (nameB z && fieldB z) = false; rw [show nameB z = false from h]; rfl
  | _ => rfl
theorem ok_isfieldV {f fN : Addr} {fd : FuncData} (F : Fun K "is_field" "is_field" sIsField f fd) (G : Gf K mg aS) (hN : Has P w K mg base CX0 1 "is_name" fN ["value"] spIsName) : FnOk P w K mg base CX0 2 f fd ["value"] spIsFieldV := by
  obtain ⟨tg, hg⟩ := G.gv
  obtain ⟨tn, hn⟩ := G.nn
  refine F.ok scIsField (fun vs H Q E h => ?_) (fun cdv A outer s H vs Q E hr h => ?_)
  · obtain ⟨z, rfl, _⟩ := h
    rfl
  · obtain ⟨v, rfl, vo, q⟩ := h
    refine ⟨_, pss_one (ps_ret (pe_and (pe_has hN hr (by rfl) pass0 (pa_cons (pv 0) pa_nil)) (pe_one (pe_cmpR op_notIn_seq (pv 0) (pe_tup (pa_cons (pe_glob (v := .str tGiven) (by rfl) hg ⟨_, rfl⟩) (pa_cons (pe_glob (v := .str tNone) (by rfl) hn ⟨_, rfl⟩) pa_nil))) (by rfl))))), ?_⟩
    refine ⟨_, rfl, _, rfl, vo, _, rfl, ?_⟩
    cases e : nameV v with
    | false =>
      have z2 := q H (Same.refl H)
      rw [fieldV_no e] at z2
      exact iteF z2
    | true =>
      obtain ⟨z, rfl⟩ : ∃ z, v = .str z := by
        cases v with
        | str z => exact ⟨z, rfl⟩
        | _ => cases e
      refine iteT ⟨_, rfl, (by show 2 ≤ sizeLine; decide), fun a na => ⟨a, _, rfl, .inr (SqT.of upd_same), rfl, rfl, ?_⟩⟩
      have z2 : (!inV (.str z) [V.str tGiven, V.str tNone]) = fieldV (.str z) := by
        have := inV_mem z [tGiven, tNone]
        show (!inV (.str z) ([tGiven, tNone].map V.str)) = (nameB z && fieldB z)
        rw [this, show nameB z = true from e]
        unfold fieldB
        by_cases h1 : z = tGiven <;> by_cases h2 : z = tNone <;> simp [h1, h2]
      rw [z2]
      exact q _ (same_upd na)
end
/-! ### what are no names of fields or of modes -/
/-- a value that is no tuple -/
inductive NoTup (H : Hp) : V → Prop
  | non : NoTup H .non
  | str (z : Str) : NoTup H (.str z)
  | lst {a : Addr} {zs : List Str} (h : H a = some (.lst (zs.map V.str))) : NoTup H (.ref a)
theorem NoTup.same {H H' : Hp} {v : V} (s : Same H H') (h : NoTup H v) : NoTup H' v := by
  cases h with
  | non => exact .non
  | str z => exact .str z
  | lst h => exact .lst (s _ _ h)
theorem NoTup.ty {K : PySem.W.Frag} {H : Hp} {v : V} (h : NoTup H v) : ∃ t, TyX K H v (.type t) ∧ PySem.W.kitOne K (.type t) (.type "tuple") = some false := by
  cases h with
  | non => exact ⟨_, .base .non, kit_ty (by decide +kernel)⟩
  | str z => exact ⟨_, .base (.str z), kit_ty (by decide +kernel)⟩
  | lst h => exact ⟨_, .base (.lst h), kit_ty (by decide +kernel)⟩
/-- a value among the names that is none, or one of the names -/
inductive BdU (H : Hp) : V → Prop
  | non : BdU H .non
  | bl (b : Bool) : BdU H (.bl b)
  | int (i : Int) : BdU H (.int i)
  | str (z : Str) (h : z.length ≤ sizeLine) : BdU H (.str z)
  | lst {a : Addr} (h : H a = some (.lst [])) : BdU H (.ref a)
  | tup {a : Addr} {xs : List V} (h : H a = some (.tup xs)) : BdU H (.ref a)
  | dK {a : Addr} (h : H a = some (.dK [])) : BdU H (.ref a)
theorem BdU.vok {H : Hp} {v : V} (h : BdU H v) : VOk H v := by
  cases h with
  | non => exact .inr .non
  | bl b => exact .inr (.bl b)
  | int i => exact .inr (.int i)
  | str z h => exact .inl ⟨z, rfl, h⟩
  | lst h => exact .inr (.lst h)
  | tup h => exact .inr (.tup h)
  | dK h => exact .inr (.dK h)
theorem BdU.same {H H' : Hp} {v : V} (s : Same H H') (h : BdU H v) : BdU H' v := by
  cases h with
  | non => exact .non
  | bl b => exact .bl b
  | int i => exact .int i
  | str z h => exact .str z h
  | lst h => exact .lst (s _ _ h)
  | tup h => exact .tup (s _ _ h)
  | dK h => exact .dK (s _ _ h)
/-- 1 to 4 different good names -/
structure GoodNs (good : V → Bool) (H : Hp) (v : V) (zs : List Str) : Prop where
  at_ : ∃ a, v = .ref a ∧ H a = some (.tup (zs.map V.str))
  l1 : 1 ≤ zs.length
  l4 : zs.length ≤ 4
  ok : ∀ z ∈ zs, good (.str z) = true ∧ nameB z = true
  nd : zs.Nodup
/-- what is none, and the index that is told -/
def BadNs (good : V → Bool) (H : Hp) (v i : V) : Prop := (NoTup H v ∧ i = .non) ∨ (∃ (a : Addr) (xs : List V), v = .ref a ∧ H a = some (.tup xs) ∧ (xs.length = 0 ∨ 4 < xs.length) ∧ xs.length ≤ 100 ∧ i = .non) ∨
  (∃ (a : Addr) (xs : List V) (zs : List Str) (u : V), v = .ref a ∧ H a = some (.tup xs) ∧ 1 ≤ xs.length ∧ xs.length ≤ 4 ∧ xs.take zs.length = zs.map V.str ∧ (∀ z ∈ zs, good (.str z) = true ∧ nameB z = true) ∧ zs.Nodup ∧ xs[zs.length]? = some u ∧ BdU H u ∧ (good u = false ∨ ∃ z ∈ zs, u = .str z) ∧ i = .int zs.length)
theorem BadNs.same {good : V → Bool} {H H' : Hp} {v i : V} (s : Same H H') (h : BadNs good H v i) : BadNs good H' v i := by
  rcases h with ⟨a, b⟩ | ⟨a, xs, e, h, l⟩ | ⟨a, xs, zs, u, e, h, l1, l2, h1, h2, h3, h4, h5, h6⟩
  · exact .inl ⟨a.same s, b⟩
  · exact .inr (.inl ⟨a, xs, e, s _ _ h, l⟩)
  · exact .inr (.inr ⟨a, xs, zs, u, e, s _ _ h, l1, l2, h1, h2, h3, h4, h5.same s, h6⟩)
end K1

namespace K1
open PySem PySem.Spec
open PyProof.Rows L2 EnT StX SmX TxS DuX ClX
/-! ### check_fields, check_modes -/
theorem cut_take {xs : List V} {k : Nat} (h : k ≤ xs.length) : cutV xs none (some (k : Int)) = xs.take k := by
  unfold cutV
  rw [HT.sIx_none, HT.sIx_nat, Nat.min_eq_left h]
  rfl
/-- names that are good, or an error with the index -/
def spNsE (good : V → Bool) (C : Addr) : Sp := fun vs H Q E => ∃ v : V, vs = [v] ∧ ((∃ zs, GoodNs good H v zs ∧ ∀ H', Same H H' → Q .non H') ∨ ∃ i, BadNs good H v i ∧ ErrAt C "index" i H E)
abbrev nmCF : List Str := ["fields", "at", "field"]
section
variable {w : World} {P : Program} {base : Heap} {mg : Str → Option Value} {K : PySem.W.Frag} {aS CF CM : Addr}
theorem scCF : FnScope nmCF ["fields"] (defScope sChkFi) := ⟨rfl, rfl, rfl, by decide +kernel, rfl, by decide +kernel, by decide +kernel⟩
theorem ok_chkFi {f fI fE : Addr} {fd fdE : FuncData} (F : Fun K "check_fields" "check_fields" sChkFi f fd) (G : Gf K mg aS) (hm : ∃ t, mg "MOST_FIELDS" = some (.int 4 t)) (hI : Has P w K mg base CX0 2 "is_field" fI ["value"] spIsFieldV) (EF : ErrC K mg "InvalidFields" "index" CF fE) (FE : Fun K "__init__" "InvalidFields.__init__" s_InvalidFields___init__ fE fdE) :
    FnOk P w K mg base (L2.CX P w) 4 f fd ["fields"] (spNsE fieldV CF) := by
  have T := G.T
  obtain ⟨tm, hm⟩ := hm
  have bE : Binds K fdE ["self", "index"] [] := FE.binds (ps := ["self", "index"]) fun _ _ _ _ _ _ us hl => match us, hl with | [_, _], _ => rfl
  have GE : FnOk P w K mg base CX0 1 fE fdE ["self", "index"] (spErr CF "index") := ok_eFi FE EF
  refine F.okX scCF (fun vs H Q E h => ?_) (fun cdv A outer s H vs Q E hr h => ?_)
  · obtain ⟨v, rfl, _⟩ := h
    rfl
  · obtain ⟨v, rfl, h⟩ := h
    refine ⟨_, pss_cons (ps_if (PW.pt (pw_or (pt_not (pt_val (pe_callB call_isi (by rfl) T.isinstance (by decide +kernel) (pa_cons (pv 0) (pa_cons (pe_bltn (v := .ty "tuple") (u := .type "tuple") (by rfl) T.tuple (by decide +kernel) rfl) pa_nil))))) (pw_or1 (pt_not (pt_chain op_le op_le pe_int (pe_callB call_len_seq (by rfl) T.len PySem.boot_len (pa_cons (pv 0) pa_nil)) (pe_glob (v := .int 4) (by rfl) hm ⟨_, rfl⟩))))))
        (pss_one (ps_raise rfl (takes_of rfl rfl rfl rfl) (pmk_oex EF.ox EF.ini EF.ty GE (hr.mono (by decide)) bE .nil pass0 rfl EF.g (pa_cons pe_non pa_nil)))) pss_nil)
      (pss_one (ps_for (passes_of rfl) rfl (pi_enumT (by rfl) T.enumerate (pa_cons (pv 0) pa_nil)) (pg_tup rfl (pgs_cons (pg_name (i := 1) scCF.nd rfl (.inl rfl)) (pgs_cons (pg_name (i := 2) scCF.nd rfl (.inl rfl)) pgs_nil)))
        (pss_one (ps_if (PW.pt (pw_or (pt_not (pt_val (pe_has hI (hr.mono (by decide)) (by rfl) pass0 (pa_cons (pv 2) pa_nil)))) (pw_or1 (pt_cmpR op_in_seq (pv 2) (pe_slice sl_tup (pv 0) po_none (po_some (pv 1))) (by rfl)))))
            (pss_one (ps_raise rfl (takes_of rfl rfl rfl rfl) (pmk_oex EF.ox EF.ini EF.ty GE (hr.mono (by decide)) bE .nil pass0 rfl EF.g (pa_cons (pv 1) pa_nil)))) pss_nil)))), ?_⟩
    have D : (NoTup H v ∧ ErrAt CF "index" .non H E) ∨ (∃ (a : Addr) (xs : List V), v = .ref a ∧ H a = some (.tup xs) ∧ (xs.length = 0 ∨ 4 < xs.length) ∧ xs.length ≤ 100 ∧ ErrAt CF "index" .non H E) ∨
        (∃ (a : Addr) (xs : List V) (zs : List Str), v = .ref a ∧ H a = some (.tup xs) ∧ 1 ≤ xs.length ∧ xs.length ≤ 4 ∧ xs.take zs.length = zs.map V.str ∧ (∀ z ∈ zs, fieldV (.str z) = true ∧ nameB z = true) ∧ zs.Nodup ∧ zs.length ≤ xs.length ∧
          ((zs.length = xs.length ∧ ∀ H', Same H H' → Q .non H') ∨ ∃ u, xs[zs.length]? = some u ∧ VOk H u ∧ (fieldV u = false ∨ ∃ z ∈ zs, u = .str z) ∧ ErrAt CF "index" (.int zs.length) H E)) := by
      rcases h with ⟨zs, g, q⟩ | ⟨i, b, qE⟩
      · obtain ⟨a, rfl, ha⟩ := g.at_
        exact .inr (.inr ⟨a, _, zs, rfl, ha, by rw [List.length_map]; exact g.l1, by rw [List.length_map]; exact g.l4, List.take_of_length_le (by rw [List.length_map]; exact Nat.le_refl _), g.ok, g.nd, by rw [List.length_map]; exact Nat.le_refl _, .inl ⟨by rw [List.length_map], q⟩⟩)
      · rcases b with ⟨n, rfl⟩ | ⟨a, xs, e, ha, l, l2, rfl⟩ | ⟨a, xs, zs, u, e, ha, l1, l2, h1, h2, h3, h4, h5, h6, rfl⟩
        · exact .inl ⟨n, qE⟩
        · exact .inr (.inl ⟨a, xs, e, ha, l, l2, qE⟩)
        · exact .inr (.inr ⟨a, xs, zs, e, ha, l1, l2, h1, h2, h3, by have := (List.getElem?_eq_some_iff.mp h4).1; omega, .inr ⟨u, h4, h5.vok, h6, qE⟩⟩)
    rcases D with ⟨n, qE⟩ | ⟨a, xs, rfl, ha, l, l2, qE⟩ | ⟨a, xs, zs, rfl, ha, l1, l4, ht, hz, nd, lz, q⟩
    · obtain ⟨t, tx, no⟩ := n.ty (K := K)
      exact ⟨_, rfl, _, _, _, _, false, rfl, .ty _, tx, no, false, rfl, iteT (iteT (rz_err qE))⟩
    · refine ⟨_, rfl, _, _, _, _, true, rfl, .ty _, .base (.tup ha), kit_ty (by decide +kernel), true, rfl, iteF ?_⟩
      refine ⟨_, rfl, a, _, rfl, .inr (SqT.of ha), ?_⟩
      refine ⟨_, _, rfl, rfl, _, rfl, ?_⟩
      rcases l with l | l
      · rw [show decide ((1 : Int) ≤ (xs.length : Int)) = false from decide_eq_false (by omega), if_neg (by decide)]
        exact ⟨_, rfl, iteT (rz_err qE)⟩
      · rw [show decide ((1 : Int) ≤ (xs.length : Int)) = true from decide_eq_true (by omega), if_pos rfl]
        refine ⟨_, _, rfl, rfl, _, rfl, ?_⟩
        rw [show decide ((xs.length : Int) ≤ 4) = false from decide_eq_false (by omega)]
        exact iteT (rz_err qE)
    · refine ⟨_, rfl, _, _, _, _, true, rfl, .ty _, .base (.tup ha), kit_ty (by decide +kernel), true, rfl, iteF ?_⟩
      refine ⟨_, rfl, a, _, rfl, .inr (SqT.of ha), ?_⟩
      refine ⟨_, _, rfl, rfl, _, rfl, ?_⟩
      rw [show decide ((1 : Int) ≤ (xs.length : Int)) = true from decide_eq_true (by omega), if_pos rfl]
      refine ⟨_, _, rfl, rfl, _, rfl, ?_⟩
      rw [show decide ((xs.length : Int) ≤ 4) = true from decide_eq_true (by omega)]
      refine iteF ?_
      refine ⟨_, rfl, a, xs, rfl, SqT.of ha, ?_⟩
      refine for_it (walk_enumT (xs := xs)) (fun i σ H' => Same H H' ∧ i ≤ zs.length ∧ ∃ o1 o2 : Option V, σ = [some (.ref a), o1, o2]) ?_ ?_ ?_ ?_
      · exact ⟨Same.refl H, Nat.zero_le _, none, none, rfl⟩
      · rintro i σ H' hi ⟨sm, _⟩
        exact SqT.of (sm _ _ ha)
      · rintro i x σ H1 H2 hi ⟨sm, le, o1, o2, rfl⟩ ⟨t, y1, y2, rfl, nt, rfl, e1, e2⟩
        cases e1
        refine ⟨t, _, rfl, SqT.of upd_same, rfl, _, _, rfl, _, _, rfl, rfl, ?_⟩
        have sm2 : Same H (upd H1 t (.tup [.int (i : Nat), y2])) := sm.trans (same_upd nt)
        generalize (upd H1 t (.tup [.int (i : Nat), y2])) = H2 at sm2 ⊢
        have e2 : xs[i]? = some y2 := e2
        have ix : i < xs.length := (List.getElem?_eq_some_iff.mp e2).1
        -- what stands ahead
        have sl : ∀ (H3 : Hp) (z : Str) (Q' : VK), Same H H3 → y2 = .str z → (∀ H4, Same H3 H4 → Q' (.bl (decide (z ∈ zs.take i))) H4) → tSl (rSlT K) (tVar 0) tNoPart (tPart (tVar 1)) [some (.ref a), some (.int (i : Nat)), some y2] H3 fun s H4 => rIn K false y2 s H4 Q' := by
          intro H3 z Q' s3 ez q'
          subst ez
          refine ⟨_, rfl, _, rfl, _, rfl, a, xs, rfl, SqT.of (s3 _ _ ha), ?_, fun p np => ?_⟩
          · rw [HT.sIx_nat]
            omega
          · rw [cut_take (Nat.le_of_lt ix)]
            have et : xs.take i = (zs.take i).map V.str := by
              have : (xs.take zs.length).take i = (zs.map V.str).take i := by rw [ht]
              rw [List.take_take, Nat.min_eq_left le, ← List.map_take] at this
              exact this
            rw [et]
            refine ⟨p, _, rfl, .inr (SqT.of upd_same), rfl, strs_flat _, ?_⟩
            rw [inV_mem]
            exact q' _ (same_upd np)
        by_cases hlt : i < zs.length
        · obtain ⟨z, ez⟩ : ∃ z, zs[i]? = some z := ⟨zs[i], by rw [List.getElem?_eq_getElem hlt]⟩
          have e3 : xs[i]? = some (.str z) := by
            have : (xs.take zs.length)[i]? = (zs.map V.str)[i]? := by rw [ht]
            rw [List.getElem?_take, if_pos hlt, List.getElem?_map, ez] at this
            exact this
          rw [e3] at e2
          cases e2
          obtain ⟨gz, nz⟩ := hz z (List.mem_iff_getElem?.mpr ⟨i, ez⟩)
          have zn : z ∉ zs.take i := fun hm => take_nodup_none nd ez hm
          refine ⟨_, rfl, _, rfl, .inl ⟨z, rfl, name_line nz⟩, fun H3 s3 => ⟨_, rfl, ?_⟩⟩
          rw [gz]
          refine iteF ?_
          refine ⟨_, rfl, sl H3 z _ (sm2.trans s3) rfl fun H4 s4 => ?_⟩
          rw [decide_eq_false zn]
          refine ⟨_, rfl, iteF ?_⟩
          exact ⟨(sm2.trans s3).trans s4, hlt, _, _, rfl⟩
        · have ei : i = zs.length := by omega
          subst ei
          rcases q with ⟨e3, _⟩ | ⟨u, eu, vo, bad, qE⟩
          · omega
          rw [eu] at e2
          cases e2
          refine ⟨_, rfl, _, rfl, vo.same sm2, fun H3 s3 => ⟨_, rfl, ?_⟩⟩
          have s23 := sm2.trans s3
          rcases bad with bad | ⟨z, hm, rfl⟩
          · rw [bad]
            exact iteT (iteT ⟨_, rfl, rz_err (qE.same s23)⟩)
          · rw [(hz z hm).1]
            refine iteF ?_
            refine ⟨_, rfl, sl H3 z _ s23 rfl fun H4 s4 => ?_⟩
            rw [List.take_length, decide_eq_true hm]
            exact ⟨_, rfl, iteT ⟨_, rfl, rz_err (qE.same (s23.trans s4))⟩⟩
      · rintro σ H' ⟨sm, le, o1, o2, rfl⟩
        rcases q with ⟨e3, q⟩ | ⟨u, eu, _⟩
        · exact q H' sm
        · have := (List.getElem?_eq_some_iff.mp eu).1
          omega
theorem scCM : FnScope ["modes", "at"] ["modes"] (defScope sChkMo) := ⟨rfl, rfl, rfl, by decide +kernel, rfl, by decide +kernel, by decide +kernel⟩
theorem ok_chkMo {f fW fE : Addr} {fd fdE : FuncData} (F : Fun K "check_modes" "check_modes" sChkMo f fd) (T : Free mg) (hm : ∃ t, mg "MOST_MODES" = some (.int 4 t)) (hW : Has P w K mg base CX0 2 "wrong_or_twice_at" fW ["values"] (spWT K)) (EM : ErrC K mg "InvalidModes" "index" CM fE) (FE : Fun K "__init__" "InvalidModes.__init__" s_InvalidModes___init__ fE fdE) :
    FnOk P w K mg base (L2.CX P w) 4 f fd ["modes"] (spNsE nameV CM) := by
  obtain ⟨tm, hm⟩ := hm
  have bE : Binds K fdE ["self", "index"] [] := FE.binds (ps := ["self", "index"]) fun _ _ _ _ _ _ us hl => match us, hl with | [_, _], _ => rfl
  have GE : FnOk P w K mg base CX0 1 fE fdE ["self", "index"] (spErr CM "index") := ok_eMo FE EM
  refine F.okX scCM (fun vs H Q E h => ?_) (fun cdv A outer s H vs Q E hr h => ?_)
  · obtain ⟨v, rfl, _⟩ := h
    rfl
  · obtain ⟨v, rfl, h⟩ := h
    refine ⟨_, pss_cons (ps_if (PW.pt (pw_or (pt_not (pt_val (pe_callB call_isi (by rfl) T.isinstance (by decide +kernel) (pa_cons (pv 0) (pa_cons (pe_bltn (v := .ty "tuple") (u := .type "tuple") (by rfl) T.tuple (by decide +kernel) rfl) pa_nil))))) (pw_or1 (pt_not (pt_chain op_le op_le pe_int (pe_callB call_len_seq (by rfl) T.len PySem.boot_len (pa_cons (pv 0) pa_nil)) (pe_glob (v := .int 4) (by rfl) hm ⟨_, rfl⟩))))))
        (pss_one (ps_raise rfl (takes_of rfl rfl rfl rfl) (pmk_oex EM.ox EM.ini EM.ty GE (hr.mono (by decide)) bE .nil pass0 rfl EM.g (pa_cons pe_non pa_nil)))) pss_nil)
      (pss_cons (ps_set (i := 1) scCM.nd rfl (.inl rfl) (pe_has hW (hr.mono (by decide)) (by rfl) pass0 (pa_cons (pv 0) pa_nil)))
      (pss_one (ps_if (pt_cmp (pc_notN (pv 1)))
            (pss_one (ps_raise rfl (takes_of rfl rfl rfl rfl) (pmk_oex EM.ox EM.ini EM.ty GE (hr.mono (by decide)) bE .nil pass0 rfl EM.g (pa_cons (pv 1) pa_nil)))) pss_nil))), ?_⟩
    have D : (NoTup H v ∧ ErrAt CM "index" .non H E) ∨ (∃ (a : Addr) (xs : List V), v = .ref a ∧ H a = some (.tup xs) ∧ (xs.length = 0 ∨ 4 < xs.length) ∧ xs.length ≤ 100 ∧ ErrAt CM "index" .non H E) ∨
        (∃ (a : Addr) (xs : List V) (zs : List Str), v = .ref a ∧ H a = some (.tup xs) ∧ 1 ≤ xs.length ∧ xs.length ≤ 4 ∧ xs.take zs.length = zs.map V.str ∧ (∀ z ∈ zs, nameV (.str z) = true ∧ nameB z = true) ∧ zs.Nodup ∧ zs.length ≤ xs.length ∧
          ((zs.length = xs.length ∧ ∀ H', Same H H' → Q .non H') ∨ ∃ u, xs[zs.length]? = some u ∧ VOk H u ∧ (nameV u = false ∨ ∃ z ∈ zs, u = .str z) ∧ ErrAt CM "index" (.int zs.length) H E)) := by
      rcases h with ⟨zs, g, q⟩ | ⟨i, b, qE⟩
      · obtain ⟨a, rfl, ha⟩ := g.at_
        exact .inr (.inr ⟨a, _, zs, rfl, ha, by rw [List.length_map]; exact g.l1, by rw [List.length_map]; exact g.l4, List.take_of_length_le (by rw [List.length_map]; exact Nat.le_refl _), g.ok, g.nd, by rw [List.length_map]; exact Nat.le_refl _, .inl ⟨by rw [List.length_map], q⟩⟩)
      · rcases b with ⟨n, rfl⟩ | ⟨a, xs, e, ha, l, l2, rfl⟩ | ⟨a, xs, zs, u, e, ha, l1, l2, h1, h2, h3, h4, h5, h6, rfl⟩
        · exact .inl ⟨n, qE⟩
        · exact .inr (.inl ⟨a, xs, e, ha, l, l2, qE⟩)
        · exact .inr (.inr ⟨a, xs, zs, e, ha, l1, l2, h1, h2, h3, by have := (List.getElem?_eq_some_iff.mp h4).1; omega, .inr ⟨u, h4, h5.vok, h6, qE⟩⟩)
    rcases D with ⟨n, qE⟩ | ⟨a, xs, rfl, ha, l, l2, qE⟩ | ⟨a, xs, zs, rfl, ha, l1, l4, ht, hz, nd, lz, q⟩
    · obtain ⟨t, tx, no⟩ := n.ty (K := K)
      exact ⟨_, rfl, _, _, _, _, false, rfl, .ty _, tx, no, false, rfl, iteT (iteT (rz_err qE))⟩
    · refine ⟨_, rfl, _, _, _, _, true, rfl, .ty _, .base (.tup ha), kit_ty (by decide +kernel), true, rfl, iteF ?_⟩
      refine ⟨_, rfl, a, _, rfl, .inr (SqT.of ha), ?_⟩
      refine ⟨_, _, rfl, rfl, _, rfl, ?_⟩
      rcases l with l | l
      · rw [show decide ((1 : Int) ≤ (xs.length : Int)) = false from decide_eq_false (by omega), if_neg (by decide)]
        exact ⟨_, rfl, iteT (rz_err qE)⟩
      · rw [show decide ((1 : Int) ≤ (xs.length : Int)) = true from decide_eq_true (by omega), if_pos rfl]
        refine ⟨_, _, rfl, rfl, _, rfl, ?_⟩
        rw [show decide ((xs.length : Int) ≤ 4) = false from decide_eq_false (by omega)]
        exact iteT (rz_err qE)
    · refine ⟨_, rfl, _, _, _, _, true, rfl, .ty _, .base (.tup ha), kit_ty (by decide +kernel), true, rfl, iteF ?_⟩
      refine ⟨_, rfl, a, _, rfl, .inr (SqT.of ha), ?_⟩
      refine ⟨_, _, rfl, rfl, _, rfl, ?_⟩
      rw [show decide ((1 : Int) ≤ (xs.length : Int)) = true from decide_eq_true (by omega), if_pos rfl]
      refine ⟨_, _, rfl, rfl, _, rfl, ?_⟩
      rw [show decide ((xs.length : Int) ≤ 4) = true from decide_eq_true (by omega)]
      refine iteF ?_
      refine ⟨_, rfl, a, xs, zs, rfl, SqT.of ha, by omega, ht, fun z hm => (hz z hm).2, nd, ?_⟩
      rcases q with ⟨e3, q⟩ | ⟨u, eu, vo, bad, qE⟩
      · refine .inl ⟨e3, fun H' s => ?_⟩
        exact ⟨_, rfl, false, rfl, iteF (q _ s)⟩
      · refine .inr ⟨u, eu, vo, ?_, fun H' s => ?_⟩
        · rcases bad with bad | ⟨z, hm, rfl⟩
          · exact .inl bad
          · exact .inr ⟨z, hm, rfl, (hz z hm).2⟩
        · exact ⟨_, rfl, true, rfl, iteT ⟨_, rfl, rz_err (qE.same s)⟩⟩
end
end K1

namespace K1
open PySem PySem.Spec
open PyProof.Rows L2 EnT StX SmX TxS DuX ClX
/-! ### is_tuple_of; is_form_of, of a name -/
def spTupOf : Sp := fun vs H Q _ => ∃ (a : Addr) (xs : List V) (n : Nat), vs = [.ref a, .int n] ∧ H a = some (.tup xs) ∧ xs.length ≤ 100 ∧ Q (.bl (decide (xs.length = n))) H
def spFormOf : Sp := fun vs H Q _ => ∃ (z : Str) (a : Addr) (ws : List Str), vs = [.str z, .ref a] ∧ H a = some (.tup (ws.map V.str)) ∧ z ∈ ws ∧ nameB z = true ∧ ∀ H', Same H H' → Q (.bl true) H'
abbrev nmFO : List Str := ["value", "names", "leaves", "parts", "part", "level"]
section
variable {w : World} {P : Program} {base : Heap} {mg : Str → Option Value} {K : PySem.W.Frag} {aS : Addr}
theorem scTO : FnScope ["value", "many"] ["value", "many"] (defScope sTupOf) := ⟨rfl, rfl, rfl, by decide +kernel, rfl, by decide +kernel, by decide +kernel⟩
theorem ok_tupof {f : Addr} {fd : FuncData} (F : Fun K "is_tuple_of" "is_tuple_of" sTupOf f fd) (T : Free mg) : FnOk P w K mg base CX0 1 f fd ["value", "many"] spTupOf := by
  refine F.ok scTO (fun vs H Q E h => ?_) (fun cdv A outer s H vs Q E hr h => ?_)
  · obtain ⟨a, xs, n, rfl, _⟩ := h
    rfl
  · obtain ⟨a, xs, n, rfl, ha, hl, q⟩ := h
    refine ⟨_, pss_one (ps_ret (pe_and (pe_callB call_isi (by rfl) T.isinstance (by decide +kernel) (pa_cons (pv 0) (pa_cons (pe_bltn (v := .ty "tuple") (u := .type "tuple") (by rfl) T.tuple (by decide +kernel) rfl) pa_nil))) (pe_one (pe_cmpR op_eq (pe_callB call_len_seq (by rfl) T.len PySem.boot_len (pa_cons (pv 0) pa_nil)) (pv 1) (nomark _))))), ?_⟩
    refine ⟨_, rfl, _, _, _, _, true, rfl, .ty _, .base (.tup ha), kit_ty (by decide +kernel), true, rfl, iteT ?_⟩
    refine ⟨_, rfl, a, _, rfl, .inr (SqT.of ha), _, rfl, ?_⟩
    refine ⟨rfl, ?_⟩
    have e : decide (V.int (xs.length : Nat) = V.int (n : Nat)) = decide (xs.length = n) := by
      by_cases h : xs.length = n
      · rw [decide_eq_true h, h]
        exact decide_eq_true rfl
      · rw [decide_eq_false h]
        exact decide_eq_false fun k => h (by injection k with k; omega)
    rw [e]
    exact q
theorem same_none {H H' : Hp} {p : Addr} (s : Same H H') (n : H' p = none) : H p = none := by
  cases hh : H p with
  | none => rfl
  | some o =>
    rw [s _ _ hh] at n
    cases n
theorem scFO : FnScope nmFO ["value", "names"] (defScope sFormOf) := ⟨rfl, rfl, rfl, by decide +kernel, rfl, by decide +kernel, by decide +kernel⟩
theorem ok_formof {f fT : Addr} {fd : FuncData} (F : Fun K "is_form_of" "is_form_of" sFormOf f fd) (G : Gf K mg aS) (hT : Has P w K mg base CX0 1 "is_triple" fT ["value"] spTriple) : FnOk P w K mg base CX0 2 f fd ["value", "names"] spFormOf := by
  have T := G.T
  obtain ⟨tl, hl⟩ := G.ml
  obtain ⟨td, hd⟩ := G.md
  refine F.ok scFO (fun vs H Q E h => ?_) (fun cdv A outer s H vs Q E hr h => ?_)
  · obtain ⟨z, a, ws, rfl, _⟩ := h
    rfl
  · obtain ⟨z, a, ws, rfl, ha, hz, nz, q⟩ := h
    refine ⟨_, pss_cons (ps_set (i := 2) scFO.nd rfl (.inl rfl) pe_int)
      (pss_cons (ps_set (i := 3) scFO.nd rfl (.inl rfl) (pe_lst (pa_cons (pe_tup (pa_cons (pv 0) (pa_cons pe_int pa_nil))) pa_nil)))
      (pss_cons (ps_while PassesOwn.never (pt_truth (pv 3) (by intro _; rfl))
        (pss_cons (ps_asg (pe_bm0 PySem.F.plainAttrs_list PySem.F.slot_list_pop PySem.F.type_list_pop mt_pop (pv 3)) (pg_tup rfl (pgs_cons (pg_name (i := 4) scFO.nd rfl (.inl rfl)) (pgs_cons (pg_name (i := 5) scFO.nd rfl (.inr rfl)) pgs_nil))))
        (pss_cons (ps_if (pt_cmpR op_gt (pv 5) (pe_glob (v := .int 20) (by rfl) hd ⟨_, rfl⟩) (nomark _)) (pss_one (ps_ret pe_bl)) pss_nil)
        (pss_one (ps_if (pt_val (pe_has hT (hr.mono (by decide)) (by rfl) pass0 (pa_cons (pv 4) pa_nil))) pss_never
          (pss_one (ps_if (PW.pt (pw_and (pt_cmpR op_in_seq (pv 4) (pv 1) (by rfl)) (pw_and1 (pt_cmpR op_lt (pv 2) (pe_glob (v := .int 200) (by rfl) hl ⟨_, rfl⟩) (nomark _)))))
            (pss_one (ps_set (i := 2) scFO.nd rfl (.inl rfl) (pe_op op_add (pv 2) pe_int))) (pss_one (ps_ret pe_bl)))))))))
      (pss_one (ps_ret pe_bl)))), ?_⟩
    refine ⟨_, rfl, (by show 2 ≤ sizeLine; decide), fun a1 n1 => ⟨(by show 1 ≤ sizeLine; decide), fun L nL => ?_⟩⟩
    have s1 : Same H (upd H a1 (.tup [.str z, .int 1])) := same_upd n1
    have h1 : (upd H a1 (.tup [.str z, .int 1])) a1 = some (.tup [.str z, .int 1]) := upd_same
    generalize upd H a1 (.tup [.str z, .int 1]) = H1 at s1 h1 nL ⊢
    have nL0 : H L = none := same_none s1 nL
    have s2 := s1.trans (same_upd (o := .lst [.ref a1]) nL)
    have h2 := (same_upd (o := .lst [.ref a1]) nL) _ _ h1
    have hL : (upd H1 L (.lst [.ref a1])) L = some (.lst [.ref a1]) := upd_same
    generalize upd H1 L (.lst [.ref a1]) = H2 at s2 h2 hL ⊢
    refine ⟨fun m σ H' => ∃ (c : Int) (x4 x5 : Option V), σ = [some (.str z), some (.ref a), some (.int c), some (.ref L), x4, x5] ∧ Same H H' ∧ ((m = 1 ∧ c = 0 ∧ H' L = some (.lst [.ref a1]) ∧ H' a1 = some (.tup [.str z, .int 1])) ∨ (m = 0 ∧ H' L = some (.lst []))), ⟨1, 0, none, none, rfl, s2, .inl ⟨rfl, rfl, hL, h2⟩⟩, ?_⟩
    rintro m σ1 H3 ⟨c, x4, x5, rfl, s3, ⟨rfl, rfl, hL, h2⟩ | ⟨rfl, hL⟩⟩
    · refine ⟨_, rfl, _, .inl ⟨_, SqL.of hL, rfl⟩, ?_⟩
      refine iteT ⟨fun σ' H' => ∃ m', m' < 1 ∧ ∃ (c : Int) (x4 x5 : Option V), σ' = [some (.str z), some (.ref a), some (.int c), some (.ref L), x4, x5] ∧ Same H H' ∧ ((m' = 1 ∧ c = 0 ∧ H' L = some (.lst [.ref a1]) ∧ H' a1 = some (.tup [.str z, .int 1])) ∨ (m' = 0 ∧ H' L = some (.lst []))), fun σ' H' h => h, ?_⟩
      refine ⟨_, rfl, .inl ⟨rfl, _, SqL.of hL⟩, L, [.ref a1], .ref a1, rfl, rfl, hL, by simp, ?_⟩
      have s4 : Same H (upd H3 L (.lst ([V.ref a1].dropLast))) := same_set s3 nL0
      have ne : a1 ≠ L := fun e => by rw [e, hL] at h2; cases h2
      have h4 : (upd H3 L (.lst ([V.ref a1].dropLast))) a1 = some (.tup [.str z, .int 1]) := by rw [upd_ne ne]; exact h2
      have hL4 : (upd H3 L (.lst ([V.ref a1].dropLast))) L = some (.lst []) := upd_same
      generalize upd H3 L (.lst ([V.ref a1].dropLast)) = H4 at s4 h4 hL4 ⊢
      refine ⟨a1, _, rfl, SqT.of h4, rfl, _, _, rfl, _, _, rfl, rfl, ?_⟩
      refine ⟨_, rfl, _, _, rfl, rfl, _, rfl, iteF ?_⟩
      refine ⟨_, rfl, _, _, rfl, .leaf z, nz, _, rfl, iteF ?_⟩
      refine ⟨_, rfl, _, rfl, a, _, rfl, .inr (SqT.of (s4 _ _ ha)), rfl, strs_flat _, ?_⟩
      rw [inV_mem, decide_eq_true hz]
      refine ⟨_, rfl, iteT ?_⟩
      refine ⟨_, rfl, _, _, rfl, rfl, _, rfl, iteT ?_⟩
      refine ⟨_, rfl, _, _, rfl, rfl, ?_⟩
      exact ⟨0, by omega, _, _, _, rfl, s4, .inr ⟨rfl, hL4⟩⟩
    · refine ⟨_, rfl, _, .inl ⟨_, SqL.of hL, rfl⟩, ?_⟩
      exact iteF (q _ s3)
end
end K1

namespace K1
open PySem PySem.Spec
open PyProof.Rows L2 EnT StX SmX TxS DuX ClX
/-! ### is_call, is_view; check_calls, check_views -/
abbrev sorts3 : List Str := ["one", "many", "none"]
/-- a call without cases -/
structure CallAt (H : Hp) (v : V) (z s : Str) : Prop where
  at_ : ∃ c e, v = .ref c ∧ H c = some (.tup [.str z, .str s, .ref e]) ∧ H e = some (.tup [])
  nz : nameB z = true
  hs : s ∈ sorts3
theorem CallAt.same {H H' : Hp} {v : V} {z s : Str} (sm : Same H H') (h : CallAt H v z s) : CallAt H' v z s := by
  obtain ⟨⟨c, e, a1, a2, a3⟩, b, d⟩ := h
  exact ⟨⟨c, e, a1, sm _ _ a2, sm _ _ a3⟩, b, d⟩
def spIsCall : Sp := fun vs H Q _ => ∃ (v f m : V) (z s : Str), vs = [v, f, m] ∧ CallAt H v z s ∧ ∀ H', Same H H' → Q (.bl true) H'
/-- a view whose forms are all none, one for each mode -/
structure ViewAt (H : Hp) (v : V) (z : Str) (n : Nat) : Prop where
  at_ : ∃ c e, v = .ref c ∧ H c = some (.tup [.str z, .ref e]) ∧ H e = some (.tup (List.replicate n (.str tNone)))
  nz : nameB z = true
  n4 : n ≤ 4
theorem ViewAt.same {H H' : Hp} {v : V} {z : Str} {n : Nat} (sm : Same H H') (h : ViewAt H v z n) : ViewAt H' v z n := by
  obtain ⟨⟨c, e, a1, a2, a3⟩, b, d⟩ := h
  exact ⟨⟨c, e, a1, sm _ _ a2, sm _ _ a3⟩, b, d⟩
def spIsView : Sp := fun vs H Q _ => ∃ (v : V) (f m : Addr) (fs ms : List Str) (z : Str), vs = [v, .ref f, .ref m] ∧ H f = some (.tup (fs.map V.str)) ∧ fs.length ≤ 4 ∧ H m = some (.tup (ms.map V.str)) ∧ ViewAt H v z ms.length ∧ ∀ H', Same H H' → Q (.bl true) H'
abbrev nmIC : List Str := ["value", "fields", "modes", "name", "sort", "cases", "found", "case"]
abbrev nmIV : List Str := ["value", "fields", "modes", "form"]
/-- the tuple of the sorts -/
structure So (K : PySem.W.Frag) (mg : Str → Option Value) (aT : Addr) : Prop where
  g : mg "SORTS" = some (.ref aT)
  st : ∀ H : Hp, SqT K H aT (sorts3.map V.str)
section
variable {w : World} {P : Program} {base : Heap} {mg : Str → Option Value} {K : PySem.W.Frag} {aS aT : Addr}
theorem scIC : FnScope nmIC ["value", "fields", "modes"] (defScope sIsCall) := ⟨rfl, rfl, rfl, by decide +kernel, rfl, by decide +kernel, by decide +kernel⟩
theorem ok_iscall {f f1 fN : Addr} {fd : FuncData} (F : Fun K "is_call" "is_call" sIsCall f fd) (T : Free mg) (S : So K mg aT) (h1 : Has P w K mg base CX0 1 "is_tuple_of" f1 ["value", "many"] spTupOf) (hN : Has P w K mg base CX0 1 "is_name" fN ["value"] spIsName) :
    FnOk P w K mg base CX0 2 f fd ["value", "fields", "modes"] spIsCall := by
  refine F.ok scIC (fun vs H Q E h => ?_) (fun cdv A outer s H vs Q E hr h => ?_)
  · obtain ⟨v, f, m, z, so, rfl, _⟩ := h
    rfl
  · obtain ⟨v, f, m, z, so, rfl, c, q⟩ := h
    refine ⟨_, pss_cons (ps_if (pt_not (pt_val (pe_has h1 (hr.mono (by decide)) (by rfl) pass0 (pa_cons (pv 0) (pa_cons pe_int pa_nil))))) pss_never pss_nil)
      (pss_cons (ps_asg (pv 0) (pg_tup rfl (pgs_cons (pg_name (i := 3) scIC.nd rfl (.inl rfl)) (pgs_cons (pg_name (i := 4) scIC.nd rfl (.inl rfl)) (pgs_cons (pg_name (i := 5) scIC.nd rfl (.inl rfl)) pgs_nil)))))
      (pss_cons (ps_if (PW.pt (pw_or (pt_not (pt_val (pe_has hN (hr.mono (by decide)) (by rfl) pass0 (pa_cons (pv 3) pa_nil)))) (pw_or (pt_cmpR op_notIn_seq (pv 4) (pe_glob (v := .ref aT) (by rfl) S.g rfl) (by rfl)) (pw_or1 (pt_not (pt_val (pe_callB call_isi (by rfl) T.isinstance (by decide +kernel) (pa_cons (pv 5) (pa_cons (pe_bltn (v := .ty "tuple") (u := .type "tuple") (by rfl) T.tuple (by decide +kernel) rfl) pa_nil))))))))) pss_never pss_nil)
      (pss_cons (ps_set (i := 6) scIC.nd rfl (.inl rfl) (pe_lst pa_nil))
      (pss_cons (ps_for PassesOwn.never rfl (pi_tup (pv 5)) (pg_name (i := 7) scIC.nd rfl (.inl rfl)) pss_never)
      (pss_one (ps_ret pe_bl)))))), ?_⟩
    obtain ⟨⟨c, e, rfl, hc, he⟩, nz, hs⟩ := c
    refine ⟨_, rfl, c, _, 3, rfl, hc, by show 3 ≤ 100; decide, _, rfl, ?_⟩
    rw [show decide (([V.str z, V.str so, V.ref e] : List V).length = 3) = true from rfl]
    refine iteF ?_
    refine ⟨_, rfl, c, _, rfl, SqT.of hc, rfl, _, _, rfl, _, _, rfl, _, _, rfl, rfl, ?_⟩
    refine ⟨_, rfl, _, rfl, .inl ⟨z, rfl, name_line nz⟩, _, rfl, ?_⟩
    rw [show nameV (.str z) = true from nz]
    refine iteF ?_
    refine ⟨_, rfl, aT, _, rfl, .inr (S.st H), rfl, strs_flat sorts3, ?_⟩
    rw [inV_mem, decide_eq_true hs]
    refine ⟨_, rfl, iteF ?_⟩
    refine ⟨_, rfl, _, _, _, _, true, rfl, .ty _, .base (.tup he), kit_ty (by decide +kernel), true, rfl, iteF ?_⟩
    refine ⟨(by show 0 ≤ sizeLine; decide), fun L nL => ?_⟩
    have s1 : Same H (upd H L (.lst [])) := same_upd nL
    refine ⟨_, rfl, e, rfl, ⟨[], SqT.of (s1 _ _ he)⟩, ?_⟩
    refine for_it (walk_tup (xs := [])) (fun i σ H' => Same H H' ∧ i = 0) ?_ ?_ ?_ ?_
    · exact ⟨s1, rfl⟩
    · rintro i σ H' hi ⟨sm, _⟩
      exact SqT.of (sm _ _ he)
    · rintro i x σ H1 H2 hi
      exact absurd hi (Nat.not_lt_zero _)
    · rintro σ H' ⟨sm, _⟩
      exact q _ sm
theorem scIV : FnScope nmIV ["value", "fields", "modes"] (defScope sIsView) := ⟨rfl, rfl, rfl, by decide +kernel, rfl, by decide +kernel, by decide +kernel⟩
theorem ok_isview {f f1 f2 fN : Addr} {fd : FuncData} (F : Fun K "is_view" "is_view" sIsView f fd) (G : Gf K mg aS) (h1 : Has P w K mg base CX0 1 "is_tuple_of" f1 ["value", "many"] spTupOf) (h2 : Has P w K mg base CX0 2 "is_form_of" f2 ["value", "names"] spFormOf) (hN : Has P w K mg base CX0 1 "is_name" fN ["value"] spIsName) :
    FnOk P w K mg base CX0 3 f fd ["value", "fields", "modes"] spIsView := by
  have T := G.T
  obtain ⟨tn, hn⟩ := G.nn
  refine F.ok scIV (fun vs H Q E h => ?_) (fun cdv A outer s H vs Q E hr h => ?_)
  · obtain ⟨v, f, m, fs, ms, z, rfl, _⟩ := h
    rfl
  · obtain ⟨v, f, m, fs, ms, z, rfl, hf, lf, hm, c, q⟩ := h
    refine ⟨_, pss_cons (ps_if (PW.pt (pw_or (pt_not (pt_val (pe_has h1 (hr.mono (by decide)) (by rfl) pass0 (pa_cons (pv 0) (pa_cons pe_int pa_nil))))) (pw_or (pt_not (pt_val (pe_has hN (hr.mono (by decide)) (by rfl) pass0 (pa_cons (pe_ix ix_tup (pv 0) pe_int (fun _ _ => rfl)) pa_nil)))) (pw_or1 (pt_not (pt_val (pe_has h1 (hr.mono (by decide)) (by rfl) pass0 (pa_cons (pe_ix ix_tup (pv 0) pe_int (fun _ _ => rfl)) (pa_cons (pe_callB call_len_seq (by rfl) T.len PySem.boot_len (pa_cons (pv 2) pa_nil)) pa_nil))))))))) pss_never pss_nil)
      (pss_one (ps_ret (pe_callB (cr_all rfl) (by rfl) T.all (by decide +kernel) (pa_cons (pe_lc (own := [("form", 3)]) (g := gName 3) (tt := tYes) (te := tCall spFormOf [] E0 (tCons (tVar 3) (tCons (tTup (tStar K (tVar 1) (tCons (tC (.str tNone)) tNil))) tNil))) rfl scIV.nd
        (pi_tup (pe_ix ix_tup (pv 0) pe_int (fun _ _ => rfl)))
        (blkOk_by (own := [("form", 3)]) (N := nmIV) (sc := defScope sIsView) (by decide +kernel)) (fun _ _ _ _ _ => pg_name (i := 3) scIV.nd rfl (Or.inl rfl)) (fun _ _ _ _ _ => pts_nil)
        (fun _ _ _ _ _ => pe_has h2 (hr.mono (by decide)) (by rfl) pass0 (pa_cons (pv 3) (pa_cons (pe_tup (pa_star (pv 1) (pa_cons (pe_glob (v := .str tNone) (by rfl) hn ⟨_, rfl⟩) pa_nil))) pa_nil)))) pa_nil)))), ?_⟩
    obtain ⟨⟨c, e, rfl, hc, he⟩, nz, n4⟩ := c
    refine ⟨_, rfl, c, _, 2, rfl, hc, by show 2 ≤ 100; decide, _, rfl, ?_⟩
    rw [show decide (([V.str z, V.ref e] : List V).length = 2) = true from rfl]
    refine iteF ?_
    refine ⟨_, rfl, c, _, _, .str z, rfl, rfl, SqT.of hc, atI_nat (j := 0) rfl, _, rfl, .inl ⟨z, rfl, name_line nz⟩, _, rfl, ?_⟩
    rw [show nameV (.str z) = true from nz]
    refine iteF ?_
    refine ⟨_, rfl, c, _, _, .ref e, rfl, rfl, SqT.of hc, atI_nat (j := 1) rfl, ?_⟩
    refine ⟨_, rfl, m, _, rfl, .inr (SqT.of hm), ?_⟩
    refine ⟨e, _, _, rfl, he, by rw [List.length_replicate]; omega, _, rfl, ?_⟩
    rw [show decide ((List.replicate ms.length (V.str tNone)).length = (ms.map V.str).length) = true from decide_eq_true (by rw [List.length_replicate, List.length_map])]
    refine iteF ?_
    refine ⟨_, rfl, c, _, _, .ref e, rfl, rfl, SqT.of hc, atI_nat (j := 1) rfl, ?_⟩
    refine ⟨e, rfl, ⟨_, SqT.of he⟩, fun D nD => ?_⟩
    refine lc_tup (K := K) (a := e) (xs := List.replicate ms.length (V.str tNone)) (fun i H' => Same H H' ∧ H' D = some (.lst ((List.replicate i true).map V.bl))) ?_ ?_ ?_ ?_
    · exact ⟨same_upd nD, upd_same⟩
    · rintro i H' hi ⟨sm, _⟩
      exact SqT.of (sm _ _ he)
    · rintro i x H1 hx ⟨sm, hD⟩
      obtain rfl : x = V.str tNone := List.eq_of_mem_replicate (List.mem_iff_getElem?.mpr ⟨i, hx⟩)
      refine ⟨rfl, ?_⟩
      refine ⟨_, rfl, _, rfl, f, _, rfl, .inl (SqT.of (sm _ _ hf)), ?_⟩
      refine ⟨(by rw [List.length_append, List.length_map, sizeLine_eq]; show fs.length + 1 ≤ _; omega), fun p np => ?_⟩
      have s2 : Same H1 (upd H1 p (.tup (fs.map V.str ++ [V.str tNone]))) := same_upd np
      refine ⟨tNone, p, fs ++ [tNone], rfl, ?_, by simp, by decide +kernel, fun H2 s3 => ?_⟩
      · rw [upd_same, List.map_append]
        rfl
      have hD2 := s3 _ _ (s2 _ _ hD)
      refine ⟨_, hD2, by rw [List.length_map, List.length_replicate, sizeLine_eq]; have := (List.getElem?_eq_some_iff.mp hx).1; rw [List.length_replicate] at this; omega, ?_⟩
      refine ⟨same_set (sm.trans (s2.trans s3)) nD, ?_⟩
      rw [upd_same, List.replicate_succ', List.map_append]
      rfl
    · rintro H2 ⟨sm, hD⟩
      rw [List.length_replicate] at hD
      refine ⟨D, _, rfl, SqL.of hD, ?_⟩
      have e3 : (List.replicate ms.length true).all id = true := by
        rw [List.all_eq_true]
        intro b hb
        rw [List.eq_of_mem_replicate hb]
        rfl
      rw [e3]
      exact q H2 sm
end
end K1

namespace K1
open PySem PySem.Spec
open PyProof.Rows L2 EnT StX SmX TxS DuX ClX
/-! ### check_calls, check_views -/
/-- calls without cases, their names all different -/
structure Calls (H : Hp) (v : V) (cs : List (Str × Str)) : Prop where
  at_ : ∃ a xs, v = .ref a ∧ H a = some (.tup xs) ∧ xs.length = cs.length ∧ ∀ (i : Nat) (z s : Str), cs[i]? = some (z, s) → ∃ u, xs[i]? = some u ∧ CallAt H u z s
  l8 : cs.length ≤ 8
  nd : (cs.map (·.1)).Nodup
theorem Calls.same {H H' : Hp} {v : V} {cs : List (Str × Str)} (sm : Same H H') (h : Calls H v cs) : Calls H' v cs := by
  obtain ⟨⟨a, xs, e, ha, l, c⟩, b, d⟩ := h
  exact ⟨⟨a, xs, e, sm _ _ ha, l, fun i z s e => (c i z s e).imp fun u h => ⟨h.1, h.2.same sm⟩⟩, b, d⟩
/-- views whose forms are all none, n of them, their names all different -/
structure Views (n : Nat) (H : Hp) (v : V) (cs : List Str) : Prop where
  at_ : ∃ a xs, v = .ref a ∧ H a = some (.tup xs) ∧ xs.length = cs.length ∧ ∀ (i : Nat) (z : Str), cs[i]? = some z → ∃ u, xs[i]? = some u ∧ ViewAt H u z n
  l4 : cs.length ≤ 4
  nd : cs.Nodup
theorem Views.same {n : Nat} {H H' : Hp} {v : V} {cs : List Str} (sm : Same H H') (h : Views n H v cs) : Views n H' v cs := by
  obtain ⟨⟨a, xs, e, ha, l, c⟩, b, d⟩ := h
  exact ⟨⟨a, xs, e, sm _ _ ha, l, fun i z e => (c i z e).imp fun u h => ⟨h.1, h.2.same sm⟩⟩, b, d⟩
def spChkCa (C : Addr) : Sp := fun vs H Q E => ∃ v f m : V, vs = [v, f, m] ∧ ((NoTup H v ∧ ErrAt C "index" .non H E) ∨ ∃ cs, Calls H v cs ∧ ∀ H', Same H H' → Q .non H')
def spChkVi (C : Addr) : Sp := fun vs H Q E => ∃ (v : V) (f m : Addr) (fs ms : List Str), vs = [v, .ref f, .ref m] ∧ H f = some (.tup (fs.map V.str)) ∧ fs.length ≤ 4 ∧ H m = some (.tup (ms.map V.str)) ∧ ((NoTup H v ∧ ErrAt C "index" .non H E) ∨ ∃ cs, Views ms.length H v cs ∧ ∀ H', Same H H' → Q .non H')
abbrev nmCa : List Str := ["calls", "fields", "modes", "names", "at", "call"]
abbrev nmVi : List Str := ["views", "fields", "modes", "names", "at", "view"]
section
variable {w : World} {P : Program} {base : Heap} {mg : Str → Option Value} {K : PySem.W.Frag} {CC : Addr}
theorem scCa : FnScope nmCa ["calls", "fields", "modes"] (defScope sChkCa) := ⟨rfl, rfl, rfl, by decide +kernel, rfl, by decide +kernel, by decide +kernel⟩
theorem ok_chkCa {f f1 fE : Addr} {fd fdE : FuncData} (F : Fun K "check_calls" "check_calls" sChkCa f fd) (T : Free mg) (hm : ∃ t, mg "MOST_CALLS" = some (.int 8 t)) (h1 : Has P w K mg base CX0 2 "is_call" f1 ["value", "fields", "modes"] spIsCall) (EE : ErrC K mg "InvalidCalls" "index" CC fE) (FE : Fun K "__init__" "InvalidCalls.__init__" s_InvalidCalls___init__ fE fdE) :
    FnOk P w K mg base (L2.CX P w) 5 f fd ["calls", "fields", "modes"] (spChkCa CC) := by
  obtain ⟨tm, hm⟩ := hm
  have bE : Binds K fdE ["self", "index"] [] := FE.binds (ps := ["self", "index"]) fun _ _ _ _ _ _ us hl => match us, hl with | [_, _], _ => rfl
  have GE : FnOk P w K mg base CX0 1 fE fdE ["self", "index"] (spErr CC "index") := ok_eCa FE EE
  refine F.okX scCa (fun vs H Q E h => ?_) (fun cdv A outer s H vs Q E hr h => ?_)
  · obtain ⟨v, f, m, rfl, _⟩ := h
    rfl
  · obtain ⟨v, f, m, rfl, h⟩ := h
    refine ⟨_, pss_cons (ps_if (PW.pt (pw_or (pt_not (pt_val (pe_callB call_isi (by rfl) T.isinstance (by decide +kernel) (pa_cons (pv 0) (pa_cons (pe_bltn (v := .ty "tuple") (u := .type "tuple") (by rfl) T.tuple (by decide +kernel) rfl) pa_nil))))) (pw_or1 (pt_cmpR op_gt (pe_callB call_len_seq (by rfl) T.len PySem.boot_len (pa_cons (pv 0) pa_nil)) (pe_glob (v := .int 8) (by rfl) hm ⟨_, rfl⟩) (nomark _)))))
        (pss_one (ps_raise rfl (takes_of rfl rfl rfl rfl) (pmk_oex EE.ox EE.ini EE.ty GE (hr.mono (by decide)) bE .nil pass0 rfl EE.g (pa_cons pe_non pa_nil)))) pss_nil)
      (pss_cons (ps_set (i := 3) scCa.nd rfl (.inl rfl) (pe_lst pa_nil))
      (pss_one (ps_for (passes_of rfl) rfl (pi_enumT (by rfl) T.enumerate (pa_cons (pv 0) pa_nil)) (pg_tup rfl (pgs_cons (pg_name (i := 4) scCa.nd rfl (.inl rfl)) (pgs_cons (pg_name (i := 5) scCa.nd rfl (.inl rfl)) pgs_nil)))
        (pss_cons (ps_if (PW.pt (pw_or (pt_not (pt_val (pe_has h1 (hr.mono (by decide)) (by rfl) pass0 (pa_cons (pv 5) (pa_cons (pv 1) (pa_cons (pv 2) pa_nil)))))) (pw_or1 (pt_cmpR op_in_seq (pe_ix ix_tup (pv 5) pe_int (fun _ _ => rfl)) (pv 3) (by rfl)))))
            pss_never pss_nil)
          (pss_one (ps_expr (pe_bm PySem.F.plainAttrs_list PySem.F.slot_list_append PySem.F.type_list_append mt_append (pv 3) (pa_cons (pe_ix ix_tup (pv 5) pe_int (fun _ _ => rfl)) pa_nil)))))))), ?_⟩
    rcases h with ⟨n, qE⟩ | ⟨cs, C, q⟩
    · obtain ⟨t, tx, no⟩ := n.ty (K := K)
      exact ⟨_, rfl, _, _, _, _, false, rfl, .ty _, tx, no, false, rfl, iteT (iteT (rz_err qE))⟩
    · obtain ⟨⟨a, xs, rfl, ha, hl, cc⟩, l8, nd⟩ := C
      refine ⟨_, rfl, _, _, _, _, true, rfl, .ty _, .base (.tup ha), kit_ty (by decide +kernel), true, rfl, iteF ?_⟩
      refine ⟨_, rfl, a, _, rfl, .inr (SqT.of ha), ?_⟩
      refine ⟨_, _, rfl, rfl, _, rfl, ?_⟩
      rw [show decide ((8 : Int) < (xs.length : Int)) = false from decide_eq_false (by omega)]
      refine iteF ?_
      refine ⟨(by show 0 ≤ sizeLine; decide), fun L nL => ?_⟩
      refine ⟨_, rfl, a, xs, rfl, SqT.of (same_upd nL _ _ ha), ?_⟩
      refine for_it (walk_enumT (xs := xs)) (fun i σ H' => Same H H' ∧ H' L = some (.lst (((cs.map (·.1)).take i).map V.str)) ∧ ∃ o4 o5 : Option V, σ = [some (.ref a), some f, some m, some (.ref L), o4, o5]) ?_ ?_ ?_ ?_
      · exact ⟨same_upd nL, upd_same, none, none, rfl⟩
      · rintro i σ H' hi ⟨sm, _⟩
        exact SqT.of (sm _ _ ha)
      · rintro i x σ H1 H2 hi ⟨sm, hL, o4, o5, rfl⟩ ⟨t, y1, y2, rfl, nt, rfl, e1, e2⟩
        cases e1
        refine ⟨t, _, rfl, SqT.of upd_same, rfl, _, _, rfl, _, _, rfl, rfl, ?_⟩
        have sm2 : Same H (upd H1 t (.tup [.int (i : Nat), y2])) := sm.trans (same_upd nt)
        have hL2 := (same_upd (o := .tup [.int (i : Nat), y2]) nt) _ _ hL
        generalize (upd H1 t (.tup [.int (i : Nat), y2])) = H2 at sm2 hL2 ⊢
        have e2 : xs[i]? = some y2 := e2
        have ix : i < cs.length := by rw [← hl]; exact (List.getElem?_eq_some_iff.mp e2).1
        obtain ⟨z, s', ez⟩ : ∃ z s', cs[i]? = some (z, s') := ⟨(cs[i]).1, (cs[i]).2, by rw [List.getElem?_eq_getElem ix]⟩
        obtain ⟨u, e3, cu⟩ := cc i z s' ez
        have ezn : (cs.map (·.1))[i]? = some z := by rw [List.getElem?_map, ez]; rfl
        have zn : z ∉ (cs.map (·.1)).take i := fun hm => take_nodup_none nd ezn hm
        rw [e3] at e2
        cases e2
        refine ⟨_, rfl, _, rfl, _, rfl, _, f, m, z, s', rfl, cu.same sm2, fun H3 s3 => ⟨_, rfl, iteF ?_⟩⟩
        have cu2 := cu.same (sm2.trans s3)
        have hL3 := s3 _ _ hL2
        obtain ⟨⟨c, e, rfl, hc, he⟩, nz, _⟩ := cu2
        refine ⟨_, rfl, c, _, _, .str z, rfl, rfl, SqT.of hc, atI_nat (j := 0) rfl, ?_⟩
        refine ⟨_, rfl, L, _, rfl, .inl (SqL.of hL3), rfl, strs_flat _, ?_⟩
        rw [inV_mem, decide_eq_false zn]
        refine ⟨_, rfl, iteF ?_⟩
        refine ⟨_, rfl, .inl ⟨rfl, _, SqL.of hL3⟩, _, rfl, c, _, _, .str z, rfl, rfl, SqT.of hc, atI_nat (j := 0) rfl, ?_⟩
        refine ⟨L, _, _, rfl, rfl, hL3, by rw [List.length_map, List.length_take, sizeLine_eq]; omega, ?_⟩
        refine ⟨same_set (sm2.trans s3) nL, ?_, _, _, rfl⟩
        rw [upd_same, List.take_add_one, ezn, List.map_append]
        rfl
      · rintro σ H' ⟨sm, _⟩
        exact q _ sm
theorem scVi : FnScope nmVi ["views", "fields", "modes"] (defScope sChkVi) := ⟨rfl, rfl, rfl, by decide +kernel, rfl, by decide +kernel, by decide +kernel⟩
theorem ok_chkVi {f f1 fE : Addr} {fd fdE : FuncData} (F : Fun K "check_views" "check_views" sChkVi f fd) (T : Free mg) (hm : ∃ t, mg "MOST_VIEWS" = some (.int 4 t)) (h1 : Has P w K mg base CX0 3 "is_view" f1 ["value", "fields", "modes"] spIsView) (EE : ErrC K mg "InvalidViews" "index" CC fE) (FE : Fun K "__init__" "InvalidViews.__init__" s_InvalidViews___init__ fE fdE) :
    FnOk P w K mg base (L2.CX P w) 5 f fd ["views", "fields", "modes"] (spChkVi CC) := by
  obtain ⟨tm, hm⟩ := hm
  have bE : Binds K fdE ["self", "index"] [] := FE.binds (ps := ["self", "index"]) fun _ _ _ _ _ _ us hl => match us, hl with | [_, _], _ => rfl
  have GE : FnOk P w K mg base CX0 1 fE fdE ["self", "index"] (spErr CC "index") := ok_eVi FE EE
  refine F.okX scVi (fun vs H Q E h => ?_) (fun cdv A outer s H vs Q E hr h => ?_)
  · obtain ⟨v, f, m, fs, ms, rfl, _⟩ := h
    rfl
  · obtain ⟨v, f, m, fs, ms, rfl, hf, lf, hmo, h⟩ := h
    refine ⟨_, pss_cons (ps_if (PW.pt (pw_or (pt_not (pt_val (pe_callB call_isi (by rfl) T.isinstance (by decide +kernel) (pa_cons (pv 0) (pa_cons (pe_bltn (v := .ty "tuple") (u := .type "tuple") (by rfl) T.tuple (by decide +kernel) rfl) pa_nil))))) (pw_or1 (pt_cmpR op_gt (pe_callB call_len_seq (by rfl) T.len PySem.boot_len (pa_cons (pv 0) pa_nil)) (pe_glob (v := .int 4) (by rfl) hm ⟨_, rfl⟩) (nomark _)))))
        (pss_one (ps_raise rfl (takes_of rfl rfl rfl rfl) (pmk_oex EE.ox EE.ini EE.ty GE (hr.mono (by decide)) bE .nil pass0 rfl EE.g (pa_cons pe_non pa_nil)))) pss_nil)
      (pss_cons (ps_set (i := 3) scVi.nd rfl (.inl rfl) (pe_lst pa_nil))
      (pss_one (ps_for (passes_of rfl) rfl (pi_enumT (by rfl) T.enumerate (pa_cons (pv 0) pa_nil)) (pg_tup rfl (pgs_cons (pg_name (i := 4) scVi.nd rfl (.inl rfl)) (pgs_cons (pg_name (i := 5) scVi.nd rfl (.inl rfl)) pgs_nil)))
        (pss_cons (ps_if (PW.pt (pw_or (pt_not (pt_val (pe_has h1 (hr.mono (by decide)) (by rfl) pass0 (pa_cons (pv 5) (pa_cons (pv 1) (pa_cons (pv 2) pa_nil)))))) (pw_or1 (pt_cmpR op_in_seq (pe_ix ix_tup (pv 5) pe_int (fun _ _ => rfl)) (pv 3) (by rfl)))))
            pss_never pss_nil)
          (pss_one (ps_expr (pe_bm PySem.F.plainAttrs_list PySem.F.slot_list_append PySem.F.type_list_append mt_append (pv 3) (pa_cons (pe_ix ix_tup (pv 5) pe_int (fun _ _ => rfl)) pa_nil)))))))), ?_⟩
    rcases h with ⟨n, qE⟩ | ⟨cs, C, q⟩
    · obtain ⟨t, tx, no⟩ := n.ty (K := K)
      exact ⟨_, rfl, _, _, _, _, false, rfl, .ty _, tx, no, false, rfl, iteT (iteT (rz_err qE))⟩
    · obtain ⟨⟨a, xs, rfl, ha, hl, cc⟩, l8, nd⟩ := C
      refine ⟨_, rfl, _, _, _, _, true, rfl, .ty _, .base (.tup ha), kit_ty (by decide +kernel), true, rfl, iteF ?_⟩
      refine ⟨_, rfl, a, _, rfl, .inr (SqT.of ha), ?_⟩
      refine ⟨_, _, rfl, rfl, _, rfl, ?_⟩
      rw [show decide ((4 : Int) < (xs.length : Int)) = false from decide_eq_false (by omega)]
      refine iteF ?_
      refine ⟨(by show 0 ≤ sizeLine; decide), fun L nL => ?_⟩
      refine ⟨_, rfl, a, xs, rfl, SqT.of (same_upd nL _ _ ha), ?_⟩
      refine for_it (walk_enumT (xs := xs)) (fun i σ H' => Same H H' ∧ H' L = some (.lst ((cs.take i).map V.str)) ∧ ∃ o4 o5 : Option V, σ = [some (.ref a), some (.ref f), some (.ref m), some (.ref L), o4, o5]) ?_ ?_ ?_ ?_
      · exact ⟨same_upd nL, upd_same, none, none, rfl⟩
      · rintro i σ H' hi ⟨sm, _⟩
        exact SqT.of (sm _ _ ha)
      · rintro i x σ H1 H2 hi ⟨sm, hL, o4, o5, rfl⟩ ⟨t, y1, y2, rfl, nt, rfl, e1, e2⟩
        cases e1
        refine ⟨t, _, rfl, SqT.of upd_same, rfl, _, _, rfl, _, _, rfl, rfl, ?_⟩
        have sm2 : Same H (upd H1 t (.tup [.int (i : Nat), y2])) := sm.trans (same_upd nt)
        have hL2 := (same_upd (o := .tup [.int (i : Nat), y2]) nt) _ _ hL
        generalize (upd H1 t (.tup [.int (i : Nat), y2])) = H2 at sm2 hL2 ⊢
        have e2 : xs[i]? = some y2 := e2
        have ix : i < cs.length := by rw [← hl]; exact (List.getElem?_eq_some_iff.mp e2).1
        obtain ⟨z, ezn⟩ : ∃ z, cs[i]? = some z := ⟨cs[i], by rw [List.getElem?_eq_getElem ix]⟩
        obtain ⟨u, e3, cu⟩ := cc i z ezn
        have zn : z ∉ cs.take i := fun hm => take_nodup_none nd ezn hm
        rw [e3] at e2
        cases e2
        refine ⟨_, rfl, _, rfl, _, rfl, _, f, m, fs, ms, z, rfl, sm2 _ _ hf, lf, sm2 _ _ hmo, cu.same sm2, fun H3 s3 => ⟨_, rfl, iteF ?_⟩⟩
        have cu2 := cu.same (sm2.trans s3)
        have hL3 := s3 _ _ hL2
        obtain ⟨⟨c, e, rfl, hc, he⟩, nz, _⟩ := cu2
        refine ⟨_, rfl, c, _, _, .str z, rfl, rfl, SqT.of hc, atI_nat (j := 0) rfl, ?_⟩
        refine ⟨_, rfl, L, _, rfl, .inl (SqL.of hL3), rfl, strs_flat _, ?_⟩
        rw [inV_mem, decide_eq_false zn]
        refine ⟨_, rfl, iteF ?_⟩
        refine ⟨_, rfl, .inl ⟨rfl, _, SqL.of hL3⟩, _, rfl, c, _, _, .str z, rfl, rfl, SqT.of hc, atI_nat (j := 0) rfl, ?_⟩
        refine ⟨L, _, _, rfl, rfl, hL3, by rw [List.length_map, List.length_take, sizeLine_eq]; omega, ?_⟩
        refine ⟨same_set (sm2.trans s3) nL, ?_, _, _, rfl⟩
        rw [upd_same, List.take_add_one, ezn, List.map_append]
        rfl
      · rintro σ H' ⟨sm, _⟩
        exact q _ sm
end
end K1

namespace K1
open PySem PySem.Spec
open PyProof.Rows L2 EnT StX SmX TxS DuX XdI Tr3 CnB ClX
/-- isinstance(e, c) in a suite, whatever the class -/
def rIsX (K : PySem.W.Frag) (a : Addr) (cls : Value) (d : Option Addr) : List V → Hp → VK → Prop := fun xs H Q => ∃ D, cls = .ref D ∧ ExcC K D ∧ rIsD K D a d xs H Q
/-- the same of an exception without attributes -/
def rIsN (K : PySem.W.Frag) (a : Addr) (cls : Value) (d : Option Addr) : List V → Hp → VK → Prop := fun xs H Q => ∃ D, cls = .ref D ∧ ExcC K D ∧ d = none ∧ rIsE K D a xs H Q
theorem call_isN {X : Cx} {a : Addr} {d : Option Addr} {oe : Obj} {pn : List (Addr × Obj)} {cls : Value} (hz : Zc cls d oe) (hf : ∃ vs, oe.data = .fields vs) : CallR (X.suite a ((a, oe) :: pn)) (.builtin "isinstance") (rIsN X.K a cls d) := by
  intro pins s σ
      H xs us Q I r h
  obtain ⟨D, rfl, C, rfl, h⟩ := h
  exact call_isE C hz hf pins s σ H xs us Q I r h
theorem call_isX {X : Cx} {a : Addr} {d : Option Addr} {oe : Obj} {pn : List (Addr × Obj)} {cls : Value} (hz : Zc cls d oe) (hf : ∃ vs, oe.data = .fields vs) : CallR (X.suite a ((a, oe) :: pn)) (.builtin "isinstance") (rIsX X.K a cls d) := by
  intro pins s σ
      H xs us Q I r h
  obtain ⟨D, ec, C, h⟩ := h
  exact call_isD ec C hz hf pins s σ H xs us Q I r h
/-- what is asked of an error's class, its base the b-th one -/
structure ErrF (K : PySem.W.Frag) (S1 S2 S3 D : Addr) (b : Nat) : Prop where
  ec : ExcC K D
  k1 : PySem.W.kitOne K (.ref D) (.ref S1) = some (decide (b = 0))
  k2 : PySem.W.kitOne K (.ref D) (.ref S2) = some (decide (b = 1))
  k3 : PySem.W.kitOne K (.ref D) (.ref S3) = some (decide (b = 2))
  kV : PySem.W.kitOne K (.ref D) (.type "ValueError") = some (decide (b = 0))
  kL : PySem.W.kitOne K (.ref D) (.type "LookupError") = some (decide (b = 1))
  kA : PySem.W.kitOne K (.ref D) (.type "ArithmeticError") = some (decide (b = 2))
  kx : PySem.W.exmAny K (.ref D) [.ref S1, .ref S2, .ref S3] = some true
  xf : XfC K D
/-- repr(x), x told by SV -/
def rSV (SV : Hp → V → Str → Prop) : List V → Hp → VK → Prop := fun xs H Q => ∃ x txt, xs = [x] ∧ SV H x txt ∧ Q (.str txt) H
structure ErrK (K : PySem.W.Frag) (mg : Str → Option Value) (S1 S2 S3 C1 C2 C3 C4 : Addr) : Prop where
  g1 : mg "SetError" = some (.ref S1)
  g2 : mg "StateError" = some (.ref S2)
  g3 : mg "LimitError" = some (.ref S3)
  gV : mg "ValueError" = none
  gL : mg "LookupError" = none
  gA : mg "ArithmeticError" = none
  m1 : mg "InvalidFields" = some (.ref C1)
  e1 : ErrF K S1 S2 S3 C1 0
  i1 : PySem.W.findIn K (.ref C1) "index" = some none
  k1_1 : PySem.W.kitOne K (.ref C1) (.ref C1) = some true
  k1_2 : PySem.W.kitOne K (.ref C1) (.ref C2) = some false
  k1_3 : PySem.W.kitOne K (.ref C1) (.ref C3) = some false
  k1_4 : PySem.W.kitOne K (.ref C1) (.ref C4) = some false
  m2 : mg "InvalidModes" = some (.ref C2)
  e2 : ErrF K S1 S2 S3 C2 0
  i2 : PySem.W.findIn K (.ref C2) "index" = some none
  k2_1 : PySem.W.kitOne K (.ref C2) (.ref C1) = some false
  k2_2 : PySem.W.kitOne K (.ref C2) (.ref C2) = some true
  k2_3 : PySem.W.kitOne K (.ref C2) (.ref C3) = some false
  k2_4 : PySem.W.kitOne K (.ref C2) (.ref C4) = some false
  m3 : mg "InvalidCalls" = some (.ref C3)
  e3 : ErrF K S1 S2 S3 C3 0
  i3 : PySem.W.findIn K (.ref C3) "index" = some none
  k3_1 : PySem.W.kitOne K (.ref C3) (.ref C1) = some false
  k3_2 : PySem.W.kitOne K (.ref C3) (.ref C2) = some false
  k3_3 : PySem.W.kitOne K (.ref C3) (.ref C3) = some true
  k3_4 : PySem.W.kitOne K (.ref C3) (.ref C4) = some false
  m4 : mg "InvalidViews" = some (.ref C4)
  e4 : ErrF K S1 S2 S3 C4 0
  i4 : PySem.W.findIn K (.ref C4) "index" = some none
  k4_1 : PySem.W.kitOne K (.ref C4) (.ref C1) = some false
  k4_2 : PySem.W.kitOne K (.ref C4) (.ref C2) = some false
  k4_3 : PySem.W.kitOne K (.ref C4) (.ref C3) = some false
  k4_4 : PySem.W.kitOne K (.ref C4) (.ref C4) = some true
theorem same_free {H H' : Hp} {p : Addr} (s : Same H H') (n : H' p = none) : H p = none := by
  cases hh : H p with
  | none => rfl
  | some o =>
    rw [s _ _ hh] at n
    cases n
theorem grow_keep {H : Hp} {p : Addr} {xs ys : List V} : ∀ b o, b ≠ p → H b = some o → upd (upd H p (.lst xs)) p (.lst (xs ++ ys)) b = some o := fun b o n e => by
  rw [upd_ne n, upd_ne n]
  exact e
/-- ahead of the n-th truth are none -/
theorem first_at {bs : List Bool} {n m : Nat} {z : V} (h : ((bs.take n).all fun b => !b) = true) (hm : m < n) (hz : (bs.map V.bl)[m]? = some z) : eqV z (.bl true) = false := by
  rw [List.getElem?_map] at hz
  obtain ⟨b, hb, rfl⟩ := Option.map_eq_some_iff.mp hz
  have hb2 : b ∈ bs.take n := by
    obtain ⟨l, e⟩ := List.getElem?_eq_some_iff.mp hb
    exact List.mem_iff_getElem.mpr ⟨m, by rw [List.length_take]; omega, by rw [List.getElem_take]; exact e⟩
  have h2 := (List.all_eq_true.mp h) b hb2
  cases b with
  | true => cases h2
  | false => rfl
abbrev nmCaught : List Str := ["_law_ask", "_law_told", "e", "_law_sides", "_law_base", "_law_sorts", "_law_at"]
theorem scCaught : FnScope nmCaught ["_law_ask"] (defScope sCaught) := ⟨rfl, rfl, rfl, by decide +kernel, rfl, by decide +kernel, by decide +kernel⟩
/-- what is told of an error, its attributes at dd; SV tells a value's text -/
def Told (SV : Hp → V → Str → Prop) (C1 C2 C3 C4 : Addr) (Q : VK) : XK := fun cls d H => (∃ (dd : Addr) (v : V) (txt nm : Str), d = some dd ∧ SV H v txt ∧ ((cls = .ref C1 ∧ nm = "InvalidFields" ∧ H dd = some (.xd [("index", v)])) ∨ (cls = .ref C2 ∧ nm = "InvalidModes" ∧ H dd = some (.xd [("index", v)])) ∨ (cls = .ref C3 ∧ nm = "InvalidCalls" ∧ H dd = some (.xd [("index", v)])) ∨ (cls = .ref C4 ∧ nm = "InvalidViews" ∧ H dd = some (.xd [("index", v)]))) ∧
    ∀ (p : Addr) (H' : Hp), H p = none → Same H H' → H' p = some (.lst [.str nm, .str txt]) → Q (.ref p) H') ∨
  ∃ nm : Str, d = none ∧ (False) ∧ ∀ (p : Addr) (H' : Hp), H p = none → Same H H' → H' p = some (.lst [.str nm]) → Q (.ref p) H'
/-- the reading of _law_caught(lambda: ..), where the lambda raises -/
def TTc (SV : Hp → V → Str → Prop) (C1 C2 C3 C4 : Addr) : (XK → Hp → VK → Prop) → Hp → VK → Prop := fun tl H Q => ∀ Q', tl (Told SV C1 C2 C3 C4 Q) H Q'
section
variable {X : Cx}
abbrev cxK (X : Cx) (g : Addr) (cdg : Value) (s : Shared) (H : Hp) : Cx := (cxOf C8.CX0 X.prog X.w X.K X.mg X.base nmCaught "_law_caught" (defScope sCaught) g cdg X.A X.stack s H C8.E0).nox
abbrev suiteOf : List Stmt := match defBody sCaught with
  | (.Try _ [.ExceptHandler _ _ su _] _ _ _) :: _ => su
  | _ => []
mutual
theorem dp_same {K : PySem.W.Frag} {H H' : Hp} (s : Same H H') : ∀ {v : V} {d : PyData}, Dp K H v d → Dp K H' v d
  | _, _, .non => .non
  | _, _, .bl b => .bl b
  | _, _, .int i => .int i
  | _, _, .str x => .str x
  | _, _, .lst h r => .lst (s.seq h) (dpAll_same s r)
  | _, _, .tup h r => .tup (sameT s h) (dpAll_same s r)
theorem dpAll_same {K : PySem.W.Frag} {H H' : Hp} (s : Same H H') : ∀ {vs : List V} {ds : List PyData}, DpAll K H vs ds → DpAll K H' vs ds
  | _, _, .nil => .nil
  | _, _, .cons h r => .cons (dp_same s h) (dpAll_same s r)
end
/-- the suite: an error that Told knows -/
def tCau (SV : Hp → V → Str → Prop) (C1 C2 C3 C4 a : Addr) (cls : Value) (d : Option Addr) : TS := fun D σ H => (∃ σ' : L2.St, σ = σ'.set 2 (some (.ref a))) ∧ Told SV C1 C2 C3 C4 D.rt cls d H
theorem suite_ok {g S1 S2 S3 C1 C2 C3 C4 : Addr} {cdg : Value} {s : Shared} {H0 : Hp} (hgd : X.A.guards = some []) (hu : X.A.units + 300 < cLine) (T : Free X.mg) (EK : ErrK X.K X.mg S1 S2 S3 C1 C2 C3 C4) {SV : Hp → V → Str → Prop} (hS : ∀ H H' v x, Same H H' → SV H v x → SV H' v x)
    {a : Addr} {oe : Obj} {cls : Value} {d : Option Addr} {pn : List (Addr × Obj)} (hz : Zc cls d oe) (hf : ∃ vs, oe.data = .fields vs) (hR : CallR ((cxK X g cdg s H0).suite a ((a, oe) :: pn)) (.builtin "repr") (rSV SV)) :
    PSs ((cxK X g cdg s H0).suite a ((a, oe) :: pn)) suiteOf (tCau SV C1 C2 C3 C4 a cls d) := by
  refine ⟨fun pins s' σ H D I h => ?_⟩
  obtain ⟨⟨σ', eσ⟩, hT⟩ := h
  have hl : σ.length = 7 := I.len
  have hl' : σ'.length = 7 := by rw [eσ, List.length_set] at hl; exact hl
  obtain ⟨x0, x1, x2, x3, x4, x5, x6, e'⟩ : ∃ x0 x1 x2 x3 x4 x5 x6, σ' = [x0, x1, x2, x3, x4, x5, x6] := by
    match σ', hl' with
    | [x0, x1, x2, x3, x4, x5, x6], _ => exact ⟨x0, x1, x2, x3, x4, x5, x6, rfl⟩
  subst e'
  have eσ : σ = [x0, x1, some (.ref a), x3, x4, x5, x6] := eσ
  subst eσ
  obtain ⟨t, ht, hq⟩ : ∃ t, PSs ((cxK X g cdg s H0).suite a ((a, oe) :: pn)) suiteOf t ∧ t D [x0, x1, some (.ref a), x3, x4, x5, x6] H := by
    rcases hT with ⟨dd, v, txt, nm, rfl, hsd, (⟨rfl, rfl, hd⟩ | ⟨rfl, rfl, hd⟩ | ⟨rfl, rfl, hd⟩ | ⟨rfl, rfl, hd⟩), q⟩ | ⟨nm, rfl, (⟨⟩), q⟩
    · have eC := EK.e1.ec
      have k1 : PySem.W.kitOne X.K (.ref C1) (.ref S1) = some true := EK.e1.k1
      have k2 : PySem.W.kitOne X.K (.ref C1) (.ref S2) = some false := EK.e1.k2
      have k3 : PySem.W.kitOne X.K (.ref C1) (.ref S3) = some false := EK.e1.k3
      have kV : PySem.W.kitOne X.K (.ref C1) (.type "ValueError") = some true := EK.e1.kV
      have kL : PySem.W.kitOne X.K (.ref C1) (.type "LookupError") = some false := EK.e1.kL
      have kA : PySem.W.kitOne X.K (.ref C1) (.type "ArithmeticError") = some false := EK.e1.kA
      refine ⟨_, pss_cons (ps_set (i := 3) scCaught.nd rfl (.inl rfl) (pe_lst (pa_cons (pe_callB (call_isX (X := cxK X g cdg s H0) (a := a) (pn := pn) hz hf) (by rfl) T.isinstance (by decide +kernel) (pa_cons (pv 2) (pa_cons (pe_glob (v := .ref S1) (by rfl) EK.g1 rfl) pa_nil))) (pa_cons (pe_callB (call_isX (X := cxK X g cdg s H0) (a := a) (pn := pn) hz hf) (by rfl) T.isinstance (by decide +kernel) (pa_cons (pv 2) (pa_cons (pe_glob (v := .ref S2) (by rfl) EK.g2 rfl) pa_nil))) (pa_cons (pe_callB (call_isX (X := cxK X g cdg s H0) (a := a) (pn := pn) hz hf) (by rfl) T.isinstance (by decide +kernel) (pa_cons (pv 2) (pa_cons (pe_glob (v := .ref S3) (by rfl) EK.g3 rfl) pa_nil))) pa_nil)))))
          (pss_cons (ps_set (i := 4) scCaught.nd rfl (.inl rfl) (pe_lst (pa_cons (pe_callB (call_isX (X := cxK X g cdg s H0) (a := a) (pn := pn) hz hf) (by rfl) T.isinstance (by decide +kernel) (pa_cons (pv 2) (pa_cons (pe_bltn (v := .ty "ValueError") (u := .type "ValueError") (by rfl) EK.gV (by decide +kernel) rfl) pa_nil))) (pa_cons (pe_callB (call_isX (X := cxK X g cdg s H0) (a := a) (pn := pn) hz hf) (by rfl) T.isinstance (by decide +kernel) (pa_cons (pv 2) (pa_cons (pe_bltn (v := .ty "LookupError") (u := .type "LookupError") (by rfl) EK.gL (by decide +kernel) rfl) pa_nil))) pa_nil))))
          (pss_cons (ps_expr (pe_bm PySem.F.plainAttrs_list PySem.F.slot_list_append PySem.F.type_list_append mt_append (pv 4) (pa_cons (pe_callB (call_isX (X := cxK X g cdg s H0) (a := a) (pn := pn) hz hf) (by rfl) T.isinstance (by decide +kernel) (pa_cons (pv 2) (pa_cons (pe_bltn (v := .ty "ArithmeticError") (u := .type "ArithmeticError") (by rfl) EK.gA (by decide +kernel) rfl) pa_nil))) pa_nil)))
          (pss_cons (ps_set (i := 5) scCaught.nd rfl (.inl rfl) (pe_lst (pa_cons (pe_callB (call_isX (X := cxK X g cdg s H0) (a := a) (pn := pn) hz hf) (by rfl) T.isinstance (by decide +kernel) (pa_cons (pv 2) (pa_cons (pe_glob (v := .ref C1) (by rfl) EK.m1 rfl) pa_nil))) pa_nil)))
          (pss_cons (ps_expr (pe_bm PySem.F.plainAttrs_list PySem.F.slot_list_append PySem.F.type_list_append mt_append (pv 5) (pa_cons (pe_callB (call_isX (X := cxK X g cdg s H0) (a := a) (pn := pn) hz hf) (by rfl) T.isinstance (by decide +kernel) (pa_cons (pv 2) (pa_cons (pe_glob (v := .ref C2) (by rfl) EK.m2 rfl) pa_nil))) pa_nil)))
          (pss_cons (ps_expr (pe_bm PySem.F.plainAttrs_list PySem.F.slot_list_append PySem.F.type_list_append mt_append (pv 5) (pa_cons (pe_callB (call_isX (X := cxK X g cdg s H0) (a := a) (pn := pn) hz hf) (by rfl) T.isinstance (by decide +kernel) (pa_cons (pv 2) (pa_cons (pe_glob (v := .ref C3) (by rfl) EK.m3 rfl) pa_nil))) pa_nil)))
          (pss_cons (ps_expr (pe_bm PySem.F.plainAttrs_list PySem.F.slot_list_append PySem.F.type_list_append mt_append (pv 5) (pa_cons (pe_callB (call_isX (X := cxK X g cdg s H0) (a := a) (pn := pn) hz hf) (by rfl) T.isinstance (by decide +kernel) (pa_cons (pv 2) (pa_cons (pe_glob (v := .ref C4) (by rfl) EK.m4 rfl) pa_nil))) pa_nil)))
          (pss_cons (ps_if (PW.pt (pw_or (pt_cmpR op_ne (pe_bm PySem.F.plainAttrs_list PySem.F.slot_list_count PySem.F.type_list_count mt_lcountB (pv 5) (pa_cons pe_bl pa_nil)) pe_int (nomark _)) (pw_or (pt_cmpR (op_neD (by show X.A.units + 3 + 64 < cLine; omega)) (pv 3) (pv 4) (nomark _)) (pw_or1 (pt_cmpR op_ne (pe_bm PySem.F.plainAttrs_list PySem.F.slot_list_count PySem.F.type_list_count mt_lcountB (pv 3) (pa_cons pe_bl pa_nil)) pe_int (nomark _)))))) (pss_one (ps_ret (pe_lst (pa_cons pe_str pa_nil)))) pss_nil)
          (pss_cons (ps_set (i := 6) scCaught.nd rfl (.inl rfl) (pe_bm PySem.F.plainAttrs_list PySem.F.slot_list_index PySem.F.type_list_index mt_index (pv 5) (pa_cons pe_bl pa_nil)))
          (pss_cons (ps_if (pt_cmpR op_ne (pe_bm PySem.F.plainAttrs_list PySem.F.slot_list_index PySem.F.type_list_index mt_index (pv 3) (pa_cons pe_bl pa_nil)) (pe_ix ix_list (pe_lst (pa_cons pe_int (pa_cons pe_int (pa_cons pe_int (pa_cons pe_int pa_nil))))) (pv 6) (fun _ _ => rfl)) (nomark _)) (pss_one (ps_ret (pe_lst (pa_cons pe_str pa_nil)))) pss_nil)
          (pss_cons (ps_if (pt_cmpR op_eq (pv 6) pe_int (nomark _)) (pss_one (ps_ret (pe_lst (pa_cons pe_str (pa_cons (pe_callB hR (by rfl) T.repr (by decide +kernel) (pa_cons (pe_xf EK.e1.xf EK.i1 hz hf (pv 2)) pa_nil)) pa_nil))))) pss_nil)
          (pss_cons (ps_if (pt_cmpR op_eq (pv 6) pe_int (nomark _)) (pss_one (ps_ret (pe_lst (pa_cons pe_str (pa_cons (pe_callB hR (by rfl) T.repr (by decide +kernel) (pa_cons (pe_xf EK.e2.xf EK.i2 hz hf (pv 2)) pa_nil)) pa_nil))))) pss_nil)
          (pss_cons (ps_if (pt_cmpR op_eq (pv 6) pe_int (nomark _)) (pss_one (ps_ret (pe_lst (pa_cons pe_str (pa_cons (pe_callB hR (by rfl) T.repr (by decide +kernel) (pa_cons (pe_xf EK.e3.xf EK.i3 hz hf (pv 2)) pa_nil)) pa_nil))))) pss_nil)
          (pss_one (ps_if (pt_cmpR op_eq (pv 6) pe_int (nomark _)) (pss_one (ps_ret (pe_lst (pa_cons pe_str (pa_cons (pe_callB hR (by rfl) T.repr (by decide +kernel) (pa_cons (pe_xf EK.e4.xf EK.i4 hz hf (pv 2)) pa_nil)) pa_nil))))) pss_nil)))))))))))))), ?_⟩
      refine ⟨_, rfl, C1, rfl, eC, _, _, _, dd, _, rfl, rfl, hd, (fun u h => h), k1, _, rfl, C1, rfl, eC, _, _, _, dd, _, rfl, rfl, hd, (fun u h => h), k2, _, rfl, C1, rfl, eC, _, _, _, dd, _, rfl, rfl, hd, (fun u h => h), k3, (by show 3 ≤ sizeLine; decide), fun p3 n3 => ?_⟩
      have s3 : Same H (upd H p3 (.lst [.bl true, .bl false, .bl false])) := same_upd n3
      generalize e3 : upd H p3 (.lst [.bl true, .bl false, .bl false]) = H3 at s3 ⊢
      have h3 : H3 p3 = some (.lst [.bl true, .bl false, .bl false]) := by rw [← e3]; exact upd_same
      clear e3
      have hd3 := s3 _ _ hd
      refine ⟨_, rfl, C1, rfl, eC, _, _, _, dd, _, rfl, rfl, hd3, (fun u h => h), kV, _, rfl, C1, rfl, eC, _, _, _, dd, _, rfl, rfl, hd3, (fun u h => h), kL, (by show 2 ≤ sizeLine; decide), fun p4 n4 => ?_⟩
      have hd4 : upd H3 p4 (.lst [.bl true, .bl false]) dd = some (.xd _) := same_upd n4 _ _ hd3
      refine ⟨_, rfl, .inl ⟨rfl, _, SqL.of upd_same⟩, _, rfl, C1, rfl, eC, _, _, _, dd, _, rfl, rfl, hd4, (fun u h => h), kA, p4, _, _, rfl, rfl, upd_same, (by show 2 < sizeLine; decide), ?_⟩
      have f4 : H p4 = none := same_free s3 n4
      have s4 := grow_keep (H := H3) (p := p4) (xs := [.bl true, .bl false]) (ys := [.bl false])
      generalize e4 : upd (upd H3 p4 (.lst [.bl true, .bl false])) p4 (.lst ([.bl true, .bl false] ++ [.bl false])) = H4 at s4 ⊢
      have h4 : H4 p4 = some (.lst [.bl true, .bl false, .bl false]) := by rw [← e4]; exact upd_same
      clear e4
      have t4 : Same H H4 := fun b o e => s4 b o (ne_of_none e f4) (s3 _ _ e)
      have h43 : H4 p3 = some (.lst [.bl true, .bl false, .bl false]) := s4 _ _ (ne_of_none h3 n4) h3
      have hd5 := t4 _ _ hd
      refine ⟨_, rfl, C1, rfl, eC, _, _, _, dd, _, rfl, rfl, hd5, (fun u h => h), EK.k1_1, (by show 1 ≤ sizeLine; decide), fun p5 n5 => ?_⟩
      have f5 : H p5 = none := same_free t4 n5
      have s5_0 : ∀ b o, b ≠ p5 → H4 b = some o → upd H4 p5 (.lst [.bl true]) b = some o := fun b o n e => by rw [upd_ne n]; exact e
      generalize e5 : upd H4 p5 (.lst [.bl true]) = H5_0 at s5_0 ⊢
      have h5_0 : H5_0 p5 = some (.lst [.bl true]) := by rw [← e5]; exact upd_same
      clear e5
      have hdx1 := s5_0 _ _ (ne_of_none hd5 n5) hd5
      refine ⟨_, rfl, .inl ⟨rfl, _, SqL.of h5_0⟩, _, rfl, C1, rfl, eC, _, _, _, dd, _, rfl, rfl, hdx1, (fun u h => h), EK.k1_2, p5, _, _, rfl, rfl, h5_0, (by show 1 < sizeLine; decide), ?_⟩
      have s5_1 : ∀ b o, b ≠ p5 → H4 b = some o → upd H5_0 p5 (.lst ([.bl true] ++ [.bl false])) b = some o := fun b o n e => by rw [upd_ne n]; exact s5_0 b o n e
      generalize e5 : upd H5_0 p5 (.lst ([.bl true] ++ [.bl false])) = H5_1 at s5_1 ⊢
      have h5_1 : H5_1 p5 = some (.lst [.bl true, .bl false]) := by rw [← e5]; exact upd_same
      clear e5
      have hdx2 := s5_1 _ _ (ne_of_none hd5 n5) hd5
      refine ⟨_, rfl, .inl ⟨rfl, _, SqL.of h5_1⟩, _, rfl, C1, rfl, eC, _, _, _, dd, _, rfl, rfl, hdx2, (fun u h => h), EK.k1_3, p5, _, _, rfl, rfl, h5_1, (by show 2 < sizeLine; decide), ?_⟩
      have s5_2 : ∀ b o, b ≠ p5 → H4 b = some o → upd H5_1 p5 (.lst ([.bl true, .bl false] ++ [.bl false])) b = some o := fun b o n e => by rw [upd_ne n]; exact s5_1 b o n e
      generalize e5 : upd H5_1 p5 (.lst ([.bl true, .bl false] ++ [.bl false])) = H5_2 at s5_2 ⊢
      have h5_2 : H5_2 p5 = some (.lst [.bl true, .bl false, .bl false]) := by rw [← e5]; exact upd_same
      clear e5
      have hdx3 := s5_2 _ _ (ne_of_none hd5 n5) hd5
      refine ⟨_, rfl, .inl ⟨rfl, _, SqL.of h5_2⟩, _, rfl, C1, rfl, eC, _, _, _, dd, _, rfl, rfl, hdx3, (fun u h => h), EK.k1_4, p5, _, _, rfl, rfl, h5_2, (by show 3 < sizeLine; decide), ?_⟩
      have s5_3 : ∀ b o, b ≠ p5 → H4 b = some o → upd H5_2 p5 (.lst ([.bl true, .bl false, .bl false] ++ [.bl false])) b = some o := fun b o n e => by rw [upd_ne n]; exact s5_2 b o n e
      generalize e5 : upd H5_2 p5 (.lst ([.bl true, .bl false, .bl false] ++ [.bl false])) = H5_3 at s5_3 ⊢
      have h5_3 : H5_3 p5 = some (.lst [.bl true, .bl false, .bl false, .bl false]) := by rw [← e5]; exact upd_same
      clear e5
      have t5 : Same H H5_3 := fun b o e => s5_3 b o (ne_of_none e f5) (t4 _ _ e)
      have h53 : H5_3 p3 = some (.lst [.bl true, .bl false, .bl false]) := s5_3 _ _ (ne_of_none h43 n5) h43
      have h54 : H5_3 p4 = some (.lst [.bl true, .bl false, .bl false]) := s5_3 _ _ (ne_of_none h4 n5) h4
      have dp : ∀ {p : Addr}, H5_3 p = some (.lst [.bl true, .bl false, .bl false]) → Dp X.K H5_3 (.ref p) (.list [.bool true, .bool false, .bool false]) := fun e => .lst (SqL.of e) (.cons (.bl _) (.cons (.bl _) (.cons (.bl _) .nil)))
      refine ⟨_, rfl, .inl ⟨rfl, _, SqL.of h5_3⟩, p5, [true, false, false, false], rfl, rfl, SqL.of h5_3, rfl, _, rfl, ?_⟩
      refine iteF ?_
      refine ⟨_, rfl, _, rfl, _, _, dp h53, dp h54, by decide +kernel, by decide +kernel, _, rfl, ?_⟩
      refine iteF ?_
      refine ⟨_, rfl, .inl ⟨rfl, _, SqL.of h53⟩, p3, [true, false, false], rfl, rfl, SqL.of h53, rfl, _, rfl, ?_⟩
      refine iteF ?_
      refine ⟨_, rfl, .inl ⟨rfl, _, SqL.of h5_3⟩, p5, _, _, 0, .bl true, rfl, rfl, SqL.of h5_3, rfl, rfl, rfl, rfl, (fun m z hm => absurd hm (Nat.not_lt_zero m)), ?_⟩
      refine ⟨_, rfl, .inl ⟨rfl, _, SqL.of h53⟩, p3, _, _, 0, .bl true, rfl, rfl, SqL.of h53, rfl, rfl, rfl, rfl, (fun m z hm => absurd hm (Nat.not_lt_zero m)), (by show 4 ≤ sizeLine; decide), fun p7 n7 => ?_⟩
      have s7 : Same H5_3 (upd H5_3 p7 (.lst [.int 0, .int 0, .int 0, .int 0])) := same_upd n7
      refine ⟨_, rfl, p7, _, _, .int 0, rfl, rfl, SqL.of upd_same, atI_nat (j := 0) rfl, rfl, _, rfl, ?_⟩
      generalize upd H5_3 p7 (.lst [.int 0, .int 0, .int 0, .int 0]) = H7 at s7 ⊢
      have t7 : Same H H7 := t5.trans s7
      refine iteF ?_
      refine ⟨_, rfl, rfl, _, rfl, ?_⟩
      refine iteT ?_
      refine ⟨_, rfl, rfl, rfl, dd, _, v, rfl, t7 _ _ hd, rfl, v, txt, rfl, hS _ _ _ _ t7 hsd, (by show 2 ≤ sizeLine; decide), fun p n => ?_⟩
      exact q p _ (same_free t7 n) (t7.trans (same_upd n)) upd_same
    · have eC := EK.e2.ec
      have k1 : PySem.W.kitOne X.K (.ref C2) (.ref S1) = some true := EK.e2.k1
      have k2 : PySem.W.kitOne X.K (.ref C2) (.ref S2) = some false := EK.e2.k2
      have k3 : PySem.W.kitOne X.K (.ref C2) (.ref S3) = some false := EK.e2.k3
      have kV : PySem.W.kitOne X.K (.ref C2) (.type "ValueError") = some true := EK.e2.kV
      have kL : PySem.W.kitOne X.K (.ref C2) (.type "LookupError") = some false := EK.e2.kL
      have kA : PySem.W.kitOne X.K (.ref C2) (.type "ArithmeticError") = some false := EK.e2.kA
      refine ⟨_, pss_cons (ps_set (i := 3) scCaught.nd rfl (.inl rfl) (pe_lst (pa_cons (pe_callB (call_isX (X := cxK X g cdg s H0) (a := a) (pn := pn) hz hf) (by rfl) T.isinstance (by decide +kernel) (pa_cons (pv 2) (pa_cons (pe_glob (v := .ref S1) (by rfl) EK.g1 rfl) pa_nil))) (pa_cons (pe_callB (call_isX (X := cxK X g cdg s H0) (a := a) (pn := pn) hz hf) (by rfl) T.isinstance (by decide +kernel) (pa_cons (pv 2) (pa_cons (pe_glob (v := .ref S2) (by rfl) EK.g2 rfl) pa_nil))) (pa_cons (pe_callB (call_isX (X := cxK X g cdg s H0) (a := a) (pn := pn) hz hf) (by rfl) T.isinstance (by decide +kernel) (pa_cons (pv 2) (pa_cons (pe_glob (v := .ref S3) (by rfl) EK.g3 rfl) pa_nil))) pa_nil)))))
          (pss_cons (ps_set (i := 4) scCaught.nd rfl (.inl rfl) (pe_lst (pa_cons (pe_callB (call_isX (X := cxK X g cdg s H0) (a := a) (pn := pn) hz hf) (by rfl) T.isinstance (by decide +kernel) (pa_cons (pv 2) (pa_cons (pe_bltn (v := .ty "ValueError") (u := .type "ValueError") (by rfl) EK.gV (by decide +kernel) rfl) pa_nil))) (pa_cons (pe_callB (call_isX (X := cxK X g cdg s H0) (a := a) (pn := pn) hz hf) (by rfl) T.isinstance (by decide +kernel) (pa_cons (pv 2) (pa_cons (pe_bltn (v := .ty "LookupError") (u := .type "LookupError") (by rfl) EK.gL (by decide +kernel) rfl) pa_nil))) pa_nil))))
          (pss_cons (ps_expr (pe_bm PySem.F.plainAttrs_list PySem.F.slot_list_append PySem.F.type_list_append mt_append (pv 4) (pa_cons (pe_callB (call_isX (X := cxK X g cdg s H0) (a := a) (pn := pn) hz hf) (by rfl) T.isinstance (by decide +kernel) (pa_cons (pv 2) (pa_cons (pe_bltn (v := .ty "ArithmeticError") (u := .type "ArithmeticError") (by rfl) EK.gA (by decide +kernel) rfl) pa_nil))) pa_nil)))
          (pss_cons (ps_set (i := 5) scCaught.nd rfl (.inl rfl) (pe_lst (pa_cons (pe_callB (call_isX (X := cxK X g cdg s H0) (a := a) (pn := pn) hz hf) (by rfl) T.isinstance (by decide +kernel) (pa_cons (pv 2) (pa_cons (pe_glob (v := .ref C1) (by rfl) EK.m1 rfl) pa_nil))) pa_nil)))
          (pss_cons (ps_expr (pe_bm PySem.F.plainAttrs_list PySem.F.slot_list_append PySem.F.type_list_append mt_append (pv 5) (pa_cons (pe_callB (call_isX (X := cxK X g cdg s H0) (a := a) (pn := pn) hz hf) (by rfl) T.isinstance (by decide +kernel) (pa_cons (pv 2) (pa_cons (pe_glob (v := .ref C2) (by rfl) EK.m2 rfl) pa_nil))) pa_nil)))
          (pss_cons (ps_expr (pe_bm PySem.F.plainAttrs_list PySem.F.slot_list_append PySem.F.type_list_append mt_append (pv 5) (pa_cons (pe_callB (call_isX (X := cxK X g cdg s H0) (a := a) (pn := pn) hz hf) (by rfl) T.isinstance (by decide +kernel) (pa_cons (pv 2) (pa_cons (pe_glob (v := .ref C3) (by rfl) EK.m3 rfl) pa_nil))) pa_nil)))
          (pss_cons (ps_expr (pe_bm PySem.F.plainAttrs_list PySem.F.slot_list_append PySem.F.type_list_append mt_append (pv 5) (pa_cons (pe_callB (call_isX (X := cxK X g cdg s H0) (a := a) (pn := pn) hz hf) (by rfl) T.isinstance (by decide +kernel) (pa_cons (pv 2) (pa_cons (pe_glob (v := .ref C4) (by rfl) EK.m4 rfl) pa_nil))) pa_nil)))
          (pss_cons (ps_if (PW.pt (pw_or (pt_cmpR op_ne (pe_bm PySem.F.plainAttrs_list PySem.F.slot_list_count PySem.F.type_list_count mt_lcountB (pv 5) (pa_cons pe_bl pa_nil)) pe_int (nomark _)) (pw_or (pt_cmpR (op_neD (by show X.A.units + 3 + 64 < cLine; omega)) (pv 3) (pv 4) (nomark _)) (pw_or1 (pt_cmpR op_ne (pe_bm PySem.F.plainAttrs_list PySem.F.slot_list_count PySem.F.type_list_count mt_lcountB (pv 3) (pa_cons pe_bl pa_nil)) pe_int (nomark _)))))) (pss_one (ps_ret (pe_lst (pa_cons pe_str pa_nil)))) pss_nil)
          (pss_cons (ps_set (i := 6) scCaught.nd rfl (.inl rfl) (pe_bm PySem.F.plainAttrs_list PySem.F.slot_list_index PySem.F.type_list_index mt_index (pv 5) (pa_cons pe_bl pa_nil)))
          (pss_cons (ps_if (pt_cmpR op_ne (pe_bm PySem.F.plainAttrs_list PySem.F.slot_list_index PySem.F.type_list_index mt_index (pv 3) (pa_cons pe_bl pa_nil)) (pe_ix ix_list (pe_lst (pa_cons pe_int (pa_cons pe_int (pa_cons pe_int (pa_cons pe_int pa_nil))))) (pv 6) (fun _ _ => rfl)) (nomark _)) (pss_one (ps_ret (pe_lst (pa_cons pe_str pa_nil)))) pss_nil)
          (pss_cons (ps_if (pt_cmpR op_eq (pv 6) pe_int (nomark _)) (pss_one (ps_ret (pe_lst (pa_cons pe_str (pa_cons (pe_callB hR (by rfl) T.repr (by decide +kernel) (pa_cons (pe_xf EK.e1.xf EK.i1 hz hf (pv 2)) pa_nil)) pa_nil))))) pss_nil)
          (pss_cons (ps_if (pt_cmpR op_eq (pv 6) pe_int (nomark _)) (pss_one (ps_ret (pe_lst (pa_cons pe_str (pa_cons (pe_callB hR (by rfl) T.repr (by decide +kernel) (pa_cons (pe_xf EK.e2.xf EK.i2 hz hf (pv 2)) pa_nil)) pa_nil))))) pss_nil)
          (pss_cons (ps_if (pt_cmpR op_eq (pv 6) pe_int (nomark _)) (pss_one (ps_ret (pe_lst (pa_cons pe_str (pa_cons (pe_callB hR (by rfl) T.repr (by decide +kernel) (pa_cons (pe_xf EK.e3.xf EK.i3 hz hf (pv 2)) pa_nil)) pa_nil))))) pss_nil)
          (pss_one (ps_if (pt_cmpR op_eq (pv 6) pe_int (nomark _)) (pss_one (ps_ret (pe_lst (pa_cons pe_str (pa_cons (pe_callB hR (by rfl) T.repr (by decide +kernel) (pa_cons (pe_xf EK.e4.xf EK.i4 hz hf (pv 2)) pa_nil)) pa_nil))))) pss_nil)))))))))))))), ?_⟩
      refine ⟨_, rfl, C2, rfl, eC, _, _, _, dd, _, rfl, rfl, hd, (fun u h => h), k1, _, rfl, C2, rfl, eC, _, _, _, dd, _, rfl, rfl, hd, (fun u h => h), k2, _, rfl, C2, rfl, eC, _, _, _, dd, _, rfl, rfl, hd, (fun u h => h), k3, (by show 3 ≤ sizeLine; decide), fun p3 n3 => ?_⟩
      have s3 : Same H (upd H p3 (.lst [.bl true, .bl false, .bl false])) := same_upd n3
      generalize e3 : upd H p3 (.lst [.bl true, .bl false, .bl false]) = H3 at s3 ⊢
      have h3 : H3 p3 = some (.lst [.bl true, .bl false, .bl false]) := by rw [← e3]; exact upd_same
      clear e3
      have hd3 := s3 _ _ hd
      refine ⟨_, rfl, C2, rfl, eC, _, _, _, dd, _, rfl, rfl, hd3, (fun u h => h), kV, _, rfl, C2, rfl, eC, _, _, _, dd, _, rfl, rfl, hd3, (fun u h => h), kL, (by show 2 ≤ sizeLine; decide), fun p4 n4 => ?_⟩
      have hd4 : upd H3 p4 (.lst [.bl true, .bl false]) dd = some (.xd _) := same_upd n4 _ _ hd3
      refine ⟨_, rfl, .inl ⟨rfl, _, SqL.of upd_same⟩, _, rfl, C2, rfl, eC, _, _, _, dd, _, rfl, rfl, hd4, (fun u h => h), kA, p4, _, _, rfl, rfl, upd_same, (by show 2 < sizeLine; decide), ?_⟩
      have f4 : H p4 = none := same_free s3 n4
      have s4 := grow_keep (H := H3) (p := p4) (xs := [.bl true, .bl false]) (ys := [.bl false])
      generalize e4 : upd (upd H3 p4 (.lst [.bl true, .bl false])) p4 (.lst ([.bl true, .bl false] ++ [.bl false])) = H4 at s4 ⊢
      have h4 : H4 p4 = some (.lst [.bl true, .bl false, .bl false]) := by rw [← e4]; exact upd_same
      clear e4
      have t4 : Same H H4 := fun b o e => s4 b o (ne_of_none e f4) (s3 _ _ e)
      have h43 : H4 p3 = some (.lst [.bl true, .bl false, .bl false]) := s4 _ _ (ne_of_none h3 n4) h3
      have hd5 := t4 _ _ hd
      refine ⟨_, rfl, C2, rfl, eC, _, _, _, dd, _, rfl, rfl, hd5, (fun u h => h), EK.k2_1, (by show 1 ≤ sizeLine; decide), fun p5 n5 => ?_⟩
      have f5 : H p5 = none := same_free t4 n5
      have s5_0 : ∀ b o, b ≠ p5 → H4 b = some o → upd H4 p5 (.lst [.bl false]) b = some o := fun b o n e => by rw [upd_ne n]; exact e
      generalize e5 : upd H4 p5 (.lst [.bl false]) = H5_0 at s5_0 ⊢
      have h5_0 : H5_0 p5 = some (.lst [.bl false]) := by rw [← e5]; exact upd_same
      clear e5
      have hdx1 := s5_0 _ _ (ne_of_none hd5 n5) hd5
      refine ⟨_, rfl, .inl ⟨rfl, _, SqL.of h5_0⟩, _, rfl, C2, rfl, eC, _, _, _, dd, _, rfl, rfl, hdx1, (fun u h => h), EK.k2_2, p5, _, _, rfl, rfl, h5_0, (by show 1 < sizeLine; decide), ?_⟩
      have s5_1 : ∀ b o, b ≠ p5 → H4 b = some o → upd H5_0 p5 (.lst ([.bl false] ++ [.bl true])) b = some o := fun b o n e => by rw [upd_ne n]; exact s5_0 b o n e
      generalize e5 : upd H5_0 p5 (.lst ([.bl false] ++ [.bl true])) = H5_1 at s5_1 ⊢
      have h5_1 : H5_1 p5 = some (.lst [.bl false, .bl true]) := by rw [← e5]; exact upd_same
      clear e5
      have hdx2 := s5_1 _ _ (ne_of_none hd5 n5) hd5
      refine ⟨_, rfl, .inl ⟨rfl, _, SqL.of h5_1⟩, _, rfl, C2, rfl, eC, _, _, _, dd, _, rfl, rfl, hdx2, (fun u h => h), EK.k2_3, p5, _, _, rfl, rfl, h5_1, (by show 2 < sizeLine; decide), ?_⟩
      have s5_2 : ∀ b o, b ≠ p5 → H4 b = some o → upd H5_1 p5 (.lst ([.bl false, .bl true] ++ [.bl false])) b = some o := fun b o n e => by rw [upd_ne n]; exact s5_1 b o n e
      generalize e5 : upd H5_1 p5 (.lst ([.bl false, .bl true] ++ [.bl false])) = H5_2 at s5_2 ⊢
      have h5_2 : H5_2 p5 = some (.lst [.bl false, .bl true, .bl false]) := by rw [← e5]; exact upd_same
      clear e5
      have hdx3 := s5_2 _ _ (ne_of_none hd5 n5) hd5
      refine ⟨_, rfl, .inl ⟨rfl, _, SqL.of h5_2⟩, _, rfl, C2, rfl, eC, _, _, _, dd, _, rfl, rfl, hdx3, (fun u h => h), EK.k2_4, p5, _, _, rfl, rfl, h5_2, (by show 3 < sizeLine; decide), ?_⟩
      have s5_3 : ∀ b o, b ≠ p5 → H4 b = some o → upd H5_2 p5 (.lst ([.bl false, .bl true, .bl false] ++ [.bl false])) b = some o := fun b o n e => by rw [upd_ne n]; exact s5_2 b o n e
      generalize e5 : upd H5_2 p5 (.lst ([.bl false, .bl true, .bl false] ++ [.bl false])) = H5_3 at s5_3 ⊢
      have h5_3 : H5_3 p5 = some (.lst [.bl false, .bl true, .bl false, .bl false]) := by rw [← e5]; exact upd_same
      clear e5
      have t5 : Same H H5_3 := fun b o e => s5_3 b o (ne_of_none e f5) (t4 _ _ e)
      have h53 : H5_3 p3 = some (.lst [.bl true, .bl false, .bl false]) := s5_3 _ _ (ne_of_none h43 n5) h43
      have h54 : H5_3 p4 = some (.lst [.bl true, .bl false, .bl false]) := s5_3 _ _ (ne_of_none h4 n5) h4
      have dp : ∀ {p : Addr}, H5_3 p = some (.lst [.bl true, .bl false, .bl false]) → Dp X.K H5_3 (.ref p) (.list [.bool true, .bool false, .bool false]) := fun e => .lst (SqL.of e) (.cons (.bl _) (.cons (.bl _) (.cons (.bl _) .nil)))
      refine ⟨_, rfl, .inl ⟨rfl, _, SqL.of h5_3⟩, p5, [false, true, false, false], rfl, rfl, SqL.of h5_3, rfl, _, rfl, ?_⟩
      refine iteF ?_
      refine ⟨_, rfl, _, rfl, _, _, dp h53, dp h54, by decide +kernel, by decide +kernel, _, rfl, ?_⟩
      refine iteF ?_
      refine ⟨_, rfl, .inl ⟨rfl, _, SqL.of h53⟩, p3, [true, false, false], rfl, rfl, SqL.of h53, rfl, _, rfl, ?_⟩
      refine iteF ?_
      refine ⟨_, rfl, .inl ⟨rfl, _, SqL.of h5_3⟩, p5, _, _, 1, .bl true, rfl, rfl, SqL.of h5_3, rfl, rfl, rfl, rfl, (fun m z hm hz => first_at (bs := [false, true, false, false]) (n := 1) (by decide) hm hz), ?_⟩
      refine ⟨_, rfl, .inl ⟨rfl, _, SqL.of h53⟩, p3, _, _, 0, .bl true, rfl, rfl, SqL.of h53, rfl, rfl, rfl, rfl, (fun m z hm => absurd hm (Nat.not_lt_zero m)), (by show 4 ≤ sizeLine; decide), fun p7 n7 => ?_⟩
      have s7 : Same H5_3 (upd H5_3 p7 (.lst [.int 0, .int 0, .int 0, .int 0])) := same_upd n7
      refine ⟨_, rfl, p7, _, _, .int 0, rfl, rfl, SqL.of upd_same, atI_nat (j := 1) rfl, rfl, _, rfl, ?_⟩
      generalize upd H5_3 p7 (.lst [.int 0, .int 0, .int 0, .int 0]) = H7 at s7 ⊢
      have t7 : Same H H7 := t5.trans s7
      refine iteF ?_
      refine ⟨_, rfl, rfl, _, rfl, ?_⟩
      refine iteF ?_
      refine ⟨_, rfl, rfl, _, rfl, ?_⟩
      refine iteT ?_
      refine ⟨_, rfl, rfl, rfl, dd, _, v, rfl, t7 _ _ hd, rfl, v, txt, rfl, hS _ _ _ _ t7 hsd, (by show 2 ≤ sizeLine; decide), fun p n => ?_⟩
      exact q p _ (same_free t7 n) (t7.trans (same_upd n)) upd_same
    · have eC := EK.e3.ec
      have k1 : PySem.W.kitOne X.K (.ref C3) (.ref S1) = some true := EK.e3.k1
      have k2 : PySem.W.kitOne X.K (.ref C3) (.ref S2) = some false := EK.e3.k2
      have k3 : PySem.W.kitOne X.K (.ref C3) (.ref S3) = some false := EK.e3.k3
      have kV : PySem.W.kitOne X.K (.ref C3) (.type "ValueError") = some true := EK.e3.kV
      have kL : PySem.W.kitOne X.K (.ref C3) (.type "LookupError") = some false := EK.e3.kL
      have kA : PySem.W.kitOne X.K (.ref C3) (.type "ArithmeticError") = some false := EK.e3.kA
      refine ⟨_, pss_cons (ps_set (i := 3) scCaught.nd rfl (.inl rfl) (pe_lst (pa_cons (pe_callB (call_isX (X := cxK X g cdg s H0) (a := a) (pn := pn) hz hf) (by rfl) T.isinstance (by decide +kernel) (pa_cons (pv 2) (pa_cons (pe_glob (v := .ref S1) (by rfl) EK.g1 rfl) pa_nil))) (pa_cons (pe_callB (call_isX (X := cxK X g cdg s H0) (a := a) (pn := pn) hz hf) (by rfl) T.isinstance (by decide +kernel) (pa_cons (pv 2) (pa_cons (pe_glob (v := .ref S2) (by rfl) EK.g2 rfl) pa_nil))) (pa_cons (pe_callB (call_isX (X := cxK X g cdg s H0) (a := a) (pn := pn) hz hf) (by rfl) T.isinstance (by decide +kernel) (pa_cons (pv 2) (pa_cons (pe_glob (v := .ref S3) (by rfl) EK.g3 rfl) pa_nil))) pa_nil)))))
          (pss_cons (ps_set (i := 4) scCaught.nd rfl (.inl rfl) (pe_lst (pa_cons (pe_callB (call_isX (X := cxK X g cdg s H0) (a := a) (pn := pn) hz hf) (by rfl) T.isinstance (by decide +kernel) (pa_cons (pv 2) (pa_cons (pe_bltn (v := .ty "ValueError") (u := .type "ValueError") (by rfl) EK.gV (by decide +kernel) rfl) pa_nil))) (pa_cons (pe_callB (call_isX (X := cxK X g cdg s H0) (a := a) (pn := pn) hz hf) (by rfl) T.isinstance (by decide +kernel) (pa_cons (pv 2) (pa_cons (pe_bltn (v := .ty "LookupError") (u := .type "LookupError") (by rfl) EK.gL (by decide +kernel) rfl) pa_nil))) pa_nil))))
          (pss_cons (ps_expr (pe_bm PySem.F.plainAttrs_list PySem.F.slot_list_append PySem.F.type_list_append mt_append (pv 4) (pa_cons (pe_callB (call_isX (X := cxK X g cdg s H0) (a := a) (pn := pn) hz hf) (by rfl) T.isinstance (by decide +kernel) (pa_cons (pv 2) (pa_cons (pe_bltn (v := .ty "ArithmeticError") (u := .type "ArithmeticError") (by rfl) EK.gA (by decide +kernel) rfl) pa_nil))) pa_nil)))
          (pss_cons (ps_set (i := 5) scCaught.nd rfl (.inl rfl) (pe_lst (pa_cons (pe_callB (call_isX (X := cxK X g cdg s H0) (a := a) (pn := pn) hz hf) (by rfl) T.isinstance (by decide +kernel) (pa_cons (pv 2) (pa_cons (pe_glob (v := .ref C1) (by rfl) EK.m1 rfl) pa_nil))) pa_nil)))
          (pss_cons (ps_expr (pe_bm PySem.F.plainAttrs_list PySem.F.slot_list_append PySem.F.type_list_append mt_append (pv 5) (pa_cons (pe_callB (call_isX (X := cxK X g cdg s H0) (a := a) (pn := pn) hz hf) (by rfl) T.isinstance (by decide +kernel) (pa_cons (pv 2) (pa_cons (pe_glob (v := .ref C2) (by rfl) EK.m2 rfl) pa_nil))) pa_nil)))
          (pss_cons (ps_expr (pe_bm PySem.F.plainAttrs_list PySem.F.slot_list_append PySem.F.type_list_append mt_append (pv 5) (pa_cons (pe_callB (call_isX (X := cxK X g cdg s H0) (a := a) (pn := pn) hz hf) (by rfl) T.isinstance (by decide +kernel) (pa_cons (pv 2) (pa_cons (pe_glob (v := .ref C3) (by rfl) EK.m3 rfl) pa_nil))) pa_nil)))
          (pss_cons (ps_expr (pe_bm PySem.F.plainAttrs_list PySem.F.slot_list_append PySem.F.type_list_append mt_append (pv 5) (pa_cons (pe_callB (call_isX (X := cxK X g cdg s H0) (a := a) (pn := pn) hz hf) (by rfl) T.isinstance (by decide +kernel) (pa_cons (pv 2) (pa_cons (pe_glob (v := .ref C4) (by rfl) EK.m4 rfl) pa_nil))) pa_nil)))
          (pss_cons (ps_if (PW.pt (pw_or (pt_cmpR op_ne (pe_bm PySem.F.plainAttrs_list PySem.F.slot_list_count PySem.F.type_list_count mt_lcountB (pv 5) (pa_cons pe_bl pa_nil)) pe_int (nomark _)) (pw_or (pt_cmpR (op_neD (by show X.A.units + 3 + 64 < cLine; omega)) (pv 3) (pv 4) (nomark _)) (pw_or1 (pt_cmpR op_ne (pe_bm PySem.F.plainAttrs_list PySem.F.slot_list_count PySem.F.type_list_count mt_lcountB (pv 3) (pa_cons pe_bl pa_nil)) pe_int (nomark _)))))) (pss_one (ps_ret (pe_lst (pa_cons pe_str pa_nil)))) pss_nil)
          (pss_cons (ps_set (i := 6) scCaught.nd rfl (.inl rfl) (pe_bm PySem.F.plainAttrs_list PySem.F.slot_list_index PySem.F.type_list_index mt_index (pv 5) (pa_cons pe_bl pa_nil)))
          (pss_cons (ps_if (pt_cmpR op_ne (pe_bm PySem.F.plainAttrs_list PySem.F.slot_list_index PySem.F.type_list_index mt_index (pv 3) (pa_cons pe_bl pa_nil)) (pe_ix ix_list (pe_lst (pa_cons pe_int (pa_cons pe_int (pa_cons pe_int (pa_cons pe_int pa_nil))))) (pv 6) (fun _ _ => rfl)) (nomark _)) (pss_one (ps_ret (pe_lst (pa_cons pe_str pa_nil)))) pss_nil)
          (pss_cons (ps_if (pt_cmpR op_eq (pv 6) pe_int (nomark _)) (pss_one (ps_ret (pe_lst (pa_cons pe_str (pa_cons (pe_callB hR (by rfl) T.repr (by decide +kernel) (pa_cons (pe_xf EK.e1.xf EK.i1 hz hf (pv 2)) pa_nil)) pa_nil))))) pss_nil)
          (pss_cons (ps_if (pt_cmpR op_eq (pv 6) pe_int (nomark _)) (pss_one (ps_ret (pe_lst (pa_cons pe_str (pa_cons (pe_callB hR (by rfl) T.repr (by decide +kernel) (pa_cons (pe_xf EK.e2.xf EK.i2 hz hf (pv 2)) pa_nil)) pa_nil))))) pss_nil)
          (pss_cons (ps_if (pt_cmpR op_eq (pv 6) pe_int (nomark _)) (pss_one (ps_ret (pe_lst (pa_cons pe_str (pa_cons (pe_callB hR (by rfl) T.repr (by decide +kernel) (pa_cons (pe_xf EK.e3.xf EK.i3 hz hf (pv 2)) pa_nil)) pa_nil))))) pss_nil)
          (pss_one (ps_if (pt_cmpR op_eq (pv 6) pe_int (nomark _)) (pss_one (ps_ret (pe_lst (pa_cons pe_str (pa_cons (pe_callB hR (by rfl) T.repr (by decide +kernel) (pa_cons (pe_xf EK.e4.xf EK.i4 hz hf (pv 2)) pa_nil)) pa_nil))))) pss_nil)))))))))))))), ?_⟩
      refine ⟨_, rfl, C3, rfl, eC, _, _, _, dd, _, rfl, rfl, hd, (fun u h => h), k1, _, rfl, C3, rfl, eC, _, _, _, dd, _, rfl, rfl, hd, (fun u h => h), k2, _, rfl, C3, rfl, eC, _, _, _, dd, _, rfl, rfl, hd, (fun u h => h), k3, (by show 3 ≤ sizeLine; decide), fun p3 n3 => ?_⟩
      have s3 : Same H (upd H p3 (.lst [.bl true, .bl false, .bl false])) := same_upd n3
      generalize e3 : upd H p3 (.lst [.bl true, .bl false, .bl false]) = H3 at s3 ⊢
      have h3 : H3 p3 = some (.lst [.bl true, .bl false, .bl false]) := by rw [← e3]; exact upd_same
      clear e3
      have hd3 := s3 _ _ hd
      refine ⟨_, rfl, C3, rfl, eC, _, _, _, dd, _, rfl, rfl, hd3, (fun u h => h), kV, _, rfl, C3, rfl, eC, _, _, _, dd, _, rfl, rfl, hd3, (fun u h => h), kL, (by show 2 ≤ sizeLine; decide), fun p4 n4 => ?_⟩
      have hd4 : upd H3 p4 (.lst [.bl true, .bl false]) dd = some (.xd _) := same_upd n4 _ _ hd3
      refine ⟨_, rfl, .inl ⟨rfl, _, SqL.of upd_same⟩, _, rfl, C3, rfl, eC, _, _, _, dd, _, rfl, rfl, hd4, (fun u h => h), kA, p4, _, _, rfl, rfl, upd_same, (by show 2 < sizeLine; decide), ?_⟩
      have f4 : H p4 = none := same_free s3 n4
      have s4 := grow_keep (H := H3) (p := p4) (xs := [.bl true, .bl false]) (ys := [.bl false])
      generalize e4 : upd (upd H3 p4 (.lst [.bl true, .bl false])) p4 (.lst ([.bl true, .bl false] ++ [.bl false])) = H4 at s4 ⊢
      have h4 : H4 p4 = some (.lst [.bl true, .bl false, .bl false]) := by rw [← e4]; exact upd_same
      clear e4
      have t4 : Same H H4 := fun b o e => s4 b o (ne_of_none e f4) (s3 _ _ e)
      have h43 : H4 p3 = some (.lst [.bl true, .bl false, .bl false]) := s4 _ _ (ne_of_none h3 n4) h3
      have hd5 := t4 _ _ hd
      refine ⟨_, rfl, C3, rfl, eC, _, _, _, dd, _, rfl, rfl, hd5, (fun u h => h), EK.k3_1, (by show 1 ≤ sizeLine; decide), fun p5 n5 => ?_⟩
      have f5 : H p5 = none := same_free t4 n5
      have s5_0 : ∀ b o, b ≠ p5 → H4 b = some o → upd H4 p5 (.lst [.bl false]) b = some o := fun b o n e => by rw [upd_ne n]; exact e
      generalize e5 : upd H4 p5 (.lst [.bl false]) = H5_0 at s5_0 ⊢
      have h5_0 : H5_0 p5 = some (.lst [.bl false]) := by rw [← e5]; exact upd_same
      clear e5
      have hdx1 := s5_0 _ _ (ne_of_none hd5 n5) hd5
      refine ⟨_, rfl, .inl ⟨rfl, _, SqL.of h5_0⟩, _, rfl, C3, rfl, eC, _, _, _, dd, _, rfl, rfl, hdx1, (fun u h => h), EK.k3_2, p5, _, _, rfl, rfl, h5_0, (by show 1 < sizeLine; decide), ?_⟩
      have s5_1 : ∀ b o, b ≠ p5 → H4 b = some o → upd H5_0 p5 (.lst ([.bl false] ++ [.bl false])) b = some o := fun b o n e => by rw [upd_ne n]; exact s5_0 b o n e
      generalize e5 : upd H5_0 p5 (.lst ([.bl false] ++ [.bl false])) = H5_1 at s5_1 ⊢
      have h5_1 : H5_1 p5 = some (.lst [.bl false, .bl false]) := by rw [← e5]; exact upd_same
      clear e5
      have hdx2 := s5_1 _ _ (ne_of_none hd5 n5) hd5
      refine ⟨_, rfl, .inl ⟨rfl, _, SqL.of h5_1⟩, _, rfl, C3, rfl, eC, _, _, _, dd, _, rfl, rfl, hdx2, (fun u h => h), EK.k3_3, p5, _, _, rfl, rfl, h5_1, (by show 2 < sizeLine; decide), ?_⟩
      have s5_2 : ∀ b o, b ≠ p5 → H4 b = some o → upd H5_1 p5 (.lst ([.bl false, .bl false] ++ [.bl true])) b = some o := fun b o n e => by rw [upd_ne n]; exact s5_1 b o n e
      generalize e5 : upd H5_1 p5 (.lst ([.bl false, .bl false] ++ [.bl true])) = H5_2 at s5_2 ⊢
      have h5_2 : H5_2 p5 = some (.lst [.bl false, .bl false, .bl true]) := by rw [← e5]; exact upd_same
      clear e5
      have hdx3 := s5_2 _ _ (ne_of_none hd5 n5) hd5
      refine ⟨_, rfl, .inl ⟨rfl, _, SqL.of h5_2⟩, _, rfl, C3, rfl, eC, _, _, _, dd, _, rfl, rfl, hdx3, (fun u h => h), EK.k3_4, p5, _, _, rfl, rfl, h5_2, (by show 3 < sizeLine; decide), ?_⟩
      have s5_3 : ∀ b o, b ≠ p5 → H4 b = some o → upd H5_2 p5 (.lst ([.bl false, .bl false, .bl true] ++ [.bl false])) b = some o := fun b o n e => by rw [upd_ne n]; exact s5_2 b o n e
      generalize e5 : upd H5_2 p5 (.lst ([.bl false, .bl false, .bl true] ++ [.bl false])) = H5_3 at s5_3 ⊢
      have h5_3 : H5_3 p5 = some (.lst [.bl false, .bl false, .bl true, .bl false]) := by rw [← e5]; exact upd_same
      clear e5
      have t5 : Same H H5_3 := fun b o e => s5_3 b o (ne_of_none e f5) (t4 _ _ e)
      have h53 : H5_3 p3 = some (.lst [.bl true, .bl false, .bl false]) := s5_3 _ _ (ne_of_none h43 n5) h43
      have h54 : H5_3 p4 = some (.lst [.bl true, .bl false, .bl false]) := s5_3 _ _ (ne_of_none h4 n5) h4
      have dp : ∀ {p : Addr}, H5_3 p = some (.lst [.bl true, .bl false, .bl false]) → Dp X.K H5_3 (.ref p) (.list [.bool true, .bool false, .bool false]) := fun e => .lst (SqL.of e) (.cons (.bl _) (.cons (.bl _) (.cons (.bl _) .nil)))
      refine ⟨_, rfl, .inl ⟨rfl, _, SqL.of h5_3⟩, p5, [false, false, true, false], rfl, rfl, SqL.of h5_3, rfl, _, rfl, ?_⟩
      refine iteF ?_
      refine ⟨_, rfl, _, rfl, _, _, dp h53, dp h54, by decide +kernel, by decide +kernel, _, rfl, ?_⟩
      refine iteF ?_
      refine ⟨_, rfl, .inl ⟨rfl, _, SqL.of h53⟩, p3, [true, false, false], rfl, rfl, SqL.of h53, rfl, _, rfl, ?_⟩
      refine iteF ?_
      refine ⟨_, rfl, .inl ⟨rfl, _, SqL.of h5_3⟩, p5, _, _, 2, .bl true, rfl, rfl, SqL.of h5_3, rfl, rfl, rfl, rfl, (fun m z hm hz => first_at (bs := [false, false, true, false]) (n := 2) (by decide) hm hz), ?_⟩
      refine ⟨_, rfl, .inl ⟨rfl, _, SqL.of h53⟩, p3, _, _, 0, .bl true, rfl, rfl, SqL.of h53, rfl, rfl, rfl, rfl, (fun m z hm => absurd hm (Nat.not_lt_zero m)), (by show 4 ≤ sizeLine; decide), fun p7 n7 => ?_⟩
      have s7 : Same H5_3 (upd H5_3 p7 (.lst [.int 0, .int 0, .int 0, .int 0])) := same_upd n7
      refine ⟨_, rfl, p7, _, _, .int 0, rfl, rfl, SqL.of upd_same, atI_nat (j := 2) rfl, rfl, _, rfl, ?_⟩
      generalize upd H5_3 p7 (.lst [.int 0, .int 0, .int 0, .int 0]) = H7 at s7 ⊢
      have t7 : Same H H7 := t5.trans s7
      refine iteF ?_
      refine ⟨_, rfl, rfl, _, rfl, ?_⟩
      refine iteF ?_
      refine ⟨_, rfl, rfl, _, rfl, ?_⟩
      refine iteF ?_
      refine ⟨_, rfl, rfl, _, rfl, ?_⟩
      refine iteT ?_
      refine ⟨_, rfl, rfl, rfl, dd, _, v, rfl, t7 _ _ hd, rfl, v, txt, rfl, hS _ _ _ _ t7 hsd, (by show 2 ≤ sizeLine; decide), fun p n => ?_⟩
      exact q p _ (same_free t7 n) (t7.trans (same_upd n)) upd_same
    · have eC := EK.e4.ec
      have k1 : PySem.W.kitOne X.K (.ref C4) (.ref S1) = some true := EK.e4.k1
      have k2 : PySem.W.kitOne X.K (.ref C4) (.ref S2) = some false := EK.e4.k2
      have k3 : PySem.W.kitOne X.K (.ref C4) (.ref S3) = some false := EK.e4.k3
      have kV : PySem.W.kitOne X.K (.ref C4) (.type "ValueError") = some true := EK.e4.kV
      have kL : PySem.W.kitOne X.K (.ref C4) (.type "LookupError") = some false := EK.e4.kL
      have kA : PySem.W.kitOne X.K (.ref C4) (.type "ArithmeticError") = some false := EK.e4.kA
      refine ⟨_, pss_cons (ps_set (i := 3) scCaught.nd rfl (.inl rfl) (pe_lst (pa_cons (pe_callB (call_isX (X := cxK X g cdg s H0) (a := a) (pn := pn) hz hf) (by rfl) T.isinstance (by decide +kernel) (pa_cons (pv 2) (pa_cons (pe_glob (v := .ref S1) (by rfl) EK.g1 rfl) pa_nil))) (pa_cons (pe_callB (call_isX (X := cxK X g cdg s H0) (a := a) (pn := pn) hz hf) (by rfl) T.isinstance (by decide +kernel) (pa_cons (pv 2) (pa_cons (pe_glob (v := .ref S2) (by rfl) EK.g2 rfl) pa_nil))) (pa_cons (pe_callB (call_isX (X := cxK X g cdg s H0) (a := a) (pn := pn) hz hf) (by rfl) T.isinstance (by decide +kernel) (pa_cons (pv 2) (pa_cons (pe_glob (v := .ref S3) (by rfl) EK.g3 rfl) pa_nil))) pa_nil)))))
          (pss_cons (ps_set (i := 4) scCaught.nd rfl (.inl rfl) (pe_lst (pa_cons (pe_callB (call_isX (X := cxK X g cdg s H0) (a := a) (pn := pn) hz hf) (by rfl) T.isinstance (by decide +kernel) (pa_cons (pv 2) (pa_cons (pe_bltn (v := .ty "ValueError") (u := .type "ValueError") (by rfl) EK.gV (by decide +kernel) rfl) pa_nil))) (pa_cons (pe_callB (call_isX (X := cxK X g cdg s H0) (a := a) (pn := pn) hz hf) (by rfl) T.isinstance (by decide +kernel) (pa_cons (pv 2) (pa_cons (pe_bltn (v := .ty "LookupError") (u := .type "LookupError") (by rfl) EK.gL (by decide +kernel) rfl) pa_nil))) pa_nil))))
          (pss_cons (ps_expr (pe_bm PySem.F.plainAttrs_list PySem.F.slot_list_append PySem.F.type_list_append mt_append (pv 4) (pa_cons (pe_callB (call_isX (X := cxK X g cdg s H0) (a := a) (pn := pn) hz hf) (by rfl) T.isinstance (by decide +kernel) (pa_cons (pv 2) (pa_cons (pe_bltn (v := .ty "ArithmeticError") (u := .type "ArithmeticError") (by rfl) EK.gA (by decide +kernel) rfl) pa_nil))) pa_nil)))
          (pss_cons (ps_set (i := 5) scCaught.nd rfl (.inl rfl) (pe_lst (pa_cons (pe_callB (call_isX (X := cxK X g cdg s H0) (a := a) (pn := pn) hz hf) (by rfl) T.isinstance (by decide +kernel) (pa_cons (pv 2) (pa_cons (pe_glob (v := .ref C1) (by rfl) EK.m1 rfl) pa_nil))) pa_nil)))
          (pss_cons (ps_expr (pe_bm PySem.F.plainAttrs_list PySem.F.slot_list_append PySem.F.type_list_append mt_append (pv 5) (pa_cons (pe_callB (call_isX (X := cxK X g cdg s H0) (a := a) (pn := pn) hz hf) (by rfl) T.isinstance (by decide +kernel) (pa_cons (pv 2) (pa_cons (pe_glob (v := .ref C2) (by rfl) EK.m2 rfl) pa_nil))) pa_nil)))
          (pss_cons (ps_expr (pe_bm PySem.F.plainAttrs_list PySem.F.slot_list_append PySem.F.type_list_append mt_append (pv 5) (pa_cons (pe_callB (call_isX (X := cxK X g cdg s H0) (a := a) (pn := pn) hz hf) (by rfl) T.isinstance (by decide +kernel) (pa_cons (pv 2) (pa_cons (pe_glob (v := .ref C3) (by rfl) EK.m3 rfl) pa_nil))) pa_nil)))
          (pss_cons (ps_expr (pe_bm PySem.F.plainAttrs_list PySem.F.slot_list_append PySem.F.type_list_append mt_append (pv 5) (pa_cons (pe_callB (call_isX (X := cxK X g cdg s H0) (a := a) (pn := pn) hz hf) (by rfl) T.isinstance (by decide +kernel) (pa_cons (pv 2) (pa_cons (pe_glob (v := .ref C4) (by rfl) EK.m4 rfl) pa_nil))) pa_nil)))
          (pss_cons (ps_if (PW.pt (pw_or (pt_cmpR op_ne (pe_bm PySem.F.plainAttrs_list PySem.F.slot_list_count PySem.F.type_list_count mt_lcountB (pv 5) (pa_cons pe_bl pa_nil)) pe_int (nomark _)) (pw_or (pt_cmpR (op_neD (by show X.A.units + 3 + 64 < cLine; omega)) (pv 3) (pv 4) (nomark _)) (pw_or1 (pt_cmpR op_ne (pe_bm PySem.F.plainAttrs_list PySem.F.slot_list_count PySem.F.type_list_count mt_lcountB (pv 3) (pa_cons pe_bl pa_nil)) pe_int (nomark _)))))) (pss_one (ps_ret (pe_lst (pa_cons pe_str pa_nil)))) pss_nil)
          (pss_cons (ps_set (i := 6) scCaught.nd rfl (.inl rfl) (pe_bm PySem.F.plainAttrs_list PySem.F.slot_list_index PySem.F.type_list_index mt_index (pv 5) (pa_cons pe_bl pa_nil)))
          (pss_cons (ps_if (pt_cmpR op_ne (pe_bm PySem.F.plainAttrs_list PySem.F.slot_list_index PySem.F.type_list_index mt_index (pv 3) (pa_cons pe_bl pa_nil)) (pe_ix ix_list (pe_lst (pa_cons pe_int (pa_cons pe_int (pa_cons pe_int (pa_cons pe_int pa_nil))))) (pv 6) (fun _ _ => rfl)) (nomark _)) (pss_one (ps_ret (pe_lst (pa_cons pe_str pa_nil)))) pss_nil)
          (pss_cons (ps_if (pt_cmpR op_eq (pv 6) pe_int (nomark _)) (pss_one (ps_ret (pe_lst (pa_cons pe_str (pa_cons (pe_callB hR (by rfl) T.repr (by decide +kernel) (pa_cons (pe_xf EK.e1.xf EK.i1 hz hf (pv 2)) pa_nil)) pa_nil))))) pss_nil)
          (pss_cons (ps_if (pt_cmpR op_eq (pv 6) pe_int (nomark _)) (pss_one (ps_ret (pe_lst (pa_cons pe_str (pa_cons (pe_callB hR (by rfl) T.repr (by decide +kernel) (pa_cons (pe_xf EK.e2.xf EK.i2 hz hf (pv 2)) pa_nil)) pa_nil))))) pss_nil)
          (pss_cons (ps_if (pt_cmpR op_eq (pv 6) pe_int (nomark _)) (pss_one (ps_ret (pe_lst (pa_cons pe_str (pa_cons (pe_callB hR (by rfl) T.repr (by decide +kernel) (pa_cons (pe_xf EK.e3.xf EK.i3 hz hf (pv 2)) pa_nil)) pa_nil))))) pss_nil)
          (pss_one (ps_if (pt_cmpR op_eq (pv 6) pe_int (nomark _)) (pss_one (ps_ret (pe_lst (pa_cons pe_str (pa_cons (pe_callB hR (by rfl) T.repr (by decide +kernel) (pa_cons (pe_xf EK.e4.xf EK.i4 hz hf (pv 2)) pa_nil)) pa_nil))))) pss_nil)))))))))))))), ?_⟩
      refine ⟨_, rfl, C4, rfl, eC, _, _, _, dd, _, rfl, rfl, hd, (fun u h => h), k1, _, rfl, C4, rfl, eC, _, _, _, dd, _, rfl, rfl, hd, (fun u h => h), k2, _, rfl, C4, rfl, eC, _, _, _, dd, _, rfl, rfl, hd, (fun u h => h), k3, (by show 3 ≤ sizeLine; decide), fun p3 n3 => ?_⟩
      have s3 : Same H (upd H p3 (.lst [.bl true, .bl false, .bl false])) := same_upd n3
      generalize e3 : upd H p3 (.lst [.bl true, .bl false, .bl false]) = H3 at s3 ⊢
      have h3 : H3 p3 = some (.lst [.bl true, .bl false, .bl false]) := by rw [← e3]; exact upd_same
      clear e3
      have hd3 := s3 _ _ hd
      refine ⟨_, rfl, C4, rfl, eC, _, _, _, dd, _, rfl, rfl, hd3, (fun u h => h), kV, _, rfl, C4, rfl, eC, _, _, _, dd, _, rfl, rfl, hd3, (fun u h => h), kL, (by show 2 ≤ sizeLine; decide), fun p4 n4 => ?_⟩
      have hd4 : upd H3 p4 (.lst [.bl true, .bl false]) dd = some (.xd _) := same_upd n4 _ _ hd3
      refine ⟨_, rfl, .inl ⟨rfl, _, SqL.of upd_same⟩, _, rfl, C4, rfl, eC, _, _, _, dd, _, rfl, rfl, hd4, (fun u h => h), kA, p4, _, _, rfl, rfl, upd_same, (by show 2 < sizeLine; decide), ?_⟩
      have f4 : H p4 = none := same_free s3 n4
      have s4 := grow_keep (H := H3) (p := p4) (xs := [.bl true, .bl false]) (ys := [.bl false])
      generalize e4 : upd (upd H3 p4 (.lst [.bl true, .bl false])) p4 (.lst ([.bl true, .bl false] ++ [.bl false])) = H4 at s4 ⊢
      have h4 : H4 p4 = some (.lst [.bl true, .bl false, .bl false]) := by rw [← e4]; exact upd_same
      clear e4
      have t4 : Same H H4 := fun b o e => s4 b o (ne_of_none e f4) (s3 _ _ e)
      have h43 : H4 p3 = some (.lst [.bl true, .bl false, .bl false]) := s4 _ _ (ne_of_none h3 n4) h3
      have hd5 := t4 _ _ hd
      refine ⟨_, rfl, C4, rfl, eC, _, _, _, dd, _, rfl, rfl, hd5, (fun u h => h), EK.k4_1, (by show 1 ≤ sizeLine; decide), fun p5 n5 => ?_⟩
      have f5 : H p5 = none := same_free t4 n5
      have s5_0 : ∀ b o, b ≠ p5 → H4 b = some o → upd H4 p5 (.lst [.bl false]) b = some o := fun b o n e => by rw [upd_ne n]; exact e
      generalize e5 : upd H4 p5 (.lst [.bl false]) = H5_0 at s5_0 ⊢
      have h5_0 : H5_0 p5 = some (.lst [.bl false]) := by rw [← e5]; exact upd_same
      clear e5
      have hdx1 := s5_0 _ _ (ne_of_none hd5 n5) hd5
      refine ⟨_, rfl, .inl ⟨rfl, _, SqL.of h5_0⟩, _, rfl, C4, rfl, eC, _, _, _, dd, _, rfl, rfl, hdx1, (fun u h => h), EK.k4_2, p5, _, _, rfl, rfl, h5_0, (by show 1 < sizeLine; decide), ?_⟩
      have s5_1 : ∀ b o, b ≠ p5 → H4 b = some o → upd H5_0 p5 (.lst ([.bl false] ++ [.bl false])) b = some o := fun b o n e => by rw [upd_ne n]; exact s5_0 b o n e
      generalize e5 : upd H5_0 p5 (.lst ([.bl false] ++ [.bl false])) = H5_1 at s5_1 ⊢
      have h5_1 : H5_1 p5 = some (.lst [.bl false, .bl false]) := by rw [← e5]; exact upd_same
      clear e5
      have hdx2 := s5_1 _ _ (ne_of_none hd5 n5) hd5
      refine ⟨_, rfl, .inl ⟨rfl, _, SqL.of h5_1⟩, _, rfl, C4, rfl, eC, _, _, _, dd, _, rfl, rfl, hdx2, (fun u h => h), EK.k4_3, p5, _, _, rfl, rfl, h5_1, (by show 2 < sizeLine; decide), ?_⟩
      have s5_2 : ∀ b o, b ≠ p5 → H4 b = some o → upd H5_1 p5 (.lst ([.bl false, .bl false] ++ [.bl false])) b = some o := fun b o n e => by rw [upd_ne n]; exact s5_1 b o n e
      generalize e5 : upd H5_1 p5 (.lst ([.bl false, .bl false] ++ [.bl false])) = H5_2 at s5_2 ⊢
      have h5_2 : H5_2 p5 = some (.lst [.bl false, .bl false, .bl false]) := by rw [← e5]; exact upd_same
      clear e5
      have hdx3 := s5_2 _ _ (ne_of_none hd5 n5) hd5
      refine ⟨_, rfl, .inl ⟨rfl, _, SqL.of h5_2⟩, _, rfl, C4, rfl, eC, _, _, _, dd, _, rfl, rfl, hdx3, (fun u h => h), EK.k4_4, p5, _, _, rfl, rfl, h5_2, (by show 3 < sizeLine; decide), ?_⟩
      have s5_3 : ∀ b o, b ≠ p5 → H4 b = some o → upd H5_2 p5 (.lst ([.bl false, .bl false, .bl false] ++ [.bl true])) b = some o := fun b o n e => by rw [upd_ne n]; exact s5_2 b o n e
      generalize e5 : upd H5_2 p5 (.lst ([.bl false, .bl false, .bl false] ++ [.bl true])) = H5_3 at s5_3 ⊢
      have h5_3 : H5_3 p5 = some (.lst [.bl false, .bl false, .bl false, .bl true]) := by rw [← e5]; exact upd_same
      clear e5
      have t5 : Same H H5_3 := fun b o e => s5_3 b o (ne_of_none e f5) (t4 _ _ e)
      have h53 : H5_3 p3 = some (.lst [.bl true, .bl false, .bl false]) := s5_3 _ _ (ne_of_none h43 n5) h43
      have h54 : H5_3 p4 = some (.lst [.bl true, .bl false, .bl false]) := s5_3 _ _ (ne_of_none h4 n5) h4
      have dp : ∀ {p : Addr}, H5_3 p = some (.lst [.bl true, .bl false, .bl false]) → Dp X.K H5_3 (.ref p) (.list [.bool true, .bool false, .bool false]) := fun e => .lst (SqL.of e) (.cons (.bl _) (.cons (.bl _) (.cons (.bl _) .nil)))
      refine ⟨_, rfl, .inl ⟨rfl, _, SqL.of h5_3⟩, p5, [false, false, false, true], rfl, rfl, SqL.of h5_3, rfl, _, rfl, ?_⟩
      refine iteF ?_
      refine ⟨_, rfl, _, rfl, _, _, dp h53, dp h54, by decide +kernel, by decide +kernel, _, rfl, ?_⟩
      refine iteF ?_
      refine ⟨_, rfl, .inl ⟨rfl, _, SqL.of h53⟩, p3, [true, false, false], rfl, rfl, SqL.of h53, rfl, _, rfl, ?_⟩
      refine iteF ?_
      refine ⟨_, rfl, .inl ⟨rfl, _, SqL.of h5_3⟩, p5, _, _, 3, .bl true, rfl, rfl, SqL.of h5_3, rfl, rfl, rfl, rfl, (fun m z hm hz => first_at (bs := [false, false, false, true]) (n := 3) (by decide) hm hz), ?_⟩
      refine ⟨_, rfl, .inl ⟨rfl, _, SqL.of h53⟩, p3, _, _, 0, .bl true, rfl, rfl, SqL.of h53, rfl, rfl, rfl, rfl, (fun m z hm => absurd hm (Nat.not_lt_zero m)), (by show 4 ≤ sizeLine; decide), fun p7 n7 => ?_⟩
      have s7 : Same H5_3 (upd H5_3 p7 (.lst [.int 0, .int 0, .int 0, .int 0])) := same_upd n7
      refine ⟨_, rfl, p7, _, _, .int 0, rfl, rfl, SqL.of upd_same, atI_nat (j := 3) rfl, rfl, _, rfl, ?_⟩
      generalize upd H5_3 p7 (.lst [.int 0, .int 0, .int 0, .int 0]) = H7 at s7 ⊢
      have t7 : Same H H7 := t5.trans s7
      refine iteF ?_
      refine ⟨_, rfl, rfl, _, rfl, ?_⟩
      refine iteF ?_
      refine ⟨_, rfl, rfl, _, rfl, ?_⟩
      refine iteF ?_
      refine ⟨_, rfl, rfl, _, rfl, ?_⟩
      refine iteF ?_
      refine ⟨_, rfl, rfl, _, rfl, ?_⟩
      refine iteT ?_
      refine ⟨_, rfl, rfl, rfl, dd, _, v, rfl, t7 _ _ hd, rfl, v, txt, rfl, hS _ _ _ _ t7 hsd, (by show 2 ≤ sizeLine; decide), fun p n => ?_⟩
      exact q p _ (same_free t7 n) (t7.trans (same_upd n)) upd_same
  exact ht.run pins s' _ H D I hq
theorem caught_gives {g S1 S2 S3 C1 C2 C3 C4 : Addr} {cdg : Value} {q : Str} (hgd : X.A.guards = some []) (hu : X.A.units + 300 < cLine) (T : Free X.mg) (EK : ErrK X.K X.mg S1 S2 S3 C1 C2 C3 C4) {SV : Hp → V → Str → Prop} (hS : ∀ H H' v x, Same H H' → SV H v x → SV H' v x)
    (hR : ∀ (s : Shared) (H : Hp) (a : Addr) (oe : Obj) (pn : List (Addr × Obj)), CallR ((cxK X g cdg s H).suite a ((a, oe) :: pn)) (.builtin "repr") (rSV SV)) :
    LamX.GivesTo X nmCaught "_law_caught" (defScope sCaught) g cdg (defBody sCaught) "_law_ask" q (TTc SV C1 C2 C3 C4) := by
  intro f c' s H Q tl act hc h
  refine ⟨_, pss_cons (ps_try_as3 (X := cxK X g cdg s H) (i := 2) (c1 := .ref S1) (c2 := .ref S2) (c3 := .ref S3)
      (tb := fun W D σ H => ∃ Ech : XK, (∀ cls d σ' H', Ech cls d H' → W cls d σ' H') ∧ σ[0]? = some (some (.ref f)) ∧ H c' = some (LamX.CodeO c' q) ∧ ∀ Q', tl Ech H Q')
      (ts := fun a cls d => tCau SV C1 C2 C3 C4 a cls d)
      rfl rfl scCaught.nd rfl rfl ⟨by rfl, by decide, .inl EK.g1⟩ ⟨by rfl, by decide, .inl EK.g2⟩ ⟨by rfl, by decide, .inl EK.g3⟩ (fun W pn xe tk _ => ⟨fun pins s' σ H' D I h' => ?_⟩)
      (fun a oe cls d pn hz hf => suite_ok hgd hu T EK hS hz hf (hR s H a oe pn)))
    (pss_one (ps_ret (pe_lst (pa_cons pe_str (pa_cons (pe_callB (RpD.call_reprD (by exact hgd) (by show X.A.units + 3 + 100 < cLine; omega)) (by rfl) T.repr (by decide +kernel) (pa_cons (pv 1) pa_nil)) pa_nil))))), ?_⟩
  · obtain ⟨Ech, hW, h1, h2, h3⟩ := id h'
    exact (pss_one (ps_set (i := 1) scCaught.nd rfl (.inl rfl) (act W pn xe Ech _ _ tk hW))).run pins s' σ H' D I ⟨h1, h2, h3 _⟩
  · refine ⟨Told SV C1 C2 C3 C4 Q, fun cls d σ' H' told => ?_, rfl, hc, h⟩
    have told2 := told
    rcases told2 with ⟨dd, v, txt, nm, rfl, hsd, (⟨rfl, rfl, hd⟩ | ⟨rfl, rfl, hd⟩ | ⟨rfl, rfl, hd⟩ | ⟨rfl, rfl, hd⟩), q⟩ | ⟨nm, rfl, (⟨⟩), q⟩
    · exact ⟨EK.e1.kx, fun a na => ⟨⟨_, rfl⟩, told⟩⟩
    · exact ⟨EK.e2.kx, fun a na => ⟨⟨_, rfl⟩, told⟩⟩
    · exact ⟨EK.e3.kx, fun a na => ⟨⟨_, rfl⟩, told⟩⟩
    · exact ⟨EK.e4.kx, fun a na => ⟨⟨_, rfl⟩, told⟩⟩
end
end K1

namespace K1
open PySem PySem.Spec
open PyProof.Rows L2 EnT StX SmX TxS DuX XdI Tr3 CnB ClX
/-! ### names that are not valid -/
/-- the index as the law tells it -/
def IxTx (i : V) (s : Str) : Prop := (i = .non ∧ s = "None") ∨ ∃ n : Nat, n ≤ 4 ∧ i = .int n ∧ s = Str.ofString (toString (n : Int))
/-- the law's bent names: zs stand at a; more are texts that are no good names -/
def spBent (good : V → Bool) : Sp := fun vs H Q _ => ∃ (p a m : Addr) (zs ms : List Str), vs = [.ref p, .ref a, .ref m] ∧ PoolAt H p ∧ GoodNs good H (.ref a) zs ∧ H m = some (.lst (ms.map V.str)) ∧ ms.length ≤ 4 ∧ (∀ z ∈ ms, good (.str z) = false ∧ z.length ≤ sizeLine) ∧
  ∀ (r : Addr) (v i : V) (s : Str) (H' : Hp), Ext p H H' → H r = none → H' r = some (.lst [v, .str s]) → BadNs good H' v i → IxTx i s → Q (.ref r) H'
theorem cut_drop {xs : List V} {k : Nat} (h : k + 1 ≤ xs.length) : cutV xs (some ((k : Int) + 1)) none = xs.drop (k + 1) := by
  unfold cutV
  rw [show ((k : Int) + 1) = ((k + 1 : Nat) : Int) from rfl, HT.sIx_nat, HT.sIx_none, Nat.min_eq_left h]
  exact List.take_of_length_le (by rw [List.length_drop]; exact Nat.le_refl _)
/-- a slice of a tuple, whether it is the whole or not -/
theorem sl_one {K : PySem.W.Frag} {H : Hp} {a : Addr} {xs : List V} {lo hi : Option Int} {Q : VK} (ha : H a = some (.tup xs)) (q : ∀ r H', Same H H' → H' r = some (.tup (cutV xs lo hi)) → Q (.ref r) H') : rSlA K (.ref a) lo hi H Q := by
  refine ⟨a, xs, rfl, SqT.of ha, fun e => ?_, fun _ p np => q p _ (same_upd np) upd_same⟩
  have e2 : cutV xs lo hi = xs := by
    unfold cutV
    rw [e.1, e.2]
    exact List.take_of_length_le (Nat.le_refl _)
  exact q a H (Same.refl H) (by rw [e2]; exact ha)
/-- two tuples joined, whether one is empty or not -/
theorem cat_one {K : PySem.W.Frag} {H : Hp} {a b : Addr} {xs ys : List V} {Q : VK} (ha : H a = some (.tup xs)) (hb : H b = some (.tup ys)) (l : xs.length + ys.length ≤ sizeLine) (q : ∀ r H', Same H H' → H' r = some (.tup (xs ++ ys)) → Q (.ref r) H') : rCatA K (.ref a) (.ref b) H Q := by
  refine ⟨a, b, xs, ys, rfl, rfl, SqT.of ha, SqT.of hb, l, fun e => ?_, fun _ e => ?_, fun _ _ p np => q p _ (same_upd np) upd_same⟩
  · subst e
    exact q b H (Same.refl H) hb
  · subst e
    exact q a H (Same.refl H) (by rw [List.append_nil]; exact ha)
abbrev bads12 (a1 a2 a3 : Addr) : List V := [.non, .bl true, .int 0, .str "", .str "A", .str "9a", .str "a b", .str "abcdefghi", .ref a1, .ref a2, .ref a3, .str "a-"]
theorem bads_bad {good : V → Bool} (hg : ∀ v, nameV v = false → good v = false) {ms : List Str} (bad : ∀ z ∈ ms, good (.str z) = false ∧ z.length ≤ sizeLine) {G : Hp} {a1 a2 a3 : Addr} {u : V} (c1 : G a1 = some (.tup [.str "a"])) (c2 : G a2 = some (.lst [])) (c3 : G a3 = some (.dK [])) (hu : u ∈ bads12 a1 a2 a3 ++ ms.map V.str) : good u = false ∧ BdU G u := by
  rcases List.mem_append.mp hu with hu | hu
  · have hn : nameV u = false ∧ BdU G u := by
      simp only [List.mem_cons, List.not_mem_nil, or_false] at hu
      rcases hu with rfl | rfl | rfl | rfl | rfl | rfl | rfl | rfl | rfl | rfl | rfl | rfl
      · exact ⟨rfl, .non⟩
      · exact ⟨rfl, .bl _⟩
      · exact ⟨rfl, .int _⟩
      · exact ⟨by decide +kernel, .str _ (by decide +kernel)⟩
      · exact ⟨by decide +kernel, .str _ (by decide +kernel)⟩
      · exact ⟨by decide +kernel, .str _ (by decide +kernel)⟩
      · exact ⟨by decide +kernel, .str _ (by decide +kernel)⟩
      · exact ⟨by decide +kernel, .str _ (by decide +kernel)⟩
      · exact ⟨rfl, .tup c1⟩
      · exact ⟨rfl, .lst c2⟩
      · exact ⟨rfl, .dK c3⟩
      · exact ⟨by decide +kernel, .str _ (by decide +kernel)⟩
    exact ⟨hg _ hn.1, hn.2⟩
  · obtain ⟨z, hz, rfl⟩ := List.mem_map.mp hu
    exact ⟨(bad z hz).1, .str z (bad z hz).2⟩
abbrev nmBt : List Str := ["_law_pool_here", "_law_names_here", "_law_more", "_law_way", "_law_at", "_law_bad"]
section
variable {w : World} {P : Program} {base : Heap} {mg : Str → Option Value} {K : PySem.W.Frag}
theorem scBt : FnScope nmBt ["_law_pool_here", "_law_names_here", "_law_more"] (defScope sBent) := ⟨rfl, rfl, rfl, by decide +kernel, rfl, by decide +kernel, by decide +kernel⟩
abbrev cxB (P : Program) (w : World) (K : PySem.W.Frag) (mg : Str → Option Value) (base : Heap) (f : Addr) (cdv : Value) (A : Around) (outer : List Env) (s : Shared) (H : Hp) (E : XK) : Cx := (cxOf CX0 P w K mg base nmBt "_law_bent" (defScope sBent) f cdv A outer s H E).nox
/-- ahead of the last two statements -/
structure AtB3 (good : V → Bool) (p a m : Addr) (zs ms : List Str) (σ : L2.St) (H : Hp) (En : Ends) : Prop where
  ex : ∃ (way : Int) (k : Nat) (x5 : Option V), σ = [some (.ref p), some (.ref a), some (.ref m), some (.int way), some (.int k), x5] ∧ k < zs.length ∧ PoolAt H p ∧ H a = some (.tup (zs.map V.str)) ∧ H m = some (.lst (ms.map V.str))
  g4 : zs.length ≤ 4
  gz : ∀ z ∈ zs, good (.str z) = true ∧ nameB z = true
  gn : zs.Nodup
  l4 : ms.length ≤ 4
  bad : ∀ z ∈ ms, good (.str z) = false ∧ z.length ≤ sizeLine
  fin : ∀ (r : Addr) (v i : V) (s : Str) (H' : Hp), Ext p H H' → H r = none → H' r = some (.lst [v, .str s]) → BadNs good H' v i → IxTx i s → En.rt (.ref r) H'
theorem bt4 {good : V → Bool} {f fD p a m : Addr} {cdv : Value} {A : Around} {outer : List Env} {s : Shared} {H0 : Hp} {E : XK} {zs ms : List Str} (hg : ∀ v, nameV v = false → good v = false) (T : Free mg) (hD : Has P w K mg base CX0 1 "_law_draw" fD ["_law_pool_here", "_law_many"] spDraw) (hr : Room 2 (A.deeper (envOfC "_law_bent" (defScope sBent) s.heap.objs.size f cdv))) :
    PSs (cxB P w K mg base f cdv A outer s H0 E) ((defBody sBent).drop 4) (fun En σ H => AtB3 good p a m zs ms σ H En) := by
  refine pss_of fun En σ H hyp => ?_
  obtain ⟨⟨way, k, x5, rfl, hk, hp, ha, hm⟩, g4, gz, gn, l4, bad, fin⟩ := hyp
  refine ⟨_, pss_cons (ps_set (i := 5) scBt.nd rfl (.inl rfl) (pe_op op_cat (pe_lst (pa_cons pe_non (pa_cons pe_bl (pa_cons pe_int (pa_cons pe_str (pa_cons pe_str (pa_cons pe_str (pa_cons pe_str (pa_cons pe_str (pa_cons (pe_tup (pa_cons pe_str pa_nil)) (pa_cons (pe_lst pa_nil) (pa_cons pe_dnewK (pa_cons pe_str pa_nil))))))))))))) (pv 2)))
      (pss_one (ps_ret (pe_lst (pa_cons (pe_op op_catA (pe_op op_catA (pe_slice sl_tupA (pv 1) po_none (po_some (pv 4))) (pe_tup (pa_cons (pe_ix ix_list (pv 5) (pe_has hD (hr.mono (by decide)) (by rfl) pass0 (pa_cons (pv 0) (pa_cons (pe_callB call_len_seq (by rfl) T.len PySem.boot_len (pa_cons (pv 5) pa_nil)) pa_nil))) (fun _ _ => rfl)) pa_nil))) (pe_slice sl_tupA (pv 1) (po_some (pe_op op_add (pv 4) pe_int)) po_none)) (pa_cons (pe_callTy call_str_int (by rfl) T.str (by decide +kernel) (pa_cons (pv 4) pa_nil)) pa_nil))))), ?_⟩
  have kl : k < (zs.map V.str).length := by rw [List.length_map]; exact hk
  have l4' : (zs.map V.str).length ≤ 4 := by rw [List.length_map]; exact g4
  have ap : a ≠ p := fun e => by
    obtain ⟨u1, u2, u3, hu⟩ := hp
    rw [e, hu] at ha
    cases ha
  have mp : m ≠ p := fun e => by
    obtain ⟨u1, u2, u3, hu⟩ := hp
    rw [e, hu] at hm
    have hm := HO.lst.inj (Option.some.inj hm)
    cases ms with
    | nil => cases hm
    | cons z r => cases hm
  refine ⟨(by show 1 ≤ sizeLine; decide), fun a1 n1 => ⟨(by show 0 ≤ sizeLine; decide), fun a2 n2 a3 n3 => ⟨(by show 12 ≤ sizeLine; decide), fun a4 n4 => ?_⟩⟩⟩
  have x0 := Ext.refl hp
  have s1 := same_upd (o := .tup [.str "a"]) n1
  have c1 : (upd H a1 (.tup [.str "a"])) a1 = some (.tup [.str "a"]) := upd_same
  have q1 := x0.pool.ne n1
  generalize upd H a1 (.tup [.str "a"]) = H1 at s1 c1 n2 n3 n4 ⊢
  have x1 := x0.same s1
  have s2 := same_upd (o := .lst []) n2
  have c2 : (upd H1 a2 (.lst [])) a2 = some (.lst []) := upd_same
  have q2 := x1.pool.ne n2
  generalize upd H1 a2 (.lst []) = H2 at s2 c2 n3 n4 ⊢
  have x2 := x1.same s2
  have s3 := same_upd (o := .dK []) n3
  have c3 : (upd H2 a3 (.dK [])) a3 = some (.dK []) := upd_same
  have q3 := x2.pool.ne n3
  generalize upd H2 a3 (.dK []) = H3 at s3 c3 n4 ⊢
  have x3 := x2.same s3
  have s4 := same_upd (o := .lst (bads12 a1 a2 a3)) n4
  have c4 : (upd H3 a4 (.lst (bads12 a1 a2 a3))) a4 = some (.lst (bads12 a1 a2 a3)) := upd_same
  show tVar 2 _ (upd H3 a4 (.lst (bads12 a1 a2 a3))) _
  generalize upd H3 a4 (.lst (bads12 a1 a2 a3)) = H4 at s4 c4 ⊢
  have x4 := x3.same s4
  refine ⟨_, rfl, a4, m, _, _, rfl, rfl, c4, x4.at mp hm, ?_, fun a5 n5 => ?_⟩
  · rw [List.length_map, sizeLine_eq]
    show 12 + ms.length ≤ _
    omega
  have s5 := same_upd (o := .lst (bads12 a1 a2 a3 ++ ms.map V.str)) n5
  have c5 : (upd H4 a5 (.lst (bads12 a1 a2 a3 ++ ms.map V.str))) a5 = some (.lst (bads12 a1 a2 a3 ++ ms.map V.str)) := upd_same
  have q5 := x4.pool.ne n5
  generalize upd H4 a5 (.lst (bads12 a1 a2 a3 ++ ms.map V.str)) = H5 at s5 c5 ⊢
  have x5 := x4.same s5
  refine ⟨_, rfl, _, rfl, _, rfl, sl_one (x5.at ap ha) fun r1 H6 s6 c6 => ?_⟩
  rw [cut_take (Nat.le_of_lt kl)] at c6
  have r1p : r1 ≠ p := fun e => by
    obtain ⟨u1, u2, u3, hu⟩ := (x5.same s6).pool
    rw [e, hu] at c6
    cases c6
  refine ⟨_, rfl, _, rfl, _, rfl, a5, _, rfl, .inl (SqL.of (s6 _ _ c5)), p, _, rfl, (x5.same s6).pool, ?_, ?_, fun d H7 x7 d0 d1 => ?_⟩
  · rw [List.length_append]
    show 0 < ((12 + (ms.map V.str).length : Nat) : Int)
    omega
  · rw [List.length_append, List.length_map]
    show ((12 + ms.length : Nat) : Int) < 1000
    omega
  obtain ⟨j, rfl⟩ : ∃ j : Nat, d = (j : Int) := ⟨d.toNat, by omega⟩
  have hj : j < (bads12 a1 a2 a3 ++ ms.map V.str).length := by omega
  obtain ⟨u, hu⟩ : ∃ u, (bads12 a1 a2 a3 ++ ms.map V.str)[j]? = some u := ⟨_, List.getElem?_eq_getElem hj⟩
  refine ⟨a5, _, _, u, rfl, rfl, SqL.of (x7.at q5 (s6 _ _ c5)), atI_nat hu, (by show 1 ≤ sizeLine; decide), fun p8 n8 => ?_⟩
  have x57 := (x5.same s6).trans x7
  have s8 := same_upd (o := .tup [u]) n8
  have c8 : (upd H7 p8 (.tup [u])) p8 = some (.tup [u]) := upd_same
  generalize upd H7 p8 (.tup [u]) = H8 at s8 c8 ⊢
  have x8 := x57.same s8
  have tl : ((zs.map V.str).take k).length = k := by rw [List.length_take]; omega
  refine cat_one (s8 _ _ (x7.at r1p c6)) c8 (by rw [tl, sizeLine_eq]; show k + 1 ≤ _; omega) fun r2 H9 s9 c9 => ?_
  have x9 := x8.same s9
  refine ⟨_, rfl, _, rfl, _, _, rfl, rfl, _, rfl, ?_⟩
  unfold tNoPart
  refine sl_one (x9.at ap ha) fun r3 H10 s10 c10 => ?_
  rw [cut_drop kl] at c10
  have dl : ((zs.map V.str).drop (k + 1)).length = (zs.map V.str).length - (k + 1) := List.length_drop
  refine cat_one (s10 _ _ c9) c10 (by rw [List.length_append, tl, dl, sizeLine_eq]; show k + 1 + _ ≤ _; omega) fun r4 H11 s11 c11 => ?_
  have lg : ((k : Nat) : Int).natAbs.log2 < 1920 := by
    have h5 : k = 0 ∨ k = 1 ∨ k = 2 ∨ k = 3 := by omega
    rcases h5 with h | h | h | h <;> rw [h] <;> decide
  refine ⟨_, rfl, _, rfl, lg, (by show 2 ≤ sizeLine; decide), fun r nr => ?_⟩
  have s811 := (s9.trans s10).trans s11
  have xd := x8.same s811
  have sr := same_upd (o := .lst [.ref r4, .str (Str.ofString (toString (k : Int)))]) nr
  have keep7 : ∀ {b o}, b ≠ p → H5 b = some o → (upd H11 r (.lst [.ref r4, .str (Str.ofString (toString (k : Int)))])) b = some o := fun n e => sr _ _ (s811 _ _ (s8 _ _ (x7.at n (s6 _ _ e))))
  obtain ⟨gu, vu⟩ := bads_bad hg bad (keep7 q1 (s5 _ _ (s4 _ _ (s3 _ _ (s2 _ _ c1))))) (keep7 q2 (s5 _ _ (s4 _ _ (s3 _ _ c2)))) (keep7 q3 (s5 _ _ (s4 _ _ c3))) (List.mem_iff_getElem?.mpr ⟨j, hu⟩)
  have zl : (zs.take k).length = k := by rw [List.length_take]; omega
  refine fin r (.ref r4) (.int k) _ _ (xd.same sr) (xd.free nr) upd_same (.inr (.inr ⟨r4, _, zs.take k, u, rfl, sr _ _ c11, ?_, ?_, ?_, fun z hz => gz z (List.mem_of_mem_take hz), gn.sublist (List.take_sublist _ _), ?_, vu, .inl gu, by rw [zl]⟩)) (.inr ⟨k, by omega, rfl, rfl⟩)
  · rw [List.length_append, List.length_append, tl]
    show 1 ≤ k + 1 + _
    omega
  · rw [List.length_append, List.length_append, tl, dl]
    show k + 1 + _ ≤ 4
    omega
  · rw [zl, List.append_assoc, List.take_append_of_le_length (by rw [tl]; exact Nat.le_refl _), List.take_of_length_le (by rw [tl]; exact Nat.le_refl _), List.map_take]
  · rw [zl, List.append_assoc, List.getElem?_append_right (by rw [tl]; exact Nat.le_refl _), tl, Nat.sub_self]
    rfl
theorem ok_bent {good : V → Bool} {f fD : Addr} {fd : FuncData} (F : Fun K "_law_bent" "_law_bent" sBent f fd) (hg : ∀ v, nameV v = false → good v = false) (T : Free mg) (hD : Has P w K mg base CX0 1 "_law_draw" fD ["_law_pool_here", "_law_many"] spDraw) : FnOk P w K mg base CX0 3 f fd ["_law_pool_here", "_law_names_here", "_law_more"] (spBent good) := by
  refine F.ok scBt (fun vs H Q E h => ?_) (fun cdv A outer s H vs Q E hr h => ?_)
  · obtain ⟨p, a, m, zs, ms, rfl, _⟩ := h
    rfl
  · obtain ⟨p, a, m, zs, ms, rfl, hp, g, hm, l4, bad, q⟩ := h
    refine ⟨_, pss_cons (ps_par (i := 3) (j := 4) rfl scBt.nd rfl rfl (by decide) rfl rfl (pa_cons (pe_has hD (hr.mono (by decide)) (by rfl) pass0 (pa_cons (pv 0) (pa_cons pe_int pa_nil))) (pa_cons (pe_has hD (hr.mono (by decide)) (by rfl) pass0 (pa_cons (pv 0) (pa_cons (pe_callB call_len_seq (by rfl) T.len PySem.boot_len (pa_cons (pv 1) pa_nil)) pa_nil))) pa_nil)) (by rfl))
      (pss_cons (ps_if (pt_cmpR op_eq (pv 3) pe_int (nomark _)) (pss_one (ps_ret (pe_ix ix_list (pe_lst (pa_cons (pe_lst (pa_cons (pe_callTy call_listK (by rfl) T.list (by decide +kernel) (pa_cons (pv 1) pa_nil)) (pa_cons pe_str pa_nil))) (pa_cons (pe_lst (pa_cons (pe_tup pa_nil) (pa_cons pe_str pa_nil))) (pa_cons (pe_lst (pa_cons (pe_op op_catA (pv 1) (pe_tup (pa_cons pe_str (pa_cons pe_str (pa_cons pe_str (pa_cons pe_str pa_nil)))))) (pa_cons pe_str pa_nil))) pa_nil)))) (pe_has hD (hr.mono (by decide)) (by rfl) pass0 (pa_cons (pv 0) (pa_cons pe_int pa_nil))) (fun _ _ => rfl)))) pss_nil)
      (pss_cons (ps_if (pt_cmpR op_eq (pv 3) pe_int (nomark _)) (pss_one (ps_ret (pe_ifExp (pt_cmpR op_eq (pe_has hD (hr.mono (by decide)) (by rfl) pass0 (pa_cons (pv 0) (pa_cons pe_int pa_nil))) pe_int (nomark _)) (pe_lst (pa_cons pe_non (pa_cons pe_str pa_nil))) (pe_lst (pa_cons pe_str (pa_cons pe_str pa_nil)))))) pss_nil)
      (pss_cons (ps_if (PW.pt (pw_and (pt_cmpR op_eq (pv 3) pe_int (nomark _)) (pw_and1 (pt_cmpR op_lt (pe_callB call_len_seq (by rfl) T.len PySem.boot_len (pa_cons (pv 1) pa_nil)) pe_int (nomark _))))) (pss_one (ps_ret (pe_lst (pa_cons (pe_op op_catA (pv 1) (pe_tup (pa_cons (pe_ix ix_tup (pv 1) (pv 4) (fun _ _ => rfl)) pa_nil))) (pa_cons (pe_callTy call_str_int (by rfl) T.str (by decide +kernel) (pa_cons (pe_callB call_len_seq (by rfl) T.len PySem.boot_len (pa_cons (pv 1) pa_nil)) pa_nil)) pa_nil))))) pss_nil)
      (bt4 (good := good) (p := p) (a := a) (m := m) (zs := zs) (ms := ms) hg T hD hr)))), ?_⟩
    obtain ⟨⟨a', ea, ha⟩, g1, g4, gz, gn⟩ := g
    cases ea
    refine ⟨_, rfl, p, 5, rfl, hp, by decide, by decide, fun way H1 x1 w0 w1 => ?_⟩
    have ap : a ≠ p := fun e => by
      obtain ⟨u1, u2, u3, hu⟩ := hp
      rw [e, hu] at ha
      cases ha
    have mp : m ≠ p := fun e => by
      obtain ⟨u1, u2, u3, hu⟩ := hp
      rw [e, hu] at hm
      have hm := HO.lst.inj (Option.some.inj hm)
      cases ms with
      | nil => cases hm
      | cons z r => cases hm
    have ha1 := x1.at ap ha
    refine ⟨_, rfl, _, rfl, a, _, rfl, .inr (SqT.of ha1), p, _, rfl, x1.pool, ?_, ?_, fun at' H2 x2 a0 a1 => ?_⟩
    · rw [List.length_map]; omega
    · rw [List.length_map]; omega
    have x12 := x1.trans x2
    have ha2 := x2.at ap ha1
    have hm2 := x12.at mp hm
    obtain ⟨k, rfl⟩ : ∃ k : Nat, at' = (k : Int) := ⟨at'.toNat, by omega⟩
    have hk : k < zs.length := by rw [List.length_map] at a1; omega
    have free : ∀ {r : Addr}, H2 r = none → H r = none := fun {r} hr => x12.free hr
    refine ⟨_, _, rfl, _, rfl, rfl, _, rfl, ?_⟩
    by_cases hw : way = 0
    · rw [decide_eq_true (by rw [hw])]
      refine iteT ?_
      refine ⟨_, rfl, _, _, rfl, (.inr (SqT.of ha2)), fun p1 n1 => ⟨(by show 2 ≤ sizeLine; decide), fun p2 n2 => ?_⟩⟩
      have s1 := same_upd (o := .lst (zs.map V.str)) n1
      have g1' : (upd H2 p1 (.lst (zs.map V.str))) p1 = some (.lst (zs.map V.str)) := upd_same
      generalize upd H2 p1 (.lst (zs.map V.str)) = H3 at s1 g1' n2 ⊢
      have s2 := same_upd (o := .lst [.ref p1, .str "None"]) n2
      have g2' : (upd H3 p2 (.lst [.ref p1, .str "None"])) p2 = some (.lst [.ref p1, .str "None"]) := upd_same
      generalize upd H3 p2 (.lst [.ref p1, .str "None"]) = H4 at s2 g2' ⊢
      refine ⟨(by show 0 ≤ sizeLine; decide), fun p3 n3 => ⟨(by show 2 ≤ sizeLine; decide), fun p4 n4 => ?_⟩⟩
      have s3 := same_upd (o := .tup []) n3
      have g3' : (upd H4 p3 (.tup [])) p3 = some (.tup []) := upd_same
      generalize upd H4 p3 (.tup []) = H5 at s3 g3' n4 ⊢
      have s4 := same_upd (o := .lst [.ref p3, .str "None"]) n4
      have g4' : (upd H5 p4 (.lst [.ref p3, .str "None"])) p4 = some (.lst [.ref p3, .str "None"]) := upd_same
      generalize upd H5 p4 (.lst [.ref p3, .str "None"]) = H6 at s4 g4' ⊢
      refine ⟨_, rfl, (by show 4 ≤ sizeLine; decide), fun p5 n5 => ?_⟩
      have s5 := same_upd (o := .tup [.str "zz1", .str "zz2", .str "zz3", .str "zz4"]) n5
      have g5' : (upd H6 p5 (.tup [.str "zz1", .str "zz2", .str "zz3", .str "zz4"])) p5 = some (.tup [.str "zz1", .str "zz2", .str "zz3", .str "zz4"]) := upd_same
      generalize upd H6 p5 (.tup [.str "zz1", .str "zz2", .str "zz3", .str "zz4"]) = H7 at s5 g5' ⊢
      have ha7 := s5 _ _ (s4 _ _ (s3 _ _ (s2 _ _ (s1 _ _ ha2))))
      have zne : zs.map V.str ≠ [] := fun e => by
        rw [List.map_eq_nil_iff.mp e] at g1
        exact absurd g1 (by decide)
      refine ⟨a, p5, _, _, rfl, rfl, SqT.of ha7, SqT.of g5', ?_, fun e => absurd e zne, ⟨fun _ e => (by cases e), fun _ _ p6 n6 => ?_⟩⟩
      · rw [List.length_map, sizeLine_eq]
        show zs.length + 4 ≤ _
        omega
      have s6 := same_upd (o := .tup (zs.map V.str ++ [.str "zz1", .str "zz2", .str "zz3", .str "zz4"])) n6
      have g6' : (upd H7 p6 (.tup (zs.map V.str ++ [.str "zz1", .str "zz2", .str "zz3", .str "zz4"]))) p6 = some (.tup (zs.map V.str ++ [.str "zz1", .str "zz2", .str "zz3", .str "zz4"])) := upd_same
      generalize upd H7 p6 (.tup (zs.map V.str ++ [.str "zz1", .str "zz2", .str "zz3", .str "zz4"])) = H8 at s6 g6' ⊢
      refine ⟨(by show 2 ≤ sizeLine; decide), fun p7 n7 => ?_⟩
      have s7 := same_upd (o := .lst [.ref p6, .str "None"]) n7
      have g7' : (upd H8 p7 (.lst [.ref p6, .str "None"])) p7 = some (.lst [.ref p6, .str "None"]) := upd_same
      generalize upd H8 p7 (.lst [.ref p6, .str "None"]) = H9 at s7 g7' ⊢
      refine ⟨(by show 3 ≤ sizeLine; decide), fun p8 n8 => ?_⟩
      have s8 := same_upd (o := .lst [.ref p2, .ref p4, .ref p7]) n8
      have g8' : (upd H9 p8 (.lst [.ref p2, .ref p4, .ref p7])) p8 = some (.lst [.ref p2, .ref p4, .ref p7]) := upd_same
      generalize upd H9 p8 (.lst [.ref p2, .ref p4, .ref p7]) = H10 at s8 g8' ⊢
      have t2 := s1.trans s2
      have t4 := (t2.trans s3).trans s4
      have t6 := (t4.trans s5).trans s6
      have t8 := (t6.trans s7).trans s8
      have xA := x12.same t8
      refine ⟨_, rfl, p, 3, rfl, xA.pool, by decide, by decide, fun d H11 x3 d0 d1 => ?_⟩
      have at8 : ∀ {b : Addr} {o : HO} {Hb : Hp}, Hb b = none → Ext p H Hb → H10 b = some o → H11 b = some o := fun nb xb e => x3.at (xb.pool.ne nb) e
      have L8 : H11 p8 = some (.lst [.ref p2, .ref p4, .ref p7]) := at8 n8 (x12.same (t6.trans s7)) g8'
      have L2 : H11 p2 = some (.lst [.ref p1, .str "None"]) := at8 n2 (x12.same s1) (s8 _ _ (s7 _ _ (s6 _ _ (s5 _ _ (s4 _ _ (s3 _ _ g2'))))))
      have L1 : H11 p1 = some (.lst (zs.map V.str)) := at8 n1 x12 (s8 _ _ (s7 _ _ (s6 _ _ (s5 _ _ (s4 _ _ (s3 _ _ (s2 _ _ g1')))))))
      have L4 : H11 p4 = some (.lst [.ref p3, .str "None"]) := at8 n4 (x12.same (t2.trans s3)) (s8 _ _ (s7 _ _ (s6 _ _ (s5 _ _ g4'))))
      have L3 : H11 p3 = some (.tup []) := at8 n3 (x12.same t2) (s8 _ _ (s7 _ _ (s6 _ _ (s5 _ _ (s4 _ _ g3')))))
      have L7 : H11 p7 = some (.lst [.ref p6, .str "None"]) := at8 n7 (x12.same t6) (s8 _ _ g7')
      have L6 : H11 p6 = some (.tup (zs.map V.str ++ [.str "zz1", .str "zz2", .str "zz3", .str "zz4"])) := at8 n6 (x12.same (t4.trans s5)) (s8 _ _ (s7 _ _ g6'))
      have xB := xA.trans x3
      rcases (show d = 0 ∨ d = 1 ∨ d = 2 by omega) with rfl | rfl | rfl
      · exact ⟨p8, _, _, .ref p2, rfl, rfl, SqL.of L8, rfl, q p2 (.ref p1) .non "None" _ xB ((x12.same s1).free n2) L2 (.inl ⟨.lst L1, rfl⟩) (.inl ⟨rfl, rfl⟩)⟩
      · exact ⟨p8, _, _, .ref p4, rfl, rfl, SqL.of L8, rfl, q p4 (.ref p3) .non "None" _ xB ((x12.same (t2.trans s3)).free n4) L4 (.inr (.inl ⟨p3, [], rfl, L3, .inl rfl, Nat.zero_le _, rfl⟩)) (.inl ⟨rfl, rfl⟩)⟩
      · refine ⟨p8, _, _, .ref p7, rfl, rfl, SqL.of L8, rfl, q p7 (.ref p6) .non "None" _ xB ((x12.same t6).free n7) L7 (.inr (.inl ⟨p6, _, rfl, L6, .inr ?_, ?_, rfl⟩)) (.inl ⟨rfl, rfl⟩)⟩
        · rw [List.length_append, List.length_map]
          show 4 < zs.length + 4
          omega
        · rw [List.length_append, List.length_map]
          show zs.length + 4 ≤ 100
          omega
    rw [decide_eq_false (fun e => hw (V.int.inj e))]
    refine iteF ?_
    refine ⟨_, rfl, rfl, _, rfl, ?_⟩
    by_cases hw1 : way = 1
    · rw [decide_eq_true (by rw [hw1])]
      refine iteT ?_
      refine ⟨_, rfl, p, 2, rfl, x12.pool, by decide, by decide, fun d H3 x3 d0 d1 => ?_⟩
      have xB := x12.trans x3
      refine ⟨rfl, _, rfl, ?_⟩
      by_cases hd : d = 0
      · rw [decide_eq_true (by rw [hd])]
        refine iteT ⟨(by show 2 ≤ sizeLine; decide), fun r nr => ?_⟩
        exact q r .non .non "None" _ (xB.same (same_upd nr)) (xB.free nr) upd_same (.inl ⟨.non, rfl⟩) (.inl ⟨rfl, rfl⟩)
      · rw [decide_eq_false (fun e => hd (V.int.inj e))]
        refine iteF ⟨(by show 2 ≤ sizeLine; decide), fun r nr => ?_⟩
        exact q r (.str "abc") .non "None" _ (xB.same (same_upd nr)) (xB.free nr) upd_same (.inl ⟨.str _, rfl⟩) (.inl ⟨rfl, rfl⟩)
    rw [decide_eq_false (fun e => hw1 (V.int.inj e))]
    refine iteF ?_
    have rest : AtB3 good p a m zs ms [some (.ref p), some (.ref a), some (.ref m), some (.int way), some (.int k), none] H2 { nx := fun _ H' => Q .non H', rt := Q } := ⟨⟨way, k, none, rfl, hk, x12.pool, ha2, hm2⟩, g4, gz, gn, l4, bad, fun r v i s' H' x3 nr e b c => q r v i s' H' (x12.trans x3) (x12.free nr) e b c⟩
    refine ⟨_, rfl, rfl, _, rfl, ?_⟩
    by_cases hw2 : way = 2
    · rw [decide_eq_true (by rw [hw2])]
      refine iteT ?_
      refine ⟨_, rfl, a, _, rfl, .inr (SqT.of ha2), ?_⟩
      refine ⟨_, _, rfl, rfl, _, rfl, ?_⟩
      by_cases hl : zs.length < 4
      · rw [show decide (((zs.map V.str).length : Int) < 4) = true from decide_eq_true (by rw [List.length_map]; omega)]
        refine iteT ?_
        obtain ⟨z, ez⟩ : ∃ z, zs[k]? = some z := ⟨zs[k], by rw [List.getElem?_eq_getElem hk]⟩
        have zne : zs.map V.str ≠ [] := fun e => by
          rw [List.map_eq_nil_iff.mp e] at g1
          exact absurd g1 (by decide)
        have ez' : (zs.map V.str)[k]? = some (.str z) := by rw [List.getElem?_map, ez]; rfl
        refine ⟨_, rfl, _, rfl, _, rfl, a, _, _, _, rfl, rfl, SqT.of ha2, atI_nat ez', (by show 1 ≤ sizeLine; decide), fun p1 n1 => ?_⟩
        have s1 := same_upd (o := .tup [.str z]) n1
        have g1' : (upd H2 p1 (.tup [.str z])) p1 = some (.tup [.str z]) := upd_same
        generalize upd H2 p1 (.tup [.str z]) = H3 at s1 g1' ⊢
        refine ⟨a, p1, _, _, rfl, rfl, SqT.of (s1 _ _ ha2), SqT.of g1', ?_, fun e => absurd e zne, ⟨fun _ e => (by cases e), fun _ _ p2 n2 => ?_⟩⟩
        · rw [List.length_map, sizeLine_eq]
          show zs.length + 1 ≤ _
          omega
        have s2 := same_upd (o := .tup (zs.map V.str ++ [.str z])) n2
        have g2' : (upd H3 p2 (.tup (zs.map V.str ++ [.str z]))) p2 = some (.tup (zs.map V.str ++ [.str z])) := upd_same
        generalize upd H3 p2 (.tup (zs.map V.str ++ [.str z])) = H4 at s2 g2' ⊢
        refine ⟨_, rfl, a, _, rfl, .inr (SqT.of (s2 _ _ (s1 _ _ ha2))), ?_⟩
        rw [List.length_map]
        have lg : ((zs.length : Nat) : Int).natAbs.log2 < 1920 := by
          have h5 : zs.length = 1 ∨ zs.length = 2 ∨ zs.length = 3 := by omega
          rcases h5 with h | h | h <;> rw [h] <;> decide
        refine ⟨_, rfl, lg, (by show 2 ≤ sizeLine; decide), fun r nr => ?_⟩
        have s3 := s1.trans s2
        refine q r (.ref p2) (.int zs.length) _ _ ((x12.same s3).same (same_upd nr)) ((x12.same s3).free nr) upd_same (.inr (.inr ⟨p2, _, zs, .str z, rfl, same_upd nr _ _ g2', ?_, ?_, ?_, gz, gn, ?_, .str z (name_line (gz z (List.mem_iff_getElem?.mpr ⟨k, ez⟩)).2), .inr ⟨z, List.mem_iff_getElem?.mpr ⟨k, ez⟩, rfl⟩, rfl⟩)) (.inr ⟨_, by omega, rfl, rfl⟩)
        · rw [List.length_append]
          show 1 ≤ _ + 1
          omega
        · rw [List.length_append, List.length_map]
          show zs.length + 1 ≤ 4
          omega
        · rw [List.take_append_of_le_length (by rw [List.length_map]; exact Nat.le_refl _)]
          exact List.take_of_length_le (by rw [List.length_map]; exact Nat.le_refl _)
        · rw [List.getElem?_append_right (by rw [List.length_map]; exact Nat.le_refl _), List.length_map, Nat.sub_self]
          rfl
      · rw [show decide (((zs.map V.str).length : Int) < 4) = false from decide_eq_false (by rw [List.length_map]; omega)]
        exact iteF rest
    · rw [decide_eq_false (fun e => hw2 (V.int.inj e))]
      exact iteF rest
end
end K1

namespace K1
open PySem PySem.Spec
open PyProof.Rows L2 EnT StX SmX TxS DuX XdI Tr3 CnB ClX
/-! ### dict comprehensions of two clauses, clause by clause -/
/-- nothing is raised: the wish of errors is of no matter -/
theorem quietly {α : Type} {t : Sem α} {Q Q' : α → Shared → Prop} {M : Model} {A : Around} {E E' : Value → Shared → Prop} {s : Shared} (hx : ∀ e s, ¬ E e s) (h : wpAny M A t Q E s) (hQ : ∀ a s, Q a s → Q' a s) : wpAny M A t Q' E' s :=
  wpAny_mono h hQ fun e s z => (hx e s z).elim
section
variable {prog : Program} {w : World} {A : Around} {kx vx : Expr} {gs : List Comprehension} {scope : Scope} {pos : Pos} {dp : Nat} {it acc : Value} {env : Env} {R : Result → Shared → Prop} {s : Shared}
/-- the turns of the clause dp, by a measure; what it does each turn: act -/
theorem turns_by {t i : Expr} {ifs : List Expr} {step : Bool → Sem PySem.Fin}
    (eq : compTurn (.DictComp kx vx gs scope pos) dp it acc env = (do
      standAt i.pos
      match ← pyNext it with
      | none => pure (.done .next)
      | some v =>
        letOwnedTupleGo t it v
        assign t env v
        let mut ok := true
        for c in ifs do
          if ok then ok ← isTrue c env (eval c env)
        step ok))
    (sno : step false = again (.compLoop (.DictComp kx vx gs scope pos) dp it acc env))
    (I : Nat → Shared → Prop)
    (turn : ∀ n s, I n s → wpAny (model prog w) A (pyNext it) (fun r s1 => match r with
      | none => R (.ok .next) s1
      | some v => wpAny (model prog w) A (letOwnedTupleGo t it v) (fun _ s2 => wpAny (model prog w) A (assign t env v) (fun _ s3 =>
          wpAny (model prog w) A (forIn ifs true fun c r => if r = true then do let ok ← isTrue c env (eval c env); pure (ForInStep.yield ok) else pure (ForInStep.yield r))
            (fun b s4 => (b = true → wpAny (model prog w) A (step true) (fun fin s5 => fin = .again (.compLoop (.DictComp kx vx gs scope pos) dp it acc env) ∧ ∃ m, m < n ∧ I m s5) (fun _ _ => False) s4) ∧ (b = false → ∃ m, m < n ∧ I m s4)) (fun _ _ => False) s3) (fun _ _ => False) s2) (fun _ _ => False) s1) (fun _ _ => False) s)
    (n : Nat) (h : I n s) : codeAny (model prog w) A (.compLoop (.DictComp kx vx gs scope pos) dp it acc env) R s := by
  have no : ∀ (e : Value) (s : Shared), ¬ (fun (_ : Value) (_ : Shared) => False) e s := fun _ _ z => z
  refine codeAny_loop rfl I (fun n s hI => ?_) n h
  show wpAny _ A ((compTurn (.DictComp kx vx gs scope pos) dp it acc env).onRaise fun x => do noteFrame x env; theTreesLotGoes x) _ _ s
  rw [eq]
  refine wpAny_noted (wpAny_bind (wpAny_standAt (wpAny_bind (quietly no (turn n s hI) fun r s1 h1 => ?_))))
  cases r with
  | none => exact wpAny_pure h1
  | some v =>
    refine wpAny_bind (quietly no h1 fun _ s2 h2 => wpAny_bind (quietly no h2 fun _ s3 h3 => wpAny_bind (quietly no h3 fun b s4 h4 => ?_)))
    cases b with
    | false =>
      rw [sno]
      exact wpAny_pure ⟨rfl, h4.2 rfl⟩
    | true =>
      refine quietly no (h4.1 rfl) fun fin s5 h5 => ?_
      obtain ⟨rfl, h5⟩ := h5
      exact ⟨rfl, h5⟩
/-- a clause's start: its iterator is asked once more, or not -/
theorem start_by {t i : Expr} {ifs : List Expr} (hg : (clausesOf (.DictComp kx vx gs scope pos))[dp]? = some ⟨t, i, ifs, 0⟩) {a : Addr}
    (loop : codeAny (model prog w) A (.compLoop (.DictComp kx vx gs scope pos) dp (.ref a) acc env) R s)
    (once : ∀ (Q : Value → Shared → Prop) (E : Value → Shared → Prop), Q (.ref a) s → wpAny (model prog w) A (pyIter (.ref a)) Q E s) :
    codeAny (model prog w) A (.compStart (.DictComp kx vx gs scope pos) dp (.ref a) acc env) R s := by
  refine codeAny_of_tree ?_
  show wpAny _ _ ((compStart (.DictComp kx vx gs scope pos) dp (.ref a) acc env).onRaise fun x => do noteFrame x env; standAt theWindowsPlace) _ _ s
  unfold compStart
  rw [hg]
  refine wpAny_notedAt ?_
  show wpAny _ _ (ask >>= _) _ _ s
  refine wpAny_bind (wpAny_askSetting (wpAny_ite ?_))
  have done : ∀ {E : Value → Shared → Prop}, wpAny (model prog w) (A.under (.compStart (.DictComp kx vx gs scope pos) dp (.ref a) acc env)) (again (.compLoop (.DictComp kx vx gs scope pos) dp (.ref a) acc env))
      (fun fin s' => match fin with | .done f => R (.ok f) s' | .again c' => c'.quiet = true ∧ codeAny (model prog w) A c' R s') E s := wpAny_pure ⟨rfl, loop⟩
  split
  · first
      | exact done
      | exact wpAny_bind done
  · exact wpAny_bind (wpAny_rule (wpAny_bind (wpAny_standAt (wpAny_bind (once _ _ done)))))
end
section
variable {Y : Cx} {kx vx : Expr} {gs : List Comprehension} {scope : Scope} {pos : Pos} {acc : Value}
/-- what a clause does each turn: it reaches what is wished, the slots vs forgotten -/
def PAc (Y : Cx) (vs : List Nat) (c : Code) (act : Sem PySem.Fin) (τ : L2.St → Hp → (Hp → Prop) → Prop) : Prop :=
  ∀ (pins : List (Addr × Obj)) (s : Shared) (σ : L2.St) (H : Hp) (N : Hp → Prop), Inv Y pins σ H s → τ σ H N →
    wpAny (model Y.prog Y.w) Y.A act (fun fin s' => fin = .again c ∧ ∃ H', Inv Y pins (wipe σ vs) H' s' ∧ N H') (fun _ _ => False) s
/-- the turns of a clause over what is walked, from the slots σb; Qd behind them -/
def Turns (J : It) (g : TG) (tt : TT) (τ : L2.St → Hp → (Hp → Prop) → Prop) (vs : List Nat) (σb : L2.St) (H0 : Hp) (Qd : Hp → Prop) : Prop :=
  ∃ W : Nat → Nat → Hp → Prop, (∃ m, W 0 m H0) ∧ ∀ i m H, W i m H → (J.stop i H ∧ Qd H) ∨ (J.go i H ∧ ∃ Nx : Hp → Prop, (∀ H', Nx H' → ∃ m', m' < m ∧ W (i + 1) m' H') ∧
    ∀ x H', J.yld i H x H' → g x σb H' fun σ2 H2 => wipe σ2 vs = σb ∧ tt σ2 H2 fun b H3 => if b = true then τ σ2 H3 Nx else Nx H3)
theorem clause_run {t i : Expr} {ifs : List Expr} {step : Bool → Sem PySem.Fin} {dp : Nat} {it : Addr} {fp : List Addr} {tn : Nat → Heap → Prop} {J : It} {g : TG} {tt : TT} {τ : L2.St → Hp → (Hp → Prop) → Prop} {vs : List Nat} {σb : L2.St} {H0 : Hp} {s0 : Shared} {pins : List (Addr × Obj)} {Qd : Hp → Prop} {R : Result → Shared → Prop}
    (hc : Y.calm = true) (hx : ∀ e s, ¬ Y.xe e s)
    (eq : compTurn (.DictComp kx vx gs scope pos) dp (.ref it) acc Y.env = (do
      standAt i.pos
      match ← pyNext (.ref it) with
      | none => pure (.done .next)
      | some v =>
        letOwnedTupleGo t (.ref it) v
        assign t Y.env v
        let mut ok := true
        for c in ifs do
          if ok then ok ← isTrue c Y.env (eval c Y.env)
        step ok))
    (sno : step false = again (.compLoop (.DictComp kx vx gs scope pos) dp (.ref it) acc Y.env))
    (T : Turn Y.prog Y.w Y.K t J fp it tn) (pg : PG Y t g) (pt : PTs Y ifs tt) (pa : PAc Y vs (.compLoop (.DictComp kx vx gs scope pos) dp (.ref it) acc Y.env) (step true) τ) (I0 : Inv Y pins σb H0 s0) (st0 : tn 0 s0.heap) (f0 : ∀ b ∈ fp, FpOk Y pins H0 b)
    (turns : Turns J g tt τ vs σb H0 Qd) (fin : ∀ s' H', Inv Y pins σb H' s' → Qd H' → R (.ok .next) s') :
    codeAny (model Y.prog Y.w) Y.A (.compLoop (.DictComp kx vx gs scope pos) dp (.ref it) acc Y.env) R s0 := by
  have no : ∀ (e : Value) (s : Shared), ¬ (fun (_ : Value) (_ : Shared) => False) e s := fun _ _ z => z
  obtain ⟨W, ⟨m0, w0⟩, turn⟩ := turns
  have ok : ∀ {H' : Hp}, (∀ b ∈ fp, H' b = none) → ∀ b ∈ fp, FpOk Y pins H' b := fun h b hb => ⟨h b hb, (f0 b hb).2⟩
  refine turns_by eq sno (fun n s' => ∃ k H', Inv Y pins σb H' s' ∧ tn k s'.heap ∧ (∀ b ∈ fp, H' b = none) ∧ W k n H') ?_ m0 ⟨0, H0, I0, st0, fun b hb => (f0 b hb).1, w0⟩
  rintro n s1 ⟨k, H1, I1, st1, n1, w1⟩
  rcases turn k n H1 w1 with ⟨stop, qd⟩ | ⟨go, Nx, hN, step⟩
  · refine quietly no (T.done Y rfl rfl rfl hc k pins s1 σb H1 (fun _ _ => False) I1 (ok n1) st1 stop) fun r s2 ⟨hr, I2⟩ => ?_
    subst hr
    exact fin s2 H1 I2 qd
  · refine quietly no (T.item Y rfl rfl rfl hc k pins s1 σb H1 (fun _ _ => False) I1 (ok n1) st1 go) fun r s2 ⟨u, hr, h2⟩ => ?_
    subst hr
    refine quietly no h2 fun _ s3 ⟨x, H3, I3, rx, y3, st3, n3⟩ => ?_
    have Ip := I3.pinned (ok n3) (T.obj _ _ st3)
    refine quietly hx (pg.run _ s3 σb H3 x u _ Ip rx (step x H3 y3)) fun _ s4 ⟨σ4, H4, I4, e4, q4⟩ => ?_
    -- behind the turn
    have next : ∀ {s' : Shared} {H' : Hp}, Inv Y (pins ++ pinsAt fp s3.heap) σb H' s' → Nx H' → ∃ m, m < n ∧ ∃ k H', Inv Y pins σb H' s' ∧ tn k s'.heap ∧ (∀ b ∈ fp, H' b = none) ∧ W k m H' := fun {s' H'} I' nx => by
      obtain ⟨m', hm, w'⟩ := hN H' nx
      have held : ∀ b ∈ fp, ∀ o, s3.heap.get? b = some o → s'.heap.get? b = some o ∧ H' b = none := fun b hb o e => by
        have z := I'.pin (b, o) (List.mem_append_right _ (List.mem_append_right _ (mem_pinsAt hb e)))
        exact ⟨z.1, z.2.1⟩
      refine ⟨m', hm, k + 1, H', I'.unpinned, T.keep _ _ _ st3 fun b hb o e => (held b hb o e).1, fun b hb => ?_, w'⟩
      obtain ⟨o, e, _⟩ := T.obj _ _ st3 b hb
      exact (held b hb o e).2
    refine quietly hx (pt.run _ s4 σ4 H4 _ I4 q4) fun b s5 ⟨H5, I5, q5⟩ => ⟨fun eb => ?_, fun eb => ?_⟩
    · subst eb
      have q5 : τ σ4 H5 Nx := q5
      refine quietly no (pa _ s5 σ4 H5 _ I5 q5) fun fin s6 ⟨ef, H6, I6, nx⟩ => ⟨ef, next ?_ nx⟩
      rw [← e4]
      exact I6
    · subst eb
      have q5 : Nx H5 := q5
      refine next (I5.weak ?_ fun j v e => ?_) q5
      · rw [← e4, wipe_length]
      · rw [← e4] at e
        exact (wipe_some e).1
theorem wipe_less {σ : L2.St} {us vs : List Nat} (h : ∀ i ∈ us, i ∈ vs) (i : Nat) (v : V) (e : (wipe σ vs)[i]? = some (some v)) : (wipe σ us)[i]? = some (some v) := by
  obtain ⟨e1, e2⟩ := wipe_some e
  rw [wipe_out fun z => e2 (h i z)]
  exact e1
/-- the second clause, as what the first does -/
theorem pac_for {t0 i0 t1 i1 : Expr} {ifs0 ifs1 : List Expr} {step : Addr → Bool → Sem PySem.Fin} {c : Code} {wi : TI} {g : TG} {tt : TT} {τ : L2.St → Hp → (Hp → Prop) → Prop} {vs vs1 : List Nat} (hc : Y.calm = true) (hx : ∀ e s, ¬ Y.xe e s)
    (eq : ∀ it : Addr, compTurn (.DictComp kx vx [⟨t0, i0, ifs0, 0⟩, ⟨t1, i1, ifs1, 0⟩] scope pos) 1 (.ref it) acc Y.env = (do
      standAt i1.pos
      match ← pyNext (.ref it) with
      | none => pure (.done .next)
      | some v =>
        letOwnedTupleGo t1 (.ref it) v
        assign t1 Y.env v
        let mut ok := true
        for c in ifs1 do
          if ok then ok ← isTrue c Y.env (eval c Y.env)
        step it ok))
    (sno : ∀ it : Addr, step it false = again (.compLoop (.DictComp kx vx [⟨t0, i0, ifs0, 0⟩, ⟨t1, i1, ifs1, 0⟩] scope pos) 1 (.ref it) acc Y.env))
    (hi : PI Y t1 i1 wi) (hg : PG Y t1 g) (ht : PTs Y ifs1 tt) (ha : ∀ it : Addr, PAc Y vs1 (.compLoop (.DictComp kx vx [⟨t0, i0, ifs0, 0⟩, ⟨t1, i1, ifs1, 0⟩] scope pos) 1 (.ref it) acc Y.env) (step it true) τ) (hv : ∀ i ∈ vs1, i ∈ vs) (hs : ∀ x, foldedSetIterable i1 Y.env x = pure x) :
    PAc Y vs c (do
      let x ← eval i1 Y.env
      standAt i1.pos
      let x ← foldedSetIterable i1 Y.env x
      let _ ← runOwn (.compStart (.DictComp kx vx [⟨t0, i0, ifs0, 0⟩, ⟨t1, i1, ifs1, 0⟩] scope pos) 1 (← holding [x] (pyIter x)) acc Y.env) Y.env
      again c)
      (fun σ H N => wi σ H fun J H1 => Turns J g tt τ vs1 (wipe σ vs1) H1 N) := by
  intro pins s σ H N I h
  refine wpAny_bind (quietly hx (hi.run pins s σ H _ I h) fun x s1 h1 => wpAny_bind (wpAny_standAt (wpAny_bind (wpAny_of_eq (hs x) (wpAny_bind (wpAny_holding (quietly hx h1 fun itv s2 h2 => ?_)))))))
  obtain ⟨it, fp, tn, J, H2, e, I2, T, st2, f2, q⟩ := h2
  subst e
  refine wpAny_bind (wpAny_runOwn ?_)
  rw [Around.mark_none]
  have I2' : Inv Y pins (wipe σ vs1) H2 s2 := I2.weak (wipe_length _ _) fun j v e => (wipe_some e).1
  have loop := clause_run (R := fun r s' => match r with
      | .ok _ => ∃ H', Inv Y pins (wipe σ vs) H' s' ∧ N H'
      | .error _ => False) hc hx (eq it) (sno it) T hg ht (ha it) I2' st2 f2 q fun s' H' I' n => ⟨H', I'.weak ((wipe_length _ _).trans (wipe_length _ _).symm) fun j v e => wipe_less hv j v e, n⟩
  refine codeAny_mono (start_by rfl loop fun Q E hq => T.self Y.A 0 _ _ _ st2 hq) fun r s' hr => ?_
  cases r with
  | ok f => exact wpAny_pure ⟨rfl, hr⟩
  | error e => exact hr.elim
/-- d[k] = v in a dict comprehension -/
theorem dict_put {pins : List (Addr × Obj)} {σ : L2.St} {H H' : Hp} {s : Shared} {D : Addr} {y v : V} {u r : Value} {E : Value → Shared → Prop} {Q : Unit → Shared → Prop} (hu : Y.A.units < cLine) (I : Inv Y pins σ H s) (p : DPut H D y v H') (ry : RelV y u) (rv : RelV v r) (h : ∀ s', Inv Y pins σ H' s' → Q () s') :
    wpAny (model Y.prog Y.w) Y.A (dictSet D u r) Q E s := by
  rcases p with ⟨kvs, k, e, rfl, l, rfl⟩ | ⟨kvs, k, b, e, rfl, eb, l, rfl⟩
  · exact d_dictSet I e l ry rv h
  · cases (show u = Value.ref b from ry)
    obtain ⟨z, hd, xs, rel, dd⟩ := dt_of I.hok e
    have zx : xs.length ≤ sizeLine := by
      rw [← Paired.length rel]
      exact z
    have zp : (putK kvs k v).length ≤ sizeLine := Nat.le_trans (length_putK kvs k v) l
    refine wpAny_dictSet_heap (hsz := zx) hu (key_of I.hok eb) dd fun h' dd' sb => h _ ?_
    obtain ⟨o, es, ep, e1, e2, e3, e4, _, e5⟩ := dd'
    refine d_write I (by rw [e]; exact True.intro) sb ⟨o, e1⟩ ⟨zp, hd, _, (rel.put k eb rv).keeps fun c ys ec => ?_, o, es, ep, e1, e2, e3, e4, e5⟩
    rw [upd_ne (ne_of ec e fun q => nomatch q)]
    exact ec
/-- the last clause's: an entry is put into the dict -/
theorem pac_dict {D : Addr} {c : Code} {tk tv : TE} {vs : List Nat} (hx : ∀ e s, ¬ Y.xe e s) (hu : Y.A.units < cLine) (hk : PE Y kx tk) (hv : PE Y vx tv) : PAc Y vs c ((do
      let kv ← eval kx Y.env
      let vv ← holding [kv] (eval vx Y.env)
      standAt { kx.pos with endLine := vx.pos.endLine, endCol := vx.pos.endCol }
      holding [kv, vv] (dictSet D kv vv)) >>= fun _ => again c)
      (fun σ H N => tk σ H fun y H1 => tv σ H1 fun z H2 => ∃ H3, DPut H2 D y z H3 ∧ N H3) := by
  intro pins s σ H N I h
  refine wpAny_bind (wpAny_bind (quietly hx (hk.run pins s σ H _ I h) fun kv s1 ⟨y, H1, I1, ry, h1⟩ => ?_))
  refine wpAny_bind (wpAny_holding (quietly hx (hv.run pins s1 σ H1 _ I1 h1) fun vv s2 ⟨z, H2, I2, rz, H3, p, n⟩ => ?_))
  exact wpAny_bind (wpAny_standAt (wpAny_holding (dict_put hu I2 p ry rz fun s3 I3 => wpAny_pure ⟨rfl, H3, I3.weak (wipe_length _ _) fun j v e => (wipe_some e).1, n⟩)))
end
section
variable {X : Cx}
/-- {k: v for t0 in i0 if .. for t1 in i1 if ..}: D the new dict, its keys ints and texts, or tuples of them -/
def tDc2 (wi : TI) (g : TG) (tt : TT) (wi1 : TI) (g1 : TG) (tt1 : TT) (tk tv : TE) (vs vs1 : List Nat) : TE := fun σ H Q => wi σ H fun J H1 => ∀ D, H1 D = none → ∃ o : HO, (o = .dK [] ∨ o = .dT []) ∧
  Turns J g tt (fun σ H N => wi1 σ H fun J H1 => Turns J g1 tt1 (fun σ H N => tk σ H fun y H1 => tv σ H1 fun z H2 => ∃ H3, DPut H2 D y z H3 ∧ N H3) vs1 (wipe σ vs1) H1 N) vs (wipe σ vs) (upd H1 D o) (Q (.ref D))
theorem pe_dc2 {kx vx t0 i0 t1 i1 : Expr} {ifs0 ifs1 : List Expr} {scope : Scope} {own : List (Str × Nat)} {vs1 : List Nat} {pos : Pos} {wi wi1 : TI} {g g1 : TG} {tt tt1 : TT} {tk tv : TE} (hc : X.calm = true) (hN : X.N.Nodup) (hu : X.A.units < cLine) (hi : PI X t0 i0 wi)
    (ok : BlkOk X.N X.env.scope scope own) (hv : ∀ i ∈ vs1, i ∈ own.map (·.2))
    (hg : ∀ s H C cl fp, PG (X.blk s H scope (compEnvC scope cl C X.env) fp) t0 g) (ht : ∀ s H C cl fp, PTs (X.blk s H scope (compEnvC scope cl C X.env) fp) ifs0 tt)
    (hi1 : ∀ s H C cl fp, PI (X.blk s H scope (compEnvC scope cl C X.env) fp) t1 i1 wi1)
    (hg1 : ∀ s H C cl fp, PG (X.blk s H scope (compEnvC scope cl C X.env) fp) t1 g1) (ht1 : ∀ s H C cl fp, PTs (X.blk s H scope (compEnvC scope cl C X.env) fp) ifs1 tt1)
    (hk : ∀ s H C cl fp, PE (X.blk s H scope (compEnvC scope cl C X.env) fp) kx tk) (he : ∀ s H C cl fp, PE (X.blk s H scope (compEnvC scope cl C X.env) fp) vx tv)
    (hs : ∀ x, foldedSetIterable i0 X.env x = pure x := by intro _; rfl) (hs1 : ∀ env x, foldedSetIterable i1 env x = pure x := by intro _ _; rfl) :
    PE X (.DictComp kx vx [⟨t0, i0, ifs0, 0⟩, ⟨t1, i1, ifs1, 0⟩] scope pos) (tDc2 wi g tt wi1 g1 tt1 tk tv (own.map (·.2)) vs1) := by
  refine ⟨fun pins s σ H Q I h => ?_⟩
  rw [arm_eval_DictComp]
  have has : ∀ y ∈ scope.names, y.2 = .free → ∃ c, X.env.cells.lookup y.1 = some c := fun y hy e => I.ok.has _ (ok.free y hy e)
  refine wpAny_comprehension_free (use := none) rfl hs (closure_ok has) ok.kind (fun y hy e => by rw [ok.uniq y hy, e]) (thn (hi.run pins s σ H _ I h) fun xv s1 hx => thn hx fun itv s2 h2 => wpAny_newObj_type (newEnv_comp ?_))
  obtain ⟨it, fp, tn, J, H2, rfl, I2, T, st2, f2, q⟩ := h2
  obtain ⟨o, ho, turns⟩ := q s2.heap.objs.size (I2.hok.fresh (Nat.le_refl _))
  -- the new dict
  have seen : ∀ b ob, s2.heap.get? b = some ob → (s2.heap.push { cls := .type "dict", data := .dict #[] }).get? b = some ob := fun b ob e => Heap.get?_push_of_some _ e
  have I3 : Inv X pins σ (upd H2 s2.heap.objs.size o) { s2 with heap := s2.heap.push { cls := .type "dict", data := .dict #[] } } := by
    refine I2.laid (t' := s2.toks) seen (Nat.le_refl _) ?_
    rcases ho with rfl | rfl
    · exact dk_empty s2.heap I2.big
    · exact dt_empty s2.heap I2.big
  have low : ∀ b ∈ fp, b < s2.heap.objs.size := fun b hb => by
    obtain ⟨ob, e, _⟩ := T.obj _ _ st2 b hb
    exact Heap.lt_size e
  have st3 : tn 0 (s2.heap.push { cls := .type "dict", data := .dict #[] }) := T.keep _ _ _ st2 fun b _ ob e => seen b ob e
  have sz3 : (s2.heap.push { cls := .type "dict", data := .dict #[] }).objs.size = s2.heap.objs.size + 1 := Heap.size_push _ _
  have f3 : ∀ b ∈ fp, FpOk X pins (upd H2 s2.heap.objs.size o) b ∧ b < (s2.heap.push { cls := .type "dict", data := .dict #[] }).objs.size := fun b hb => by
    have lt := low b hb
    refine ⟨⟨?_, (f2 b hb).2⟩, by rw [sz3]; exact Nat.lt_succ_of_lt lt⟩
    rw [upd_ne (Nat.ne_of_lt lt)]
    exact (f2 b hb).1
  generalize s2.heap.objs.size = D at *
  generalize hs3 : ({ s2 with heap := s2.heap.push { cls := .type "dict", data := .dict #[] } } : Shared) = s3 at I3
  have e3 : s2.heap.push { cls := .type "dict", data := .dict #[] } = s3.heap := by rw [← hs3]
  generalize upd H2 D o = H3 at *
  rw [e3] at st3 f3
  have I4 := block_start I3 ok hN f3
  have pg := hg s3 H3 s3.heap.objs.size (cellsFrom (s3.heap.objs.size + 1) scope.names (cloFrom X.env.cells scope.names [])) fp
  have pt := ht s3 H3 s3.heap.objs.size (cellsFrom (s3.heap.objs.size + 1) scope.names (cloFrom X.env.cells scope.names [])) fp
  have pi1 := hi1 s3 H3 s3.heap.objs.size (cellsFrom (s3.heap.objs.size + 1) scope.names (cloFrom X.env.cells scope.names [])) fp
  have pg1 := hg1 s3 H3 s3.heap.objs.size (cellsFrom (s3.heap.objs.size + 1) scope.names (cloFrom X.env.cells scope.names [])) fp
  have pt1 := ht1 s3 H3 s3.heap.objs.size (cellsFrom (s3.heap.objs.size + 1) scope.names (cloFrom X.env.cells scope.names [])) fp
  have pk := hk s3 H3 s3.heap.objs.size (cellsFrom (s3.heap.objs.size + 1) scope.names (cloFrom X.env.cells scope.names [])) fp
  have pe := he s3 H3 s3.heap.objs.size (cellsFrom (s3.heap.objs.size + 1) scope.names (cloFrom X.env.cells scope.names [])) fp
  have st4 : tn 0 (pushCells (s3.heap.push { cls := .type "dict", data := .dict #[] }) scope.names) := T.keep _ _ _ st3 fun b _ ob e => pushCells_keeps _ _ _ _ (Heap.get?_push_of_some _ e)
  show codeAny _ _ (.compStart _ 0 (.ref it) (.ref D) (compEnvC scope (cellsFrom (s3.heap.objs.size + 1) scope.names (cloFrom X.env.cells scope.names [])) s3.heap.objs.size X.env)) (compPost (model X.prog X.w) X.A X.xe none (EP X pins σ Q) (.ref D) s3.heap.objs.size) _
  generalize hce : compEnvC scope (cellsFrom (s3.heap.objs.size + 1) scope.names (cloFrom X.env.cells scope.names [])) s3.heap.objs.size X.env = ce at I4 pg pt pi1 pg1 pt1 pk pe ⊢
  have here : ce.locals = s3.heap.objs.size := by
    rw [← hce]
    rfl
  have f4 : ∀ b ∈ fp, FpOk (X.blk s3 H3 scope ce fp) [] H3 b := fun b hb => ⟨(f3 b hb).1.1, (I4.ok.exf b hb).1, I4.ok.exfs b hb, .inl hb, fun x c e => (I4.ok.exf b hb).2 x c e, fun p hp => nomatch (show p ∈ ([] : List (Addr × Obj)) from hp)⟩
  have loop := clause_run (Y := X.blk s3 H3 scope ce fp) (R := compPost (model X.prog X.w) X.A X.xe none (EP X pins σ Q) (.ref D) s3.heap.objs.size) (acc := .ref D) (kx := kx) (vx := vx) (scope := scope) (pos := pos) (dp := 0) (gs := [⟨t0, i0, ifs0, 0⟩, ⟨t1, i1, ifs1, 0⟩]) (t := t0) (i := i0) (ifs := ifs0) hc (fun _ _ z => z) rfl rfl T pg pt
    (pac_for (Y := X.blk s3 H3 scope ce fp) (acc := .ref D) (kx := kx) (vx := vx) (scope := scope) (pos := pos) (t0 := t0) (i0 := i0) (ifs0 := ifs0) hc (fun _ _ z => z) (fun _ => rfl) (fun _ => rfl) pi1 pg1 pt1 (fun it => pac_dict (Y := X.blk s3 H3 scope ce fp) (D := D) (fun _ _ z => z) hu pk pe) hv (hs1 ce)) I4 st4 f4 turns fun s' H' I' qd => ?_
  · exact start_by rfl loop fun Q E hq => T.self X.A 0 _ _ _ st4 hq
  · have I7 : Inv X pins σ H' s' := I3.call' (ch := fp) I'.os I'.base I'.hok I'.bare fun b hb => by
      obtain ⟨⟨_, z1, _, z2, z3, z4⟩, _⟩ := f3 b hb
      exact ⟨z2, z1, z3, z4⟩
    have nC : H' s3.heap.objs.size = none := by
      have z : H' ce.locals = none := I'.free
      rw [here] at z
      exact z
    obtain ⟨m, hn, _⟩ := I'.loc
    have hn : s'.heap.Ns ce.locals m := hn
    rw [here] at hn
    obtain ⟨g0, g1, _, g3, g4, g5⟩ := I3.fpOk (Nat.le_refl _) nC
    exact ⟨m, hn, fun h2 sb => ⟨.ref D, H', I7.turned (t' := s'.toks) (fun b ob hb e => (sb.2 b hb).trans e) g0 g1 g3 g4 g5, rfl, qd⟩⟩
end
end K1

namespace K1
open PySem PySem.Spec
open PyProof.Rows L2 EnT StX SmX TxS DuX ClX
/-! ### a design made -/
theorem walk_zipT {K : PySem.W.Frag} {a b : Addr} {xs ys : List V} {n : Nat} (hn : n = min xs.length ys.length) : Walk (RZ.ItzT K a b) n (fun H => SqT K H a xs ∧ SqT K H b ys) (YPair (fun i => xs[i]?) (fun i => ys[i]?)) := by
  subst hn
  refine ⟨fun i _ hi q => ?_, fun _ q => ⟨xs, ys, q.1, q.2, by omega⟩, fun i H v H' _ q y => ?_⟩
  · exact ⟨xs, ys, xs[i]'(by omega), ys[i]'(by omega), q.1, q.2, by simp [show i < xs.length by omega], by simp [show i < ys.length by omega]⟩
  · obtain ⟨T, x, z, h1, h2, h3, h4, h5⟩ := y
    exact ⟨T, x, z, h1, h2, h3, h4 xs q.1, h5 ys q.2⟩
/-- the turns of a clause over a walk of n items -/
theorem turns_it {J : It} {n : Nat} {G : Hp → Prop} {Y : Nat → Hp → V → Hp → Prop} (w : Walk J n G Y) {g : TG} {tt : TT} {τ : L2.St → Hp → (Hp → Prop) → Prop} {vs : List Nat} {σb : L2.St} {H0 : Hp} {Qd : Hp → Prop} (Pv : Nat → Hp → Prop) (h0 : Pv 0 H0) (hG : ∀ i H, i ≤ n → Pv i H → G H)
    (hs : ∀ i x H H', i < n → Pv i H → Y i H x H' → g x σb H' fun σ2 H2 => wipe σ2 vs = σb ∧ tt σ2 H2 fun b H3 => if b = true then τ σ2 H3 (Pv (i + 1)) else Pv (i + 1) H3) (hd : ∀ H, Pv n H → Qd H) : Turns J g tt τ vs σb H0 Qd := by
  refine ⟨fun i m H => m + i = n ∧ Pv i H, ⟨n, rfl, h0⟩, fun i m H ⟨e, p⟩ => ?_⟩
  have q := hG i H (by omega) p
  cases m with
  | zero =>
    have e : i = n := by omega
    subst e
    exact .inl ⟨w.stops H q, hd H p⟩
  | succ m => exact .inr ⟨w.goes i H (by omega) q, Pv (i + 1), fun H' p' => ⟨m, by omega, by omega, p'⟩, fun x H' y => hs i x H H' (by omega) p (w.yields i H x H' (by omega) q y)⟩
abbrev dfl5 (pt f m c v : V) : List (Str × V) := putF "_views" v (putF "_calls" c (putF "_modes" m (putF "_fields" f (putF "_parts" pt []))))
abbrev dflds (pt f m c v n1 n2 d1 d2 : V) : List (Str × V) := putF "_shown" d2 (putF "_cases" d1 (putF "_view_names" n2 (putF "_names" n1 (dfl5 pt f m c v))))
theorem df_fields (pt f m c v n1 n2 d1 d2 : V) : (dflds pt f m c v n1 n2 d1 d2).lookup ("_fields" : Str) = some f := by
  rw [lookup_putF, if_neg (by decide +kernel), lookup_putF, if_neg (by decide +kernel), lookup_putF, if_neg (by decide +kernel), lookup_putF, if_neg (by decide +kernel), lookup_putF, if_neg (by decide +kernel), lookup_putF, if_neg (by decide +kernel), lookup_putF, if_neg (by decide +kernel), lookup_putF, if_pos rfl]
theorem df_modes (pt f m c v n1 n2 d1 d2 : V) : (dflds pt f m c v n1 n2 d1 d2).lookup ("_modes" : Str) = some m := by
  rw [lookup_putF, if_neg (by decide +kernel), lookup_putF, if_neg (by decide +kernel), lookup_putF, if_neg (by decide +kernel), lookup_putF, if_neg (by decide +kernel), lookup_putF, if_neg (by decide +kernel), lookup_putF, if_neg (by decide +kernel), lookup_putF, if_pos rfl]
theorem df_names (pt f m c v n1 n2 d1 d2 : V) : (dflds pt f m c v n1 n2 d1 d2).lookup ("_names" : Str) = some n1 := by
  rw [lookup_putF, if_neg (by decide +kernel), lookup_putF, if_neg (by decide +kernel), lookup_putF, if_neg (by decide +kernel), lookup_putF, if_pos rfl]
theorem df_vnames (pt f m c v n1 n2 d1 d2 : V) : (dflds pt f m c v n1 n2 d1 d2).lookup ("_view_names" : Str) = some n2 := by
  rw [lookup_putF, if_neg (by decide +kernel), lookup_putF, if_neg (by decide +kernel), lookup_putF, if_pos rfl]
/-- what is known of the class Design -/
structure DesC (K : PySem.W.Frag) (mg : Str → Option Value) (C : Addr) : Prop where
  g : mg "Design" = some (.ref C)
  cl : Cls K C
  n0 : NoAttr K C "_parts"
  n1 : NoAttr K C "_fields"
  n2 : NoAttr K C "_modes"
  n3 : NoAttr K C "_calls"
  n4 : NoAttr K C "_views"
  n5 : NoAttr K C "_names"
  n6 : NoAttr K C "_view_names"
  n7 : NoAttr K C "_cases"
  n8 : NoAttr K C "_shown"
/-- a design: its fields and modes as they were given, the names of calls and views -/
structure DesAt (C : Addr) (H : Hp) (p : Addr) (f m : V) (ns vn : List Str) : Prop where
  at_ : ∃ (dx a1 a2 : Addr) (pt c v d1 d2 : V), H p = some (.ins C dx (dflds pt f m c v (.ref a1) (.ref a2) d1 d2)) ∧ H a1 = some (.tup (ns.map V.str)) ∧ H a2 = some (.tup (vn.map V.str))
theorem DesAt.same {C p : Addr} {H H' : Hp} {f m : V} {ns vn : List Str} (s : Same H H') (h : DesAt C H p f m ns vn) : DesAt C H' p f m ns vn := by
  obtain ⟨dx, a1, a2, pt, c, v, d1, d2, h1, h2, h3⟩ := h.at_
  exact ⟨dx, a1, a2, pt, c, v, d1, d2, s _ _ h1, s _ _ h2, s _ _ h3⟩
/-- what Design(..) does -/
def spInitD (C CF CM CC CV : Addr) : Sp := fun vs H Q E => ∃ (p dx : Addr) (f m c v : V), vs = [.ref p, f, m, c, v] ∧ H p = some (.ins C dx []) ∧
  ((∃ i, BadNs fieldV H f i ∧ ErrAt CF "index" i H E) ∨ ∃ fs, GoodNs fieldV H f fs ∧
    ((∃ i, BadNs nameV H m i ∧ ErrAt CM "index" i H E) ∨ ∃ ms, GoodNs nameV H m ms ∧
      ((NoTup H c ∧ ErrAt CC "index" .non H E) ∨ ∃ cs, Calls H c cs ∧
        ((NoTup H v ∧ ErrAt CV "index" .non H E) ∨ ∃ vn, Views ms.length H v vn ∧ ∀ H', (∀ x o, x ≠ p → H x = some o → H' x = some o) → DesAt C H' p f m (cs.map (·.1)) vn → Q .non H'))))
theorem CallAt.tk {H H' : Hp} {v : V} {z s : Str} (k : TupK H H') (h : CallAt H v z s) : CallAt H' v z s := by
  obtain ⟨⟨c, e, a1, a2, a3⟩, b, d⟩ := h
  exact ⟨⟨c, e, a1, k _ _ a2, k _ _ a3⟩, b, d⟩
theorem ViewAt.tk {H H' : Hp} {v : V} {z : Str} {n : Nat} (k : TupK H H') (h : ViewAt H v z n) : ViewAt H' v z n := by
  obtain ⟨⟨c, e, a1, a2, a3⟩, b, d⟩ := h
  exact ⟨⟨c, e, a1, k _ _ a2, k _ _ a3⟩, b, d⟩
theorem tupK_ins {H : Hp} {p C dx : Addr} {fs : List (Str × V)} {o : HO} (e : H p = some (.ins C dx fs)) : TupK H (upd H p o) := fun a xs h => by
  rw [upd_ne (fun z => by rw [z, e] at h; cases h)]
  exact h
abbrev nmID : List Str := ["self", "fields", "modes", "calls", "views", "name", "_", "cases", "case", "forms", "mode", "form"]
section
variable {w : World} {P : Program} {base : Heap} {mg : Str → Option Value} {K : PySem.W.Frag} {aS C CE CF CM CC CV : Addr}
theorem scID : FnScope nmID ["self", "fields", "modes", "calls", "views"] (defScope sInitD) := ⟨rfl, rfl, rfl, by decide +kernel, rfl, by decide +kernel, by decide +kernel⟩
abbrev cxD (P : Program) (w : World) (K : PySem.W.Frag) (mg : Str → Option Value) (base : Heap) (f : Addr) (cdv : Value) (A : Around) (outer : List Env) (s : Shared) (H : Hp) (E : XK) : Cx := cxOf (L2.CX P w) P w K mg base nmID "Design.__init__" (defScope sInitD) f cdv A outer s H E
/-- ahead of the names -/
structure AtD9 (C p : Addr) (σ : L2.St) (H : Hp) (En : Ends) : Prop where
  ex : ∃ (dx : Addr) (pt f m c v : V) (ms : List Str) (cs : List (Str × Str)) (vn : List Str), σ = [some (.ref p), some f, some m, some c, some v, none, none, none, none, none, none, none] ∧ H p = some (.ins C dx (dfl5 pt f m c v)) ∧ GoodNs nameV H m ms ∧ Calls H c cs ∧ Views ms.length H v vn ∧
    ∀ H', (∀ x o, x ≠ p → H x = some o → H' x = some o) → DesAt C H' p f m (cs.map (·.1)) vn → En.nx σ H'
theorem id9 {f : Addr} {cdv : Value} {A : Around} {outer : List Env} {s : Shared} {H0 : Hp} {E : XK} {p fE : Addr} {fdE : FuncData} (T : Free mg) (gz : mg "zip" = none) (D : DesC K mg C) (M : ExpC K mg CE) (ME : Mk K CE fE) (GE : FnOk P w K mg base CX0 8 fE fdE ["self", "form"] (spInitE CE)) (bE : Binds K fdE ["self", "form"] [])
    (hr : Room 10 (A.deeper (envOfC "Design.__init__" (defScope sInitD) s.heap.objs.size f cdv))) :
    PSs (cxD P w K mg base f cdv A outer s H0 E) ((defBody sInitD).drop 9) (fun En σ H => AtD9 C p σ H En) := by
  refine pss_of fun En σ H hyp => ?_
  obtain ⟨dx, pt, f, m, c, v, ms, cs, vn, rfl, hp, hm, hc, hv, fin⟩ := hyp
  have hu := hu_of hr
  refine ⟨_, pss_cons (ps_fld (pv 0) (pe_callTy call_tuple_of (by rfl) T.tuple (by decide +kernel) (pa_cons (pe_lc (own := [("name", 5), ("_", 6)]) (g := gTup K 3 (gCons (gName 5) (gCons (gName 6) (gCons (gName 6) gNil)))) (tt := tYes) (te := tVar 5) rfl scID.nd (pi_tup (pv 3))
        (blkOk_by (own := [("name", 5), ("_", 6)]) (N := nmID) (sc := defScope sInitD) (by decide +kernel)) (fun _ _ _ _ _ => pg_tup rfl (pgs_cons (pg_name (i := 5) scID.nd rfl (.inl rfl)) (pgs_cons (pg_name (i := 6) scID.nd rfl (.inl rfl)) (pgs_cons (pg_name (i := 6) scID.nd rfl (.inl rfl)) pgs_nil)))) (fun _ _ _ _ _ => pts_nil) (fun _ _ _ _ _ => pv 5)) pa_nil)) rfl)
    (pss_cons (ps_fld (pv 0) (pe_callTy call_tuple_of (by rfl) T.tuple (by decide +kernel) (pa_cons (pe_lc (own := [("name", 5), ("_", 6)]) (g := gTup K 2 (gCons (gName 5) (gCons (gName 6) gNil))) (tt := tYes) (te := tVar 5) rfl scID.nd (pi_tup (pv 4))
        (blkOk_by (own := [("name", 5), ("_", 6)]) (N := nmID) (sc := defScope sInitD) (by decide +kernel)) (fun _ _ _ _ _ => pg_tup rfl (pgs_cons (pg_name (i := 5) scID.nd rfl (.inl rfl)) (pgs_cons (pg_name (i := 6) scID.nd rfl (.inl rfl)) pgs_nil))) (fun _ _ _ _ _ => pts_nil) (fun _ _ _ _ _ => pv 5)) pa_nil)) rfl)
    (pss_cons (ps_fld (pv 0) (pe_dc2 (own := [("name", 5), ("_", 6), ("cases", 7), ("case", 8)]) (vs1 := [8]) (g := gTup K 3 (gCons (gName 5) (gCons (gName 6) (gCons (gName 7) gNil)))) (tt := tYes) (wi1 := iTup K (tVar 7)) (g1 := gName 8) (tt1 := tYes) (tk := tTup (tCons (tVar 5) (tCons (tOp (rIxT K) (tVar 8) (tC (.int 0))) tNil))) (tv := tVar 8) rfl scID.nd (Nat.lt_of_succ_lt hu) (pi_tup (pv 3))
        (blkOk_by (own := [("name", 5), ("_", 6), ("cases", 7), ("case", 8)]) (N := nmID) (sc := defScope sInitD) (by decide +kernel)) (by decide) (fun _ _ _ _ _ => pg_tup rfl (pgs_cons (pg_name (i := 5) scID.nd rfl (.inl rfl)) (pgs_cons (pg_name (i := 6) scID.nd rfl (.inl rfl)) (pgs_cons (pg_name (i := 7) scID.nd rfl (.inl rfl)) pgs_nil)))) (fun _ _ _ _ _ => pts_nil) (fun _ _ _ _ _ => pi_tup (pv 7)) (fun _ _ _ _ _ => pg_name (i := 8) scID.nd rfl (.inl rfl)) (fun _ _ _ _ _ => pts_nil)
        (fun _ _ _ _ _ => pe_tup (pa_cons (pv 5) (pa_cons (pe_ix ix_tup (pv 8) pe_int (fun _ _ => rfl)) pa_nil))) (fun _ _ _ _ _ => pv 8)) rfl)
    (pss_one (ps_fld (pv 0) (pe_dc2 (own := [("name", 5), ("forms", 9), ("mode", 10), ("form", 11)]) (vs1 := [10, 11]) (g := gTup K 2 (gCons (gName 5) (gCons (gName 9) gNil))) (tt := tYes) (wi1 := RZ.iZipA K (tCons (tVar 2) (tCons (tVar 9) tNil))) (g1 := gTup K 2 (gCons (gName 10) (gCons (gName 11) gNil))) (tt1 := tYes) (tk := tTup (tCons (tVar 5) (tCons (tVar 10) tNil))) (tv := tMake CE (spInitE CE) [] E0 (tCons (tVar 11) tNil)) rfl scID.nd (Nat.lt_of_succ_lt hu) (pi_tup (pv 4))
        (blkOk_by (own := [("name", 5), ("forms", 9), ("mode", 10), ("form", 11)]) (N := nmID) (sc := defScope sInitD) (by decide +kernel)) (by decide) (fun _ _ _ _ _ => pg_tup rfl (pgs_cons (pg_name (i := 5) scID.nd rfl (.inl rfl)) (pgs_cons (pg_name (i := 9) scID.nd rfl (.inl rfl)) pgs_nil))) (fun _ _ _ _ _ => pts_nil) (fun _ _ _ _ _ => RZ.pi_zipA (by rfl) gz (pa_cons (pv 2) (pa_cons (pv 9) pa_nil)))
        (fun _ _ _ _ _ => pg_tup rfl (pgs_cons (pg_name (i := 10) scID.nd rfl (.inl rfl)) (pgs_cons (pg_name (i := 11) scID.nd rfl (.inl rfl)) pgs_nil))) (fun _ _ _ _ _ => pts_nil)
        (fun _ _ _ _ _ => pe_tup (pa_cons (pv 5) (pa_cons (pv 10) pa_nil))) (fun _ _ _ _ _ => pe_make ME GE (hr.mono (by decide)) (by rfl) M.g bE .nil pass0 (pa_cons (pv 11) pa_nil))) rfl)))), ?_⟩
  obtain ⟨⟨am, rfl, ham⟩, ml1, ml4, mok, mnd⟩ := hm
  obtain ⟨⟨ac, xc, rfl, hac, lc, cc⟩, l8, ndc⟩ := hc
  obtain ⟨⟨av, xv, rfl, hav, lv, vv⟩, l4, ndv⟩ := hv
  -- the names of the calls
  refine ⟨_, rfl, ac, rfl, ⟨_, SqT.of hac⟩, fun La nLa => ?_⟩
  refine lc_tup (K := K) (a := ac) (xs := xc) (fun i H' => Same H H' ∧ H' La = some (.lst (((cs.map (·.1)).take i).map V.str))) ?_ ?_ ?_ ?_
  · exact ⟨same_upd nLa, upd_same⟩
  · rintro i H' hi ⟨sm, _⟩
    exact SqT.of (sm _ _ hac)
  · rintro i x H1 hx ⟨sm, hL⟩
    have ix : i < cs.length := by rw [← lc]; exact (List.getElem?_eq_some_iff.mp hx).1
    obtain ⟨z, so, ez⟩ : ∃ z so, cs[i]? = some (z, so) := ⟨(cs[i]).1, (cs[i]).2, by rw [List.getElem?_eq_getElem ix]⟩
    obtain ⟨u, eu, cu⟩ := cc i z so ez
    rw [eu] at hx
    cases hx
    obtain ⟨⟨b, e, rfl, hb, he⟩, _, _⟩ := cu.same sm
    refine ⟨b, _, rfl, SqT.of hb, rfl, _, _, rfl, _, _, rfl, _, _, rfl, rfl, rfl, ?_⟩
    refine ⟨_, rfl, _, hL, by rw [List.length_map, List.length_take, List.length_map, sizeLine_eq]; omega, same_set sm nLa, ?_⟩
    have ezn : (cs.map (·.1))[i]? = some z := by rw [List.getElem?_map, ez]; rfl
    rw [upd_same, List.take_add_one, ezn, List.map_append]
    rfl
  rintro H1 ⟨s1, hL1⟩
  rw [List.take_of_length_le (by rw [List.length_map, lc]; exact Nat.le_refl _)] at hL1
  refine ⟨La, _, rfl, .inl ⟨SqL.of hL1, fun a1 na1 => ?_⟩⟩
  have s2 := s1.trans (same_upd (o := .tup ((cs.map (·.1)).map V.str)) na1)
  have ha1 : (upd H1 a1 (.tup ((cs.map (·.1)).map V.str))) a1 = some (.tup ((cs.map (·.1)).map V.str)) := upd_same
  generalize upd H1 a1 (.tup ((cs.map (·.1)).map V.str)) = H2 at s2 ha1 ⊢
  have hp2 := s2 _ _ hp
  refine ⟨_, rfl, p, C, dx, _, rfl, hp2, D.cl, D.n5, (by rw [show (dfl5 pt f (.ref am) (.ref ac) (.ref av)).length = 5 from rfl]; decide), ?_⟩
  have k3 : TupK H (upd H2 p (.ins C dx (putF "_names" (.ref a1) (dfl5 pt f (.ref am) (.ref ac) (.ref av))))) := fun a xs h => tupK_ins hp2 _ _ (s2 _ _ h)
  have x3 : ∀ x o, x ≠ p → H x = some o → (upd H2 p (.ins C dx (putF "_names" (.ref a1) (dfl5 pt f (.ref am) (.ref ac) (.ref av))))) x = some o := fun x o n e => by
    rw [upd_ne n]
    exact s2 _ _ e
  have hp3 : (upd H2 p (.ins C dx (putF "_names" (.ref a1) (dfl5 pt f (.ref am) (.ref ac) (.ref av))))) p = some (.ins C dx (putF "_names" (.ref a1) (dfl5 pt f (.ref am) (.ref ac) (.ref av)))) := upd_same
  have ha3 := tupK_ins (o := .ins C dx (putF "_names" (.ref a1) (dfl5 pt f (.ref am) (.ref ac) (.ref av)))) hp2 _ _ ha1
  generalize upd H2 p (.ins C dx (putF "_names" (.ref a1) (dfl5 pt f (.ref am) (.ref ac) (.ref av)))) = H3 at k3 x3 hp3 ha3 ⊢
  -- the names of the views
  refine ⟨_, rfl, av, rfl, ⟨_, SqT.of (k3 _ _ hav)⟩, fun Lb nLb => ?_⟩
  refine lc_tup (K := K) (a := av) (xs := xv) (fun i H' => Same H3 H' ∧ H' Lb = some (.lst ((vn.take i).map V.str))) ?_ ?_ ?_ ?_
  · exact ⟨same_upd nLb, upd_same⟩
  · rintro i H' hi ⟨sm, _⟩
    exact SqT.of (sm _ _ (k3 _ _ hav))
  · rintro i x H1 hx ⟨sm, hL⟩
    have ix : i < vn.length := by rw [← lv]; exact (List.getElem?_eq_some_iff.mp hx).1
    obtain ⟨z, ez⟩ : ∃ z, vn[i]? = some z := ⟨vn[i], by rw [List.getElem?_eq_getElem ix]⟩
    obtain ⟨u, eu, cu⟩ := vv i z ez
    rw [eu] at hx
    cases hx
    obtain ⟨⟨b, e, rfl, hb, he⟩, _, _⟩ := (cu.tk k3).same sm
    refine ⟨b, _, rfl, SqT.of hb, rfl, _, _, rfl, _, _, rfl, rfl, rfl, ?_⟩
    refine ⟨_, rfl, _, hL, by rw [List.length_map, List.length_take, sizeLine_eq]; omega, same_set sm nLb, ?_⟩
    rw [upd_same, List.take_add_one, ez, List.map_append]
    rfl
  rintro H4 ⟨s4, hL2⟩
  rw [List.take_of_length_le (by rw [lv]; exact Nat.le_refl _)] at hL2
  refine ⟨Lb, _, rfl, .inl ⟨SqL.of hL2, fun a2 na2 => ?_⟩⟩
  have s5 := s4.trans (same_upd (o := .tup (vn.map V.str)) na2)
  have ha2 : (upd H4 a2 (.tup (vn.map V.str))) a2 = some (.tup (vn.map V.str)) := upd_same
  generalize upd H4 a2 (.tup (vn.map V.str)) = H5 at s5 ha2 ⊢
  have hp5 := s5 _ _ hp3
  refine ⟨_, rfl, p, C, dx, _, rfl, hp5, D.cl, D.n6, (by rw [show (putF "_names" (.ref a1) (dfl5 pt f (.ref am) (.ref ac) (.ref av))).length = 6 from rfl]; decide), ?_⟩
  obtain ⟨o6, eo6⟩ : ∃ o6 : HO, o6 = .ins C dx (putF "_view_names" (.ref a2) (putF "_names" (.ref a1) (dfl5 pt f (.ref am) (.ref ac) (.ref av)))) := ⟨_, rfl⟩
  rw [← eo6]
  have k6 : TupK H (upd H5 p o6) := fun a xs h => tupK_ins hp5 _ _ (s5 _ _ (k3 _ _ h))
  have x6 : ∀ x o, x ≠ p → H x = some o → (upd H5 p o6) x = some o := fun x o n e => by
    rw [upd_ne n]
    exact s5 _ _ (x3 x o n e)
  have hp6 : (upd H5 p o6) p = some o6 := upd_same
  have ha16 := tupK_ins (o := o6) hp5 _ _ (s5 _ _ ha3)
  have ha26 := tupK_ins (o := o6) hp5 _ _ ha2
  generalize upd H5 p o6 = H6 at k6 x6 hp6 ha16 ha26 ⊢
  subst eo6
  -- the cases
  refine ⟨_, rfl, ac, rfl, ⟨_, SqT.of (k6 _ _ hac)⟩, fun D1 nD1 => ⟨.dT [], .inr rfl, ?_⟩⟩
  refine turns_it (walk_tup (K := K) (a := ac) (xs := xc)) (fun i H' => Same H6 H') ?_ ?_ ?_ ?_
  · exact same_upd nD1
  · exact fun i H' hi sm => SqT.of (sm _ _ (k6 _ _ hac))
  · rintro i x H7 H8 hi sm ⟨rfl, hx⟩
    have ix : i < cs.length := by rw [← lc]; exact hi
    obtain ⟨z, so, ez⟩ : ∃ z so, cs[i]? = some (z, so) := ⟨(cs[i]).1, (cs[i]).2, by rw [List.getElem?_eq_getElem ix]⟩
    obtain ⟨u, eu, cu⟩ := cc i z so ez
    rw [eu] at hx
    cases hx
    obtain ⟨⟨b, e, rfl, hb, he⟩, _, _⟩ := cu.tk k6
    refine ⟨b, _, rfl, SqT.of (sm _ _ hb), rfl, _, _, rfl, _, _, rfl, _, _, rfl, rfl, rfl, ?_⟩
    refine ⟨_, rfl, e, rfl, ⟨_, SqT.of (sm _ _ he)⟩, ?_⟩
    refine turns_it (walk_tup (K := K) (a := e) (xs := [])) (fun j H' => Same H6 H') sm ?_ ?_ ?_
    · exact fun j H' hj sm => SqT.of (sm _ _ he)
    · exact fun j x H H' hj => absurd hj (Nat.not_lt_zero _)
    · exact fun H' sm => sm
  rintro H7 s7
  have hp7 := s7 _ _ hp6
  refine ⟨_, rfl, p, C, dx, _, rfl, hp7, D.cl, D.n7, (by rw [show (putF "_view_names" (.ref a2) (putF "_names" (.ref a1) (dfl5 pt f (.ref am) (.ref ac) (.ref av)))).length = 7 from rfl]; decide), ?_⟩
  obtain ⟨o8, eo8⟩ : ∃ o8 : HO, o8 = .ins C dx (putF "_cases" (.ref D1) (putF "_view_names" (.ref a2) (putF "_names" (.ref a1) (dfl5 pt f (.ref am) (.ref ac) (.ref av))))) := ⟨_, rfl⟩
  rw [← eo8]
  have k8 : TupK H (upd H7 p o8) := fun a xs h => tupK_ins hp7 _ _ (s7 _ _ (k6 _ _ h))
  have x8 : ∀ x o, x ≠ p → H x = some o → (upd H7 p o8) x = some o := fun x o n e => by
    rw [upd_ne n]
    exact s7 _ _ (x6 x o n e)
  have hp8 : (upd H7 p o8) p = some o8 := upd_same
  have ha18 := tupK_ins (o := o8) hp7 _ _ (s7 _ _ ha16)
  have ha28 := tupK_ins (o := o8) hp7 _ _ (s7 _ _ ha26)
  generalize upd H7 p o8 = H8 at k8 x8 hp8 ha18 ha28 ⊢
  subst eo8
  -- what is shown
  refine ⟨_, rfl, av, rfl, ⟨_, SqT.of (k8 _ _ hav)⟩, fun D2 nD2 => ⟨.dT [], .inr rfl, ?_⟩⟩
  refine turns_it (walk_tup (K := K) (a := av) (xs := xv)) (fun i H' => Same H8 H' ∧ ∃ kvs : List (List L2.Key × V), H' D2 = some (.dT kvs) ∧ kvs.length ≤ 4 * i) ?_ ?_ ?_ ?_
  · exact ⟨same_upd nD2, [], upd_same, Nat.zero_le _⟩
  · exact fun i H' hi sm => SqT.of (sm.1 _ _ (k8 _ _ hav))
  · rintro i x H9 H10 hi ⟨sm, kvs, hD, hk⟩ ⟨rfl, hx⟩
    have ix : i < vn.length := by rw [← lv]; exact hi
    obtain ⟨z, ez⟩ : ∃ z, vn[i]? = some z := ⟨vn[i], by rw [List.getElem?_eq_getElem ix]⟩
    obtain ⟨u, eu, cu⟩ := vv i z ez
    rw [eu] at hx
    cases hx
    obtain ⟨⟨b, e, rfl, hb, he⟩, _, _⟩ := cu.tk k8
    refine ⟨b, _, rfl, SqT.of (sm _ _ hb), rfl, _, _, rfl, _, _, rfl, rfl, rfl, ?_⟩
    refine ⟨_, rfl, _, rfl, am, e, ms.map V.str, _, rfl, .inr ⟨SqT.of (sm _ _ (k8 _ _ ham)), SqT.of (sm _ _ he), ?_⟩⟩
    refine turns_it (walk_zipT (K := K) (a := am) (b := e) (xs := ms.map V.str) (ys := List.replicate ms.length (V.str tNone)) (n := ms.length) (by rw [List.length_map, List.length_replicate, Nat.min_self]))
      (fun j H' => Same H8 H' ∧ ∃ kvs : List (List L2.Key × V), H' D2 = some (.dT kvs) ∧ kvs.length ≤ 4 * i + j) ⟨sm, kvs, hD, hk⟩ ?_ ?_ ?_
    · exact fun j H' hj sm => ⟨SqT.of (sm.1 _ _ (k8 _ _ ham)), SqT.of (sm.1 _ _ he)⟩
    · rintro j x H11 H12 hj ⟨sm, kvs, hD, hk⟩ ⟨Tt, x1, y1, rfl, nT, rfl, e1, e2⟩
      obtain ⟨mo, rfl⟩ : ∃ mo, x1 = .str mo := by
        have e1 : (ms.map V.str)[j]? = some x1 := e1
        rw [List.getElem?_map] at e1
        cases h : ms[j]? with
        | none => rw [h] at e1; cases e1
        | some mo => rw [h] at e1; exact ⟨mo, (Option.some.inj e1).symm⟩
      obtain rfl : y1 = .str tNone := List.eq_of_mem_replicate (List.mem_iff_getElem?.mpr ⟨j, e2⟩)
      have sT := same_upd (o := .tup [.str mo, .str tNone]) nT
      refine ⟨Tt, _, rfl, SqT.of upd_same, rfl, _, _, rfl, _, _, rfl, rfl, rfl, ?_⟩
      generalize upd H11 Tt (.tup [.str mo, .str tNone]) = H12 at sT ⊢
      refine ⟨_, rfl, _, rfl, (by show 2 ≤ sizeLine; decide), fun kt nk => ?_⟩
      have sK := sT.trans (same_upd (o := .tup [.str z, .str mo]) nk)
      have hkt : (upd H12 kt (.tup [.str z, .str mo])) kt = some (.tup [.str z, .str mo]) := upd_same
      generalize upd H12 kt (.tup [.str z, .str mo]) = H13 at sK hkt ⊢
      refine ⟨_, rfl, fun x dx' nx nd ne => ⟨x, dx', .str tNone, .leaf tNone, rfl, upd_same, .leaf _, (by show nameB tNone = true; decide +kernel), (by show 1 ≤ 6; decide), fun H14 keep ex => ⟨rfl, ?_⟩⟩⟩
      have keep2 : Same H13 H14 := fun b o e => by
        have nb : b ≠ x := fun q => by rw [q, nx] at e; cases e
        refine keep b o nb ?_
        rw [upd_ne nb, upd_ne (fun q => by rw [q, nd] at e; cases e)]
        exact e
      have s14 := sK.trans keep2
      refine ⟨_, DPut.t (k := [.inr z, .inr mo]) (s14 _ _ hD) (keep2 _ _ hkt) (by rw [sizeLine_eq]; omega), same_set (sm.trans s14) nD2, _, upd_same, ?_⟩
      have := length_putK kvs [.inr z, .inr mo] (V.ref x)
      omega
    · rintro H11 ⟨sm, kvs, hD, hk⟩
      exact ⟨sm, kvs, hD, by omega⟩
  rintro H9 ⟨s9, _⟩
  have hp9 := s9 _ _ hp8
  refine ⟨_, rfl, p, C, dx, _, rfl, hp9, D.cl, D.n8, (by rw [show (putF "_cases" (.ref D1) (putF "_view_names" (.ref a2) (putF "_names" (.ref a1) (dfl5 pt f (.ref am) (.ref ac) (.ref av))))).length = 8 from rfl]; decide), ?_⟩
  refine fin _ (fun x o n e => ?_) ⟨dx, a1, a2, pt, .ref ac, .ref av, .ref D1, .ref D2, upd_same, tupK_ins hp9 _ _ (s9 _ _ ha18), tupK_ins hp9 _ _ (s9 _ _ ha28)⟩
  rw [upd_ne n]
  exact s9 _ _ (x8 x o n e)
end
end K1

namespace K1
open PySem PySem.Spec
open PyProof.Rows L2 EnT StX SmX TxS DuX ClX
/-! ### Design.__init__, its properties -/
theorem GoodNs.tk {good : V → Bool} {H H' : Hp} {v : V} {zs : List Str} (k : TupK H H') (h : GoodNs good H v zs) : GoodNs good H' v zs := by
  obtain ⟨⟨a, e, ha⟩, b, c, d, n⟩ := h
  exact ⟨⟨a, e, k _ _ ha⟩, b, c, d, n⟩
theorem Calls.tk {H H' : Hp} {v : V} {cs : List (Str × Str)} (k : TupK H H') (h : Calls H v cs) : Calls H' v cs := by
  obtain ⟨⟨a, xs, e, ha, l, c⟩, b, d⟩ := h
  exact ⟨⟨a, xs, e, k _ _ ha, l, fun i z s e => (c i z s e).imp fun u h => ⟨h.1, h.2.tk k⟩⟩, b, d⟩
theorem Views.tk {n : Nat} {H H' : Hp} {v : V} {cs : List Str} (k : TupK H H') (h : Views n H v cs) : Views n H' v cs := by
  obtain ⟨⟨a, xs, e, ha, l, c⟩, b, d⟩ := h
  exact ⟨⟨a, xs, e, k _ _ ha, l, fun i z e => (c i z e).imp fun u h => ⟨h.1, h.2.tk k⟩⟩, b, d⟩
section
variable {w : World} {P : Program} {base : Heap} {mg : Str → Option Value} {K : PySem.W.Frag} {aS C CE CF CM CC CV : Addr}
theorem ok_initD {f f1 f2 f3 f4 fE : Addr} {fd fdE : FuncData} (F : Fun K "__init__" "Design.__init__" sInitD f fd) (T : Free mg) (gz : mg "zip" = none) (D : DesC K mg C) (M : ExpC K mg CE) (ME : Mk K CE fE) (GE : FnOk P w K mg base CX0 8 fE fdE ["self", "form"] (spInitE CE)) (bE : Binds K fdE ["self", "form"] [])
    (h1 : Has P w K mg base (L2.CX P w) 4 "check_fields" f1 ["fields"] (spNsE fieldV CF)) (h2 : Has P w K mg base (L2.CX P w) 4 "check_modes" f2 ["modes"] (spNsE nameV CM))
    (h3 : Has P w K mg base (L2.CX P w) 5 "check_calls" f3 ["calls", "fields", "modes"] (spChkCa CC)) (h4 : Has P w K mg base (L2.CX P w) 5 "check_views" f4 ["views", "fields", "modes"] (spChkVi CV)) :
    FnOk P w K mg base (L2.CX P w) 11 f fd ["self", "fields", "modes", "calls", "views"] (spInitD C CF CM CC CV) := by
  refine F.okX scID (fun vs H Q E h => ?_) (fun cdv A outer s H vs Q E hr h => ?_)
  · obtain ⟨p, dx, f, m, c, v, rfl, _⟩ := h
    rfl
  · obtain ⟨p, dx, f, m, c, v, rfl, hp, h⟩ := h
    refine ⟨_, pss_cons (ps_expr (pe_has h1 (hr.mono (by decide)) (by rfl) (passes_call (takes_of rfl rfl rfl rfl) fun _ _ _ _ h => h) (pa_cons (pv 1) pa_nil)))
      (pss_cons (ps_expr (pe_has h2 (hr.mono (by decide)) (by rfl) (passes_call (takes_of rfl rfl rfl rfl) fun _ _ _ _ h => h) (pa_cons (pv 2) pa_nil)))
      (pss_cons (ps_expr (pe_has h3 (hr.mono (by decide)) (by rfl) (passes_call (takes_of rfl rfl rfl rfl) fun _ _ _ _ h => h) (pa_cons (pv 3) (pa_cons (pv 1) (pa_cons (pv 2) pa_nil)))))
      (pss_cons (ps_expr (pe_has h4 (hr.mono (by decide)) (by rfl) (passes_call (takes_of rfl rfl rfl rfl) fun _ _ _ _ h => h) (pa_cons (pv 4) (pa_cons (pv 1) (pa_cons (pv 2) pa_nil)))))
      (pss_cons (ps_fld (pv 0) (pe_tup (pa_cons (pv 1) (pa_cons (pv 2) (pa_cons (pv 3) (pa_cons (pv 4) pa_nil))))) rfl)
      (pss_cons (ps_fld (pv 0) (pv 1) rfl) (pss_cons (ps_fld (pv 0) (pv 2) rfl) (pss_cons (ps_fld (pv 0) (pv 3) rfl) (pss_cons (ps_fld (pv 0) (pv 4) rfl)
      (id9 (C := C) (p := p) T gz D M ME GE bE hr))))))))), ?_⟩
    rcases h with ⟨i, b, e⟩ | ⟨fs, gf, h⟩
    · exact ⟨_, rfl, f, rfl, .inr ⟨i, b, e⟩⟩
    refine ⟨_, rfl, f, rfl, .inl ⟨fs, gf, fun H1 s1 => ?_⟩⟩
    rcases h with ⟨i, b, e⟩ | ⟨ms, gm, h⟩
    · exact ⟨_, rfl, m, rfl, .inr ⟨i, b.same s1, e.same s1⟩⟩
    refine ⟨_, rfl, m, rfl, .inl ⟨ms, gm.tk (.same s1), fun H2 s2 => ?_⟩⟩
    have s12 := s1.trans s2
    rcases h with ⟨n, e⟩ | ⟨cs, gc, h⟩
    · exact ⟨_, rfl, _, rfl, _, rfl, c, f, m, rfl, .inl ⟨n.same s12, e.same s12⟩⟩
    refine ⟨_, rfl, _, rfl, _, rfl, c, f, m, rfl, .inr ⟨cs, gc.same s12, fun H3 s3 => ?_⟩⟩
    have s13 := s12.trans s3
    obtain ⟨af, rfl, haf⟩ := gf.at_
    obtain ⟨am, rfl, ham⟩ := gm.at_
    rcases h with ⟨n, e⟩ | ⟨vn, gv, q⟩
    · exact ⟨_, rfl, _, rfl, _, rfl, v, af, am, fs, ms, rfl, s13 _ _ haf, gf.l4, s13 _ _ ham, .inl ⟨n.same s13, e.same s13⟩⟩
    refine ⟨_, rfl, _, rfl, _, rfl, v, af, am, fs, ms, rfl, s13 _ _ haf, gf.l4, s13 _ _ ham, .inr ⟨vn, gv.same s13, fun H4 s4 => ?_⟩⟩
    have s14 := s13.trans s4
    refine ⟨_, rfl, _, rfl, _, rfl, _, rfl, (by show 4 ≤ sizeLine; decide), fun pt npt => ?_⟩
    have s15 := s14.trans (same_upd (o := .tup [.ref af, .ref am, c, v]) npt)
    generalize upd H4 pt (.tup [.ref af, .ref am, c, v]) = H5 at s15 ⊢
    have hp5 := s15 _ _ hp
    refine ⟨_, rfl, p, C, dx, _, rfl, hp5, D.cl, D.n0, (by show 0 < 1000; decide), ?_⟩
    refine ⟨_, rfl, _, rfl, p, C, dx, _, rfl, upd_same, D.cl, D.n1, (by rw [show (putF "_parts" (V.ref pt) []).length = 1 from rfl]; decide), ?_⟩
    rw [upd_upd]
    refine ⟨_, rfl, _, rfl, p, C, dx, _, rfl, upd_same, D.cl, D.n2, (by rw [show (putF "_fields" (V.ref af) (putF "_parts" (V.ref pt) [])).length = 2 from rfl]; decide), ?_⟩
    rw [upd_upd]
    refine ⟨_, rfl, _, rfl, p, C, dx, _, rfl, upd_same, D.cl, D.n3, (by rw [show (putF "_modes" (V.ref am) (putF "_fields" (V.ref af) (putF "_parts" (V.ref pt) []))).length = 3 from rfl]; decide), ?_⟩
    rw [upd_upd]
    refine ⟨_, rfl, _, rfl, p, C, dx, _, rfl, upd_same, D.cl, D.n4, (by rw [show (putF "_calls" c (putF "_modes" (V.ref am) (putF "_fields" (V.ref af) (putF "_parts" (V.ref pt) [])))).length = 4 from rfl]; decide), ?_⟩
    rw [upd_upd]
    have k : TupK H (upd H5 p (.ins C dx (dfl5 (.ref pt) (.ref af) (.ref am) c v))) := fun a xs h => tupK_ins hp5 _ _ (s15 _ _ h)
    refine ⟨dx, .ref pt, .ref af, .ref am, c, v, ms, cs, vn, rfl, upd_same, gm.tk k, gc.tk k, gv.tk k, fun H' keep d => q H' (fun x o n e => keep x o n ?_) d⟩
    rw [upd_ne n]
    exact s15 _ _ e
end
end K1

namespace K1
open PySem PySem.Spec
open PyProof.Rows L2 L2H EnT StX SmX TxS DuX XdI Tr3 CnB ClX
/-- what stays in a move -/
def Stays (H H' : Hp) : Prop := ∀ a o, H a = some o → (∀ x y z : Int, o ≠ .lst [.int x, .int y, .int z]) → (∀ ps, o ≠ .tbl ps) → (∀ as : List Addr, as ≠ [] → o ≠ .lst (as.map V.ref)) → H' a = some o
theorem Stays.same {H H' : Hp} (s : Same H H') : Stays H H' := fun a o e _ _ _ => s a o e
theorem Stays.mv {p : Addr} {Tb : List (Addr × Str)} {H H' : Hp} (m : Mv p Tb H H') (hp : PoolAt H p) : Stays H H' := fun a o e n nt _ => m.at hp e n nt
theorem Stays.set {t : Addr} {H : Hp} {as : List Addr} {o : HO} (ht : H t = some (.lst (as.map V.ref))) (hn : as ≠ []) : Stays H (upd H t o) := fun a o' e _ _ n => upd_keep ht e (n as hn)
theorem Stays.ext {p : Addr} {H H' : Hp} (x : Ext p H H') (hp : PoolAt H p) : Stays H H' := fun a o e n _ _ => x.at (fun z => by
  obtain ⟨i, j, k, q⟩ := hp
  rw [z, q] at e
  exact n i j k (Option.some.inj e).symm) e
theorem stays_tup {H H' : Hp} (k : Stays H H') : TupK H H' := fun a xs e => k a _ e (fun _ _ _ e => by cases e) (fun _ e => by cases e) (fun _ _ e => by cases e)
def SVd (K : PySem.W.Frag) (H : Hp) (v : V) (x : Str) : Prop := ∃ d, RpD.ShD K H v d ∧ x = d.shown
theorem SVd.same {K : PySem.W.Frag} {H H' : Hp} {v : V} {x : Str} (s : Same H H') (h : SVd K H v x) : SVd K H' v x := by
  obtain ⟨d, a, b⟩ := h
  exact ⟨d, a.same (dp_same s) s, b⟩
theorem call_reprS {X : Cx} (hg : X.A.guards = some []) (hu : X.A.units + 100 < cLine) : CallR X (.builtin "repr") (rSV (SVd X.K)) := by
  intro pins s σ H xs us Q Iv r h
  obtain ⟨x, txt, rfl, ⟨d, sd, rfl⟩, q⟩ := h
  exact RpD.call_reprE hg hu pins s σ H _ us Q Iv r ⟨x, d, rfl, sd, q⟩
/-- what is known of the ask that catches, and of the lambdas' code -/
structure Asks (K : PySem.W.Frag) (mg : Str → Option Value) (base : Heap) (c Pt : Addr) : Prop where
  ex : ∃ g fd, mg "_law_caught" = some (.ref g) ∧ Fun K "_law_caught" "_law_caught" sCaught g fd
  tb : LamX.TabB base mg c Pt
theorem Mv.upd5 {p t : Addr} {Tb : List (Addr × Str)} {HS H : Hp} {as : List Addr} {o : HO} (m : Mv p Tb HS H) (n : HS t = none) (ht : H t = some (.lst (as.map V.ref))) : Mv p Tb HS (upd H t o) := by
  refine ⟨⟨?_, fun b o' nb e nt => ?_⟩, tabs_upd ht m.tabs⟩
  · obtain ⟨x, y, z, e⟩ := m.rx.pool
    exact ⟨x, y, z, upd_keep ht e fun q => refs_nopool x y z q.symm⟩
  · rw [upd_ne (fun k => by rw [k, n] at e; cases e)]
    exact m.rx.keep b o' nb e nt
/-- what ends well -/
def Fin5 (p : Addr) (Tb : List (Addr × Str)) (H : Hp) (D : Ends) : Prop := ∀ H', Mv p Tb H H' → D.rt (.bl true) H'
/-- a list is made that was not there -/
theorem fin5_new {p : Addr} {Tb : List (Addr × Str)} {H H7 : Hp} {En : Ends} {tl r : Addr} (fin : Fin5 p Tb H En) (m : Mv p Tb H H7) (nt : H7 tl = none) :
    Mv p Tb (L2.del H tl) (upd H7 tl (.lst ([r].map V.ref))) ∧ (L2.del H tl) tl = none ∧ Fin5 p Tb (L2.del H tl) En := by
  have s8 := same_upd (o := .lst ([r].map V.ref)) nt
  have m68 : Mv p Tb H (upd H7 tl (.lst ([r].map V.ref))) := m.trans (.same s8 m.rx.pool m.tabs)
  have nH : H tl = none ∨ ∃ ps, H tl = some (.tbl ps) := by
    cases hh : H tl with
    | none => exact .inl rfl
    | some o =>
      by_cases tb : ∃ ps, o = .tbl ps
      · obtain ⟨ps, e⟩ := tb
        exact .inr ⟨ps, by rw [e]⟩
      · exfalso
        by_cases ep : tl = p
        · obtain ⟨i, j, k, e⟩ := m.rx.pool
          rw [← ep, nt] at e
          cases e
        · have := m.rx.keep tl o ep hh (fun ps e => tb ⟨ps, e⟩)
          rw [nt] at this
          cases this
  refine ⟨⟨⟨m68.rx.pool, fun b o nb e nt' => ?_⟩, m68.tabs⟩, L2.del_same, fun H' m' => ?_⟩
  · by_cases k : b = tl
    · rw [k, L2.del_same] at e
      cases e
    · rw [L2.del_ne k] at e
      exact m68.rx.keep b o nb e nt'
  · refine fin H' ⟨⟨m'.rx.pool, fun b o nb e nt' => ?_⟩, m'.tabs⟩
    by_cases k : b = tl
    · subst k
      rcases nH with z | ⟨ps, z⟩
      · rw [z] at e
        cases e
      · rw [z] at e
        exact absurd (Option.some.inj e).symm (nt' ps)
    · exact m'.rx.keep b o nb (by rw [L2.del_ne k]; exact e) nt'
theorem tag_ne {z w : Str} (h : Tag z) (hw : 3 < w.length) : z ≠ w := fun e => by
  have a := h.hi
  rw [← len_tl, e] at a
  omega
theorem tag_fld {z : Str} (h : Tag z) : fieldB z = true := decide_eq_true ⟨tag_ne h (by decide +kernel), tag_ne h (by decide +kernel)⟩
/-- e.x, a property that hands a field on -/
structure Pp (P : Program) (w : World) (K : PySem.W.Frag) (mg : Str → Option Value) (base : Heap) (C : Addr) (x y : Str) : Prop where
  cl : Cls K C
  ex : ∃ p g fd, PropOf K C x p g ∧ FnOk P w K mg base CX0 1 g fd ["self"] (getSp C y) ∧ L2.Binds K fd ["self"] []
/-- what is asked of a class for isinstance -/
structure IsC (K : PySem.W.Frag) (C : Addr) : Prop where
  yes : PySem.W.kitOne K (.ref C) (.ref C) = some true
  no : ∀ t ∈ baseTys, PySem.W.kitOne K (.type t) (.ref C) = some false
  hm : PySem.W.mroIn K C (.type "object") = some true
  htk : PySem.W.takesIn K (.builtin "object.__class__") = some true
  hn : PySem.W.specialIn K (.builtin "object.__class__") "__get__" = some (some (.builtin "getset_descriptor.__get__"))
  ha : PySem.W.findIn K (.ref C) "__class__" = some (some (.builtin "object.__class__"))
section
variable {X : Cx} {C : Addr} {x y : Str} {e : Expr} {pos : Pos} {ta : TE}
theorem pe_pp (h : Pp X.prog X.w X.K X.mg X.base C x y) (he : PE X e ta) (hr : Room 2 X.A) (hab : attributeBase e x X.env (eval e X.env) = eval e X.env) : PE X (.Attribute e x pos) (tProp C (getSp C y) [] E0 ta) := by
  obtain ⟨c, p, g, fd, pr, G, b⟩ := h
  exact pe_prop he c pr G hr b .nil pass0 hab
end
end K1

namespace K1
open PySem PySem.Spec
open PyProof.Rows L2 L2H EnT StX SmX TxS DuX ClX XdI Tr3 CnB
/-! ### a design's properties; the asks of right -/
section
variable {w : World} {P : Program} {base : Heap} {mg : Str → Option Value} {K : PySem.W.Frag} {C : Addr}
theorem scPF : FnScope ["self"] ["self"] (defScope sFieldsD) := ⟨rfl, rfl, rfl, by decide +kernel, rfl, by decide +kernel, by decide +kernel⟩
theorem scPM : FnScope ["self"] ["self"] (defScope sModesD) := ⟨rfl, rfl, rfl, by decide +kernel, rfl, by decide +kernel, by decide +kernel⟩
theorem scPN : FnScope ["self"] ["self"] (defScope sNamesD) := ⟨rfl, rfl, rfl, by decide +kernel, rfl, by decide +kernel, by decide +kernel⟩
theorem scPV : FnScope ["self"] ["self"] (defScope sViewsD) := ⟨rfl, rfl, rfl, by decide +kernel, rfl, by decide +kernel, by decide +kernel⟩
theorem ok_pF {f : Addr} {fd : FuncData} (F : Fun K "fields" "Design.fields" sFieldsD f fd) (D : DesC K mg C) : FnOk P w K mg base CX0 1 f fd ["self"] (getSp C "_fields") := by
  refine F.ok scPF (fun vs H Q E h => ?_) (fun cdv A outer s H vs Q E hr h => ?_)
  · obtain ⟨a, dx, fs, v, rfl, _⟩ := h
    rfl
  · obtain ⟨a, dx, fs, v, rfl, ha, l, q⟩ := h
    exact ⟨_, pss_one (ps_ret (pe_fld (pv 0) rfl)), _, rfl, a, C, dx, fs, v, rfl, ha, D.cl, D.n1, l, q⟩
theorem ok_pM {f : Addr} {fd : FuncData} (F : Fun K "modes" "Design.modes" sModesD f fd) (D : DesC K mg C) : FnOk P w K mg base CX0 1 f fd ["self"] (getSp C "_modes") := by
  refine F.ok scPM (fun vs H Q E h => ?_) (fun cdv A outer s H vs Q E hr h => ?_)
  · obtain ⟨a, dx, fs, v, rfl, _⟩ := h
    rfl
  · obtain ⟨a, dx, fs, v, rfl, ha, l, q⟩ := h
    exact ⟨_, pss_one (ps_ret (pe_fld (pv 0) rfl)), _, rfl, a, C, dx, fs, v, rfl, ha, D.cl, D.n2, l, q⟩
theorem ok_pN {f : Addr} {fd : FuncData} (F : Fun K "names" "Design.names" sNamesD f fd) (D : DesC K mg C) : FnOk P w K mg base CX0 1 f fd ["self"] (getSp C "_names") := by
  refine F.ok scPN (fun vs H Q E h => ?_) (fun cdv A outer s H vs Q E hr h => ?_)
  · obtain ⟨a, dx, fs, v, rfl, _⟩ := h
    rfl
  · obtain ⟨a, dx, fs, v, rfl, ha, l, q⟩ := h
    exact ⟨_, pss_one (ps_ret (pe_fld (pv 0) rfl)), _, rfl, a, C, dx, fs, v, rfl, ha, D.cl, D.n5, l, q⟩
theorem ok_pV {f : Addr} {fd : FuncData} (F : Fun K "view_names" "Design.view_names" sViewsD f fd) (D : DesC K mg C) : FnOk P w K mg base CX0 1 f fd ["self"] (getSp C "_view_names") := by
  refine F.ok scPV (fun vs H Q E h => ?_) (fun cdv A outer s H vs Q E hr h => ?_)
  · obtain ⟨a, dx, fs, v, rfl, _⟩ := h
    rfl
  · obtain ⟨a, dx, fs, v, rfl, ha, l, q⟩ := h
    exact ⟨_, pss_one (ps_ret (pe_fld (pv 0) rfl)), _, rfl, a, C, dx, fs, v, rfl, ha, D.cl, D.n6, l, q⟩
end
/-! ### what stays through the asks -/
theorem NoTup.stays {H H' : Hp} {v : V} (k : Stays H H') (h : NoTup H v) : NoTup H' v := by
  cases h with
  | non => exact .non
  | str z => exact .str z
  | lst h => exact .lst (k _ _ h strs_nopool (fun _ e => by cases e) fun as n => strs_refs n)
theorem BdU.stays {H H' : Hp} {v : V} (k : Stays H H') (h : BdU H v) : BdU H' v := by
  cases h with
  | non => exact .non
  | bl b => exact .bl b
  | int i => exact .int i
  | str z h => exact .str z h
  | lst h => exact .lst (k _ _ h (fun _ _ _ e => by cases e) (fun _ e => by cases e) fun as n e => by
      cases as with
      | nil => exact n rfl
      | cons a r => cases e)
  | tup h => exact .tup (stays_tup k _ _ h)
  | dK h => exact .dK (k _ _ h (fun _ _ _ e => by cases e) (fun _ e => by cases e) fun _ _ e => by cases e)
theorem BadNs.stays {good : V → Bool} {H H' : Hp} {v i : V} (k : Stays H H') (h : BadNs good H v i) : BadNs good H' v i := by
  rcases h with ⟨a, b⟩ | ⟨a, xs, e, h, l⟩ | ⟨a, xs, zs, u, e, h, l1, l2, h1, h2, h3, h4, h5, h6⟩
  · exact .inl ⟨a.stays k, b⟩
  · exact .inr (.inl ⟨a, xs, e, stays_tup k _ _ h, l⟩)
  · exact .inr (.inr ⟨a, xs, zs, u, e, stays_tup k _ _ h, l1, l2, h1, h2, h3, h4, h5.stays k, h6⟩)
theorem ix_text : ∀ n : _root_.Fin 5, (PyData.int (n.val : Nat)).shown = Str.ofString (toString ((n.val : Nat) : Int)) := by decide +kernel
theorem ix_strok : ∀ n : _root_.Fin 5, PyData.strOk (Str.ofString (toString ((n.val : Nat) : Int))) = true := by decide +kernel
theorem IxTx.sv {K : PySem.W.Frag} {H : Hp} {i : V} {s : Str} (h : IxTx i s) : SVd K H i s := by
  rcases h with ⟨rfl, rfl⟩ | ⟨n, l, rfl, rfl⟩
  · exact ⟨.none, .inl ⟨.non, .of rfl (by decide) (by decide)⟩, by decide +kernel⟩
  · refine ⟨.int n, .inl ⟨.int _, ?_⟩, (ix_text ⟨n, by omega⟩).symm⟩
    have all : ∀ n : _root_.Fin 5, RpD.plainD (.int (n.val : Nat)) = true ∧ (PyData.int (n.val : Nat)).depth ≤ 20 ∧ RpD.wide (.int (n.val : Nat)) ≤ 16000000 := by decide +kernel
    obtain ⟨a, b, c⟩ := all ⟨n, by omega⟩
    exact .of a b c
theorem IxTx.ok {i : V} {s : Str} (h : IxTx i s) : PyData.strOk s = true := by
  rcases h with ⟨rfl, rfl⟩ | ⟨n, l, rfl, rfl⟩
  · decide +kernel
  · exact ix_strok ⟨n, by omega⟩
/-! ### the asks -/
abbrev nmRi : List Str := ["_law_pool_here", "_law_fields", "_law_modes", "_law_bent_here", "_law_at", "_law_crooked", "_law_place", "_law_told", "_law_due", "_law_words", "_law_made"]
theorem scRi : FnScope nmRi ["_law_pool_here"] (defScope sRight) := ⟨rfl, rfl, rfl, by decide +kernel, rfl, by decide +kernel, by decide +kernel⟩
abbrev cxR (P : Program) (w : World) (K : PySem.W.Frag) (mg : Str → Option Value) (base : Heap) (f : Addr) (cdv : Value) (A : Around) (outer : List Env) (s : Shared) (H : Hp) : Cx := (cxOf CX0 P w K mg base nmRi "_law_right" (defScope sRight) f cdv A outer s H E0).nox
def riRest (i : Nat) : List Stmt := (defBody sRight).drop i
/-- the qualified name of the lambdas -/
def lamQ : Str := (envOfC "_law_right" (defScope sRight) 0 0 .none).qual ++ "<lambda>"
abbrev TbR (Pt : Addr) : List (Addr × Str) := [(Pt, lamQ)]
/-- what is due, in its order -/
abbrev YY (t1 t2 : Str) : List (List Str) := [["InvalidFields", t1], ["InvalidModes", t2], ["InvalidCalls", "None"], ["InvalidViews", "None"], ["InvalidCalls", "None"], ["InvalidViews", "None"]]
/-- what is known of the program -/
structure WR (P : Program) (w : World) (K : PySem.W.Frag) (mg : Str → Option Value) (base : Heap) (C CF CM CC CV S1 S2 S3 : Addr) : Prop where
  T : Free mg
  EK : ErrK K mg S1 S2 S3 CF CM CC CV
  D : DesC K mg C
  mkD : ∃ f fd, Mk K C f ∧ FnOk P w K mg base (L2.CX P w) 11 f fd ["self", "fields", "modes", "calls", "views"] (spInitD C CF CM CC CV) ∧ L2.Binds K fd ["self", "fields", "modes", "calls", "views"] []
  pF : Pp P w K mg base C "fields" "_fields"
  pM : Pp P w K mg base C "modes" "_modes"
  pN : Pp P w K mg base C "names" "_names"
  pV : Pp P w K mg base C "view_names" "_view_names"
/-- what right has drawn -/
structure RtC (p Pt af am : Addr) (fs ms : List Str) (bv i1 cv i2 : V) (t1 t2 : Str) (H : Hp) : Prop where
  hp : PoolAt H p
  T : LamX.Tabs (TbR Pt) H
  gf : GoodNs fieldV H (.ref af) fs
  gm : GoodNs nameV H (.ref am) ms
  bf : BadNs fieldV H bv i1
  x1 : IxTx i1 t1
  bm : BadNs nameV H cv i2
  x2 : IxTx i2 t2
section
variable {p Pt af am : Addr} {fs ms : List Str} {bv i1 cv i2 : V} {t1 t2 : Str} {H H' : Hp}
theorem RtC.mv (m : Mv p (TbR Pt) H H') (k : RtC p Pt af am fs ms bv i1 cv i2 t1 t2 H) : RtC p Pt af am fs ms bv i1 cv i2 t1 t2 H' := by
  have st := Stays.mv m k.hp
  exact ⟨m.rx.pool, m.tabs, k.gf.tk (stays_tup st), k.gm.tk (stays_tup st), k.bf.stays st, k.x1, k.bm.stays st, k.x2⟩
theorem RtC.set {tl : Addr} {as : List Addr} {o : HO} (ht : H tl = some (.lst (as.map V.ref))) (hn : as ≠ []) (k : RtC p Pt af am fs ms bv i1 cv i2 t1 t2 H) : RtC p Pt af am fs ms bv i1 cv i2 t1 t2 (upd H tl o) := by
  have st := Stays.set (o := o) ht hn
  refine ⟨?_, tabs_upd ht k.T, k.gf.tk (stays_tup st), k.gm.tk (stays_tup st), k.bf.stays st, k.x1, k.bm.stays st, k.x2⟩
  obtain ⟨x, y, z, e⟩ := k.hp
  exact ⟨x, y, z, upd_keep ht e fun q => refs_nopool x y z q.symm⟩
end
section
variable {w : World} {P : Program} {base : Heap} {mg : Str → Option Value} {K : PySem.W.Frag} {C CF CM CC CV S1 S2 S3 : Addr}
variable {f c Pt : Addr} {A : Around} {outer : List Env} {s : Shared} {H0 : Hp} {p : Addr}
theorem pe_ask (W : WR P w K mg base C CF CM CC CV S1 S2 S3) (AK : Asks K mg base c Pt) (hgd : A.guards = some []) (hr : Room 19 (A.deeper (envOfC "_law_right" (defScope sRight) s.heap.objs.size f (.ref c)))) {params : Arguments} {body : Expr} {scope : Scope} {t : XK → TE} {np lpos pos : Pos}
    (L : LamX.LamS (defScope sRight) scope)
    (hbody : ∀ (A' : Around) (outer' : List Env) (s' : Shared) (H' : Hp) (E : XK) (f' c' : Addr), Room 17 (A'.deeper (LamX.lamEnv (cxR P w K mg base f (.ref c) A outer s H0) scope s'.heap.objs.size f' c')) → PE (LamX.lamCx (cxR P w K mg base f (.ref c) A outer s H0) A' outer' s' H' E scope f' c') body (t E))
    (hdef : defaultsOf params (cxR P w K mg base f (.ref c) A outer s H0).env = ([], []) := by rfl)
    (hbind : ∀ (q : Str) (cl : List (Str × Addr)) (pm cv ctv : Value), bindArgs (PySem.W.kla_fn "<lambda>" q params body scope cl pm cv ctv) ⟨[], []⟩ = pure [] := by intros; rfl) :
    PE (cxR P w K mg base f (.ref c) A outer s H0) (.Call (.Name "_law_caught" np) [.Lambda params body scope lpos] [] pos) (LamX.tLam (TbR Pt) (TTc (SVd K) CF CM CC CV) t) := by
  obtain ⟨g, fd, mgC, FC⟩ := AK.ex
  obtain ⟨oc, od, kV, doc, pm, an, cdv', ct, osl, efd, lk, hcd⟩ := FC.ex
  subst efd
  have hun := hr.un
  have hdp := hr.dp
  have bC : L2.Binds K (PySem.W.fnOf "_law_caught" "_law_caught" (defArgs sCaught) (defBody sCaught) (defScope sCaught) .none kV doc pm an cdv' ct) ["_law_ask"] [] := FC.binds (ps := ["_law_ask"]) fun _ _ _ _ _ _ us hl => match us, hl with | [_], _ => rfl
  exact LamX.pe_lamcall (X := cxR P w K mg base f (.ref c) A outer s H0) (T := TbR Pt) (TT := TTc (SVd K) CF CM CC CV) (k := 17) (Ng := nmCaught) (a := "_law_ask") (c := c) (P := Pt) (by rfl) mgC FC.kp lk hcd bC scCaught (by rfl) (.inl rfl)
    (caught_gives (X := cxR P w K mg base f (.ref c) A outer s H0) (by exact hgd) (by show (A.deeper (envOfC "_law_right" (defScope sRight) s.heap.objs.size f (.ref c))).units + 300 < cLine; omega) W.T W.EK (fun H H' v x s h => h.same s)
      (fun s' H' a oe pn => call_reprS (by exact hgd) (by
        show (A.deeper (envOfC "_law_right" (defScope sRight) s.heap.objs.size f (.ref c))).units + 3 + 100 < cLine
        omega)))
    AK.tb (by rfl) List.mem_cons_self (fun q hq _ => by rw [List.mem_singleton.mp hq]; rfl) hr L hdef hbind hbody
/-- what an ask tells of an error -/
theorem ask_err {t : XK → TE} {σ : L2.St} {H : Hp} {Q : VK} {v : V} {x nm : Str} {CX' : Addr} (hp : PoolAt H p) (hT : LamX.Tabs (TbR Pt) H) (hs : IxTx v x)
    (hc : (CX' = CF ∧ nm = "InvalidFields") ∨ (CX' = CM ∧ nm = "InvalidModes") ∨ (CX' = CC ∧ nm = "InvalidCalls") ∨ (CX' = CV ∧ nm = "InvalidViews"))
    (ht : ∀ (H1 : Hp) (Q' : VK) (E : XK), Mv p (TbR Pt) H H1 → ErrAt CX' "index" v H1 E → t E σ H1 Q')
    (q : ∀ (r : Addr) (H' : Hp), Mv p (TbR Pt) H H' → H' r = some (.lst ([nm, x].map V.str)) → Q (.ref r) H') :
    LamX.tLam (TbR Pt) (TTc (SVd K) CF CM CC CV) t σ H Q := by
  refine ⟨hT, fun H1 eN T1 Q' => ?_⟩
  have m1 : Mv p (TbR Pt) H H1 := .lam eN hp T1
  refine ht H1 _ _ m1 fun e H2 s2 ne => ?_
  have m2 : Mv p (TbR Pt) H (upd H2 e (.xd [("index", v)])) := m1.trans (.same (s2.trans (same_upd ne)) m1.rx.pool m1.tabs)
  refine .inl ⟨e, v, x, nm, rfl, hs.sv, ?_, fun r H3 nr s3 hr => q r H3 (m2.trans (.same s3 m2.rx.pool m2.tabs)) hr⟩
  rcases hc with ⟨rfl, rfl⟩ | ⟨rfl, rfl⟩ | ⟨rfl, rfl⟩ | ⟨rfl, rfl⟩
  · exact .inl ⟨rfl, rfl, upd_same⟩
  · exact .inr (.inl ⟨rfl, rfl, upd_same⟩)
  · exact .inr (.inr (.inl ⟨rfl, rfl, upd_same⟩))
  · exact .inr (.inr (.inr ⟨rfl, rfl, upd_same⟩))
/-- before the n-th ask -/
structure AtAsk (p Pt : Addr) (n : Nat) (σ : L2.St) (H : Hp) (En : Ends) : Prop where
  ex : ∃ (af am tl : Addr) (as : List Addr) (fs ms : List Str) (bv i1 cv i2 : V) (t1 t2 : Str) (HS : Hp),
    σ = [some (.ref p), some (.ref af), some (.ref am), some bv, some (.str t1), some cv, some (.str t2), some (.ref tl), none, none, none] ∧ RtC p Pt af am fs ms bv i1 cv i2 t1 t2 H ∧
    H tl = some (.lst (as.map V.ref)) ∧ 1 ≤ n ∧ n ≤ 6 ∧ Lists H as ((YY t1 t2).take n) ∧ Mv p (TbR Pt) HS H ∧ HS tl = none ∧ Fin5 p (TbR Pt) HS En
/-- an ask that appends what it is told -/
theorem ask_seg {n : Nat} {t : XK → TE} {params : Arguments} {body : Expr} {scope : Scope} {np lpos pos : Pos} {rest : List Stmt} {p1 p2 p3 p4 : Pos} (hn : n + 1 ≤ 6) (he : PE (cxR P w K mg base f (.ref c) A outer s H0) (.Call (.Name "_law_caught" np) [.Lambda params body scope lpos] [] pos) (LamX.tLam (TbR Pt) (TTc (SVd K) CF CM CC CV) t))
    (hrest : PSs (cxR P w K mg base f (.ref c) A outer s H0) rest (fun En σ H => AtAsk p Pt (n + 1) σ H En))
    (told : ∀ (af am tl : Addr) (fs ms : List Str) (bv i1 cv i2 : V) (t1 t2 : Str) (H : Hp) (Q : VK) (y : List Str), RtC p Pt af am fs ms bv i1 cv i2 t1 t2 H → (YY t1 t2)[n]? = some y →
      (∀ (r : Addr) (H' : Hp), Mv p (TbR Pt) H H' → H' r = some (.lst (y.map V.str)) → Q (.ref r) H') →
      LamX.tLam (TbR Pt) (TTc (SVd K) CF CM CC CV) t [some (.ref p), some (.ref af), some (.ref am), some bv, some (.str t1), some cv, some (.str t2), some (.ref tl), none, none, none] H Q)
    (hline : (p2.endLine == p3.line) = true := by rfl) :
    PSs (cxR P w K mg base f (.ref c) A outer s H0) (.Expr (.Call (.Attribute (.Name "_law_told" p1) "append" p2) [(.Call (.Name "_law_caught" np) [.Lambda params body scope lpos] [] pos)] [] p3) p4 :: rest) (fun En σ H => AtAsk p Pt n σ H En) := by
  refine pss_of fun En σ H hyp => ?_
  obtain ⟨af, am, tl, as, fs, ms, bv, i1, cv, i2, t1, t2, HS, eσ, k, ht, h1, h6, ll, mS, nS, fin⟩ := hyp.ex
  refine ⟨_, pss_cons (ps_expr (pe_bm PySem.F.plainAttrs_list PySem.F.slot_list_append PySem.F.type_list_append mt_append (pv 7) (pa_cons he pa_nil) (hline := hline))) hrest, ?_⟩
  subst eσ
  have hl : as.length = n := by
    rw [ll.len, List.length_take]
    show min n 6 = n
    omega
  obtain ⟨y, hy⟩ : ∃ y, (YY t1 t2)[n]? = some y := ⟨(YY t1 t2)[n]'(by show n < 6; omega), List.getElem?_eq_getElem _⟩
  refine ⟨_, rfl, .inl ⟨rfl, _, SqL.of ht⟩, told af am tl fs ms bv i1 cv i2 t1 t2 H _ y k hy fun r H3 m3 hr => ?_⟩
  have t3 : H3 tl = some (.lst (as.map V.ref)) := m3.at k.hp ht refs_nopool (fun _ e => by cases e)
  have hne : as ≠ [] := fun e => by rw [e] at hl; simp at hl; omega
  refine ⟨tl, _, _, rfl, rfl, t3, by rw [List.length_map, hl, sizeLine_eq]; omega, ?_⟩
  have m4 := (mS.trans m3).upd5 (o := .lst (as.map V.ref ++ [V.ref r])) nS t3
  refine ⟨af, am, tl, as ++ [r], fs, ms, bv, i1, cv, i2, t1, t2, HS, rfl, (k.mv m3).set t3 hne, by rw [upd_same, List.map_append]; rfl, by omega, hn, ?_, m4, nS, fin⟩
  rw [List.take_add_one, hy]
  exact ((ll.mv m3 k.hp).set t3 hne).snoc (upd_keep t3 hr (strs_refs hne))
end
end K1

namespace K1
open PySem PySem.Spec
open PyProof.Rows L2 L2H EnT StX SmX TxS DuX ClX XdI Tr3 CnB
/-! ### right: ask by ask -/
theorem calls_nil {H : Hp} {a : Addr} (h : H a = some (.tup [])) : Calls H (.ref a) [] := ⟨⟨a, [], rfl, h, rfl, fun i z s e => by cases e⟩, by decide, .nil⟩
theorem views_nil {n : Nat} {H : Hp} {a : Addr} (h : H a = some (.tup [])) : Views n H (.ref a) [] := ⟨⟨a, [], rfl, h, rfl, fun i z e => by cases e⟩, by decide, .nil⟩
/-- a design that is refused -/
def MkDX (CF CM CC CV : Addr) (f m c v : V) (H : Hp) (E : XK) : Prop := (∃ i, BadNs fieldV H f i ∧ ErrAt CF "index" i H E) ∨ ∃ fs, GoodNs fieldV H f fs ∧ ((∃ i, BadNs nameV H m i ∧ ErrAt CM "index" i H E) ∨ ∃ ms, GoodNs nameV H m ms ∧ ((NoTup H c ∧ ErrAt CC "index" .non H E) ∨ ∃ cs, Calls H c cs ∧ NoTup H v ∧ ErrAt CV "index" .non H E))
theorem mkD_same {C x dx : Addr} {H : Hp} (nx : H x = none) (nd : H dx = none) (ne : dx ≠ x) : Same H (upd (upd H dx (.own x)) x (.ins C dx [])) := by
  have s1 : Same H (upd H dx (.own x)) := same_upd nd
  exact s1.trans (same_upd (by rw [upd_ne (Ne.symm ne)]; exact nx))
theorem mkD_err {C CF CM CC CV : Addr} {f m c v : V} {H : Hp} {Q : VK} {E : XK} (h : MkDX CF CM CC CV f m c v H E) {x dx : Addr} (nx : H x = none) (nd : H dx = none) (ne : dx ≠ x) : spInitD C CF CM CC CV [.ref x, f, m, c, v] (upd (upd H dx (.own x)) x (.ins C dx [])) Q E := by
  have s := mkD_same (C := C) nx nd ne
  refine ⟨x, dx, f, m, c, v, rfl, upd_same, ?_⟩
  rcases h with ⟨i, b, e⟩ | ⟨fs, gf, ⟨i, b, e⟩ | ⟨ms, gm, ⟨n, e⟩ | ⟨cs, gc, n, e⟩⟩⟩
  · exact .inl ⟨i, b.same s, e.same s⟩
  · exact .inr ⟨fs, gf.tk (.same s), .inl ⟨i, b.same s, e.same s⟩⟩
  · exact .inr ⟨fs, gf.tk (.same s), .inr ⟨ms, gm.tk (.same s), .inl ⟨n.same s, e.same s⟩⟩⟩
  · exact .inr ⟨fs, gf.tk (.same s), .inr ⟨ms, gm.tk (.same s), .inr ⟨cs, gc.same s, .inl ⟨n.same s, e.same s⟩⟩⟩⟩
/-- a design that is made -/
theorem mkD_ok {C CF CM CC CV : Addr} {f m c v : V} {H : Hp} {Q : VK} {E : XK} {fs ms vn : List Str} {cs : List (Str × Str)} (gf : GoodNs fieldV H f fs) (gm : GoodNs nameV H m ms) (gc : Calls H c cs) (gv : Views ms.length H v vn) {x dx : Addr} (nx : H x = none) (nd : H dx = none) (ne : dx ≠ x)
    (q : ∀ H', Same H H' → DesAt C H' x f m (cs.map (·.1)) vn → Q .non H') : spInitD C CF CM CC CV [.ref x, f, m, c, v] (upd (upd H dx (.own x)) x (.ins C dx [])) Q E := by
  have s := mkD_same (C := C) nx nd ne
  refine ⟨x, dx, f, m, c, v, rfl, upd_same, .inr ⟨fs, gf.tk (.same s), .inr ⟨ms, gm.tk (.same s), .inr ⟨cs, gc.same s, .inr ⟨vn, gv.same s, fun H' k d => q H' (fun b o e => ?_) d⟩⟩⟩⟩⟩
  exact k b o (fun z => by rw [z, nx] at e; cases e) (s _ _ e)
section
variable {w : World} {P : Program} {base : Heap} {mg : Str → Option Value} {K : PySem.W.Frag} {C CF CM CC CV S1 S2 S3 : Addr}
variable {f c Pt : Addr} {A : Around} {outer : List Env} {s : Shared} {H0 : Hp} {p : Addr}
theorem ri9 (W : WR P w K mg base C CF CM CC CV S1 S2 S3) (AK : Asks K mg base c Pt) (hgd : A.guards = some []) (hr : Room 19 (A.deeper (envOfC "_law_right" (defScope sRight) s.heap.objs.size f (.ref c))))
    (h10 : PSs (cxR P w K mg base f (.ref c) A outer s H0) (riRest 10) (fun En σ H => AtAsk p Pt 6 σ H En)) :
    PSs (cxR P w K mg base f (.ref c) A outer s H0) (riRest 9) (fun En σ H => AtAsk p Pt 5 σ H En) := by
  obtain ⟨fI, fdI, MK, FI, bI⟩ := W.mkD
  refine ask_seg (by decide) (pe_ask W AK hgd hr (t := fun E => tMake C (spInitD C CF CM CC CV) [] E (tCons (tVar 1) (tCons (tVar 2) (tCons (tTup tNil) (tCons (tLst tNil) tNil))))) (LamX.lamS_by (by decide +kernel)) (fun A' outer' s' H' E f' c' hr' => ?he)) h10 ?_
  case he =>
    exact pe_make MK FI (hr'.mono (by decide)) (by rfl) W.D.g bI .nil (passes_call (takes_of rfl rfl rfl rfl) fun _ _ _ _ h => h) (pa_cons (pv 1) (pa_cons (pv 2) (pa_cons (pe_tup pa_nil) (pa_cons (pe_lst pa_nil) pa_nil))))
  intro af am tl fs ms bv i1 cv i2 t1 t2 H Q y k hy q
  cases hy
  refine ask_err k.hp k.T (v := .non) (x := "None") (.inl ⟨rfl, rfl⟩) (.inr (.inr (.inr ⟨rfl, rfl⟩))) (fun H1 Q' E m1 eE => ?_) q
  have k1 := k.mv m1
  refine ⟨_, rfl, _, rfl, (by show 0 ≤ sizeLine; decide), fun a na => ⟨(by show 0 ≤ sizeLine; decide), fun b nb x dx nx nd ne => ?_⟩⟩
  have s1 := same_upd (o := .tup []) na
  have s2 := same_upd (o := .lst []) nb
  exact mkD_err (.inr ⟨_, k1.gf.tk (.same (s1.trans s2)), .inr ⟨_, k1.gm.tk (.same (s1.trans s2)), .inr ⟨_, calls_nil (s2 _ _ upd_same), .lst (zs := []) upd_same, eE.same (s1.trans s2)⟩⟩⟩) nx nd ne
theorem ri8 (W : WR P w K mg base C CF CM CC CV S1 S2 S3) (AK : Asks K mg base c Pt) (hgd : A.guards = some []) (hr : Room 19 (A.deeper (envOfC "_law_right" (defScope sRight) s.heap.objs.size f (.ref c))))
    (h10 : PSs (cxR P w K mg base f (.ref c) A outer s H0) (riRest 10) (fun En σ H => AtAsk p Pt 6 σ H En)) :
    PSs (cxR P w K mg base f (.ref c) A outer s H0) (riRest 8) (fun En σ H => AtAsk p Pt 4 σ H En) := by
  obtain ⟨fI, fdI, MK, FI, bI⟩ := W.mkD
  refine ask_seg (by decide) (pe_ask W AK hgd hr (t := fun E => tMake C (spInitD C CF CM CC CV) [] E (tCons (tVar 1) (tCons (tVar 2) (tCons (tLst tNil) (tCons (tTup tNil) tNil))))) (LamX.lamS_by (by decide +kernel)) (fun A' outer' s' H' E f' c' hr' => ?he)) (ri9 (p := p) W AK hgd hr h10) ?_
  case he =>
    exact pe_make MK FI (hr'.mono (by decide)) (by rfl) W.D.g bI .nil (passes_call (takes_of rfl rfl rfl rfl) fun _ _ _ _ h => h) (pa_cons (pv 1) (pa_cons (pv 2) (pa_cons (pe_lst pa_nil) (pa_cons (pe_tup pa_nil) pa_nil))))
  intro af am tl fs ms bv i1 cv i2 t1 t2 H Q y k hy q
  cases hy
  refine ask_err k.hp k.T (v := .non) (x := "None") (.inl ⟨rfl, rfl⟩) (.inr (.inr (.inl ⟨rfl, rfl⟩))) (fun H1 Q' E m1 eE => ?_) q
  have k1 := k.mv m1
  refine ⟨_, rfl, _, rfl, (by show 0 ≤ sizeLine; decide), fun a na => ⟨(by show 0 ≤ sizeLine; decide), fun b nb x dx nx nd ne => ?_⟩⟩
  have s1 := same_upd (o := .lst []) na
  have s2 := same_upd (o := .tup []) nb
  exact mkD_err (.inr ⟨_, k1.gf.tk (.same (s1.trans s2)), .inr ⟨_, k1.gm.tk (.same (s1.trans s2)), .inl ⟨.lst (zs := []) (s2 _ _ upd_same), eE.same (s1.trans s2)⟩⟩⟩) nx nd ne
theorem ri7 (W : WR P w K mg base C CF CM CC CV S1 S2 S3) (AK : Asks K mg base c Pt) (hgd : A.guards = some []) (hr : Room 19 (A.deeper (envOfC "_law_right" (defScope sRight) s.heap.objs.size f (.ref c))))
    (h10 : PSs (cxR P w K mg base f (.ref c) A outer s H0) (riRest 10) (fun En σ H => AtAsk p Pt 6 σ H En)) :
    PSs (cxR P w K mg base f (.ref c) A outer s H0) (riRest 7) (fun En σ H => AtAsk p Pt 3 σ H En) := by
  obtain ⟨fI, fdI, MK, FI, bI⟩ := W.mkD
  refine ask_seg (by decide) (pe_ask W AK hgd hr (t := fun E => tMake C (spInitD C CF CM CC CV) [] E (tCons (tVar 1) (tCons (tVar 2) (tCons (tTup tNil) (tCons (tC .non) tNil))))) (LamX.lamS_by (by decide +kernel)) (fun A' outer' s' H' E f' c' hr' => ?he)) (ri8 (p := p) W AK hgd hr h10) ?_
  case he =>
    exact pe_make MK FI (hr'.mono (by decide)) (by rfl) W.D.g bI .nil (passes_call (takes_of rfl rfl rfl rfl) fun _ _ _ _ h => h) (pa_cons (pv 1) (pa_cons (pv 2) (pa_cons (pe_tup pa_nil) (pa_cons pe_non pa_nil))))
  intro af am tl fs ms bv i1 cv i2 t1 t2 H Q y k hy q
  cases hy
  refine ask_err k.hp k.T (v := .non) (x := "None") (.inl ⟨rfl, rfl⟩) (.inr (.inr (.inr ⟨rfl, rfl⟩))) (fun H1 Q' E m1 eE => ?_) q
  have k1 := k.mv m1
  refine ⟨_, rfl, _, rfl, (by show 0 ≤ sizeLine; decide), fun a na x dx nx nd ne => ?_⟩
  have s1 := same_upd (o := .tup []) na
  exact mkD_err (.inr ⟨_, k1.gf.tk (.same s1), .inr ⟨_, k1.gm.tk (.same s1), .inr ⟨_, calls_nil upd_same, .non, eE.same s1⟩⟩⟩) nx nd ne
theorem ri6 (W : WR P w K mg base C CF CM CC CV S1 S2 S3) (AK : Asks K mg base c Pt) (hgd : A.guards = some []) (hr : Room 19 (A.deeper (envOfC "_law_right" (defScope sRight) s.heap.objs.size f (.ref c))))
    (h10 : PSs (cxR P w K mg base f (.ref c) A outer s H0) (riRest 10) (fun En σ H => AtAsk p Pt 6 σ H En)) :
    PSs (cxR P w K mg base f (.ref c) A outer s H0) (riRest 6) (fun En σ H => AtAsk p Pt 2 σ H En) := by
  obtain ⟨fI, fdI, MK, FI, bI⟩ := W.mkD
  refine ask_seg (by decide) (pe_ask W AK hgd hr (t := fun E => tMake C (spInitD C CF CM CC CV) [] E (tCons (tVar 1) (tCons (tVar 2) (tCons (tC .non) (tCons (tC .non) tNil))))) (LamX.lamS_by (by decide +kernel)) (fun A' outer' s' H' E f' c' hr' => ?he)) (ri7 (p := p) W AK hgd hr h10) ?_
  case he =>
    exact pe_make MK FI (hr'.mono (by decide)) (by rfl) W.D.g bI .nil (passes_call (takes_of rfl rfl rfl rfl) fun _ _ _ _ h => h) (pa_cons (pv 1) (pa_cons (pv 2) (pa_cons pe_non (pa_cons pe_non pa_nil))))
  intro af am tl fs ms bv i1 cv i2 t1 t2 H Q y k hy q
  cases hy
  refine ask_err k.hp k.T (v := .non) (x := "None") (.inl ⟨rfl, rfl⟩) (.inr (.inr (.inl ⟨rfl, rfl⟩))) (fun H1 Q' E m1 eE => ?_) q
  have k1 := k.mv m1
  exact ⟨_, rfl, _, rfl, fun x dx nx nd ne => mkD_err (.inr ⟨_, k1.gf, .inr ⟨_, k1.gm, .inl ⟨.non, eE⟩⟩⟩) nx nd ne⟩
theorem ri5 (W : WR P w K mg base C CF CM CC CV S1 S2 S3) (AK : Asks K mg base c Pt) (hgd : A.guards = some []) (hr : Room 19 (A.deeper (envOfC "_law_right" (defScope sRight) s.heap.objs.size f (.ref c))))
    (h10 : PSs (cxR P w K mg base f (.ref c) A outer s H0) (riRest 10) (fun En σ H => AtAsk p Pt 6 σ H En)) :
    PSs (cxR P w K mg base f (.ref c) A outer s H0) (riRest 5) (fun En σ H => AtAsk p Pt 1 σ H En) := by
  obtain ⟨fI, fdI, MK, FI, bI⟩ := W.mkD
  refine ask_seg (by decide) (pe_ask W AK hgd hr (t := fun E => tMake C (spInitD C CF CM CC CV) [] E (tCons (tVar 1) (tCons (tVar 5) (tCons (tC .non) (tCons (tC .non) tNil))))) (LamX.lamS_by (by decide +kernel)) (fun A' outer' s' H' E f' c' hr' => ?he)) (ri6 (p := p) W AK hgd hr h10) ?_
  case he =>
    exact pe_make MK FI (hr'.mono (by decide)) (by rfl) W.D.g bI .nil (passes_call (takes_of rfl rfl rfl rfl) fun _ _ _ _ h => h) (pa_cons (pv 1) (pa_cons (pv 5) (pa_cons pe_non (pa_cons pe_non pa_nil))))
  intro af am tl fs ms bv i1 cv i2 t1 t2 H Q y k hy q
  cases hy
  refine ask_err k.hp k.T (v := i2) (x := t2) (k.x2) (.inr (.inl ⟨rfl, rfl⟩)) (fun H1 Q' E m1 eE => ?_) q
  have k1 := k.mv m1
  exact ⟨_, rfl, _, rfl, fun x dx nx nd ne => mkD_err (.inr ⟨_, k1.gf, .inl ⟨_, k1.bm, eE⟩⟩) nx nd ne⟩
end
end K1

namespace K1
open PySem PySem.Spec
open PyProof.Rows L2 L2H EnT StX SmX TxS DuX ClX XdI Tr3 CnB
/-! ### right: what is due, the designs that are made -/
/-- a list of tuples of texts, as data -/
def tpD (Y : List (List Str)) : List PyData := Y.map fun y => .tuple (strD y)
theorem tpD_lay : ∀ {Y : List (List Str)}, (∀ y ∈ Y, OkS y) → PyData.canLayAll0 (tpD Y) = true
  | [], _ => by simp [tpD, PyData.canLayAll0]
  | y :: Y, h => by
    have rest := tpD_lay (Y := Y) fun z hz => h z (List.mem_cons_of_mem _ hz)
    have first := strD_lay y (h y List.mem_cons_self)
    simp only [tpD] at rest
    simp [tpD, PyData.canLayAll0, PyData.canLay0, rest, first]
theorem tpD_depth : ∀ Y : List (List Str), PyData.depthAll (tpD Y) ≤ 1
  | [] => by simp [tpD, PyData.depthAll]
  | y :: Y => by
    have rest := tpD_depth Y
    have first := strD_depth y
    simp only [tpD] at rest
    simp only [tpD, List.map_cons, PyData.depthAll, PyData.depth, first]
    omega
theorem tpD_shaped {Y : List (List Str)} (h : ∀ y ∈ Y, OkS y) : SeqAt.shaped (.list (tpD Y)) = true := by
  show (PyData.canLay0 (.list (tpD Y)) && decide (PyData.depth (.list (tpD Y)) ≤ 64)) = true
  rw [Bool.and_eq_true]
  refine ⟨by simp only [PyData.canLay0]; exact tpD_lay h, decide_eq_true ?_⟩
  simp only [PyData.depth]
  have := tpD_depth Y
  omega
theorem tpD_eqv {Y : List (List Str)} (h : ∀ y ∈ Y, OkS y) : PyData.eqv (.list (tpD Y)) (.list (tpD Y)) = true := SeqAt.eqv_refl _ (by simp only [PyData.canLay0]; exact tpD_lay h)
theorem tup_shaped {zs : List Str} (h : OkS zs) : SeqAt.shaped (.tuple (strD zs)) = true := by
  show (PyData.canLay0 (.tuple (strD zs)) && decide (PyData.depth (.tuple (strD zs)) ≤ 64)) = true
  rw [Bool.and_eq_true]
  refine ⟨by simp only [PyData.canLay0]; exact strD_lay zs h, decide_eq_true ?_⟩
  simp only [PyData.depth]
  have := strD_depth zs
  omega
theorem tup_eqv {zs : List Str} (h : OkS zs) : PyData.eqv (.tuple (strD zs)) (.tuple (strD zs)) = true := SeqAt.eqv_refl _ (by simp only [PyData.canLay0]; exact strD_lay zs h)
/-- ahead of the designs that are made -/
structure AtE (p Pt : Addr) (σ : L2.St) (H : Hp) (En : Ends) : Prop where
  ex : ∃ (af am : Addr) (fs ms : List Str) (x3 x4 x5 x6 x7 x8 : Option V), σ = [some (.ref p), some (.ref af), some (.ref am), x3, x4, x5, x6, x7, x8, none, none] ∧ PoolAt H p ∧ LamX.Tabs (TbR Pt) H ∧ GoodNs fieldV H (.ref af) fs ∧ GoodNs nameV H (.ref am) ms ∧ Fin5 p (TbR Pt) H En
abbrev words2 : List Str := ["given", "none"]
theorem words_good {H : Hp} {a : Addr} (h : H a = some (.tup (words2.map V.str))) : GoodNs nameV H (.ref a) words2 :=
  ⟨⟨a, rfl, h⟩, by decide, by decide, fun z hz => by
    simp only [List.mem_cons, List.not_mem_nil, or_false] at hz
    rcases hz with rfl | rfl
    · exact ⟨by decide +kernel, by decide +kernel⟩
    · exact ⟨by decide +kernel, by decide +kernel⟩, by decide +kernel⟩
theorem okS_w : OkS words2 := by unfold OkS; decide +kernel
theorem okS_n : OkS ["none"] := by unfold OkS; decide +kernel
theorem due_ok {t1 t2 : Str} (h1 : PyData.strOk t1 = true) (h2 : PyData.strOk t2 = true) : ∀ y ∈ YY t1 t2, OkS y := by
  have c : OkS ["InvalidCalls", "None"] := by unfold OkS; decide +kernel
  have v : OkS ["InvalidViews", "None"] := by unfold OkS; decide +kernel
  have a : PyData.strOk "InvalidFields" = true := by decide +kernel
  have b : PyData.strOk "InvalidModes" = true := by decide +kernel
  intro y hy
  simp only [List.mem_cons, List.not_mem_nil, or_false] at hy
  rcases hy with rfl | rfl | rfl | rfl | rfl | rfl
  · intro z hz
    rcases List.mem_cons.mp hz with rfl | hz
    · exact a
    · rw [List.mem_singleton.mp hz]; exact h1
  · intro z hz
    rcases List.mem_cons.mp hz with rfl | hz
    · exact b
    · rw [List.mem_singleton.mp hz]; exact h2
  · exact c
  · exact v
  · exact c
  · exact v
section
variable {w : World} {P : Program} {base : Heap} {mg : Str → Option Value} {K : PySem.W.Frag} {C CF CM CC CV S1 S2 S3 : Addr}
variable {f c Pt : Addr} {A : Around} {outer : List Env} {s : Shared} {H0 : Hp} {p : Addr}
theorem ri12 (W : WR P w K mg base C CF CM CC CV S1 S2 S3) (hr : Room 19 (A.deeper (envOfC "_law_right" (defScope sRight) s.heap.objs.size f (.ref c)))) :
    PSs (cxR P w K mg base f (.ref c) A outer s H0) (riRest 12) (fun En σ H => AtE p Pt σ H En) := by
  obtain ⟨fI, fdI, MK, FI, bI⟩ := W.mkD
  refine pss_of fun En σ H hyp => ?_
  obtain ⟨af, am, fs, ms, x3, x4, x5, x6, x7, x8, rfl, hp, hT, gf, gm, fin⟩ := hyp.ex
  refine ⟨_, pss_cons (ps_set (i := 9) scRi.nd rfl (.inl rfl) (pe_tup (pa_cons pe_str (pa_cons pe_str pa_nil))))
    (pss_cons (ps_set (i := 10) scRi.nd rfl (.inl rfl) (pe_make MK FI (hr.mono (by decide)) (by rfl) W.D.g bI .nil passL (pa_cons (pv 1) (pa_cons (pv 9) (pa_cons (pe_tup (pa_cons (pe_tup (pa_cons pe_str (pa_cons pe_str (pa_cons (pe_tup pa_nil) pa_nil)))) (pa_cons (pe_tup (pa_cons pe_str (pa_cons pe_str (pa_cons (pe_tup pa_nil) pa_nil)))) pa_nil))) (pa_cons (pe_tup (pa_cons (pe_tup (pa_cons pe_str (pa_cons (pe_tup (pa_cons pe_str (pa_cons pe_str pa_nil))) pa_nil))) pa_nil)) pa_nil))))))
    (pss_cons (ps_if (pt_cmpR (op_neD hr.units) (pe_lst (pa_cons (pe_pp W.pF (pv 10) (hr.mono (by decide)) rfl) (pa_cons (pe_pp W.pM (pv 10) (hr.mono (by decide)) rfl) (pa_cons (pe_pp W.pN (pv 10) (hr.mono (by decide)) rfl) (pa_cons (pe_pp W.pV (pv 10) (hr.mono (by decide)) rfl) pa_nil)))))
        (pe_lst (pa_cons (pv 1) (pa_cons (pv 9) (pa_cons (pv 9) (pa_cons (pe_tup (pa_cons pe_str pa_nil)) pa_nil))))) (nomark _)) pss_never pss_nil)
    (pss_one (ps_ret (pe_cmpR (op_eqD hr.units) (pe_pp W.pM (pe_make MK FI (hr.mono (by decide)) (by rfl) W.D.g bI .nil passL (pa_cons (pv 1) (pa_cons (pv 2) (pa_cons (pe_tup pa_nil) (pa_cons (pe_tup pa_nil) pa_nil))))) (hr.mono (by decide)) rfl) (pv 2) (nomark _)))))), ?_⟩
  -- the words
  refine ⟨(by show 2 ≤ sizeLine; decide), fun aw naw => ?_⟩
  have s1 := same_upd (o := .tup (words2.map V.str)) naw
  have gw : (upd H aw (.tup (words2.map V.str))) aw = some (.tup (words2.map V.str)) := upd_same
  have eW : upd H aw (.tup [V.str "given", V.str "none"]) = upd H aw (.tup (words2.map V.str)) := rfl
  rw [eW]
  generalize upd H aw (.tup (words2.map V.str)) = H1 at s1 gw ⊢
  -- the calls
  refine ⟨_, rfl, _, rfl, (by show 0 ≤ sizeLine; decide), fun e1 n1 => ⟨(by show 3 ≤ sizeLine; decide), fun c1 n2 => ⟨(by show 0 ≤ sizeLine; decide), fun e2 n3 => ⟨(by show 3 ≤ sizeLine; decide), fun c2 n4 => ⟨(by show 2 ≤ sizeLine; decide), fun ca n5 => ?_⟩⟩⟩⟩⟩
  have q1 := same_upd (o := .tup []) n1
  have h1 : (upd H1 e1 (.tup [])) e1 = some (.tup []) := upd_same
  generalize upd H1 e1 (.tup []) = G1 at q1 h1 n2 n3 n4 n5 ⊢
  have q2 := same_upd (o := .tup [.str "given", .str "none", .ref e1]) n2
  have h2 : (upd G1 c1 (.tup [.str "given", .str "none", .ref e1])) c1 = some (.tup [.str "given", .str "none", .ref e1]) := upd_same
  generalize upd G1 c1 (.tup [.str "given", .str "none", .ref e1]) = G2 at q2 h2 n3 n4 n5 ⊢
  have q3 := same_upd (o := .tup []) n3
  have h3 : (upd G2 e2 (.tup [])) e2 = some (.tup []) := upd_same
  generalize upd G2 e2 (.tup []) = G3 at q3 h3 n4 n5 ⊢
  have q4 := same_upd (o := .tup [.str "none", .str "one", .ref e2]) n4
  have h4 : (upd G3 c2 (.tup [.str "none", .str "one", .ref e2])) c2 = some (.tup [.str "none", .str "one", .ref e2]) := upd_same
  generalize upd G3 c2 (.tup [.str "none", .str "one", .ref e2]) = G4 at q4 h4 n5 ⊢
  have q5 := same_upd (o := .tup [.ref c1, .ref c2]) n5
  have h5 : (upd G4 ca (.tup [.ref c1, .ref c2])) ca = some (.tup [.ref c1, .ref c2]) := upd_same
  generalize upd G4 ca (.tup [.ref c1, .ref c2]) = G5 at q5 h5 ⊢
  have gc : Calls G5 (.ref ca) [("given", "none"), ("none", "one")] := by
    refine ⟨⟨ca, _, rfl, h5, rfl, fun i z so e => ?_⟩, by decide, by decide +kernel⟩
    match i, e with
    | 0, e => cases e; exact ⟨_, rfl, ⟨c1, e1, rfl, q5 _ _ (q4 _ _ (q3 _ _ h2)), q5 _ _ (q4 _ _ (q3 _ _ (q2 _ _ h1)))⟩, by decide +kernel, by decide +kernel⟩
    | 1, e => cases e; exact ⟨_, rfl, ⟨c2, e2, rfl, q5 _ _ h4, q5 _ _ (q4 _ _ h3)⟩, by decide +kernel, by decide +kernel⟩
    | n + 2, e => cases e
  have sG := q1.trans (q2.trans (q3.trans (q4.trans q5)))
  -- the views
  refine ⟨(by show 2 ≤ sizeLine; decide), fun fo n6 => ⟨(by show 2 ≤ sizeLine; decide), fun vw n7 => ⟨(by show 1 ≤ sizeLine; decide), fun va n8 => ?_⟩⟩⟩
  have q6 := same_upd (o := .tup [.str "none", .str "none"]) n6
  have h6 : (upd G5 fo (.tup [.str "none", .str "none"])) fo = some (.tup [.str "none", .str "none"]) := upd_same
  generalize upd G5 fo (.tup [.str "none", .str "none"]) = G6 at q6 h6 n7 n8 ⊢
  have q7 := same_upd (o := .tup [.str "none", .ref fo]) n7
  have h7 : (upd G6 vw (.tup [.str "none", .ref fo])) vw = some (.tup [.str "none", .ref fo]) := upd_same
  generalize upd G6 vw (.tup [.str "none", .ref fo]) = G7 at q7 h7 n8 ⊢
  have q8 := same_upd (o := .tup [.ref vw]) n8
  have h8 : (upd G7 va (.tup [.ref vw])) va = some (.tup [.ref vw]) := upd_same
  generalize upd G7 va (.tup [.ref vw]) = G8 at q8 h8 ⊢
  have sV := q6.trans (q7.trans q8)
  have gv : Views words2.length G8 (.ref va) ["none"] := by
    refine ⟨⟨va, _, rfl, h8, rfl, fun i z e => ?_⟩, by decide, by decide +kernel⟩
    match i, e with
    | 0, e => cases e; exact ⟨_, rfl, ⟨vw, fo, rfl, q8 _ _ h7, q8 _ _ (q7 _ _ h6)⟩, by decide +kernel, by decide⟩
    | n + 1, e => cases e
  have s8 := s1.trans (sG.trans sV)
  have gw8 := sV _ _ (sG _ _ gw)
  clear h1 h2 h3 h4 h5 h6 h7 h8 q1 q2 q3 q4 q5 q6 q7 q8 n1 n2 n3 n4 n5 n6 n7 n8
  refine fun x dx nx nd ne => mkD_ok (gf.tk (.same s8)) (words_good gw8) (gc.same sV) gv nx nd ne fun H9 s9 d => ⟨rfl, ?_⟩
  obtain ⟨ax, a1, a2, pt, cv, vv, d1, d2, k1, k2, k3⟩ := d.at_
  have s09 := s8.trans s9
  have gw9 := s9 _ _ gw8
  obtain ⟨⟨af', eaf, haf⟩, fl1, fl4, fok, fnd⟩ := gf
  cases eaf
  obtain ⟨⟨am', eam, ham⟩, ml1, ml4, mok, mnd⟩ := gm
  cases eam
  have okf : OkS fs := okS_names fun z hz => (fok z hz).2
  have okm : OkS ms := okS_names fun z hz => (mok z hz).2
  have hf9 := s09 _ _ haf
  -- what it tells
  refine ⟨_, rfl, x, ax, _, rfl, k1, x, ax, _, _, rfl, k1, df_fields _ _ _ _ _ _ _ _ _, ?_⟩
  refine ⟨_, rfl, x, ax, _, rfl, k1, x, ax, _, _, rfl, k1, df_modes _ _ _ _ _ _ _ _ _, ?_⟩
  refine ⟨_, rfl, x, ax, _, rfl, k1, x, ax, _, _, rfl, k1, df_names _ _ _ _ _ _ _ _ _, ?_⟩
  refine ⟨_, rfl, x, ax, _, rfl, k1, x, ax, _, _, rfl, k1, df_vnames _ _ _ _ _ _ _ _ _, ?_⟩
  refine ⟨(by show 4 ≤ sizeLine; decide), fun L nL => ?_⟩
  have t1 := same_upd (o := .lst [.ref af, .ref aw, .ref a1, .ref a2]) nL
  have gL : (upd H9 L (.lst [.ref af, .ref aw, .ref a1, .ref a2])) L = some (.lst [.ref af, .ref aw, .ref a1, .ref a2]) := upd_same
  generalize upd H9 L (.lst [.ref af, .ref aw, .ref a1, .ref a2]) = G1 at t1 gL ⊢
  refine ⟨_, rfl, _, rfl, _, rfl, (by show 1 ≤ sizeLine; decide), fun an nan => ⟨(by show 4 ≤ sizeLine; decide), fun M nM => ?_⟩⟩
  have t2 := same_upd (o := .tup [.str "none"]) nan
  have gn : (upd G1 an (.tup [.str "none"])) an = some (.tup ((["none"] : List Str).map V.str)) := upd_same
  generalize upd G1 an (.tup [.str "none"]) = G2 at t2 gn nM ⊢
  have t3 := same_upd (o := .lst [.ref af, .ref aw, .ref aw, .ref an]) nM
  have gM : (upd G2 M (.lst [.ref af, .ref aw, .ref aw, .ref an])) M = some (.lst [.ref af, .ref aw, .ref aw, .ref an]) := upd_same
  generalize upd G2 M (.lst [.ref af, .ref aw, .ref aw, .ref an]) = G3 at t3 gM ⊢
  have t13 := t1.trans (t2.trans t3)
  have all4 : ∀ y ∈ [fs, words2, words2, ["none"]], OkS y := fun y hy => by
    simp only [List.mem_cons, List.not_mem_nil, or_false] at hy
    rcases hy with rfl | rfl | rfl | rfl
    · exact okf
    · exact okS_w
    · exact okS_w
    · exact okS_n
  have gL3 := t3 _ _ (t2 _ _ gL)
  have gf3 := t13 _ _ hf9
  have gw3 := t13 _ _ gw9
  have k23 : G3 a1 = some (.tup (words2.map V.str)) := t13 _ _ k2
  have k33 := t13 _ _ k3
  have gn3 := t3 _ _ gn
  refine ⟨.list (tpD [fs, words2, words2, ["none"]]), .list (tpD [fs, words2, words2, ["none"]]),
    .lst (SqL.of gL3) (.cons (.tup (SqT.of gf3) (dpAll_str fs)) (.cons (.tup (SqT.of gw3) (dpAll_str words2)) (.cons (.tup (SqT.of k23) (dpAll_str words2)) (.cons (.tup (SqT.of k33) (dpAll_str ["none"])) .nil)))),
    .lst (SqL.of gM) (.cons (.tup (SqT.of gf3) (dpAll_str fs)) (.cons (.tup (SqT.of gw3) (dpAll_str words2)) (.cons (.tup (SqT.of gw3) (dpAll_str words2)) (.cons (.tup (SqT.of gn3) (dpAll_str ["none"])) .nil)))),
    tpD_shaped all4, tpD_shaped all4, ?_⟩
  rw [tpD_eqv all4]
  refine ⟨_, rfl, iteF ?_⟩
  have sB := s09.trans t13
  -- the last design
  refine ⟨_, rfl, _, rfl, (by show 0 ≤ sizeLine; decide), fun b1 m1 => ⟨(by show 0 ≤ sizeLine; decide), fun b2 m2 => ?_⟩⟩
  have r1 := same_upd (o := .tup []) m1
  have e1' : (upd G3 b1 (.tup [])) b1 = some (.tup []) := upd_same
  generalize upd G3 b1 (.tup []) = G4 at r1 e1' m2 ⊢
  have r2 := same_upd (o := .tup []) m2
  have e2' : (upd G4 b2 (.tup [])) b2 = some (.tup []) := upd_same
  generalize upd G4 b2 (.tup []) = G5 at r2 e2' ⊢
  have sC := sB.trans (r1.trans r2)
  refine fun y dy ny nyd ney => mkD_ok (fs := fs) (ms := ms) ⟨⟨af, rfl, sC _ _ haf⟩, fl1, fl4, fok, fnd⟩ ⟨⟨am, rfl, sC _ _ ham⟩, ml1, ml4, mok, mnd⟩ (calls_nil (r2 _ _ e1')) (views_nil e2') ny nyd ney fun H10 s10 d => ⟨rfl, ?_⟩
  obtain ⟨ax, a1, a2, pt, cv, vv, d1, d2, k1, k2, k3⟩ := d.at_
  have sD := sC.trans s10
  refine ⟨y, ax, _, rfl, k1, y, ax, _, _, rfl, k1, df_modes _ _ _ _ _ _ _ _ _, ?_⟩
  refine ⟨_, rfl, .tuple (strD ms), .tuple (strD ms), .tup (SqT.of (sD _ _ ham)) (dpAll_str ms), .tup (SqT.of (sD _ _ ham)) (dpAll_str ms), tup_shaped okm, tup_shaped okm, ?_⟩
  rw [tup_eqv okm]
  exact fin _ (.same sD hp hT)
end
end K1

namespace K1
open PySem PySem.Spec
open PyProof.Rows L2 L2H EnT StX SmX TxS DuX ClX XdI Tr3 CnB
/-! ### right, whole -/
theorem lst_eq {H : Hp} {a : Addr} {x y : Str} : upd H a (.lst [V.str x, V.str y]) = upd H a (.lst ([x, y].map V.str)) := rfl
structure AtR4 (p Pt : Addr) (σ : L2.St) (H : Hp) (En : Ends) : Prop where
  ex : ∃ (af am : Addr) (fs ms : List Str) (bv i1 cv i2 : V) (t1 t2 : Str),
    σ = [some (.ref p), some (.ref af), some (.ref am), some bv, some (.str t1), some cv, some (.str t2), none, none, none, none] ∧ RtC p Pt af am fs ms bv i1 cv i2 t1 t2 H ∧ Fin5 p (TbR Pt) H En
structure AtR2 (p Pt : Addr) (σ : L2.St) (H : Hp) (En : Ends) : Prop where
  ex : ∃ (af am : Addr) (fs ms : List Str), σ = [some (.ref p), some (.ref af), some (.ref am), none, none, none, none, none, none, none, none] ∧ PoolAt H p ∧ LamX.Tabs (TbR Pt) H ∧ GoodNs fieldV H (.ref af) fs ∧ GoodNs nameV H (.ref am) ms ∧ Fin5 p (TbR Pt) H En
structure AtR0 (p Pt : Addr) (σ : L2.St) (H : Hp) (En : Ends) : Prop where
  ex : σ = [some (.ref p), none, none, none, none, none, none, none, none, none, none]
  hp : PoolAt H p
  T : LamX.Tabs (TbR Pt) H
  fin : Fin5 p (TbR Pt) H En
/-- what right calls -/
structure Rk (P : Program) (w : World) (K : PySem.W.Frag) (mg : Str → Option Value) (base : Heap) : Prop where
  hn : ∃ f, Has P w K mg base CX0 2 "_law_names" f ["_law_pool_here", "_law_many"] spNames
  hd : ∃ f, Has P w K mg base CX0 1 "_law_draw" f ["_law_pool_here", "_law_many"] spDraw
  hb : ∃ f, (Has P w K mg base CX0 3 "_law_bent" f ["_law_pool_here", "_law_names_here", "_law_more"] (spBent fieldV)) ∧ Has P w K mg base CX0 3 "_law_bent" f ["_law_pool_here", "_law_names_here", "_law_more"] (spBent nameV)
section
variable {w : World} {P : Program} {base : Heap} {mg : Str → Option Value} {K : PySem.W.Frag} {C CF CM CC CV S1 S2 S3 : Addr}
variable {f c Pt : Addr} {A : Around} {outer : List Env} {s : Shared} {H0 : Hp} {p : Addr}
theorem ri10 (W : WR P w K mg base C CF CM CC CV S1 S2 S3) (hr : Room 19 (A.deeper (envOfC "_law_right" (defScope sRight) s.heap.objs.size f (.ref c)))) :
    PSs (cxR P w K mg base f (.ref c) A outer s H0) (riRest 10) (fun En σ H => AtAsk p Pt 6 σ H En) := by
  refine pss_of fun En σ H hyp => ?_
  obtain ⟨af, am, tl, as, fs, ms, bv, i1, cv, i2, t1, t2, HS, eσ, k, ht, h1, h6, ll, mS, nS, fin⟩ := hyp.ex
  refine ⟨_, pss_cons (ps_set (i := 8) scRi.nd rfl (.inl rfl) (pe_lst (pa_cons (pe_lst (pa_cons pe_str (pa_cons (pv 4) pa_nil))) (pa_cons (pe_lst (pa_cons pe_str (pa_cons (pv 6) pa_nil))) (pa_cons (pe_lst (pa_cons pe_str (pa_cons pe_str pa_nil))) (pa_cons (pe_lst (pa_cons pe_str (pa_cons pe_str pa_nil))) pa_nil))))))
    (pss_cons (ps_if (pt_cmpR (op_neD hr.units) (pv 7) (pe_op op_cat (pv 8) (pe_lst (pa_cons (pe_lst (pa_cons pe_str (pa_cons pe_str pa_nil))) (pa_cons (pe_lst (pa_cons pe_str (pa_cons pe_str pa_nil))) pa_nil)))) (nomark _)) pss_never pss_nil)
    (ri12 (p := p) (Pt := Pt) W hr)), ?_⟩
  subst eσ
  refine ⟨_, rfl, (by show 2 ≤ sizeLine; decide), fun p1 n1 => ⟨_, rfl, (by show 2 ≤ sizeLine; decide), fun p2 n2 => ⟨(by show 2 ≤ sizeLine; decide), fun p3 n3 => ⟨(by show 2 ≤ sizeLine; decide), fun p4 n4 => ⟨(by show 4 ≤ sizeLine; decide), fun L1 n5 => ?_⟩⟩⟩⟩⟩
  simp only [lst_eq] at n2 n3 n4 n5 ⊢
  have q1 := same_upd (o := .lst ((["InvalidFields", t1] : List Str).map V.str)) n1
  have g1 : (upd H p1 (.lst ((["InvalidFields", t1] : List Str).map V.str))) p1 = some (.lst ((["InvalidFields", t1] : List Str).map V.str)) := upd_same
  generalize upd H p1 (.lst ((["InvalidFields", t1] : List Str).map V.str)) = G1 at q1 g1 n2 n3 n4 n5 ⊢
  have q2 := same_upd (o := .lst ((["InvalidModes", t2] : List Str).map V.str)) n2
  have g2 : (upd G1 p2 (.lst ((["InvalidModes", t2] : List Str).map V.str))) p2 = some (.lst ((["InvalidModes", t2] : List Str).map V.str)) := upd_same
  generalize upd G1 p2 (.lst ((["InvalidModes", t2] : List Str).map V.str)) = G2 at q2 g2 n3 n4 n5 ⊢
  have q3 := same_upd (o := .lst ((["InvalidCalls", "None"] : List Str).map V.str)) n3
  have g3 : (upd G2 p3 (.lst ((["InvalidCalls", "None"] : List Str).map V.str))) p3 = some (.lst ((["InvalidCalls", "None"] : List Str).map V.str)) := upd_same
  generalize upd G2 p3 (.lst ((["InvalidCalls", "None"] : List Str).map V.str)) = G3 at q3 g3 n4 n5 ⊢
  have q4 := same_upd (o := .lst ((["InvalidViews", "None"] : List Str).map V.str)) n4
  have g4 : (upd G3 p4 (.lst ((["InvalidViews", "None"] : List Str).map V.str))) p4 = some (.lst ((["InvalidViews", "None"] : List Str).map V.str)) := upd_same
  generalize upd G3 p4 (.lst ((["InvalidViews", "None"] : List Str).map V.str)) = G4 at q4 g4 n5 ⊢
  have q5 := same_upd (o := .lst [.ref p1, .ref p2, .ref p3, .ref p4]) n5
  have g5 : (upd G4 L1 (.lst [.ref p1, .ref p2, .ref p3, .ref p4])) L1 = some (.lst [.ref p1, .ref p2, .ref p3, .ref p4]) := upd_same
  generalize upd G4 L1 (.lst [.ref p1, .ref p2, .ref p3, .ref p4]) = G5 at q5 g5 ⊢
  refine ⟨_, rfl, _, rfl, (by show 2 ≤ sizeLine; decide), fun p5 n6 => ⟨(by show 2 ≤ sizeLine; decide), fun p6 n7 => ⟨(by show 2 ≤ sizeLine; decide), fun L2' n8 => ?_⟩⟩⟩
  simp only [lst_eq] at n7 n8 ⊢
  have q6 := same_upd (o := .lst ((["InvalidCalls", "None"] : List Str).map V.str)) n6
  have g6 : (upd G5 p5 (.lst ((["InvalidCalls", "None"] : List Str).map V.str))) p5 = some (.lst ((["InvalidCalls", "None"] : List Str).map V.str)) := upd_same
  generalize upd G5 p5 (.lst ((["InvalidCalls", "None"] : List Str).map V.str)) = G6 at q6 g6 n7 n8 ⊢
  have q7 := same_upd (o := .lst ((["InvalidViews", "None"] : List Str).map V.str)) n7
  have g7 : (upd G6 p6 (.lst ((["InvalidViews", "None"] : List Str).map V.str))) p6 = some (.lst ((["InvalidViews", "None"] : List Str).map V.str)) := upd_same
  generalize upd G6 p6 (.lst ((["InvalidViews", "None"] : List Str).map V.str)) = G7 at q7 g7 n8 ⊢
  have q8 := same_upd (o := .lst [.ref p5, .ref p6]) n8
  have g8 : (upd G7 L2' (.lst [.ref p5, .ref p6])) L2' = some (.lst [.ref p5, .ref p6]) := upd_same
  generalize upd G7 L2' (.lst [.ref p5, .ref p6]) = G8 at q8 g8 ⊢
  have s68 := q6.trans (q7.trans q8)
  refine ⟨L1, L2', _, _, rfl, rfl, s68 _ _ g5, g8, (by show 4 + 2 ≤ sizeLine; decide), fun M nM => ?_⟩
  have q9 := same_upd (o := .lst ([p1, p2, p3, p4, p5, p6].map V.ref)) nM
  have g9 : (upd G8 M (.lst ([p1, p2, p3, p4, p5, p6].map V.ref))) M = some (.lst ([p1, p2, p3, p4, p5, p6].map V.ref)) := upd_same
  have eM : upd G8 M (.lst ([V.ref p1, .ref p2, .ref p3, .ref p4] ++ [.ref p5, .ref p6])) = upd G8 M (.lst ([p1, p2, p3, p4, p5, p6].map V.ref)) := rfl
  rw [eM]
  generalize upd G8 M (.lst ([p1, p2, p3, p4, p5, p6].map V.ref)) = G9 at q9 g9 ⊢
  have s59 := q5.trans (s68.trans q9)
  have a1 := s59 _ _ (q4 _ _ (q3 _ _ (q2 _ _ g1)))
  have a2 := s59 _ _ (q4 _ _ (q3 _ _ g2))
  have a3 := s59 _ _ (q4 _ _ g3)
  have a4 := s59 _ _ g4
  have a5 := q9 _ _ (q8 _ _ (q7 _ _ g6))
  have a6 := q9 _ _ (q8 _ _ g7)
  have lb : Lists G9 [p1, p2, p3, p4, p5, p6] (YY t1 t2) := ((((((Lists.nil.snoc a1).snoc a2).snoc a3).snoc a4).snoc a5).snoc a6)
  have s09 := q1.trans (q2.trans (q3.trans (q4.trans s59)))
  have la : Lists G9 as (YY t1 t2) := ll.same s09
  have oks := due_ok k.x1.ok k.x2.ok
  refine ⟨_, _, .lst (SqL.of (s09 _ _ ht)) (la.dp (K := K)), .lst (SqL.of g9) (lb.dp (K := K)), lsD_shaped oks, lsD_shaped oks, ?_⟩
  rw [lsD_eqv oks]
  have m := Mv.same (p := p) (Tb := TbR Pt) s09 k.hp k.T
  have k9 := k.mv m
  exact ⟨_, rfl, iteF ⟨af, am, fs, ms, _, _, _, _, _, _, rfl, k9.hp, k9.T, k9.gf, k9.gm, fun H' m' => fin H' ((mS.trans m).trans m')⟩⟩
theorem ri4 (W : WR P w K mg base C CF CM CC CV S1 S2 S3) (AK : Asks K mg base c Pt) (hgd : A.guards = some []) (hr : Room 19 (A.deeper (envOfC "_law_right" (defScope sRight) s.heap.objs.size f (.ref c)))) :
    PSs (cxR P w K mg base f (.ref c) A outer s H0) (riRest 4) (fun En σ H => AtR4 p Pt σ H En) := by
  obtain ⟨fI, fdI, MK, FI, bI⟩ := W.mkD
  refine pss_of fun En σ H hyp => ?_
  obtain ⟨af, am, fs, ms, bv, i1, cv, i2, t1, t2, eσ, k, fin⟩ := hyp.ex
  refine ⟨_, pss_cons (ps_set (i := 7) scRi.nd rfl (.inl rfl) (pe_lst (pa_cons (pe_ask W AK hgd hr (t := fun E => tMake C (spInitD C CF CM CC CV) [] E (tCons (tVar 3) (tCons (tVar 5) (tCons (tC .non) (tCons (tC .non) tNil))))) (LamX.lamS_by (by decide +kernel)) (fun A' outer' s' H' E f' c' hr' => ?he)) pa_nil)))
    (ri5 (p := p) (Pt := Pt) W AK hgd hr (ri10 (p := p) (Pt := Pt) W hr)), ?_⟩
  case he =>
    exact pe_make MK FI (hr'.mono (by decide)) (by rfl) W.D.g bI .nil (passes_call (takes_of rfl rfl rfl rfl) fun _ _ _ _ h => h) (pa_cons (pv 3) (pa_cons (pv 5) (pa_cons pe_non (pa_cons pe_non pa_nil))))
  subst eσ
  refine ask_err k.hp k.T (v := i1) (x := t1) k.x1 (.inl ⟨rfl, rfl⟩) (fun H1 Q' E m1 eE => ?_) fun r H7 m7 hr7 => ?_
  · exact ⟨_, rfl, _, rfl, fun x dx nx nd ne => mkD_err (.inl ⟨_, (k.mv m1).bf, eE⟩) nx nd ne⟩
  · refine ⟨by show 1 ≤ sizeLine; decide, fun tl nt => ?_⟩
    obtain ⟨mS, nS, fin'⟩ := fin5_new (r := r) fin m7 nt
    have s8 := same_upd (o := .lst ([r].map V.ref)) nt
    have k7 := k.mv m7
    have k8 := k7.mv (.same s8 k7.hp k7.T)
    exact ⟨af, am, tl, [r], fs, ms, bv, i1, cv, i2, t1, t2, L2.del H tl, rfl, k8, upd_same, by decide, by decide, Lists.nil.snoc (s8 _ _ hr7), mS, nS, fin'⟩
theorem ri2 (W : WR P w K mg base C CF CM CC CV S1 S2 S3) (AK : Asks K mg base c Pt) (R : Rk P w K mg base) (hgd : A.guards = some []) (hr : Room 19 (A.deeper (envOfC "_law_right" (defScope sRight) s.heap.objs.size f (.ref c)))) :
    PSs (cxR P w K mg base f (.ref c) A outer s H0) (riRest 2) (fun En σ H => AtR2 p Pt σ H En) := by
  obtain ⟨fB, hB, hB2⟩ := R.hb
  refine pss_of fun En σ H hyp => ?_
  obtain ⟨af, am, fs, ms, eσ, hp, hT, gf, gm, fin⟩ := hyp.ex
  refine ⟨_, pss_cons (ps_asg (pe_has hB (hr.mono (by decide)) (by rfl) pass0 (pa_cons (pv 0) (pa_cons (pv 1) (pa_cons (pe_lst (pa_cons pe_str (pa_cons pe_str pa_nil))) pa_nil)))) (pg_unl rfl (pgs_cons (pg_name (i := 3) scRi.nd rfl (.inr rfl)) (pgs_cons (pg_name (i := 4) scRi.nd rfl (.inl rfl)) pgs_nil))))
    (pss_cons (ps_asg (pe_has hB2 (hr.mono (by decide)) (by rfl) pass0 (pa_cons (pv 0) (pa_cons (pv 2) (pa_cons (pe_lst pa_nil) pa_nil)))) (pg_unl rfl (pgs_cons (pg_name (i := 5) scRi.nd rfl (.inr rfl)) (pgs_cons (pg_name (i := 6) scRi.nd rfl (.inl rfl)) pgs_nil))))
    (ri4 (p := p) (Pt := Pt) W AK hgd hr)), ?_⟩
  subst eσ
  refine ⟨_, rfl, _, rfl, (by show 2 ≤ sizeLine; decide), fun M nM => ?_⟩
  rw [lst_eq]
  have s1 := same_upd (o := .lst ((["given", "none"] : List Str).map V.str)) nM
  have gM : (upd H M (.lst ((["given", "none"] : List Str).map V.str))) M = some (.lst ((["given", "none"] : List Str).map V.str)) := upd_same
  generalize upd H M (.lst ((["given", "none"] : List Str).map V.str)) = H1 at s1 gM ⊢
  have m1 := Mv.same (p := p) (Tb := TbR Pt) s1 hp hT
  have bad : ∀ z ∈ (["given", "none"] : List Str), fieldV (.str z) = false ∧ z.length ≤ sizeLine := by
    have a : ∀ z ∈ (["given", "none"] : List Str), fieldV (.str z) = false ∧ z.length ≤ 10 := by decide +kernel
    intro z hz
    have := a z hz
    exact ⟨this.1, by rw [sizeLine_eq]; omega⟩
  refine ⟨p, af, M, fs, _, rfl, m1.rx.pool, gf.tk (.same s1), gM, (by decide), bad, fun r bv i1 t1 H2 x2 nr hr2 bf ix1 => ?_⟩
  have m2' := Mv.ext (Tb := TbR Pt) x2 m1.rx.pool m1.tabs
  have m2 := m1.trans m2'
  have st2 := Stays.mv m2 hp
  refine ⟨r, _, rfl, SqL.of hr2, rfl, _, _, rfl, _, _, rfl, rfl, ?_⟩
  refine ⟨_, rfl, _, rfl, (by show 0 ≤ sizeLine; decide), fun N nN => ?_⟩
  have s3 := same_upd (o := .lst []) nN
  have gN : (upd H2 N (.lst [])) N = some (.lst (([] : List Str).map V.str)) := upd_same
  generalize upd H2 N (.lst []) = H3 at s3 gN ⊢
  have m3' := Mv.same (p := p) (Tb := TbR Pt) s3 m2.rx.pool m2.tabs
  have m3 := m2.trans m3'
  refine ⟨p, am, N, ms, _, rfl, m3.rx.pool, gm.tk (stays_tup (Stays.mv m3 hp)), gN, (by decide), (fun z hz => by cases hz), fun r2 cv i2 t2 H4 x4 nr2 hr4 bm ix2 => ?_⟩
  have m4' := Mv.ext (Tb := TbR Pt) x4 m3.rx.pool m3.tabs
  have m4 := m3.trans m4'
  have st4 := Stays.mv m4 hp
  refine ⟨r2, _, rfl, SqL.of hr4, rfl, _, _, rfl, _, _, rfl, rfl, ?_⟩
  exact ⟨af, am, fs, ms, bv, i1, cv, i2, t1, t2, rfl, ⟨m4.rx.pool, m4.tabs, gf.tk (stays_tup st4), gm.tk (stays_tup st4), bf.stays (Stays.mv (m3'.trans m4') m2.rx.pool), ix1, bm, ix2⟩, fun H' m' => fin H' (m4.trans m')⟩
theorem one_more (p : Addr) (k : Nat) : [V.ref p, V.int (1 + (k : Int))] = [V.ref p, V.int ((k + 1 : Nat) : Int)] := by
  rw [show (1 + (k : Int)) = ((k + 1 : Nat) : Int) by omega]
theorem good_tags {H : Hp} {a : Addr} {zs : List Str} {k : Nat} (h : H a = some (.tup (zs.map V.str))) (l : zs.length = k + 1) (k4 : k < 4) (tg : ∀ z ∈ zs, Tag z) (nd : zs.Nodup) : GoodNs fieldV H (.ref a) zs ∧ GoodNs nameV H (.ref a) zs := by
  refine ⟨⟨⟨a, rfl, h⟩, by omega, by omega, fun z hz => ⟨?_, tag_name (tg z hz)⟩, nd⟩, ⟨⟨a, rfl, h⟩, by omega, by omega, fun z hz => ⟨tag_name (tg z hz), tag_name (tg z hz)⟩, nd⟩⟩
  show (nameB z && fieldB z) = true
  rw [tag_name (tg z hz), tag_fld (tg z hz)]
  rfl
theorem ri0 (W : WR P w K mg base C CF CM CC CV S1 S2 S3) (AK : Asks K mg base c Pt) (R : Rk P w K mg base) (hgd : A.guards = some []) (hr : Room 19 (A.deeper (envOfC "_law_right" (defScope sRight) s.heap.objs.size f (.ref c)))) :
    PSs (cxR P w K mg base f (.ref c) A outer s H0) (defBody sRight) (fun En σ H => AtR0 p Pt σ H En) := by
  obtain ⟨fN, hN⟩ := R.hn
  obtain ⟨fD, hD⟩ := R.hd
  have T := W.T
  refine pss_of fun En σ H hyp => ?_
  obtain ⟨eσ, hp, hT, fin⟩ := hyp
  refine ⟨_, pss_cons (ps_set (i := 1) scRi.nd rfl (.inr rfl) (pe_callTy call_tuple_of (by rfl) T.tuple (by decide +kernel) (pa_cons (pe_has hN (hr.mono (by decide)) (by rfl) pass0 (pa_cons (pv 0) (pa_cons (pe_op op_add pe_int (pe_has hD (hr.mono (by decide)) (by rfl) pass0 (pa_cons (pv 0) (pa_cons pe_int pa_nil)))) pa_nil))) pa_nil)))
    (pss_cons (ps_set (i := 2) scRi.nd rfl (.inr rfl) (pe_callTy call_tuple_of (by rfl) T.tuple (by decide +kernel) (pa_cons (pe_has hN (hr.mono (by decide)) (by rfl) pass0 (pa_cons (pv 0) (pa_cons (pe_op op_add pe_int (pe_has hD (hr.mono (by decide)) (by rfl) pass0 (pa_cons (pv 0) (pa_cons pe_int pa_nil)))) pa_nil))) pa_nil)))
    (ri2 (p := p) (Pt := Pt) W AK R hgd hr)), ?_⟩
  subst eσ
  refine ⟨_, rfl, _, rfl, p, 4, rfl, hp, by decide, by decide, fun d H1 x1 d0 d1 => ⟨_, _, rfl, rfl, ?_⟩⟩
  obtain ⟨k, rfl⟩ : ∃ k : Nat, d = (k : Int) := ⟨d.toNat, by omega⟩
  refine ⟨p, k + 1, (one_more _ k), x1.pool, by omega, fun q zs H2 x2 nq hq len tg nd => ?_⟩
  refine ⟨q, _, rfl, .inl ⟨SqL.of hq, fun af naf => ?_⟩⟩
  have s3 := same_upd (o := .tup (zs.map V.str)) naf
  have gaf : (upd H2 af (.tup (zs.map V.str))) af = some (.tup (zs.map V.str)) := upd_same
  generalize upd H2 af (.tup (zs.map V.str)) = H3 at s3 gaf ⊢
  have x3 := (x1.trans x2).same s3
  have m3 := Mv.ext (Tb := TbR Pt) x3 hp hT
  refine ⟨_, rfl, _, rfl, p, 4, rfl, x3.pool, by decide, by decide, fun d H4 x4 e0 e1 => ⟨_, _, rfl, rfl, ?_⟩⟩
  obtain ⟨j, rfl⟩ : ∃ j : Nat, d = (j : Int) := ⟨d.toNat, by omega⟩
  refine ⟨p, j + 1, (one_more _ j), x4.pool, by omega, fun q2 ys H5 x5 nq2 hq2 len2 tg2 nd2 => ?_⟩
  refine ⟨q2, _, rfl, .inl ⟨SqL.of hq2, fun am nam => ?_⟩⟩
  have s6 := same_upd (o := .tup (ys.map V.str)) nam
  have gam : (upd H5 am (.tup (ys.map V.str))) am = some (.tup (ys.map V.str)) := upd_same
  generalize upd H5 am (.tup (ys.map V.str)) = H6 at s6 gam ⊢
  have x6' := (x4.trans x5).same s6
  have m6' := Mv.ext (Tb := TbR Pt) x6' m3.rx.pool m3.tabs
  have m6 := m3.trans m6'
  exact ⟨af, am, zs, ys, rfl, m6.rx.pool, m6.tabs, (good_tags (stays_tup (Stays.mv m6' m3.rx.pool) _ _ gaf) len (by omega) tg nd).1, (good_tags gam len2 (by omega) tg2 nd2).2, fun H' m' => fin H' (m6.trans m')⟩
def spRight (Pt : Addr) : Sp := fun vs H Q _ => ∃ p : Addr, vs = [.ref p] ∧ PoolAt H p ∧ LamX.Tabs (TbR Pt) H ∧ ∀ H', Mv p (TbR Pt) H H' → Q (.bl true) H'
theorem ok_right (W : WR P w K mg base C CF CM CC CV S1 S2 S3) (AK : Asks K mg base c Pt) (R : Rk P w K mg base) (FR : FunC K "_law_right" "_law_right" sRight f c) : FnG P w K mg base CX0 20 f (spRight Pt) := by
  intro A outer st H us vs Q E hgd hr e0 r hyp
  obtain ⟨p, rfl, hp, hT, q⟩ := hyp
  obtain ⟨oc, od, kV, doc, pm, an, ct, osl, lk, hcd⟩ := FR.ex
  refine LamX.run_ofS (N := nmRi) (ps := ["_law_pool_here"]) (us := us) (vs := [.ref p]) lk hcd scRi hr e0 ?_ r rfl fun hr' => ⟨_, (ri0 (p := p) (Pt := Pt) W AK R hgd hr').nox, ?_⟩
  · have b : L2.Binds K (PySem.W.fnOf "_law_right" "_law_right" (defArgs sRight) (defBody sRight) (defScope sRight) .none kV doc pm an (.ref c) ct) ["_law_pool_here"] [] := .all fun us hl => match us, hl with | [_], _ => rfl
    have hl : us.length = 1 := by rw [← r.length]; rfl
    have z := b st us (e0.mod.kin.keeps fun b o e => (e0.bs b o e).1) (by rw [List.append_nil]; exact hl)
    rw [List.append_nil] at z
    exact z
  · exact ⟨rfl, hp, hT, fun H' m' => q H' m'⟩
end
end K1

namespace K1
open PySem PySem.Spec
open PyProof.Rows L2 L2H EnT StX SmX TxS DuX XdI Tr3 CnB ClX
/-! ### the law -/
abbrev nmLaw : List Str := ["_law_cells", "_law_k"]
theorem scLaw : FnScope nmLaw ["_law_cells"] (defScope sLaw) := ⟨rfl, rfl, rfl, by decide +kernel, rfl, by decide +kernel, by decide +kernel⟩
/-- the law's promise: it tells True -/
def spLaw (K : PySem.W.Frag) (Pt : Addr) : Sp := fun vs H Q _ => ∃ (a : Addr) (ns : List Int), vs = [.ref a] ∧ SqL K H a (ns.map V.int) ∧ ns.length < 2 ^ 60 ∧ LamX.Tabs (TbR Pt) H ∧ ∀ H', Q (.bl true) H'
/-- all but the tables stays -/
structure LX (Pt : Addr) (H H' : Hp) : Prop where
  keep : ∀ b o, H b = some o → (∀ ps, o ≠ .tbl ps) → H' b = some o
  tabs : LamX.Tabs (TbR Pt) H'
theorem LX.seq {K : PySem.W.Frag} {Pt a : Addr} {H H' : Hp} {xs : List V} (x : LX Pt H H') (h : SqL K H a xs) : SqL K H' a xs := by
  rcases h with h | h
  · rcases h with h | ⟨o, h⟩
    · exact .inl (.inl (x.keep _ _ h (fun _ e => by cases e)))
    · exact .inl (.inr ⟨o, x.keep _ _ h (fun _ e => by cases e)⟩)
  · exact .inr h
section
variable {w : World} {P : Program} {base : Heap} {mg : Str → Option Value} {K : PySem.W.Frag} {fL Pt : Addr}
/-- what the law itself calls -/
structure Top (P : Program) (w : World) (K : PySem.W.Frag) (mg : Str → Option Value) (base : Heap) (Pt : Addr) : Prop where
  cell : ∃ f, Has P w K mg base CX0 1 "_law_cell" f ["_law_cells", "_law_k"] (spCell K)
  pool : ∃ f, Has P w K mg base CX0 1 "_law_pool" f ["_law_cell_here"] spPool
  right : ∃ f, mg "_law_right" = some (.ref f) ∧ PySem.W.keepIn K (.ref f) = true ∧ FnG P w K mg base CX0 20 f (spRight Pt)
theorem ok_law (T : Free mg) (TP : Top P w K mg base Pt) {cL : Addr} (FL : FunC K "law" "law" sLaw fL cL) : FnG P w K mg base CX0 21 fL (spLaw K Pt) := by
  intro A outer s H us vs Q E hgd hr e0 r h
  obtain ⟨a, ns, rfl, hS, hlen, hT, q⟩ := h
  obtain ⟨oc, od, kV, doc, pm, an, ct, osl, lk, hcd⟩ := FL.ex
  obtain ⟨fC, hC⟩ := TP.cell
  obtain ⟨fP, hP⟩ := TP.pool
  obtain ⟨fR, mgR, kpR, GR⟩ := TP.right
  have body : ∀ hr' : Room 20 (A.deeper (envOfC "law" (defScope sLaw) s.heap.objs.size fL (.ref cL))), ∃ t, PSs (cxOf CX0 P w K mg base nmLaw "law" (defScope sLaw) fL (.ref cL) A outer s H E).nox (defBody sLaw) t ∧ t { nx := fun _ H' => Q .non H', rt := Q } (L2.start nmLaw [.ref a]) H := fun hr' => by
    refine ⟨_, pss_one (ps_ret (pe_callB (cr_all rfl) (by rfl) T.all (by decide +kernel) (pa_cons (pe_lc (own := [("_law_k", 1)]) (g := gName 1) (tt := tYes) (te := tCall (spRight Pt) [] E0 (tCons (tCall spPool [] E0 (tCons (tCall (spCell K) [] E0 (tCons (tVar 0) (tCons (tVar 1) tNil))) tNil)) tNil)) rfl scLaw.nd
        (pi_range1 rfl T.range (pa_cons (pe_callB (call_max2 rfl) (by rfl) T.max (by decide +kernel) (pa_cons pe_int (pa_cons (pe_callB (call_min2 rfl) (by rfl) T.min (by decide +kernel) (pa_cons (pe_callB call_len_seq (by rfl) T.len PySem.boot_len (pa_cons (pv 0) pa_nil)) (pa_cons pe_int pa_nil))) pa_nil))) pa_nil))
        (blkOk_by (own := [("_law_k", 1)]) (N := nmLaw) (sc := defScope sLaw) (by decide +kernel)) (fun _ _ _ _ _ => pg_name (i := 1) scLaw.nd rfl (Or.inl rfl)) (fun _ _ _ _ _ => pts_nil)
        (fun _ _ _ _ _ => pe_callG (x := "_law_right") GR (by exact hgd) hr' (by rfl) mgR kpR (pa_cons (pe_has (x := "_law_pool") (sp := spPool) hP (hr'.mono (by decide)) (by rfl) pass0 (pa_cons (pe_has (x := "_law_cell") (sp := spCell K) hC (hr'.mono (by decide)) (by rfl) pass0 (pa_cons (pv 0) (pa_cons (pv 1) pa_nil))) pa_nil)) pa_nil))) pa_nil))), ?_⟩
    refine ⟨_, rfl, a, _, rfl, .inl hS, _, _, rfl, ?_⟩
    rw [List.length_map]
    generalize eN : (if (6 : Int) < ((ns.length : Nat) : Int) then (6 : Int) else ((ns.length : Nat) : Int)) = n6
    have b6 : n6 ≤ 6 := by
      rw [← eN]
      split <;> omega
    refine ⟨_, _, rfl, ?_⟩
    generalize eM : (if n6 > (2 : Int) then n6 else (2 : Int)) = m
    have m0 : 0 ≤ m ∧ m ≤ 6 := by
      rw [← eM]
      split <;> omega
    obtain ⟨n, rfl⟩ := Int.eq_ofNat_of_zero_le m0.1
    refine ⟨n, rfl, by omega, by omega, fun L nL => ?_⟩
    refine lc_range (lo := 0) (n := ((n : Nat) : Int).toNat) (fun i H' => LX Pt H H' ∧ H' L = some (.lst ((List.replicate i true).map V.bl))) ?_ ?_ ?_
    · exact ⟨⟨fun b o e _ => (same_upd nL) b o e, hT.ext (same_upd nL)⟩, upd_same⟩
    · rintro i H' hi ⟨x, hL⟩
      refine ⟨rfl, ?_⟩
      refine ⟨_, rfl, _, rfl, a, ns, i, (by rw [Int.zero_add]; rfl), x.seq hS, fun z => ?_⟩
      refine ⟨z, rfl, fun p np d1 d2 d3 => ?_⟩
      have s1 : Same H' (upd H' p (.lst [.int d1, .int d2, .int d3])) := same_upd np
      refine ⟨p, rfl, ⟨d1, d2, d3, upd_same⟩, x.tabs.ext s1, fun H2 m2 => ?_⟩
      have hL2 : H2 L = some (.lst ((List.replicate i true).map V.bl)) := m2.rx.keep _ _ (fun e => by rw [e, np] at hL; cases hL) (s1 _ _ hL) (fun _ e => by cases e)
      refine ⟨_, hL2, by rw [List.length_map, List.length_replicate, sizeLine_eq]; omega, ?_⟩
      refine ⟨⟨fun b o e nt => ?_, tabs_upd hL2 m2.tabs⟩, by rw [upd_same, List.replicate_succ', List.map_append]; rfl⟩
      have hb := x.keep b o e nt
      rw [upd_ne (fun z => by rw [z, nL] at e; cases e)]
      exact m2.rx.keep b o (fun z => by rw [z, np] at hb; cases hb) (s1 _ _ hb) nt
    · rintro H2 ⟨x, hL⟩
      refine ⟨L, _, rfl, SqL.of hL, ?_⟩
      have e3 : (List.replicate (((n : Nat) : Int).toNat) true).all id = true := by
        rw [List.all_eq_true]
        intro b hb
        rw [List.eq_of_mem_replicate hb]
        rfl
      rw [e3]
      exact q H2
  refine LamX.run_ofS (N := nmLaw) (ps := ["_law_cells"]) (us := us) (vs := [.ref a]) lk hcd scLaw hr e0 ?_ r rfl fun hr' => ?_
  · have b : L2.Binds K (PySem.W.fnOf "law" "law" (defArgs sLaw) (defBody sLaw) (defScope sLaw) .none kV doc pm an (.ref cL) ct) ["_law_cells"] [] := .all fun us hl => match us, hl with | [_], _ => rfl
    have hl : us.length = 1 := by rw [← r.length]; rfl
    have z := b s us (e0.mod.kin.keeps fun b o e => (e0.bs b o e).1) (by rw [List.append_nil]; exact hl)
    rw [List.append_nil] at z
    exact z
  · obtain ⟨t, ht, hq⟩ := body hr'
    exact ⟨t, ht.nox, hq⟩
end
end K1

/-! the end, for a law that makes texts of what it holds -/
namespace EnG
open PySem PySem.Spec
open PyProof.Rows L2 LamX
theorem call_tabs {P : Program} {w : World} {K : PySem.W.Frag} {mg mb : Str → Option Value} {k : Nat} {fa a : Addr} {cs : List (Addr × Addr)} {sp : Sp} {s₁ : Shared} {vs : List Value} {ns : List Int}
    (kInS : K.In s₁.heap) (nsG : s₁.heap.Ns mainGlobals mg) (nsB : s₁.heap.Ns builtinsNs mb) (bltB : ∀ x : Str, x ≠ "__name__" → mb x = bootBuiltins x) (noLim : s₁.heap.NoLimit) (gen0 : s₁.gens = #[])
    (tabE : ∀ p ∈ cs, s₁.heap.get? p.2 = some { cls := .none, data := .fields #[] }) (tabN : ∀ p ∈ cs, K.lookup p.2 = none) (C : ∀ p ∈ cs, PySem.W.CodeHd s₁.heap p.1 p.2)
    (modB : ∃ (bm : Addr) (ob : Obj), mg "__builtins__" = some (.ref bm) ∧ bm ≠ builtinsNs ∧ s₁.heap.get? bm = some ob ∧ ob.cls = .type "module" ∧ ob.dict = some builtinsNs ∧ ob.data = .plain)
    (lstA : s₁.heap.get? a = some { cls := .type "list", data := .seq vs.toArray }) (intA : IntsAre vs ns) (lenA : ns.length ≤ sizeLine) (roomA : Room k callerA)
    (F : ∀ base : Heap, K.In base → base.Ns mainGlobals mg → (∀ p ∈ cs, TabB base mg p.1 p.2) → K1.FnG P w K mg base CX0 k fa sp)
    (askS : ∀ H : Hp, (∀ p ∈ cs, H p.2 = some (.tbl #[])) → SqL K H a (ns.map V.int) → sp [.ref a] H (fun v _ => v = .bl true) fun _ _ _ => False) :
    codeAny (model P w) callerA (.call (.ref fa) ⟨[.ref a], []⟩) (fun r s' => r
        = .ok (.ret (.bool true)) ∧ OldK s₁.heap s'.heap ∧ s'.os = s₁.os ∧ AllBare s'.gens) s₁ := by
  have relA := vals_ints intA
  have lenI := intA.length
  have isTab : ∀ b : Addr, b ∈ cs.map (·.2) → s₁.heap.get? b = some { cls := .none, data := .fields #[] } := fun b nsB => by
    obtain ⟨p, hp, e⟩ := List.mem_map.mp nsB
    rw [← e]
    exact tabE p hp
  have aNot : a ∉ cs.map (·.2) := fun z => by
    have q := isTab a z
    rw [lstA] at q
    have z' : Data.seq vs.toArray _ = Data.fields
        #[] := congrArg Obj.data (Option.some.inj q)
    cases z'
  have memTab : ∀ p ∈ cs, p.2 ∈ cs.map (·.2) := fun p hp => List.mem_map.mpr ⟨p, hp, rfl⟩
  have coreH : ∀ H : Hp, (∀ p ∈ cs, H p.2 = some (.tbl #[])) → (∀ b, H b = none ∨ b ∈ cs.map (·.2) ∨ ∃ o xs, H b = some (.frz o (.lst xs))) → SqL K H a (ns.map V.int) → HOk P w H s₁.heap → (∀ b, H b ≠ none → b = a ∨ b ∈ cs.map (·.2)) → (H a ≠ none → K.lookup a = none) →
      codeAny (model P w) callerA (.call (.ref fa) ⟨[.ref a], []⟩) (fun r s' => r
          = .ok (.ret (.bool true)) ∧ OldK s₁.heap s'.heap ∧ s'.os = s₁.os ∧ AllBare s'.gens) s₁ := by
    intro H tabH onlyH seqH okH hasH keyH
    have baseOf : ∀ {b : Addr} {o : Obj}, s₁.heap.get? b = some o → H b = none → (hidT s₁.heap H).get? b = some o := fun e n => hidT_get e n
    have noDat : ∀ {b : Addr} {o : Obj}, s₁.heap.get? b = some o → (∀ vs n, o.data ≠ .seq vs n) → o.data ≠ .fields #[] → H b = none := fun {b o} e h1 h2 => by
      cases q : H b with
      | none => rfl
      | some u =>
        rcases hasH b (by rw [q]; simp) with e' | e'
        · rw [e', lstA] at e
          cases e
          exact (h1 _ _ rfl).elim
        · rw [isTab b e'] at e
          cases e
          exact (h2 rfl).elim
    have noDic : ∀ {b : Addr} {o : Obj} {es : Array DictEntry} {ep : Nat}, s₁.heap.get? b = some o → o.data = .dict es ep → H b = none := fun {b o es ep} e d => by
      refine noDat e (fun vs n z => ?_) fun z => ?_
      · rw [d] at z
        cases z
      · rw [d] at z
        cases z
    have nsKeep : ∀ {b : Addr} {m : Str → Option Value}, s₁.heap.Ns b m → (hidT s₁.heap H).Ns b m := fun {b m} ⟨o, es, ep, e, d, r⟩ => ⟨o, es, ep, baseOf e (noDic e d), d, r⟩
    have kInB : K.In (hidT s₁.heap H) := fun b o e => baseOf (kInS b o e) (by
      cases q : H b with
      | none => rfl
      | some u =>
        rcases hasH b (by rw [q]; simp) with e' | e'
        · rw [e'] at e q
          rw [keyH (by rw [q]; simp)] at e
          cases e
        · obtain ⟨p, hp, ep⟩
              := List.mem_map.mp e'
          rw [← ep, tabN p hp] at e
          cases e)
    have modM : L2.Mod K mg (hidT s₁.heap H) := ⟨kInB, nsKeep nsG, ⟨mb, nsKeep nsB, bltB⟩, let ⟨mc, h1, h2⟩ := noLim; ⟨mc, nsKeep h1, h2⟩⟩
    have tabB : ∀ p ∈ cs, TabB (hidT s₁.heap H) mg p.1 p.2 := fun p hp => by
      have hTp := tabE p hp
      refine ⟨?_, ?_, fun z => ?_⟩
      · obtain ⟨o, us, file, tf, flags, tg, inF, text,
            tt, e1, r1, r2, r3, r4, r5, r6, r7, r8, hne⟩ := C p hp
        refine ⟨o, us, file, tf, flags, tg, inF, text, tt, baseOf e1 (noDat e1 (fun vs n z => ?_) fun z => ?_), r1, r2, r3, r4, r5, r6, r7, r8, hne⟩
        · rw [r2] at z
          cases z
        · rw [r2] at z
          cases z
          simp at r3
      · obtain ⟨bm, ob, b1, b2, b3, b4, b5, b6⟩ := modB
        have nG : bm ≠ mainGlobals
            := fun q => by
          obtain ⟨o, es, ep, e, hd, _⟩ := nsG
          rw [q, e] at b3
          cases b3
          rw [hd] at b6
          cases b6
        have nP : bm ≠
            p.2 := fun q => by
          rw [q, hTp] at b3
          cases b3
          cases b6
        refine ⟨bm, ob, b1, b2, nG, nP, baseOf b3 (noDat b3 (fun vs n z => ?_) fun z => ?_), b4, b5, b6⟩
        · rw [b6] at z
          cases z
        · rw [b6] at z
          cases z
      · obtain ⟨o, es, ep, e, hd, _⟩ := nsG
        rw [z, hTp] at e
        cases e
        cases hd
    have env0 : Env0 P w K mg (hidT s₁.heap H) callerA [] s₁ H := ⟨rfl, modM, fun b o e => of_hidT e, Nat.le_of_eq (hidT_size _ _), trivial, fun b nsB => absurd (show b ∈ ([] : List Addr) from nsB) (by simp), okH, .of_eq gen0⟩
    refine codeAny_mono (F _ kInB (nsKeep nsG) tabB callerA [] s₁ H [.ref a] [.ref a] _ _ rfl roomA env0 (.cons rfl .nil) (askS H tabH seqH)) fun r s' h => ?_
    cases r with
    | error e => exact (show False from h).elim
    | ok fl =>
      cases fl with
      | next => exact False.elim h
      | brk => exact False.elim h
      | cont => exact False.elim h
      | ret u =>
        obtain ⟨v, H', osA, barA, unA, hok', r', q⟩ := h
        have q' : v = .bl true := q
        subst q'
        obtain rfl : u = Value.bool
            true := r'
        have keyB : ∀ b o, b ∉ cs.map (·.2) → s₁.heap.get? b = some o → s'.heap.get? b = some o := fun b o nb e => by
          cases q : H b with
          | none => exact unA.keep b o e q (by intro z; exact absurd (show b ∈ ([] : List Addr) from z) (by simp)) (by simp)
          | some u =>
            rcases onlyH b with z | z | ⟨ob, xs, z⟩
            · rw [q] at z; cases z
            · exact absurd z nb
            · have z2 := unA.frzs b ob _ z
              obtain ⟨e1, _⟩ := okH b _ z
              obtain ⟨e2, _⟩ := hok' b _ z2
              rw [e] at e1; cases e1
              exact e2
        have grewT : ∀ p ∈ cs, ∃ more : Array Value, s'.heap.get? p.2 = some { cls := .none, data := .fields more } := fun p hp => by
          obtain ⟨more, z⟩ := unA.tbls p.2 #[] (tabH p hp)
          exact ⟨_, hok' p.2 _ z⟩
        refine ⟨rfl, ⟨fun b o e => ?_, fun b o e => ?_⟩, osA, barA⟩
        · by_cases nsB : b ∈ cs.map (·.2)
          · obtain ⟨p, hp, ep⟩ := List.mem_map.mp nsB
            obtain ⟨more, hm⟩ := grewT p hp
            rw [← ep] at e ⊢
            rw [tabE p hp] at e
            cases e
            exact .inr (.inl ⟨((C p hp).tab (tabE p hp)).isCodeTable, rfl, #[], more, rfl, by rw [Array.empty_append]; exact hm⟩)
          · exact .inl (keyB b o nsB e)
        · by_cases nsB : b ∈ cs.map (·.2)
          · obtain ⟨p, hp, ep⟩ := List.mem_map.mp nsB
            obtain ⟨more, hm⟩ := grewT p hp
            rw [← ep]
            exact ⟨_, hm⟩
          · exact ⟨o, keyB b o nsB e⟩
  cases hk : K.lookup a with
  | some o =>
    have e := kInS a o hk
    rw [lstA] at e
    cases e
    refine coreH (fun b => if b ∈ cs.map (·.2) then some (.tbl #[]) else none) (fun p hp => if_pos (memTab p hp)) (fun b => ?_) (.inr ⟨_, vs.toArray, _, hk, rfl, rfl, rfl, by rw [List.size_toArray, lenI]; exact lenA, by simpa using relA⟩) (fun b u z => ?_) (fun b z => ?_) fun z => absurd (show (if a ∈ cs.map (·.2) then some (HO.tbl #[]) else none) = none from if_neg aNot) z
    · by_cases nsB : b ∈ cs.map (·.2)
      · exact .inr (.inl nsB)
      · exact .inl (if_neg nsB)
    · by_cases nsB : b ∈ cs.map (·.2)
      · have z' := (if_pos nsB).symm.trans z
        cases z'
        exact isTab b nsB
      · have z' := (if_neg nsB).symm.trans z
        cases z'
    · by_cases nsB : b ∈ cs.map (·.2)
      · exact .inr nsB
      · exact absurd (if_neg nsB) z
  | none =>
    refine coreH (fun b => if b = a then some (.frz { cls := .type "list", data := .seq vs.toArray } (.lst (ns.map V.int))) else if b ∈ cs.map (·.2) then some (.tbl #[]) else none) (fun p hp => (if_neg (show ¬ p.2 = a from fun z => aNot (by rw [← z]; exact memTab p hp))).trans (if_pos (memTab p hp))) (fun b => ?_)
      (.inl (.inr ⟨{ cls := .type "list", data := .seq vs.toArray
          }, if_pos rfl⟩)) (fun b u z => ?_) (fun b z => ?_) fun _ => hk
    · by_cases nsB : b = a
      · exact .inr (.inr ⟨_, _, if_pos nsB⟩)
      · by_cases hb2
            : b ∈ cs.map (·.2)
        · exact .inr (.inl hb2)
        · exact .inl ((if_neg nsB).trans (if_neg hb2))
    · by_cases nsB : b = a
      · have z' := (if_pos nsB).symm.trans z
        cases z'
        rw [nsB]
        exact ⟨lstA, by rw [List.length_map]; exact lenA, vs, _, relA, lstA⟩
      · have z1 := (if_neg nsB).symm.trans z
        by_cases hb2 :
            b ∈ cs.map (·.2)
        · have z' := (if_pos
              hb2).symm.trans z1
          cases z'
          exact isTab b hb2
        · have z' := (if_neg
              hb2).symm.trans z1
          cases z'
    · by_cases nsB : b = a
      · exact .inl nsB
      · by_cases hb2
            : b ∈ cs.map (·.2)
        · exact .inr hb2
        · exact absurd ((if_neg nsB).trans (if_neg hb2)) z
end EnG

namespace EnG
open PySem PySem.Spec
open PyProof.Rows L2 LamX
/-- the defs of the top as the head leaves them -/
def TabsAt (q : Program) (mg : Str → Option Value) (h : Heap) : Prop := ∀ d ∈ recsOf q, ∃ a o fd c P, mg d.name = some (.ref a) ∧ h.get? a = some o ∧ o.data = .func fd ∧ fd.code = .ref c ∧ h.IsCode c P #[] ∧ h.TableAt c P #[]
structure LawG (l : PySem.W.OpenLaw) (w : World) (k n : Nat) (mg : Str → Option Value) (fa : Addr) (h : Heap) : Prop where
  ex : ∃ (K : PySem.W.Frag) (cs : List (Addr × Addr)) (sp : Sp), K.In h ∧ (∀ p ∈ cs, h.get? p.2 = some { cls := .none, data := .fields #[] }) ∧ (∀ p ∈ cs, K.lookup p.2 = none) ∧ (∀ p ∈ cs, PySem.W.CodeHd h p.1 p.2) ∧
    (∀ (H : Hp) (a : Addr) (ns : List Int), ns.length ≤ n → (∀ p ∈ cs, H p.2 = some (.tbl #[])) → SqL K H a (ns.map V.int) → sp [.ref a] H (fun v _ => v = .bl true) fun _ _ _ => False) ∧
    ∀ base : Heap, K.In base → base.Ns mainGlobals mg → (∀ p ∈ cs, TabB base mg p.1 p.2) → K1.FnG l.prog w K mg base CX0 k fa sp
theorem walk_G {l : PySem.W.OpenLaw} {n k : Nat} {q : Program} {loose : List Str} {XP : (Str → Option Value) → Heap → Prop} {YP : World → Heap → Prop} {d : DefRec}
    (hn : l.most = some n) (hn2 : n ≤ sizeLine)
        (hdf : d.params.defaults = []) (hr : Room k callerA)
    (F : ∀ (w : World) (mg : Str → Option Value) (fa : Addr) (h : Heap), YP w h → h.Ns mainGlobals mg → mg d.name = some (.ref fa) → TabsAt q mg h → LawG l w k n mg fa h) :
    PySem.W.WalkO q loose XP YP l.row.toRowW
        d [] (fun f vs => PySem.call f vs) := by
  refine Att.attach_callB hn hdf fun w s₀ s₁ mg mb fa o
      pm cd doc a vs ns G Y ho hd hcd hmg hobj hints hlen hbits hg => ?_
  obtain ⟨K, cs, sp, KX, hT, nT, C, hsp, hF⟩ := (F w mg fa _ Y G.T.g hmg G.T.tab).ex
  exact call_tabs KX G.T.g G.T.b G.T.builtins G.T.nolimit hg hT nT C G.T.bmain hobj hints (Nat.le_trans hlen hn2) hr hF (fun H hH hS => hsp H a ns hlen hH hS)
/-- the table of a def's code object -/
theorem tab_of {K : PySem.W.Frag} {q : Program} {mg : Str → Option Value} {h : Heap} {f c P : Addr} {x : Str} {o : Obj} {fd : FuncData} {ec : Value} {dc : Option Addr} {vc : Array Value} {slc : Array (Option Value)} (KX : K.In h) (T : TabsAt q mg h) (hrec : ((recsOf q).any fun e => e.name == x) = true)
    (hx : mg x = some (.ref f)) (lk : K.lookup f = some o) (hd : o.data = .func fd) (hc : fd.code = .ref c) (lc : K.lookup c = some ⟨ec, dc, .fields vc, slc⟩) (h11 : vc[11]? = some (.ref P)) :
    h.get? P = some { cls := .none, data := .fields #[] } ∧ PySem.W.CodeHd h c P := by
  obtain ⟨d, hm, hn⟩ := List.any_eq_true.mp hrec
  have hn : d.name = x := beq_iff_eq.mp hn
  obtain ⟨a', o', fd', c', P', h1, h2, h3, h4, h5, h6⟩ := T d hm
  rw [hn, hx] at h1
  cases h1
  have g1 := KX _ _ lk
  rw [g1] at h2
  cases h2
  rw [hd] at h3
  cases h3
  rw [hc] at h4
  cases h4
  have h6' := h6
  obtain ⟨⟨oc, us, e1, _, e3, e4⟩, hP⟩ := h6
  have g2 := KX _ _ lc
  rw [g2] at e1
  cases e1
  cases e3
  rw [h11] at e4
  cases e4
  exact ⟨hP, PySem.W.CodeHd.of h5 h6'⟩
end EnG

namespace K1
open PySem PySem.Spec
open PyProof.Rows L2 EnT StX SmX TxS DuX XdI Tr3 CnB ClX
section
variable {K : PySem.W.Frag}
/-- a def where it stands -/
structure DefR (K : PySem.W.Frag) (x qual : Str) (st : Stmt) (f : Addr) : Prop where
  ex : ∃ (oc : Value) (od : Option Addr) (kV doc pm : Value) (an : Option Addr) (cdv ct : Value) (osl : Array (Option Value)), K.lookup f = some ⟨oc, od, .func (PySem.W.fnOf x qual (defArgs st) (defBody st) (defScope st) .none kV doc pm an cdv ct), osl⟩ ∧ PySem.W.codeIn K cdv qual = true
  kp : PySem.W.keepIn
      K (.ref f) = true
theorem DefR.fun_ {x qual : Str} {st : Stmt} {f : Addr} (d : DefR K x qual st f) : ∃ fd, Fun K x qual st f fd := by
  obtain ⟨oc, od, kV, doc, pm, an, cdv, ct, osl, l, c⟩ := d.ex
  exact ⟨_, fun_mk l c d.kp⟩
/-- a def of the top -/
def GloD (K : PySem.W.Frag) (x : Str) (st : Stmt) : Prop := ∃ f, PySem.W.nsIn K mainGlobals x = some (some (.ref f)) ∧ DefR K x x st f
theorem gloD_mk {x : Str} {st : Stmt} {f : Addr} {oc kV doc pm cdv ct : Value} {od an : Option Addr} {osl : Array (Option Value)} (a : PySem.W.nsIn K mainGlobals x = some (some (.ref f)))
    (l : K.lookup f = some ⟨oc, od, .func (PySem.W.fnOf x x (defArgs st) (defBody st) (defScope st) .none kV doc pm an cdv ct), osl⟩) (c : PySem.W.codeIn K cdv x = true) (k : PySem.W.keepIn K (.ref f) = true) : GloD K x st := ⟨f, a, ⟨oc, od, kV, doc, pm, an, cdv, ct, osl, l, c⟩, k⟩
/-- a method of
    the class at C -/
def MethD (K : PySem.W.Frag) (C : Addr) (x qual : Str) (st : Stmt) : Prop := ∃ f, PySem.W.findIn K (.ref C) x = some (some (.ref f)) ∧ PySem.W.isFn K (.ref f) = true ∧ DefR K x qual st f
theorem methD_mk {C : Addr} {x qual : Str} {st : Stmt} {f : Addr} {oc kV doc pm cdv ct : Value} {od an : Option Addr} {osl : Array (Option Value)} (a : PySem.W.findIn K (.ref C) x = some (some (.ref f))) (i : PySem.W.isFn K (.ref f) = true)
    (l : K.lookup f = some ⟨oc, od, .func (PySem.W.fnOf x qual (defArgs st) (defBody st) (defScope st) .none kV doc pm an cdv ct), osl⟩) (c : PySem.W.codeIn K cdv qual = true) (k : PySem.W.keepIn K (.ref f) = true) : MethD K C x qual st := ⟨f, a, i, ⟨oc, od, kV, doc, pm, an, cdv, ct, osl, l, c⟩, k⟩
/-- a property -/
def PropD (K : PySem.W.Frag) (C : Addr) (x qual : Str) (st : Stmt) : Prop := ∃ p g, PropOf K C x p g ∧ DefR K x qual st g
theorem propD_mk {C : Addr} {x qual : Str} {st : Stmt} {p f : Addr} {rest : List Value} {oc kV doc pm cdv ct : Value} {od an : Option Addr} {osl : Array (Option Value)} (a : PySem.W.findIn K (.ref C) x = some (some (.ref p))) (g : PySem.W.specialIn K (.ref p) "__get__" = some (some (.builtin "property.__get__")))
    (t : PySem.W.takesIn K (.ref p) = some true) (r : PySem.W.recIn K p "property" = some (.ref f :: rest))
    (l : K.lookup f = some ⟨oc, od, .func (PySem.W.fnOf x qual (defArgs st) (defBody st) (defScope st) .none kV doc pm an cdv ct), osl⟩) (c : PySem.W.codeIn K cdv qual = true) (k : PySem.W.keepIn K (.ref f) = true) : PropD K C x qual st := ⟨p, f, ⟨a, g, t, rest, r⟩, ⟨oc, od, kV, doc, pm, an, cdv, ct, osl, l, c⟩, k⟩
/-- a static method -/
def StatD (K : PySem.W.Frag) (C : Addr) (mc : Value) (x qual : Str) (st : Stmt) : Prop := ∃ p g, SMet K C mc x p g ∧ DefR K x qual st g
theorem statD_mk {C : Addr} {mc : Value} {x qual : Str} {st : Stmt} {p f : Addr} {rest : List Value} {oc kV doc pm cdv ct : Value} {od an : Option Addr} {osl : Array (Option Value)} (a : PySem.W.findCls K (.ref C) mc x = some (.get (.builtin "staticmethod.__get__") (.ref p) .none (.ref C)))
    (r : PySem.W.recIn K p "staticmethod" = some (.ref f :: rest))
    (l : K.lookup f = some ⟨oc, od, .func (PySem.W.fnOf x qual (defArgs st) (defBody st) (defScope st) .none kV doc pm an cdv ct), osl⟩) (c : PySem.W.codeIn K cdv qual = true) (k : PySem.W.keepIn K (.ref f) = true) : StatD K C mc x qual st := ⟨p, f, ⟨a, ⟨rest, r⟩, k⟩, ⟨oc, od, kV, doc, pm, an, cdv, ct, osl, l, c⟩, k⟩
/-- an error's class -/
structure ErrD (K : PySem.W.Frag) (x fld qual : Str) (st : Stmt) (D S1 S2 S3 : Addr) : Prop where
  g : PySem.W.nsIn K mainGlobals x = some (some (.ref D))
  ox : OexC K D
  no : PySem.W.findIn K (.ref D) fld = some none
  ini : ∃ f, PySem.W.findIn K (.ref D) "__init__" = some (some (.ref f)) ∧ PySem.W.typeIn K (.ref f) = some (.type "function") ∧ DefR K "__init__" qual st f
  xc : ExcC K D
  xf : XfC K D
  k1 : PySem.W.kitOne K (.ref D) (.ref S1) = some true
  k2 : PySem.W.kitOne K (.ref D) (.ref S2) = some false
  k3 : PySem.W.kitOne K (.ref D) (.ref S3) = some false
  kV : PySem.W.kitOne K (.ref D) (.type "ValueError") = some true
  kL : PySem.W.kitOne K (.ref D) (.type "LookupError") = some false
  kA : PySem.W.kitOne K (.ref D) (.type "ArithmeticError") = some false
  kx : PySem.W.exmAny K (.ref D) [.ref S1, .ref S2, .ref S3] = some true
theorem errD_mk {x fld qual : Str} {st : Stmt} {D S1 S2 S3 f : Addr} {oc kV doc pm cdv ct : Value} {od an : Option Addr} {osl : Array (Option Value)} {oD : Obj} (g : PySem.W.nsIn K mainGlobals x = some (some (.ref D)))
    (lD : K.lookup D = some oD) (sh : ∃ nm q N bs bm sn sub ab col dd k0 k1 k2 k3 k5, oD = PySem.excClassObj nm q D N bs bm true sn sub ab col dd k0 k1 k2 k3 k5 "ValueError.__new__" ∧ PySem.HandSPX.refsVE bm = true)
    (sa : PySem.W.findIn K (.ref D) "__setattr__" = some (some (.builtin "object.__setattr__"))) (exC : PySem.W.subIn K (.ref D) (.type "BaseException") = some true) (tyC : PySem.W.typeIn K (.ref D) = some (.type "type")) (kC : PySem.W.keepIn K (.ref D) = true)
    (no : PySem.W.findIn K (.ref D) fld = some none) (a : PySem.W.findIn K (.ref D) "__init__" = some (some (.ref f))) (ty : PySem.W.typeIn K (.ref f) = some (.type "function"))
    (l : K.lookup f = some ⟨oc, od, .func (PySem.W.fnOf "__init__" qual (defArgs st) (defBody st) (defScope st) .none kV doc pm an cdv ct), osl⟩) (c : PySem.W.codeIn K cdv qual = true) (k : PySem.W.keepIn K (.ref f) = true)
    (hg : PySem.W.findIn K (.ref D) "__getattribute__" = some (some (.builtin "BaseException.__getattribute__"))) (hk : PySem.W.findIn K (.ref D) "__getattr__" = some none) (hd : PySem.W.hasDictIn K D = true)
    (ha : PySem.W.findIn K (.ref D) "__class__" = some (some (.builtin "object.__class__"))) (hn : PySem.W.specialIn K (.builtin "object.__class__") "__get__" = some (some (.builtin "getset_descriptor.__get__"))) (ht : PySem.W.takesIn K (.builtin "object.__class__") = some true) (hm : PySem.W.mroIn K D (.type "object") = some true)
    (k1 : PySem.W.kitOne K (.ref D) (.ref S1) = some true) (k2 : PySem.W.kitOne K (.ref D) (.ref S2) = some false) (k3 : PySem.W.kitOne K (.ref D) (.ref S3) = some false) (kV' : PySem.W.kitOne K (.ref D) (.type "ValueError") = some true) (kL : PySem.W.kitOne K (.ref D) (.type "LookupError") = some false) (kA : PySem.W.kitOne K (.ref D) (.type "ArithmeticError") = some false)
    (kx : PySem.W.exmAny K (.ref D) [.ref S1, .ref S2, .ref S3] = some true) : ErrD K x fld qual st D S1 S2 S3 := by
  refine ⟨g, ⟨?_, sa, exC, tyC, kC⟩, no, ⟨f, a, ty, ⟨oc, od, kV, doc, pm, an, cdv, ct, osl, l, c⟩, k⟩, ⟨hg, hk, exC, hd, ha, hn, ht, hm⟩, ⟨hg, hk, exC, hd⟩, k1, k2, k3, kV', kL, kA, kx⟩
  obtain ⟨nm, q, N, bs, bm, sn, sub, ab, col, dd, k0, k1', k2', k3', k5, e, r⟩ := sh
  exact ⟨nm, q, N, bs, bm, sn, sub, ab, col, dd, k0, k1', k2', k3', k5, by rw [lD, e], r⟩
/-- the class Members -/
structure MemD (K : PySem.W.Frag) (C : Addr) : Prop where
  g : PySem.W.nsIn K mainGlobals "Members" = some (some (.ref C))
  cl : Cls K C
  nN : PySem.W.findIn K (.ref C) "_names" = some none
  nT : PySem.W.findIn K (.ref C) "_table" = some none
  mk' : PySem.W.makesIn K C = true
  kC : PySem.W.keepIn
      K (.ref C) = true
  is : MemIs K C
  ne : NeM K C
  nb : PySem.W.findIn K (.ref C) "__bool__" = some none
  cr : CRead K C (.type "type")
theorem memD_mk {C : Addr} (g : PySem.W.nsIn K mainGlobals "Members" = some (some (.ref C))) (pg : PySem.W.plainGet K C Str.empty = true) (hd : PySem.W.hasDictIn K C = true) (po : PySem.W.plainOver K C = true) (sa : PySem.W.findIn K (.ref C) "__setattr__" = some (some (.builtin "object.__setattr__")))
    (nN : PySem.W.findIn K (.ref C) "_names" = some none) (nT : PySem.W.findIn K (.ref C) "_table" = some none) (mk' : PySem.W.makesIn K C = true) (kC : PySem.W.keepIn K (.ref C) = true)
    (ha : PySem.W.findIn K (.ref C) "__class__" = some (some (.builtin "object.__class__"))) (hn : PySem.W.specialIn K (.builtin "object.__class__") "__get__" = some (some (.builtin "getset_descriptor.__get__"))) (ht : PySem.W.takesIn K (.builtin "object.__class__") = some true) (hm : PySem.W.mroIn K C (.type "object") = some true)
    (yes : PySem.W.kitOne K (.ref C) (.ref C) = some true) (o1 : PySem.W.kitOne K (.type "NoneType") (.ref C) = some false) (o2 : PySem.W.kitOne K (.type "bool") (.ref C) = some false) (o3 : PySem.W.kitOne K (.type "int") (.ref C) = some false) (o4 : PySem.W.kitOne K (.type "str") (.ref C) = some false) (o5 : PySem.W.kitOne K (.type "list") (.ref C) = some false) (o6 : PySem.W.kitOne K (.type "tuple") (.ref C) = some false) (o7 : PySem.W.kitOne K (.type "dict") (.ref C) = some false)
    (f1 : PySem.W.notFirst K C (.type "NoneType") = true) (f2 : PySem.W.notFirst K C (.type "bool") = true) (f3 : PySem.W.notFirst K C (.type "int") = true) (f4 : PySem.W.notFirst K C (.type "str") = true) (f5 : PySem.W.notFirst K C (.type "list") = true) (f6 : PySem.W.notFirst K C (.type "tuple") = true) (f7 : PySem.W.notFirst K C (.type "dict") = true) (fC : PySem.W.notFirst K C (.ref C) = true)
    (ne : PySem.W.findIn K (.ref C) "__ne__" = some (some (.builtin "object.__ne__"))) (nb : PySem.W.findIn K (.ref C) "__bool__" = some none) (rd : PySem.W.readsIn K C (.type "type") = true) (ga : PySem.W.specialIn K (.ref C) "__getattribute__" = some (some (.builtin "type.__getattribute__"))) : MemD K C := by
  refine ⟨g, ⟨pg, hd, po, sa⟩, nN, nT, mk', kC, ⟨ha, hn, ht, hm, yes, fun t h => ?_, fun t h => ?_, fC⟩, ⟨ne, hm⟩, nb, ⟨rd, ga⟩⟩
  · simp only [baseTys, List.mem_cons, List.not_mem_nil, or_false] at h
    rcases h with rfl | rfl | rfl | rfl | rfl | rfl | rfl
    · exact o1
    · exact o2
    · exact o3
    · exact o4
    · exact o5
    · exact o6
    · exact o7
  · simp only [baseTys, List.mem_cons, List.not_mem_nil, or_false] at h
    rcases h with rfl | rfl | rfl | rfl | rfl | rfl | rfl
    · exact f1
    · exact f2
    · exact f3
    · exact f4
    · exact f5
    · exact f6
    · exact f7
end
/-- a class with fields -/
structure ClsD (K : PySem.W.Frag) (x : Str) (C : Addr) : Prop where
  g : PySem.W.nsIn K mainGlobals x = some (some (.ref C))
  cl : Cls K C
  mk' : PySem.W.makesIn K C = true
  kC : PySem.W.keepIn K (.ref C) = true
  is : IsC K C
  ne : NeM K C
  cr : CRead K C (.type "type")
  nf : PySem.W.notFirst K C (.ref C) = true
  nB : ∀ t ∈ baseTys, PySem.W.notFirst K C (.type t) = true
theorem clsD_mk {K : PySem.W.Frag} {x : Str} {C : Addr} (g : PySem.W.nsIn K mainGlobals x = some (some (.ref C))) (hd : PySem.W.hasDictIn K C = true) (pg : PySem.W.plainGet K C Str.empty = true) (sa : PySem.W.findIn K (.ref C) "__setattr__" = some (some (.builtin "object.__setattr__"))) (po : PySem.W.plainOver K C = true)
    (kC : PySem.W.keepIn K (.ref C) = true) (mk' : PySem.W.makesIn K C = true)
    (hm : PySem.W.mroIn K C (.type "object") = some true) (ht : PySem.W.takesIn K (.builtin "object.__class__") = some true) (hn : PySem.W.specialIn K (.builtin "object.__class__") "__get__" = some (some (.builtin "getset_descriptor.__get__"))) (ha : PySem.W.findIn K (.ref C) "__class__" = some (some (.builtin "object.__class__")))
    (yes : PySem.W.kitOne K (.ref C) (.ref C) = some true) (o1 : PySem.W.kitOne K (.type "NoneType") (.ref C) = some false) (o2 : PySem.W.kitOne K (.type "bool") (.ref C) = some false) (o3 : PySem.W.kitOne K (.type "int") (.ref C) = some false) (o4 : PySem.W.kitOne K (.type "str") (.ref C) = some false) (o5 : PySem.W.kitOne K (.type "list") (.ref C) = some false) (o6 : PySem.W.kitOne K (.type "tuple") (.ref C) = some false) (o7 : PySem.W.kitOne K (.type "dict") (.ref C) = some false)
    (f1 : PySem.W.notFirst K C (.type "NoneType") = true) (f2 : PySem.W.notFirst K C (.type "bool") = true) (f3 : PySem.W.notFirst K C (.type "int") = true) (f4 : PySem.W.notFirst K C (.type "str") = true) (f5 : PySem.W.notFirst K C (.type "list") = true) (f6 : PySem.W.notFirst K C (.type "tuple") = true) (f7 : PySem.W.notFirst K C (.type "dict") = true) (fC : PySem.W.notFirst K C (.ref C) = true)
    (ne : PySem.W.findIn K (.ref C) "__ne__" = some (some (.builtin "object.__ne__"))) (rd : PySem.W.readsIn K C (.type "type") = true) (ga : PySem.W.specialIn K (.ref C) "__getattribute__" = some (some (.builtin "type.__getattribute__"))) : ClsD K x C := by
  refine ⟨g, ⟨pg, hd, po, sa⟩, mk', kC, ⟨yes, fun t h => ?_, hm, ht, hn, ha⟩, ⟨ne, hm⟩, ⟨rd, ga⟩, fC, fun t h => ?_⟩
  · simp only [baseTys, List.mem_cons, List.not_mem_nil, or_false] at h
    rcases h with rfl | rfl | rfl | rfl | rfl | rfl | rfl
    · exact o1
    · exact o2
    · exact o3
    · exact o4
    · exact o5
    · exact o6
    · exact o7
  · simp only [baseTys, List.mem_cons, List.not_mem_nil, or_false] at h
    rcases h with rfl | rfl | rfl | rfl | rfl | rfl | rfl
    · exact f1
    · exact f2
    · exact f3
    · exact f4
    · exact f5
    · exact f6
    · exact f7
/-- the def at f, its code object at c -/
structure CodD (K : PySem.W.Frag) (x : Str) (st : Stmt) (f c : Addr) : Prop where
  g : PySem.W.nsIn K mainGlobals x = some (some (.ref f))
  fn : FunC K x x st f c
  kp : PySem.W.keepIn K (.ref f) = true
theorem codD_mk {K : PySem.W.Frag} {x : Str} {st : Stmt} {f c : Addr} {oc kV doc pm ct : Value} {od an : Option Addr} {osl : Array (Option Value)} (a : PySem.W.nsIn K mainGlobals x = some (some (.ref f)))
    (l : K.lookup f = some ⟨oc, od, .func (PySem.W.fnOf x x (defArgs st) (defBody st) (defScope st) .none kV doc pm an (.ref c) ct), osl⟩) (cc : PySem.W.codeIn K (.ref c) x = true) (k : PySem.W.keepIn K (.ref f) = true) : CodD K x st f c :=
  ⟨a, ⟨oc, od, kV, doc, pm, an, ct, osl, l, cc⟩, k⟩
theorem raw_2 {P : Program} {w : World} {K : PySem.W.Frag} {mg : Str → Option Value} {base : Heap} {CX : CXT} {k : Nat} {f : Addr} {fd : FuncData} {ps : List Str} {sp : Sp} (B : L2.Binds K fd ps []) (G : FnOk P w K mg base CX k f fd ps sp) : FnR P w K mg base CX k f sp :=
  (G.raw B .nil).imp fun vs H Q E h => by rw [List.append_nil]; exact h
/-- the def at f, its code object at c, the table at P -/
structure CodeD (K : PySem.W.Frag) (x : Str) (st : Stmt) (f c P : Addr) : Prop where
  g : PySem.W.nsIn K mainGlobals x = some (some (.ref f))
  fn : FunC K x x st f c
  kp : PySem.W.keepIn
      K (.ref f) = true
  cd : ∃ ec dc vc slc, K.lookup c = some ⟨ec, dc, .fields vc, slc⟩ ∧ vc[11]? = some (.ref P)
  no : K.lookup P = none
theorem codeD_mk {K : PySem.W.Frag} {x : Str} {st : Stmt} {f c P : Addr} {oc kV doc pm ct ec : Value} {od an dc : Option Addr} {osl slc : Array (Option Value)} {vc : Array Value} (a : PySem.W.nsIn K mainGlobals x = some (some (.ref f)))
    (l : K.lookup f = some ⟨oc, od, .func (PySem.W.fnOf x x (defArgs st) (defBody st) (defScope st) .none kV doc pm an (.ref c) ct), osl⟩) (cc : PySem.W.codeIn K (.ref c) x = true) (k : PySem.W.keepIn K (.ref f) = true)
    (lc : K.lookup c = some ⟨ec, dc, .fields vc, slc⟩) (h : vc[11]? = some (.ref P)) (no : K.lookup P = none) : CodeD K x st f c P :=
  ⟨a, ⟨oc, od, kV, doc, pm, an, ct, osl, l, cc⟩, k, ⟨ec, dc, vc, slc, lc, h⟩, no⟩
/-- a method with one default by keyword -/
def MethK (K : PySem.W.Frag) (C : Addr) (x qual : Str) (st : Stmt) (k : Str) (v : V) : Prop := ∃ (f : Addr) (fd : FuncData), Meth K C x f ∧ FunD K x qual (defArgs st) (defBody st) (defScope st) [] [(k, v)] f fd
theorem methK_mk {K : PySem.W.Frag} {C : Addr} {x qual k : Str} {st : Stmt} {v : V} {f D : Addr} {u oc doc pm cdv ct : Value} {od an : Option Addr} {osl : Array (Option Value)} (m : Meth K C x f)
    (l : K.lookup f = some ⟨oc, od, .func (PySem.W.fnOf x qual (defArgs st) (defBody st) (defScope st) .none (.ref D) doc pm an cdv ct), osl⟩) (c : PySem.W.codeIn K cdv qual = true) (kp : PySem.W.keepIn K (.ref f) = true) (n : PySem.W.nsIn K D k = some (some u)) (r : RelV v u) : MethK K C x qual st k v :=
  ⟨f, _, m, ⟨oc, od, .none, .ref D, doc, pm, an, cdv, ct, osl, rfl, l, c, .inl ⟨rfl, rfl⟩, .inr ⟨D, rfl, fun q hq => by
    rw [List.mem_singleton.mp hq]
    exact ⟨u, n, r⟩⟩⟩, kp⟩
end K1

namespace K1
open PySem PySem.Spec
open PyProof.Rows L2 L2H EnT StX SmX TxS DuX XdI Tr3 CnB ClX
/-! ### what is known of the program's objects -/
abbrev frees : List Str := ["len", "int", "abs", "range", "list", "str", "set", "sorted", "tuple", "isinstance", "enumerate", "repr", "bool", "any", "all", "max", "min"]
/-- the tuple of the signs -/
def SgD (K : PySem.W.Frag) (aS : Addr) : Prop := PySem.W.nsIn K mainGlobals "SIGNS" = some (some (.ref aS)) ∧ ∃ (dd : Option Addr) (t1 t2 t3 t4 : Tok) (n : Nat) (sl : Array (Option Value)), K.lookup aS = some ⟨.type "tuple", dd, .seq #[.str "|" t1, .str "&" t2, .str "-" t3, .str "^" t4] n, sl⟩
theorem sgD_mk {K : PySem.W.Frag} {aS : Addr} {dd : Option Addr} {t1 t2 t3 t4 : Tok} {n : Nat} {sl : Array (Option Value)} (a : PySem.W.nsIn K mainGlobals "SIGNS" = some (some (.ref aS))) (l : K.lookup aS = some ⟨.type "tuple", dd, .seq #[.str "|" t1, .str "&" t2, .str "-" t3, .str "^" t4] n, sl⟩) : SgD K aS := ⟨a, dd, t1, t2, t3, t4, n, sl, l⟩
/-- the tuple of the sorts -/
def SrD (K : PySem.W.Frag) (aT : Addr) : Prop := PySem.W.nsIn K mainGlobals "SORTS" = some (some (.ref aT)) ∧ ∃ (dd : Option Addr) (t1 t2 t3 : Tok) (n : Nat) (sl : Array (Option Value)), K.lookup aT = some ⟨.type "tuple", dd, .seq #[.str "one" t1, .str "many" t2, .str "none" t3] n, sl⟩
theorem srD_mk {K : PySem.W.Frag} {aT : Addr} {dd : Option Addr} {t1 t2 t3 : Tok} {n : Nat} {sl : Array (Option Value)} (a : PySem.W.nsIn K mainGlobals "SORTS" = some (some (.ref aT))) (l : K.lookup aT = some ⟨.type "tuple", dd, .seq #[.str "one" t1, .str "many" t2, .str "none" t3] n, sl⟩) : SrD K aT := ⟨a, dd, t1, t2, t3, n, sl, l⟩
structure RawE (K : PySem.W.Frag) (CE aS : Addr) : Prop where
  exp : ClsD K "Expression" CE
  n1 : PySem.W.findIn K (.ref CE) "_form" = some none
  n2 : PySem.W.findIn K (.ref CE) "_leaves" = some none
  n3 : PySem.W.findIn K (.ref CE) "_depth" = some none
  n4 : PySem.W.findIn K (.ref CE) "_fields" = some none
  n5 : PySem.W.findIn K (.ref CE) "_has_given" = some none
  ini : MethD K CE "__init__" "Expression.__init__" sInitE
  g1 : GloD K "is_name" sIsName
  g2 : GloD K "is_field" sIsField
  g3 : GloD K "form_size" sSize
  g4 : GloD K "is_triple" sTriple
  g5 : GloD K "check_leaves" sChkL
  g6 : GloD K "check_depth" sChkD
  g12 : GloD K "form_leaves" sLeavesF
  g13 : GloD K "form_fields" sFieldsF
  sg : SgD K aS
  c1 : ∃ t, PySem.W.nsIn K mainGlobals "LONGEST_NAME" = some (some (.int 8 t))
  c2 : ∃ t, PySem.W.nsIn K mainGlobals "GIVEN" = some (some (.str tGiven t))
  c3 : ∃ t, PySem.W.nsIn K mainGlobals "NONE" = some (some (.str tNone t))
  c4 : ∃ t, PySem.W.nsIn K mainGlobals "MOST_LEAVES" = some (some (.int 200 t))
  c5 : ∃ t, PySem.W.nsIn K mainGlobals "MOST_DEPTH" = some (some (.int 20 t))
structure RawD (K : PySem.W.Frag) (C aT : Addr) : Prop where
  des : ClsD K "Design" C
  n0 : PySem.W.findIn K (.ref C) "_parts" = some none
  n1 : PySem.W.findIn K (.ref C) "_fields" = some none
  n2 : PySem.W.findIn K (.ref C) "_modes" = some none
  n3 : PySem.W.findIn K (.ref C) "_calls" = some none
  n4 : PySem.W.findIn K (.ref C) "_views" = some none
  n5 : PySem.W.findIn K (.ref C) "_names" = some none
  n6 : PySem.W.findIn K (.ref C) "_view_names" = some none
  n7 : PySem.W.findIn K (.ref C) "_cases" = some none
  n8 : PySem.W.findIn K (.ref C) "_shown" = some none
  ini : MethD K C "__init__" "Design.__init__" sInitD
  pF : PropD K C "fields" "Design.fields" sFieldsD
  pM : PropD K C "modes" "Design.modes" sModesD
  pN : PropD K C "names" "Design.names" sNamesD
  pV : PropD K C "view_names" "Design.view_names" sViewsD
  h1 : GloD K "check_fields" sChkFi
  h2 : GloD K "check_modes" sChkMo
  h3 : GloD K "check_calls" sChkCa
  h4 : GloD K "check_views" sChkVi
  ic : GloD K "is_call" sIsCall
  iv : GloD K "is_view" sIsView
  fo : GloD K "is_form_of" sFormOf
  tp : GloD K "is_tuple_of" sTupOf
  wr : GloD K "wrong_or_twice_at" sWrong2
  sr : SrD K aT
  k1 : ∃ t, PySem.W.nsIn K mainGlobals "MOST_FIELDS" = some (some (.int 4 t))
  k2 : ∃ t, PySem.W.nsIn K mainGlobals "MOST_MODES" = some (some (.int 4 t))
  k3 : ∃ t, PySem.W.nsIn K mainGlobals "MOST_CALLS" = some (some (.int 8 t))
  k4 : ∃ t, PySem.W.nsIn K mainGlobals "MOST_VIEWS" = some (some (.int 4 t))
  zip : PySem.W.nsIn K mainGlobals "zip" = some none
structure RawR (K : PySem.W.Frag) (CF CM CC CV S1 S2 S3 : Addr) : Prop where
  s1 : PySem.W.nsIn K mainGlobals "SetError" = some (some (.ref S1))
  s2 : PySem.W.nsIn K mainGlobals "StateError" = some (some (.ref S2))
  s3 : PySem.W.nsIn K mainGlobals "LimitError" = some (some (.ref S3))
  eFi : ErrD K "InvalidFields" "index" "InvalidFields.__init__" s_InvalidFields___init__ CF S1 S2 S3
  eMo : ErrD K "InvalidModes" "index" "InvalidModes.__init__" s_InvalidModes___init__ CM S1 S2 S3
  eCa : ErrD K "InvalidCalls" "index" "InvalidCalls.__init__" s_InvalidCalls___init__ CC S1 S2 S3
  eVi : ErrD K "InvalidViews" "index" "InvalidViews.__init__" s_InvalidViews___init__ CV S1 S2 S3
  q11 : PySem.W.kitOne K (.ref CF) (.ref CF) = some true
  q12 : PySem.W.kitOne K (.ref CF) (.ref CM) = some false
  q13 : PySem.W.kitOne K (.ref CF) (.ref CC) = some false
  q14 : PySem.W.kitOne K (.ref CF) (.ref CV) = some false
  q21 : PySem.W.kitOne K (.ref CM) (.ref CF) = some false
  q22 : PySem.W.kitOne K (.ref CM) (.ref CM) = some true
  q23 : PySem.W.kitOne K (.ref CM) (.ref CC) = some false
  q24 : PySem.W.kitOne K (.ref CM) (.ref CV) = some false
  q31 : PySem.W.kitOne K (.ref CC) (.ref CF) = some false
  q32 : PySem.W.kitOne K (.ref CC) (.ref CM) = some false
  q33 : PySem.W.kitOne K (.ref CC) (.ref CC) = some true
  q34 : PySem.W.kitOne K (.ref CC) (.ref CV) = some false
  q41 : PySem.W.kitOne K (.ref CV) (.ref CF) = some false
  q42 : PySem.W.kitOne K (.ref CV) (.ref CM) = some false
  q43 : PySem.W.kitOne K (.ref CV) (.ref CC) = some false
  q44 : PySem.W.kitOne K (.ref CV) (.ref CV) = some true
  fV : PySem.W.nsIn K mainGlobals "ValueError" = some none
  fL : PySem.W.nsIn K mainGlobals "LookupError" = some none
  fA : PySem.W.nsIn K mainGlobals "ArithmeticError" = some none
structure RawL (K : PySem.W.Frag) : Prop where
  nm : GloD K "_law_names" sNames
  dr : GloD K "_law_draw" sDraw
  be : GloD K "_law_bent" sBent
  ce : GloD K "_law_cell" sCell
  po : GloD K "_law_pool" sPool
  ca : GloD K "_law_caught" sCaught
  free : ∀ x ∈ frees, PySem.W.nsIn K mainGlobals x = some none
theorem ErrD.errF {K : PySem.W.Frag} {x fld qual : Str} {st : Stmt} {D S1 S2 S3 : Addr} (e : ErrD K x fld qual st D S1 S2 S3) : ErrF K S1 S2 S3 D 0 := ⟨e.xc, e.k1, e.k2, e.k3, e.kV, e.kL, e.kA, e.kx, e.xf⟩
theorem free_of {h : Heap} {K : PySem.W.Frag} {mg : Str → Option Value} (R : RawL K) (X : K.In h) (G : h.Ns mainGlobals mg) : Free mg := by
  have z : ∀ x ∈ frees, mg x = none := fun x hx => PySem.W.mg_none_of X G (R.free x hx)
  exact ⟨z _ (by simp), z _ (by simp), z _ (by simp), z _ (by simp), z _ (by simp), z _ (by simp), z _ (by simp), z _ (by simp), z _ (by simp), z _ (by simp), z _ (by simp), z _ (by simp), z _ (by simp), z _ (by simp), z _ (by simp), z _ (by simp), z _ (by simp)⟩
section
variable {w : World} {P : Program} {base : Heap} {mg : Str → Option Value} {K : PySem.W.Frag} {C CE CF CM CC CV S1 S2 S3 aS aT : Addr} {h : Heap}
theorem hasX_of {CX : CXT} {k : Nat} {x : Str} {st : Stmt} {ps : List Str} {sp : Sp} (d : GloD K x st) (X : K.In h) (G : h.Ns mainGlobals mg) (B : ∀ f fd, Fun K x x st f fd → L2.Binds K fd ps []) (ok : ∀ f fd, mg x = some (.ref f) → Fun K x x st f fd → FnOk P w K mg base CX k f fd ps sp) : ∃ f, Has P w K mg base CX k x f ps sp := by
  obtain ⟨f, a, d⟩ := d
  obtain ⟨fd, F⟩ := d.fun_
  have m := PySem.W.mg_of X G a
  exact ⟨f, m, F.kp, fd, ok f fd m F, B f fd F⟩
theorem pp_of {D : Addr} {x y qual : Str} {st : Stmt} (c : Cls K D) (d : PropD K D x qual st) (B : ∀ f fd, Fun K x qual st f fd → L2.Binds K fd ["self"] []) (ok : ∀ f fd, Fun K x qual st f fd → FnOk P w K mg base CX0 1 f fd ["self"] (getSp D y)) : Pp P w K mg base D x y := by
  obtain ⟨p, g, pr, d⟩ := d
  obtain ⟨fd, F⟩ := d.fun_
  exact ⟨c, p, g, fd, pr, ok g fd F, B g fd F⟩
theorem errK_of (R : RawR K CF CM CC CV S1 S2 S3) (X : K.In h) (G : h.Ns mainGlobals mg) : ErrK K mg S1 S2 S3 CF CM CC CV :=
  ⟨PySem.W.mg_of X G R.s1, PySem.W.mg_of X G R.s2, PySem.W.mg_of X G R.s3, PySem.W.mg_none_of X G R.fV, PySem.W.mg_none_of X G R.fL, PySem.W.mg_none_of X G R.fA,
    PySem.W.mg_of X G R.eFi.g, R.eFi.errF, R.eFi.no, R.q11, R.q12, R.q13, R.q14,
    PySem.W.mg_of X G R.eMo.g, R.eMo.errF, R.eMo.no, R.q21, R.q22, R.q23, R.q24,
    PySem.W.mg_of X G R.eCa.g, R.eCa.errF, R.eCa.no, R.q31, R.q32, R.q33, R.q34,
    PySem.W.mg_of X G R.eVi.g, R.eVi.errF, R.eVi.no, R.q41, R.q42, R.q43, R.q44⟩
theorem wr_of (T : Free mg) (RE : RawE K CE aS) (RD : RawD K C aT) (RR : RawR K CF CM CC CV S1 S2 S3) (X : K.In h) (G : h.Ns mainGlobals mg) : WR P w K mg base C CF CM CC CV S1 S2 S3 := by
  obtain ⟨a, dd, t1, t2, t3, t4, n, sl, l⟩ := RE.sg
  obtain ⟨b, dd', r1, r2, r3, n', sl', l'⟩ := RD.sr
  obtain ⟨tL, lL⟩ := RE.c1
  obtain ⟨u2, e2⟩ := RE.c2
  obtain ⟨u3, e3⟩ := RE.c3
  obtain ⟨u4, e4⟩ := RE.c4
  obtain ⟨u5, e5⟩ := RE.c5
  obtain ⟨m1, lm1⟩ := RD.k1
  obtain ⟨m2, lm2⟩ := RD.k2
  obtain ⟨m3, lm3⟩ := RD.k3
  obtain ⟨m4, lm4⟩ := RD.k4
  have GF : Gf K mg aS := ⟨T, PySem.W.mg_of X G a, fun H => .inr ⟨_, _, _, l, rfl, rfl, (by show 4 ≤ sizeLine; decide), .cons ⟨_, rfl⟩ (.cons ⟨_, rfl⟩ (.cons ⟨_, rfl⟩ (.cons ⟨_, rfl⟩ .nil)))⟩, ⟨u2, PySem.W.mg_of X G e2⟩, ⟨u3, PySem.W.mg_of X G e3⟩, ⟨u4, PySem.W.mg_of X G e4⟩, ⟨u5, PySem.W.mg_of X G e5⟩⟩
  have SO : So K mg aT := ⟨PySem.W.mg_of X G b, fun H => .inr ⟨_, _, _, l', rfl, rfl, (by show 3 ≤ sizeLine; decide), .cons ⟨_, rfl⟩ (.cons ⟨_, rfl⟩ (.cons ⟨_, rfl⟩ .nil))⟩⟩
  have M : ExpC K mg CE := ⟨PySem.W.mg_of X G RE.exp.g, RE.exp.cl, RE.n1, RE.n2, RE.n3, RE.n4, RE.n5⟩
  have DC : DesC K mg C := ⟨PySem.W.mg_of X G RD.des.g, RD.des.cl, RD.n0, RD.n1, RD.n2, RD.n3, RD.n4, RD.n5, RD.n6, RD.n7, RD.n8⟩
  obtain ⟨iFi, jFi, kFi, dFi⟩ := RR.eFi.ini
  obtain ⟨fdFi, FFi⟩ := dFi.fun_
  have EFi : ErrC K mg "InvalidFields" "index" CF iFi := ⟨PySem.W.mg_of X G RR.eFi.g, RR.eFi.ox, RR.eFi.no, jFi, kFi⟩
  obtain ⟨iMo, jMo, kMo, dMo⟩ := RR.eMo.ini
  obtain ⟨fdMo, FMo⟩ := dMo.fun_
  have EMo : ErrC K mg "InvalidModes" "index" CM iMo := ⟨PySem.W.mg_of X G RR.eMo.g, RR.eMo.ox, RR.eMo.no, jMo, kMo⟩
  obtain ⟨iCa, jCa, kCa, dCa⟩ := RR.eCa.ini
  obtain ⟨fdCa, FCa⟩ := dCa.fun_
  have ECa : ErrC K mg "InvalidCalls" "index" CC iCa := ⟨PySem.W.mg_of X G RR.eCa.g, RR.eCa.ox, RR.eCa.no, jCa, kCa⟩
  obtain ⟨iVi, jVi, kVi, dVi⟩ := RR.eVi.ini
  obtain ⟨fdVi, FVi⟩ := dVi.fun_
  have EVi : ErrC K mg "InvalidViews" "index" CV iVi := ⟨PySem.W.mg_of X G RR.eVi.g, RR.eVi.ox, RR.eVi.no, jVi, kVi⟩
  obtain ⟨f1, h1⟩ := hasX_of (P := P) (w := w) (base := base) (CX := CX0) (k := 1) (ps := ["value"]) (sp := spIsName) RE.g1 X G (fun f fd F => F.binds (ps := ["value"]) fun _ _ _ _ _ _ us hl => match us, hl with | [_], _ => rfl) fun f fd m F => ok_isname F T ⟨tL, PySem.W.mg_of X G lL⟩
  obtain ⟨f2, h2⟩ := hasX_of (P := P) (w := w) (base := base) (CX := CX0) (k := 2) (ps := ["value"]) (sp := spIsField) RE.g2 X G (fun f fd F => F.binds (ps := ["value"]) fun _ _ _ _ _ _ us hl => match us, hl with | [_], _ => rfl) fun f fd m F => ok_isfield F GF h1
  obtain ⟨f2v, h2v⟩ := hasX_of (P := P) (w := w) (base := base) (CX := CX0) (k := 2) (ps := ["value"]) (sp := spIsFieldV) RE.g2 X G (fun f fd F => F.binds (ps := ["value"]) fun _ _ _ _ _ _ us hl => match us, hl with | [_], _ => rfl) fun f fd m F => ok_isfieldV F GF h1
  obtain ⟨f4, h4⟩ := hasX_of (P := P) (w := w) (base := base) (CX := CX0) (k := 1) (ps := ["value"]) (sp := spTriple) RE.g4 X G (fun f fd F => F.binds (ps := ["value"]) fun _ _ _ _ _ _ us hl => match us, hl with | [_], _ => rfl) fun f fd m F => ok_triple F GF
  obtain ⟨f3, h3⟩ := hasX_of (P := P) (w := w) (base := base) (CX := CX0) (k := 2) (ps := ["value"]) (sp := spSize) RE.g3 X G (fun f fd F => F.binds (ps := ["value"]) fun _ _ _ _ _ _ us hl => match us, hl with | [_], _ => rfl) fun f fd m F => ok_size F T h1 h4
  obtain ⟨f5, h5⟩ := hasX_of (P := P) (w := w) (base := base) (CX := CX0) (k := 1) (ps := ["leaves"]) (sp := spChk 200) RE.g5 X G (fun f fd F => F.binds (ps := ["leaves"]) fun _ _ _ _ _ _ us hl => match us, hl with | [_], _ => rfl) fun f fd m F => ok_chkL F GF
  obtain ⟨f6, h6⟩ := hasX_of (P := P) (w := w) (base := base) (CX := CX0) (k := 1) (ps := ["depth"]) (sp := spChk 20) RE.g6 X G (fun f fd F => F.binds (ps := ["depth"]) fun _ _ _ _ _ _ us hl => match us, hl with | [_], _ => rfl) fun f fd m F => ok_chkD F GF
  obtain ⟨f12, h12⟩ := hasX_of (P := P) (w := w) (base := base) (CX := CX0) (k := 6) (ps := ["form"]) (sp := spLeaves 6) RE.g12 X G (fun f fd F => F.binds (ps := ["form"]) fun _ _ _ _ _ _ us hl => match us, hl with | [_], _ => rfl) fun f fd m F => ok_leavesF F T m 5
  obtain ⟨f13, h13⟩ := hasX_of (P := P) (w := w) (base := base) (CX := CX0) (k := 7) (ps := ["form"]) (sp := spFields 6) RE.g13 X G (fun f fd F => F.binds (ps := ["form"]) fun _ _ _ _ _ _ us hl => match us, hl with | [_], _ => rfl) fun f fd m F => ok_fieldsF (n := 3) F T h12 h2
  obtain ⟨fI, aI, iI, dI⟩ := RE.ini
  obtain ⟨fdI, FI⟩ := dI.fun_
  have bI : L2.Binds K fdI ["self", "form"] [] := FI.binds (ps := ["self", "form"]) fun _ _ _ _ _ _ us hl => match us, hl with | [_, _], _ => rfl
  have OI : FnOk P w K mg base CX0 8 fI fdI ["self", "form"] (spInitE CE) := ok_initE FI GF M h3 h5 h6 h13 h12
  have MK : Mk K CE fI := ⟨RE.exp.mk', aI, iI, RE.exp.kC⟩
  obtain ⟨ft, ht⟩ := hasX_of (P := P) (w := w) (base := base) (CX := CX0) (k := 1) (ps := ["value", "many"]) (sp := spTupOf) RD.tp X G (fun f fd F => F.binds (ps := ["value", "many"]) fun _ _ _ _ _ _ us hl => match us, hl with | [_, _], _ => rfl) fun f fd m F => ok_tupof F T
  obtain ⟨ff, hf⟩ := hasX_of (P := P) (w := w) (base := base) (CX := CX0) (k := 2) (ps := ["value", "names"]) (sp := spFormOf) RD.fo X G (fun f fd F => F.binds (ps := ["value", "names"]) fun _ _ _ _ _ _ us hl => match us, hl with | [_, _], _ => rfl) fun f fd m F => ok_formof F GF h4
  obtain ⟨fic, hic⟩ := hasX_of (P := P) (w := w) (base := base) (CX := CX0) (k := 2) (ps := ["value", "fields", "modes"]) (sp := spIsCall) RD.ic X G (fun f fd F => F.binds (ps := ["value", "fields", "modes"]) fun _ _ _ _ _ _ us hl => match us, hl with | [_, _, _], _ => rfl) fun f fd m F => ok_iscall F T SO ht h1
  obtain ⟨fiv, hiv⟩ := hasX_of (P := P) (w := w) (base := base) (CX := CX0) (k := 3) (ps := ["value", "fields", "modes"]) (sp := spIsView) RD.iv X G (fun f fd F => F.binds (ps := ["value", "fields", "modes"]) fun _ _ _ _ _ _ us hl => match us, hl with | [_, _, _], _ => rfl) fun f fd m F => ok_isview F GF ht hf h1
  obtain ⟨fw, hw⟩ := hasX_of (P := P) (w := w) (base := base) (CX := CX0) (k := 2) (ps := ["values"]) (sp := spWT K) RD.wr X G (fun f fd F => F.binds (ps := ["values"]) fun _ _ _ _ _ _ us hl => match us, hl with | [_], _ => rfl) fun f fd m F => ok_wt F T h1
  obtain ⟨fc1, hc1⟩ := hasX_of (P := P) (w := w) (base := base) (CX := L2.CX P w) (k := 4) (ps := ["fields"]) (sp := spNsE fieldV CF) RD.h1 X G (fun f fd F => F.binds (ps := ["fields"]) fun _ _ _ _ _ _ us hl => match us, hl with | [_], _ => rfl) fun f fd m F => ok_chkFi F GF ⟨m1, PySem.W.mg_of X G lm1⟩ h2v EFi FFi
  obtain ⟨fc2, hc2⟩ := hasX_of (P := P) (w := w) (base := base) (CX := L2.CX P w) (k := 4) (ps := ["modes"]) (sp := spNsE nameV CM) RD.h2 X G (fun f fd F => F.binds (ps := ["modes"]) fun _ _ _ _ _ _ us hl => match us, hl with | [_], _ => rfl) fun f fd m F => ok_chkMo F T ⟨m2, PySem.W.mg_of X G lm2⟩ hw EMo FMo
  obtain ⟨fc3, hc3⟩ := hasX_of (P := P) (w := w) (base := base) (CX := L2.CX P w) (k := 5) (ps := ["calls", "fields", "modes"]) (sp := spChkCa CC) RD.h3 X G (fun f fd F => F.binds (ps := ["calls", "fields", "modes"]) fun _ _ _ _ _ _ us hl => match us, hl with | [_, _, _], _ => rfl) fun f fd m F => ok_chkCa F T ⟨m3, PySem.W.mg_of X G lm3⟩ hic ECa FCa
  obtain ⟨fc4, hc4⟩ := hasX_of (P := P) (w := w) (base := base) (CX := L2.CX P w) (k := 5) (ps := ["views", "fields", "modes"]) (sp := spChkVi CV) RD.h4 X G (fun f fd F => F.binds (ps := ["views", "fields", "modes"]) fun _ _ _ _ _ _ us hl => match us, hl with | [_, _, _], _ => rfl) fun f fd m F => ok_chkVi F T ⟨m4, PySem.W.mg_of X G lm4⟩ hiv EVi FVi
  obtain ⟨fD, aD, iD, dD⟩ := RD.ini
  obtain ⟨fdD, FD⟩ := dD.fun_
  have bD : L2.Binds K fdD ["self", "fields", "modes", "calls", "views"] [] := FD.binds (ps := ["self", "fields", "modes", "calls", "views"]) fun _ _ _ _ _ _ us hl => match us, hl with | [_, _, _, _, _], _ => rfl
  have OD := ok_initD (P := P) (w := w) (base := base) FD T (PySem.W.mg_none_of X G RD.zip) DC M MK OI bI hc1 hc2 hc3 hc4
  exact {
    T := T
    EK := errK_of RR X G
    D := DC
    mkD := ⟨fD, fdD, ⟨RD.des.mk', aD, iD, RD.des.kC⟩, OD, bD⟩
    pF := pp_of RD.des.cl RD.pF (fun f fd F => F.binds (ps := ["self"]) fun _ _ _ _ _ _ us hl => match us, hl with | [_], _ => rfl) fun f fd F => ok_pF F DC
    pM := pp_of RD.des.cl RD.pM (fun f fd F => F.binds (ps := ["self"]) fun _ _ _ _ _ _ us hl => match us, hl with | [_], _ => rfl) fun f fd F => ok_pM F DC
    pN := pp_of RD.des.cl RD.pN (fun f fd F => F.binds (ps := ["self"]) fun _ _ _ _ _ _ us hl => match us, hl with | [_], _ => rfl) fun f fd F => ok_pN F DC
    pV := pp_of RD.des.cl RD.pV (fun f fd F => F.binds (ps := ["self"]) fun _ _ _ _ _ _ us hl => match us, hl with | [_], _ => rfl) fun f fd F => ok_pV F DC }
end
end K1

namespace K1
open PySem PySem.Spec
open PyProof.Rows L2 L2H EnT StX SmX TxS DuX XdI Tr3 CnB ClX
theorem law_end {l : PySem.W.OpenLaw} {q : Program} {w : World} {mg : Str → Option Value} {fa : Addr} {h : Heap} {K : PySem.W.Frag} {C CE CF CM CC CV S1 S2 S3 aS aT fR cR PR fL cL : Addr} (RE : RawE K CE aS) (RD : RawD K C aT) (RR : RawR K CF CM CC CV S1 S2 S3) (RL : RawL K) (DR : CodeD K "_law_right" sRight fR cR PR) (DL : CodD K "law" sLaw fL cL)
    (X : K.In h) (G : h.Ns mainGlobals mg) (hmg : mg "law" = some (.ref fa)) (TB : EnG.TabsAt q mg h) (hrR : ((recsOf q).any fun e => e.name == ("_law_right" : Str)) = true) : EnG.LawG l w 21 63 mg fa h := by
  have e := hmg.symm.trans (PySem.W.mg_of X G DL.g)
  cases e
  have mgR := PySem.W.mg_of X G DR.g
  obtain ⟨oc, od, kV, doc, pm, an, ct, osl, lk, hcd⟩ := DR.fn.ex
  obtain ⟨ec, dc, vc, slc, lc, h11⟩ := DR.cd
  obtain ⟨tabR, codR⟩ := EnG.tab_of X TB hrR mgR lk rfl rfl lc h11
  refine ⟨K, [(cR, PR)], spLaw K PR, X, fun p hp => ?_, fun p hp => ?_, fun p hp => ?_, fun H a ns hl hH hS => ?_, fun base hb hG hT => ?_⟩
  · rw [List.mem_singleton.mp hp]
    exact tabR
  · rw [List.mem_singleton.mp hp]
    exact DR.no
  · rw [List.mem_singleton.mp hp]
    exact codR
  · refine ⟨a, ns, rfl, hS, by omega, fun p hp => ?_, fun _ => rfl⟩
    rw [List.mem_singleton.mp hp]
    exact LamX.TabS.nil (hH (cR, PR) List.mem_cons_self)
  · have T : Free mg := free_of RL X G
    have W : WR l.prog w K mg base C CF CM CC CV S1 S2 S3 := wr_of T RE RD RR X G
    obtain ⟨fC, aC, dC⟩ := RL.ca
    obtain ⟨fdC, FC⟩ := dC.fun_
    have AK : Asks K mg base cR PR := ⟨⟨fC, fdC, PySem.W.mg_of X G aC, FC⟩, hT (cR, PR) List.mem_cons_self⟩
    obtain ⟨fD, hD⟩ := hasX_of (P := l.prog) (w := w) (base := base) (CX := CX0) (k := 1) (ps := ["_law_pool_here", "_law_many"]) (sp := spDraw) RL.dr X G (fun f fd F => F.binds (ps := ["_law_pool_here", "_law_many"]) fun _ _ _ _ _ _ us hl => match us, hl with | [_, _], _ => rfl) fun f fd m F => ok_draw F T
    obtain ⟨gD, aD, dD⟩ := RL.dr
    obtain ⟨fdD, FD⟩ := dD.fun_
    obtain ⟨fN, hN⟩ := hasX_of (P := l.prog) (w := w) (base := base) (CX := CX0) (k := 2) (ps := ["_law_pool_here", "_law_many"]) (sp := spNames) RL.nm X G (fun f fd F => F.binds (ps := ["_law_pool_here", "_law_many"]) fun _ _ _ _ _ _ us hl => match us, hl with | [_, _], _ => rfl) fun f fd m F => ok_names F T FD (PySem.W.mg_of X G aD)
    obtain ⟨fB, aB, dB⟩ := RL.be
    obtain ⟨fdB, FB⟩ := dB.fun_
    have bB : L2.Binds K fdB ["_law_pool_here", "_law_names_here", "_law_more"] [] := FB.binds (ps := ["_law_pool_here", "_law_names_here", "_law_more"]) fun _ _ _ _ _ _ us hl => match us, hl with | [_, _, _], _ => rfl
    have mgB := PySem.W.mg_of X G aB
    have RK : Rk l.prog w K mg base := ⟨⟨fN, hN⟩, ⟨fD, hD⟩, ⟨fB, ⟨mgB, FB.kp, fdB, ok_bent FB (fun v e => fieldV_no e) T hD, bB⟩, ⟨mgB, FB.kp, fdB, ok_bent FB (fun v e => e) T hD, bB⟩⟩⟩
    have GR : FnG l.prog w K mg base CX0 20 fR (spRight PR) := ok_right W AK RK DR.fn
    obtain ⟨fE, hE⟩ := hasX_of (P := l.prog) (w := w) (base := base) (CX := CX0) (k := 1) (ps := ["_law_cells", "_law_k"]) (sp := spCell K) RL.ce X G (fun f fd F => F.binds (ps := ["_law_cells", "_law_k"]) fun _ _ _ _ _ _ us hl => match us, hl with | [_, _], _ => rfl) fun f fd m F => ok_cell F T
    obtain ⟨fQ, hQ⟩ := hasX_of (P := l.prog) (w := w) (base := base) (CX := CX0) (k := 1) (ps := ["_law_cell_here"]) (sp := spPool) RL.po X G (fun f fd F => F.binds (ps := ["_law_cell_here"]) fun _ _ _ _ _ _ us hl => match us, hl with | [_], _ => rfl) fun f fd m F => ok_pool F T
    exact ok_law T ⟨⟨fE, hE⟩, ⟨fQ, hQ⟩, ⟨fR, mgR, DR.kp, GR⟩⟩ DL.fn
end K1
theorem K1.ex1 {α : Sort _} {p : α → Prop} {a : α} (h : p a) : ∃ x, p x := ⟨a, h⟩
set_option maxHeartbeats 0
section
open PySem PySem.W PyProof.Rows
theorem PySem.Challenge.cw_onemember_k10_fields_and_modes_refused_holds : PySem.Challenge.rw_onemember_k10_fields_and_modes_refused.Holds := by
  refine K1.hdT.2 (K1.HeadTag.mk ?_)
  delta K1.hdT
  dsimp only
  k_fill
  refine EnG.walk_G (l := PySem.Challenge.rw_onemember_k10_fields_and_modes_refused) (n := 63) (k := 21) rfl (by decide) rfl ⟨rfl, by decide, by decide⟩ ?F
  intro w mg fa h Y G hmg TB
  have KX := kIn_of Y
  refine' K1.law_end { exp := ?re_exp, n1 := ?re_n1, n2 := ?re_n2, n3 := ?re_n3, n4 := ?re_n4, n5 := ?re_n5, ini := ?re_ini, g1 := ?re_g1, g2 := ?re_g2, g3 := ?re_g3, g4 := ?re_g4, g5 := ?re_g5, g6 := ?re_g6, g12 := ?re_g12, g13 := ?re_g13, sg := ?re_sg, c1 := ?re_c1, c2 := ?re_c2, c3 := ?re_c3, c4 := ?re_c4, c5 := ?re_c5 } { des := ?rd_des, n0 := ?rd_n0, n1 := ?rd_n1, n2 := ?rd_n2, n3 := ?rd_n3, n4 := ?rd_n4, n5 := ?rd_n5, n6 := ?rd_n6, n7 := ?rd_n7, n8 := ?rd_n8, ini := ?rd_ini, pF := ?rd_pF, pM := ?rd_pM, pN := ?rd_pN, pV := ?rd_pV, h1 := ?rd_h1, h2 := ?rd_h2, h3 := ?rd_h3, h4 := ?rd_h4, ic := ?rd_ic, iv := ?rd_iv, fo := ?rd_fo, tp := ?rd_tp, wr := ?rd_wr, sr := ?rd_sr, k1 := ?rd_k1, k2 := ?rd_k2, k3 := ?rd_k3, k4 := ?rd_k4, zip := ?rd_zip } { s1 := ?rr_s1, s2 := ?rr_s2, s3 := ?rr_s3, eFi := ?rr_eFi, eMo := ?rr_eMo, eCa := ?rr_eCa, eVi := ?rr_eVi, q11 := ?rr_q11, q12 := ?rr_q12, q13 := ?rr_q13, q14 := ?rr_q14, q21 := ?rr_q21, q22 := ?rr_q22, q23 := ?rr_q23, q24 := ?rr_q24, q31 := ?rr_q31, q32 := ?rr_q32, q33 := ?rr_q33, q34 := ?rr_q34, q41 := ?rr_q41, q42 := ?rr_q42, q43 := ?rr_q43, q44 := ?rr_q44, fV := ?rr_fV, fL := ?rr_fL, fA := ?rr_fA } { nm := ?rl_nm, dr := ?rl_dr, be := ?rl_be, ce := ?rl_ce, po := ?rl_po, ca := ?rl_ca, free := ?rl_free } ?DR ?DL KX G hmg TB ?hrR
  (case hrR => decide +kernel)
  case DR =>
    refine' K1.codeD_mk ?a ?l ?c ?k ?lc ?h ?no
    (case a => k_is)
    (case l => k_is)
    (case c => k_is)
    (case k => k_is)
    (case lc => k_is)
    (case h => exact rfl)
    (case no => exact rfl)
  case DL =>
    refine' K1.codD_mk ?a ?l ?c ?k
    (case a => k_is)
    (case l => k_is)
    (case c => k_is)
    (case k => k_is)
  (case rr_s1 => k_is)
  (case rr_s2 => k_is)
  (case rr_s3 => k_is)
  case re_exp =>
    refine' K1.clsD_mk ?g ?hd ?pg ?sa ?po ?kC ?mk ?hm ?ht ?hn ?ha ?yes ?o1 ?o2 ?o3 ?o4 ?o5 ?o6 ?o7 ?f1 ?f2 ?f3 ?f4 ?f5 ?f6 ?f7 ?fC ?ne ?rd ?ga
    (case g => k_is)
    (case hd => k_is)
    (case pg => k_is)
    (case sa => k_is)
    (case po => k_is)
    (case kC => k_is)
    (case mk => k_is)
    (case hm => k_is)
    (case ht => k_is)
    (case hn => k_is)
    (case ha => k_is)
    (case yes => kit_is)
    (case o1 => kit_is)
    (case o2 => kit_is)
    (case o3 => kit_is)
    (case o4 => kit_is)
    (case o5 => kit_is)
    (case o6 => kit_is)
    (case o7 => kit_is)
    (case f1 => k_is)
    (case f2 => k_is)
    (case f3 => k_is)
    (case f4 => k_is)
    (case f5 => k_is)
    (case f6 => k_is)
    (case f7 => k_is)
    (case fC => k_is)
    (case ne => k_is)
    (case rd => k_is)
    (case ga => k_is)
  case rd_des =>
    refine' K1.clsD_mk ?g ?hd ?pg ?sa ?po ?kC ?mk ?hm ?ht ?hn ?ha ?yes ?o1 ?o2 ?o3 ?o4 ?o5 ?o6 ?o7 ?f1 ?f2 ?f3 ?f4 ?f5 ?f6 ?f7 ?fC ?ne ?rd ?ga
    (case g => k_is)
    (case hd => k_is)
    (case pg => k_is)
    (case sa => k_is)
    (case po => k_is)
    (case kC => k_is)
    (case mk => k_is)
    (case hm => k_is)
    (case ht => k_is)
    (case hn => k_is)
    (case ha => k_is)
    (case yes => kit_is)
    (case o1 => kit_is)
    (case o2 => kit_is)
    (case o3 => kit_is)
    (case o4 => kit_is)
    (case o5 => kit_is)
    (case o6 => kit_is)
    (case o7 => kit_is)
    (case f1 => k_is)
    (case f2 => k_is)
    (case f3 => k_is)
    (case f4 => k_is)
    (case f5 => k_is)
    (case f6 => k_is)
    (case f7 => k_is)
    (case fC => k_is)
    (case ne => k_is)
    (case rd => k_is)
    (case ga => k_is)
  (case re_n1 => k_is)
  (case re_n2 => k_is)
  (case re_n3 => k_is)
  (case re_n4 => k_is)
  (case re_n5 => k_is)
  case re_ini =>
    refine' K1.methD_mk ?a ?i ?l ?c ?k
    (case a => k_is)
    (case i => k_is)
    (case l => k_is)
    (case c => k_is)
    (case k => k_is)
  case re_g1 =>
    refine' K1.gloD_mk ?a ?l ?c ?k
    (case a => k_is)
    (case l => k_is)
    (case c => k_is)
    (case k => k_is)
  case re_g2 =>
    refine' K1.gloD_mk ?a ?l ?c ?k
    (case a => k_is)
    (case l => k_is)
    (case c => k_is)
    (case k => k_is)
  case re_g3 =>
    refine' K1.gloD_mk ?a ?l ?c ?k
    (case a => k_is)
    (case l => k_is)
    (case c => k_is)
    (case k => k_is)
  case re_g4 =>
    refine' K1.gloD_mk ?a ?l ?c ?k
    (case a => k_is)
    (case l => k_is)
    (case c => k_is)
    (case k => k_is)
  case re_g5 =>
    refine' K1.gloD_mk ?a ?l ?c ?k
    (case a => k_is)
    (case l => k_is)
    (case c => k_is)
    (case k => k_is)
  case re_g6 =>
    refine' K1.gloD_mk ?a ?l ?c ?k
    (case a => k_is)
    (case l => k_is)
    (case c => k_is)
    (case k => k_is)
  case re_g12 =>
    refine' K1.gloD_mk ?a ?l ?c ?k
    (case a => k_is)
    (case l => k_is)
    (case c => k_is)
    (case k => k_is)
  case re_g13 =>
    refine' K1.gloD_mk ?a ?l ?c ?k
    (case a => k_is)
    (case l => k_is)
    (case c => k_is)
    (case k => k_is)
  case re_sg =>
    refine' K1.sgD_mk ?a ?l
    (case a => k_is)
    (case l => k_is)
  (case re_c1 => refine' K1.ex1 ?a; (case a => k_is))
  (case re_c2 => refine' K1.ex1 ?a; (case a => k_is))
  (case re_c3 => refine' K1.ex1 ?a; (case a => k_is))
  (case re_c4 => refine' K1.ex1 ?a; (case a => k_is))
  (case re_c5 => refine' K1.ex1 ?a; (case a => k_is))
  (case rd_n0 => k_is)
  (case rd_n1 => k_is)
  (case rd_n2 => k_is)
  (case rd_n3 => k_is)
  (case rd_n4 => k_is)
  (case rd_n5 => k_is)
  (case rd_n6 => k_is)
  (case rd_n7 => k_is)
  (case rd_n8 => k_is)
  case rd_ini =>
    refine' K1.methD_mk ?a ?i ?l ?c ?k
    (case a => k_is)
    (case i => k_is)
    (case l => k_is)
    (case c => k_is)
    (case k => k_is)
  case rd_pF =>
    refine' K1.propD_mk ?a ?g ?t ?r ?l ?c ?k
    (case a => k_is)
    (case g => k_is)
    (case t => k_is)
    (case r => k_is)
    (case l => k_is)
    (case c => k_is)
    (case k => k_is)
  case rd_pM =>
    refine' K1.propD_mk ?a ?g ?t ?r ?l ?c ?k
    (case a => k_is)
    (case g => k_is)
    (case t => k_is)
    (case r => k_is)
    (case l => k_is)
    (case c => k_is)
    (case k => k_is)
  case rd_pN =>
    refine' K1.propD_mk ?a ?g ?t ?r ?l ?c ?k
    (case a => k_is)
    (case g => k_is)
    (case t => k_is)
    (case r => k_is)
    (case l => k_is)
    (case c => k_is)
    (case k => k_is)
  case rd_pV =>
    refine' K1.propD_mk ?a ?g ?t ?r ?l ?c ?k
    (case a => k_is)
    (case g => k_is)
    (case t => k_is)
    (case r => k_is)
    (case l => k_is)
    (case c => k_is)
    (case k => k_is)
  case rd_h1 =>
    refine' K1.gloD_mk ?a ?l ?c ?k
    (case a => k_is)
    (case l => k_is)
    (case c => k_is)
    (case k => k_is)
  case rd_h2 =>
    refine' K1.gloD_mk ?a ?l ?c ?k
    (case a => k_is)
    (case l => k_is)
    (case c => k_is)
    (case k => k_is)
  case rd_h3 =>
    refine' K1.gloD_mk ?a ?l ?c ?k
    (case a => k_is)
    (case l => k_is)
    (case c => k_is)
    (case k => k_is)
  case rd_h4 =>
    refine' K1.gloD_mk ?a ?l ?c ?k
    (case a => k_is)
    (case l => k_is)
    (case c => k_is)
    (case k => k_is)
  case rd_ic =>
    refine' K1.gloD_mk ?a ?l ?c ?k
    (case a => k_is)
    (case l => k_is)
    (case c => k_is)
    (case k => k_is)
  case rd_iv =>
    refine' K1.gloD_mk ?a ?l ?c ?k
    (case a => k_is)
    (case l => k_is)
    (case c => k_is)
    (case k => k_is)
  case rd_fo =>
    refine' K1.gloD_mk ?a ?l ?c ?k
    (case a => k_is)
    (case l => k_is)
    (case c => k_is)
    (case k => k_is)
  case rd_tp =>
    refine' K1.gloD_mk ?a ?l ?c ?k
    (case a => k_is)
    (case l => k_is)
    (case c => k_is)
    (case k => k_is)
  case rd_wr =>
    refine' K1.gloD_mk ?a ?l ?c ?k
    (case a => k_is)
    (case l => k_is)
    (case c => k_is)
    (case k => k_is)
  case rd_sr =>
    refine' K1.srD_mk ?a ?l
    (case a => k_is)
    (case l => k_is)
  (case rd_k1 => refine' K1.ex1 ?a; (case a => k_is))
  (case rd_k2 => refine' K1.ex1 ?a; (case a => k_is))
  (case rd_k3 => refine' K1.ex1 ?a; (case a => k_is))
  (case rd_k4 => refine' K1.ex1 ?a; (case a => k_is))
  (case rd_zip => k_is)
  case rr_eFi =>
    refine' K1.errD_mk ?g ?lD ?sh ?sa ?exC ?tyC ?kC ?no ?a ?ty ?l ?c ?k ?hg ?hk ?hd ?ha ?hn ?ht ?hm ?k1 ?k2 ?k3 ?kV ?kL ?kA ?kx
    (case g => k_is)
    (case lD => k_is)
    (case sh => exact ⟨_, _, _, _, _, _, _, _, _, _, _, _, _, _, _, rfl, by decide⟩)
    (case sa => k_is)
    (case exC => k_is)
    (case tyC => k_is)
    (case kC => k_is)
    (case no => k_is)
    (case a => k_is)
    (case ty => k_is)
    (case l => k_is)
    (case c => k_is)
    (case k => k_is)
    (case hg => k_is)
    (case hk => k_is)
    (case hd => k_is)
    (case ha => k_is)
    (case hn => k_is)
    (case ht => k_is)
    (case hm => k_is)
    (case k1 => kit_is)
    (case k2 => kit_is)
    (case k3 => kit_is)
    (case kV => kit_is)
    (case kL => kit_is)
    (case kA => kit_is)
    (case kx => kts_exm)
  case rr_eMo =>
    refine' K1.errD_mk ?g ?lD ?sh ?sa ?exC ?tyC ?kC ?no ?a ?ty ?l ?c ?k ?hg ?hk ?hd ?ha ?hn ?ht ?hm ?k1 ?k2 ?k3 ?kV ?kL ?kA ?kx
    (case g => k_is)
    (case lD => k_is)
    (case sh => exact ⟨_, _, _, _, _, _, _, _, _, _, _, _, _, _, _, rfl, by decide⟩)
    (case sa => k_is)
    (case exC => k_is)
    (case tyC => k_is)
    (case kC => k_is)
    (case no => k_is)
    (case a => k_is)
    (case ty => k_is)
    (case l => k_is)
    (case c => k_is)
    (case k => k_is)
    (case hg => k_is)
    (case hk => k_is)
    (case hd => k_is)
    (case ha => k_is)
    (case hn => k_is)
    (case ht => k_is)
    (case hm => k_is)
    (case k1 => kit_is)
    (case k2 => kit_is)
    (case k3 => kit_is)
    (case kV => kit_is)
    (case kL => kit_is)
    (case kA => kit_is)
    (case kx => kts_exm)
  case rr_eCa =>
    refine' K1.errD_mk ?g ?lD ?sh ?sa ?exC ?tyC ?kC ?no ?a ?ty ?l ?c ?k ?hg ?hk ?hd ?ha ?hn ?ht ?hm ?k1 ?k2 ?k3 ?kV ?kL ?kA ?kx
    (case g => k_is)
    (case lD => k_is)
    (case sh => exact ⟨_, _, _, _, _, _, _, _, _, _, _, _, _, _, _, rfl, by decide⟩)
    (case sa => k_is)
    (case exC => k_is)
    (case tyC => k_is)
    (case kC => k_is)
    (case no => k_is)
    (case a => k_is)
    (case ty => k_is)
    (case l => k_is)
    (case c => k_is)
    (case k => k_is)
    (case hg => k_is)
    (case hk => k_is)
    (case hd => k_is)
    (case ha => k_is)
    (case hn => k_is)
    (case ht => k_is)
    (case hm => k_is)
    (case k1 => kit_is)
    (case k2 => kit_is)
    (case k3 => kit_is)
    (case kV => kit_is)
    (case kL => kit_is)
    (case kA => kit_is)
    (case kx => kts_exm)
  case rr_eVi =>
    refine' K1.errD_mk ?g ?lD ?sh ?sa ?exC ?tyC ?kC ?no ?a ?ty ?l ?c ?k ?hg ?hk ?hd ?ha ?hn ?ht ?hm ?k1 ?k2 ?k3 ?kV ?kL ?kA ?kx
    (case g => k_is)
    (case lD => k_is)
    (case sh => exact ⟨_, _, _, _, _, _, _, _, _, _, _, _, _, _, _, rfl, by decide⟩)
    (case sa => k_is)
    (case exC => k_is)
    (case tyC => k_is)
    (case kC => k_is)
    (case no => k_is)
    (case a => k_is)
    (case ty => k_is)
    (case l => k_is)
    (case c => k_is)
    (case k => k_is)
    (case hg => k_is)
    (case hk => k_is)
    (case hd => k_is)
    (case ha => k_is)
    (case hn => k_is)
    (case ht => k_is)
    (case hm => k_is)
    (case k1 => kit_is)
    (case k2 => kit_is)
    (case k3 => kit_is)
    (case kV => kit_is)
    (case kL => kit_is)
    (case kA => kit_is)
    (case kx => kts_exm)
  (case rr_q11 => kit_is)
  (case rr_q12 => kit_is)
  (case rr_q13 => kit_is)
  (case rr_q14 => kit_is)
  (case rr_q21 => kit_is)
  (case rr_q22 => kit_is)
  (case rr_q23 => kit_is)
  (case rr_q24 => kit_is)
  (case rr_q31 => kit_is)
  (case rr_q32 => kit_is)
  (case rr_q33 => kit_is)
  (case rr_q34 => kit_is)
  (case rr_q41 => kit_is)
  (case rr_q42 => kit_is)
  (case rr_q43 => kit_is)
  (case rr_q44 => kit_is)
  (case rr_fV => k_is)
  (case rr_fL => k_is)
  (case rr_fA => k_is)
  case rl_nm =>
    refine' K1.gloD_mk ?a ?l ?c ?k
    (case a => k_is)
    (case l => k_is)
    (case c => k_is)
    (case k => k_is)
  case rl_dr =>
    refine' K1.gloD_mk ?a ?l ?c ?k
    (case a => k_is)
    (case l => k_is)
    (case c => k_is)
    (case k => k_is)
  case rl_be =>
    refine' K1.gloD_mk ?a ?l ?c ?k
    (case a => k_is)
    (case l => k_is)
    (case c => k_is)
    (case k => k_is)
  case rl_ce =>
    refine' K1.gloD_mk ?a ?l ?c ?k
    (case a => k_is)
    (case l => k_is)
    (case c => k_is)
    (case k => k_is)
  case rl_po =>
    refine' K1.gloD_mk ?a ?l ?c ?k
    (case a => k_is)
    (case l => k_is)
    (case c => k_is)
    (case k => k_is)
  case rl_ca =>
    refine' K1.gloD_mk ?a ?l ?c ?k
    (case a => k_is)
    (case l => k_is)
    (case c => k_is)
    (case k => k_is)
  case rl_free =>
    intro x hx
    simp only [K1.frees, List.mem_cons, List.not_mem_nil,
        or_false] at hx
    rcases hx with rfl | rfl | rfl | rfl | rfl | rfl | rfl | rfl | rfl | rfl | rfl | rfl | rfl | rfl | rfl | rfl | rfl <;> k_is

end
