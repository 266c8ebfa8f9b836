import PyProof.Rows.All
import Wide.All
import OpenK.AllK
import Wide.FinOn
import HandS.ForMost
import HandS.ForExc
import HandS.Walk
import KE.GoesMore
import KE.GoesEnum
import HandS.StrMore
import HandS.IsInst
import KE.KxStill
import HandS.Star
import HandS.OwnEq
import KE.KCallOwn
import PyProof.InstEq
import PyProof.ListTruth
import PyProof.Conv_bool
import PyProof.ListNew
import KE.KOpsOwn
import HandS.SlotsOwn
import HandS.Set
import HandS.Strs
import HandS.SetFor
import HandS.ClsMeth
import HandS.MakeKwOnly
import HandS.Deep
import HandS.RaiseMore
import PyProof.ReprRoads
import KE.DatumIndex
import PyProof.ReprLen
import PyProof.StrLawsRepr
import HandS.FStr
import HandS.Property
import HandS.Small
import HandS.WordsExc
import HandS.Lambda
import HandS.NoneIn
import HandS.Flow
import HandS.ReplaceList
import HandS.ReplaceLit
import PyProof.Rows.StrMeet
import PyProof.NeKinds
import PyProof.P3Eq
import HandS.EndTab
import KE.KSortAny
import KE.OsRunLaw
import PySem.Challenge.RW_onemember_k04_expressions_made
set_option Elab.async false
set_option linter.all false
set_option maxRecDepth 100000
set_option maxHeartbeats 0
section
universe u
open PySem PySem.W PySem.Calls PyProof.Rows HeadRun
noncomputable def K1.tk {α : Type u} (n : Nat) (l : List α) : List α := List.rec (motive := fun _ => Nat → List α) (fun _ => []) (fun a _ ih n => Nat.rec [] (fun m _ => a :: ih m) n) l n
noncomputable def K1.dp {α : Type u} (n : Nat) (l : List α) : List α := List.rec (motive := fun _ => Nat → List α) (fun _ => []) (fun a t ih n => Nat.rec (a :: t) (fun m _ => ih m) n) l n
theorem K1.tk_eq {α : Type u} (l : List α) : ∀ n, K1.tk n l = l.take n := by
  induction l with
  | nil => intro n; cases n <;> rfl
  | cons a t ih => intro n; cases n with
    | zero => rfl
    | succ n => exact congrArg (a :: ·) (ih n)
theorem K1.dp_eq {α : Type u} (l : List α) : ∀ n, K1.dp n l = l.drop n := by
  induction l with
  | nil => intro n; cases n <;> rfl
  | cons a t ih => intro n; cases n with
    | zero => rfl
    | succ n => exact ih n
theorem K1.all_cut {α : Type u} {l : List α} {f : α → Bool} (n : Nat) (h1 : PySem.W.R.allR (K1.tk n l) f = true) (h2 : PySem.W.R.allR (K1.dp n l) f = true) : PySem.W.R.allR l f = true := by
  rw [K1.tk_eq] at h1
  rw [K1.dp_eq] at h2
  have e : ∀ l : List α, PySem.W.R.allR l f = l.all f := fun l => (congrFun (congrFun (congrFun PySem.W.R.allR_eq α) l) f).symm
  rw [e] at h1 h2 ⊢
  rw [← List.take_append_drop n l, List.all_append, h1, h2]
  rfl
theorem K1.three {α : Type u} {l e : List α} {n m : Nat} (h1 : K1.tk n l = e.take n) (h2 : K1.tk m (K1.dp n l) = (e.drop n).take m) (h3 : K1.dp m (K1.dp n l) = (e.drop n).drop m) : l = e := by
  rw [K1.tk_eq] at h1
  rw [K1.dp_eq, K1.tk_eq] at h2
  rw [K1.dp_eq, K1.dp_eq] at h3
  rw [← List.take_append_drop n l, ← List.take_append_drop m (l.drop n), h1, h2, h3, List.take_append_drop, List.take_append_drop]
theorem K1.seen_defs {a b : PyProof.Rows.Seen} (h4 : a.defs = b.defs) (h2 : { a with defs := [] } = { b with defs := [] }) : a = b := by
  cases a
  cases b
  simp only [PyProof.Rows.Seen.mk.injEq] at h2 ⊢
  exact ⟨h4, h2.2⟩
noncomputable abbrev K1.keyOk (a b c d : List PySem.Str) : PySem.Str → Bool := fun k =>
  @PySem.W.Fast.tw3471404346716756564 PySem.Str (@instBEqOfDecidableEq PySem.Str PySem.W.Fast.sDec) PySem.W.Fast.tw12749700546528644094 k || @PySem.W.Fast.tw3471404346716756564 PySem.Str (@instBEqOfDecidableEq PySem.Str PySem.W.Fast.sDec) a k || @PySem.W.Fast.tw3471404346716756564 PySem.Str (@instBEqOfDecidableEq PySem.Str PySem.W.Fast.sDec) b k || @PySem.W.Fast.tw3471404346716756564 PySem.Str (@instBEqOfDecidableEq PySem.Str PySem.W.Fast.sDec) c k || @PySem.W.Fast.tw3471404346716756564 PySem.Str (@instBEqOfDecidableEq PySem.Str PySem.W.Fast.sDec) d k
theorem K1.gd {α : Type} {o : Option SharedT} {f : SharedT → List α} {E : List α} {n m : Nat}
    (d1 : o.map (fun s => K1.tk n (f s)) = some (E.take n)) (d2 : o.map (fun s => K1.tk m (K1.dp n (f s))) = some ((E.drop n).take m)) (d3 : o.map (fun s => K1.dp m (K1.dp n (f s))) = some ((E.drop n).drop m)) : o.map f = some E := by
  cases o with
  | none => cases d1
  | some s => exact congrArg some (K1.three (Option.some.inj d1) (Option.some.inj d2) (Option.some.inj d3))
theorem K1.gk {o : Option SharedT} {n : Nat} {a b c d : List PySem.Str}
    (k1 : o.map (fun s => PySem.W.R.allR (K1.tk n (s.abs.heap.nsKeys mainGlobals)) (K1.keyOk a b c d)) = some true)
    (k2 : o.map (fun s => PySem.W.R.allR (K1.dp n (s.abs.heap.nsKeys mainGlobals)) (K1.keyOk a b c d)) = some true) : o.map (fun s => PySem.W.Fast.tw10880121769531294198 s.abs.heap a b c d) = some true := by
  cases o with
  | none => cases k1
  | some s => exact congrArg some (K1.all_cut n (Option.some.inj k1) (Option.some.inj k2))
theorem K1.ga {α : Type} {o : Option SharedT} {n m : Nat} {l : List α} {f : SharedT → α → Bool}
    (a4 : o.map (fun s => PySem.W.R.allR (K1.tk n l) (f s)) = some true) (a5 : o.map (fun s => PySem.W.R.allR (K1.tk m (K1.dp n l)) (f s)) = some true) (a6 : o.map (fun s => PySem.W.R.allR (K1.dp m (K1.dp n l)) (f s)) = some true) : o.map (fun s => PySem.W.R.allR l (f s)) = some true := by
  cases o with
  | none => cases a4
  | some s => exact congrArg some (K1.all_cut n (Option.some.inj a4) (K1.all_cut m (Option.some.inj a5) (Option.some.inj a6)))
theorem K1.gate9 {p q : Program} {loose mods : List PySem.Str} {Xt : Shared → Bool} {h0 : Heap} {o : Option SharedT}
    (x1 : o.map (fun s => (looksF p h0 s.abs, (seenQ q loose mods Xt s.abs).2.1, (seenQ q loose mods Xt s.abs).2.2.2.2.2.2.2.2)) = some (true, bltViewBooted, clsGoodW q loose))
    (x2 : o.map (fun s => ((seenQ q loose mods Xt s.abs).2.2.2.2.1, (seenQ q loose mods Xt s.abs).2.2.2.2.2.2.1)) = some (pinGoodD (drecsOf q), plainGoodD q loose))
    (d : o.map (fun s => (seenQ q loose mods Xt s.abs).1.defs) = some (expectedOf q).defs)
    (c : o.map (fun s => (({ (seenQ q loose mods Xt s.abs).1 with defs := [] } : PyProof.Rows.Seen), (PySem.W.Fast.tw14722251495701143533 s.abs.heap mods && Heap.isNs s.abs.heap mainGlobals && Heap.isNs s.abs.heap builtinsNs && PySem.W.Fast.tw10994771534591457954 q s.abs.heap && Xt s.abs && (s.abs.gens.size == 0) && PySem.W.Fast.tw5244371056499926238 s.abs.heap && PySem.W.Fast.tw2578726214315757710 q s.abs.heap && (!PySem.W.Fast.tw2458874890965802552 q || PySem.W.Fast.tw9649274521512697073 s.abs.heap)))) = some ({ (expectedOf q) with defs := [] }, true))
    (a3 : o.map (fun s => PySem.W.Fast.tw10880121769531294198 s.abs.heap (PySem.W.Fast.tw821141287760084731 q loose) (PySem.W.R.mapR (fun x => DefRec.name x) (PySem.W.Fast.tw3399658132070893891 q)) (PySem.W.R.mapR (fun x => Prod.fst x) (PySem.W.Fast.tw7409074990110511671 q)) (PySem.W.R.mapR (fun x => ClsRec.name x) (PySem.W.Fast.tw13664370479719496447 q (PySem.W.Fast.tw821141287760084731 q loose)))) = some true)
    (a4 : o.map (fun s => PySem.W.R.allR (PySem.W.Fast.tw3399658132070893891 q) fun d => PySem.W.Fast.tw5930804224584009831 s.abs.heap (DefRec.name d)) = some true)
    (h4 : plainsOf q (looseW q loose) = [])
    (e1 : o.map (fun s => (seenQ q loose mods Xt s.abs).2.2.2.2.2.2.2.1.1) = some (wideGood q).1)
    (e2 : o.map (fun s => (seenQ q loose mods Xt s.abs).2.2.2.2.2.2.2.1.2) = some (wideGood q).2) :
    o.map (fun s => (looksF p h0 s.abs, (seenQ q loose mods Xt s.abs))) = some (true, openGood q loose) := by
  cases o with
  | none => cases a3
  | some s =>
    simp only [Option.map_some, Option.some.injEq, Prod.mk.injEq] at x1 x2 d c a3 a4 e1 e2 ⊢
    obtain ⟨b1, b2, b5⟩ := x1
    obtain ⟨b3, b4⟩ := x2
    obtain ⟨c1, c2⟩ := c
    simp only [Bool.and_eq_true] at c2
    obtain ⟨⟨⟨⟨⟨⟨⟨⟨m1, m2⟩, m3⟩, m4⟩, m5⟩, m6⟩, m7⟩, m8⟩, m9⟩ := c2
    have k3 : (seenQ q loose mods Xt s.abs).2.2.1 = true := by
      show (PySem.W.Fast.tw10880121769531294198 s.abs.heap (PySem.W.Fast.tw821141287760084731 q loose) (PySem.W.R.mapR (fun x => DefRec.name x) (PySem.W.Fast.tw3399658132070893891 q)) (PySem.W.R.mapR (fun x => Prod.fst x) (PySem.W.Fast.tw7409074990110511671 q)) (PySem.W.R.mapR (fun x => ClsRec.name x) (PySem.W.Fast.tw13664370479719496447 q (PySem.W.Fast.tw821141287760084731 q loose))) && _ && _ && _ && _ && _ && _) = true
      simp only [Bool.and_eq_true]
      exact ⟨⟨⟨⟨⟨⟨a3, m1⟩, m2⟩, m3⟩, m4⟩, m5⟩, m6⟩
    have k4 : (seenQ q loose mods Xt s.abs).2.2.2.1 = true := by
      show (_ && _ && _ && _) = true
      simp only [Bool.and_eq_true]
      exact ⟨⟨⟨a4, m7⟩, m8⟩, m9⟩
    have h6 : (seenQ q loose mods Xt s.abs).2.2.2.2.2.1 = plainGoodE q (looseW q loose) := by
      rw [← seenQ_eq]
      show plainSeenE q (looseW q loose) s.abs = _
      unfold plainSeenE plainGoodE
      rw [h4]
      rfl
    exact ⟨b1, Prod.ext (K1.seen_defs d c1) (Prod.ext b2 (Prod.ext k3 (Prod.ext k4 (Prod.ext b3 (Prod.ext h6 (Prod.ext b4 (Prod.ext (Prod.ext e1 e2) b5)))))))⟩
theorem K1.gate3 {p p' q q' : Program} {loose loose' mods mods' : List PySem.Str} {Xt Xt' : Shared → Bool} {M M' : Nat} {as : List Addr} {v : List (Option Obj)} {S : World → OsState → SharedT}
    (ran : ∀ (w : World) (os : OsState), endF (stepQ (denQ tabQ) p' w) M' p' w os = some (S w os))
    (pre : ∀ (w : World) (os : OsState), (some (S w os)).map (fun s => (looksF p' (boot_heap w.params) s.abs, seenQ q' loose' mods' Xt' s.abs)) = some (true, openGood q' loose'))
    {w : World} {os : OsState}
    (h : as.map (getT (S w os)) = v)
    (e0 : endF (stepQ (denQ tabQ) p w) M p w os = endF (stepQ (denQ tabQ) p' w) M' p' w os)
    (e1 : (some (S w os)).map (fun s => (looksF p (boot_heap w.params) s.abs, seenQ q loose mods Xt s.abs)) = (some (S w os)).map (fun s => (looksF p' (boot_heap w.params) s.abs, seenQ q' loose' mods' Xt' s.abs)))
    (e2 : (some (true, openGood q' loose') : Option (Bool × _)) = some (true, openGood q loose)) :
    (endF (stepQ (denQ tabQ) p w) M p w os).map (fun s => (looksF p (boot_heap w.params) s.abs, seenQ q loose mods Xt s.abs, as.map (getT s))) = some (true, openGood q loose, v) := by
  have z := e1.trans ((pre w os).trans e2)
  rw [e0, ran w os]
  simp only [Option.map_some, Option.some.injEq, Prod.mk.injEq] at z ⊢
  exact ⟨z.1, z.2, h⟩
theorem K1.swap {q : Program} {loose : List PySem.Str} {XP : (PySem.Str → Option Value) → Heap → Prop} {K : Params → Frag} {as : List Addr} {e : ∀ P, as = (K P).map (·.1)} {r : RowW} {d : DefRec} {kwd : List (PySem.Str × Expr)} {run : Value → List Value → Sem Value} (e' : ∀ P, as = (K P).map (·.1)) (z : WalkO q loose XP (kHook K as e').says r d kwd run) : WalkO q loose XP (kHook K as e).says r d kwd run := z
structure K1.HeadTag (T : Prop) : Prop where
  out : T
end
noncomputable section
open PySem PySem.W PySem.Calls PyProof.Rows HeadRun
namespace K1.Hs
def goS (st : SharedT → Thread → Option (SharedT × Thread)) (n0 : Nat) (ann : Option Value) : Nat → SharedT → Thread → Option (SharedT × Thread)
  | 0, s, t => some (s, t)
  | m + 1, s, t => match through t with
    | true => none
    | false => match stepOk n0 ann t with
      | false => none
      | true => match st s t with
        | some (s', t') => frS s' fun s' => goS st n0 ann m s' t'
        | none => none
theorem goS_goF {st : SharedT → Thread → Option (SharedT × Thread)} {n0 : Nat} {ann : Option Value} : ∀ {m N : Nat} {s s' : SharedT} {t t' : Thread} {r : SharedT}, goS st n0 ann m s t = some (s', t') → goF st n0 ann N s' t' = some r → goF st n0 ann (m + N) s t = some r
  | 0, N, s, s', t, t', r, h, k => by
    cases h
    rw [Nat.zero_add]
    exact k
  | m + 1, N, s, s', t, t', r, h, k => by
    rw [show m + 1 + N = m + N + 1 by omega]
    unfold goS at h
    unfold goF
    cases ht : through t with
    | true => rw [ht] at h; cases h
    | false =>
      rw [ht] at h
      cases hk : stepOk n0 ann t with
      | false => rw [hk] at h; cases h
      | true =>
        rw [hk] at h
        cases hs : st s t with
        | none => rw [hs] at h; cases h
        | some x =>
          obtain ⟨s2, t2⟩ := x
          rw [hs] at h
          have h3 : (frS s2 fun s' => goS st n0 ann m s' t2) = some (s', t') := h
          rw [frS_eq] at h3
          show (frS s2 fun s' => goF st n0 ann (m + N) s' t2) = some r
          rw [frS_eq]
          exact goS_goF h3 k
theorem end_of {st : SharedT → Thread → Option (SharedT × Thread)} {M : Nat} {p : Program} {w : World} {os : OsState} {t : BT} {n : Nat} {r : SharedT} (h : putAll (boot_heap w.params).objs.toList .nil 0 = some (t, n)) (k : goF st n (bootAnn w) M (bootT w os (t, n)) (topStub p) = some r) : endF st M p w os = some r := by
  unfold endF
  rw [h]
  show (frNat n fun n0 => goF st n0 (bootAnn w) M (bootT w os (t, n0)) (topStub p)) = some r
  rw [frNat_eq]
  exact k
abbrev RR : OpenRow := OpenLaw.row PySem.Challenge.rw_onemember_k04_expressions_made
abbrev N : Value := .none
abbrev I (i : Int) : Value := .int i 0
abbrev S (x : String) (t : Nat) : Value := .str (PySem.Str.ofString x) t
abbrev u (x : String) : PySem.Str := .ofString x
abbrev T (x : String) : Value := .type x
abbrev B (x : String) : Value := .builtin x
abbrev R (a : Nat) : Value := .ref a
abbrev E (P : Params) (x : String) (t : Nat) (v : Value) : DictEntry := ⟨PyData.keyHash P (.ofString x), .str (.ofString x) t, v⟩
def bd : List Stmt := behindTheImports RR.prog
def A (i : Nat) : Stmt := bd.getD i (.Pass default)
def C (i j : Nat) : Stmt := match A i with
  | .ClassDef _ _ _ b _ _ _ _ _ _ _ => b.getD j (.Pass default)
  | s => s
def F (s : Stmt) (nm q : PySem.Str) (g : Nat) (cl : List (PySem.Str × Addr)) (dv kv doc md : Value) (an : Option Addr) (co ct : Value) (bl : Nat) : Data := match s with
  | .FunctionDef _ a b _ _ _ sc _ _ _ => .func ⟨nm, q, a, .stmts b, sc, g, cl, dv, kv, doc, md, an, co, ct, bl⟩
  | _ => .plain
abbrev n (o : Obj) (l r : BT) : BT := .node o l r
abbrev z : BT := .nil
def ev : Env := { scope := RR.prog.main.scope, locals := mainNs, globals := mainNs, cells := [], code := (R 13), frame := some 14 }
def th (i : Nat) (p : Pos) : Thread := ⟨denQ tabQ (.body (bd.drop i) ev), .body bd ev, p, [topFrame ⟨0, 0, 0, 0⟩]⟩
def sh (w : World) (os : OsState) (t : BT) (n k : Nat) : SharedT := ⟨t, n, (boot_heap w.params).life, #[], boot_drawn, k, os⟩
def t0 (P : Params) : BT := (n (boot_o_0 P) (n (boot_o_1 P) (n (boot_o_3 P) (n (boot_o_7 P) z z) z) (n (boot_o_5 P) (n (boot_o_9 P) z z) z)) (n (boot_o_2 P) (n (boot_o_4 P) (n (boot_o_8 P) z z) z) (n (boot_o_6 P) (n (boot_o_10 P) z z) z)))

def o2_1 (P : Params) : Obj := ⟨N, none, (.dict ⟨[E P "type.__subclasses__.ArithmeticError.0" 248 (I 57), E P "type.__subclasses__.ArithmeticError.n" 249 (I 1)]⟩ 2), ⟨[]⟩⟩
def o3_1 (P : Params) : Obj := ⟨(T "dict"), none, (.dict ⟨[E P "__name__" 165 (S "onemember.errors" 194), E P "__doc__" 166 N, E P "__package__" 167 N, E P "__loader__" 168 (B "__main__.__loader__#opaque"), E P "__spec__" 169 N, E P "__annotations__" 170 (R 6), E P "__builtins__" 171 (R 4), E P "__file__" 173 (S "/claim/cut.py" 172), E P "__cached__" 174 N, E P "_wall" 193 (R 21), E P "SetError" 213 (R 31), E P "StateError" 231 (R 44), E P "LimitError" 251 (R 57), E P "NotMembers" 276 (R 77), E P "NotAChange" 301 (R 96), E P "NotAnExpression" 326 (R 115), E P "InvalidForm" 351 (R 134), E P "InvalidText" 376 (R 153), E P "UnknownField" 401 (R 172), E P "InvalidNames" 426 (R 191), E P "InvalidSets" 451 (R 210)]⟩ 21), ⟨[]⟩⟩
def o11 : Obj := ⟨(T "tuple"), none, (.seq ⟨[]⟩ 0), ⟨[]⟩⟩
def o12 : Obj := ⟨N, none, (.fields ⟨[(I 1), (I 0), (R 20), (I 5), (I 0), (R 27), (I 7), (I 0), (R 40), (I 9), (I 0), (R 53), (I 11), (I 0), (R 66), (I 15), (I 0), (R 85), (I 19), (I 0), (R 104), (I 23), (I 0), (R 123), (I 27), (I 0), (R 142), (I 31), (I 0), (R 161), (I 35), (I 0), (R 180), (I 39), (I 0), (R 199)]⟩), ⟨[]⟩⟩
def o13 : Obj := ⟨(T "code"), none, (.fields ⟨[(S "<module>" 182), (S "<module>" 183), (S "/claim/cut.py" 184), (I 1), (I 0), (I 0), (I 0), (I 0), (R 11), (.bool false), (I 181), (R 12), N, N, N, N, (I 185), (I 1), (S "/claim/cut.py" 186)]⟩), ⟨[]⟩⟩
def o14 : Obj := ⟨(T "frame"), none, .plain, ⟨[some (R 13), some (R 3), some (R 3), none, some (S "__main__" 164), none, some (R 0)]⟩⟩
def o15 : Obj := ⟨(T "tuple"), none, (.seq ⟨[]⟩ 0), ⟨[]⟩⟩
def o16 : Obj := ⟨N, none, (.fields ⟨[]⟩), ⟨[]⟩⟩
def o17 : Obj := ⟨(T "tuple"), none, (.seq ⟨[(S "k" 190)]⟩ 0), ⟨[]⟩⟩
def o18 : Obj := ⟨(T "tuple"), none, (.seq ⟨[]⟩ 0), ⟨[]⟩⟩
def o19 : Obj := ⟨N, none, (F (A 0) (u "_wall") (u "_wall") 0 [] N N N N none N N 0), ⟨[]⟩⟩
def o20 : Obj := ⟨(T "code"), none, (.fields ⟨[(S "_wall" 187), (S "_wall" 188), (S "/claim/cut.py" 189), (I 1), (I 1), (I 0), (I 0), (I 3), (R 15), (.bool true), (I 181), (R 16), N, (R 17), (R 18), (R 19), (I 191), (I 1), (S "/claim/cut.py" 192)]⟩), ⟨[]⟩⟩
def o21 : Obj := ⟨(T "function"), none, (F (A 0) (u "_wall") (u "_wall") 3 [] N N N (S "__main__" 164) none (R 20) N 0), ⟨[]⟩⟩
def o22 : Obj := ⟨(T "tuple"), none, (.seq ⟨[(T "ValueError")]⟩ 0), ⟨[]⟩⟩
def o23 : Obj := ⟨(T "builtin_function_or_method"), none, (.fields ⟨[(B "type.__prepare__"), (T "type")]⟩), ⟨[]⟩⟩
def o24 (P : Params) : Obj := ⟨(T "dict"), none, (.dict ⟨[E P "__module__" 203 (S "onemember.errors" 194), E P "__qualname__" 205 (S "SetError" 204), E P "__firstlineno__" 207 (.int 5 206), E P "__static_attributes__" 208 (R 29)]⟩ 4), ⟨[]⟩⟩
def o25 : Obj := ⟨(T "tuple"), none, (.seq ⟨[]⟩ 0), ⟨[]⟩⟩
def o26 : Obj := ⟨N, none, (.fields ⟨[]⟩), ⟨[]⟩⟩
def o27 : Obj := ⟨(T "code"), none, (.fields ⟨[(S "SetError" 198), (S "SetError" 199), (S "/claim/cut.py" 200), (I 5), (I 0), (I 0), (I 0), (I 0), (R 25), (.bool false), (I 181), (R 26), N, N, N, N, (I 201), (I 5), (S "/claim/cut.py" 202)]⟩), ⟨[]⟩⟩
def o28 : Obj := ⟨(T "frame"), none, .plain, ⟨[some (R 27), some (R 3), some (R 24), none, some (S "onemember.errors" 194), none, some (R 0)]⟩⟩
def o29 : Obj := ⟨(T "tuple"), none, (.seq ⟨[]⟩ 0), ⟨[]⟩⟩
def o30 (P : Params) : Obj := ⟨(T "dict"), none, (.dict ⟨[E P "__module__" 203 (S "onemember.errors" 194), E P "__firstlineno__" 207 (.int 5 206), E P "__static_attributes__" 208 (R 29), E P "__weakref__" 210 (R 32), E P "__doc__" 211 N]⟩ 3), ⟨[]⟩⟩
def o31 : Obj := ⟨(T "type"), none, (.cls ⟨(u "SetError"), [(T "ValueError")], [(R 31), (T "ValueError"), (T "Exception"), (T "BaseException"), (T "object")], 30, (u "SetError"), true, [], [(R 77), (R 96), (R 115), (R 134), (R 153), (R 172), (R 191), (R 210)], false, none, false⟩), ⟨[some (R 22), none, some (S "SetError" 196), some (S "SetError" 204), some (B "ValueError.__new__"), some (.bool true)]⟩⟩
def o32 : Obj := ⟨(T "getset_descriptor"), none, (.fields ⟨[(S "__weakref__" 209), (R 31), (B "ExceptionGroup.__weakref__"), N]⟩), ⟨[]⟩⟩
def o33 : Obj := ⟨(T "super"), none, (.fields ⟨[(R 31), (R 31), (R 31)]⟩), ⟨[]⟩⟩
def o34 : Obj := ⟨(T "builtin_function_or_method"), none, (.fields ⟨[(B "object.__init_subclass__"), (R 31)]⟩), ⟨[]⟩⟩
def o35 : Obj := ⟨(T "tuple"), none, (.seq ⟨[(T "LookupError")]⟩ 0), ⟨[]⟩⟩
def o36 : Obj := ⟨(T "builtin_function_or_method"), none, (.fields ⟨[(B "type.__prepare__"), (T "type")]⟩), ⟨[]⟩⟩
def o37 (P : Params) : Obj := ⟨(T "dict"), none, (.dict ⟨[E P "__module__" 221 (S "onemember.errors" 194), E P "__qualname__" 223 (S "StateError" 222), E P "__firstlineno__" 225 (.int 7 224), E P "__static_attributes__" 226 (R 42)]⟩ 4), ⟨[]⟩⟩
def o38 : Obj := ⟨(T "tuple"), none, (.seq ⟨[]⟩ 0), ⟨[]⟩⟩
def o39 : Obj := ⟨N, none, (.fields ⟨[]⟩), ⟨[]⟩⟩
def o40 : Obj := ⟨(T "code"), none, (.fields ⟨[(S "StateError" 216), (S "StateError" 217), (S "/claim/cut.py" 218), (I 7), (I 0), (I 0), (I 0), (I 0), (R 38), (.bool false), (I 181), (R 39), N, N, N, N, (I 219), (I 7), (S "/claim/cut.py" 220)]⟩), ⟨[]⟩⟩
def o41 : Obj := ⟨(T "frame"), none, .plain, ⟨[some (R 40), some (R 3), some (R 37), none, some (S "onemember.errors" 194), none, some (R 0)]⟩⟩
def o42 : Obj := ⟨(T "tuple"), none, (.seq ⟨[]⟩ 0), ⟨[]⟩⟩
def o43 (P : Params) : Obj := ⟨(T "dict"), none, (.dict ⟨[E P "__module__" 221 (S "onemember.errors" 194), E P "__firstlineno__" 225 (.int 7 224), E P "__static_attributes__" 226 (R 42), E P "__weakref__" 228 (R 45), E P "__doc__" 229 N]⟩ 3), ⟨[]⟩⟩
def o44 : Obj := ⟨(T "type"), none, (.cls ⟨(u "StateError"), [(T "LookupError")], [(R 44), (T "LookupError"), (T "Exception"), (T "BaseException"), (T "object")], 43, (u "StateError"), true, [], [], false, none, false⟩), ⟨[some (R 35), none, some (S "StateError" 214), some (S "StateError" 222), some (B "LookupError.__new__"), some (.bool true)]⟩⟩
def o45 : Obj := ⟨(T "getset_descriptor"), none, (.fields ⟨[(S "__weakref__" 227), (R 44), (B "ExceptionGroup.__weakref__"), N]⟩), ⟨[]⟩⟩
def o46 : Obj := ⟨(T "super"), none, (.fields ⟨[(R 44), (R 44), (R 44)]⟩), ⟨[]⟩⟩
def o47 : Obj := ⟨(T "builtin_function_or_method"), none, (.fields ⟨[(B "object.__init_subclass__"), (R 44)]⟩), ⟨[]⟩⟩
def o48 : Obj := ⟨(T "tuple"), none, (.seq ⟨[(T "ArithmeticError")]⟩ 0), ⟨[]⟩⟩
def o49 : Obj := ⟨(T "builtin_function_or_method"), none, (.fields ⟨[(B "type.__prepare__"), (T "type")]⟩), ⟨[]⟩⟩
def o50 (P : Params) : Obj := ⟨(T "dict"), none, (.dict ⟨[E P "__module__" 239 (S "onemember.errors" 194), E P "__qualname__" 241 (S "LimitError" 240), E P "__firstlineno__" 243 (.int 9 242), E P "__static_attributes__" 244 (R 55)]⟩ 4), ⟨[]⟩⟩
def o51 : Obj := ⟨(T "tuple"), none, (.seq ⟨[]⟩ 0), ⟨[]⟩⟩
def o52 : Obj := ⟨N, none, (.fields ⟨[]⟩), ⟨[]⟩⟩
def o53 : Obj := ⟨(T "code"), none, (.fields ⟨[(S "LimitError" 234), (S "LimitError" 235), (S "/claim/cut.py" 236), (I 9), (I 0), (I 0), (I 0), (I 0), (R 51), (.bool false), (I 181), (R 52), N, N, N, N, (I 237), (I 9), (S "/claim/cut.py" 238)]⟩), ⟨[]⟩⟩
def o54 : Obj := ⟨(T "frame"), none, .plain, ⟨[some (R 53), some (R 3), some (R 50), none, some (S "onemember.errors" 194), none, some (R 0)]⟩⟩
def o55 : Obj := ⟨(T "tuple"), none, (.seq ⟨[]⟩ 0), ⟨[]⟩⟩
def o56 (P : Params) : Obj := ⟨(T "dict"), none, (.dict ⟨[E P "__module__" 239 (S "onemember.errors" 194), E P "__firstlineno__" 243 (.int 9 242), E P "__static_attributes__" 244 (R 55), E P "__weakref__" 246 (R 58), E P "__doc__" 247 N]⟩ 3), ⟨[]⟩⟩
def o57 : Obj := ⟨(T "type"), none, (.cls ⟨(u "LimitError"), [(T "ArithmeticError")], [(R 57), (T "ArithmeticError"), (T "Exception"), (T "BaseException"), (T "object")], 56, (u "LimitError"), true, [], [], false, none, false⟩), ⟨[some (R 48), none, some (S "LimitError" 232), some (S "LimitError" 240), some (B "ArithmeticError.__new__"), some (.bool true)]⟩⟩
def o58 : Obj := ⟨(T "getset_descriptor"), none, (.fields ⟨[(S "__weakref__" 245), (R 57), (B "ExceptionGroup.__weakref__"), N]⟩), ⟨[]⟩⟩
def o59 : Obj := ⟨(T "super"), none, (.fields ⟨[(R 57), (R 57), (R 57)]⟩), ⟨[]⟩⟩
def o60 : Obj := ⟨(T "builtin_function_or_method"), none, (.fields ⟨[(B "object.__init_subclass__"), (R 57)]⟩), ⟨[]⟩⟩
def o61 : Obj := ⟨(T "tuple"), none, (.seq ⟨[(R 31)]⟩ 0), ⟨[]⟩⟩
def o62 : Obj := ⟨(T "builtin_function_or_method"), none, (.fields ⟨[(B "type.__prepare__"), (T "type")]⟩), ⟨[]⟩⟩
def o63 (P : Params) : Obj := ⟨(T "dict"), none, (.dict ⟨[E P "__module__" 259 (S "onemember.errors" 194), E P "__qualname__" 261 (S "NotMembers" 260), E P "__firstlineno__" 263 (.int 11 262), E P "__init__" 271 (R 74), E P "__static_attributes__" 273 (R 75)]⟩ 5), ⟨[]⟩⟩
def o64 : Obj := ⟨(T "tuple"), none, (.seq ⟨[]⟩ 0), ⟨[]⟩⟩
def o65 : Obj := ⟨N, none, (.fields ⟨[(I 13), (I 4), (R 73)]⟩), ⟨[]⟩⟩
def o66 : Obj := ⟨(T "code"), none, (.fields ⟨[(S "NotMembers" 254), (S "NotMembers" 255), (S "/claim/cut.py" 256), (I 11), (I 0), (I 0), (I 0), (I 0), (R 64), (.bool false), (I 181), (R 65), N, N, N, N, (I 257), (I 11), (S "/claim/cut.py" 258)]⟩), ⟨[]⟩⟩
def o67 : Obj := ⟨(T "frame"), none, .plain, ⟨[some (R 66), some (R 3), some (R 63), none, some (S "onemember.errors" 194), none, some (R 0)]⟩⟩
def o68 : Obj := ⟨(T "tuple"), none, (.seq ⟨[]⟩ 0), ⟨[]⟩⟩
def o69 : Obj := ⟨N, none, (.fields ⟨[]⟩), ⟨[]⟩⟩
def o70 : Obj := ⟨(T "tuple"), none, (.seq ⟨[(S "self" 267), (S "value" 268)]⟩ 0), ⟨[]⟩⟩
def o71 : Obj := ⟨(T "tuple"), none, (.seq ⟨[]⟩ 0), ⟨[]⟩⟩
def o72 : Obj := ⟨N, none, (F (C 5 0) (u "__init__") (u "NotMembers.__init__") 0 [] N N N N none N N 0), ⟨[]⟩⟩
def o73 : Obj := ⟨(T "code"), none, (.fields ⟨[(S "__init__" 264), (S "NotMembers.__init__" 265), (S "/claim/cut.py" 266), (I 13), (I 2), (I 0), (I 0), (I 3), (R 68), (.bool true), (I 181), (R 69), N, (R 70), (R 71), (R 72), (I 269), (I 13), (S "/claim/cut.py" 270)]⟩), ⟨[]⟩⟩
def o74 : Obj := ⟨(T "function"), none, (F (C 5 0) (u "__init__") (u "NotMembers.__init__") 3 [] N N N (S "onemember.errors" 194) none (R 73) N 0), ⟨[]⟩⟩
def o75 : Obj := ⟨(T "tuple"), none, (.seq ⟨[(S "value" 272)]⟩ 0), ⟨[]⟩⟩
def o76 (P : Params) : Obj := ⟨(T "dict"), none, (.dict ⟨[E P "__module__" 259 (S "onemember.errors" 194), E P "__firstlineno__" 263 (.int 11 262), E P "__init__" 271 (R 74), E P "__static_attributes__" 273 (R 75), E P "__doc__" 274 N]⟩ 2), ⟨[]⟩⟩
def o77 : Obj := ⟨(T "type"), none, (.cls ⟨(u "NotMembers"), [(R 31)], [(R 77), (R 31), (T "ValueError"), (T "Exception"), (T "BaseException"), (T "object")], 76, (u "NotMembers"), true, [], [], false, none, false⟩), ⟨[some (R 61), none, some (S "NotMembers" 252), some (S "NotMembers" 260), some (B "ValueError.__new__"), some (.bool true)]⟩⟩
def o78 : Obj := ⟨(T "super"), none, (.fields ⟨[(R 77), (R 77), (R 77)]⟩), ⟨[]⟩⟩
def o79 : Obj := ⟨(T "builtin_function_or_method"), none, (.fields ⟨[(B "object.__init_subclass__"), (R 77)]⟩), ⟨[]⟩⟩
def o80 : Obj := ⟨(T "tuple"), none, (.seq ⟨[(R 31)]⟩ 0), ⟨[]⟩⟩
def o81 : Obj := ⟨(T "builtin_function_or_method"), none, (.fields ⟨[(B "type.__prepare__"), (T "type")]⟩), ⟨[]⟩⟩
def o82 (P : Params) : Obj := ⟨(T "dict"), none, (.dict ⟨[E P "__module__" 284 (S "onemember.errors" 194), E P "__qualname__" 286 (S "NotAChange" 285), E P "__firstlineno__" 288 (.int 15 287), E P "__init__" 296 (R 93), E P "__static_attributes__" 298 (R 94)]⟩ 5), ⟨[]⟩⟩
def o83 : Obj := ⟨(T "tuple"), none, (.seq ⟨[]⟩ 0), ⟨[]⟩⟩
def o84 : Obj := ⟨N, none, (.fields ⟨[(I 17), (I 4), (R 92)]⟩), ⟨[]⟩⟩
def o85 : Obj := ⟨(T "code"), none, (.fields ⟨[(S "NotAChange" 279), (S "NotAChange" 280), (S "/claim/cut.py" 281), (I 15), (I 0), (I 0), (I 0), (I 0), (R 83), (.bool false), (I 181), (R 84), N, N, N, N, (I 282), (I 15), (S "/claim/cut.py" 283)]⟩), ⟨[]⟩⟩
def o86 : Obj := ⟨(T "frame"), none, .plain, ⟨[some (R 85), some (R 3), some (R 82), none, some (S "onemember.errors" 194), none, some (R 0)]⟩⟩
def o87 : Obj := ⟨(T "tuple"), none, (.seq ⟨[]⟩ 0), ⟨[]⟩⟩
def o88 : Obj := ⟨N, none, (.fields ⟨[]⟩), ⟨[]⟩⟩
def o89 : Obj := ⟨(T "tuple"), none, (.seq ⟨[(S "self" 292), (S "value" 293)]⟩ 0), ⟨[]⟩⟩
def o90 : Obj := ⟨(T "tuple"), none, (.seq ⟨[]⟩ 0), ⟨[]⟩⟩
def o91 : Obj := ⟨N, none, (F (C 6 0) (u "__init__") (u "NotAChange.__init__") 0 [] N N N N none N N 0), ⟨[]⟩⟩
def o92 : Obj := ⟨(T "code"), none, (.fields ⟨[(S "__init__" 289), (S "NotAChange.__init__" 290), (S "/claim/cut.py" 291), (I 17), (I 2), (I 0), (I 0), (I 3), (R 87), (.bool true), (I 181), (R 88), N, (R 89), (R 90), (R 91), (I 294), (I 17), (S "/claim/cut.py" 295)]⟩), ⟨[]⟩⟩
def o93 : Obj := ⟨(T "function"), none, (F (C 6 0) (u "__init__") (u "NotAChange.__init__") 3 [] N N N (S "onemember.errors" 194) none (R 92) N 0), ⟨[]⟩⟩
def o94 : Obj := ⟨(T "tuple"), none, (.seq ⟨[(S "value" 297)]⟩ 0), ⟨[]⟩⟩
def o95 (P : Params) : Obj := ⟨(T "dict"), none, (.dict ⟨[E P "__module__" 284 (S "onemember.errors" 194), E P "__firstlineno__" 288 (.int 15 287), E P "__init__" 296 (R 93), E P "__static_attributes__" 298 (R 94), E P "__doc__" 299 N]⟩ 2), ⟨[]⟩⟩
def o96 : Obj := ⟨(T "type"), none, (.cls ⟨(u "NotAChange"), [(R 31)], [(R 96), (R 31), (T "ValueError"), (T "Exception"), (T "BaseException"), (T "object")], 95, (u "NotAChange"), true, [], [], false, none, false⟩), ⟨[some (R 80), none, some (S "NotAChange" 277), some (S "NotAChange" 285), some (B "ValueError.__new__"), some (.bool true)]⟩⟩
def o97 : Obj := ⟨(T "super"), none, (.fields ⟨[(R 96), (R 96), (R 96)]⟩), ⟨[]⟩⟩
def o98 : Obj := ⟨(T "builtin_function_or_method"), none, (.fields ⟨[(B "object.__init_subclass__"), (R 96)]⟩), ⟨[]⟩⟩
def o99 : Obj := ⟨(T "tuple"), none, (.seq ⟨[(R 31)]⟩ 0), ⟨[]⟩⟩
def o100 : Obj := ⟨(T "builtin_function_or_method"), none, (.fields ⟨[(B "type.__prepare__"), (T "type")]⟩), ⟨[]⟩⟩
def o101 (P : Params) : Obj := ⟨(T "dict"), none, (.dict ⟨[E P "__module__" 309 (S "onemember.errors" 194), E P "__qualname__" 311 (S "NotAnExpression" 310), E P "__firstlineno__" 313 (.int 19 312), E P "__init__" 321 (R 112), E P "__static_attributes__" 323 (R 113)]⟩ 5), ⟨[]⟩⟩
def o102 : Obj := ⟨(T "tuple"), none, (.seq ⟨[]⟩ 0), ⟨[]⟩⟩
def o103 : Obj := ⟨N, none, (.fields ⟨[(I 21), (I 4), (R 111)]⟩), ⟨[]⟩⟩
def o104 : Obj := ⟨(T "code"), none, (.fields ⟨[(S "NotAnExpression" 304), (S "NotAnExpression" 305), (S "/claim/cut.py" 306), (I 19), (I 0), (I 0), (I 0), (I 0), (R 102), (.bool false), (I 181), (R 103), N, N, N, N, (I 307), (I 19), (S "/claim/cut.py" 308)]⟩), ⟨[]⟩⟩
def o105 : Obj := ⟨(T "frame"), none, .plain, ⟨[some (R 104), some (R 3), some (R 101), none, some (S "onemember.errors" 194), none, some (R 0)]⟩⟩
def o106 : Obj := ⟨(T "tuple"), none, (.seq ⟨[]⟩ 0), ⟨[]⟩⟩
def o107 : Obj := ⟨N, none, (.fields ⟨[]⟩), ⟨[]⟩⟩
def o108 : Obj := ⟨(T "tuple"), none, (.seq ⟨[(S "self" 317), (S "value" 318)]⟩ 0), ⟨[]⟩⟩
def o109 : Obj := ⟨(T "tuple"), none, (.seq ⟨[]⟩ 0), ⟨[]⟩⟩
def o110 : Obj := ⟨N, none, (F (C 7 0) (u "__init__") (u "NotAnExpression.__init__") 0 [] N N N N none N N 0), ⟨[]⟩⟩
def o111 : Obj := ⟨(T "code"), none, (.fields ⟨[(S "__init__" 314), (S "NotAnExpression.__init__" 315), (S "/claim/cut.py" 316), (I 21), (I 2), (I 0), (I 0), (I 3), (R 106), (.bool true), (I 181), (R 107), N, (R 108), (R 109), (R 110), (I 319), (I 21), (S "/claim/cut.py" 320)]⟩), ⟨[]⟩⟩
def o112 : Obj := ⟨(T "function"), none, (F (C 7 0) (u "__init__") (u "NotAnExpression.__init__") 3 [] N N N (S "onemember.errors" 194) none (R 111) N 0), ⟨[]⟩⟩
def o113 : Obj := ⟨(T "tuple"), none, (.seq ⟨[(S "value" 322)]⟩ 0), ⟨[]⟩⟩
def o114 (P : Params) : Obj := ⟨(T "dict"), none, (.dict ⟨[E P "__module__" 309 (S "onemember.errors" 194), E P "__firstlineno__" 313 (.int 19 312), E P "__init__" 321 (R 112), E P "__static_attributes__" 323 (R 113), E P "__doc__" 324 N]⟩ 2), ⟨[]⟩⟩
def o115 : Obj := ⟨(T "type"), none, (.cls ⟨(u "NotAnExpression"), [(R 31)], [(R 115), (R 31), (T "ValueError"), (T "Exception"), (T "BaseException"), (T "object")], 114, (u "NotAnExpression"), true, [], [], false, none, false⟩), ⟨[some (R 99), none, some (S "NotAnExpression" 302), some (S "NotAnExpression" 310), some (B "ValueError.__new__"), some (.bool true)]⟩⟩
def o116 : Obj := ⟨(T "super"), none, (.fields ⟨[(R 115), (R 115), (R 115)]⟩), ⟨[]⟩⟩
def o117 : Obj := ⟨(T "builtin_function_or_method"), none, (.fields ⟨[(B "object.__init_subclass__"), (R 115)]⟩), ⟨[]⟩⟩
def o118 : Obj := ⟨(T "tuple"), none, (.seq ⟨[(R 31)]⟩ 0), ⟨[]⟩⟩
def o119 : Obj := ⟨(T "builtin_function_or_method"), none, (.fields ⟨[(B "type.__prepare__"), (T "type")]⟩), ⟨[]⟩⟩
def o120 (P : Params) : Obj := ⟨(T "dict"), none, (.dict ⟨[E P "__module__" 334 (S "onemember.errors" 194), E P "__qualname__" 336 (S "InvalidForm" 335), E P "__firstlineno__" 338 (.int 23 337), E P "__init__" 346 (R 131), E P "__static_attributes__" 348 (R 132)]⟩ 5), ⟨[]⟩⟩
def o121 : Obj := ⟨(T "tuple"), none, (.seq ⟨[]⟩ 0), ⟨[]⟩⟩
def o122 : Obj := ⟨N, none, (.fields ⟨[(I 25), (I 4), (R 130)]⟩), ⟨[]⟩⟩
def o123 : Obj := ⟨(T "code"), none, (.fields ⟨[(S "InvalidForm" 329), (S "InvalidForm" 330), (S "/claim/cut.py" 331), (I 23), (I 0), (I 0), (I 0), (I 0), (R 121), (.bool false), (I 181), (R 122), N, N, N, N, (I 332), (I 23), (S "/claim/cut.py" 333)]⟩), ⟨[]⟩⟩
def o124 : Obj := ⟨(T "frame"), none, .plain, ⟨[some (R 123), some (R 3), some (R 120), none, some (S "onemember.errors" 194), none, some (R 0)]⟩⟩
def o125 : Obj := ⟨(T "tuple"), none, (.seq ⟨[]⟩ 0), ⟨[]⟩⟩
def o126 : Obj := ⟨N, none, (.fields ⟨[]⟩), ⟨[]⟩⟩
def o127 : Obj := ⟨(T "tuple"), none, (.seq ⟨[(S "self" 342), (S "value" 343)]⟩ 0), ⟨[]⟩⟩
def o128 : Obj := ⟨(T "tuple"), none, (.seq ⟨[]⟩ 0), ⟨[]⟩⟩
def o129 : Obj := ⟨N, none, (F (C 8 0) (u "__init__") (u "InvalidForm.__init__") 0 [] N N N N none N N 0), ⟨[]⟩⟩
def o130 : Obj := ⟨(T "code"), none, (.fields ⟨[(S "__init__" 339), (S "InvalidForm.__init__" 340), (S "/claim/cut.py" 341), (I 25), (I 2), (I 0), (I 0), (I 3), (R 125), (.bool true), (I 181), (R 126), N, (R 127), (R 128), (R 129), (I 344), (I 25), (S "/claim/cut.py" 345)]⟩), ⟨[]⟩⟩
def o131 : Obj := ⟨(T "function"), none, (F (C 8 0) (u "__init__") (u "InvalidForm.__init__") 3 [] N N N (S "onemember.errors" 194) none (R 130) N 0), ⟨[]⟩⟩
def o132 : Obj := ⟨(T "tuple"), none, (.seq ⟨[(S "value" 347)]⟩ 0), ⟨[]⟩⟩
def o133 (P : Params) : Obj := ⟨(T "dict"), none, (.dict ⟨[E P "__module__" 334 (S "onemember.errors" 194), E P "__firstlineno__" 338 (.int 23 337), E P "__init__" 346 (R 131), E P "__static_attributes__" 348 (R 132), E P "__doc__" 349 N]⟩ 2), ⟨[]⟩⟩
def o134 : Obj := ⟨(T "type"), none, (.cls ⟨(u "InvalidForm"), [(R 31)], [(R 134), (R 31), (T "ValueError"), (T "Exception"), (T "BaseException"), (T "object")], 133, (u "InvalidForm"), true, [], [], false, none, false⟩), ⟨[some (R 118), none, some (S "InvalidForm" 327), some (S "InvalidForm" 335), some (B "ValueError.__new__"), some (.bool true)]⟩⟩
def o135 : Obj := ⟨(T "super"), none, (.fields ⟨[(R 134), (R 134), (R 134)]⟩), ⟨[]⟩⟩
def o136 : Obj := ⟨(T "builtin_function_or_method"), none, (.fields ⟨[(B "object.__init_subclass__"), (R 134)]⟩), ⟨[]⟩⟩
def o137 : Obj := ⟨(T "tuple"), none, (.seq ⟨[(R 31)]⟩ 0), ⟨[]⟩⟩
def o138 : Obj := ⟨(T "builtin_function_or_method"), none, (.fields ⟨[(B "type.__prepare__"), (T "type")]⟩), ⟨[]⟩⟩
def o139 (P : Params) : Obj := ⟨(T "dict"), none, (.dict ⟨[E P "__module__" 359 (S "onemember.errors" 194), E P "__qualname__" 361 (S "InvalidText" 360), E P "__firstlineno__" 363 (.int 27 362), E P "__init__" 371 (R 150), E P "__static_attributes__" 373 (R 151)]⟩ 5), ⟨[]⟩⟩
def o140 : Obj := ⟨(T "tuple"), none, (.seq ⟨[]⟩ 0), ⟨[]⟩⟩
def o141 : Obj := ⟨N, none, (.fields ⟨[(I 29), (I 4), (R 149)]⟩), ⟨[]⟩⟩
def o142 : Obj := ⟨(T "code"), none, (.fields ⟨[(S "InvalidText" 354), (S "InvalidText" 355), (S "/claim/cut.py" 356), (I 27), (I 0), (I 0), (I 0), (I 0), (R 140), (.bool false), (I 181), (R 141), N, N, N, N, (I 357), (I 27), (S "/claim/cut.py" 358)]⟩), ⟨[]⟩⟩
def o143 : Obj := ⟨(T "frame"), none, .plain, ⟨[some (R 142), some (R 3), some (R 139), none, some (S "onemember.errors" 194), none, some (R 0)]⟩⟩
def o144 : Obj := ⟨(T "tuple"), none, (.seq ⟨[]⟩ 0), ⟨[]⟩⟩
def o145 : Obj := ⟨N, none, (.fields ⟨[]⟩), ⟨[]⟩⟩
def o146 : Obj := ⟨(T "tuple"), none, (.seq ⟨[(S "self" 367), (S "value" 368)]⟩ 0), ⟨[]⟩⟩
def o147 : Obj := ⟨(T "tuple"), none, (.seq ⟨[]⟩ 0), ⟨[]⟩⟩
def o148 : Obj := ⟨N, none, (F (C 9 0) (u "__init__") (u "InvalidText.__init__") 0 [] N N N N none N N 0), ⟨[]⟩⟩
def o149 : Obj := ⟨(T "code"), none, (.fields ⟨[(S "__init__" 364), (S "InvalidText.__init__" 365), (S "/claim/cut.py" 366), (I 29), (I 2), (I 0), (I 0), (I 3), (R 144), (.bool true), (I 181), (R 145), N, (R 146), (R 147), (R 148), (I 369), (I 29), (S "/claim/cut.py" 370)]⟩), ⟨[]⟩⟩
def o150 : Obj := ⟨(T "function"), none, (F (C 9 0) (u "__init__") (u "InvalidText.__init__") 3 [] N N N (S "onemember.errors" 194) none (R 149) N 0), ⟨[]⟩⟩
def o151 : Obj := ⟨(T "tuple"), none, (.seq ⟨[(S "value" 372)]⟩ 0), ⟨[]⟩⟩
def o152 (P : Params) : Obj := ⟨(T "dict"), none, (.dict ⟨[E P "__module__" 359 (S "onemember.errors" 194), E P "__firstlineno__" 363 (.int 27 362), E P "__init__" 371 (R 150), E P "__static_attributes__" 373 (R 151), E P "__doc__" 374 N]⟩ 2), ⟨[]⟩⟩
def o153 : Obj := ⟨(T "type"), none, (.cls ⟨(u "InvalidText"), [(R 31)], [(R 153), (R 31), (T "ValueError"), (T "Exception"), (T "BaseException"), (T "object")], 152, (u "InvalidText"), true, [], [], false, none, false⟩), ⟨[some (R 137), none, some (S "InvalidText" 352), some (S "InvalidText" 360), some (B "ValueError.__new__"), some (.bool true)]⟩⟩
def o154 : Obj := ⟨(T "super"), none, (.fields ⟨[(R 153), (R 153), (R 153)]⟩), ⟨[]⟩⟩
def o155 : Obj := ⟨(T "builtin_function_or_method"), none, (.fields ⟨[(B "object.__init_subclass__"), (R 153)]⟩), ⟨[]⟩⟩
def o156 : Obj := ⟨(T "tuple"), none, (.seq ⟨[(R 31)]⟩ 0), ⟨[]⟩⟩
def o157 : Obj := ⟨(T "builtin_function_or_method"), none, (.fields ⟨[(B "type.__prepare__"), (T "type")]⟩), ⟨[]⟩⟩
def o158 (P : Params) : Obj := ⟨(T "dict"), none, (.dict ⟨[E P "__module__" 384 (S "onemember.errors" 194), E P "__qualname__" 386 (S "UnknownField" 385), E P "__firstlineno__" 388 (.int 31 387), E P "__init__" 396 (R 169), E P "__static_attributes__" 398 (R 170)]⟩ 5), ⟨[]⟩⟩
def o159 : Obj := ⟨(T "tuple"), none, (.seq ⟨[]⟩ 0), ⟨[]⟩⟩
def o160 : Obj := ⟨N, none, (.fields ⟨[(I 33), (I 4), (R 168)]⟩), ⟨[]⟩⟩
def o161 : Obj := ⟨(T "code"), none, (.fields ⟨[(S "UnknownField" 379), (S "UnknownField" 380), (S "/claim/cut.py" 381), (I 31), (I 0), (I 0), (I 0), (I 0), (R 159), (.bool false), (I 181), (R 160), N, N, N, N, (I 382), (I 31), (S "/claim/cut.py" 383)]⟩), ⟨[]⟩⟩
def o162 : Obj := ⟨(T "frame"), none, .plain, ⟨[some (R 161), some (R 3), some (R 158), none, some (S "onemember.errors" 194), none, some (R 0)]⟩⟩
def o163 : Obj := ⟨(T "tuple"), none, (.seq ⟨[]⟩ 0), ⟨[]⟩⟩
def o164 : Obj := ⟨N, none, (.fields ⟨[]⟩), ⟨[]⟩⟩
def o165 : Obj := ⟨(T "tuple"), none, (.seq ⟨[(S "self" 392), (S "value" 393)]⟩ 0), ⟨[]⟩⟩
def o166 : Obj := ⟨(T "tuple"), none, (.seq ⟨[]⟩ 0), ⟨[]⟩⟩
def o167 : Obj := ⟨N, none, (F (C 10 0) (u "__init__") (u "UnknownField.__init__") 0 [] N N N N none N N 0), ⟨[]⟩⟩
def o168 : Obj := ⟨(T "code"), none, (.fields ⟨[(S "__init__" 389), (S "UnknownField.__init__" 390), (S "/claim/cut.py" 391), (I 33), (I 2), (I 0), (I 0), (I 3), (R 163), (.bool true), (I 181), (R 164), N, (R 165), (R 166), (R 167), (I 394), (I 33), (S "/claim/cut.py" 395)]⟩), ⟨[]⟩⟩
def o169 : Obj := ⟨(T "function"), none, (F (C 10 0) (u "__init__") (u "UnknownField.__init__") 3 [] N N N (S "onemember.errors" 194) none (R 168) N 0), ⟨[]⟩⟩
def o170 : Obj := ⟨(T "tuple"), none, (.seq ⟨[(S "value" 397)]⟩ 0), ⟨[]⟩⟩
def o171 (P : Params) : Obj := ⟨(T "dict"), none, (.dict ⟨[E P "__module__" 384 (S "onemember.errors" 194), E P "__firstlineno__" 388 (.int 31 387), E P "__init__" 396 (R 169), E P "__static_attributes__" 398 (R 170), E P "__doc__" 399 N]⟩ 2), ⟨[]⟩⟩
def o172 : Obj := ⟨(T "type"), none, (.cls ⟨(u "UnknownField"), [(R 31)], [(R 172), (R 31), (T "ValueError"), (T "Exception"), (T "BaseException"), (T "object")], 171, (u "UnknownField"), true, [], [], false, none, false⟩), ⟨[some (R 156), none, some (S "UnknownField" 377), some (S "UnknownField" 385), some (B "ValueError.__new__"), some (.bool true)]⟩⟩
def o173 : Obj := ⟨(T "super"), none, (.fields ⟨[(R 172), (R 172), (R 172)]⟩), ⟨[]⟩⟩
def o174 : Obj := ⟨(T "builtin_function_or_method"), none, (.fields ⟨[(B "object.__init_subclass__"), (R 172)]⟩), ⟨[]⟩⟩
def o175 : Obj := ⟨(T "tuple"), none, (.seq ⟨[(R 31)]⟩ 0), ⟨[]⟩⟩
def o176 : Obj := ⟨(T "builtin_function_or_method"), none, (.fields ⟨[(B "type.__prepare__"), (T "type")]⟩), ⟨[]⟩⟩
def o177 (P : Params) : Obj := ⟨(T "dict"), none, (.dict ⟨[E P "__module__" 409 (S "onemember.errors" 194), E P "__qualname__" 411 (S "InvalidNames" 410), E P "__firstlineno__" 413 (.int 35 412), E P "__init__" 421 (R 188), E P "__static_attributes__" 423 (R 189)]⟩ 5), ⟨[]⟩⟩
def o178 : Obj := ⟨(T "tuple"), none, (.seq ⟨[]⟩ 0), ⟨[]⟩⟩
def o179 : Obj := ⟨N, none, (.fields ⟨[(I 37), (I 4), (R 187)]⟩), ⟨[]⟩⟩
def o180 : Obj := ⟨(T "code"), none, (.fields ⟨[(S "InvalidNames" 404), (S "InvalidNames" 405), (S "/claim/cut.py" 406), (I 35), (I 0), (I 0), (I 0), (I 0), (R 178), (.bool false), (I 181), (R 179), N, N, N, N, (I 407), (I 35), (S "/claim/cut.py" 408)]⟩), ⟨[]⟩⟩
def o181 : Obj := ⟨(T "frame"), none, .plain, ⟨[some (R 180), some (R 3), some (R 177), none, some (S "onemember.errors" 194), none, some (R 0)]⟩⟩
def o182 : Obj := ⟨(T "tuple"), none, (.seq ⟨[]⟩ 0), ⟨[]⟩⟩
def o183 : Obj := ⟨N, none, (.fields ⟨[]⟩), ⟨[]⟩⟩
def o184 : Obj := ⟨(T "tuple"), none, (.seq ⟨[(S "self" 417), (S "index" 418)]⟩ 0), ⟨[]⟩⟩
def o185 : Obj := ⟨(T "tuple"), none, (.seq ⟨[]⟩ 0), ⟨[]⟩⟩
def o186 : Obj := ⟨N, none, (F (C 11 0) (u "__init__") (u "InvalidNames.__init__") 0 [] N N N N none N N 0), ⟨[]⟩⟩
def o187 : Obj := ⟨(T "code"), none, (.fields ⟨[(S "__init__" 414), (S "InvalidNames.__init__" 415), (S "/claim/cut.py" 416), (I 37), (I 2), (I 0), (I 0), (I 3), (R 182), (.bool true), (I 181), (R 183), N, (R 184), (R 185), (R 186), (I 419), (I 37), (S "/claim/cut.py" 420)]⟩), ⟨[]⟩⟩
def o188 : Obj := ⟨(T "function"), none, (F (C 11 0) (u "__init__") (u "InvalidNames.__init__") 3 [] N N N (S "onemember.errors" 194) none (R 187) N 0), ⟨[]⟩⟩
def o189 : Obj := ⟨(T "tuple"), none, (.seq ⟨[(S "index" 422)]⟩ 0), ⟨[]⟩⟩
def o190 (P : Params) : Obj := ⟨(T "dict"), none, (.dict ⟨[E P "__module__" 409 (S "onemember.errors" 194), E P "__firstlineno__" 413 (.int 35 412), E P "__init__" 421 (R 188), E P "__static_attributes__" 423 (R 189), E P "__doc__" 424 N]⟩ 2), ⟨[]⟩⟩
def o191 : Obj := ⟨(T "type"), none, (.cls ⟨(u "InvalidNames"), [(R 31)], [(R 191), (R 31), (T "ValueError"), (T "Exception"), (T "BaseException"), (T "object")], 190, (u "InvalidNames"), true, [], [], false, none, false⟩), ⟨[some (R 175), none, some (S "InvalidNames" 402), some (S "InvalidNames" 410), some (B "ValueError.__new__"), some (.bool true)]⟩⟩
def o192 : Obj := ⟨(T "super"), none, (.fields ⟨[(R 191), (R 191), (R 191)]⟩), ⟨[]⟩⟩
def o193 : Obj := ⟨(T "builtin_function_or_method"), none, (.fields ⟨[(B "object.__init_subclass__"), (R 191)]⟩), ⟨[]⟩⟩
def o194 : Obj := ⟨(T "tuple"), none, (.seq ⟨[(R 31)]⟩ 0), ⟨[]⟩⟩
def o195 : Obj := ⟨(T "builtin_function_or_method"), none, (.fields ⟨[(B "type.__prepare__"), (T "type")]⟩), ⟨[]⟩⟩
def o196 (P : Params) : Obj := ⟨(T "dict"), none, (.dict ⟨[E P "__module__" 434 (S "onemember.errors" 194), E P "__qualname__" 436 (S "InvalidSets" 435), E P "__firstlineno__" 438 (.int 39 437), E P "__init__" 446 (R 207), E P "__static_attributes__" 448 (R 208)]⟩ 5), ⟨[]⟩⟩
def o197 : Obj := ⟨(T "tuple"), none, (.seq ⟨[]⟩ 0), ⟨[]⟩⟩
def o198 : Obj := ⟨N, none, (.fields ⟨[(I 41), (I 4), (R 206)]⟩), ⟨[]⟩⟩
def o199 : Obj := ⟨(T "code"), none, (.fields ⟨[(S "InvalidSets" 429), (S "InvalidSets" 430), (S "/claim/cut.py" 431), (I 39), (I 0), (I 0), (I 0), (I 0), (R 197), (.bool false), (I 181), (R 198), N, N, N, N, (I 432), (I 39), (S "/claim/cut.py" 433)]⟩), ⟨[]⟩⟩
def o200 : Obj := ⟨(T "frame"), none, .plain, ⟨[some (R 199), some (R 3), some (R 196), none, some (S "onemember.errors" 194), none, some (R 0)]⟩⟩
def o201 : Obj := ⟨(T "tuple"), none, (.seq ⟨[]⟩ 0), ⟨[]⟩⟩
def o202 : Obj := ⟨N, none, (.fields ⟨[]⟩), ⟨[]⟩⟩
def o203 : Obj := ⟨(T "tuple"), none, (.seq ⟨[(S "self" 442), (S "index" 443)]⟩ 0), ⟨[]⟩⟩
def o204 : Obj := ⟨(T "tuple"), none, (.seq ⟨[]⟩ 0), ⟨[]⟩⟩
def o205 : Obj := ⟨N, none, (F (C 12 0) (u "__init__") (u "InvalidSets.__init__") 0 [] N N N N none N N 0), ⟨[]⟩⟩
def o206 : Obj := ⟨(T "code"), none, (.fields ⟨[(S "__init__" 439), (S "InvalidSets.__init__" 440), (S "/claim/cut.py" 441), (I 41), (I 2), (I 0), (I 0), (I 3), (R 201), (.bool true), (I 181), (R 202), N, (R 203), (R 204), (R 205), (I 444), (I 41), (S "/claim/cut.py" 445)]⟩), ⟨[]⟩⟩
def o207 : Obj := ⟨(T "function"), none, (F (C 12 0) (u "__init__") (u "InvalidSets.__init__") 3 [] N N N (S "onemember.errors" 194) none (R 206) N 0), ⟨[]⟩⟩
def o208 : Obj := ⟨(T "tuple"), none, (.seq ⟨[(S "index" 447)]⟩ 0), ⟨[]⟩⟩
def o209 (P : Params) : Obj := ⟨(T "dict"), none, (.dict ⟨[E P "__module__" 434 (S "onemember.errors" 194), E P "__firstlineno__" 438 (.int 39 437), E P "__init__" 446 (R 207), E P "__static_attributes__" 448 (R 208), E P "__doc__" 449 N]⟩ 2), ⟨[]⟩⟩
def o210 : Obj := ⟨(T "type"), none, (.cls ⟨(u "InvalidSets"), [(R 31)], [(R 210), (R 31), (T "ValueError"), (T "Exception"), (T "BaseException"), (T "object")], 209, (u "InvalidSets"), true, [], [], false, none, false⟩), ⟨[some (R 194), none, some (S "InvalidSets" 427), some (S "InvalidSets" 435), some (B "ValueError.__new__"), some (.bool true)]⟩⟩
def o211 : Obj := ⟨(T "super"), none, (.fields ⟨[(R 210), (R 210), (R 210)]⟩), ⟨[]⟩⟩
def o212 : Obj := ⟨(T "builtin_function_or_method"), none, (.fields ⟨[(B "object.__init_subclass__"), (R 210)]⟩), ⟨[]⟩⟩
def t1 (P : Params) : BT := (n (boot_o_0 P) (n (boot_o_1 P) (n (o3_1 P) (n (boot_o_7 P) (n o15 (n o31 (n (o63 P) (n o127 z z) (n o191 z z)) (n (o95 P) (n o159 z z) z)) (n o47 (n o79 (n o143 z z) (n o207 z z)) (n o111 (n o175 z z) z))) (n o23 (n o39 (n o71 (n o135 z z) (n o199 z z)) (n o103 (n o167 z z) z)) (n o55 (n o87 (n o151 z z) z) (n o119 (n o183 z z) z)))) (n o11 (n o19 (n o35 (n o67 (n o131 z z) (n o195 z z)) (n o99 (n o163 z z) z)) (n o51 (n o83 (n o147 z z) (n o211 z z)) (n o115 (n o179 z z) z))) (n o27 (n (o43 P) (n o75 (n (o139 P) z z) (n o203 z z)) (n o107 (n (o171 P) z z) z)) (n o59 (n o91 (n o155 z z) z) (n o123 (n o187 z z) z))))) (n (boot_o_5 P) (n (boot_o_9 P) (n o17 (n o33 (n o65 (n o129 z z) (n o193 z z)) (n o97 (n o161 z z) z)) (n o49 (n o81 (n o145 z z) (n (o209 P) z z)) (n o113 (n (o177 P) z z) z))) (n o25 (n o41 (n o73 (n o137 z z) (n o201 z z)) (n o105 (n o169 z z) z)) (n o57 (n o89 (n o153 z z) z) (n o121 (n o185 z z) z)))) (n o13 (n o21 (n (o37 P) (n o69 (n (o133 P) z z) (n o197 z z)) (n (o101 P) (n o165 z z) z)) (n o53 (n o85 (n o149 z z) z) (n o117 (n o181 z z) z))) (n o29 (n o45 (n o77 (n o141 z z) (n o205 z z)) (n o109 (n o173 z z) z)) (n o61 (n o93 (n o157 z z) z) (n o125 (n o189 z z) z)))))) (n (o2_1 P) (n (boot_o_4 P) (n (boot_o_8 P) (n o16 (n o32 (n o64 (n o128 z z) (n o192 z z)) (n o96 (n o160 z z) z)) (n o48 (n o80 (n o144 z z) (n o208 z z)) (n o112 (n o176 z z) z))) (n (o24 P) (n o40 (n o72 (n o136 z z) (n o200 z z)) (n o104 (n o168 z z) z)) (n (o56 P) (n o88 (n (o152 P) z z) z) (n (o120 P) (n o184 z z) z)))) (n o12 (n o20 (n o36 (n o68 (n o132 z z) (n (o196 P) z z)) (n o100 (n o164 z z) z)) (n o52 (n o84 (n o148 z z) (n o212 z z)) (n o116 (n o180 z z) z))) (n o28 (n o44 (n (o76 P) (n o140 z z) (n o204 z z)) (n o108 (n o172 z z) z)) (n o60 (n o92 (n o156 z z) z) (n o124 (n o188 z z) z))))) (n (boot_o_6 P) (n (boot_o_10 P) (n o18 (n o34 (n o66 (n o130 z z) (n o194 z z)) (n o98 (n o162 z z) z)) (n (o50 P) (n (o82 P) (n o146 z z) (n o210 z z)) (n (o114 P) (n o178 z z) z))) (n o26 (n o42 (n o74 (n o138 z z) (n o202 z z)) (n o106 (n o170 z z) z)) (n o58 (n o90 (n o154 z z) z) (n o122 (n o186 z z) z)))) (n o14 (n o22 (n o38 (n o70 (n o134 z z) (n o198 z z)) (n o102 (n o166 z z) z)) (n o54 (n o86 (n o150 z z) z) (n o118 (n o182 z z) z))) (n (o30 P) (n o46 (n o78 (n o142 z z) (n o206 z z)) (n o110 (n o174 z z) z)) (n o62 (n o94 (n (o158 P) z z) z) (n o126 (n (o190 P) z z) z)))))))
def o3_2 (P : Params) : Obj := ⟨(T "dict"), none, (.dict ⟨[E P "__name__" 165 (S "onemember.members" 662), E P "__doc__" 166 N, E P "__package__" 167 N, E P "__loader__" 168 (B "__main__.__loader__#opaque"), E P "__spec__" 169 N, E P "__annotations__" 170 (R 6), E P "__builtins__" 171 (R 4), E P "__file__" 173 (S "/claim/cut.py" 172), E P "__cached__" 174 N, E P "_wall" 193 (R 21), E P "SetError" 213 (R 31), E P "StateError" 231 (R 44), E P "LimitError" 251 (R 57), E P "NotMembers" 276 (R 77), E P "NotAChange" 301 (R 96), E P "NotAnExpression" 326 (R 115), E P "InvalidForm" 351 (R 134), E P "InvalidText" 376 (R 153), E P "UnknownField" 401 (R 172), E P "InvalidNames" 426 (R 191), E P "InvalidSets" 451 (R 210), E P "NotComparable" 467 (R 222), E P "TooManyLeaves" 492 (R 241), E P "TooManyLevels" 517 (R 260), E P "MOST_LEAVES" 519 (.int 200 518), E P "MOST_DEPTH" 521 (.int 20 520), E P "LONGEST_NAME" 525 (.int 8 524), E P "is_name" 532 (R 269), E P "wrong_at" 541 (R 276), E P "SIGNS" 548 (R 277), E P "GIVEN" 550 (S "given" 549), E P "NONE" 552 (S "none" 551), E P "is_field" 559 (R 284), E P "form_size" 565 (R 289), E P "is_triple" 572 (R 296), E P "check_leaves" 579 (R 303), E P "check_depth" 586 (R 310), E P "form_text" 596 (R 317), E P "side_text" 603 (R 324), E P "read_counted" 614 (R 331), E P "take_word" 623 (R 338), E P "joined" 635 (R 345), E P "form_leaves" 642 (R 352), E P "form_fields" 648 (R 357), E P "form_value" 661 (R 364), E P "Members" 882 (R 534), E P "Change" 996 (R 623)]⟩ 47), ⟨[]⟩⟩
def o12_2 : Obj := ⟨N, none, (.fields ⟨[(I 1), (I 0), (R 20), (I 5), (I 0), (R 27), (I 7), (I 0), (R 40), (I 9), (I 0), (R 53), (I 11), (I 0), (R 66), (I 15), (I 0), (R 85), (I 19), (I 0), (R 104), (I 23), (I 0), (R 123), (I 27), (I 0), (R 142), (I 31), (I 0), (R 161), (I 35), (I 0), (R 180), (I 39), (I 0), (R 199), (I 43), (I 0), (R 218), (I 45), (I 0), (R 230), (I 49), (I 0), (R 249), (I 57), (I 0), (R 268), (I 63), (I 0), (R 275), (I 72), (I 0), (R 283), (I 74), (I 0), (R 288), (I 89), (I 0), (R 295), (I 91), (I 0), (R 302), (I 94), (I 0), (R 309), (I 97), (I 0), (R 316), (I 102), (I 0), (R 323), (I 106), (I 0), (R 330), (I 120), (I 0), (R 337), (I 134), (I 0), (R 344), (I 137), (I 0), (R 351), (I 141), (I 0), (R 356), (I 144), (I 0), (R 363), (I 158), (I 0), (R 370), (I 252), (I 0), (R 544)]⟩), ⟨[]⟩⟩
def o44_2 : Obj := ⟨(T "type"), none, (.cls ⟨(u "StateError"), [(T "LookupError")], [(R 44), (T "LookupError"), (T "Exception"), (T "BaseException"), (T "object")], 43, (u "StateError"), true, [], [(R 222)], false, none, false⟩), ⟨[some (R 35), none, some (S "StateError" 214), some (S "StateError" 222), some (B "LookupError.__new__"), some (.bool true)]⟩⟩
def o57_2 : Obj := ⟨(T "type"), none, (.cls ⟨(u "LimitError"), [(T "ArithmeticError")], [(R 57), (T "ArithmeticError"), (T "Exception"), (T "BaseException"), (T "object")], 56, (u "LimitError"), true, [], [(R 241), (R 260)], false, none, false⟩), ⟨[some (R 48), none, some (S "LimitError" 232), some (S "LimitError" 240), some (B "ArithmeticError.__new__"), some (.bool true)]⟩⟩
def o213 : Obj := ⟨(T "tuple"), none, (.seq ⟨[(R 44)]⟩ 0), ⟨[]⟩⟩
def o214 : Obj := ⟨(T "builtin_function_or_method"), none, (.fields ⟨[(B "type.__prepare__"), (T "type")]⟩), ⟨[]⟩⟩
def o215 (P : Params) : Obj := ⟨(T "dict"), none, (.dict ⟨[E P "__module__" 459 (S "onemember.errors" 194), E P "__qualname__" 461 (S "NotComparable" 460), E P "__firstlineno__" 463 (.int 43 462), E P "__static_attributes__" 464 (R 220)]⟩ 4), ⟨[]⟩⟩
def o216 : Obj := ⟨(T "tuple"), none, (.seq ⟨[]⟩ 0), ⟨[]⟩⟩
def o217 : Obj := ⟨N, none, (.fields ⟨[]⟩), ⟨[]⟩⟩
def o218 : Obj := ⟨(T "code"), none, (.fields ⟨[(S "NotComparable" 454), (S "NotComparable" 455), (S "/claim/cut.py" 456), (I 43), (I 0), (I 0), (I 0), (I 0), (R 216), (.bool false), (I 181), (R 217), N, N, N, N, (I 457), (I 43), (S "/claim/cut.py" 458)]⟩), ⟨[]⟩⟩
def o219 : Obj := ⟨(T "frame"), none, .plain, ⟨[some (R 218), some (R 3), some (R 215), none, some (S "onemember.errors" 194), none, some (R 0)]⟩⟩
def o220 : Obj := ⟨(T "tuple"), none, (.seq ⟨[]⟩ 0), ⟨[]⟩⟩
def o221 (P : Params) : Obj := ⟨(T "dict"), none, (.dict ⟨[E P "__module__" 459 (S "onemember.errors" 194), E P "__firstlineno__" 463 (.int 43 462), E P "__static_attributes__" 464 (R 220), E P "__doc__" 465 N]⟩ 2), ⟨[]⟩⟩
def o222 : Obj := ⟨(T "type"), none, (.cls ⟨(u "NotComparable"), [(R 44)], [(R 222), (R 44), (T "LookupError"), (T "Exception"), (T "BaseException"), (T "object")], 221, (u "NotComparable"), true, [], [], false, none, false⟩), ⟨[some (R 213), none, some (S "NotComparable" 452), some (S "NotComparable" 460), some (B "LookupError.__new__"), some (.bool true)]⟩⟩
def o223 : Obj := ⟨(T "super"), none, (.fields ⟨[(R 222), (R 222), (R 222)]⟩), ⟨[]⟩⟩
def o224 : Obj := ⟨(T "builtin_function_or_method"), none, (.fields ⟨[(B "object.__init_subclass__"), (R 222)]⟩), ⟨[]⟩⟩
def o225 : Obj := ⟨(T "tuple"), none, (.seq ⟨[(R 57)]⟩ 0), ⟨[]⟩⟩
def o226 : Obj := ⟨(T "builtin_function_or_method"), none, (.fields ⟨[(B "type.__prepare__"), (T "type")]⟩), ⟨[]⟩⟩
def o227 (P : Params) : Obj := ⟨(T "dict"), none, (.dict ⟨[E P "__module__" 475 (S "onemember.errors" 194), E P "__qualname__" 477 (S "TooManyLeaves" 476), E P "__firstlineno__" 479 (.int 45 478), E P "__init__" 487 (R 238), E P "__static_attributes__" 489 (R 239)]⟩ 5), ⟨[]⟩⟩
def o228 : Obj := ⟨(T "tuple"), none, (.seq ⟨[]⟩ 0), ⟨[]⟩⟩
def o229 : Obj := ⟨N, none, (.fields ⟨[(I 47), (I 4), (R 237)]⟩), ⟨[]⟩⟩
def o230 : Obj := ⟨(T "code"), none, (.fields ⟨[(S "TooManyLeaves" 470), (S "TooManyLeaves" 471), (S "/claim/cut.py" 472), (I 45), (I 0), (I 0), (I 0), (I 0), (R 228), (.bool false), (I 181), (R 229), N, N, N, N, (I 473), (I 45), (S "/claim/cut.py" 474)]⟩), ⟨[]⟩⟩
def o231 : Obj := ⟨(T "frame"), none, .plain, ⟨[some (R 230), some (R 3), some (R 227), none, some (S "onemember.errors" 194), none, some (R 0)]⟩⟩
def o232 : Obj := ⟨(T "tuple"), none, (.seq ⟨[]⟩ 0), ⟨[]⟩⟩
def o233 : Obj := ⟨N, none, (.fields ⟨[]⟩), ⟨[]⟩⟩
def o234 : Obj := ⟨(T "tuple"), none, (.seq ⟨[(S "self" 483), (S "limit" 484)]⟩ 0), ⟨[]⟩⟩
def o235 : Obj := ⟨(T "tuple"), none, (.seq ⟨[]⟩ 0), ⟨[]⟩⟩
def o236 : Obj := ⟨N, none, (F (C 14 0) (u "__init__") (u "TooManyLeaves.__init__") 0 [] N N N N none N N 0), ⟨[]⟩⟩
def o237 : Obj := ⟨(T "code"), none, (.fields ⟨[(S "__init__" 480), (S "TooManyLeaves.__init__" 481), (S "/claim/cut.py" 482), (I 47), (I 2), (I 0), (I 0), (I 3), (R 232), (.bool true), (I 181), (R 233), N, (R 234), (R 235), (R 236), (I 485), (I 47), (S "/claim/cut.py" 486)]⟩), ⟨[]⟩⟩
def o238 : Obj := ⟨(T "function"), none, (F (C 14 0) (u "__init__") (u "TooManyLeaves.__init__") 3 [] N N N (S "onemember.errors" 194) none (R 237) N 0), ⟨[]⟩⟩
def o239 : Obj := ⟨(T "tuple"), none, (.seq ⟨[(S "limit" 488)]⟩ 0), ⟨[]⟩⟩
def o240 (P : Params) : Obj := ⟨(T "dict"), none, (.dict ⟨[E P "__module__" 475 (S "onemember.errors" 194), E P "__firstlineno__" 479 (.int 45 478), E P "__init__" 487 (R 238), E P "__static_attributes__" 489 (R 239), E P "__doc__" 490 N]⟩ 2), ⟨[]⟩⟩
def o241 : Obj := ⟨(T "type"), none, (.cls ⟨(u "TooManyLeaves"), [(R 57)], [(R 241), (R 57), (T "ArithmeticError"), (T "Exception"), (T "BaseException"), (T "object")], 240, (u "TooManyLeaves"), true, [], [], false, none, false⟩), ⟨[some (R 225), none, some (S "TooManyLeaves" 468), some (S "TooManyLeaves" 476), some (B "ArithmeticError.__new__"), some (.bool true)]⟩⟩
def o242 : Obj := ⟨(T "super"), none, (.fields ⟨[(R 241), (R 241), (R 241)]⟩), ⟨[]⟩⟩
def o243 : Obj := ⟨(T "builtin_function_or_method"), none, (.fields ⟨[(B "object.__init_subclass__"), (R 241)]⟩), ⟨[]⟩⟩
def o244 : Obj := ⟨(T "tuple"), none, (.seq ⟨[(R 57)]⟩ 0), ⟨[]⟩⟩
def o245 : Obj := ⟨(T "builtin_function_or_method"), none, (.fields ⟨[(B "type.__prepare__"), (T "type")]⟩), ⟨[]⟩⟩
def o246 (P : Params) : Obj := ⟨(T "dict"), none, (.dict ⟨[E P "__module__" 500 (S "onemember.errors" 194), E P "__qualname__" 502 (S "TooManyLevels" 501), E P "__firstlineno__" 504 (.int 49 503), E P "__init__" 512 (R 257), E P "__static_attributes__" 514 (R 258)]⟩ 5), ⟨[]⟩⟩
def o247 : Obj := ⟨(T "tuple"), none, (.seq ⟨[]⟩ 0), ⟨[]⟩⟩
def o248 : Obj := ⟨N, none, (.fields ⟨[(I 51), (I 4), (R 256)]⟩), ⟨[]⟩⟩
def o249 : Obj := ⟨(T "code"), none, (.fields ⟨[(S "TooManyLevels" 495), (S "TooManyLevels" 496), (S "/claim/cut.py" 497), (I 49), (I 0), (I 0), (I 0), (I 0), (R 247), (.bool false), (I 181), (R 248), N, N, N, N, (I 498), (I 49), (S "/claim/cut.py" 499)]⟩), ⟨[]⟩⟩
def o250 : Obj := ⟨(T "frame"), none, .plain, ⟨[some (R 249), some (R 3), some (R 246), none, some (S "onemember.errors" 194), none, some (R 0)]⟩⟩
def o251 : Obj := ⟨(T "tuple"), none, (.seq ⟨[]⟩ 0), ⟨[]⟩⟩
def o252 : Obj := ⟨N, none, (.fields ⟨[]⟩), ⟨[]⟩⟩
def o253 : Obj := ⟨(T "tuple"), none, (.seq ⟨[(S "self" 508), (S "limit" 509)]⟩ 0), ⟨[]⟩⟩
def o254 : Obj := ⟨(T "tuple"), none, (.seq ⟨[]⟩ 0), ⟨[]⟩⟩
def o255 : Obj := ⟨N, none, (F (C 15 0) (u "__init__") (u "TooManyLevels.__init__") 0 [] N N N N none N N 0), ⟨[]⟩⟩
def o256 : Obj := ⟨(T "code"), none, (.fields ⟨[(S "__init__" 505), (S "TooManyLevels.__init__" 506), (S "/claim/cut.py" 507), (I 51), (I 2), (I 0), (I 0), (I 3), (R 251), (.bool true), (I 181), (R 252), N, (R 253), (R 254), (R 255), (I 510), (I 51), (S "/claim/cut.py" 511)]⟩), ⟨[]⟩⟩
def o257 : Obj := ⟨(T "function"), none, (F (C 15 0) (u "__init__") (u "TooManyLevels.__init__") 3 [] N N N (S "onemember.errors" 194) none (R 256) N 0), ⟨[]⟩⟩
def o258 : Obj := ⟨(T "tuple"), none, (.seq ⟨[(S "limit" 513)]⟩ 0), ⟨[]⟩⟩
def o259 (P : Params) : Obj := ⟨(T "dict"), none, (.dict ⟨[E P "__module__" 500 (S "onemember.errors" 194), E P "__firstlineno__" 504 (.int 49 503), E P "__init__" 512 (R 257), E P "__static_attributes__" 514 (R 258), E P "__doc__" 515 N]⟩ 2), ⟨[]⟩⟩
def o260 : Obj := ⟨(T "type"), none, (.cls ⟨(u "TooManyLevels"), [(R 57)], [(R 260), (R 57), (T "ArithmeticError"), (T "Exception"), (T "BaseException"), (T "object")], 259, (u "TooManyLevels"), true, [], [], false, none, false⟩), ⟨[some (R 244), none, some (S "TooManyLevels" 493), some (S "TooManyLevels" 501), some (B "ArithmeticError.__new__"), some (.bool true)]⟩⟩
def o261 : Obj := ⟨(T "super"), none, (.fields ⟨[(R 260), (R 260), (R 260)]⟩), ⟨[]⟩⟩
def o262 : Obj := ⟨(T "builtin_function_or_method"), none, (.fields ⟨[(B "object.__init_subclass__"), (R 260)]⟩), ⟨[]⟩⟩
def o263 : Obj := ⟨(T "tuple"), none, (.seq ⟨[]⟩ 0), ⟨[]⟩⟩
def o264 : Obj := ⟨N, none, (.fields ⟨[]⟩), ⟨[]⟩⟩
def o265 : Obj := ⟨(T "tuple"), none, (.seq ⟨[(S "value" 529)]⟩ 0), ⟨[]⟩⟩
def o266 : Obj := ⟨(T "tuple"), none, (.seq ⟨[]⟩ 0), ⟨[]⟩⟩
def o267 : Obj := ⟨N, none, (F (A 20) (u "is_name") (u "is_name") 0 [] N N N N none N N 0), ⟨[]⟩⟩
def o268 : Obj := ⟨(T "code"), none, (.fields ⟨[(S "is_name" 526), (S "is_name" 527), (S "/claim/cut.py" 528), (I 57), (I 1), (I 0), (I 0), (I 3), (R 263), (.bool true), (I 181), (R 264), N, (R 265), (R 266), (R 267), (I 530), (I 57), (S "/claim/cut.py" 531)]⟩), ⟨[]⟩⟩
def o269 : Obj := ⟨(T "function"), none, (F (A 20) (u "is_name") (u "is_name") 3 [] N N N (S "onemember.names" 522) none (R 268) N 0), ⟨[]⟩⟩
def o270 : Obj := ⟨(T "tuple"), none, (.seq ⟨[]⟩ 0), ⟨[]⟩⟩
def o271 : Obj := ⟨N, none, (.fields ⟨[]⟩), ⟨[]⟩⟩
def o272 : Obj := ⟨(T "tuple"), none, (.seq ⟨[(S "values" 536), (S "at" 537), (S "value" 538)]⟩ 0), ⟨[]⟩⟩
def o273 : Obj := ⟨(T "tuple"), none, (.seq ⟨[]⟩ 0), ⟨[]⟩⟩
def o274 : Obj := ⟨N, none, (F (A 21) (u "wrong_at") (u "wrong_at") 0 [] N N N N none N N 0), ⟨[]⟩⟩
def o275 : Obj := ⟨(T "code"), none, (.fields ⟨[(S "wrong_at" 533), (S "wrong_at" 534), (S "/claim/cut.py" 535), (I 63), (I 1), (I 0), (I 0), (I 3), (R 270), (.bool true), (I 181), (R 271), N, (R 272), (R 273), (R 274), (I 539), (I 63), (S "/claim/cut.py" 540)]⟩), ⟨[]⟩⟩
def o276 : Obj := ⟨(T "function"), none, (F (A 21) (u "wrong_at") (u "wrong_at") 3 [] N N N (S "onemember.names" 522) none (R 275) N 0), ⟨[]⟩⟩
def o277 : Obj := ⟨(T "tuple"), none, (.seq ⟨[(S "|" 544), (S "&" 545), (S "-" 546), (S "^" 547)]⟩ 0), ⟨[]⟩⟩
def o278 : Obj := ⟨(T "tuple"), none, (.seq ⟨[]⟩ 0), ⟨[]⟩⟩
def o279 : Obj := ⟨N, none, (.fields ⟨[]⟩), ⟨[]⟩⟩
def o280 : Obj := ⟨(T "tuple"), none, (.seq ⟨[(S "value" 556)]⟩ 0), ⟨[]⟩⟩
def o281 : Obj := ⟨(T "tuple"), none, (.seq ⟨[]⟩ 0), ⟨[]⟩⟩
def o282 : Obj := ⟨N, none, (F (A 26) (u "is_field") (u "is_field") 0 [] N N N N none N N 0), ⟨[]⟩⟩
def o283 : Obj := ⟨(T "code"), none, (.fields ⟨[(S "is_field" 553), (S "is_field" 554), (S "/claim/cut.py" 555), (I 72), (I 1), (I 0), (I 0), (I 3), (R 278), (.bool true), (I 181), (R 279), N, (R 280), (R 281), (R 282), (I 557), (I 72), (S "/claim/cut.py" 558)]⟩), ⟨[]⟩⟩
def o284 : Obj := ⟨(T "function"), none, (F (A 26) (u "is_field") (u "is_field") 3 [] N N N (S "onemember.forms" 542) none (R 283) N 0), ⟨[]⟩⟩
def o285 : Obj := ⟨(T "tuple"), none, (.seq ⟨[]⟩ 0), ⟨[]⟩⟩
def o286 : Obj := ⟨N, none, (.fields ⟨[]⟩), ⟨[]⟩⟩
def o287 : Obj := ⟨N, none, (F (A 27) (u "form_size") (u "form_size") 0 [] N N N N none N N 0), ⟨[]⟩⟩
def o288 : Obj := ⟨(T "code"), none, (.fields ⟨[(S "form_size" 560), (S "form_size" 561), (S "/claim/cut.py" 562), (I 74), (I 1), (I 0), (I 0), (I 3), (R 285), (.bool true), (I 181), (R 286), N, N, N, (R 287), (I 563), (I 74), (S "/claim/cut.py" 564)]⟩), ⟨[]⟩⟩
def o289 : Obj := ⟨(T "function"), none, (F (A 27) (u "form_size") (u "form_size") 3 [] N N N (S "onemember.forms" 542) none (R 288) N 0), ⟨[]⟩⟩
def o290 : Obj := ⟨(T "tuple"), none, (.seq ⟨[]⟩ 0), ⟨[]⟩⟩
def o291 : Obj := ⟨N, none, (.fields ⟨[]⟩), ⟨[]⟩⟩
def o292 : Obj := ⟨(T "tuple"), none, (.seq ⟨[(S "value" 569)]⟩ 0), ⟨[]⟩⟩
def o293 : Obj := ⟨(T "tuple"), none, (.seq ⟨[]⟩ 0), ⟨[]⟩⟩
def o294 : Obj := ⟨N, none, (F (A 28) (u "is_triple") (u "is_triple") 0 [] N N N N none N N 0), ⟨[]⟩⟩
def o295 : Obj := ⟨(T "code"), none, (.fields ⟨[(S "is_triple" 566), (S "is_triple" 567), (S "/claim/cut.py" 568), (I 89), (I 1), (I 0), (I 0), (I 3), (R 290), (.bool true), (I 181), (R 291), N, (R 292), (R 293), (R 294), (I 570), (I 89), (S "/claim/cut.py" 571)]⟩), ⟨[]⟩⟩
def o296 : Obj := ⟨(T "function"), none, (F (A 28) (u "is_triple") (u "is_triple") 3 [] N N N (S "onemember.forms" 542) none (R 295) N 0), ⟨[]⟩⟩
def o297 : Obj := ⟨(T "tuple"), none, (.seq ⟨[]⟩ 0), ⟨[]⟩⟩
def o298 : Obj := ⟨N, none, (.fields ⟨[]⟩), ⟨[]⟩⟩
def o299 : Obj := ⟨(T "tuple"), none, (.seq ⟨[(S "leaves" 576)]⟩ 0), ⟨[]⟩⟩
def o300 : Obj := ⟨(T "tuple"), none, (.seq ⟨[]⟩ 0), ⟨[]⟩⟩
def o301 : Obj := ⟨N, none, (F (A 29) (u "check_leaves") (u "check_leaves") 0 [] N N N N none N N 0), ⟨[]⟩⟩
def o302 : Obj := ⟨(T "code"), none, (.fields ⟨[(S "check_leaves" 573), (S "check_leaves" 574), (S "/claim/cut.py" 575), (I 91), (I 1), (I 0), (I 0), (I 3), (R 297), (.bool true), (I 181), (R 298), N, (R 299), (R 300), (R 301), (I 577), (I 91), (S "/claim/cut.py" 578)]⟩), ⟨[]⟩⟩
def o303 : Obj := ⟨(T "function"), none, (F (A 29) (u "check_leaves") (u "check_leaves") 3 [] N N N (S "onemember.forms" 542) none (R 302) N 0), ⟨[]⟩⟩
def o304 : Obj := ⟨(T "tuple"), none, (.seq ⟨[]⟩ 0), ⟨[]⟩⟩
def o305 : Obj := ⟨N, none, (.fields ⟨[]⟩), ⟨[]⟩⟩
def o306 : Obj := ⟨(T "tuple"), none, (.seq ⟨[(S "depth" 583)]⟩ 0), ⟨[]⟩⟩
def o307 : Obj := ⟨(T "tuple"), none, (.seq ⟨[]⟩ 0), ⟨[]⟩⟩
def o308 : Obj := ⟨N, none, (F (A 30) (u "check_depth") (u "check_depth") 0 [] N N N N none N N 0), ⟨[]⟩⟩
def o309 : Obj := ⟨(T "code"), none, (.fields ⟨[(S "check_depth" 580), (S "check_depth" 581), (S "/claim/cut.py" 582), (I 94), (I 1), (I 0), (I 0), (I 3), (R 304), (.bool true), (I 181), (R 305), N, (R 306), (R 307), (R 308), (I 584), (I 94), (S "/claim/cut.py" 585)]⟩), ⟨[]⟩⟩
def o310 : Obj := ⟨(T "function"), none, (F (A 30) (u "check_depth") (u "check_depth") 3 [] N N N (S "onemember.forms" 542) none (R 309) N 0), ⟨[]⟩⟩
def o311 : Obj := ⟨(T "tuple"), none, (.seq ⟨[]⟩ 0), ⟨[]⟩⟩
def o312 : Obj := ⟨N, none, (.fields ⟨[]⟩), ⟨[]⟩⟩
def o313 : Obj := ⟨(T "tuple"), none, (.seq ⟨[(S "form" 590), (S "sign" 591), (S "left" 592), (S "right" 593)]⟩ 0), ⟨[]⟩⟩
def o314 : Obj := ⟨(T "tuple"), none, (.seq ⟨[]⟩ 0), ⟨[]⟩⟩
def o315 : Obj := ⟨N, none, (F (A 31) (u "form_text") (u "form_text") 0 [] N N N N none N N 0), ⟨[]⟩⟩
def o316 : Obj := ⟨(T "code"), none, (.fields ⟨[(S "form_text" 587), (S "form_text" 588), (S "/claim/cut.py" 589), (I 97), (I 1), (I 0), (I 0), (I 3), (R 311), (.bool true), (I 181), (R 312), N, (R 313), (R 314), (R 315), (I 594), (I 97), (S "/claim/cut.py" 595)]⟩), ⟨[]⟩⟩
def o317 : Obj := ⟨(T "function"), none, (F (A 31) (u "form_text") (u "form_text") 3 [] N N N (S "onemember.forms" 542) none (R 316) N 0), ⟨[]⟩⟩
def o318 : Obj := ⟨(T "tuple"), none, (.seq ⟨[]⟩ 0), ⟨[]⟩⟩
def o319 : Obj := ⟨N, none, (.fields ⟨[]⟩), ⟨[]⟩⟩
def o320 : Obj := ⟨(T "tuple"), none, (.seq ⟨[(S "form" 600)]⟩ 0), ⟨[]⟩⟩
def o321 : Obj := ⟨(T "tuple"), none, (.seq ⟨[]⟩ 0), ⟨[]⟩⟩
def o322 : Obj := ⟨N, none, (F (A 32) (u "side_text") (u "side_text") 0 [] N N N N none N N 0), ⟨[]⟩⟩
def o323 : Obj := ⟨(T "code"), none, (.fields ⟨[(S "side_text" 597), (S "side_text" 598), (S "/claim/cut.py" 599), (I 102), (I 1), (I 0), (I 0), (I 3), (R 318), (.bool true), (I 181), (R 319), N, (R 320), (R 321), (R 322), (I 601), (I 102), (S "/claim/cut.py" 602)]⟩), ⟨[]⟩⟩
def o324 : Obj := ⟨(T "function"), none, (F (A 32) (u "side_text") (u "side_text") 3 [] N N N (S "onemember.forms" 542) none (R 323) N 0), ⟨[]⟩⟩
def o325 : Obj := ⟨(T "tuple"), none, (.seq ⟨[]⟩ 0), ⟨[]⟩⟩
def o326 : Obj := ⟨N, none, (.fields ⟨[]⟩), ⟨[]⟩⟩
def o327 : Obj := ⟨(T "tuple"), none, (.seq ⟨[(S "text" 607), (S "words" 608), (S "opened" 609), (S "word" 610), (S "outermost" 611)]⟩ 0), ⟨[]⟩⟩
def o328 : Obj := ⟨(T "tuple"), none, (.seq ⟨[]⟩ 0), ⟨[]⟩⟩
def o329 : Obj := ⟨N, none, (F (A 33) (u "read_counted") (u "read_counted") 0 [] N N N N none N N 0), ⟨[]⟩⟩
def o330 : Obj := ⟨(T "code"), none, (.fields ⟨[(S "read_counted" 604), (S "read_counted" 605), (S "/claim/cut.py" 606), (I 106), (I 1), (I 0), (I 0), (I 3), (R 325), (.bool true), (I 181), (R 326), N, (R 327), (R 328), (R 329), (I 612), (I 106), (S "/claim/cut.py" 613)]⟩), ⟨[]⟩⟩
def o331 : Obj := ⟨(T "function"), none, (F (A 33) (u "read_counted") (u "read_counted") 3 [] N N N (S "onemember.forms" 542) none (R 330) N 0), ⟨[]⟩⟩
def o332 : Obj := ⟨(T "tuple"), none, (.seq ⟨[]⟩ 0), ⟨[]⟩⟩
def o333 : Obj := ⟨N, none, (.fields ⟨[]⟩), ⟨[]⟩⟩
def o334 : Obj := ⟨(T "tuple"), none, (.seq ⟨[(S "opened" 618), (S "word" 619), (S "innermost" 620)]⟩ 0), ⟨[]⟩⟩
def o335 : Obj := ⟨(T "tuple"), none, (.seq ⟨[]⟩ 0), ⟨[]⟩⟩
def o336 : Obj := ⟨N, none, (F (A 34) (u "take_word") (u "take_word") 0 [] N N N N none N N 0), ⟨[]⟩⟩
def o337 : Obj := ⟨(T "code"), none, (.fields ⟨[(S "take_word" 615), (S "take_word" 616), (S "/claim/cut.py" 617), (I 120), (I 2), (I 0), (I 0), (I 3), (R 332), (.bool true), (I 181), (R 333), N, (R 334), (R 335), (R 336), (I 621), (I 120), (S "/claim/cut.py" 622)]⟩), ⟨[]⟩⟩
def o338 : Obj := ⟨(T "function"), none, (F (A 34) (u "take_word") (u "take_word") 3 [] N N N (S "onemember.forms" 542) none (R 337) N 0), ⟨[]⟩⟩
def o339 : Obj := ⟨(T "tuple"), none, (.seq ⟨[]⟩ 0), ⟨[]⟩⟩
def o340 : Obj := ⟨N, none, (.fields ⟨[]⟩), ⟨[]⟩⟩
def o341 : Obj := ⟨(T "tuple"), none, (.seq ⟨[(S "parts" 627), (S "left" 628), (S "left_leaves" 629), (S "sign" 630), (S "right" 631), (S "right_leaves" 632)]⟩ 0), ⟨[]⟩⟩
def o342 : Obj := ⟨(T "tuple"), none, (.seq ⟨[]⟩ 0), ⟨[]⟩⟩
def o343 : Obj := ⟨N, none, (F (A 35) (u "joined") (u "joined") 0 [] N N N N none N N 0), ⟨[]⟩⟩
def o344 : Obj := ⟨(T "code"), none, (.fields ⟨[(S "joined" 624), (S "joined" 625), (S "/claim/cut.py" 626), (I 134), (I 1), (I 0), (I 0), (I 3), (R 339), (.bool true), (I 181), (R 340), N, (R 341), (R 342), (R 343), (I 633), (I 134), (S "/claim/cut.py" 634)]⟩), ⟨[]⟩⟩
def o345 : Obj := ⟨(T "function"), none, (F (A 35) (u "joined") (u "joined") 3 [] N N N (S "onemember.forms" 542) none (R 344) N 0), ⟨[]⟩⟩
def o346 : Obj := ⟨(T "tuple"), none, (.seq ⟨[]⟩ 0), ⟨[]⟩⟩
def o347 : Obj := ⟨N, none, (.fields ⟨[]⟩), ⟨[]⟩⟩
def o348 : Obj := ⟨(T "tuple"), none, (.seq ⟨[(S "form" 639)]⟩ 0), ⟨[]⟩⟩
def o349 : Obj := ⟨(T "tuple"), none, (.seq ⟨[]⟩ 0), ⟨[]⟩⟩
def o350 : Obj := ⟨N, none, (F (A 36) (u "form_leaves") (u "form_leaves") 0 [] N N N N none N N 0), ⟨[]⟩⟩
def o351 : Obj := ⟨(T "code"), none, (.fields ⟨[(S "form_leaves" 636), (S "form_leaves" 637), (S "/claim/cut.py" 638), (I 137), (I 1), (I 0), (I 0), (I 3), (R 346), (.bool true), (I 181), (R 347), N, (R 348), (R 349), (R 350), (I 640), (I 137), (S "/claim/cut.py" 641)]⟩), ⟨[]⟩⟩
def o352 : Obj := ⟨(T "function"), none, (F (A 36) (u "form_leaves") (u "form_leaves") 3 [] N N N (S "onemember.forms" 542) none (R 351) N 0), ⟨[]⟩⟩
def o353 : Obj := ⟨(T "tuple"), none, (.seq ⟨[]⟩ 0), ⟨[]⟩⟩
def o354 : Obj := ⟨N, none, (.fields ⟨[]⟩), ⟨[]⟩⟩
def o355 : Obj := ⟨N, none, (F (A 37) (u "form_fields") (u "form_fields") 0 [] N N N N none N N 0), ⟨[]⟩⟩
def o356 : Obj := ⟨(T "code"), none, (.fields ⟨[(S "form_fields" 643), (S "form_fields" 644), (S "/claim/cut.py" 645), (I 141), (I 1), (I 0), (I 0), (I 3), (R 353), (.bool true), (I 181), (R 354), N, N, N, (R 355), (I 646), (I 141), (S "/claim/cut.py" 647)]⟩), ⟨[]⟩⟩
def o357 : Obj := ⟨(T "function"), none, (F (A 37) (u "form_fields") (u "form_fields") 3 [] N N N (S "onemember.forms" 542) none (R 356) N 0), ⟨[]⟩⟩
def o358 : Obj := ⟨(T "tuple"), none, (.seq ⟨[]⟩ 0), ⟨[]⟩⟩
def o359 : Obj := ⟨N, none, (.fields ⟨[]⟩), ⟨[]⟩⟩
def o360 : Obj := ⟨(T "tuple"), none, (.seq ⟨[(S "form" 652), (S "table" 653), (S "sign" 654), (S "left" 655), (S "right" 656), (S "one" 657), (S "other" 658)]⟩ 0), ⟨[]⟩⟩
def o361 : Obj := ⟨(T "tuple"), none, (.seq ⟨[]⟩ 0), ⟨[]⟩⟩
def o362 : Obj := ⟨N, none, (F (A 38) (u "form_value") (u "form_value") 0 [] N N N N none N N 0), ⟨[]⟩⟩
def o363 : Obj := ⟨(T "code"), none, (.fields ⟨[(S "form_value" 649), (S "form_value" 650), (S "/claim/cut.py" 651), (I 144), (I 2), (I 0), (I 0), (I 3), (R 358), (.bool true), (I 181), (R 359), N, (R 360), (R 361), (R 362), (I 659), (I 144), (S "/claim/cut.py" 660)]⟩), ⟨[]⟩⟩
def o364 : Obj := ⟨(T "function"), none, (F (A 38) (u "form_value") (u "form_value") 3 [] N N N (S "onemember.forms" 542) none (R 363) N 0), ⟨[]⟩⟩
def o365 : Obj := ⟨(T "tuple"), none, (.seq ⟨[]⟩ 0), ⟨[]⟩⟩
def o366 : Obj := ⟨(T "builtin_function_or_method"), none, (.fields ⟨[(B "type.__prepare__"), (T "type")]⟩), ⟨[]⟩⟩
def o367 (P : Params) : Obj := ⟨(T "dict"), none, (.dict ⟨[E P "__module__" 671 (S "onemember.members" 662), E P "__qualname__" 673 (S "Members" 672), E P "__firstlineno__" 675 (.int 158 674), E P "__init__" 681 (R 376), E P "from_names" 700 (R 385), E P "read" 721 (R 395), E P "names" 729 (R 404), E P "__str__" 736 (R 411), E P "__repr__" 743 (R 418), E P "__len__" 750 (R 425), E P "__iter__" 757 (R 432), E P "__contains__" 765 (R 439), E P "__eq__" 773 (R 446), E P "__or__" 781 (R 453), E P "__and__" 787 (R 458), E P "__sub__" 793 (R 463), E P "__xor__" 801 (R 470), E P "__ior__" 809 (R 477), E P "__iand__" 817 (R 484), E P "__isub__" 825 (R 491), E P "__ixor__" 833 (R 498), E P "__le__" 839 (R 503), E P "__lt__" 847 (R 510), E P "__ge__" 855 (R 517), E P "__gt__" 863 (R 524), E P "__add__" 871 (R 531), E P "__static_attributes__" 874 (R 532)]⟩ 27), ⟨[]⟩⟩
def o368 : Obj := ⟨(T "tuple"), none, (.seq ⟨[]⟩ 0), ⟨[]⟩⟩
def o369 : Obj := ⟨N, none, (.fields ⟨[(I 160), (I 4), (R 375), (I 168), (I 4), (R 382), (I 174), (I 4), (R 392), (I 186), (I 4), (R 402), (I 189), (I 4), (R 410), (I 192), (I 4), (R 417), (I 195), (I 4), (R 424), (I 198), (I 4), (R 431), (I 201), (I 4), (R 438), (I 204), (I 4), (R 445), (I 207), (I 4), (R 452), (I 211), (I 4), (R 457), (I 215), (I 4), (R 462), (I 219), (I 4), (R 469), (I 222), (I 4), (R 476), (I 225), (I 4), (R 483), (I 228), (I 4), (R 490), (I 231), (I 4), (R 497), (I 234), (I 4), (R 502), (I 238), (I 4), (R 509), (I 241), (I 4), (R 516), (I 245), (I 4), (R 523), (I 249), (I 4), (R 530)]⟩), ⟨[]⟩⟩
def o370 : Obj := ⟨(T "code"), none, (.fields ⟨[(S "Members" 666), (S "Members" 667), (S "/claim/cut.py" 668), (I 158), (I 0), (I 0), (I 0), (I 0), (R 368), (.bool false), (I 181), (R 369), N, N, N, N, (I 669), (I 158), (S "/claim/cut.py" 670)]⟩), ⟨[]⟩⟩
def o371 : Obj := ⟨(T "frame"), none, .plain, ⟨[some (R 370), some (R 3), some (R 367), none, some (S "onemember.members" 662), none, some (R 0)]⟩⟩
def o372 : Obj := ⟨(T "tuple"), none, (.seq ⟨[]⟩ 0), ⟨[]⟩⟩
def o373 : Obj := ⟨N, none, (.fields ⟨[]⟩), ⟨[]⟩⟩
def o374 : Obj := ⟨N, none, (F (C 40 0) (u "__init__") (u "Members.__init__") 0 [] N N N N none N N 0), ⟨[]⟩⟩
def o375 : Obj := ⟨(T "code"), none, (.fields ⟨[(S "__init__" 676), (S "Members.__init__" 677), (S "/claim/cut.py" 678), (I 160), (I 1), (I 0), (I 0), (I 7), (R 372), (.bool true), (I 181), (R 373), N, N, N, (R 374), (I 679), (I 160), (S "/claim/cut.py" 680)]⟩), ⟨[]⟩⟩
def o376 : Obj := ⟨(T "function"), none, (F (C 40 0) (u "__init__") (u "Members.__init__") 3 [] N N N (S "onemember.members" 662) none (R 375) N 0), ⟨[]⟩⟩
def o377 : Obj := ⟨(T "tuple"), none, (.seq ⟨[]⟩ 0), ⟨[]⟩⟩
def o378 : Obj := ⟨N, none, (.fields ⟨[]⟩), ⟨[]⟩⟩
def o379 : Obj := ⟨(T "tuple"), none, (.seq ⟨[(S "names" 685)]⟩ 0), ⟨[]⟩⟩
def o380 : Obj := ⟨(T "tuple"), none, (.seq ⟨[]⟩ 0), ⟨[]⟩⟩
def o381 : Obj := ⟨N, none, (F (C 40 1) (u "from_names") (u "Members.from_names") 0 [] N N N N none N N 0), ⟨[]⟩⟩
def o382 : Obj := ⟨(T "code"), none, (.fields ⟨[(S "from_names" 682), (S "Members.from_names" 683), (S "/claim/cut.py" 684), (I 167), (I 1), (I 0), (I 0), (I 3), (R 377), (.bool true), (I 181), (R 378), N, (R 379), (R 380), (R 381), (I 686), (I 167), (S "/claim/cut.py" 687)]⟩), ⟨[]⟩⟩
def o383 : Obj := ⟨(T "function"), none, (F (C 40 1) (u "from_names") (u "Members.from_names") 3 [] N N N (S "onemember.members" 662) (some 386) (R 382) N 0), ⟨[]⟩⟩
def o384 (P : Params) : Obj := ⟨(T "dict"), none, (.dict ⟨[E P "__module__" 689 (S "onemember.members" 662), E P "__name__" 692 (S "from_names" 691), E P "__qualname__" 695 (S "Members.from_names" 694), E P "__doc__" 697 N, E P "__annotations__" 699 (R 386)]⟩ 5), ⟨[]⟩⟩
def o385 : Obj := ⟨(T "staticmethod"), (some 384), (.fields ⟨[(R 383), (.bool false)]⟩), ⟨[]⟩⟩
def o386 (P : Params) : Obj := ⟨(T "dict"), none, (.dict ⟨[]⟩ 0), ⟨[]⟩⟩
def o387 : Obj := ⟨(T "tuple"), none, (.seq ⟨[]⟩ 0), ⟨[]⟩⟩
def o388 : Obj := ⟨N, none, (.fields ⟨[]⟩), ⟨[]⟩⟩
def o389 : Obj := ⟨(T "tuple"), none, (.seq ⟨[(S "text" 704), (S "names" 705), (S "members" 706)]⟩ 0), ⟨[]⟩⟩
def o390 : Obj := ⟨(T "tuple"), none, (.seq ⟨[]⟩ 0), ⟨[]⟩⟩
def o391 : Obj := ⟨N, none, (F (C 40 2) (u "read") (u "Members.read") 0 [] N N N N none N N 0), ⟨[]⟩⟩
def o392 : Obj := ⟨(T "code"), none, (.fields ⟨[(S "read" 701), (S "Members.read" 702), (S "/claim/cut.py" 703), (I 173), (I 1), (I 0), (I 0), (I 3), (R 387), (.bool true), (I 181), (R 388), N, (R 389), (R 390), (R 391), (I 707), (I 173), (S "/claim/cut.py" 708)]⟩), ⟨[]⟩⟩
def o393 : Obj := ⟨(T "function"), none, (F (C 40 2) (u "read") (u "Members.read") 3 [] N N N (S "onemember.members" 662) (some 396) (R 392) N 0), ⟨[]⟩⟩
def o394 (P : Params) : Obj := ⟨(T "dict"), none, (.dict ⟨[E P "__module__" 710 (S "onemember.members" 662), E P "__name__" 713 (S "read" 712), E P "__qualname__" 716 (S "Members.read" 715), E P "__doc__" 718 N, E P "__annotations__" 720 (R 396)]⟩ 5), ⟨[]⟩⟩
def o395 : Obj := ⟨(T "staticmethod"), (some 394), (.fields ⟨[(R 393), (.bool false)]⟩), ⟨[]⟩⟩
def o396 (P : Params) : Obj := ⟨(T "dict"), none, (.dict ⟨[]⟩ 0), ⟨[]⟩⟩
def o397 : Obj := ⟨(T "tuple"), none, (.seq ⟨[]⟩ 0), ⟨[]⟩⟩
def o398 : Obj := ⟨N, none, (.fields ⟨[]⟩), ⟨[]⟩⟩
def o399 : Obj := ⟨(T "tuple"), none, (.seq ⟨[(S "self" 725)]⟩ 0), ⟨[]⟩⟩
def o400 : Obj := ⟨(T "tuple"), none, (.seq ⟨[]⟩ 0), ⟨[]⟩⟩
def o401 : Obj := ⟨N, none, (F (C 40 3) (u "names") (u "Members.names") 0 [] N N N N none N N 0), ⟨[]⟩⟩
def o402 : Obj := ⟨(T "code"), none, (.fields ⟨[(S "names" 722), (S "Members.names" 723), (S "/claim/cut.py" 724), (I 185), (I 1), (I 0), (I 0), (I 3), (R 397), (.bool true), (I 181), (R 398), N, (R 399), (R 400), (R 401), (I 726), (I 185), (S "/claim/cut.py" 727)]⟩), ⟨[]⟩⟩
def o403 : Obj := ⟨(T "function"), none, (F (C 40 3) (u "names") (u "Members.names") 3 [] N N N (S "onemember.members" 662) none (R 402) N 0), ⟨[]⟩⟩
def o404 : Obj := ⟨(T "property"), none, (.fields ⟨[(R 403), N, N, N, (S "names" 729), (.bool false)]⟩), ⟨[]⟩⟩
def o405 : Obj := ⟨(T "tuple"), none, (.seq ⟨[]⟩ 0), ⟨[]⟩⟩
def o406 : Obj := ⟨N, none, (.fields ⟨[]⟩), ⟨[]⟩⟩
def o407 : Obj := ⟨(T "tuple"), none, (.seq ⟨[(S "self" 733)]⟩ 0), ⟨[]⟩⟩
def o408 : Obj := ⟨(T "tuple"), none, (.seq ⟨[]⟩ 0), ⟨[]⟩⟩
def o409 : Obj := ⟨N, none, (F (C 40 4) (u "__str__") (u "Members.__str__") 0 [] N N N N none N N 0), ⟨[]⟩⟩
def o410 : Obj := ⟨(T "code"), none, (.fields ⟨[(S "__str__" 730), (S "Members.__str__" 731), (S "/claim/cut.py" 732), (I 189), (I 1), (I 0), (I 0), (I 3), (R 405), (.bool true), (I 181), (R 406), N, (R 407), (R 408), (R 409), (I 734), (I 189), (S "/claim/cut.py" 735)]⟩), ⟨[]⟩⟩
def o411 : Obj := ⟨(T "function"), none, (F (C 40 4) (u "__str__") (u "Members.__str__") 3 [] N N N (S "onemember.members" 662) none (R 410) N 0), ⟨[]⟩⟩
def o412 : Obj := ⟨(T "tuple"), none, (.seq ⟨[]⟩ 0), ⟨[]⟩⟩
def o413 : Obj := ⟨N, none, (.fields ⟨[]⟩), ⟨[]⟩⟩
def o414 : Obj := ⟨(T "tuple"), none, (.seq ⟨[(S "self" 740)]⟩ 0), ⟨[]⟩⟩
def o415 : Obj := ⟨(T "tuple"), none, (.seq ⟨[]⟩ 0), ⟨[]⟩⟩
def o416 : Obj := ⟨N, none, (F (C 40 5) (u "__repr__") (u "Members.__repr__") 0 [] N N N N none N N 0), ⟨[]⟩⟩
def o417 : Obj := ⟨(T "code"), none, (.fields ⟨[(S "__repr__" 737), (S "Members.__repr__" 738), (S "/claim/cut.py" 739), (I 192), (I 1), (I 0), (I 0), (I 3), (R 412), (.bool true), (I 181), (R 413), N, (R 414), (R 415), (R 416), (I 741), (I 192), (S "/claim/cut.py" 742)]⟩), ⟨[]⟩⟩
def o418 : Obj := ⟨(T "function"), none, (F (C 40 5) (u "__repr__") (u "Members.__repr__") 3 [] N N N (S "onemember.members" 662) none (R 417) N 0), ⟨[]⟩⟩
def o419 : Obj := ⟨(T "tuple"), none, (.seq ⟨[]⟩ 0), ⟨[]⟩⟩
def o420 : Obj := ⟨N, none, (.fields ⟨[]⟩), ⟨[]⟩⟩
def o421 : Obj := ⟨(T "tuple"), none, (.seq ⟨[(S "self" 747)]⟩ 0), ⟨[]⟩⟩
def o422 : Obj := ⟨(T "tuple"), none, (.seq ⟨[]⟩ 0), ⟨[]⟩⟩
def o423 : Obj := ⟨N, none, (F (C 40 6) (u "__len__") (u "Members.__len__") 0 [] N N N N none N N 0), ⟨[]⟩⟩
def o424 : Obj := ⟨(T "code"), none, (.fields ⟨[(S "__len__" 744), (S "Members.__len__" 745), (S "/claim/cut.py" 746), (I 195), (I 1), (I 0), (I 0), (I 3), (R 419), (.bool true), (I 181), (R 420), N, (R 421), (R 422), (R 423), (I 748), (I 195), (S "/claim/cut.py" 749)]⟩), ⟨[]⟩⟩
def o425 : Obj := ⟨(T "function"), none, (F (C 40 6) (u "__len__") (u "Members.__len__") 3 [] N N N (S "onemember.members" 662) none (R 424) N 0), ⟨[]⟩⟩
def o426 : Obj := ⟨(T "tuple"), none, (.seq ⟨[]⟩ 0), ⟨[]⟩⟩
def o427 : Obj := ⟨N, none, (.fields ⟨[]⟩), ⟨[]⟩⟩
def o428 : Obj := ⟨(T "tuple"), none, (.seq ⟨[(S "self" 754)]⟩ 0), ⟨[]⟩⟩
def o429 : Obj := ⟨(T "tuple"), none, (.seq ⟨[]⟩ 0), ⟨[]⟩⟩
def o430 : Obj := ⟨N, none, (F (C 40 7) (u "__iter__") (u "Members.__iter__") 0 [] N N N N none N N 0), ⟨[]⟩⟩
def o431 : Obj := ⟨(T "code"), none, (.fields ⟨[(S "__iter__" 751), (S "Members.__iter__" 752), (S "/claim/cut.py" 753), (I 198), (I 1), (I 0), (I 0), (I 3), (R 426), (.bool true), (I 181), (R 427), N, (R 428), (R 429), (R 430), (I 755), (I 198), (S "/claim/cut.py" 756)]⟩), ⟨[]⟩⟩
def o432 : Obj := ⟨(T "function"), none, (F (C 40 7) (u "__iter__") (u "Members.__iter__") 3 [] N N N (S "onemember.members" 662) none (R 431) N 0), ⟨[]⟩⟩
def o433 : Obj := ⟨(T "tuple"), none, (.seq ⟨[]⟩ 0), ⟨[]⟩⟩
def o434 : Obj := ⟨N, none, (.fields ⟨[]⟩), ⟨[]⟩⟩
def o435 : Obj := ⟨(T "tuple"), none, (.seq ⟨[(S "self" 761), (S "value" 762)]⟩ 0), ⟨[]⟩⟩
def o436 : Obj := ⟨(T "tuple"), none, (.seq ⟨[]⟩ 0), ⟨[]⟩⟩
def o437 : Obj := ⟨N, none, (F (C 40 8) (u "__contains__") (u "Members.__contains__") 0 [] N N N N none N N 0), ⟨[]⟩⟩
def o438 : Obj := ⟨(T "code"), none, (.fields ⟨[(S "__contains__" 758), (S "Members.__contains__" 759), (S "/claim/cut.py" 760), (I 201), (I 2), (I 0), (I 0), (I 3), (R 433), (.bool true), (I 181), (R 434), N, (R 435), (R 436), (R 437), (I 763), (I 201), (S "/claim/cut.py" 764)]⟩), ⟨[]⟩⟩
def o439 : Obj := ⟨(T "function"), none, (F (C 40 8) (u "__contains__") (u "Members.__contains__") 3 [] N N N (S "onemember.members" 662) none (R 438) N 0), ⟨[]⟩⟩
def o440 : Obj := ⟨(T "tuple"), none, (.seq ⟨[]⟩ 0), ⟨[]⟩⟩
def o441 : Obj := ⟨N, none, (.fields ⟨[]⟩), ⟨[]⟩⟩
def o442 : Obj := ⟨(T "tuple"), none, (.seq ⟨[(S "self" 769), (S "other" 770)]⟩ 0), ⟨[]⟩⟩
def o443 : Obj := ⟨(T "tuple"), none, (.seq ⟨[]⟩ 0), ⟨[]⟩⟩
def o444 : Obj := ⟨N, none, (F (C 40 9) (u "__eq__") (u "Members.__eq__") 0 [] N N N N none N N 0), ⟨[]⟩⟩
def o445 : Obj := ⟨(T "code"), none, (.fields ⟨[(S "__eq__" 766), (S "Members.__eq__" 767), (S "/claim/cut.py" 768), (I 204), (I 2), (I 0), (I 0), (I 3), (R 440), (.bool true), (I 181), (R 441), N, (R 442), (R 443), (R 444), (I 771), (I 204), (S "/claim/cut.py" 772)]⟩), ⟨[]⟩⟩
def o446 : Obj := ⟨(T "function"), none, (F (C 40 9) (u "__eq__") (u "Members.__eq__") 3 [] N N N (S "onemember.members" 662) none (R 445) N 0), ⟨[]⟩⟩
def o447 : Obj := ⟨(T "tuple"), none, (.seq ⟨[]⟩ 0), ⟨[]⟩⟩
def o448 : Obj := ⟨N, none, (.fields ⟨[]⟩), ⟨[]⟩⟩
def o449 : Obj := ⟨(T "tuple"), none, (.seq ⟨[(S "self" 777), (S "other" 778)]⟩ 0), ⟨[]⟩⟩
def o450 : Obj := ⟨(T "tuple"), none, (.seq ⟨[]⟩ 0), ⟨[]⟩⟩
def o451 : Obj := ⟨N, none, (F (C 40 10) (u "__or__") (u "Members.__or__") 0 [] N N N N none N N 0), ⟨[]⟩⟩
def o452 : Obj := ⟨(T "code"), none, (.fields ⟨[(S "__or__" 774), (S "Members.__or__" 775), (S "/claim/cut.py" 776), (I 207), (I 2), (I 0), (I 0), (I 3), (R 447), (.bool true), (I 181), (R 448), N, (R 449), (R 450), (R 451), (I 779), (I 207), (S "/claim/cut.py" 780)]⟩), ⟨[]⟩⟩
def o453 : Obj := ⟨(T "function"), none, (F (C 40 10) (u "__or__") (u "Members.__or__") 3 [] N N N (S "onemember.members" 662) none (R 452) N 0), ⟨[]⟩⟩
def o454 : Obj := ⟨(T "tuple"), none, (.seq ⟨[]⟩ 0), ⟨[]⟩⟩
def o455 : Obj := ⟨N, none, (.fields ⟨[]⟩), ⟨[]⟩⟩
def o456 : Obj := ⟨N, none, (F (C 40 11) (u "__and__") (u "Members.__and__") 0 [] N N N N none N N 0), ⟨[]⟩⟩
def o457 : Obj := ⟨(T "code"), none, (.fields ⟨[(S "__and__" 782), (S "Members.__and__" 783), (S "/claim/cut.py" 784), (I 211), (I 2), (I 0), (I 0), (I 3), (R 454), (.bool true), (I 181), (R 455), N, N, N, (R 456), (I 785), (I 211), (S "/claim/cut.py" 786)]⟩), ⟨[]⟩⟩
def o458 : Obj := ⟨(T "function"), none, (F (C 40 11) (u "__and__") (u "Members.__and__") 3 [] N N N (S "onemember.members" 662) none (R 457) N 0), ⟨[]⟩⟩
def o459 : Obj := ⟨(T "tuple"), none, (.seq ⟨[]⟩ 0), ⟨[]⟩⟩
def o460 : Obj := ⟨N, none, (.fields ⟨[]⟩), ⟨[]⟩⟩
def o461 : Obj := ⟨N, none, (F (C 40 12) (u "__sub__") (u "Members.__sub__") 0 [] N N N N none N N 0), ⟨[]⟩⟩
def o462 : Obj := ⟨(T "code"), none, (.fields ⟨[(S "__sub__" 788), (S "Members.__sub__" 789), (S "/claim/cut.py" 790), (I 215), (I 2), (I 0), (I 0), (I 3), (R 459), (.bool true), (I 181), (R 460), N, N, N, (R 461), (I 791), (I 215), (S "/claim/cut.py" 792)]⟩), ⟨[]⟩⟩
def o463 : Obj := ⟨(T "function"), none, (F (C 40 12) (u "__sub__") (u "Members.__sub__") 3 [] N N N (S "onemember.members" 662) none (R 462) N 0), ⟨[]⟩⟩
def o464 : Obj := ⟨(T "tuple"), none, (.seq ⟨[]⟩ 0), ⟨[]⟩⟩
def o465 : Obj := ⟨N, none, (.fields ⟨[]⟩), ⟨[]⟩⟩
def o466 : Obj := ⟨(T "tuple"), none, (.seq ⟨[(S "self" 797), (S "other" 798)]⟩ 0), ⟨[]⟩⟩
def o467 : Obj := ⟨(T "tuple"), none, (.seq ⟨[]⟩ 0), ⟨[]⟩⟩
def o468 : Obj := ⟨N, none, (F (C 40 13) (u "__xor__") (u "Members.__xor__") 0 [] N N N N none N N 0), ⟨[]⟩⟩
def o469 : Obj := ⟨(T "code"), none, (.fields ⟨[(S "__xor__" 794), (S "Members.__xor__" 795), (S "/claim/cut.py" 796), (I 219), (I 2), (I 0), (I 0), (I 3), (R 464), (.bool true), (I 181), (R 465), N, (R 466), (R 467), (R 468), (I 799), (I 219), (S "/claim/cut.py" 800)]⟩), ⟨[]⟩⟩
def o470 : Obj := ⟨(T "function"), none, (F (C 40 13) (u "__xor__") (u "Members.__xor__") 3 [] N N N (S "onemember.members" 662) none (R 469) N 0), ⟨[]⟩⟩
def o471 : Obj := ⟨(T "tuple"), none, (.seq ⟨[]⟩ 0), ⟨[]⟩⟩
def o472 : Obj := ⟨N, none, (.fields ⟨[]⟩), ⟨[]⟩⟩
def o473 : Obj := ⟨(T "tuple"), none, (.seq ⟨[(S "self" 805), (S "other" 806)]⟩ 0), ⟨[]⟩⟩
def o474 : Obj := ⟨(T "tuple"), none, (.seq ⟨[]⟩ 0), ⟨[]⟩⟩
def o475 : Obj := ⟨N, none, (F (C 40 14) (u "__ior__") (u "Members.__ior__") 0 [] N N N N none N N 0), ⟨[]⟩⟩
def o476 : Obj := ⟨(T "code"), none, (.fields ⟨[(S "__ior__" 802), (S "Members.__ior__" 803), (S "/claim/cut.py" 804), (I 222), (I 2), (I 0), (I 0), (I 3), (R 471), (.bool true), (I 181), (R 472), N, (R 473), (R 474), (R 475), (I 807), (I 222), (S "/claim/cut.py" 808)]⟩), ⟨[]⟩⟩
def o477 : Obj := ⟨(T "function"), none, (F (C 40 14) (u "__ior__") (u "Members.__ior__") 3 [] N N N (S "onemember.members" 662) none (R 476) N 0), ⟨[]⟩⟩
def o478 : Obj := ⟨(T "tuple"), none, (.seq ⟨[]⟩ 0), ⟨[]⟩⟩
def o479 : Obj := ⟨N, none, (.fields ⟨[]⟩), ⟨[]⟩⟩
def o480 : Obj := ⟨(T "tuple"), none, (.seq ⟨[(S "self" 813), (S "other" 814)]⟩ 0), ⟨[]⟩⟩
def o481 : Obj := ⟨(T "tuple"), none, (.seq ⟨[]⟩ 0), ⟨[]⟩⟩
def o482 : Obj := ⟨N, none, (F (C 40 15) (u "__iand__") (u "Members.__iand__") 0 [] N N N N none N N 0), ⟨[]⟩⟩
def o483 : Obj := ⟨(T "code"), none, (.fields ⟨[(S "__iand__" 810), (S "Members.__iand__" 811), (S "/claim/cut.py" 812), (I 225), (I 2), (I 0), (I 0), (I 3), (R 478), (.bool true), (I 181), (R 479), N, (R 480), (R 481), (R 482), (I 815), (I 225), (S "/claim/cut.py" 816)]⟩), ⟨[]⟩⟩
def o484 : Obj := ⟨(T "function"), none, (F (C 40 15) (u "__iand__") (u "Members.__iand__") 3 [] N N N (S "onemember.members" 662) none (R 483) N 0), ⟨[]⟩⟩
def o485 : Obj := ⟨(T "tuple"), none, (.seq ⟨[]⟩ 0), ⟨[]⟩⟩
def o486 : Obj := ⟨N, none, (.fields ⟨[]⟩), ⟨[]⟩⟩
def o487 : Obj := ⟨(T "tuple"), none, (.seq ⟨[(S "self" 821), (S "other" 822)]⟩ 0), ⟨[]⟩⟩
def o488 : Obj := ⟨(T "tuple"), none, (.seq ⟨[]⟩ 0), ⟨[]⟩⟩
def o489 : Obj := ⟨N, none, (F (C 40 16) (u "__isub__") (u "Members.__isub__") 0 [] N N N N none N N 0), ⟨[]⟩⟩
def o490 : Obj := ⟨(T "code"), none, (.fields ⟨[(S "__isub__" 818), (S "Members.__isub__" 819), (S "/claim/cut.py" 820), (I 228), (I 2), (I 0), (I 0), (I 3), (R 485), (.bool true), (I 181), (R 486), N, (R 487), (R 488), (R 489), (I 823), (I 228), (S "/claim/cut.py" 824)]⟩), ⟨[]⟩⟩
def o491 : Obj := ⟨(T "function"), none, (F (C 40 16) (u "__isub__") (u "Members.__isub__") 3 [] N N N (S "onemember.members" 662) none (R 490) N 0), ⟨[]⟩⟩
def o492 : Obj := ⟨(T "tuple"), none, (.seq ⟨[]⟩ 0), ⟨[]⟩⟩
def o493 : Obj := ⟨N, none, (.fields ⟨[]⟩), ⟨[]⟩⟩
def o494 : Obj := ⟨(T "tuple"), none, (.seq ⟨[(S "self" 829), (S "other" 830)]⟩ 0), ⟨[]⟩⟩
def o495 : Obj := ⟨(T "tuple"), none, (.seq ⟨[]⟩ 0), ⟨[]⟩⟩
def o496 : Obj := ⟨N, none, (F (C 40 17) (u "__ixor__") (u "Members.__ixor__") 0 [] N N N N none N N 0), ⟨[]⟩⟩
def o497 : Obj := ⟨(T "code"), none, (.fields ⟨[(S "__ixor__" 826), (S "Members.__ixor__" 827), (S "/claim/cut.py" 828), (I 231), (I 2), (I 0), (I 0), (I 3), (R 492), (.bool true), (I 181), (R 493), N, (R 494), (R 495), (R 496), (I 831), (I 231), (S "/claim/cut.py" 832)]⟩), ⟨[]⟩⟩
def o498 : Obj := ⟨(T "function"), none, (F (C 40 17) (u "__ixor__") (u "Members.__ixor__") 3 [] N N N (S "onemember.members" 662) none (R 497) N 0), ⟨[]⟩⟩
def o499 : Obj := ⟨(T "tuple"), none, (.seq ⟨[]⟩ 0), ⟨[]⟩⟩
def o500 : Obj := ⟨N, none, (.fields ⟨[]⟩), ⟨[]⟩⟩
def o501 : Obj := ⟨N, none, (F (C 40 18) (u "__le__") (u "Members.__le__") 0 [] N N N N none N N 0), ⟨[]⟩⟩
def o502 : Obj := ⟨(T "code"), none, (.fields ⟨[(S "__le__" 834), (S "Members.__le__" 835), (S "/claim/cut.py" 836), (I 234), (I 2), (I 0), (I 0), (I 3), (R 499), (.bool true), (I 181), (R 500), N, N, N, (R 501), (I 837), (I 234), (S "/claim/cut.py" 838)]⟩), ⟨[]⟩⟩
def o503 : Obj := ⟨(T "function"), none, (F (C 40 18) (u "__le__") (u "Members.__le__") 3 [] N N N (S "onemember.members" 662) none (R 502) N 0), ⟨[]⟩⟩
def o504 : Obj := ⟨(T "tuple"), none, (.seq ⟨[]⟩ 0), ⟨[]⟩⟩
def o505 : Obj := ⟨N, none, (.fields ⟨[]⟩), ⟨[]⟩⟩
def o506 : Obj := ⟨(T "tuple"), none, (.seq ⟨[(S "self" 843), (S "other" 844)]⟩ 0), ⟨[]⟩⟩
def o507 : Obj := ⟨(T "tuple"), none, (.seq ⟨[]⟩ 0), ⟨[]⟩⟩
def o508 : Obj := ⟨N, none, (F (C 40 19) (u "__lt__") (u "Members.__lt__") 0 [] N N N N none N N 0), ⟨[]⟩⟩
def o509 : Obj := ⟨(T "code"), none, (.fields ⟨[(S "__lt__" 840), (S "Members.__lt__" 841), (S "/claim/cut.py" 842), (I 238), (I 2), (I 0), (I 0), (I 3), (R 504), (.bool true), (I 181), (R 505), N, (R 506), (R 507), (R 508), (I 845), (I 238), (S "/claim/cut.py" 846)]⟩), ⟨[]⟩⟩
def o510 : Obj := ⟨(T "function"), none, (F (C 40 19) (u "__lt__") (u "Members.__lt__") 3 [] N N N (S "onemember.members" 662) none (R 509) N 0), ⟨[]⟩⟩
def o511 : Obj := ⟨(T "tuple"), none, (.seq ⟨[]⟩ 0), ⟨[]⟩⟩
def o512 : Obj := ⟨N, none, (.fields ⟨[]⟩), ⟨[]⟩⟩
def o513 : Obj := ⟨(T "tuple"), none, (.seq ⟨[(S "self" 851), (S "other" 852)]⟩ 0), ⟨[]⟩⟩
def o514 : Obj := ⟨(T "tuple"), none, (.seq ⟨[]⟩ 0), ⟨[]⟩⟩
def o515 : Obj := ⟨N, none, (F (C 40 20) (u "__ge__") (u "Members.__ge__") 0 [] N N N N none N N 0), ⟨[]⟩⟩
def o516 : Obj := ⟨(T "code"), none, (.fields ⟨[(S "__ge__" 848), (S "Members.__ge__" 849), (S "/claim/cut.py" 850), (I 241), (I 2), (I 0), (I 0), (I 3), (R 511), (.bool true), (I 181), (R 512), N, (R 513), (R 514), (R 515), (I 853), (I 241), (S "/claim/cut.py" 854)]⟩), ⟨[]⟩⟩
def o517 : Obj := ⟨(T "function"), none, (F (C 40 20) (u "__ge__") (u "Members.__ge__") 3 [] N N N (S "onemember.members" 662) none (R 516) N 0), ⟨[]⟩⟩
def o518 : Obj := ⟨(T "tuple"), none, (.seq ⟨[]⟩ 0), ⟨[]⟩⟩
def o519 : Obj := ⟨N, none, (.fields ⟨[]⟩), ⟨[]⟩⟩
def o520 : Obj := ⟨(T "tuple"), none, (.seq ⟨[(S "self" 859), (S "other" 860)]⟩ 0), ⟨[]⟩⟩
def o521 : Obj := ⟨(T "tuple"), none, (.seq ⟨[]⟩ 0), ⟨[]⟩⟩
def o522 : Obj := ⟨N, none, (F (C 40 21) (u "__gt__") (u "Members.__gt__") 0 [] N N N N none N N 0), ⟨[]⟩⟩
def o523 : Obj := ⟨(T "code"), none, (.fields ⟨[(S "__gt__" 856), (S "Members.__gt__" 857), (S "/claim/cut.py" 858), (I 245), (I 2), (I 0), (I 0), (I 3), (R 518), (.bool true), (I 181), (R 519), N, (R 520), (R 521), (R 522), (I 861), (I 245), (S "/claim/cut.py" 862)]⟩), ⟨[]⟩⟩
def o524 : Obj := ⟨(T "function"), none, (F (C 40 21) (u "__gt__") (u "Members.__gt__") 3 [] N N N (S "onemember.members" 662) none (R 523) N 0), ⟨[]⟩⟩
def o525 : Obj := ⟨(T "tuple"), none, (.seq ⟨[]⟩ 0), ⟨[]⟩⟩
def o526 : Obj := ⟨N, none, (.fields ⟨[]⟩), ⟨[]⟩⟩
def o527 : Obj := ⟨(T "tuple"), none, (.seq ⟨[(S "self" 867), (S "other" 868)]⟩ 0), ⟨[]⟩⟩
def o528 : Obj := ⟨(T "tuple"), none, (.seq ⟨[]⟩ 0), ⟨[]⟩⟩
def o529 : Obj := ⟨N, none, (F (C 40 22) (u "__add__") (u "Members.__add__") 0 [] N N N N none N N 0), ⟨[]⟩⟩
def o530 : Obj := ⟨(T "code"), none, (.fields ⟨[(S "__add__" 864), (S "Members.__add__" 865), (S "/claim/cut.py" 866), (I 249), (I 2), (I 0), (I 0), (I 3), (R 525), (.bool true), (I 181), (R 526), N, (R 527), (R 528), (R 529), (I 869), (I 249), (S "/claim/cut.py" 870)]⟩), ⟨[]⟩⟩
def o531 : Obj := ⟨(T "function"), none, (F (C 40 22) (u "__add__") (u "Members.__add__") 3 [] N N N (S "onemember.members" 662) none (R 530) N 0), ⟨[]⟩⟩
def o532 : Obj := ⟨(T "tuple"), none, (.seq ⟨[(S "_names" 872), (S "_table" 873)]⟩ 0), ⟨[]⟩⟩
def o533 (P : Params) : Obj := ⟨(T "dict"), none, (.dict ⟨[E P "__module__" 671 (S "onemember.members" 662), E P "__firstlineno__" 675 (.int 158 674), E P "__init__" 681 (R 376), E P "from_names" 700 (R 385), E P "read" 721 (R 395), E P "names" 729 (R 404), E P "__str__" 736 (R 411), E P "__repr__" 743 (R 418), E P "__len__" 750 (R 425), E P "__iter__" 757 (R 432), E P "__contains__" 765 (R 439), E P "__eq__" 773 (R 446), E P "__or__" 781 (R 453), E P "__and__" 787 (R 458), E P "__sub__" 793 (R 463), E P "__xor__" 801 (R 470), E P "__ior__" 809 (R 477), E P "__iand__" 817 (R 484), E P "__isub__" 825 (R 491), E P "__ixor__" 833 (R 498), E P "__le__" 839 (R 503), E P "__lt__" 847 (R 510), E P "__ge__" 855 (R 517), E P "__gt__" 863 (R 524), E P "__add__" 871 (R 531), E P "__static_attributes__" 874 (R 532), E P "__dict__" 876 (R 535), E P "__weakref__" 878 (R 536), E P "__doc__" 879 N, E P "__hash__" 880 N]⟩ 5), ⟨[]⟩⟩
def o534 : Obj := ⟨(T "type"), none, (.cls ⟨(u "Members"), [(T "object")], [(R 534), (T "object")], 533, (u "Members"), true, [], [], false, none, false⟩), ⟨[none, none, some (S "Members" 664), some (S "Members" 672), some (B "object.__new__"), some (.bool true)]⟩⟩
def o535 : Obj := ⟨(T "getset_descriptor"), none, (.fields ⟨[(S "__dict__" 875), (R 534), (B "function.__dict__"), (B "function.__dict__#set")]⟩), ⟨[]⟩⟩
def o536 : Obj := ⟨(T "getset_descriptor"), none, (.fields ⟨[(S "__weakref__" 877), (R 534), (B "ExceptionGroup.__weakref__"), N]⟩), ⟨[]⟩⟩
def o537 : Obj := ⟨(T "super"), none, (.fields ⟨[(R 534), (R 534), (R 534)]⟩), ⟨[]⟩⟩
def o538 : Obj := ⟨(T "builtin_function_or_method"), none, (.fields ⟨[(B "object.__init_subclass__"), (R 534)]⟩), ⟨[]⟩⟩
def o539 : Obj := ⟨(T "tuple"), none, (.seq ⟨[]⟩ 0), ⟨[]⟩⟩
def o540 : Obj := ⟨(T "builtin_function_or_method"), none, (.fields ⟨[(B "type.__prepare__"), (T "type")]⟩), ⟨[]⟩⟩
def o541 (P : Params) : Obj := ⟨(T "dict"), none, (.dict ⟨[E P "__module__" 890 (S "onemember.members" 662), E P "__qualname__" 892 (S "Change" 891), E P "__firstlineno__" 894 (.int 252 893), E P "__init__" 903 (R 552), E P "between" 923 (R 561), E P "came" 931 (R 570), E P "went" 939 (R 578), E P "__repr__" 946 (R 585), E P "__bool__" 953 (R 592), E P "__abs__" 960 (R 599), E P "__eq__" 968 (R 606), E P "__neg__" 975 (R 613), E P "__add__" 985 (R 620), E P "__static_attributes__" 988 (R 621)]⟩ 14), ⟨[]⟩⟩
def o542 : Obj := ⟨(T "tuple"), none, (.seq ⟨[]⟩ 0), ⟨[]⟩⟩
def o543 : Obj := ⟨N, none, (.fields ⟨[(I 254), (I 4), (R 551), (I 263), (I 4), (R 558), (I 269), (I 4), (R 568), (I 273), (I 4), (R 576), (I 276), (I 4), (R 584), (I 279), (I 4), (R 591), (I 282), (I 4), (R 598), (I 285), (I 4), (R 605), (I 288), (I 4), (R 612), (I 291), (I 4), (R 619)]⟩), ⟨[]⟩⟩
def o544 : Obj := ⟨(T "code"), none, (.fields ⟨[(S "Change" 885), (S "Change" 886), (S "/claim/cut.py" 887), (I 252), (I 0), (I 0), (I 0), (I 0), (R 542), (.bool false), (I 181), (R 543), N, N, N, N, (I 888), (I 252), (S "/claim/cut.py" 889)]⟩), ⟨[]⟩⟩
def o545 : Obj := ⟨(T "frame"), none, .plain, ⟨[some (R 544), some (R 3), some (R 541), none, some (S "onemember.members" 662), none, some (R 0)]⟩⟩
def o546 : Obj := ⟨(T "tuple"), none, (.seq ⟨[]⟩ 0), ⟨[]⟩⟩
def o547 : Obj := ⟨N, none, (.fields ⟨[]⟩), ⟨[]⟩⟩
def o548 : Obj := ⟨(T "tuple"), none, (.seq ⟨[(S "self" 898), (S "came" 899), (S "went" 900)]⟩ 0), ⟨[]⟩⟩
def o549 : Obj := ⟨(T "tuple"), none, (.seq ⟨[]⟩ 0), ⟨[]⟩⟩
def o550 : Obj := ⟨N, none, (F (C 41 0) (u "__init__") (u "Change.__init__") 0 [] N N N N none N N 0), ⟨[]⟩⟩
def o551 : Obj := ⟨(T "code"), none, (.fields ⟨[(S "__init__" 895), (S "Change.__init__" 896), (S "/claim/cut.py" 897), (I 254), (I 3), (I 0), (I 0), (I 3), (R 546), (.bool true), (I 181), (R 547), N, (R 548), (R 549), (R 550), (I 901), (I 254), (S "/claim/cut.py" 902)]⟩), ⟨[]⟩⟩
def o552 : Obj := ⟨(T "function"), none, (F (C 41 0) (u "__init__") (u "Change.__init__") 3 [] N N N (S "onemember.members" 662) none (R 551) N 0), ⟨[]⟩⟩
def o553 : Obj := ⟨(T "tuple"), none, (.seq ⟨[]⟩ 0), ⟨[]⟩⟩
def o554 : Obj := ⟨N, none, (.fields ⟨[]⟩), ⟨[]⟩⟩
def o555 : Obj := ⟨(T "tuple"), none, (.seq ⟨[(S "before" 907), (S "after" 908)]⟩ 0), ⟨[]⟩⟩
def o556 : Obj := ⟨(T "tuple"), none, (.seq ⟨[]⟩ 0), ⟨[]⟩⟩
def o557 : Obj := ⟨N, none, (F (C 41 1) (u "between") (u "Change.between") 0 [] N N N N none N N 0), ⟨[]⟩⟩
def o558 : Obj := ⟨(T "code"), none, (.fields ⟨[(S "between" 904), (S "Change.between" 905), (S "/claim/cut.py" 906), (I 262), (I 2), (I 0), (I 0), (I 3), (R 553), (.bool true), (I 181), (R 554), N, (R 555), (R 556), (R 557), (I 909), (I 262), (S "/claim/cut.py" 910)]⟩), ⟨[]⟩⟩
def o559 : Obj := ⟨(T "function"), none, (F (C 41 1) (u "between") (u "Change.between") 3 [] N N N (S "onemember.members" 662) (some 562) (R 558) N 0), ⟨[]⟩⟩
def o560 (P : Params) : Obj := ⟨(T "dict"), none, (.dict ⟨[E P "__module__" 912 (S "onemember.members" 662), E P "__name__" 915 (S "between" 914), E P "__qualname__" 918 (S "Change.between" 917), E P "__doc__" 920 N, E P "__annotations__" 922 (R 562)]⟩ 5), ⟨[]⟩⟩
def o561 : Obj := ⟨(T "staticmethod"), (some 560), (.fields ⟨[(R 559), (.bool false)]⟩), ⟨[]⟩⟩
def o562 (P : Params) : Obj := ⟨(T "dict"), none, (.dict ⟨[]⟩ 0), ⟨[]⟩⟩
def o563 : Obj := ⟨(T "tuple"), none, (.seq ⟨[]⟩ 0), ⟨[]⟩⟩
def o564 : Obj := ⟨N, none, (.fields ⟨[]⟩), ⟨[]⟩⟩
def o565 : Obj := ⟨(T "tuple"), none, (.seq ⟨[(S "self" 927)]⟩ 0), ⟨[]⟩⟩
def o566 : Obj := ⟨(T "tuple"), none, (.seq ⟨[]⟩ 0), ⟨[]⟩⟩
def o567 : Obj := ⟨N, none, (F (C 41 2) (u "came") (u "Change.came") 0 [] N N N N none N N 0), ⟨[]⟩⟩
def o568 : Obj := ⟨(T "code"), none, (.fields ⟨[(S "came" 924), (S "Change.came" 925), (S "/claim/cut.py" 926), (I 268), (I 1), (I 0), (I 0), (I 3), (R 563), (.bool true), (I 181), (R 564), N, (R 565), (R 566), (R 567), (I 928), (I 268), (S "/claim/cut.py" 929)]⟩), ⟨[]⟩⟩
def o569 : Obj := ⟨(T "function"), none, (F (C 41 2) (u "came") (u "Change.came") 3 [] N N N (S "onemember.members" 662) none (R 568) N 0), ⟨[]⟩⟩
def o570 : Obj := ⟨(T "property"), none, (.fields ⟨[(R 569), N, N, N, (S "came" 931), (.bool false)]⟩), ⟨[]⟩⟩
def o571 : Obj := ⟨(T "tuple"), none, (.seq ⟨[]⟩ 0), ⟨[]⟩⟩
def o572 : Obj := ⟨N, none, (.fields ⟨[]⟩), ⟨[]⟩⟩
def o573 : Obj := ⟨(T "tuple"), none, (.seq ⟨[(S "self" 935)]⟩ 0), ⟨[]⟩⟩
def o574 : Obj := ⟨(T "tuple"), none, (.seq ⟨[]⟩ 0), ⟨[]⟩⟩
def o575 : Obj := ⟨N, none, (F (C 41 3) (u "went") (u "Change.went") 0 [] N N N N none N N 0), ⟨[]⟩⟩
def o576 : Obj := ⟨(T "code"), none, (.fields ⟨[(S "went" 932), (S "Change.went" 933), (S "/claim/cut.py" 934), (I 272), (I 1), (I 0), (I 0), (I 3), (R 571), (.bool true), (I 181), (R 572), N, (R 573), (R 574), (R 575), (I 936), (I 272), (S "/claim/cut.py" 937)]⟩), ⟨[]⟩⟩
def o577 : Obj := ⟨(T "function"), none, (F (C 41 3) (u "went") (u "Change.went") 3 [] N N N (S "onemember.members" 662) none (R 576) N 0), ⟨[]⟩⟩
def o578 : Obj := ⟨(T "property"), none, (.fields ⟨[(R 577), N, N, N, (S "went" 939), (.bool false)]⟩), ⟨[]⟩⟩
def o579 : Obj := ⟨(T "tuple"), none, (.seq ⟨[]⟩ 0), ⟨[]⟩⟩
def o580 : Obj := ⟨N, none, (.fields ⟨[]⟩), ⟨[]⟩⟩
def o581 : Obj := ⟨(T "tuple"), none, (.seq ⟨[(S "self" 943)]⟩ 0), ⟨[]⟩⟩
def o582 : Obj := ⟨(T "tuple"), none, (.seq ⟨[]⟩ 0), ⟨[]⟩⟩
def o583 : Obj := ⟨N, none, (F (C 41 4) (u "__repr__") (u "Change.__repr__") 0 [] N N N N none N N 0), ⟨[]⟩⟩
def o584 : Obj := ⟨(T "code"), none, (.fields ⟨[(S "__repr__" 940), (S "Change.__repr__" 941), (S "/claim/cut.py" 942), (I 276), (I 1), (I 0), (I 0), (I 3), (R 579), (.bool true), (I 181), (R 580), N, (R 581), (R 582), (R 583), (I 944), (I 276), (S "/claim/cut.py" 945)]⟩), ⟨[]⟩⟩
def o585 : Obj := ⟨(T "function"), none, (F (C 41 4) (u "__repr__") (u "Change.__repr__") 3 [] N N N (S "onemember.members" 662) none (R 584) N 0), ⟨[]⟩⟩
def o586 : Obj := ⟨(T "tuple"), none, (.seq ⟨[]⟩ 0), ⟨[]⟩⟩
def o587 : Obj := ⟨N, none, (.fields ⟨[]⟩), ⟨[]⟩⟩
def o588 : Obj := ⟨(T "tuple"), none, (.seq ⟨[(S "self" 950)]⟩ 0), ⟨[]⟩⟩
def o589 : Obj := ⟨(T "tuple"), none, (.seq ⟨[]⟩ 0), ⟨[]⟩⟩
def o590 : Obj := ⟨N, none, (F (C 41 5) (u "__bool__") (u "Change.__bool__") 0 [] N N N N none N N 0), ⟨[]⟩⟩
def o591 : Obj := ⟨(T "code"), none, (.fields ⟨[(S "__bool__" 947), (S "Change.__bool__" 948), (S "/claim/cut.py" 949), (I 279), (I 1), (I 0), (I 0), (I 3), (R 586), (.bool true), (I 181), (R 587), N, (R 588), (R 589), (R 590), (I 951), (I 279), (S "/claim/cut.py" 952)]⟩), ⟨[]⟩⟩
def o592 : Obj := ⟨(T "function"), none, (F (C 41 5) (u "__bool__") (u "Change.__bool__") 3 [] N N N (S "onemember.members" 662) none (R 591) N 0), ⟨[]⟩⟩
def o593 : Obj := ⟨(T "tuple"), none, (.seq ⟨[]⟩ 0), ⟨[]⟩⟩
def o594 : Obj := ⟨N, none, (.fields ⟨[]⟩), ⟨[]⟩⟩
def o595 : Obj := ⟨(T "tuple"), none, (.seq ⟨[(S "self" 957)]⟩ 0), ⟨[]⟩⟩
def o596 : Obj := ⟨(T "tuple"), none, (.seq ⟨[]⟩ 0), ⟨[]⟩⟩
def o597 : Obj := ⟨N, none, (F (C 41 6) (u "__abs__") (u "Change.__abs__") 0 [] N N N N none N N 0), ⟨[]⟩⟩
def o598 : Obj := ⟨(T "code"), none, (.fields ⟨[(S "__abs__" 954), (S "Change.__abs__" 955), (S "/claim/cut.py" 956), (I 282), (I 1), (I 0), (I 0), (I 3), (R 593), (.bool true), (I 181), (R 594), N, (R 595), (R 596), (R 597), (I 958), (I 282), (S "/claim/cut.py" 959)]⟩), ⟨[]⟩⟩
def o599 : Obj := ⟨(T "function"), none, (F (C 41 6) (u "__abs__") (u "Change.__abs__") 3 [] N N N (S "onemember.members" 662) none (R 598) N 0), ⟨[]⟩⟩
def o600 : Obj := ⟨(T "tuple"), none, (.seq ⟨[]⟩ 0), ⟨[]⟩⟩
def o601 : Obj := ⟨N, none, (.fields ⟨[]⟩), ⟨[]⟩⟩
def o602 : Obj := ⟨(T "tuple"), none, (.seq ⟨[(S "self" 964), (S "other" 965)]⟩ 0), ⟨[]⟩⟩
def o603 : Obj := ⟨(T "tuple"), none, (.seq ⟨[]⟩ 0), ⟨[]⟩⟩
def o604 : Obj := ⟨N, none, (F (C 41 7) (u "__eq__") (u "Change.__eq__") 0 [] N N N N none N N 0), ⟨[]⟩⟩
def o605 : Obj := ⟨(T "code"), none, (.fields ⟨[(S "__eq__" 961), (S "Change.__eq__" 962), (S "/claim/cut.py" 963), (I 285), (I 2), (I 0), (I 0), (I 3), (R 600), (.bool true), (I 181), (R 601), N, (R 602), (R 603), (R 604), (I 966), (I 285), (S "/claim/cut.py" 967)]⟩), ⟨[]⟩⟩
def o606 : Obj := ⟨(T "function"), none, (F (C 41 7) (u "__eq__") (u "Change.__eq__") 3 [] N N N (S "onemember.members" 662) none (R 605) N 0), ⟨[]⟩⟩
def o607 : Obj := ⟨(T "tuple"), none, (.seq ⟨[]⟩ 0), ⟨[]⟩⟩
def o608 : Obj := ⟨N, none, (.fields ⟨[]⟩), ⟨[]⟩⟩
def o609 : Obj := ⟨(T "tuple"), none, (.seq ⟨[(S "self" 972)]⟩ 0), ⟨[]⟩⟩
def o610 : Obj := ⟨(T "tuple"), none, (.seq ⟨[]⟩ 0), ⟨[]⟩⟩
def o611 : Obj := ⟨N, none, (F (C 41 8) (u "__neg__") (u "Change.__neg__") 0 [] N N N N none N N 0), ⟨[]⟩⟩
def o612 : Obj := ⟨(T "code"), none, (.fields ⟨[(S "__neg__" 969), (S "Change.__neg__" 970), (S "/claim/cut.py" 971), (I 288), (I 1), (I 0), (I 0), (I 3), (R 607), (.bool true), (I 181), (R 608), N, (R 609), (R 610), (R 611), (I 973), (I 288), (S "/claim/cut.py" 974)]⟩), ⟨[]⟩⟩
def o613 : Obj := ⟨(T "function"), none, (F (C 41 8) (u "__neg__") (u "Change.__neg__") 3 [] N N N (S "onemember.members" 662) none (R 612) N 0), ⟨[]⟩⟩
def o614 : Obj := ⟨(T "tuple"), none, (.seq ⟨[]⟩ 0), ⟨[]⟩⟩
def o615 : Obj := ⟨N, none, (.fields ⟨[]⟩), ⟨[]⟩⟩
def o616 : Obj := ⟨(T "tuple"), none, (.seq ⟨[(S "self" 979), (S "other" 980), (S "came" 981), (S "went" 982)]⟩ 0), ⟨[]⟩⟩
def o617 : Obj := ⟨(T "tuple"), none, (.seq ⟨[]⟩ 0), ⟨[]⟩⟩
def o618 : Obj := ⟨N, none, (F (C 41 9) (u "__add__") (u "Change.__add__") 0 [] N N N N none N N 0), ⟨[]⟩⟩
def o619 : Obj := ⟨(T "code"), none, (.fields ⟨[(S "__add__" 976), (S "Change.__add__" 977), (S "/claim/cut.py" 978), (I 291), (I 2), (I 0), (I 0), (I 3), (R 614), (.bool true), (I 181), (R 615), N, (R 616), (R 617), (R 618), (I 983), (I 291), (S "/claim/cut.py" 984)]⟩), ⟨[]⟩⟩
def o620 : Obj := ⟨(T "function"), none, (F (C 41 9) (u "__add__") (u "Change.__add__") 3 [] N N N (S "onemember.members" 662) none (R 619) N 0), ⟨[]⟩⟩
def o621 : Obj := ⟨(T "tuple"), none, (.seq ⟨[(S "_came" 986), (S "_went" 987)]⟩ 0), ⟨[]⟩⟩
def o622 (P : Params) : Obj := ⟨(T "dict"), none, (.dict ⟨[E P "__module__" 890 (S "onemember.members" 662), E P "__firstlineno__" 894 (.int 252 893), E P "__init__" 903 (R 552), E P "between" 923 (R 561), E P "came" 931 (R 570), E P "went" 939 (R 578), E P "__repr__" 946 (R 585), E P "__bool__" 953 (R 592), E P "__abs__" 960 (R 599), E P "__eq__" 968 (R 606), E P "__neg__" 975 (R 613), E P "__add__" 985 (R 620), E P "__static_attributes__" 988 (R 621), E P "__dict__" 990 (R 624), E P "__weakref__" 992 (R 625), E P "__doc__" 993 N, E P "__hash__" 994 N]⟩ 5), ⟨[]⟩⟩
def o623 : Obj := ⟨(T "type"), none, (.cls ⟨(u "Change"), [(T "object")], [(R 623), (T "object")], 622, (u "Change"), true, [], [], false, none, false⟩), ⟨[none, none, some (S "Change" 883), some (S "Change" 891), some (B "object.__new__"), some (.bool true)]⟩⟩
def o624 : Obj := ⟨(T "getset_descriptor"), none, (.fields ⟨[(S "__dict__" 989), (R 623), (B "function.__dict__"), (B "function.__dict__#set")]⟩), ⟨[]⟩⟩
def o625 : Obj := ⟨(T "getset_descriptor"), none, (.fields ⟨[(S "__weakref__" 991), (R 623), (B "ExceptionGroup.__weakref__"), N]⟩), ⟨[]⟩⟩
def o626 : Obj := ⟨(T "super"), none, (.fields ⟨[(R 623), (R 623), (R 623)]⟩), ⟨[]⟩⟩
def o627 : Obj := ⟨(T "builtin_function_or_method"), none, (.fields ⟨[(B "object.__init_subclass__"), (R 623)]⟩), ⟨[]⟩⟩
def t2 (P : Params) : BT := (n (boot_o_0 P) (n (boot_o_1 P) (n (o3_2 P) (n (boot_o_7 P) (n o15 (n o31 (n (o63 P) (n o127 (n o255 (n o511 z z) z) (n o383 z z)) (n o191 (n o319 (n o575 z z) z) (n o447 z z))) (n (o95 P) (n o159 (n o287 (n o543 z z) z) (n o415 z z)) (n o223 (n o351 (n o607 z z) z) (n o479 z z)))) (n o47 (n o79 (n o143 (n o271 (n o527 z z) z) (n o399 z z)) (n o207 (n o335 (n o591 z z) z) (n o463 z z))) (n o111 (n o175 (n o303 (n o559 z z) z) (n o431 z z)) (n o239 (n (o367 P) (n o623 z z) z) (n o495 z z))))) (n o23 (n o39 (n o71 (n o135 (n o263 (n o519 z z) z) (n o391 z z)) (n o199 (n o327 (n o583 z z) z) (n o455 z z))) (n o103 (n o167 (n o295 (n o551 z z) z) (n o423 z z)) (n o231 (n o359 (n o615 z z) z) (n o487 z z)))) (n o55 (n o87 (n o151 (n o279 (n o535 z z) z) (n o407 z z)) (n (o215 P) (n o343 (n o599 z z) z) (n o471 z z))) (n o119 (n o183 (n o311 (n o567 z z) z) (n o439 z z)) (n o247 (n o375 z z) (n o503 z z)))))) (n o11 (n o19 (n o35 (n o67 (n o131 (n (o259 P) (n o515 z z) z) (n o387 z z)) (n o195 (n o323 (n o579 z z) z) (n o451 z z))) (n o99 (n o163 (n o291 (n o547 z z) z) (n o419 z z)) (n (o227 P) (n o355 (n o611 z z) z) (n o483 z z)))) (n o51 (n o83 (n o147 (n o275 (n o531 z z) z) (n o403 z z)) (n o211 (n o339 (n o595 z z) z) (n o467 z z))) (n o115 (n o179 (n o307 (n o563 z z) z) (n o435 z z)) (n o243 (n o371 (n o627 z z) z) (n o499 z z))))) (n o27 (n (o43 P) (n o75 (n (o139 P) (n o267 (n o523 z z) z) (n o395 z z)) (n o203 (n o331 (n o587 z z) z) (n o459 z z))) (n o107 (n (o171 P) (n o299 (n o555 z z) z) (n o427 z z)) (n o235 (n o363 (n o619 z z) z) (n o491 z z)))) (n o59 (n o91 (n o155 (n o283 (n o539 z z) z) (n o411 z z)) (n o219 (n o347 (n o603 z z) z) (n o475 z z))) (n o123 (n o187 (n o315 (n o571 z z) z) (n o443 z z)) (n o251 (n o379 z z) (n o507 z z))))))) (n (boot_o_5 P) (n (boot_o_9 P) (n o17 (n o33 (n o65 (n o129 (n o257 (n o513 z z) z) (n o385 z z)) (n o193 (n o321 (n o577 z z) z) (n o449 z z))) (n o97 (n o161 (n o289 (n o545 z z) z) (n o417 z z)) (n o225 (n o353 (n o609 z z) z) (n o481 z z)))) (n o49 (n o81 (n o145 (n o273 (n o529 z z) z) (n o401 z z)) (n (o209 P) (n o337 (n o593 z z) z) (n o465 z z))) (n o113 (n (o177 P) (n o305 (n o561 z z) z) (n o433 z z)) (n o241 (n o369 (n o625 z z) z) (n o497 z z))))) (n o25 (n o41 (n o73 (n o137 (n o265 (n o521 z z) z) (n o393 z z)) (n o201 (n o329 (n o585 z z) z) (n o457 z z))) (n o105 (n o169 (n o297 (n o553 z z) z) (n o425 z z)) (n o233 (n o361 (n o617 z z) z) (n o489 z z)))) (n o57_2 (n o89 (n o153 (n o281 (n o537 z z) z) (n o409 z z)) (n o217 (n o345 (n o601 z z) z) (n o473 z z))) (n o121 (n o185 (n o313 (n o569 z z) z) (n o441 z z)) (n o249 (n o377 z z) (n o505 z z)))))) (n o13 (n o21 (n (o37 P) (n o69 (n (o133 P) (n o261 (n o517 z z) z) (n o389 z z)) (n o197 (n o325 (n o581 z z) z) (n o453 z z))) (n (o101 P) (n o165 (n o293 (n o549 z z) z) (n o421 z z)) (n o229 (n o357 (n o613 z z) z) (n o485 z z)))) (n o53 (n o85 (n o149 (n o277 (n (o533 P) z z) z) (n o405 z z)) (n o213 (n o341 (n o597 z z) z) (n o469 z z))) (n o117 (n o181 (n o309 (n o565 z z) z) (n o437 z z)) (n o245 (n o373 z z) (n o501 z z))))) (n o29 (n o45 (n o77 (n o141 (n o269 (n o525 z z) z) (n o397 z z)) (n o205 (n o333 (n o589 z z) z) (n o461 z z))) (n o109 (n o173 (n o301 (n o557 z z) z) (n o429 z z)) (n o237 (n o365 (n o621 z z) z) (n o493 z z)))) (n o61 (n o93 (n o157 (n o285 (n (o541 P) z z) z) (n o413 z z)) (n (o221 P) (n o349 (n o605 z z) z) (n o477 z z))) (n o125 (n o189 (n o317 (n o573 z z) z) (n o445 z z)) (n o253 (n o381 z z) (n o509 z z)))))))) (n (o2_1 P) (n (boot_o_4 P) (n (boot_o_8 P) (n o16 (n o32 (n o64 (n o128 (n o256 (n o512 z z) z) (n (o384 P) z z)) (n o192 (n o320 (n o576 z z) z) (n o448 z z))) (n o96 (n o160 (n o288 (n o544 z z) z) (n o416 z z)) (n o224 (n o352 (n o608 z z) z) (n o480 z z)))) (n o48 (n o80 (n o144 (n o272 (n o528 z z) z) (n o400 z z)) (n o208 (n o336 (n o592 z z) z) (n o464 z z))) (n o112 (n o176 (n o304 (n (o560 P) z z) z) (n o432 z z)) (n (o240 P) (n o368 (n o624 z z) z) (n o496 z z))))) (n (o24 P) (n o40 (n o72 (n o136 (n o264 (n o520 z z) z) (n o392 z z)) (n o200 (n o328 (n o584 z z) z) (n o456 z z))) (n o104 (n o168 (n o296 (n o552 z z) z) (n o424 z z)) (n o232 (n o360 (n o616 z z) z) (n o488 z z)))) (n (o56 P) (n o88 (n (o152 P) (n o280 (n o536 z z) z) (n o408 z z)) (n o216 (n o344 (n o600 z z) z) (n o472 z z))) (n (o120 P) (n o184 (n o312 (n o568 z z) z) (n o440 z z)) (n o248 (n o376 z z) (n o504 z z)))))) (n o12_2 (n o20 (n o36 (n o68 (n o132 (n o260 (n o516 z z) z) (n o388 z z)) (n (o196 P) (n o324 (n o580 z z) z) (n o452 z z))) (n o100 (n o164 (n o292 (n o548 z z) z) (n o420 z z)) (n o228 (n o356 (n o612 z z) z) (n o484 z z)))) (n o52 (n o84 (n o148 (n o276 (n o532 z z) z) (n o404 z z)) (n o212 (n o340 (n o596 z z) z) (n o468 z z))) (n o116 (n o180 (n o308 (n o564 z z) z) (n o436 z z)) (n o244 (n o372 z z) (n o500 z z))))) (n o28 (n o44_2 (n (o76 P) (n o140 (n o268 (n o524 z z) z) (n (o396 P) z z)) (n o204 (n o332 (n o588 z z) z) (n o460 z z))) (n o108 (n o172 (n o300 (n o556 z z) z) (n o428 z z)) (n o236 (n o364 (n o620 z z) z) (n o492 z z)))) (n o60 (n o92 (n o156 (n o284 (n o540 z z) z) (n o412 z z)) (n o220 (n o348 (n o604 z z) z) (n o476 z z))) (n o124 (n o188 (n o316 (n o572 z z) z) (n o444 z z)) (n o252 (n o380 z z) (n o508 z z))))))) (n (boot_o_6 P) (n (boot_o_10 P) (n o18 (n o34 (n o66 (n o130 (n o258 (n o514 z z) z) (n (o386 P) z z)) (n o194 (n o322 (n o578 z z) z) (n o450 z z))) (n o98 (n o162 (n o290 (n o546 z z) z) (n o418 z z)) (n o226 (n o354 (n o610 z z) z) (n o482 z z)))) (n (o50 P) (n (o82 P) (n o146 (n o274 (n o530 z z) z) (n o402 z z)) (n o210 (n o338 (n o594 z z) z) (n o466 z z))) (n (o114 P) (n o178 (n o306 (n (o562 P) z z) z) (n o434 z z)) (n o242 (n o370 (n o626 z z) z) (n o498 z z))))) (n o26 (n o42 (n o74 (n o138 (n o266 (n o522 z z) z) (n (o394 P) z z)) (n o202 (n o330 (n o586 z z) z) (n o458 z z))) (n o106 (n o170 (n o298 (n o554 z z) z) (n o426 z z)) (n o234 (n o362 (n o618 z z) z) (n o490 z z)))) (n o58 (n o90 (n o154 (n o282 (n o538 z z) z) (n o410 z z)) (n o218 (n o346 (n o602 z z) z) (n o474 z z))) (n o122 (n o186 (n o314 (n o570 z z) z) (n o442 z z)) (n o250 (n o378 z z) (n o506 z z)))))) (n o14 (n o22 (n o38 (n o70 (n o134 (n o262 (n o518 z z) z) (n o390 z z)) (n o198 (n o326 (n o582 z z) z) (n o454 z z))) (n o102 (n o166 (n o294 (n o550 z z) z) (n o422 z z)) (n o230 (n o358 (n o614 z z) z) (n o486 z z)))) (n o54 (n o86 (n o150 (n o278 (n o534 z z) z) (n o406 z z)) (n o214 (n o342 (n o598 z z) z) (n o470 z z))) (n o118 (n o182 (n o310 (n o566 z z) z) (n o438 z z)) (n (o246 P) (n o374 z z) (n o502 z z))))) (n (o30 P) (n o46 (n o78 (n o142 (n o270 (n o526 z z) z) (n o398 z z)) (n o206 (n o334 (n o590 z z) z) (n o462 z z))) (n o110 (n o174 (n o302 (n o558 z z) z) (n o430 z z)) (n o238 (n o366 (n (o622 P) z z) z) (n o494 z z)))) (n o62 (n o94 (n (o158 P) (n o286 (n o542 z z) z) (n o414 z z)) (n o222 (n o350 (n o606 z z) z) (n o478 z z))) (n o126 (n (o190 P) (n o318 (n o574 z z) z) (n o446 z z)) (n o254 (n o382 z z) (n o510 z z)))))))))
def o3_3 (P : Params) : Obj := ⟨(T "dict"), none, (.dict ⟨[E P "__name__" 165 (S "law_onemember_k04_expressions_made" 1374), E P "__doc__" 166 N, E P "__package__" 167 N, E P "__loader__" 168 (B "__main__.__loader__#opaque"), E P "__spec__" 169 N, E P "__annotations__" 170 (R 6), E P "__builtins__" 171 (R 4), E P "__file__" 173 (S "/claim/cut.py" 172), E P "__cached__" 174 N, E P "_wall" 193 (R 21), E P "SetError" 213 (R 31), E P "StateError" 231 (R 44), E P "LimitError" 251 (R 57), E P "NotMembers" 276 (R 77), E P "NotAChange" 301 (R 96), E P "NotAnExpression" 326 (R 115), E P "InvalidForm" 351 (R 134), E P "InvalidText" 376 (R 153), E P "UnknownField" 401 (R 172), E P "InvalidNames" 426 (R 191), E P "InvalidSets" 451 (R 210), E P "NotComparable" 467 (R 222), E P "TooManyLeaves" 492 (R 241), E P "TooManyLevels" 517 (R 260), E P "MOST_LEAVES" 519 (.int 200 518), E P "MOST_DEPTH" 521 (.int 20 520), E P "LONGEST_NAME" 525 (.int 8 524), E P "is_name" 532 (R 269), E P "wrong_at" 541 (R 276), E P "SIGNS" 548 (R 277), E P "GIVEN" 550 (S "given" 549), E P "NONE" 552 (S "none" 551), E P "is_field" 559 (R 284), E P "form_size" 565 (R 289), E P "is_triple" 572 (R 296), E P "check_leaves" 579 (R 303), E P "check_depth" 586 (R 310), E P "form_text" 596 (R 317), E P "side_text" 603 (R 324), E P "read_counted" 614 (R 331), E P "take_word" 623 (R 338), E P "joined" 635 (R 345), E P "form_leaves" 642 (R 352), E P "form_fields" 648 (R 357), E P "form_value" 661 (R 364), E P "Members" 882 (R 534), E P "Change" 996 (R 623), E P "check_members" 1003 (R 634), E P "check_change" 1010 (R 641), E P "Expression" 1193 (R 780), E P "Fact" 1321 (R 880), E P "fields_of_two" 1329 (R 891), E P "check_expression" 1336 (R 898), E P "with_sign" 1345 (R 905), E P "all_sets" 1356 (R 912), E P "field_sets" 1366 (R 919), E P "is_field_set" 1373 (R 926), E P "_law_cell" 1385 (R 933), E P "_law_pool" 1392 (R 940), E P "_law_draw" 1402 (R 947)]⟩ 60), ⟨[]⟩⟩
def o12_3 : Obj := ⟨N, none, (.fields ⟨[(I 1), (I 0), (R 20), (I 5), (I 0), (R 27), (I 7), (I 0), (R 40), (I 9), (I 0), (R 53), (I 11), (I 0), (R 66), (I 15), (I 0), (R 85), (I 19), (I 0), (R 104), (I 23), (I 0), (R 123), (I 27), (I 0), (R 142), (I 31), (I 0), (R 161), (I 35), (I 0), (R 180), (I 39), (I 0), (R 199), (I 43), (I 0), (R 218), (I 45), (I 0), (R 230), (I 49), (I 0), (R 249), (I 57), (I 0), (R 268), (I 63), (I 0), (R 275), (I 72), (I 0), (R 283), (I 74), (I 0), (R 288), (I 89), (I 0), (R 295), (I 91), (I 0), (R 302), (I 94), (I 0), (R 309), (I 97), (I 0), (R 316), (I 102), (I 0), (R 323), (I 106), (I 0), (R 330), (I 120), (I 0), (R 337), (I 134), (I 0), (R 344), (I 137), (I 0), (R 351), (I 141), (I 0), (R 356), (I 144), (I 0), (R 363), (I 158), (I 0), (R 370), (I 252), (I 0), (R 544), (I 296), (I 0), (R 633), (I 299), (I 0), (R 640), (I 303), (I 0), (R 647), (I 376), (I 0), (R 790), (I 427), (I 0), (R 890), (I 429), (I 0), (R 897), (I 432), (I 0), (R 904), (I 435), (I 0), (R 911), (I 445), (I 0), (R 918), (I 454), (I 0), (R 925), (I 459), (I 0), (R 932), (I 466), (I 0), (R 939), (I 468), (I 0), (R 946)]⟩), ⟨[]⟩⟩
def o628 : Obj := ⟨(T "tuple"), none, (.seq ⟨[]⟩ 0), ⟨[]⟩⟩
def o629 : Obj := ⟨N, none, (.fields ⟨[]⟩), ⟨[]⟩⟩
def o630 : Obj := ⟨(T "tuple"), none, (.seq ⟨[(S "value" 1000)]⟩ 0), ⟨[]⟩⟩
def o631 : Obj := ⟨(T "tuple"), none, (.seq ⟨[]⟩ 0), ⟨[]⟩⟩
def o632 : Obj := ⟨N, none, (F (A 42) (u "check_members") (u "check_members") 0 [] N N N N none N N 0), ⟨[]⟩⟩
def o633 : Obj := ⟨(T "code"), none, (.fields ⟨[(S "check_members" 997), (S "check_members" 998), (S "/claim/cut.py" 999), (I 296), (I 1), (I 0), (I 0), (I 3), (R 628), (.bool true), (I 181), (R 629), N, (R 630), (R 631), (R 632), (I 1001), (I 296), (S "/claim/cut.py" 1002)]⟩), ⟨[]⟩⟩
def o634 : Obj := ⟨(T "function"), none, (F (A 42) (u "check_members") (u "check_members") 3 [] N N N (S "onemember.members" 662) none (R 633) N 0), ⟨[]⟩⟩
def o635 : Obj := ⟨(T "tuple"), none, (.seq ⟨[]⟩ 0), ⟨[]⟩⟩
def o636 : Obj := ⟨N, none, (.fields ⟨[]⟩), ⟨[]⟩⟩
def o637 : Obj := ⟨(T "tuple"), none, (.seq ⟨[(S "value" 1007)]⟩ 0), ⟨[]⟩⟩
def o638 : Obj := ⟨(T "tuple"), none, (.seq ⟨[]⟩ 0), ⟨[]⟩⟩
def o639 : Obj := ⟨N, none, (F (A 43) (u "check_change") (u "check_change") 0 [] N N N N none N N 0), ⟨[]⟩⟩
def o640 : Obj := ⟨(T "code"), none, (.fields ⟨[(S "check_change" 1004), (S "check_change" 1005), (S "/claim/cut.py" 1006), (I 299), (I 1), (I 0), (I 0), (I 3), (R 635), (.bool true), (I 181), (R 636), N, (R 637), (R 638), (R 639), (I 1008), (I 299), (S "/claim/cut.py" 1009)]⟩), ⟨[]⟩⟩
def o641 : Obj := ⟨(T "function"), none, (F (A 43) (u "check_change") (u "check_change") 3 [] N N N (S "onemember.members" 662) none (R 640) N 0), ⟨[]⟩⟩
def o642 : Obj := ⟨(T "tuple"), none, (.seq ⟨[]⟩ 0), ⟨[]⟩⟩
def o643 : Obj := ⟨(T "builtin_function_or_method"), none, (.fields ⟨[(B "type.__prepare__"), (T "type")]⟩), ⟨[]⟩⟩
def o644 (P : Params) : Obj := ⟨(T "dict"), none, (.dict ⟨[E P "__module__" 1020 (S "onemember.expressions" 1011), E P "__qualname__" 1022 (S "Expression" 1021), E P "__firstlineno__" 1024 (.int 303 1023), E P "__init__" 1035 (R 655), E P "read" 1057 (R 664), E P "form" 1065 (R 673), E P "leaves" 1073 (R 681), E P "depth" 1081 (R 689), E P "fields" 1089 (R 697), E P "has_given" 1097 (R 705), E P "__str__" 1104 (R 712), E P "__repr__" 1111 (R 719), E P "__eq__" 1119 (R 726), E P "__or__" 1127 (R 733), E P "__and__" 1135 (R 740), E P "__sub__" 1143 (R 747), E P "__xor__" 1151 (R 754), E P "within" 1159 (R 761), E P "of" 1169 (R 769), E P "meets" 1179 (R 777), E P "__static_attributes__" 1185 (R 778)]⟩ 21), ⟨[]⟩⟩
def o645 : Obj := ⟨(T "tuple"), none, (.seq ⟨[]⟩ 0), ⟨[]⟩⟩
def o646 : Obj := ⟨N, none, (.fields ⟨[(I 305), (I 4), (R 654), (I 319), (I 4), (R 661), (I 328), (I 4), (R 671), (I 332), (I 4), (R 679), (I 336), (I 4), (R 687), (I 340), (I 4), (R 695), (I 344), (I 4), (R 703), (I 347), (I 4), (R 711), (I 350), (I 4), (R 718), (I 353), (I 4), (R 725), (I 356), (I 4), (R 732), (I 359), (I 4), (R 739), (I 362), (I 4), (R 746), (I 365), (I 4), (R 753), (I 368), (I 4), (R 760), (I 371), (I 4), (R 768), (I 374), (I 4), (R 776)]⟩), ⟨[]⟩⟩
def o647 : Obj := ⟨(T "code"), none, (.fields ⟨[(S "Expression" 1015), (S "Expression" 1016), (S "/claim/cut.py" 1017), (I 303), (I 0), (I 0), (I 0), (I 0), (R 645), (.bool false), (I 181), (R 646), N, N, N, N, (I 1018), (I 303), (S "/claim/cut.py" 1019)]⟩), ⟨[]⟩⟩
def o648 : Obj := ⟨(T "frame"), none, .plain, ⟨[some (R 647), some (R 3), some (R 644), none, some (S "onemember.expressions" 1011), none, some (R 0)]⟩⟩
def o649 : Obj := ⟨(T "tuple"), none, (.seq ⟨[]⟩ 0), ⟨[]⟩⟩
def o650 : Obj := ⟨N, none, (.fields ⟨[]⟩), ⟨[]⟩⟩
def o651 : Obj := ⟨(T "tuple"), none, (.seq ⟨[(S "self" 1028), (S "form" 1029), (S "size" 1030), (S "leaves" 1031), (S "depth" 1032)]⟩ 0), ⟨[]⟩⟩
def o652 : Obj := ⟨(T "tuple"), none, (.seq ⟨[]⟩ 0), ⟨[]⟩⟩
def o653 : Obj := ⟨N, none, (F (C 45 0) (u "__init__") (u "Expression.__init__") 0 [] N N N N none N N 0), ⟨[]⟩⟩
def o654 : Obj := ⟨(T "code"), none, (.fields ⟨[(S "__init__" 1025), (S "Expression.__init__" 1026), (S "/claim/cut.py" 1027), (I 305), (I 2), (I 0), (I 0), (I 3), (R 649), (.bool true), (I 181), (R 650), N, (R 651), (R 652), (R 653), (I 1033), (I 305), (S "/claim/cut.py" 1034)]⟩), ⟨[]⟩⟩
def o655 : Obj := ⟨(T "function"), none, (F (C 45 0) (u "__init__") (u "Expression.__init__") 3 [] N N N (S "onemember.expressions" 1011) none (R 654) N 0), ⟨[]⟩⟩
def o656 : Obj := ⟨(T "tuple"), none, (.seq ⟨[]⟩ 0), ⟨[]⟩⟩
def o657 : Obj := ⟨N, none, (.fields ⟨[]⟩), ⟨[]⟩⟩
def o658 : Obj := ⟨(T "tuple"), none, (.seq ⟨[(S "text" 1039), (S "counted" 1040), (S "form" 1041), (S "leaves" 1042)]⟩ 0), ⟨[]⟩⟩
def o659 : Obj := ⟨(T "tuple"), none, (.seq ⟨[]⟩ 0), ⟨[]⟩⟩
def o660 : Obj := ⟨N, none, (F (C 45 1) (u "read") (u "Expression.read") 0 [] N N N N none N N 0), ⟨[]⟩⟩
def o661 : Obj := ⟨(T "code"), none, (.fields ⟨[(S "read" 1036), (S "Expression.read" 1037), (S "/claim/cut.py" 1038), (I 318), (I 1), (I 0), (I 0), (I 3), (R 656), (.bool true), (I 181), (R 657), N, (R 658), (R 659), (R 660), (I 1043), (I 318), (S "/claim/cut.py" 1044)]⟩), ⟨[]⟩⟩
def o662 : Obj := ⟨(T "function"), none, (F (C 45 1) (u "read") (u "Expression.read") 3 [] N N N (S "onemember.expressions" 1011) (some 665) (R 661) N 0), ⟨[]⟩⟩
def o663 (P : Params) : Obj := ⟨(T "dict"), none, (.dict ⟨[E P "__module__" 1046 (S "onemember.expressions" 1011), E P "__name__" 1049 (S "read" 1048), E P "__qualname__" 1052 (S "Expression.read" 1051), E P "__doc__" 1054 N, E P "__annotations__" 1056 (R 665)]⟩ 5), ⟨[]⟩⟩
def o664 : Obj := ⟨(T "staticmethod"), (some 663), (.fields ⟨[(R 662), (.bool false)]⟩), ⟨[]⟩⟩
def o665 (P : Params) : Obj := ⟨(T "dict"), none, (.dict ⟨[]⟩ 0), ⟨[]⟩⟩
def o666 : Obj := ⟨(T "tuple"), none, (.seq ⟨[]⟩ 0), ⟨[]⟩⟩
def o667 : Obj := ⟨N, none, (.fields ⟨[]⟩), ⟨[]⟩⟩
def o668 : Obj := ⟨(T "tuple"), none, (.seq ⟨[(S "self" 1061)]⟩ 0), ⟨[]⟩⟩
def o669 : Obj := ⟨(T "tuple"), none, (.seq ⟨[]⟩ 0), ⟨[]⟩⟩
def o670 : Obj := ⟨N, none, (F (C 45 2) (u "form") (u "Expression.form") 0 [] N N N N none N N 0), ⟨[]⟩⟩
def o671 : Obj := ⟨(T "code"), none, (.fields ⟨[(S "form" 1058), (S "Expression.form" 1059), (S "/claim/cut.py" 1060), (I 327), (I 1), (I 0), (I 0), (I 3), (R 666), (.bool true), (I 181), (R 667), N, (R 668), (R 669), (R 670), (I 1062), (I 327), (S "/claim/cut.py" 1063)]⟩), ⟨[]⟩⟩
def o672 : Obj := ⟨(T "function"), none, (F (C 45 2) (u "form") (u "Expression.form") 3 [] N N N (S "onemember.expressions" 1011) none (R 671) N 0), ⟨[]⟩⟩
def o673 : Obj := ⟨(T "property"), none, (.fields ⟨[(R 672), N, N, N, (S "form" 1065), (.bool false)]⟩), ⟨[]⟩⟩
def o674 : Obj := ⟨(T "tuple"), none, (.seq ⟨[]⟩ 0), ⟨[]⟩⟩
def o675 : Obj := ⟨N, none, (.fields ⟨[]⟩), ⟨[]⟩⟩
def o676 : Obj := ⟨(T "tuple"), none, (.seq ⟨[(S "self" 1069)]⟩ 0), ⟨[]⟩⟩
def o677 : Obj := ⟨(T "tuple"), none, (.seq ⟨[]⟩ 0), ⟨[]⟩⟩
def o678 : Obj := ⟨N, none, (F (C 45 3) (u "leaves") (u "Expression.leaves") 0 [] N N N N none N N 0), ⟨[]⟩⟩
def o679 : Obj := ⟨(T "code"), none, (.fields ⟨[(S "leaves" 1066), (S "Expression.leaves" 1067), (S "/claim/cut.py" 1068), (I 331), (I 1), (I 0), (I 0), (I 3), (R 674), (.bool true), (I 181), (R 675), N, (R 676), (R 677), (R 678), (I 1070), (I 331), (S "/claim/cut.py" 1071)]⟩), ⟨[]⟩⟩
def o680 : Obj := ⟨(T "function"), none, (F (C 45 3) (u "leaves") (u "Expression.leaves") 3 [] N N N (S "onemember.expressions" 1011) none (R 679) N 0), ⟨[]⟩⟩
def o681 : Obj := ⟨(T "property"), none, (.fields ⟨[(R 680), N, N, N, (S "leaves" 1073), (.bool false)]⟩), ⟨[]⟩⟩
def o682 : Obj := ⟨(T "tuple"), none, (.seq ⟨[]⟩ 0), ⟨[]⟩⟩
def o683 : Obj := ⟨N, none, (.fields ⟨[]⟩), ⟨[]⟩⟩
def o684 : Obj := ⟨(T "tuple"), none, (.seq ⟨[(S "self" 1077)]⟩ 0), ⟨[]⟩⟩
def o685 : Obj := ⟨(T "tuple"), none, (.seq ⟨[]⟩ 0), ⟨[]⟩⟩
def o686 : Obj := ⟨N, none, (F (C 45 4) (u "depth") (u "Expression.depth") 0 [] N N N N none N N 0), ⟨[]⟩⟩
def o687 : Obj := ⟨(T "code"), none, (.fields ⟨[(S "depth" 1074), (S "Expression.depth" 1075), (S "/claim/cut.py" 1076), (I 335), (I 1), (I 0), (I 0), (I 3), (R 682), (.bool true), (I 181), (R 683), N, (R 684), (R 685), (R 686), (I 1078), (I 335), (S "/claim/cut.py" 1079)]⟩), ⟨[]⟩⟩
def o688 : Obj := ⟨(T "function"), none, (F (C 45 4) (u "depth") (u "Expression.depth") 3 [] N N N (S "onemember.expressions" 1011) none (R 687) N 0), ⟨[]⟩⟩
def o689 : Obj := ⟨(T "property"), none, (.fields ⟨[(R 688), N, N, N, (S "depth" 1081), (.bool false)]⟩), ⟨[]⟩⟩
def o690 : Obj := ⟨(T "tuple"), none, (.seq ⟨[]⟩ 0), ⟨[]⟩⟩
def o691 : Obj := ⟨N, none, (.fields ⟨[]⟩), ⟨[]⟩⟩
def o692 : Obj := ⟨(T "tuple"), none, (.seq ⟨[(S "self" 1085)]⟩ 0), ⟨[]⟩⟩
def o693 : Obj := ⟨(T "tuple"), none, (.seq ⟨[]⟩ 0), ⟨[]⟩⟩
def o694 : Obj := ⟨N, none, (F (C 45 5) (u "fields") (u "Expression.fields") 0 [] N N N N none N N 0), ⟨[]⟩⟩
def o695 : Obj := ⟨(T "code"), none, (.fields ⟨[(S "fields" 1082), (S "Expression.fields" 1083), (S "/claim/cut.py" 1084), (I 339), (I 1), (I 0), (I 0), (I 3), (R 690), (.bool true), (I 181), (R 691), N, (R 692), (R 693), (R 694), (I 1086), (I 339), (S "/claim/cut.py" 1087)]⟩), ⟨[]⟩⟩
def o696 : Obj := ⟨(T "function"), none, (F (C 45 5) (u "fields") (u "Expression.fields") 3 [] N N N (S "onemember.expressions" 1011) none (R 695) N 0), ⟨[]⟩⟩
def o697 : Obj := ⟨(T "property"), none, (.fields ⟨[(R 696), N, N, N, (S "fields" 1089), (.bool false)]⟩), ⟨[]⟩⟩
def o698 : Obj := ⟨(T "tuple"), none, (.seq ⟨[]⟩ 0), ⟨[]⟩⟩
def o699 : Obj := ⟨N, none, (.fields ⟨[]⟩), ⟨[]⟩⟩
def o700 : Obj := ⟨(T "tuple"), none, (.seq ⟨[(S "self" 1093)]⟩ 0), ⟨[]⟩⟩
def o701 : Obj := ⟨(T "tuple"), none, (.seq ⟨[]⟩ 0), ⟨[]⟩⟩
def o702 : Obj := ⟨N, none, (F (C 45 6) (u "has_given") (u "Expression.has_given") 0 [] N N N N none N N 0), ⟨[]⟩⟩
def o703 : Obj := ⟨(T "code"), none, (.fields ⟨[(S "has_given" 1090), (S "Expression.has_given" 1091), (S "/claim/cut.py" 1092), (I 343), (I 1), (I 0), (I 0), (I 3), (R 698), (.bool true), (I 181), (R 699), N, (R 700), (R 701), (R 702), (I 1094), (I 343), (S "/claim/cut.py" 1095)]⟩), ⟨[]⟩⟩
def o704 : Obj := ⟨(T "function"), none, (F (C 45 6) (u "has_given") (u "Expression.has_given") 3 [] N N N (S "onemember.expressions" 1011) none (R 703) N 0), ⟨[]⟩⟩
def o705 : Obj := ⟨(T "property"), none, (.fields ⟨[(R 704), N, N, N, (S "has_given" 1097), (.bool false)]⟩), ⟨[]⟩⟩
def o706 : Obj := ⟨(T "tuple"), none, (.seq ⟨[]⟩ 0), ⟨[]⟩⟩
def o707 : Obj := ⟨N, none, (.fields ⟨[]⟩), ⟨[]⟩⟩
def o708 : Obj := ⟨(T "tuple"), none, (.seq ⟨[(S "self" 1101)]⟩ 0), ⟨[]⟩⟩
def o709 : Obj := ⟨(T "tuple"), none, (.seq ⟨[]⟩ 0), ⟨[]⟩⟩
def o710 : Obj := ⟨N, none, (F (C 45 7) (u "__str__") (u "Expression.__str__") 0 [] N N N N none N N 0), ⟨[]⟩⟩
def o711 : Obj := ⟨(T "code"), none, (.fields ⟨[(S "__str__" 1098), (S "Expression.__str__" 1099), (S "/claim/cut.py" 1100), (I 347), (I 1), (I 0), (I 0), (I 3), (R 706), (.bool true), (I 181), (R 707), N, (R 708), (R 709), (R 710), (I 1102), (I 347), (S "/claim/cut.py" 1103)]⟩), ⟨[]⟩⟩
def o712 : Obj := ⟨(T "function"), none, (F (C 45 7) (u "__str__") (u "Expression.__str__") 3 [] N N N (S "onemember.expressions" 1011) none (R 711) N 0), ⟨[]⟩⟩
def o713 : Obj := ⟨(T "tuple"), none, (.seq ⟨[]⟩ 0), ⟨[]⟩⟩
def o714 : Obj := ⟨N, none, (.fields ⟨[]⟩), ⟨[]⟩⟩
def o715 : Obj := ⟨(T "tuple"), none, (.seq ⟨[(S "self" 1108)]⟩ 0), ⟨[]⟩⟩
def o716 : Obj := ⟨(T "tuple"), none, (.seq ⟨[]⟩ 0), ⟨[]⟩⟩
def o717 : Obj := ⟨N, none, (F (C 45 8) (u "__repr__") (u "Expression.__repr__") 0 [] N N N N none N N 0), ⟨[]⟩⟩
def o718 : Obj := ⟨(T "code"), none, (.fields ⟨[(S "__repr__" 1105), (S "Expression.__repr__" 1106), (S "/claim/cut.py" 1107), (I 350), (I 1), (I 0), (I 0), (I 3), (R 713), (.bool true), (I 181), (R 714), N, (R 715), (R 716), (R 717), (I 1109), (I 350), (S "/claim/cut.py" 1110)]⟩), ⟨[]⟩⟩
def o719 : Obj := ⟨(T "function"), none, (F (C 45 8) (u "__repr__") (u "Expression.__repr__") 3 [] N N N (S "onemember.expressions" 1011) none (R 718) N 0), ⟨[]⟩⟩
def o720 : Obj := ⟨(T "tuple"), none, (.seq ⟨[]⟩ 0), ⟨[]⟩⟩
def o721 : Obj := ⟨N, none, (.fields ⟨[]⟩), ⟨[]⟩⟩
def o722 : Obj := ⟨(T "tuple"), none, (.seq ⟨[(S "self" 1115), (S "other" 1116)]⟩ 0), ⟨[]⟩⟩
def o723 : Obj := ⟨(T "tuple"), none, (.seq ⟨[]⟩ 0), ⟨[]⟩⟩
def o724 : Obj := ⟨N, none, (F (C 45 9) (u "__eq__") (u "Expression.__eq__") 0 [] N N N N none N N 0), ⟨[]⟩⟩
def o725 : Obj := ⟨(T "code"), none, (.fields ⟨[(S "__eq__" 1112), (S "Expression.__eq__" 1113), (S "/claim/cut.py" 1114), (I 353), (I 2), (I 0), (I 0), (I 3), (R 720), (.bool true), (I 181), (R 721), N, (R 722), (R 723), (R 724), (I 1117), (I 353), (S "/claim/cut.py" 1118)]⟩), ⟨[]⟩⟩
def o726 : Obj := ⟨(T "function"), none, (F (C 45 9) (u "__eq__") (u "Expression.__eq__") 3 [] N N N (S "onemember.expressions" 1011) none (R 725) N 0), ⟨[]⟩⟩
def o727 : Obj := ⟨(T "tuple"), none, (.seq ⟨[]⟩ 0), ⟨[]⟩⟩
def o728 : Obj := ⟨N, none, (.fields ⟨[]⟩), ⟨[]⟩⟩
def o729 : Obj := ⟨(T "tuple"), none, (.seq ⟨[(S "self" 1123), (S "other" 1124)]⟩ 0), ⟨[]⟩⟩
def o730 : Obj := ⟨(T "tuple"), none, (.seq ⟨[]⟩ 0), ⟨[]⟩⟩
def o731 : Obj := ⟨N, none, (F (C 45 10) (u "__or__") (u "Expression.__or__") 0 [] N N N N none N N 0), ⟨[]⟩⟩
def o732 : Obj := ⟨(T "code"), none, (.fields ⟨[(S "__or__" 1120), (S "Expression.__or__" 1121), (S "/claim/cut.py" 1122), (I 356), (I 2), (I 0), (I 0), (I 3), (R 727), (.bool true), (I 181), (R 728), N, (R 729), (R 730), (R 731), (I 1125), (I 356), (S "/claim/cut.py" 1126)]⟩), ⟨[]⟩⟩
def o733 : Obj := ⟨(T "function"), none, (F (C 45 10) (u "__or__") (u "Expression.__or__") 3 [] N N N (S "onemember.expressions" 1011) none (R 732) N 0), ⟨[]⟩⟩
def o734 : Obj := ⟨(T "tuple"), none, (.seq ⟨[]⟩ 0), ⟨[]⟩⟩
def o735 : Obj := ⟨N, none, (.fields ⟨[]⟩), ⟨[]⟩⟩
def o736 : Obj := ⟨(T "tuple"), none, (.seq ⟨[(S "self" 1131), (S "other" 1132)]⟩ 0), ⟨[]⟩⟩
def o737 : Obj := ⟨(T "tuple"), none, (.seq ⟨[]⟩ 0), ⟨[]⟩⟩
def o738 : Obj := ⟨N, none, (F (C 45 11) (u "__and__") (u "Expression.__and__") 0 [] N N N N none N N 0), ⟨[]⟩⟩
def o739 : Obj := ⟨(T "code"), none, (.fields ⟨[(S "__and__" 1128), (S "Expression.__and__" 1129), (S "/claim/cut.py" 1130), (I 359), (I 2), (I 0), (I 0), (I 3), (R 734), (.bool true), (I 181), (R 735), N, (R 736), (R 737), (R 738), (I 1133), (I 359), (S "/claim/cut.py" 1134)]⟩), ⟨[]⟩⟩
def o740 : Obj := ⟨(T "function"), none, (F (C 45 11) (u "__and__") (u "Expression.__and__") 3 [] N N N (S "onemember.expressions" 1011) none (R 739) N 0), ⟨[]⟩⟩
def o741 : Obj := ⟨(T "tuple"), none, (.seq ⟨[]⟩ 0), ⟨[]⟩⟩
def o742 : Obj := ⟨N, none, (.fields ⟨[]⟩), ⟨[]⟩⟩
def o743 : Obj := ⟨(T "tuple"), none, (.seq ⟨[(S "self" 1139), (S "other" 1140)]⟩ 0), ⟨[]⟩⟩
def o744 : Obj := ⟨(T "tuple"), none, (.seq ⟨[]⟩ 0), ⟨[]⟩⟩
def o745 : Obj := ⟨N, none, (F (C 45 12) (u "__sub__") (u "Expression.__sub__") 0 [] N N N N none N N 0), ⟨[]⟩⟩
def o746 : Obj := ⟨(T "code"), none, (.fields ⟨[(S "__sub__" 1136), (S "Expression.__sub__" 1137), (S "/claim/cut.py" 1138), (I 362), (I 2), (I 0), (I 0), (I 3), (R 741), (.bool true), (I 181), (R 742), N, (R 743), (R 744), (R 745), (I 1141), (I 362), (S "/claim/cut.py" 1142)]⟩), ⟨[]⟩⟩
def o747 : Obj := ⟨(T "function"), none, (F (C 45 12) (u "__sub__") (u "Expression.__sub__") 3 [] N N N (S "onemember.expressions" 1011) none (R 746) N 0), ⟨[]⟩⟩
def o748 : Obj := ⟨(T "tuple"), none, (.seq ⟨[]⟩ 0), ⟨[]⟩⟩
def o749 : Obj := ⟨N, none, (.fields ⟨[]⟩), ⟨[]⟩⟩
def o750 : Obj := ⟨(T "tuple"), none, (.seq ⟨[(S "self" 1147), (S "other" 1148)]⟩ 0), ⟨[]⟩⟩
def o751 : Obj := ⟨(T "tuple"), none, (.seq ⟨[]⟩ 0), ⟨[]⟩⟩
def o752 : Obj := ⟨N, none, (F (C 45 13) (u "__xor__") (u "Expression.__xor__") 0 [] N N N N none N N 0), ⟨[]⟩⟩
def o753 : Obj := ⟨(T "code"), none, (.fields ⟨[(S "__xor__" 1144), (S "Expression.__xor__" 1145), (S "/claim/cut.py" 1146), (I 365), (I 2), (I 0), (I 0), (I 3), (R 748), (.bool true), (I 181), (R 749), N, (R 750), (R 751), (R 752), (I 1149), (I 365), (S "/claim/cut.py" 1150)]⟩), ⟨[]⟩⟩
def o754 : Obj := ⟨(T "function"), none, (F (C 45 13) (u "__xor__") (u "Expression.__xor__") 3 [] N N N (S "onemember.expressions" 1011) none (R 753) N 0), ⟨[]⟩⟩
def o755 : Obj := ⟨(T "tuple"), none, (.seq ⟨[]⟩ 0), ⟨[]⟩⟩
def o756 : Obj := ⟨N, none, (.fields ⟨[]⟩), ⟨[]⟩⟩
def o757 : Obj := ⟨(T "tuple"), none, (.seq ⟨[(S "self" 1155), (S "other" 1156)]⟩ 0), ⟨[]⟩⟩
def o758 : Obj := ⟨(T "tuple"), none, (.seq ⟨[]⟩ 0), ⟨[]⟩⟩
def o759 : Obj := ⟨N, none, (F (C 45 14) (u "within") (u "Expression.within") 0 [] N N N N none N N 0), ⟨[]⟩⟩
def o760 : Obj := ⟨(T "code"), none, (.fields ⟨[(S "within" 1152), (S "Expression.within" 1153), (S "/claim/cut.py" 1154), (I 368), (I 2), (I 0), (I 0), (I 3), (R 755), (.bool true), (I 181), (R 756), N, (R 757), (R 758), (R 759), (I 1157), (I 368), (S "/claim/cut.py" 1158)]⟩), ⟨[]⟩⟩
def o761 : Obj := ⟨(T "function"), none, (F (C 45 14) (u "within") (u "Expression.within") 3 [] N N N (S "onemember.expressions" 1011) none (R 760) N 0), ⟨[]⟩⟩
def o762 (P : Params) : Obj := ⟨(T "dict"), none, (.dict ⟨[E P "given" 1160 N]⟩ 1), ⟨[]⟩⟩
def o763 : Obj := ⟨(T "tuple"), none, (.seq ⟨[]⟩ 0), ⟨[]⟩⟩
def o764 : Obj := ⟨N, none, (.fields ⟨[]⟩), ⟨[]⟩⟩
def o765 : Obj := ⟨(T "tuple"), none, (.seq ⟨[(S "self" 1164), (S "sets" 1165), (S "given" 1166)]⟩ 0), ⟨[]⟩⟩
def o766 : Obj := ⟨(T "tuple"), none, (.seq ⟨[]⟩ 0), ⟨[]⟩⟩
def o767 : Obj := ⟨N, none, (F (C 45 15) (u "of") (u "Expression.of") 0 [] N N N N none N N 0), ⟨[]⟩⟩
def o768 : Obj := ⟨(T "code"), none, (.fields ⟨[(S "of" 1161), (S "Expression.of" 1162), (S "/claim/cut.py" 1163), (I 371), (I 2), (I 0), (I 1), (I 3), (R 763), (.bool true), (I 181), (R 764), N, (R 765), (R 766), (R 767), (I 1167), (I 371), (S "/claim/cut.py" 1168)]⟩), ⟨[]⟩⟩
def o769 : Obj := ⟨(T "function"), none, (F (C 45 15) (u "of") (u "Expression.of") 3 [] N (R 762) N (S "onemember.expressions" 1011) none (R 768) N 0), ⟨[]⟩⟩
def o770 (P : Params) : Obj := ⟨(T "dict"), none, (.dict ⟨[E P "given" 1170 (.bool false)]⟩ 1), ⟨[]⟩⟩
def o771 : Obj := ⟨(T "tuple"), none, (.seq ⟨[]⟩ 0), ⟨[]⟩⟩
def o772 : Obj := ⟨N, none, (.fields ⟨[]⟩), ⟨[]⟩⟩
def o773 : Obj := ⟨(T "tuple"), none, (.seq ⟨[(S "self" 1174), (S "inside" 1175), (S "given" 1176)]⟩ 0), ⟨[]⟩⟩
def o774 : Obj := ⟨(T "tuple"), none, (.seq ⟨[]⟩ 0), ⟨[]⟩⟩
def o775 : Obj := ⟨N, none, (F (C 45 16) (u "meets") (u "Expression.meets") 0 [] N N N N none N N 0), ⟨[]⟩⟩
def o776 : Obj := ⟨(T "code"), none, (.fields ⟨[(S "meets" 1171), (S "Expression.meets" 1172), (S "/claim/cut.py" 1173), (I 374), (I 2), (I 0), (I 1), (I 3), (R 771), (.bool true), (I 181), (R 772), N, (R 773), (R 774), (R 775), (I 1177), (I 374), (S "/claim/cut.py" 1178)]⟩), ⟨[]⟩⟩
def o777 : Obj := ⟨(T "function"), none, (F (C 45 16) (u "meets") (u "Expression.meets") 3 [] N (R 770) N (S "onemember.expressions" 1011) none (R 776) N 0), ⟨[]⟩⟩
def o778 : Obj := ⟨(T "tuple"), none, (.seq ⟨[(S "_depth" 1180), (S "_fields" 1181), (S "_form" 1182), (S "_has_given" 1183), (S "_leaves" 1184)]⟩ 0), ⟨[]⟩⟩
def o779 (P : Params) : Obj := ⟨(T "dict"), none, (.dict ⟨[E P "__module__" 1020 (S "onemember.expressions" 1011), E P "__firstlineno__" 1024 (.int 303 1023), E P "__init__" 1035 (R 655), E P "read" 1057 (R 664), E P "form" 1065 (R 673), E P "leaves" 1073 (R 681), E P "depth" 1081 (R 689), E P "fields" 1089 (R 697), E P "has_given" 1097 (R 705), E P "__str__" 1104 (R 712), E P "__repr__" 1111 (R 719), E P "__eq__" 1119 (R 726), E P "__or__" 1127 (R 733), E P "__and__" 1135 (R 740), E P "__sub__" 1143 (R 747), E P "__xor__" 1151 (R 754), E P "within" 1159 (R 761), E P "of" 1169 (R 769), E P "meets" 1179 (R 777), E P "__static_attributes__" 1185 (R 778), E P "__dict__" 1187 (R 781), E P "__weakref__" 1189 (R 782), E P "__doc__" 1190 N, E P "__hash__" 1191 N]⟩ 5), ⟨[]⟩⟩
def o780 : Obj := ⟨(T "type"), none, (.cls ⟨(u "Expression"), [(T "object")], [(R 780), (T "object")], 779, (u "Expression"), true, [], [], false, none, false⟩), ⟨[none, none, some (S "Expression" 1013), some (S "Expression" 1021), some (B "object.__new__"), some (.bool true)]⟩⟩
def o781 : Obj := ⟨(T "getset_descriptor"), none, (.fields ⟨[(S "__dict__" 1186), (R 780), (B "function.__dict__"), (B "function.__dict__#set")]⟩), ⟨[]⟩⟩
def o782 : Obj := ⟨(T "getset_descriptor"), none, (.fields ⟨[(S "__weakref__" 1188), (R 780), (B "ExceptionGroup.__weakref__"), N]⟩), ⟨[]⟩⟩
def o783 : Obj := ⟨(T "super"), none, (.fields ⟨[(R 780), (R 780), (R 780)]⟩), ⟨[]⟩⟩
def o784 : Obj := ⟨(T "builtin_function_or_method"), none, (.fields ⟨[(B "object.__init_subclass__"), (R 780)]⟩), ⟨[]⟩⟩
def o785 : Obj := ⟨(T "tuple"), none, (.seq ⟨[]⟩ 0), ⟨[]⟩⟩
def o786 : Obj := ⟨(T "builtin_function_or_method"), none, (.fields ⟨[(B "type.__prepare__"), (T "type")]⟩), ⟨[]⟩⟩
def o787 (P : Params) : Obj := ⟨(T "dict"), none, (.dict ⟨[E P "__module__" 1201 (S "onemember.expressions" 1011), E P "__qualname__" 1203 (S "Fact" 1202), E P "__firstlineno__" 1205 (.int 376 1204), E P "__init__" 1214 (R 798), E P "read" 1238 (R 807), E P "left" 1246 (R 816), E P "right" 1254 (R 824), E P "form" 1262 (R 832), E P "fields" 1270 (R 840), E P "has_given" 1278 (R 848), E P "__str__" 1285 (R 855), E P "__repr__" 1292 (R 862), E P "__eq__" 1300 (R 869), E P "is_kept" 1310 (R 877), E P "__static_attributes__" 1313 (R 878)]⟩ 15), ⟨[]⟩⟩
def o788 : Obj := ⟨(T "tuple"), none, (.seq ⟨[]⟩ 0), ⟨[]⟩⟩
def o789 : Obj := ⟨N, none, (.fields ⟨[(I 378), (I 4), (R 797), (I 385), (I 4), (R 804), (I 397), (I 4), (R 814), (I 401), (I 4), (R 822), (I 405), (I 4), (R 830), (I 409), (I 4), (R 838), (I 413), (I 4), (R 846), (I 416), (I 4), (R 854), (I 419), (I 4), (R 861), (I 422), (I 4), (R 868), (I 425), (I 4), (R 876)]⟩), ⟨[]⟩⟩
def o790 : Obj := ⟨(T "code"), none, (.fields ⟨[(S "Fact" 1196), (S "Fact" 1197), (S "/claim/cut.py" 1198), (I 376), (I 0), (I 0), (I 0), (I 0), (R 788), (.bool false), (I 181), (R 789), N, N, N, N, (I 1199), (I 376), (S "/claim/cut.py" 1200)]⟩), ⟨[]⟩⟩
def o791 : Obj := ⟨(T "frame"), none, .plain, ⟨[some (R 790), some (R 3), some (R 787), none, some (S "onemember.expressions" 1011), none, some (R 0)]⟩⟩
def o792 : Obj := ⟨(T "tuple"), none, (.seq ⟨[]⟩ 0), ⟨[]⟩⟩
def o793 : Obj := ⟨N, none, (.fields ⟨[]⟩), ⟨[]⟩⟩
def o794 : Obj := ⟨(T "tuple"), none, (.seq ⟨[(S "self" 1209), (S "left" 1210), (S "right" 1211)]⟩ 0), ⟨[]⟩⟩
def o795 : Obj := ⟨(T "tuple"), none, (.seq ⟨[]⟩ 0), ⟨[]⟩⟩
def o796 : Obj := ⟨N, none, (F (C 46 0) (u "__init__") (u "Fact.__init__") 0 [] N N N N none N N 0), ⟨[]⟩⟩
def o797 : Obj := ⟨(T "code"), none, (.fields ⟨[(S "__init__" 1206), (S "Fact.__init__" 1207), (S "/claim/cut.py" 1208), (I 378), (I 3), (I 0), (I 0), (I 3), (R 792), (.bool true), (I 181), (R 793), N, (R 794), (R 795), (R 796), (I 1212), (I 378), (S "/claim/cut.py" 1213)]⟩), ⟨[]⟩⟩
def o798 : Obj := ⟨(T "function"), none, (F (C 46 0) (u "__init__") (u "Fact.__init__") 3 [] N N N (S "onemember.expressions" 1011) none (R 797) N 0), ⟨[]⟩⟩
def o799 : Obj := ⟨(T "tuple"), none, (.seq ⟨[]⟩ 0), ⟨[]⟩⟩
def o800 : Obj := ⟨N, none, (.fields ⟨[]⟩), ⟨[]⟩⟩
def o801 : Obj := ⟨(T "tuple"), none, (.seq ⟨[(S "text" 1218), (S "left_text" 1219), (S "_" 1220), (S "right_text" 1221), (S "left" 1222), (S "right" 1223)]⟩ 0), ⟨[]⟩⟩
def o802 : Obj := ⟨(T "tuple"), none, (.seq ⟨[]⟩ 0), ⟨[]⟩⟩
def o803 : Obj := ⟨N, none, (F (C 46 1) (u "read") (u "Fact.read") 0 [] N N N N none N N 0), ⟨[]⟩⟩
def o804 : Obj := ⟨(T "code"), none, (.fields ⟨[(S "read" 1215), (S "Fact.read" 1216), (S "/claim/cut.py" 1217), (I 384), (I 1), (I 0), (I 0), (I 3), (R 799), (.bool true), (I 181), (R 800), N, (R 801), (R 802), (R 803), (I 1224), (I 384), (S "/claim/cut.py" 1225)]⟩), ⟨[]⟩⟩
def o805 : Obj := ⟨(T "function"), none, (F (C 46 1) (u "read") (u "Fact.read") 3 [] N N N (S "onemember.expressions" 1011) (some 808) (R 804) N 0), ⟨[]⟩⟩
def o806 (P : Params) : Obj := ⟨(T "dict"), none, (.dict ⟨[E P "__module__" 1227 (S "onemember.expressions" 1011), E P "__name__" 1230 (S "read" 1229), E P "__qualname__" 1233 (S "Fact.read" 1232), E P "__doc__" 1235 N, E P "__annotations__" 1237 (R 808)]⟩ 5), ⟨[]⟩⟩
def o807 : Obj := ⟨(T "staticmethod"), (some 806), (.fields ⟨[(R 805), (.bool false)]⟩), ⟨[]⟩⟩
def o808 (P : Params) : Obj := ⟨(T "dict"), none, (.dict ⟨[]⟩ 0), ⟨[]⟩⟩
def o809 : Obj := ⟨(T "tuple"), none, (.seq ⟨[]⟩ 0), ⟨[]⟩⟩
def o810 : Obj := ⟨N, none, (.fields ⟨[]⟩), ⟨[]⟩⟩
def o811 : Obj := ⟨(T "tuple"), none, (.seq ⟨[(S "self" 1242)]⟩ 0), ⟨[]⟩⟩
def o812 : Obj := ⟨(T "tuple"), none, (.seq ⟨[]⟩ 0), ⟨[]⟩⟩
def o813 : Obj := ⟨N, none, (F (C 46 2) (u "left") (u "Fact.left") 0 [] N N N N none N N 0), ⟨[]⟩⟩
def o814 : Obj := ⟨(T "code"), none, (.fields ⟨[(S "left" 1239), (S "Fact.left" 1240), (S "/claim/cut.py" 1241), (I 396), (I 1), (I 0), (I 0), (I 3), (R 809), (.bool true), (I 181), (R 810), N, (R 811), (R 812), (R 813), (I 1243), (I 396), (S "/claim/cut.py" 1244)]⟩), ⟨[]⟩⟩
def o815 : Obj := ⟨(T "function"), none, (F (C 46 2) (u "left") (u "Fact.left") 3 [] N N N (S "onemember.expressions" 1011) none (R 814) N 0), ⟨[]⟩⟩
def o816 : Obj := ⟨(T "property"), none, (.fields ⟨[(R 815), N, N, N, (S "left" 1246), (.bool false)]⟩), ⟨[]⟩⟩
def o817 : Obj := ⟨(T "tuple"), none, (.seq ⟨[]⟩ 0), ⟨[]⟩⟩
def o818 : Obj := ⟨N, none, (.fields ⟨[]⟩), ⟨[]⟩⟩
def o819 : Obj := ⟨(T "tuple"), none, (.seq ⟨[(S "self" 1250)]⟩ 0), ⟨[]⟩⟩
def o820 : Obj := ⟨(T "tuple"), none, (.seq ⟨[]⟩ 0), ⟨[]⟩⟩
def o821 : Obj := ⟨N, none, (F (C 46 3) (u "right") (u "Fact.right") 0 [] N N N N none N N 0), ⟨[]⟩⟩
def o822 : Obj := ⟨(T "code"), none, (.fields ⟨[(S "right" 1247), (S "Fact.right" 1248), (S "/claim/cut.py" 1249), (I 400), (I 1), (I 0), (I 0), (I 3), (R 817), (.bool true), (I 181), (R 818), N, (R 819), (R 820), (R 821), (I 1251), (I 400), (S "/claim/cut.py" 1252)]⟩), ⟨[]⟩⟩
def o823 : Obj := ⟨(T "function"), none, (F (C 46 3) (u "right") (u "Fact.right") 3 [] N N N (S "onemember.expressions" 1011) none (R 822) N 0), ⟨[]⟩⟩
def o824 : Obj := ⟨(T "property"), none, (.fields ⟨[(R 823), N, N, N, (S "right" 1254), (.bool false)]⟩), ⟨[]⟩⟩
def o825 : Obj := ⟨(T "tuple"), none, (.seq ⟨[]⟩ 0), ⟨[]⟩⟩
def o826 : Obj := ⟨N, none, (.fields ⟨[]⟩), ⟨[]⟩⟩
def o827 : Obj := ⟨(T "tuple"), none, (.seq ⟨[(S "self" 1258)]⟩ 0), ⟨[]⟩⟩
def o828 : Obj := ⟨(T "tuple"), none, (.seq ⟨[]⟩ 0), ⟨[]⟩⟩
def o829 : Obj := ⟨N, none, (F (C 46 4) (u "form") (u "Fact.form") 0 [] N N N N none N N 0), ⟨[]⟩⟩
def o830 : Obj := ⟨(T "code"), none, (.fields ⟨[(S "form" 1255), (S "Fact.form" 1256), (S "/claim/cut.py" 1257), (I 404), (I 1), (I 0), (I 0), (I 3), (R 825), (.bool true), (I 181), (R 826), N, (R 827), (R 828), (R 829), (I 1259), (I 404), (S "/claim/cut.py" 1260)]⟩), ⟨[]⟩⟩
def o831 : Obj := ⟨(T "function"), none, (F (C 46 4) (u "form") (u "Fact.form") 3 [] N N N (S "onemember.expressions" 1011) none (R 830) N 0), ⟨[]⟩⟩
def o832 : Obj := ⟨(T "property"), none, (.fields ⟨[(R 831), N, N, N, (S "form" 1262), (.bool false)]⟩), ⟨[]⟩⟩
def o833 : Obj := ⟨(T "tuple"), none, (.seq ⟨[]⟩ 0), ⟨[]⟩⟩
def o834 : Obj := ⟨N, none, (.fields ⟨[]⟩), ⟨[]⟩⟩
def o835 : Obj := ⟨(T "tuple"), none, (.seq ⟨[(S "self" 1266)]⟩ 0), ⟨[]⟩⟩
def o836 : Obj := ⟨(T "tuple"), none, (.seq ⟨[]⟩ 0), ⟨[]⟩⟩
def o837 : Obj := ⟨N, none, (F (C 46 5) (u "fields") (u "Fact.fields") 0 [] N N N N none N N 0), ⟨[]⟩⟩
def o838 : Obj := ⟨(T "code"), none, (.fields ⟨[(S "fields" 1263), (S "Fact.fields" 1264), (S "/claim/cut.py" 1265), (I 408), (I 1), (I 0), (I 0), (I 3), (R 833), (.bool true), (I 181), (R 834), N, (R 835), (R 836), (R 837), (I 1267), (I 408), (S "/claim/cut.py" 1268)]⟩), ⟨[]⟩⟩
def o839 : Obj := ⟨(T "function"), none, (F (C 46 5) (u "fields") (u "Fact.fields") 3 [] N N N (S "onemember.expressions" 1011) none (R 838) N 0), ⟨[]⟩⟩
def o840 : Obj := ⟨(T "property"), none, (.fields ⟨[(R 839), N, N, N, (S "fields" 1270), (.bool false)]⟩), ⟨[]⟩⟩
def o841 : Obj := ⟨(T "tuple"), none, (.seq ⟨[]⟩ 0), ⟨[]⟩⟩
def o842 : Obj := ⟨N, none, (.fields ⟨[]⟩), ⟨[]⟩⟩
def o843 : Obj := ⟨(T "tuple"), none, (.seq ⟨[(S "self" 1274)]⟩ 0), ⟨[]⟩⟩
def o844 : Obj := ⟨(T "tuple"), none, (.seq ⟨[]⟩ 0), ⟨[]⟩⟩
def o845 : Obj := ⟨N, none, (F (C 46 6) (u "has_given") (u "Fact.has_given") 0 [] N N N N none N N 0), ⟨[]⟩⟩
def o846 : Obj := ⟨(T "code"), none, (.fields ⟨[(S "has_given" 1271), (S "Fact.has_given" 1272), (S "/claim/cut.py" 1273), (I 412), (I 1), (I 0), (I 0), (I 3), (R 841), (.bool true), (I 181), (R 842), N, (R 843), (R 844), (R 845), (I 1275), (I 412), (S "/claim/cut.py" 1276)]⟩), ⟨[]⟩⟩
def o847 : Obj := ⟨(T "function"), none, (F (C 46 6) (u "has_given") (u "Fact.has_given") 3 [] N N N (S "onemember.expressions" 1011) none (R 846) N 0), ⟨[]⟩⟩
def o848 : Obj := ⟨(T "property"), none, (.fields ⟨[(R 847), N, N, N, (S "has_given" 1278), (.bool false)]⟩), ⟨[]⟩⟩
def o849 : Obj := ⟨(T "tuple"), none, (.seq ⟨[]⟩ 0), ⟨[]⟩⟩
def o850 : Obj := ⟨N, none, (.fields ⟨[]⟩), ⟨[]⟩⟩
def o851 : Obj := ⟨(T "tuple"), none, (.seq ⟨[(S "self" 1282)]⟩ 0), ⟨[]⟩⟩
def o852 : Obj := ⟨(T "tuple"), none, (.seq ⟨[]⟩ 0), ⟨[]⟩⟩
def o853 : Obj := ⟨N, none, (F (C 46 7) (u "__str__") (u "Fact.__str__") 0 [] N N N N none N N 0), ⟨[]⟩⟩
def o854 : Obj := ⟨(T "code"), none, (.fields ⟨[(S "__str__" 1279), (S "Fact.__str__" 1280), (S "/claim/cut.py" 1281), (I 416), (I 1), (I 0), (I 0), (I 3), (R 849), (.bool true), (I 181), (R 850), N, (R 851), (R 852), (R 853), (I 1283), (I 416), (S "/claim/cut.py" 1284)]⟩), ⟨[]⟩⟩
def o855 : Obj := ⟨(T "function"), none, (F (C 46 7) (u "__str__") (u "Fact.__str__") 3 [] N N N (S "onemember.expressions" 1011) none (R 854) N 0), ⟨[]⟩⟩
def o856 : Obj := ⟨(T "tuple"), none, (.seq ⟨[]⟩ 0), ⟨[]⟩⟩
def o857 : Obj := ⟨N, none, (.fields ⟨[]⟩), ⟨[]⟩⟩
def o858 : Obj := ⟨(T "tuple"), none, (.seq ⟨[(S "self" 1289)]⟩ 0), ⟨[]⟩⟩
def o859 : Obj := ⟨(T "tuple"), none, (.seq ⟨[]⟩ 0), ⟨[]⟩⟩
def o860 : Obj := ⟨N, none, (F (C 46 8) (u "__repr__") (u "Fact.__repr__") 0 [] N N N N none N N 0), ⟨[]⟩⟩
def o861 : Obj := ⟨(T "code"), none, (.fields ⟨[(S "__repr__" 1286), (S "Fact.__repr__" 1287), (S "/claim/cut.py" 1288), (I 419), (I 1), (I 0), (I 0), (I 3), (R 856), (.bool true), (I 181), (R 857), N, (R 858), (R 859), (R 860), (I 1290), (I 419), (S "/claim/cut.py" 1291)]⟩), ⟨[]⟩⟩
def o862 : Obj := ⟨(T "function"), none, (F (C 46 8) (u "__repr__") (u "Fact.__repr__") 3 [] N N N (S "onemember.expressions" 1011) none (R 861) N 0), ⟨[]⟩⟩
def o863 : Obj := ⟨(T "tuple"), none, (.seq ⟨[]⟩ 0), ⟨[]⟩⟩
def o864 : Obj := ⟨N, none, (.fields ⟨[]⟩), ⟨[]⟩⟩
def o865 : Obj := ⟨(T "tuple"), none, (.seq ⟨[(S "self" 1296), (S "other" 1297)]⟩ 0), ⟨[]⟩⟩
def o866 : Obj := ⟨(T "tuple"), none, (.seq ⟨[]⟩ 0), ⟨[]⟩⟩
def o867 : Obj := ⟨N, none, (F (C 46 9) (u "__eq__") (u "Fact.__eq__") 0 [] N N N N none N N 0), ⟨[]⟩⟩
def o868 : Obj := ⟨(T "code"), none, (.fields ⟨[(S "__eq__" 1293), (S "Fact.__eq__" 1294), (S "/claim/cut.py" 1295), (I 422), (I 2), (I 0), (I 0), (I 3), (R 863), (.bool true), (I 181), (R 864), N, (R 865), (R 866), (R 867), (I 1298), (I 422), (S "/claim/cut.py" 1299)]⟩), ⟨[]⟩⟩
def o869 : Obj := ⟨(T "function"), none, (F (C 46 9) (u "__eq__") (u "Fact.__eq__") 3 [] N N N (S "onemember.expressions" 1011) none (R 868) N 0), ⟨[]⟩⟩
def o870 (P : Params) : Obj := ⟨(T "dict"), none, (.dict ⟨[E P "given" 1301 N]⟩ 1), ⟨[]⟩⟩
def o871 : Obj := ⟨(T "tuple"), none, (.seq ⟨[]⟩ 0), ⟨[]⟩⟩
def o872 : Obj := ⟨N, none, (.fields ⟨[]⟩), ⟨[]⟩⟩
def o873 : Obj := ⟨(T "tuple"), none, (.seq ⟨[(S "self" 1305), (S "sets" 1306), (S "given" 1307)]⟩ 0), ⟨[]⟩⟩
def o874 : Obj := ⟨(T "tuple"), none, (.seq ⟨[]⟩ 0), ⟨[]⟩⟩
def o875 : Obj := ⟨N, none, (F (C 46 10) (u "is_kept") (u "Fact.is_kept") 0 [] N N N N none N N 0), ⟨[]⟩⟩
def o876 : Obj := ⟨(T "code"), none, (.fields ⟨[(S "is_kept" 1302), (S "Fact.is_kept" 1303), (S "/claim/cut.py" 1304), (I 425), (I 2), (I 0), (I 1), (I 3), (R 871), (.bool true), (I 181), (R 872), N, (R 873), (R 874), (R 875), (I 1308), (I 425), (S "/claim/cut.py" 1309)]⟩), ⟨[]⟩⟩
def o877 : Obj := ⟨(T "function"), none, (F (C 46 10) (u "is_kept") (u "Fact.is_kept") 3 [] N (R 870) N (S "onemember.expressions" 1011) none (R 876) N 0), ⟨[]⟩⟩
def o878 : Obj := ⟨(T "tuple"), none, (.seq ⟨[(S "_left" 1311), (S "_right" 1312)]⟩ 0), ⟨[]⟩⟩
def o879 (P : Params) : Obj := ⟨(T "dict"), none, (.dict ⟨[E P "__module__" 1201 (S "onemember.expressions" 1011), E P "__firstlineno__" 1205 (.int 376 1204), E P "__init__" 1214 (R 798), E P "read" 1238 (R 807), E P "left" 1246 (R 816), E P "right" 1254 (R 824), E P "form" 1262 (R 832), E P "fields" 1270 (R 840), E P "has_given" 1278 (R 848), E P "__str__" 1285 (R 855), E P "__repr__" 1292 (R 862), E P "__eq__" 1300 (R 869), E P "is_kept" 1310 (R 877), E P "__static_attributes__" 1313 (R 878), E P "__dict__" 1315 (R 881), E P "__weakref__" 1317 (R 882), E P "__doc__" 1318 N, E P "__hash__" 1319 N]⟩ 5), ⟨[]⟩⟩
def o880 : Obj := ⟨(T "type"), none, (.cls ⟨(u "Fact"), [(T "object")], [(R 880), (T "object")], 879, (u "Fact"), true, [], [], false, none, false⟩), ⟨[none, none, some (S "Fact" 1194), some (S "Fact" 1202), some (B "object.__new__"), some (.bool true)]⟩⟩
def o881 : Obj := ⟨(T "getset_descriptor"), none, (.fields ⟨[(S "__dict__" 1314), (R 880), (B "function.__dict__"), (B "function.__dict__#set")]⟩), ⟨[]⟩⟩
def o882 : Obj := ⟨(T "getset_descriptor"), none, (.fields ⟨[(S "__weakref__" 1316), (R 880), (B "ExceptionGroup.__weakref__"), N]⟩), ⟨[]⟩⟩
def o883 : Obj := ⟨(T "super"), none, (.fields ⟨[(R 880), (R 880), (R 880)]⟩), ⟨[]⟩⟩
def o884 : Obj := ⟨(T "builtin_function_or_method"), none, (.fields ⟨[(B "object.__init_subclass__"), (R 880)]⟩), ⟨[]⟩⟩
def o885 : Obj := ⟨(T "tuple"), none, (.seq ⟨[]⟩ 0), ⟨[]⟩⟩
def o886 : Obj := ⟨N, none, (.fields ⟨[]⟩), ⟨[]⟩⟩
def o887 : Obj := ⟨(T "tuple"), none, (.seq ⟨[(S "one" 1325), (S "other" 1326)]⟩ 0), ⟨[]⟩⟩
def o888 : Obj := ⟨(T "tuple"), none, (.seq ⟨[]⟩ 0), ⟨[]⟩⟩
def o889 : Obj := ⟨N, none, (F (A 47) (u "fields_of_two") (u "fields_of_two") 0 [] N N N N none N N 0), ⟨[]⟩⟩
def o890 : Obj := ⟨(T "code"), none, (.fields ⟨[(S "fields_of_two" 1322), (S "fields_of_two" 1323), (S "/claim/cut.py" 1324), (I 427), (I 2), (I 0), (I 0), (I 3), (R 885), (.bool true), (I 181), (R 886), N, (R 887), (R 888), (R 889), (I 1327), (I 427), (S "/claim/cut.py" 1328)]⟩), ⟨[]⟩⟩
def o891 : Obj := ⟨(T "function"), none, (F (A 47) (u "fields_of_two") (u "fields_of_two") 3 [] N N N (S "onemember.expressions" 1011) none (R 890) N 0), ⟨[]⟩⟩
def o892 : Obj := ⟨(T "tuple"), none, (.seq ⟨[]⟩ 0), ⟨[]⟩⟩
def o893 : Obj := ⟨N, none, (.fields ⟨[]⟩), ⟨[]⟩⟩
def o894 : Obj := ⟨(T "tuple"), none, (.seq ⟨[(S "value" 1333)]⟩ 0), ⟨[]⟩⟩
def o895 : Obj := ⟨(T "tuple"), none, (.seq ⟨[]⟩ 0), ⟨[]⟩⟩
def o896 : Obj := ⟨N, none, (F (A 48) (u "check_expression") (u "check_expression") 0 [] N N N N none N N 0), ⟨[]⟩⟩
def o897 : Obj := ⟨(T "code"), none, (.fields ⟨[(S "check_expression" 1330), (S "check_expression" 1331), (S "/claim/cut.py" 1332), (I 429), (I 1), (I 0), (I 0), (I 3), (R 892), (.bool true), (I 181), (R 893), N, (R 894), (R 895), (R 896), (I 1334), (I 429), (S "/claim/cut.py" 1335)]⟩), ⟨[]⟩⟩
def o898 : Obj := ⟨(T "function"), none, (F (A 48) (u "check_expression") (u "check_expression") 3 [] N N N (S "onemember.expressions" 1011) none (R 897) N 0), ⟨[]⟩⟩
def o899 : Obj := ⟨(T "tuple"), none, (.seq ⟨[]⟩ 0), ⟨[]⟩⟩
def o900 : Obj := ⟨N, none, (.fields ⟨[]⟩), ⟨[]⟩⟩
def o901 : Obj := ⟨(T "tuple"), none, (.seq ⟨[(S "sign" 1340), (S "one" 1341), (S "other" 1342)]⟩ 0), ⟨[]⟩⟩
def o902 : Obj := ⟨(T "tuple"), none, (.seq ⟨[]⟩ 0), ⟨[]⟩⟩
def o903 : Obj := ⟨N, none, (F (A 49) (u "with_sign") (u "with_sign") 0 [] N N N N none N N 0), ⟨[]⟩⟩
def o904 : Obj := ⟨(T "code"), none, (.fields ⟨[(S "with_sign" 1337), (S "with_sign" 1338), (S "/claim/cut.py" 1339), (I 432), (I 3), (I 0), (I 0), (I 3), (R 899), (.bool true), (I 181), (R 900), N, (R 901), (R 902), (R 903), (I 1343), (I 432), (S "/claim/cut.py" 1344)]⟩), ⟨[]⟩⟩
def o905 : Obj := ⟨(T "function"), none, (F (A 49) (u "with_sign") (u "with_sign") 3 [] N N N (S "onemember.expressions" 1011) none (R 904) N 0), ⟨[]⟩⟩
def o906 : Obj := ⟨(T "tuple"), none, (.seq ⟨[]⟩ 0), ⟨[]⟩⟩
def o907 : Obj := ⟨N, none, (.fields ⟨[]⟩), ⟨[]⟩⟩
def o908 : Obj := ⟨(T "tuple"), none, (.seq ⟨[(S "fields" 1349), (S "sets" 1350), (S "given" 1351), (S "table" 1352), (S "field" 1353)]⟩ 0), ⟨[]⟩⟩
def o909 : Obj := ⟨(T "tuple"), none, (.seq ⟨[]⟩ 0), ⟨[]⟩⟩
def o910 : Obj := ⟨N, none, (F (A 50) (u "all_sets") (u "all_sets") 0 [] N N N N none N N 0), ⟨[]⟩⟩
def o911 : Obj := ⟨(T "code"), none, (.fields ⟨[(S "all_sets" 1346), (S "all_sets" 1347), (S "/claim/cut.py" 1348), (I 435), (I 3), (I 0), (I 0), (I 3), (R 906), (.bool true), (I 181), (R 907), N, (R 908), (R 909), (R 910), (I 1354), (I 435), (S "/claim/cut.py" 1355)]⟩), ⟨[]⟩⟩
def o912 : Obj := ⟨(T "function"), none, (F (A 50) (u "all_sets") (u "all_sets") 3 [] N N N (S "onemember.expressions" 1011) none (R 911) N 0), ⟨[]⟩⟩
def o913 : Obj := ⟨(T "tuple"), none, (.seq ⟨[]⟩ 0), ⟨[]⟩⟩
def o914 : Obj := ⟨N, none, (.fields ⟨[]⟩), ⟨[]⟩⟩
def o915 : Obj := ⟨(T "tuple"), none, (.seq ⟨[(S "sets" 1360), (S "table" 1361), (S "at" 1362), (S "pair" 1363)]⟩ 0), ⟨[]⟩⟩
def o916 : Obj := ⟨(T "tuple"), none, (.seq ⟨[]⟩ 0), ⟨[]⟩⟩
def o917 : Obj := ⟨N, none, (F (A 51) (u "field_sets") (u "field_sets") 0 [] N N N N none N N 0), ⟨[]⟩⟩
def o918 : Obj := ⟨(T "code"), none, (.fields ⟨[(S "field_sets" 1357), (S "field_sets" 1358), (S "/claim/cut.py" 1359), (I 445), (I 1), (I 0), (I 0), (I 3), (R 913), (.bool true), (I 181), (R 914), N, (R 915), (R 916), (R 917), (I 1364), (I 445), (S "/claim/cut.py" 1365)]⟩), ⟨[]⟩⟩
def o919 : Obj := ⟨(T "function"), none, (F (A 51) (u "field_sets") (u "field_sets") 3 [] N N N (S "onemember.expressions" 1011) none (R 918) N 0), ⟨[]⟩⟩
def o920 : Obj := ⟨(T "tuple"), none, (.seq ⟨[]⟩ 0), ⟨[]⟩⟩
def o921 : Obj := ⟨N, none, (.fields ⟨[]⟩), ⟨[]⟩⟩
def o922 : Obj := ⟨(T "tuple"), none, (.seq ⟨[(S "value" 1370)]⟩ 0), ⟨[]⟩⟩
def o923 : Obj := ⟨(T "tuple"), none, (.seq ⟨[]⟩ 0), ⟨[]⟩⟩
def o924 : Obj := ⟨N, none, (F (A 52) (u "is_field_set") (u "is_field_set") 0 [] N N N N none N N 0), ⟨[]⟩⟩
def o925 : Obj := ⟨(T "code"), none, (.fields ⟨[(S "is_field_set" 1367), (S "is_field_set" 1368), (S "/claim/cut.py" 1369), (I 454), (I 1), (I 0), (I 0), (I 3), (R 920), (.bool true), (I 181), (R 921), N, (R 922), (R 923), (R 924), (I 1371), (I 454), (S "/claim/cut.py" 1372)]⟩), ⟨[]⟩⟩
def o926 : Obj := ⟨(T "function"), none, (F (A 52) (u "is_field_set") (u "is_field_set") 3 [] N N N (S "onemember.expressions" 1011) none (R 925) N 0), ⟨[]⟩⟩
def o927 : Obj := ⟨(T "tuple"), none, (.seq ⟨[]⟩ 0), ⟨[]⟩⟩
def o928 : Obj := ⟨N, none, (.fields ⟨[]⟩), ⟨[]⟩⟩
def o929 : Obj := ⟨(T "tuple"), none, (.seq ⟨[(S "_law_cells" 1379), (S "_law_k" 1380), (S "_law_mixed" 1381), (S "_law_cell_here" 1382)]⟩ 0), ⟨[]⟩⟩
def o930 : Obj := ⟨(T "tuple"), none, (.seq ⟨[]⟩ 0), ⟨[]⟩⟩
def o931 : Obj := ⟨N, none, (F (A 54) (u "_law_cell") (u "_law_cell") 0 [] N N N N none N N 0), ⟨[]⟩⟩
def o932 : Obj := ⟨(T "code"), none, (.fields ⟨[(S "_law_cell" 1376), (S "_law_cell" 1377), (S "/claim/cut.py" 1378), (I 459), (I 2), (I 0), (I 0), (I 3), (R 927), (.bool true), (I 181), (R 928), N, (R 929), (R 930), (R 931), (I 1383), (I 459), (S "/claim/cut.py" 1384)]⟩), ⟨[]⟩⟩
def o933 : Obj := ⟨(T "function"), none, (F (A 54) (u "_law_cell") (u "_law_cell") 3 [] N N N (S "law_onemember_k04_expressions_made" 1374) none (R 932) N 0), ⟨[]⟩⟩
def o934 : Obj := ⟨(T "tuple"), none, (.seq ⟨[]⟩ 0), ⟨[]⟩⟩
def o935 : Obj := ⟨N, none, (.fields ⟨[]⟩), ⟨[]⟩⟩
def o936 : Obj := ⟨(T "tuple"), none, (.seq ⟨[(S "_law_cell_here" 1389)]⟩ 0), ⟨[]⟩⟩
def o937 : Obj := ⟨(T "tuple"), none, (.seq ⟨[]⟩ 0), ⟨[]⟩⟩
def o938 : Obj := ⟨N, none, (F (A 55) (u "_law_pool") (u "_law_pool") 0 [] N N N N none N N 0), ⟨[]⟩⟩
def o939 : Obj := ⟨(T "code"), none, (.fields ⟨[(S "_law_pool" 1386), (S "_law_pool" 1387), (S "/claim/cut.py" 1388), (I 466), (I 1), (I 0), (I 0), (I 3), (R 934), (.bool true), (I 181), (R 935), N, (R 936), (R 937), (R 938), (I 1390), (I 466), (S "/claim/cut.py" 1391)]⟩), ⟨[]⟩⟩
def o940 : Obj := ⟨(T "function"), none, (F (A 55) (u "_law_pool") (u "_law_pool") 3 [] N N N (S "law_onemember_k04_expressions_made" 1374) none (R 939) N 0), ⟨[]⟩⟩
def o941 : Obj := ⟨(T "tuple"), none, (.seq ⟨[]⟩ 0), ⟨[]⟩⟩
def o942 : Obj := ⟨N, none, (.fields ⟨[]⟩), ⟨[]⟩⟩
def o943 : Obj := ⟨(T "tuple"), none, (.seq ⟨[(S "_law_pool_here" 1396), (S "_law_many" 1397), (S "_law_mixed" 1398), (S "_law_digit" 1399)]⟩ 0), ⟨[]⟩⟩
def o944 : Obj := ⟨(T "tuple"), none, (.seq ⟨[]⟩ 0), ⟨[]⟩⟩
def o945 : Obj := ⟨N, none, (F (A 56) (u "_law_draw") (u "_law_draw") 0 [] N N N N none N N 0), ⟨[]⟩⟩
def o946 : Obj := ⟨(T "code"), none, (.fields ⟨[(S "_law_draw" 1393), (S "_law_draw" 1394), (S "/claim/cut.py" 1395), (I 468), (I 2), (I 0), (I 0), (I 3), (R 941), (.bool true), (I 181), (R 942), N, (R 943), (R 944), (R 945), (I 1400), (I 468), (S "/claim/cut.py" 1401)]⟩), ⟨[]⟩⟩
def o947 : Obj := ⟨(T "function"), none, (F (A 56) (u "_law_draw") (u "_law_draw") 3 [] N N N (S "law_onemember_k04_expressions_made" 1374) none (R 946) N 0), ⟨[]⟩⟩
def t3 (P : Params) : BT := (n (boot_o_0 P) (n (boot_o_1 P) (n (o3_3 P) (n (boot_o_7 P) (n o15 (n o31 (n (o63 P) (n o127 (n o255 (n o511 z z) (n o767 z z)) (n o383 (n o639 z z) (n o895 z z))) (n o191 (n o319 (n o575 z z) (n o831 z z)) (n o447 (n o703 z z) z))) (n (o95 P) (n o159 (n o287 (n o543 z z) (n o799 z z)) (n o415 (n o671 z z) (n o927 z z))) (n o223 (n o351 (n o607 z z) (n o863 z z)) (n o479 (n o735 z z) z)))) (n o47 (n o79 (n o143 (n o271 (n o527 z z) (n o783 z z)) (n o399 (n o655 z z) (n o911 z z))) (n o207 (n o335 (n o591 z z) (n o847 z z)) (n o463 (n o719 z z) z))) (n o111 (n o175 (n o303 (n o559 z z) (n o815 z z)) (n o431 (n o687 z z) (n o943 z z))) (n o239 (n (o367 P) (n o623 z z) (n (o879 P) z z)) (n o495 (n o751 z z) z))))) (n o23 (n o39 (n o71 (n o135 (n o263 (n o519 z z) (n o775 z z)) (n o391 (n o647 z z) (n o903 z z))) (n o199 (n o327 (n o583 z z) (n o839 z z)) (n o455 (n o711 z z) z))) (n o103 (n o167 (n o295 (n o551 z z) (n o807 z z)) (n o423 (n o679 z z) (n o935 z z))) (n o231 (n o359 (n o615 z z) (n o871 z z)) (n o487 (n o743 z z) z)))) (n o55 (n o87 (n o151 (n o279 (n o535 z z) (n o791 z z)) (n o407 (n (o663 P) z z) (n o919 z z))) (n (o215 P) (n o343 (n o599 z z) (n o855 z z)) (n o471 (n o727 z z) z))) (n o119 (n o183 (n o311 (n o567 z z) (n o823 z z)) (n o439 (n o695 z z) z)) (n o247 (n o375 (n o631 z z) (n o887 z z)) (n o503 (n o759 z z) z)))))) (n o11 (n o19 (n o35 (n o67 (n o131 (n (o259 P) (n o515 z z) (n o771 z z)) (n o387 (n o643 z z) (n o899 z z))) (n o195 (n o323 (n o579 z z) (n o835 z z)) (n o451 (n o707 z z) z))) (n o99 (n o163 (n o291 (n o547 z z) (n o803 z z)) (n o419 (n o675 z z) (n o931 z z))) (n (o227 P) (n o355 (n o611 z z) (n o867 z z)) (n o483 (n o739 z z) z)))) (n o51 (n o83 (n o147 (n o275 (n o531 z z) (n (o787 P) z z)) (n o403 (n o659 z z) (n o915 z z))) (n o211 (n o339 (n o595 z z) (n o851 z z)) (n o467 (n o723 z z) z))) (n o115 (n o179 (n o307 (n o563 z z) (n o819 z z)) (n o435 (n o691 z z) (n o947 z z))) (n o243 (n o371 (n o627 z z) (n o883 z z)) (n o499 (n o755 z z) z))))) (n o27 (n (o43 P) (n o75 (n (o139 P) (n o267 (n o523 z z) (n (o779 P) z z)) (n o395 (n o651 z z) (n o907 z z))) (n o203 (n o331 (n o587 z z) (n o843 z z)) (n o459 (n o715 z z) z))) (n o107 (n (o171 P) (n o299 (n o555 z z) (n o811 z z)) (n o427 (n o683 z z) (n o939 z z))) (n o235 (n o363 (n o619 z z) (n o875 z z)) (n o491 (n o747 z z) z)))) (n o59 (n o91 (n o155 (n o283 (n o539 z z) (n o795 z z)) (n o411 (n o667 z z) (n o923 z z))) (n o219 (n o347 (n o603 z z) (n o859 z z)) (n o475 (n o731 z z) z))) (n o123 (n o187 (n o315 (n o571 z z) (n o827 z z)) (n o443 (n o699 z z) z)) (n o251 (n o379 (n o635 z z) (n o891 z z)) (n o507 (n o763 z z) z))))))) (n (boot_o_5 P) (n (boot_o_9 P) (n o17 (n o33 (n o65 (n o129 (n o257 (n o513 z z) (n o769 z z)) (n o385 (n o641 z z) (n o897 z z))) (n o193 (n o321 (n o577 z z) (n o833 z z)) (n o449 (n o705 z z) z))) (n o97 (n o161 (n o289 (n o545 z z) (n o801 z z)) (n o417 (n o673 z z) (n o929 z z))) (n o225 (n o353 (n o609 z z) (n o865 z z)) (n o481 (n o737 z z) z)))) (n o49 (n o81 (n o145 (n o273 (n o529 z z) (n o785 z z)) (n o401 (n o657 z z) (n o913 z z))) (n (o209 P) (n o337 (n o593 z z) (n o849 z z)) (n o465 (n o721 z z) z))) (n o113 (n (o177 P) (n o305 (n o561 z z) (n o817 z z)) (n o433 (n o689 z z) (n o945 z z))) (n o241 (n o369 (n o625 z z) (n o881 z z)) (n o497 (n o753 z z) z))))) (n o25 (n o41 (n o73 (n o137 (n o265 (n o521 z z) (n o777 z z)) (n o393 (n o649 z z) (n o905 z z))) (n o201 (n o329 (n o585 z z) (n o841 z z)) (n o457 (n o713 z z) z))) (n o105 (n o169 (n o297 (n o553 z z) (n o809 z z)) (n o425 (n o681 z z) (n o937 z z))) (n o233 (n o361 (n o617 z z) (n o873 z z)) (n o489 (n o745 z z) z)))) (n o57_2 (n o89 (n o153 (n o281 (n o537 z z) (n o793 z z)) (n o409 (n (o665 P) z z) (n o921 z z))) (n o217 (n o345 (n o601 z z) (n o857 z z)) (n o473 (n o729 z z) z))) (n o121 (n o185 (n o313 (n o569 z z) (n o825 z z)) (n o441 (n o697 z z) z)) (n o249 (n o377 (n o633 z z) (n o889 z z)) (n o505 (n o761 z z) z)))))) (n o13 (n o21 (n (o37 P) (n o69 (n (o133 P) (n o261 (n o517 z z) (n o773 z z)) (n o389 (n o645 z z) (n o901 z z))) (n o197 (n o325 (n o581 z z) (n o837 z z)) (n o453 (n o709 z z) z))) (n (o101 P) (n o165 (n o293 (n o549 z z) (n o805 z z)) (n o421 (n o677 z z) (n o933 z z))) (n o229 (n o357 (n o613 z z) (n o869 z z)) (n o485 (n o741 z z) z)))) (n o53 (n o85 (n o149 (n o277 (n (o533 P) z z) (n o789 z z)) (n o405 (n o661 z z) (n o917 z z))) (n o213 (n o341 (n o597 z z) (n o853 z z)) (n o469 (n o725 z z) z))) (n o117 (n o181 (n o309 (n o565 z z) (n o821 z z)) (n o437 (n o693 z z) z)) (n o245 (n o373 (n o629 z z) (n o885 z z)) (n o501 (n o757 z z) z))))) (n o29 (n o45 (n o77 (n o141 (n o269 (n o525 z z) (n o781 z z)) (n o397 (n o653 z z) (n o909 z z))) (n o205 (n o333 (n o589 z z) (n o845 z z)) (n o461 (n o717 z z) z))) (n o109 (n o173 (n o301 (n o557 z z) (n o813 z z)) (n o429 (n o685 z z) (n o941 z z))) (n o237 (n o365 (n o621 z z) (n o877 z z)) (n o493 (n o749 z z) z)))) (n o61 (n o93 (n o157 (n o285 (n (o541 P) z z) (n o797 z z)) (n o413 (n o669 z z) (n o925 z z))) (n (o221 P) (n o349 (n o605 z z) (n o861 z z)) (n o477 (n o733 z z) z))) (n o125 (n o189 (n o317 (n o573 z z) (n o829 z z)) (n o445 (n o701 z z) z)) (n o253 (n o381 (n o637 z z) (n o893 z z)) (n o509 (n o765 z z) z)))))))) (n (o2_1 P) (n (boot_o_4 P) (n (boot_o_8 P) (n o16 (n o32 (n o64 (n o128 (n o256 (n o512 z z) (n o768 z z)) (n (o384 P) (n o640 z z) (n o896 z z))) (n o192 (n o320 (n o576 z z) (n o832 z z)) (n o448 (n o704 z z) z))) (n o96 (n o160 (n o288 (n o544 z z) (n o800 z z)) (n o416 (n o672 z z) (n o928 z z))) (n o224 (n o352 (n o608 z z) (n o864 z z)) (n o480 (n o736 z z) z)))) (n o48 (n o80 (n o144 (n o272 (n o528 z z) (n o784 z z)) (n o400 (n o656 z z) (n o912 z z))) (n o208 (n o336 (n o592 z z) (n o848 z z)) (n o464 (n o720 z z) z))) (n o112 (n o176 (n o304 (n (o560 P) z z) (n o816 z z)) (n o432 (n o688 z z) (n o944 z z))) (n (o240 P) (n o368 (n o624 z z) (n o880 z z)) (n o496 (n o752 z z) z))))) (n (o24 P) (n o40 (n o72 (n o136 (n o264 (n o520 z z) (n o776 z z)) (n o392 (n o648 z z) (n o904 z z))) (n o200 (n o328 (n o584 z z) (n o840 z z)) (n o456 (n o712 z z) z))) (n o104 (n o168 (n o296 (n o552 z z) (n (o808 P) z z)) (n o424 (n o680 z z) (n o936 z z))) (n o232 (n o360 (n o616 z z) (n o872 z z)) (n o488 (n o744 z z) z)))) (n (o56 P) (n o88 (n (o152 P) (n o280 (n o536 z z) (n o792 z z)) (n o408 (n o664 z z) (n o920 z z))) (n o216 (n o344 (n o600 z z) (n o856 z z)) (n o472 (n o728 z z) z))) (n (o120 P) (n o184 (n o312 (n o568 z z) (n o824 z z)) (n o440 (n o696 z z) z)) (n o248 (n o376 (n o632 z z) (n o888 z z)) (n o504 (n o760 z z) z)))))) (n o12_3 (n o20 (n o36 (n o68 (n o132 (n o260 (n o516 z z) (n o772 z z)) (n o388 (n (o644 P) z z) (n o900 z z))) (n (o196 P) (n o324 (n o580 z z) (n o836 z z)) (n o452 (n o708 z z) z))) (n o100 (n o164 (n o292 (n o548 z z) (n o804 z z)) (n o420 (n o676 z z) (n o932 z z))) (n o228 (n o356 (n o612 z z) (n o868 z z)) (n o484 (n o740 z z) z)))) (n o52 (n o84 (n o148 (n o276 (n o532 z z) (n o788 z z)) (n o404 (n o660 z z) (n o916 z z))) (n o212 (n o340 (n o596 z z) (n o852 z z)) (n o468 (n o724 z z) z))) (n o116 (n o180 (n o308 (n o564 z z) (n o820 z z)) (n o436 (n o692 z z) z)) (n o244 (n o372 (n o628 z z) (n o884 z z)) (n o500 (n o756 z z) z))))) (n o28 (n o44_2 (n (o76 P) (n o140 (n o268 (n o524 z z) (n o780 z z)) (n (o396 P) (n o652 z z) (n o908 z z))) (n o204 (n o332 (n o588 z z) (n o844 z z)) (n o460 (n o716 z z) z))) (n o108 (n o172 (n o300 (n o556 z z) (n o812 z z)) (n o428 (n o684 z z) (n o940 z z))) (n o236 (n o364 (n o620 z z) (n o876 z z)) (n o492 (n o748 z z) z)))) (n o60 (n o92 (n o156 (n o284 (n o540 z z) (n o796 z z)) (n o412 (n o668 z z) (n o924 z z))) (n o220 (n o348 (n o604 z z) (n o860 z z)) (n o476 (n o732 z z) z))) (n o124 (n o188 (n o316 (n o572 z z) (n o828 z z)) (n o444 (n o700 z z) z)) (n o252 (n o380 (n o636 z z) (n o892 z z)) (n o508 (n o764 z z) z))))))) (n (boot_o_6 P) (n (boot_o_10 P) (n o18 (n o34 (n o66 (n o130 (n o258 (n o514 z z) (n (o770 P) z z)) (n (o386 P) (n o642 z z) (n o898 z z))) (n o194 (n o322 (n o578 z z) (n o834 z z)) (n o450 (n o706 z z) z))) (n o98 (n o162 (n o290 (n o546 z z) (n o802 z z)) (n o418 (n o674 z z) (n o930 z z))) (n o226 (n o354 (n o610 z z) (n o866 z z)) (n o482 (n o738 z z) z)))) (n (o50 P) (n (o82 P) (n o146 (n o274 (n o530 z z) (n o786 z z)) (n o402 (n o658 z z) (n o914 z z))) (n o210 (n o338 (n o594 z z) (n o850 z z)) (n o466 (n o722 z z) z))) (n (o114 P) (n o178 (n o306 (n (o562 P) z z) (n o818 z z)) (n o434 (n o690 z z) (n o946 z z))) (n o242 (n o370 (n o626 z z) (n o882 z z)) (n o498 (n o754 z z) z))))) (n o26 (n o42 (n o74 (n o138 (n o266 (n o522 z z) (n o778 z z)) (n (o394 P) (n o650 z z) (n o906 z z))) (n o202 (n o330 (n o586 z z) (n o842 z z)) (n o458 (n o714 z z) z))) (n o106 (n o170 (n o298 (n o554 z z) (n o810 z z)) (n o426 (n o682 z z) (n o938 z z))) (n o234 (n o362 (n o618 z z) (n o874 z z)) (n o490 (n o746 z z) z)))) (n o58 (n o90 (n o154 (n o282 (n o538 z z) (n o794 z z)) (n o410 (n o666 z z) (n o922 z z))) (n o218 (n o346 (n o602 z z) (n o858 z z)) (n o474 (n o730 z z) z))) (n o122 (n o186 (n o314 (n o570 z z) (n o826 z z)) (n o442 (n o698 z z) z)) (n o250 (n o378 (n o634 z z) (n o890 z z)) (n o506 (n (o762 P) z z) z)))))) (n o14 (n o22 (n o38 (n o70 (n o134 (n o262 (n o518 z z) (n o774 z z)) (n o390 (n o646 z z) (n o902 z z))) (n o198 (n o326 (n o582 z z) (n o838 z z)) (n o454 (n o710 z z) z))) (n o102 (n o166 (n o294 (n o550 z z) (n (o806 P) z z)) (n o422 (n o678 z z) (n o934 z z))) (n o230 (n o358 (n o614 z z) (n (o870 P) z z)) (n o486 (n o742 z z) z)))) (n o54 (n o86 (n o150 (n o278 (n o534 z z) (n o790 z z)) (n o406 (n o662 z z) (n o918 z z))) (n o214 (n o342 (n o598 z z) (n o854 z z)) (n o470 (n o726 z z) z))) (n o118 (n o182 (n o310 (n o566 z z) (n o822 z z)) (n o438 (n o694 z z) z)) (n (o246 P) (n o374 (n o630 z z) (n o886 z z)) (n o502 (n o758 z z) z))))) (n (o30 P) (n o46 (n o78 (n o142 (n o270 (n o526 z z) (n o782 z z)) (n o398 (n o654 z z) (n o910 z z))) (n o206 (n o334 (n o590 z z) (n o846 z z)) (n o462 (n o718 z z) z))) (n o110 (n o174 (n o302 (n o558 z z) (n o814 z z)) (n o430 (n o686 z z) (n o942 z z))) (n o238 (n o366 (n (o622 P) z z) (n o878 z z)) (n o494 (n o750 z z) z)))) (n o62 (n o94 (n (o158 P) (n o286 (n o542 z z) (n o798 z z)) (n o414 (n o670 z z) (n o926 z z))) (n o222 (n o350 (n o606 z z) (n o862 z z)) (n o478 (n o734 z z) z))) (n o126 (n (o190 P) (n o318 (n o574 z z) (n o830 z z)) (n o446 (n o702 z z) z)) (n o254 (n o382 (n o638 z z) (n o894 z z)) (n o510 (n o766 z z) z)))))))))
def o3_4 (P : Params) : Obj := ⟨(T "dict"), none, (.dict ⟨[E P "__name__" 165 (S "law_onemember_k04_expressions_made" 1374), E P "__doc__" 166 N, E P "__package__" 167 N, E P "__loader__" 168 (B "__main__.__loader__#opaque"), E P "__spec__" 169 N, E P "__annotations__" 170 (R 6), E P "__builtins__" 171 (R 4), E P "__file__" 173 (S "/claim/cut.py" 172), E P "__cached__" 174 N, E P "_wall" 193 (R 21), E P "SetError" 213 (R 31), E P "StateError" 231 (R 44), E P "LimitError" 251 (R 57), E P "NotMembers" 276 (R 77), E P "NotAChange" 301 (R 96), E P "NotAnExpression" 326 (R 115), E P "InvalidForm" 351 (R 134), E P "InvalidText" 376 (R 153), E P "UnknownField" 401 (R 172), E P "InvalidNames" 426 (R 191), E P "InvalidSets" 451 (R 210), E P "NotComparable" 467 (R 222), E P "TooManyLeaves" 492 (R 241), E P "TooManyLevels" 517 (R 260), E P "MOST_LEAVES" 519 (.int 200 518), E P "MOST_DEPTH" 521 (.int 20 520), E P "LONGEST_NAME" 525 (.int 8 524), E P "is_name" 532 (R 269), E P "wrong_at" 541 (R 276), E P "SIGNS" 548 (R 277), E P "GIVEN" 550 (S "given" 549), E P "NONE" 552 (S "none" 551), E P "is_field" 559 (R 284), E P "form_size" 565 (R 289), E P "is_triple" 572 (R 296), E P "check_leaves" 579 (R 303), E P "check_depth" 586 (R 310), E P "form_text" 596 (R 317), E P "side_text" 603 (R 324), E P "read_counted" 614 (R 331), E P "take_word" 623 (R 338), E P "joined" 635 (R 345), E P "form_leaves" 642 (R 352), E P "form_fields" 648 (R 357), E P "form_value" 661 (R 364), E P "Members" 882 (R 534), E P "Change" 996 (R 623), E P "check_members" 1003 (R 634), E P "check_change" 1010 (R 641), E P "Expression" 1193 (R 780), E P "Fact" 1321 (R 880), E P "fields_of_two" 1329 (R 891), E P "check_expression" 1336 (R 898), E P "with_sign" 1345 (R 905), E P "all_sets" 1356 (R 912), E P "field_sets" 1366 (R 919), E P "is_field_set" 1373 (R 926), E P "_law_cell" 1385 (R 933), E P "_law_pool" 1392 (R 940), E P "_law_draw" 1402 (R 947), E P "_law_names" 1408 (R 952), E P "_law_form" 1418 (R 959), E P "_law_line" 1427 (R 966), E P "_law_words" 1434 (R 973), E P "_law_deep" 1443 (R 980), E P "_law_one_right" 1449 (R 985), E P "_law_two_right" 1455 (R 990), E P "_law_right" 1461 (R 995), E P "law" 1467 (R 1000)]⟩ 69), ⟨[]⟩⟩
def o12_4 : Obj := ⟨N, none, (.fields ⟨[(I 1), (I 0), (R 20), (I 5), (I 0), (R 27), (I 7), (I 0), (R 40), (I 9), (I 0), (R 53), (I 11), (I 0), (R 66), (I 15), (I 0), (R 85), (I 19), (I 0), (R 104), (I 23), (I 0), (R 123), (I 27), (I 0), (R 142), (I 31), (I 0), (R 161), (I 35), (I 0), (R 180), (I 39), (I 0), (R 199), (I 43), (I 0), (R 218), (I 45), (I 0), (R 230), (I 49), (I 0), (R 249), (I 57), (I 0), (R 268), (I 63), (I 0), (R 275), (I 72), (I 0), (R 283), (I 74), (I 0), (R 288), (I 89), (I 0), (R 295), (I 91), (I 0), (R 302), (I 94), (I 0), (R 309), (I 97), (I 0), (R 316), (I 102), (I 0), (R 323), (I 106), (I 0), (R 330), (I 120), (I 0), (R 337), (I 134), (I 0), (R 344), (I 137), (I 0), (R 351), (I 141), (I 0), (R 356), (I 144), (I 0), (R 363), (I 158), (I 0), (R 370), (I 252), (I 0), (R 544), (I 296), (I 0), (R 633), (I 299), (I 0), (R 640), (I 303), (I 0), (R 647), (I 376), (I 0), (R 790), (I 427), (I 0), (R 890), (I 429), (I 0), (R 897), (I 432), (I 0), (R 904), (I 435), (I 0), (R 911), (I 445), (I 0), (R 918), (I 454), (I 0), (R 925), (I 459), (I 0), (R 932), (I 466), (I 0), (R 939), (I 468), (I 0), (R 946), (I 477), (I 0), (R 951), (I 486), (I 0), (R 958), (I 491), (I 0), (R 965), (I 496), (I 0), (R 972), (I 498), (I 0), (R 979), (I 503), (I 0), (R 984), (I 511), (I 0), (R 989), (I 522), (I 0), (R 994), (I 528), (I 0), (R 999)]⟩), ⟨[]⟩⟩
def o948 : Obj := ⟨(T "tuple"), none, (.seq ⟨[]⟩ 0), ⟨[]⟩⟩
def o949 : Obj := ⟨N, none, (.fields ⟨[]⟩), ⟨[]⟩⟩
def o950 : Obj := ⟨N, none, (F (A 57) (u "_law_names") (u "_law_names") 0 [] N N N N none N N 0), ⟨[]⟩⟩
def o951 : Obj := ⟨(T "code"), none, (.fields ⟨[(S "_law_names" 1403), (S "_law_names" 1404), (S "/claim/cut.py" 1405), (I 477), (I 2), (I 0), (I 0), (I 3), (R 948), (.bool true), (I 181), (R 949), N, N, N, (R 950), (I 1406), (I 477), (S "/claim/cut.py" 1407)]⟩), ⟨[]⟩⟩
def o952 : Obj := ⟨(T "function"), none, (F (A 57) (u "_law_names") (u "_law_names") 3 [] N N N (S "law_onemember_k04_expressions_made" 1374) none (R 951) N 0), ⟨[]⟩⟩
def o953 : Obj := ⟨(T "tuple"), none, (.seq ⟨[]⟩ 0), ⟨[]⟩⟩
def o954 : Obj := ⟨N, none, (.fields ⟨[]⟩), ⟨[]⟩⟩
def o955 : Obj := ⟨(T "tuple"), none, (.seq ⟨[(S "_law_pool_here" 1412), (S "_law_words_here" 1413), (S "_law_deep_here" 1414), (S "_law_sign" 1415)]⟩ 0), ⟨[]⟩⟩
def o956 : Obj := ⟨(T "tuple"), none, (.seq ⟨[]⟩ 0), ⟨[]⟩⟩
def o957 : Obj := ⟨N, none, (F (A 58) (u "_law_form") (u "_law_form") 0 [] N N N N none N N 0), ⟨[]⟩⟩
def o958 : Obj := ⟨(T "code"), none, (.fields ⟨[(S "_law_form" 1409), (S "_law_form" 1410), (S "/claim/cut.py" 1411), (I 486), (I 3), (I 0), (I 0), (I 3), (R 953), (.bool true), (I 181), (R 954), N, (R 955), (R 956), (R 957), (I 1416), (I 486), (S "/claim/cut.py" 1417)]⟩), ⟨[]⟩⟩
def o959 : Obj := ⟨(T "function"), none, (F (A 58) (u "_law_form") (u "_law_form") 3 [] N N N (S "law_onemember_k04_expressions_made" 1374) none (R 958) N 0), ⟨[]⟩⟩
def o960 : Obj := ⟨(T "tuple"), none, (.seq ⟨[]⟩ 0), ⟨[]⟩⟩
def o961 : Obj := ⟨N, none, (.fields ⟨[]⟩), ⟨[]⟩⟩
def o962 : Obj := ⟨(T "tuple"), none, (.seq ⟨[(S "_law_shape" 1422), (S "_law_inside" 1423), (S "_law_line_here" 1424)]⟩ 0), ⟨[]⟩⟩
def o963 : Obj := ⟨(T "tuple"), none, (.seq ⟨[]⟩ 0), ⟨[]⟩⟩
def o964 : Obj := ⟨N, none, (F (A 59) (u "_law_line") (u "_law_line") 0 [] N N N N none N N 0), ⟨[]⟩⟩
def o965 : Obj := ⟨(T "code"), none, (.fields ⟨[(S "_law_line" 1419), (S "_law_line" 1420), (S "/claim/cut.py" 1421), (I 491), (I 2), (I 0), (I 0), (I 3), (R 960), (.bool true), (I 181), (R 961), N, (R 962), (R 963), (R 964), (I 1425), (I 491), (S "/claim/cut.py" 1426)]⟩), ⟨[]⟩⟩
def o966 : Obj := ⟨(T "function"), none, (F (A 59) (u "_law_line") (u "_law_line") 3 [] N N N (S "law_onemember_k04_expressions_made" 1374) none (R 965) N 0), ⟨[]⟩⟩
def o967 : Obj := ⟨(T "tuple"), none, (.seq ⟨[]⟩ 0), ⟨[]⟩⟩
def o968 : Obj := ⟨N, none, (.fields ⟨[]⟩), ⟨[]⟩⟩
def o969 : Obj := ⟨(T "tuple"), none, (.seq ⟨[(S "_law_shape" 1431)]⟩ 0), ⟨[]⟩⟩
def o970 : Obj := ⟨(T "tuple"), none, (.seq ⟨[]⟩ 0), ⟨[]⟩⟩
def o971 : Obj := ⟨N, none, (F (A 60) (u "_law_words") (u "_law_words") 0 [] N N N N none N N 0), ⟨[]⟩⟩
def o972 : Obj := ⟨(T "code"), none, (.fields ⟨[(S "_law_words" 1428), (S "_law_words" 1429), (S "/claim/cut.py" 1430), (I 496), (I 1), (I 0), (I 0), (I 3), (R 967), (.bool true), (I 181), (R 968), N, (R 969), (R 970), (R 971), (I 1432), (I 496), (S "/claim/cut.py" 1433)]⟩), ⟨[]⟩⟩
def o973 : Obj := ⟨(T "function"), none, (F (A 60) (u "_law_words") (u "_law_words") 3 [] N N N (S "law_onemember_k04_expressions_made" 1374) none (R 972) N 0), ⟨[]⟩⟩
def o974 : Obj := ⟨(T "tuple"), none, (.seq ⟨[]⟩ 0), ⟨[]⟩⟩
def o975 : Obj := ⟨N, none, (.fields ⟨[]⟩), ⟨[]⟩⟩
def o976 : Obj := ⟨(T "tuple"), none, (.seq ⟨[(S "_law_shape" 1438), (S "_law_low" 1439), (S "_law_high" 1440)]⟩ 0), ⟨[]⟩⟩
def o977 : Obj := ⟨(T "tuple"), none, (.seq ⟨[]⟩ 0), ⟨[]⟩⟩
def o978 : Obj := ⟨N, none, (F (A 61) (u "_law_deep") (u "_law_deep") 0 [] N N N N none N N 0), ⟨[]⟩⟩
def o979 : Obj := ⟨(T "code"), none, (.fields ⟨[(S "_law_deep" 1435), (S "_law_deep" 1436), (S "/claim/cut.py" 1437), (I 498), (I 1), (I 0), (I 0), (I 3), (R 974), (.bool true), (I 181), (R 975), N, (R 976), (R 977), (R 978), (I 1441), (I 498), (S "/claim/cut.py" 1442)]⟩), ⟨[]⟩⟩
def o980 : Obj := ⟨(T "function"), none, (F (A 61) (u "_law_deep") (u "_law_deep") 3 [] N N N (S "law_onemember_k04_expressions_made" 1374) none (R 979) N 0), ⟨[]⟩⟩
def o981 : Obj := ⟨(T "tuple"), none, (.seq ⟨[]⟩ 0), ⟨[]⟩⟩
def o982 : Obj := ⟨N, none, (.fields ⟨[]⟩), ⟨[]⟩⟩
def o983 : Obj := ⟨N, none, (F (A 62) (u "_law_one_right") (u "_law_one_right") 0 [] N N N N none N N 0), ⟨[]⟩⟩
def o984 : Obj := ⟨(T "code"), none, (.fields ⟨[(S "_law_one_right" 1444), (S "_law_one_right" 1445), (S "/claim/cut.py" 1446), (I 503), (I 1), (I 0), (I 0), (I 3), (R 981), (.bool true), (I 181), (R 982), N, N, N, (R 983), (I 1447), (I 503), (S "/claim/cut.py" 1448)]⟩), ⟨[]⟩⟩
def o985 : Obj := ⟨(T "function"), none, (F (A 62) (u "_law_one_right") (u "_law_one_right") 3 [] N N N (S "law_onemember_k04_expressions_made" 1374) none (R 984) N 0), ⟨[]⟩⟩
def o986 : Obj := ⟨(T "tuple"), none, (.seq ⟨[]⟩ 0), ⟨[]⟩⟩
def o987 : Obj := ⟨N, none, (.fields ⟨[]⟩), ⟨[]⟩⟩
def o988 : Obj := ⟨N, none, (F (A 63) (u "_law_two_right") (u "_law_two_right") 0 [] N N N N none N N 0), ⟨[]⟩⟩
def o989 : Obj := ⟨(T "code"), none, (.fields ⟨[(S "_law_two_right" 1450), (S "_law_two_right" 1451), (S "/claim/cut.py" 1452), (I 511), (I 2), (I 0), (I 0), (I 3), (R 986), (.bool true), (I 181), (R 987), N, N, N, (R 988), (I 1453), (I 511), (S "/claim/cut.py" 1454)]⟩), ⟨[]⟩⟩
def o990 : Obj := ⟨(T "function"), none, (F (A 63) (u "_law_two_right") (u "_law_two_right") 3 [] N N N (S "law_onemember_k04_expressions_made" 1374) none (R 989) N 0), ⟨[]⟩⟩
def o991 : Obj := ⟨(T "tuple"), none, (.seq ⟨[]⟩ 0), ⟨[]⟩⟩
def o992 : Obj := ⟨N, none, (.fields ⟨[]⟩), ⟨[]⟩⟩
def o993 : Obj := ⟨N, none, (F (A 64) (u "_law_right") (u "_law_right") 0 [] N N N N none N N 0), ⟨[]⟩⟩
def o994 : Obj := ⟨(T "code"), none, (.fields ⟨[(S "_law_right" 1456), (S "_law_right" 1457), (S "/claim/cut.py" 1458), (I 522), (I 1), (I 0), (I 0), (I 3), (R 991), (.bool true), (I 181), (R 992), N, N, N, (R 993), (I 1459), (I 522), (S "/claim/cut.py" 1460)]⟩), ⟨[]⟩⟩
def o995 : Obj := ⟨(T "function"), none, (F (A 64) (u "_law_right") (u "_law_right") 3 [] N N N (S "law_onemember_k04_expressions_made" 1374) none (R 994) N 0), ⟨[]⟩⟩
def o996 : Obj := ⟨(T "tuple"), none, (.seq ⟨[]⟩ 0), ⟨[]⟩⟩
def o997 : Obj := ⟨N, none, (.fields ⟨[]⟩), ⟨[]⟩⟩
def o998 : Obj := ⟨N, none, (F (A 65) (u "law") (u "law") 0 [] N N N N none N N 0), ⟨[]⟩⟩
def o999 : Obj := ⟨(T "code"), none, (.fields ⟨[(S "law" 1462), (S "law" 1463), (S "/claim/cut.py" 1464), (I 528), (I 1), (I 0), (I 0), (I 3), (R 996), (.bool true), (I 181), (R 997), N, N, N, (R 998), (I 1465), (I 528), (S "/claim/cut.py" 1466)]⟩), ⟨[]⟩⟩
def o1000 : Obj := ⟨(T "function"), none, (F (A 65) (u "law") (u "law") 3 [] N N N (S "law_onemember_k04_expressions_made" 1374) none (R 999) N 0), ⟨[]⟩⟩
def t4 (P : Params) : BT := (n (boot_o_0 P) (n (boot_o_1 P) (n (o3_4 P) (n (boot_o_7 P) (n o15 (n o31 (n (o63 P) (n o127 (n o255 (n o511 z z) (n o767 z z)) (n o383 (n o639 z z) (n o895 z z))) (n o191 (n o319 (n o575 z z) (n o831 z z)) (n o447 (n o703 z z) (n o959 z z)))) (n (o95 P) (n o159 (n o287 (n o543 z z) (n o799 z z)) (n o415 (n o671 z z) (n o927 z z))) (n o223 (n o351 (n o607 z z) (n o863 z z)) (n o479 (n o735 z z) (n o991 z z))))) (n o47 (n o79 (n o143 (n o271 (n o527 z z) (n o783 z z)) (n o399 (n o655 z z) (n o911 z z))) (n o207 (n o335 (n o591 z z) (n o847 z z)) (n o463 (n o719 z z) (n o975 z z)))) (n o111 (n o175 (n o303 (n o559 z z) (n o815 z z)) (n o431 (n o687 z z) (n o943 z z))) (n o239 (n (o367 P) (n o623 z z) (n (o879 P) z z)) (n o495 (n o751 z z) z))))) (n o23 (n o39 (n o71 (n o135 (n o263 (n o519 z z) (n o775 z z)) (n o391 (n o647 z z) (n o903 z z))) (n o199 (n o327 (n o583 z z) (n o839 z z)) (n o455 (n o711 z z) (n o967 z z)))) (n o103 (n o167 (n o295 (n o551 z z) (n o807 z z)) (n o423 (n o679 z z) (n o935 z z))) (n o231 (n o359 (n o615 z z) (n o871 z z)) (n o487 (n o743 z z) (n o999 z z))))) (n o55 (n o87 (n o151 (n o279 (n o535 z z) (n o791 z z)) (n o407 (n (o663 P) z z) (n o919 z z))) (n (o215 P) (n o343 (n o599 z z) (n o855 z z)) (n o471 (n o727 z z) (n o983 z z)))) (n o119 (n o183 (n o311 (n o567 z z) (n o823 z z)) (n o439 (n o695 z z) (n o951 z z))) (n o247 (n o375 (n o631 z z) (n o887 z z)) (n o503 (n o759 z z) z)))))) (n o11 (n o19 (n o35 (n o67 (n o131 (n (o259 P) (n o515 z z) (n o771 z z)) (n o387 (n o643 z z) (n o899 z z))) (n o195 (n o323 (n o579 z z) (n o835 z z)) (n o451 (n o707 z z) (n o963 z z)))) (n o99 (n o163 (n o291 (n o547 z z) (n o803 z z)) (n o419 (n o675 z z) (n o931 z z))) (n (o227 P) (n o355 (n o611 z z) (n o867 z z)) (n o483 (n o739 z z) (n o995 z z))))) (n o51 (n o83 (n o147 (n o275 (n o531 z z) (n (o787 P) z z)) (n o403 (n o659 z z) (n o915 z z))) (n o211 (n o339 (n o595 z z) (n o851 z z)) (n o467 (n o723 z z) (n o979 z z)))) (n o115 (n o179 (n o307 (n o563 z z) (n o819 z z)) (n o435 (n o691 z z) (n o947 z z))) (n o243 (n o371 (n o627 z z) (n o883 z z)) (n o499 (n o755 z z) z))))) (n o27 (n (o43 P) (n o75 (n (o139 P) (n o267 (n o523 z z) (n (o779 P) z z)) (n o395 (n o651 z z) (n o907 z z))) (n o203 (n o331 (n o587 z z) (n o843 z z)) (n o459 (n o715 z z) (n o971 z z)))) (n o107 (n (o171 P) (n o299 (n o555 z z) (n o811 z z)) (n o427 (n o683 z z) (n o939 z z))) (n o235 (n o363 (n o619 z z) (n o875 z z)) (n o491 (n o747 z z) z)))) (n o59 (n o91 (n o155 (n o283 (n o539 z z) (n o795 z z)) (n o411 (n o667 z z) (n o923 z z))) (n o219 (n o347 (n o603 z z) (n o859 z z)) (n o475 (n o731 z z) (n o987 z z)))) (n o123 (n o187 (n o315 (n o571 z z) (n o827 z z)) (n o443 (n o699 z z) (n o955 z z))) (n o251 (n o379 (n o635 z z) (n o891 z z)) (n o507 (n o763 z z) z))))))) (n (boot_o_5 P) (n (boot_o_9 P) (n o17 (n o33 (n o65 (n o129 (n o257 (n o513 z z) (n o769 z z)) (n o385 (n o641 z z) (n o897 z z))) (n o193 (n o321 (n o577 z z) (n o833 z z)) (n o449 (n o705 z z) (n o961 z z)))) (n o97 (n o161 (n o289 (n o545 z z) (n o801 z z)) (n o417 (n o673 z z) (n o929 z z))) (n o225 (n o353 (n o609 z z) (n o865 z z)) (n o481 (n o737 z z) (n o993 z z))))) (n o49 (n o81 (n o145 (n o273 (n o529 z z) (n o785 z z)) (n o401 (n o657 z z) (n o913 z z))) (n (o209 P) (n o337 (n o593 z z) (n o849 z z)) (n o465 (n o721 z z) (n o977 z z)))) (n o113 (n (o177 P) (n o305 (n o561 z z) (n o817 z z)) (n o433 (n o689 z z) (n o945 z z))) (n o241 (n o369 (n o625 z z) (n o881 z z)) (n o497 (n o753 z z) z))))) (n o25 (n o41 (n o73 (n o137 (n o265 (n o521 z z) (n o777 z z)) (n o393 (n o649 z z) (n o905 z z))) (n o201 (n o329 (n o585 z z) (n o841 z z)) (n o457 (n o713 z z) (n o969 z z)))) (n o105 (n o169 (n o297 (n o553 z z) (n o809 z z)) (n o425 (n o681 z z) (n o937 z z))) (n o233 (n o361 (n o617 z z) (n o873 z z)) (n o489 (n o745 z z) z)))) (n o57_2 (n o89 (n o153 (n o281 (n o537 z z) (n o793 z z)) (n o409 (n (o665 P) z z) (n o921 z z))) (n o217 (n o345 (n o601 z z) (n o857 z z)) (n o473 (n o729 z z) (n o985 z z)))) (n o121 (n o185 (n o313 (n o569 z z) (n o825 z z)) (n o441 (n o697 z z) (n o953 z z))) (n o249 (n o377 (n o633 z z) (n o889 z z)) (n o505 (n o761 z z) z)))))) (n o13 (n o21 (n (o37 P) (n o69 (n (o133 P) (n o261 (n o517 z z) (n o773 z z)) (n o389 (n o645 z z) (n o901 z z))) (n o197 (n o325 (n o581 z z) (n o837 z z)) (n o453 (n o709 z z) (n o965 z z)))) (n (o101 P) (n o165 (n o293 (n o549 z z) (n o805 z z)) (n o421 (n o677 z z) (n o933 z z))) (n o229 (n o357 (n o613 z z) (n o869 z z)) (n o485 (n o741 z z) (n o997 z z))))) (n o53 (n o85 (n o149 (n o277 (n (o533 P) z z) (n o789 z z)) (n o405 (n o661 z z) (n o917 z z))) (n o213 (n o341 (n o597 z z) (n o853 z z)) (n o469 (n o725 z z) (n o981 z z)))) (n o117 (n o181 (n o309 (n o565 z z) (n o821 z z)) (n o437 (n o693 z z) (n o949 z z))) (n o245 (n o373 (n o629 z z) (n o885 z z)) (n o501 (n o757 z z) z))))) (n o29 (n o45 (n o77 (n o141 (n o269 (n o525 z z) (n o781 z z)) (n o397 (n o653 z z) (n o909 z z))) (n o205 (n o333 (n o589 z z) (n o845 z z)) (n o461 (n o717 z z) (n o973 z z)))) (n o109 (n o173 (n o301 (n o557 z z) (n o813 z z)) (n o429 (n o685 z z) (n o941 z z))) (n o237 (n o365 (n o621 z z) (n o877 z z)) (n o493 (n o749 z z) z)))) (n o61 (n o93 (n o157 (n o285 (n (o541 P) z z) (n o797 z z)) (n o413 (n o669 z z) (n o925 z z))) (n (o221 P) (n o349 (n o605 z z) (n o861 z z)) (n o477 (n o733 z z) (n o989 z z)))) (n o125 (n o189 (n o317 (n o573 z z) (n o829 z z)) (n o445 (n o701 z z) (n o957 z z))) (n o253 (n o381 (n o637 z z) (n o893 z z)) (n o509 (n o765 z z) z)))))))) (n (o2_1 P) (n (boot_o_4 P) (n (boot_o_8 P) (n o16 (n o32 (n o64 (n o128 (n o256 (n o512 z z) (n o768 z z)) (n (o384 P) (n o640 z z) (n o896 z z))) (n o192 (n o320 (n o576 z z) (n o832 z z)) (n o448 (n o704 z z) (n o960 z z)))) (n o96 (n o160 (n o288 (n o544 z z) (n o800 z z)) (n o416 (n o672 z z) (n o928 z z))) (n o224 (n o352 (n o608 z z) (n o864 z z)) (n o480 (n o736 z z) (n o992 z z))))) (n o48 (n o80 (n o144 (n o272 (n o528 z z) (n o784 z z)) (n o400 (n o656 z z) (n o912 z z))) (n o208 (n o336 (n o592 z z) (n o848 z z)) (n o464 (n o720 z z) (n o976 z z)))) (n o112 (n o176 (n o304 (n (o560 P) z z) (n o816 z z)) (n o432 (n o688 z z) (n o944 z z))) (n (o240 P) (n o368 (n o624 z z) (n o880 z z)) (n o496 (n o752 z z) z))))) (n (o24 P) (n o40 (n o72 (n o136 (n o264 (n o520 z z) (n o776 z z)) (n o392 (n o648 z z) (n o904 z z))) (n o200 (n o328 (n o584 z z) (n o840 z z)) (n o456 (n o712 z z) (n o968 z z)))) (n o104 (n o168 (n o296 (n o552 z z) (n (o808 P) z z)) (n o424 (n o680 z z) (n o936 z z))) (n o232 (n o360 (n o616 z z) (n o872 z z)) (n o488 (n o744 z z) (n o1000 z z))))) (n (o56 P) (n o88 (n (o152 P) (n o280 (n o536 z z) (n o792 z z)) (n o408 (n o664 z z) (n o920 z z))) (n o216 (n o344 (n o600 z z) (n o856 z z)) (n o472 (n o728 z z) (n o984 z z)))) (n (o120 P) (n o184 (n o312 (n o568 z z) (n o824 z z)) (n o440 (n o696 z z) (n o952 z z))) (n o248 (n o376 (n o632 z z) (n o888 z z)) (n o504 (n o760 z z) z)))))) (n o12_4 (n o20 (n o36 (n o68 (n o132 (n o260 (n o516 z z) (n o772 z z)) (n o388 (n (o644 P) z z) (n o900 z z))) (n (o196 P) (n o324 (n o580 z z) (n o836 z z)) (n o452 (n o708 z z) (n o964 z z)))) (n o100 (n o164 (n o292 (n o548 z z) (n o804 z z)) (n o420 (n o676 z z) (n o932 z z))) (n o228 (n o356 (n o612 z z) (n o868 z z)) (n o484 (n o740 z z) (n o996 z z))))) (n o52 (n o84 (n o148 (n o276 (n o532 z z) (n o788 z z)) (n o404 (n o660 z z) (n o916 z z))) (n o212 (n o340 (n o596 z z) (n o852 z z)) (n o468 (n o724 z z) (n o980 z z)))) (n o116 (n o180 (n o308 (n o564 z z) (n o820 z z)) (n o436 (n o692 z z) (n o948 z z))) (n o244 (n o372 (n o628 z z) (n o884 z z)) (n o500 (n o756 z z) z))))) (n o28 (n o44_2 (n (o76 P) (n o140 (n o268 (n o524 z z) (n o780 z z)) (n (o396 P) (n o652 z z) (n o908 z z))) (n o204 (n o332 (n o588 z z) (n o844 z z)) (n o460 (n o716 z z) (n o972 z z)))) (n o108 (n o172 (n o300 (n o556 z z) (n o812 z z)) (n o428 (n o684 z z) (n o940 z z))) (n o236 (n o364 (n o620 z z) (n o876 z z)) (n o492 (n o748 z z) z)))) (n o60 (n o92 (n o156 (n o284 (n o540 z z) (n o796 z z)) (n o412 (n o668 z z) (n o924 z z))) (n o220 (n o348 (n o604 z z) (n o860 z z)) (n o476 (n o732 z z) (n o988 z z)))) (n o124 (n o188 (n o316 (n o572 z z) (n o828 z z)) (n o444 (n o700 z z) (n o956 z z))) (n o252 (n o380 (n o636 z z) (n o892 z z)) (n o508 (n o764 z z) z))))))) (n (boot_o_6 P) (n (boot_o_10 P) (n o18 (n o34 (n o66 (n o130 (n o258 (n o514 z z) (n (o770 P) z z)) (n (o386 P) (n o642 z z) (n o898 z z))) (n o194 (n o322 (n o578 z z) (n o834 z z)) (n o450 (n o706 z z) (n o962 z z)))) (n o98 (n o162 (n o290 (n o546 z z) (n o802 z z)) (n o418 (n o674 z z) (n o930 z z))) (n o226 (n o354 (n o610 z z) (n o866 z z)) (n o482 (n o738 z z) (n o994 z z))))) (n (o50 P) (n (o82 P) (n o146 (n o274 (n o530 z z) (n o786 z z)) (n o402 (n o658 z z) (n o914 z z))) (n o210 (n o338 (n o594 z z) (n o850 z z)) (n o466 (n o722 z z) (n o978 z z)))) (n (o114 P) (n o178 (n o306 (n (o562 P) z z) (n o818 z z)) (n o434 (n o690 z z) (n o946 z z))) (n o242 (n o370 (n o626 z z) (n o882 z z)) (n o498 (n o754 z z) z))))) (n o26 (n o42 (n o74 (n o138 (n o266 (n o522 z z) (n o778 z z)) (n (o394 P) (n o650 z z) (n o906 z z))) (n o202 (n o330 (n o586 z z) (n o842 z z)) (n o458 (n o714 z z) (n o970 z z)))) (n o106 (n o170 (n o298 (n o554 z z) (n o810 z z)) (n o426 (n o682 z z) (n o938 z z))) (n o234 (n o362 (n o618 z z) (n o874 z z)) (n o490 (n o746 z z) z)))) (n o58 (n o90 (n o154 (n o282 (n o538 z z) (n o794 z z)) (n o410 (n o666 z z) (n o922 z z))) (n o218 (n o346 (n o602 z z) (n o858 z z)) (n o474 (n o730 z z) (n o986 z z)))) (n o122 (n o186 (n o314 (n o570 z z) (n o826 z z)) (n o442 (n o698 z z) (n o954 z z))) (n o250 (n o378 (n o634 z z) (n o890 z z)) (n o506 (n (o762 P) z z) z)))))) (n o14 (n o22 (n o38 (n o70 (n o134 (n o262 (n o518 z z) (n o774 z z)) (n o390 (n o646 z z) (n o902 z z))) (n o198 (n o326 (n o582 z z) (n o838 z z)) (n o454 (n o710 z z) (n o966 z z)))) (n o102 (n o166 (n o294 (n o550 z z) (n (o806 P) z z)) (n o422 (n o678 z z) (n o934 z z))) (n o230 (n o358 (n o614 z z) (n (o870 P) z z)) (n o486 (n o742 z z) (n o998 z z))))) (n o54 (n o86 (n o150 (n o278 (n o534 z z) (n o790 z z)) (n o406 (n o662 z z) (n o918 z z))) (n o214 (n o342 (n o598 z z) (n o854 z z)) (n o470 (n o726 z z) (n o982 z z)))) (n o118 (n o182 (n o310 (n o566 z z) (n o822 z z)) (n o438 (n o694 z z) (n o950 z z))) (n (o246 P) (n o374 (n o630 z z) (n o886 z z)) (n o502 (n o758 z z) z))))) (n (o30 P) (n o46 (n o78 (n o142 (n o270 (n o526 z z) (n o782 z z)) (n o398 (n o654 z z) (n o910 z z))) (n o206 (n o334 (n o590 z z) (n o846 z z)) (n o462 (n o718 z z) (n o974 z z)))) (n o110 (n o174 (n o302 (n o558 z z) (n o814 z z)) (n o430 (n o686 z z) (n o942 z z))) (n o238 (n o366 (n (o622 P) z z) (n o878 z z)) (n o494 (n o750 z z) z)))) (n o62 (n o94 (n (o158 P) (n o286 (n o542 z z) (n o798 z z)) (n o414 (n o670 z z) (n o926 z z))) (n o222 (n o350 (n o606 z z) (n o862 z z)) (n o478 (n o734 z z) (n o990 z z)))) (n o126 (n (o190 P) (n o318 (n o574 z z) (n o830 z z)) (n o446 (n o702 z z) (n o958 z z))) (n o254 (n o382 (n o638 z z) (n o894 z z)) (n o510 (n o766 z z) z)))))))))
theorem g1 (w : World) (os : OsState) : goS (stepQ (denQ tabQ) RR.prog w) 11 (bootAnn w) 2578 (bootT w os (t0 w.params, 11)) (topStub RR.prog) = some ((sh w os (t1 w.params) 213 452), (th 13 ⟨39, 0, 42, 26⟩)) := by kernel_rfl
theorem g2 (w : World) (os : OsState) : goS (stepQ (denQ tabQ) RR.prog w) 11 (bootAnn w) 3236 (sh w os (t1 w.params) 213 452) (th 13 ⟨39, 0, 42, 26⟩) = some ((sh w os (t2 w.params) 628 997), (th 42 ⟨252, 0, 295, 33⟩)) := by kernel_rfl
theorem g3 (w : World) (os : OsState) : goS (stepQ (denQ tabQ) RR.prog w) 11 (bootAnn w) 2504 (sh w os (t2 w.params) 628 997) (th 42 ⟨252, 0, 295, 33⟩) = some ((sh w os (t3 w.params) 948 1403), (th 57 ⟨468, 0, 476, 51⟩)) := by kernel_rfl
theorem gz (w : World) (os : OsState) : goF (stepQ (denQ tabQ) RR.prog w) 11 (bootAnn w) 8926 (sh w os (t3 w.params) 948 1403) (th 57 ⟨468, 0, 476, 51⟩) = some (sh w os (t4 w.params) 1001 1468) := by kernel_rfl
def Sf (w : World) (os : OsState) : SharedT := (sh w os (t4 w.params) 1001 1468)
theorem p0 (w : World) : putAll (boot_heap w.params).objs.toList .nil 0 = some (t0 w.params, 11) := by kernel_rfl
theorem ran (w : World) (os : OsState) : endF (stepQ (denQ tabQ) RR.prog w) 17244 RR.prog w os = some (Sf w os) := end_of (p0 w) (goS_goF (g1 w os) (goS_goF (g2 w os) (goS_goF (g3 w os) (gz w os))))
end K1.Hs
end
namespace K1.Hd
open PySem PySem.W PySem.Calls PyProof.Rows HeadRun
abbrev RR : OpenRow := OpenLaw.row PySem.Challenge.rw_onemember_k04_expressions_made
def qW : Program := view RR.prog [0, 2, 3, 4, 5, 6, 7, 8, 9, 10, 11, 12, 13, 14, 15, 16, 17, 19, 20, 21, 23, 24, 25, 26, 27, 28, 29, 30, 31, 32, 33, 34, 35, 36, 37, 38, 40, 41, 42, 43, 45, 46, 47, 48, 49, 50, 51, 52, 54, 55, 56, 57, 58, 59, 60, 61, 62, 63, 64, 65]
def lW : List PySem.Str := [PySem.Str.ofString "Members", PySem.Str.ofString "Change", PySem.Str.ofString "Expression", PySem.Str.ofString "Fact"]
def xW : Shared → Bool := fun s => xlAt qW [] s && recOk RR.toRowW.records s
theorem pL {α β γ : Type} {o : Option α} {f : α → β} {g : α → γ} {b : β} {c : γ} (h : o.map (fun s => (f s, g s)) = some (b, c)) : o.map f = some b := by
  cases o with
  | none => cases h
  | some a => exact congrArg some (congrArg Prod.fst (Option.some.inj h))
theorem pR {α β γ : Type} {o : Option α} {f : α → β} {g : α → γ} {b : β} {c : γ} (h : o.map (fun s => (f s, g s)) = some (b, c)) : o.map g = some c := by
  cases o with
  | none => cases h
  | some a => exact congrArg some (congrArg Prod.snd (Option.some.inj h))
theorem ax (w : World) (os : OsState) : (some (K1.Hs.Sf w os)).map (fun s => ((looksF RR.prog (boot_heap w.params) s.abs, (seenQ qW lW (importedModules RR.prog.main.body) xW s.abs).2.1, (seenQ qW lW (importedModules RR.prog.main.body) xW s.abs).2.2.2.2.2.2.2.2), PySem.W.R.allR (K1.tk 16 (PySem.W.Fast.tw3399658132070893891 qW)) fun d => PySem.W.Fast.tw5930804224584009831 s.abs.heap (DefRec.name d))) = some ((true, bltViewBooted, clsGoodW qW lW), true) := by kernel_rfl
theorem d3 (w : World) (os : OsState) : (some (K1.Hs.Sf w os)).map (fun s => K1.dp 13 (K1.dp 16 (seenQ qW lW (importedModules RR.prog.main.body) xW s.abs).1.defs)) = some (((expectedOf qW).defs.drop 16).drop 13) := by kernel_rfl
theorem e2 (w : World) (os : OsState) : (some (K1.Hs.Sf w os)).map (fun s => (seenQ qW lW (importedModules RR.prog.main.body) xW s.abs).2.2.2.2.2.2.2.1.2) = some ((wideGood qW).2) := by kernel_rfl
theorem d2 (w : World) (os : OsState) : (some (K1.Hs.Sf w os)).map (fun s => K1.tk 13 (K1.dp 16 (seenQ qW lW (importedModules RR.prog.main.body) xW s.abs).1.defs)) = some (((expectedOf qW).defs.drop 16).take 13) := by kernel_rfl
theorem a6 (w : World) (os : OsState) : (some (K1.Hs.Sf w os)).map (fun s => PySem.W.R.allR (K1.dp 13 (K1.dp 16 (PySem.W.Fast.tw3399658132070893891 qW))) fun d => PySem.W.Fast.tw5930804224584009831 s.abs.heap (DefRec.name d)) = some (true) := by kernel_rfl
theorem x2 (w : World) (os : OsState) : (some (K1.Hs.Sf w os)).map (fun s => ((seenQ qW lW (importedModules RR.prog.main.body) xW s.abs).2.2.2.2.1, (seenQ qW lW (importedModules RR.prog.main.body) xW s.abs).2.2.2.2.2.2.1)) = some (pinGoodD (drecsOf qW), plainGoodD qW lW) := by kernel_rfl
theorem a5 (w : World) (os : OsState) : (some (K1.Hs.Sf w os)).map (fun s => PySem.W.R.allR (K1.tk 13 (K1.dp 16 (PySem.W.Fast.tw3399658132070893891 qW))) fun d => PySem.W.Fast.tw5930804224584009831 s.abs.heap (DefRec.name d)) = some (true) := by kernel_rfl
theorem e1 (w : World) (os : OsState) : (some (K1.Hs.Sf w os)).map (fun s => (seenQ qW lW (importedModules RR.prog.main.body) xW s.abs).2.2.2.2.2.2.2.1.1) = some ((wideGood qW).1) := by kernel_rfl
theorem k1 (w : World) (os : OsState) : (some (K1.Hs.Sf w os)).map (fun s => PySem.W.R.allR (K1.tk 37 (s.abs.heap.nsKeys mainGlobals)) (K1.keyOk (PySem.W.Fast.tw821141287760084731 qW lW) (PySem.W.R.mapR (fun x => DefRec.name x) (PySem.W.Fast.tw3399658132070893891 qW)) (PySem.W.R.mapR (fun x => Prod.fst x) (PySem.W.Fast.tw7409074990110511671 qW)) (PySem.W.R.mapR (fun x => ClsRec.name x) (PySem.W.Fast.tw13664370479719496447 qW (PySem.W.Fast.tw821141287760084731 qW lW))))) = some (true) := by kernel_rfl
theorem k2 (w : World) (os : OsState) : (some (K1.Hs.Sf w os)).map (fun s => PySem.W.R.allR (K1.dp 37 (s.abs.heap.nsKeys mainGlobals)) (K1.keyOk (PySem.W.Fast.tw821141287760084731 qW lW) (PySem.W.R.mapR (fun x => DefRec.name x) (PySem.W.Fast.tw3399658132070893891 qW)) (PySem.W.R.mapR (fun x => Prod.fst x) (PySem.W.Fast.tw7409074990110511671 qW)) (PySem.W.R.mapR (fun x => ClsRec.name x) (PySem.W.Fast.tw13664370479719496447 qW (PySem.W.Fast.tw821141287760084731 qW lW))))) = some (true) := by kernel_rfl
theorem dc (w : World) (os : OsState) : (some (K1.Hs.Sf w os)).map (fun s => (K1.tk 16 (seenQ qW lW (importedModules RR.prog.main.body) xW s.abs).1.defs, (({ (seenQ qW lW (importedModules RR.prog.main.body) xW s.abs).1 with defs := [] } : PyProof.Rows.Seen), (PySem.W.Fast.tw14722251495701143533 s.abs.heap (importedModules RR.prog.main.body) && Heap.isNs s.abs.heap mainGlobals && Heap.isNs s.abs.heap builtinsNs && PySem.W.Fast.tw10994771534591457954 qW s.abs.heap && xW s.abs && (s.abs.gens.size == 0) && PySem.W.Fast.tw5244371056499926238 s.abs.heap && PySem.W.Fast.tw2578726214315757710 qW s.abs.heap && (!PySem.W.Fast.tw2458874890965802552 qW || PySem.W.Fast.tw9649274521512697073 s.abs.heap))))) = some ((expectedOf qW).defs.take 16, ({ (expectedOf qW) with defs := [] }, true)) := by kernel_rfl
theorem r4 : plainsOf qW (looseW qW lW) = [] := by kernel_rfl
theorem pre (w : World) (os : OsState) : (some (K1.Hs.Sf w os)).map (fun s => (looksF RR.prog (boot_heap w.params) s.abs, (seenQ qW lW (importedModules RR.prog.main.body) xW s.abs))) = some (true, openGood qW lW) := K1.gate9 (pL (ax w os)) (x2 w os) (K1.gd (pL (dc w os)) (d2 w os) (d3 w os)) (pR (dc w os)) (K1.gk (k1 w os) (k2 w os)) (K1.ga (pR (ax w os)) (a5 w os) (a6 w os)) r4 (e1 w os) (e2 w os)
end K1.Hd
section
open PySem PySem.W PySem.Calls PyProof.Rows HeadRun
local macro_rules
  | `(tactic| kernel_rfl) => `(tactic| (with_reducible refine K1.gate3 K1.Hs.ran K1.Hd.pre ?_ ?_ ?_ ?_) <;> kernel_rfl)
local macro_rules
  | `(tactic| kernel_rfl) => `(tactic| (with_reducible refine (fun (_ : K1.HeadTag _) => Eq.symm (?_ : List.map (fun x => x.1) (_ : List (Nat × Obj)) = _)) (by assumption)) <;> kernel_rfl)

noncomputable def K1.hdT : PSigma fun T : Prop => K1.HeadTag T → PySem.Challenge.rw_onemember_k04_expressions_made.Holds := by
  apply PSigma.mk
  case snd =>
    intro h
    w_on; o_law; k_headL
    (case hw => w_witness2)
    apply K1.swap
    case e' => intro P; apply Eq.symm; kernel_rfl
    exact h.out
end
set_option maxHeartbeats 4000000
namespace K1
open PySem PySem.Spec
open PyProof.Rows L2
/-! ### the text by places -/
def top (i : Nat) : Stmt := PySem.Challenge.pw_onemember_k04_expressions_made.main.body.getD i (.Pass ⟨0, 0, 0, 0⟩)
abbrev sIsName : Stmt := top 20
abbrev sIsField : Stmt := top 26
abbrev sSize : Stmt := top 27
abbrev sTriple : Stmt := top 28
abbrev sChkL : Stmt := top 29
abbrev sChkD : Stmt := top 30
abbrev sText : Stmt := top 31
abbrev sSide : Stmt := top 32
abbrev sReadC : Stmt := top 33
abbrev sTake : Stmt := top 34
abbrev sJoined : Stmt := top 35
abbrev sLeavesF : Stmt := top 36
abbrev sFieldsF : Stmt := top 37
abbrev sInitE : Stmt := inClass (top 45) 0
abbrev sReadE : Stmt := inClass (top 45) 1
abbrev sFormP : Stmt := inClass (top 45) 2
abbrev sLeavesP : Stmt := inClass (top 45) 3
abbrev sDepthP : Stmt := inClass (top 45) 4
abbrev sFieldsP : Stmt := inClass (top 45) 5
abbrev sGivenP : Stmt := inClass (top 45) 6
abbrev sStrE : Stmt := inClass (top 45) 7
abbrev sReprE : Stmt := inClass (top 45) 8
abbrev sEqE : Stmt := inClass (top 45) 9
abbrev sOrE : Stmt := inClass (top 45) 10
abbrev sAndE : Stmt := inClass (top 45) 11
abbrev sSubE : Stmt := inClass (top 45) 12
abbrev sXorE : Stmt := inClass (top 45) 13
abbrev sWithin : Stmt := inClass (top 45) 14
abbrev sInitF : Stmt := inClass (top 46) 0
abbrev sLeftP : Stmt := inClass (top 46) 2
abbrev sRightP : Stmt := inClass (top 46) 3
abbrev sFormF : Stmt := inClass (top 46) 4
abbrev sEqF : Stmt := inClass (top 46) 9
abbrev sChkE : Stmt := top 48
abbrev sSign : Stmt := top 49
abbrev sCell : Stmt := top 54
abbrev sPool : Stmt := top 55
abbrev sDraw : Stmt := top 56
abbrev sNames : Stmt := top 57
abbrev sForm : Stmt := top 58
abbrev sLine : Stmt := top 59
abbrev sWords : Stmt := top 60
abbrev sDeep : Stmt := top 61
abbrev sOne : Stmt := top 62
abbrev sTwo : Stmt := top 63
abbrev sRight : Stmt := top 64
abbrev sLaw : Stmt := top 65
end K1
namespace K1
open PySem PySem.Spec
open PyProof.Rows L2
/-! ### which names are the built-ins' -/
structure Free (mg : Str → Option Value) : Prop where
  len : mg "len" = none
  int : mg "int" = none
  abs : mg "abs" = none
  range : mg "range" = none
  list : mg "list" = none
  str : mg "str" = none
  set : mg "set" = none
  sorted : mg "sorted" = none
  tuple : mg "tuple" = none
  isinstance : mg "isinstance" = none
  enumerate : mg "enumerate" = none
  repr : mg "repr" = none
  bool : mg "bool" = none
  any : mg "any" = none
  all : mg "all" = none
  max : mg "max" = none
  min : mg "min" = none
/-! ### the pool: a list of three ints -/
def PoolAt (H : Hp) (p : Addr) : Prop := ∃ a b c : Int, H p = some (.lst [.int a, .int b, .int c])
def spCell (K : PySem.W.Frag) : Sp := fun vs H Q _ => ∃ (a : Addr) (ns : List Int) (k : Nat), vs = [.ref a, .int k] ∧ SqL K H a (ns.map V.int) ∧ ∀ z : Int, Q (.int z) H
def spPool : Sp := fun vs H Q _ => ∃ z : Int, vs = [.int z] ∧ ∀ p, H p = none → ∀ a b c : Int, Q (.ref p) (upd H p (.lst [.int a, .int b, .int c]))
/-- all but the pool stays, the pool is a pool -/
structure Ext (p : Addr) (H H' : Hp) : Prop where
  pool : PoolAt H' p
  keep : ∀ b o, b ≠ p → H b = some o → H' b = some o
theorem PoolAt.ne {H : Hp} {p q : Addr} (h : PoolAt H p) (n : H q = none) : q ≠ p := fun e => by
  obtain ⟨a, b, c, h⟩ := h
  rw [e, h] at n
  cases n
theorem Ext.refl {p : Addr} {H : Hp} (h : PoolAt H p) : Ext p H H := ⟨h, fun _ _ _ e => e⟩
theorem Ext.trans {p : Addr} {H H1 H2 : Hp} (a : Ext p H H1) (b : Ext p H1 H2) : Ext p H H2 := ⟨b.pool, fun c o n e => b.keep c o n (a.keep c o n e)⟩
theorem Ext.free {p q : Addr} {H H' : Hp} (e : Ext p H H') (n : H' q = none) : H q = none := by
  have n2 := e.pool.ne n
  cases h : H q with
  | none => rfl
  | some o =>
    rw [e.keep q o n2 h] at n
    cases n
theorem Ext.same {p : Addr} {H H1 H2 : Hp} (a : Ext p H H1) (s : Same H1 H2) : Ext p H H2 := ⟨by
  obtain ⟨x, y, z, h⟩ := a.pool
  exact ⟨x, y, z, s _ _ h⟩, fun c o n e => s c o (a.keep c o n e)⟩
theorem same_upd {H : Hp} {p : Addr} {o : HO} (h : H p = none) : Same H (upd H p o) := fun b x e => by
  rw [upd_ne (ne_of_none e h)]
  exact e
theorem Ext.of {p : Addr} {H : Hp} (a b c : Int) : Ext p H (upd H p (.lst [.int a, .int b, .int c])) := ⟨⟨a, b, c, upd_same⟩, fun d o n e => by
  rw [upd_ne n]
  exact e⟩
theorem Ext.at {p q : Addr} {H H' : Hp} {o : HO} (e : Ext p H H') (n : q ≠ p) (h : H q = some o) : H' q = some o := e.keep q o n h
def spDraw : Sp := fun vs H Q _ => ∃ (p : Addr) (m : Int), vs = [.ref p, .int m] ∧ PoolAt H p ∧ 0 < m ∧ m < 1000 ∧ ∀ (d : Int) (H' : Hp), Ext p H H' → 0 ≤ d → d < m → Q (.int d) H'
section
variable {w : World} {P : Program}
variable {base : Heap} {mg : Str → Option Value} {K : PySem.W.Frag}
theorem scCell : FnScope ["_law_cells", "_law_k", "_law_mixed", "_law_cell_here"] ["_law_cells", "_law_k"] (defScope sCell) := ⟨rfl, rfl, rfl, by decide +kernel, rfl, by decide +kernel, by decide +kernel⟩
theorem ok_cell {f : Addr} {fd : FuncData} (F : Fun K "_law_cell" "_law_cell" sCell f fd) (T : Free mg) : FnOk P w K mg base CX0 1 f fd ["_law_cells", "_law_k"] (spCell K) := by
  refine F.ok scCell (fun vs H Q E h => ?_) (fun cdv A outer s H vs Q E hr h => ?_)
  · obtain ⟨a, ns, k, rfl, _⟩ := h
    rfl
  · obtain ⟨a, ns, k, rfl, hS, q⟩ := h
    refine ⟨_, pss_cons (ps_if (pt_cmpR op_lt (pv 1) (pe_callB call_len_seq (by rfl) T.len PySem.boot_len (pa_cons (pv 0) pa_nil)) (nomark _)) (pss_one (ps_ret (pe_ix ix_list (pv 0) (pv 1) (fun _ _ => rfl)))) pss_nil)
      (pss_cons (ps_set (i := 2) scCell.nd rfl (.inl rfl) (pe_op op_add pe_int (pe_op op_mul pe_int (pv 1))))
      (pss_cons (ps_for PassesOwn.never rfl (pi_list (pv 0)) (pg_name (i := 3) scCell.nd rfl (.inl rfl))
        (pss_one (ps_set (i := 2) scCell.nd rfl (.inl rfl) (pe_op op_mod (pe_callTy call_int1 (by rfl) T.int (by decide +kernel) (pa_cons (pe_op op_add (pe_op op_mul (pv 2) pe_int) (pe_callB call_abs (by rfl) T.abs (by decide +kernel) (pa_cons (pv 3) pa_nil))) pa_nil)) pe_int))))
      (pss_one (ps_ret (pe_op op_add (pe_op op_mul (pv 2) pe_int) (pv 1)))))), ?_⟩
    refine ⟨_, rfl, _, rfl, a, _, rfl, .inl hS, _, _, rfl, rfl, _, rfl, ?_⟩
    by_cases hk : (k : Int) < ((ns.map V.int).length : Nat)
    · rw [decide_eq_true hk]
      refine iteT ⟨_, rfl, _, rfl, a, _, _, V.int (ns.getD k 0), rfl, rfl, hS, ?_, q _⟩
      have hk2 : k < ns.length := by
        rw [List.length_map] at hk
        omega
      exact atI_nat (by rw [List.getElem?_map, List.getElem?_eq_getElem hk2, List.getD_eq_getElem?_getD, List.getElem?_eq_getElem hk2]; rfl)
    · rw [decide_eq_false hk]
      refine iteF ?_
      refine ⟨_, rfl, _, _, rfl, rfl, .inl (by decide), _, _, rfl, rfl, ?_⟩
      refine ⟨_, rfl, a, rfl, ⟨_, hS⟩, ?_⟩
      refine for_list (xs := ns.map V.int) (K := K) (a := a) (fun i σ H' => H' = H ∧ ∃ (z : Int) (o : Option V), σ = [some (.ref a), some (.int k), some (.int z), o]) ?_ ?_ ?_ ?_
      · exact ⟨rfl, _, none, rfl⟩
      · rintro i σ H' hi ⟨rfl, _⟩
        exact hS
      · rintro i x σ H' hx ⟨rfl, z, o, rfl⟩
        rw [List.getElem?_map] at hx
        obtain ⟨n, _, rfl⟩ := Option.map_eq_some_iff.mp hx
        refine ⟨_, rfl, _, _, rfl, rfl, .inr (by decide), ?_⟩
        refine ⟨_, rfl, n, rfl, _, _, rfl, rfl, ?_⟩
        refine .inl ⟨_, rfl, _, _, rfl, rfl, (by show (0 : Int) < 2147483629; decide), ?_⟩
        exact ⟨rfl, _, _, rfl⟩
      · rintro σ H' ⟨rfl, z, o, rfl⟩
        refine ⟨_, rfl, _, _, rfl, rfl, .inr (by decide), _, rfl, _, _, rfl, rfl, q _⟩
theorem scPool : FnScope ["_law_cell_here"] ["_law_cell_here"] (defScope sPool) := ⟨rfl, rfl, rfl, by decide +kernel, rfl, by decide +kernel, by decide +kernel⟩
theorem ok_pool {f : Addr} {fd : FuncData} (F : Fun K "_law_pool" "_law_pool" sPool f fd) (T : Free mg) : FnOk P w K mg base CX0 1 f fd ["_law_cell_here"] spPool := by
  refine F.ok scPool (fun vs H Q E h => ?_) (fun cdv A outer s H vs Q E hr h => ?_)
  · obtain ⟨z, rfl, _⟩ := h
    rfl
  · obtain ⟨z, rfl, q⟩ := h
    refine ⟨_, pss_one (ps_ret (pe_lst (pa_cons (pe_op op_mod (pe_callTy call_int1 (by rfl) T.int (by decide +kernel) (pa_cons (pv 0) pa_nil)) pe_int)
      (pa_cons (pe_ifExp (PW.pt (pw_or (pt_cmpR op_lt (pv 0) pe_int (nomark _)) (pw_or1 (pt_cmpR op_ge (pv 0) (pe_op op_pow pe_int pe_int) (nomark _))))) (pe_callB call_abs (by rfl) T.abs (by decide +kernel) (pa_cons (pv 0) pa_nil)) pe_int)
      (pa_cons pe_int pa_nil))))), ?_⟩
    refine ⟨_, rfl, .inl ⟨_, rfl, _, _, rfl, rfl, (by show (0 : Int) < 2147483629; decide), ?_⟩⟩
    have fin : ∀ b : Int, ([V.int (z % 2147483629), V.int b, V.int 0] : List V).length ≤ sizeLine ∧ ∀ p, H p = none → Q (.ref p) (upd H p (.lst [V.int (z % 2147483629), V.int b, V.int 0])) := fun b => ⟨by show 3 ≤ sizeLine; decide, fun p hp => q p hp _ _ _⟩
    refine ⟨_, rfl, _, _, rfl, rfl, _, rfl, ?_⟩
    refine ite2 (fun _ => ?_) (fun _ => ?_)
    · refine iteT ⟨_, rfl, _, rfl, fin _⟩
    · refine ⟨_, rfl, _, _, rfl, rfl, ⟨by decide, by decide, by decide⟩, _, _, rfl, rfl, _, rfl, ?_⟩
      refine ite2 (fun _ => ?_) (fun _ => ?_)
      · exact ⟨_, rfl, _, rfl, fin _⟩
      · exact fin 0
theorem scDraw : FnScope ["_law_pool_here", "_law_many", "_law_mixed", "_law_digit"] ["_law_pool_here", "_law_many"] (defScope sDraw) := ⟨rfl, rfl, rfl, by decide +kernel, rfl, by decide +kernel, by decide +kernel⟩
theorem at3 {a b c : V} {j : Nat} {v : V} (h : [a, b, c][j]? = some v) : atI [a, b, c] (j : Int) = some v := atI_nat h
theorem ok_draw {f : Addr} {fd : FuncData} (F : Fun K "_law_draw" "_law_draw" sDraw f fd) (T : Free mg) : FnOk P w K mg base CX0 1 f fd ["_law_pool_here", "_law_many"] spDraw := by
  refine F.ok scDraw (fun vs H Q E h => ?_) (fun cdv A outer s H vs Q E hr h => ?_)
  · obtain ⟨p, m, rfl, _⟩ := h
    rfl
  · obtain ⟨p, m, rfl, ⟨a, b, c, hp⟩, hm, hm2, q⟩ := h
    refine ⟨_, pss_cons (ps_asg (pe_op op_add (pe_ix ix_list (pv 0) pe_int (fun _ _ => rfl)) pe_int) (pg_sub (pv 0) pe_int set_list))
      (pss_cons (ps_set (i := 2) scDraw.nd rfl (.inl rfl) (pe_op op_mod (pe_callTy call_int1 (by rfl) T.int (by decide +kernel) (pa_cons (pe_op op_add (pe_op op_mul (pe_ix ix_list (pv 0) pe_int (fun _ _ => rfl)) pe_int) (pe_op op_mul (pe_ix ix_list (pv 0) pe_int (fun _ _ => rfl)) pe_int)) pa_nil)) pe_int))
      (pss_cons (ps_asg (pe_op op_mod (pe_callTy call_int1 (by rfl) T.int (by decide +kernel) (pa_cons (pe_op op_add (pe_op op_mul (pv 2) (pe_op op_add (pe_op op_fdiv (pv 2) pe_int) pe_int)) pe_int) pa_nil)) pe_int) (pg_sub (pv 0) pe_int set_list))
      (pss_cons (ps_if (pt_cmpR op_gt (pe_ix ix_list (pv 0) pe_int (fun _ _ => rfl)) pe_int (nomark _))
          (pss_cons (ps_set (i := 3) scDraw.nd rfl (.inl rfl) (pe_op op_modN (pe_callTy call_int1 (by rfl) T.int (by decide +kernel) (pa_cons (pe_ix ix_list (pv 0) pe_int (fun _ _ => rfl)) pa_nil)) (pv 1)))
          (pss_cons (ps_asg (pe_op op_fdivN (pe_callTy call_int1 (by rfl) T.int (by decide +kernel) (pa_cons (pe_ix ix_list (pv 0) pe_int (fun _ _ => rfl)) pa_nil)) (pv 1)) (pg_sub (pv 0) pe_int set_list))
          (pss_one (ps_ret (pv 3))))) pss_nil)
      (pss_one (ps_ret (pe_op op_modN (pe_callTy call_int1 (by rfl) T.int (by decide +kernel) (pa_cons (pe_op op_fdiv (pe_ix ix_list (pv 0) pe_int (fun _ _ => rfl)) pe_int) pa_nil)) (pv 1))))))), ?_⟩
    -- pool[2] = pool[2] + 1
    refine ⟨_, rfl, p, _, _, _, rfl, rfl, SqL.of hp, at3 (j := 2) rfl, _, _, rfl, rfl, _, rfl, p, _, _, 2, rfl, rfl, hp, rfl, ?_⟩
    generalize e1 : upd H p _ = H1
    have h1 : H1 p = some (.lst [.int a, .int b, .int (c + 1)]) := by rw [← e1]; exact upd_same
    have x1 : Ext p H H1 := by rw [← e1]; exact Ext.of a b (c + 1)
    clear e1
    -- mixed
    refine ⟨_, rfl, p, _, _, _, rfl, rfl, SqL.of h1, at3 (j := 0) rfl, _, _, rfl, rfl, .inr (by decide), ?_⟩
    refine ⟨_, rfl, p, _, _, _, rfl, rfl, SqL.of h1, at3 (j := 2) rfl, _, _, rfl, rfl, .inr (by decide), ?_⟩
    refine ⟨_, _, rfl, rfl, .inl ⟨_, rfl, _, _, rfl, rfl, (by show (0 : Int) < 2147483629; decide), ?_⟩⟩
    have hx : ∃ x : Int, x = (a * 48271 + (c + 1) * 69997) % 2147483629 ∧ 0 ≤ x ∧ x < 2147483629 := ⟨_, rfl, by omega, by omega⟩
    obtain ⟨x, ex, x0, xl⟩ := hx
    show tSeq _ _ _ (List.set _ _ (some (V.int ((a * 48271 + (c + 1) * 69997) % 2147483629)))) H1
    rw [← ex]
    -- pool[0]
    refine ⟨_, rfl, _, rfl, _, _, rfl, rfl, ⟨by decide, by decide⟩, _, _, rfl, rfl, _, _, rfl, rfl, .inl ⟨by omega, by omega⟩, _, _, rfl, rfl, .inl ⟨_, rfl, _, _, rfl, rfl, (by show (0 : Int) < 2147483629; decide), ?_⟩⟩
    refine ⟨_, rfl, p, _, _, 0, rfl, rfl, h1, rfl, ?_⟩
    generalize e2 : upd H1 p _ = H2
    obtain ⟨a2, h2, x2⟩ : ∃ a2 : Int, H2 p = some (.lst [.int a2, .int b, .int (c + 1)]) ∧ Ext p H H2 := ⟨(x * (x / 7 + 30011) + 12345) % 2147483629, by rw [← e2]; exact upd_same, x1.trans (by rw [← e2]; exact Ext.of _ b (c + 1))⟩
    clear e2
    -- the digits
    refine ⟨_, rfl, p, _, _, _, rfl, rfl, SqL.of h2, at3 (j := 1) rfl, _, _, rfl, rfl, _, rfl, ?_⟩
    have md : ∀ y : Int, 0 ≤ y.fmod m ∧ y.fmod m < m := fun y => ⟨Int.fmod_nonneg_of_pos _ hm, Int.fmod_lt_of_pos _ hm⟩
    refine ite2 (fun _ => ?_) (fun _ => ?_)
    · refine ⟨_, rfl, p, _, _, _, rfl, rfl, SqL.of h2, at3 (j := 1) rfl, .inl ⟨_, rfl, _, rfl, _, _, rfl, rfl, (by omega), ?_⟩⟩
      refine ⟨_, rfl, p, _, _, _, rfl, rfl, SqL.of h2, at3 (j := 1) rfl, .inl ⟨_, rfl, _, rfl, _, _, rfl, rfl, ⟨by omega, by omega⟩, ?_⟩⟩
      refine ⟨_, rfl, p, _, _, 1, rfl, rfl, h2, rfl, _, rfl, ?_⟩
      exact q _ _ (x2.trans (Ext.of a2 _ (c + 1))) (md _).1 (md _).2
    · refine ⟨_, rfl, p, _, _, _, rfl, rfl, SqL.of h2, at3 (j := 0) rfl, _, _, rfl, rfl, ⟨by decide, by decide⟩, .inl ⟨_, rfl, _, rfl, _, _, rfl, rfl, (by omega), ?_⟩⟩
      exact q _ _ x2 (md _).1 (md _).2
end
end K1
namespace K1
open PySem PySem.Spec PyProof.Rows L2 TL
/-! ### tags: texts of one to three lower-case letters -/
def Low (z : Str) : Prop := ∀ c ∈ tl z, 97 ≤ c ∧ c ≤ 122
structure Tag (z : Str) : Prop where
  lo : 1 ≤ (tl z).length
  hi : (tl z).length ≤ 3
  low : Low z
/-- a sign's text -/
abbrev sg (c : Nat) : Str := ⟨#[c]⟩
theorem len_tl (z : Str) : z.length = (tl z).length := by simp [Str.length]
theorem joinL_sg : ∀ cs : List Nat, joinL [] (cs.map fun c => [c]) = cs
  | [] => rfl
  | [c] => rfl
  | c :: d :: r => by
    show [c] ++ ([] ++ joinL [] ((d :: r).map fun c => [c])) = c :: d :: r
    rw [joinL_sg (d :: r)]
    rfl
theorem join_sg (cs : List Nat) : tl (Txt.join (Str.ofString "") (cs.map sg)) = cs := by
  rw [join_eq, tl_join, List.map_map]
  have e : tl (Str.ofString "") = [] := by decide +kernel
  rw [e]
  exact joinL_sg cs
abbrev letters : Str := Str.ofString "abcdefghijklmnopqrstuvwxyz"
theorem letters_len : letters.length = 26 := by decide +kernel
theorem letters_cps : letters.cps = (((List.range 26).map fun i => 97 + i).toArray) := by decide +kernel
theorem letters_at {i : Nat} (h : i < 26) : letters.cps[i]? = some (97 + i) := by
  rw [letters_cps]
  simp [h]
theorem sum_sg : ∀ cs : List Nat, ((cs.map sg).map (·.length)).sum = cs.length
  | [] => rfl
  | c :: r => by
    have ih := sum_sg r
    rw [List.map_cons, List.map_cons, List.sum_cons, ih, List.length_cons]
    show 1 + r.length
        = r.length + 1
    omega
theorem nodup_at {zs : List Str} {t : Nat} {b : Int} (hl : zs.length ≤ 26) (h : ∀ (k : Nat) (z : Str), zs[k]? = some z → (tl z)[t]? = some (97 + ((b + (0 + (k : Int))) % 26).toNat)) : zs.Nodup := by
  refine List.pairwise_iff_getElem.mpr fun i j hi hj hij e => ?_
  have a := h i _ (List.getElem?_eq_getElem hi)
  have b := h j _ (List.getElem?_eq_getElem hj)
  rw [e] at a
  have c := Option.some.inj (a.symm.trans b)
  omega
def spNames : Sp := fun vs H Q _ => ∃ (p : Addr) (m : Nat), vs = [.ref p, .int m] ∧ PoolAt H p ∧ m ≤ 26 ∧ ∀ (q : Addr) (zs : List Str) (H' : Hp), Ext p H H' → H q = none → H' q = some (.lst (zs.map V.str)) → zs.length = m → (∀ z ∈ zs, Tag z) → zs.Nodup → Q (.ref q) H'
section
variable {w : World} {P : Program}
variable {base : Heap} {mg : Str → Option Value} {K : PySem.W.Frag}
abbrev nmNames : List Str := ["_law_pool_here", "_law_many", "_law_letters", "_law_found", "_law_k", "_law_stem", "_law_at", "_law_base", "_law_own"]
theorem scNames : FnScope nmNames ["_law_pool_here", "_law_many"] (defScope sNames) := ⟨rfl, rfl, rfl, by decide +kernel, rfl, by decide +kernel, by decide +kernel⟩
theorem ok_names {f fD : Addr} {fd fdD : FuncData} (F : Fun K "_law_names" "_law_names" sNames f fd) (T : Free mg) (FD : Fun K "_law_draw" "_law_draw" sDraw fD fdD) (mgD : mg "_law_draw" = some (.ref fD)) :
    FnOk P w K mg base CX0 2 f fd ["_law_pool_here", "_law_many"] spNames := by
  have GD : FnOk P w K mg base CX0 1 fD fdD ["_law_pool_here", "_law_many"] spDraw := ok_draw FD T
  have bD : Binds K fdD ["_law_pool_here", "_law_many"] [] := FD.binds (ps := ["_law_pool_here", "_law_many"]) fun _ _ _ _ _ _ us hl => match us, hl with | [_, _], _ => rfl
  refine F.ok scNames (fun vs H Q E h => ?_) (fun cdv A outer s H vs Q E hr h => ?_)
  · obtain ⟨p, m, rfl, _⟩ := h
    rfl
  · obtain ⟨p, m, rfl, hp, hm, q⟩ := h
    refine ⟨_, pss_cons (ps_asg (pe_tup (pa_cons pe_str (pa_cons (pe_lst pa_nil) pa_nil))) (pg_tup rfl (pgs_cons (pg_name (i := 2) scNames.nd rfl (.inr rfl)) (pgs_cons (pg_name (i := 3) scNames.nd rfl (.inl rfl)) pgs_nil))))
      (pss_cons (ps_setLc (i := 5) (own := [("_law_k", 4)]) (g := gName 4) rfl scNames.nd rfl rfl (sw_true rfl rfl rfl (by decide +kernel))
          (pi_range1 rfl T.range (pa_cons (pe_op op_add pe_int (pe_call GD hr rfl mgD FD.kp bD .nil pass0 (pa_cons (pv 0) (pa_cons pe_int pa_nil)))) pa_nil))
          (blkOk_by (own := [("_law_k", 4)]) (N := nmNames) (sc := defScope sNames) (by decide +kernel)) (fun _ _ _ _ _ => pg_name (i := 4) scNames.nd rfl (Or.inl rfl)) (fun _ _ _ _ _ => pts_nil)
          (fun _ _ _ _ _ => pe_item_str (pv 2) (pe_call GD hr rfl mgD FD.kp bD .nil pass0 (pa_cons (pv 0) (pa_cons pe_int pa_nil))) (fun _ _ => rfl)))
      (pss_cons (ps_par (i := 6) (j := 7) rfl scNames.nd rfl rfl (by decide) rfl rfl (pa_cons (pe_call GD hr rfl mgD FD.kp bD .nil pass0 (pa_cons (pv 0) (pa_cons (pe_callB call_len_seq (by rfl) T.len PySem.boot_len (pa_cons (pv 5) pa_nil)) pa_nil))) (pa_cons (pe_call GD hr rfl mgD FD.kp bD .nil pass0 (pa_cons (pv 0) (pa_cons pe_int pa_nil))) pa_nil)) (by rfl))
      (pss_cons (ps_for PassesOwn.never rfl (pi_range1 rfl T.range (pa_cons (pv 1) pa_nil)) (pg_name (i := 4) scNames.nd rfl (.inl rfl))
          (pss_cons (ps_set (i := 8) scNames.nd rfl (.inl rfl) (pe_callTy call_list_of (by rfl) T.list (by decide +kernel) (pa_cons (pv 5) pa_nil)))
          (pss_cons (ps_asg (pe_item_str (pv 2) (pe_op op_mod (pe_callTy call_int1 (by rfl) T.int (by decide +kernel) (pa_cons (pe_op op_add (pv 7) (pv 4)) pa_nil)) pe_int) (fun _ _ => rfl)) (pg_sub (pv 8) (pv 6) set_list))
          (pss_one (ps_expr (pe_bm PySem.F.plainAttrs_list PySem.F.slot_list_append PySem.F.type_list_append mt_append (pv 3) (pa_cons (pe_join pe_str (pv 8)) pa_nil)))))))
      (pss_one (ps_ret (pv 3)))))), ?_⟩
    -- letters, found
    refine ⟨(by show 0 ≤ sizeLine; decide), fun F nF => ⟨(by show 2 ≤ sizeLine; decide), fun t nt => ?_⟩⟩
    refine ⟨t, _, rfl, SqT.of upd_same, rfl, ?_⟩
    have nFp : F ≠ p := hp.ne nF
    have ntF : t ≠ F := fun e => by
      rw [e, upd_same] at nt
      cases nt
    have s1 : Same H (upd H F (.lst [])) := same_upd nF
    have s2 : Same (upd H F (.lst [])) (upd (upd H F (.lst [])) t (.tup [.str letters, .ref F])) := same_upd nt
    have hF : (upd (upd H F (.lst [])) t (.tup [.str letters, .ref F])) F = some (.lst []) := by rw [upd_ne (Ne.symm ntF), upd_same]
    have x1 : Ext p H (upd (upd H F (.lst [])) t (.tup [.str letters, .ref F])) := ((Ext.refl hp).same s1).same s2
    generalize (upd (upd H F (.lst [])) t (.tup [.str letters, .ref F])) = H1 at hF x1 ⊢
    -- stem
    refine ⟨_, _, rfl, _, _, rfl, rfl, ?_⟩
    refine ⟨_, rfl, p, 3, rfl, x1.pool, by decide, by decide, fun d H2 x2 d0 d1 => ?_⟩
    refine ⟨_, _, rfl, rfl, _, rfl, by omega, by omega, fun S nS => ?_⟩
    have hF2 : H2 F = some (.lst []) := x2.at nFp hF
    have nSF : S ≠ F := fun e => by
      rw [e, hF2] at nS
      cases nS
    have nSp : S ≠ p := x2.pool.ne nS
    have xx : Ext p H H2 := x1.trans x2
    refine lc_range (lo := 0) (n := (1 + d).toNat) (fun i H' => Ext p H2 H' ∧ ∃ cs : List Nat, H' S = some (.lst ((cs.map sg).map V.str)) ∧ cs.length = i ∧ ∀ c ∈ cs, 97 ≤ c ∧ c ≤ 122) ?_ ?_ ?_
    · exact ⟨(Ext.refl x2.pool).same (same_upd nS), [], upd_same, rfl, fun c z => by cases z⟩
    · rintro i H' hi ⟨xe, cs, hS, hl, hc⟩
      refine ⟨rfl, ?_⟩
      refine ⟨_, rfl, _, rfl, p, 26, rfl, xe.pool, by decide, by decide, fun e H3 x3 e0 e1 => ?_⟩
      refine ⟨letters, e, 97 + e.toNat, rfl, rfl, e0, by omega, ?_, letters_at (by omega), (cs.map sg).map V.str, x3.at nSp hS, ?_, ?_⟩
      · rw [letters_len]
        exact e1
      · rw [List.length_map, List.length_map, hl]
        exact small1000 (by omega)
      · have hS3 : (H3 S) = some (.lst ((cs.map sg).map V.str)) := x3.at nSp hS
        refine ⟨⟨?_, fun b o n z => ?_⟩, cs ++ [97 + e.toNat], ?_, ?_, ?_⟩
        · obtain ⟨a, b, c, z⟩ := x3.pool
          exact ⟨a, b, c, by rw [upd_ne (Ne.symm nSp)]; exact z⟩
        · have nb : b ≠ S := ne_of_none z nS
          rw [upd_ne nb]
          exact x3.keep b o n (xe.keep b o n z)
        · rw [upd_same, List.map_append, List.map_append]
          rfl
        · rw [List.length_append, hl]
          rfl
        · intro c hc2
          rcases List.mem_append.mp hc2 with z | z
          · exact hc c z
          · have z2 : c = 97 + e.toNat := List.mem_singleton.mp z
            omega
    · rintro H3 ⟨xe, cs, hS, hl, hc⟩
      have hF3 : H3 F = some (.lst []) := xe.at nFp hF2
      -- at, base
      have hS2 : SqL K H3 S ((cs.map sg).map V.str) := SqL.of hS
      have hlS : (((cs.map sg).map V.str).length : Nat) = (1 + d).toNat := by rw [List.length_map, List.length_map, hl]
      refine ⟨_, rfl, _, rfl, S, _, rfl, .inl hS2, p, _, rfl, xe.pool, by omega, by omega, fun t1 H4 x4 t0 t2 => ?_⟩
      refine ⟨_, rfl, p, 26, rfl, x4.pool, by decide, by decide, fun b1 H5 x5 b0 b2 => ?_⟩
      refine ⟨_, _, rfl, ?_⟩
      have x45 : Ext p H3 H5 := x4.trans x5
      have xa : Ext p H H5 := xx.trans (xe.trans x45)
      -- the loop
      refine ⟨_, rfl, m, rfl, by omega, by omega, ?_⟩
      refine for_range (lo := 0) (n := ((m : Nat) : Int).toNat) (fun i σ H' => Ext p H H' ∧ H' S = some (.lst ((cs.map sg).map V.str)) ∧ (∃ zs : List Str, H' F = some (.lst (zs.map V.str)) ∧ zs.length = i ∧ (∀ z ∈ zs, Tag z) ∧ ∀ (k : Nat) (z : Str), zs[k]? = some z → (tl z)[t1.toNat]? = some (97 + ((b1 + (0 + (k : Int))) % 26).toNat)) ∧
        ∃ o1 o2 : Option V, σ = [some (.ref p), some (.int m), some (.str letters), some (.ref F), o1, some (.ref S), some (.int t1), some (.int b1), o2]) ?_ ?_ ?_
      · exact ⟨xa, x45.at nSp hS, ⟨[], x45.at nFp hF3, rfl, fun z hz => (by cases hz), fun k z hk => by cases hk⟩, none, none, rfl⟩
      · rintro i σ H' hi ⟨xf, hS', ⟨zs, hF', hz, ht, hk⟩, o1, o2, rfl⟩
        -- own = list(stem)
        refine ⟨_, rfl, S, _, rfl, .inl (SqL.of hS'), fun W nW => ?_⟩
        have nWp : W ≠ p := xf.pool.ne nW
        have nWF : W ≠ F := fun e => by
          rw [e, hF'] at nW
          cases nW
        refine ⟨_, rfl, _, rfl, _, rfl, _, _, rfl, rfl, .inl ⟨_, rfl, _, _, rfl, rfl, (by show (0 : Int) < 26; decide), ?_⟩⟩
        have r0 : 0 ≤ (b1 + (0 + (i : Int))) % 26 := by omega
        have r1 : (b1 + (0 + (i : Int))) % 26 < 26 := by omega
        refine ⟨letters, _, 97 + ((b1 + (0 + (i : Int))) % 26).toNat, rfl, rfl, r0, by omega, ?_, letters_at (by omega), ?_⟩
        · rw [letters_len]
          exact r1
        have ht1 : t1.toNat < cs.length := by
          rw [hl]
          omega
        refine ⟨_, rfl, _, rfl, W, _, _, t1.toNat, rfl, rfl, upd_same, ?_, ?_⟩
        · rw [List.length_map, List.length_map]
          unfold ixN
          rw [if_pos t0, if_pos (by omega)]
        have eset : ((cs.map sg).map V.str).set t1.toNat (V.str (sg (97 + ((b1 + (0 + (i : Int))) % 26).toNat))) = ((cs.set t1.toNat (97 + ((b1 + (0 + (i : Int))) % 26).toNat)).map sg).map V.str := by
          rw [List.map_set, List.map_set]
        have hcs : ∀ c ∈ cs.set t1.toNat (97 + ((b1 + (0 + (i : Int))) % 26).toNat), 97 ≤ c ∧ c ≤ 122 := fun c z => by
          rcases List.mem_or_eq_of_mem_set z with z | z
          · exact hc c z
          · omega
        have hln : (cs.set t1.toNat (97 + ((b1 + (0 + (i : Int))) % 26).toNat)).length = cs.length := List.length_set
        have hat : (cs.set t1.toNat (97 + ((b1 + (0 + (i : Int))) % 26).toNat))[t1.toNat]? = some (97 + ((b1 + (0 + (i : Int))) % 26).toNat) := List.getElem?_set_self ht1
        generalize cs.set t1.toNat (97 + ((b1 + (0 + (i : Int))) % 26).toNat) = cs2 at eset hcs hln hat
        generalize eW : upd (upd H' W _) W _ = H6
        have hW : H6 W = some (.lst ((cs2.map sg).map V.str)) := by
          rw [← eW, ← eset]
          exact upd_same
        have sm : Same H' H6 := fun b o z => by
          have nb : b ≠ W := ne_of_none z nW
          rw [← eW, upd_ne nb, upd_ne nb]
          exact z
        clear eW
        refine ⟨_, rfl, .inl ⟨rfl, _, SqL.of (sm _ _ hF')⟩, ⟨_, rfl⟩, _, rfl, _, W, cs2.map sg, rfl, rfl, .inl (SqL.of hW), ?_, ?_⟩
        · have e0 := sum_sg cs2
          have e2 : (Str.ofString "").length = 0 := by decide +kernel
          rw [e0, e2]
          omega
        refine ⟨F, _, _, rfl, rfl, sm _ _ hF', ?_, ?_⟩
        · rw [List.length_map, hz]
          exact small1000 (by omega)
        refine ⟨⟨?_, fun b o n z => ?_⟩, ?_, ⟨zs ++ [Txt.join (Str.ofString "") (cs2.map sg)], ?_, ?_, ?_, ?_⟩, _, _, rfl⟩
        · obtain ⟨a, b, c, z⟩ := xf.pool
          exact ⟨a, b, c, by rw [upd_ne (Ne.symm nFp)]; exact sm _ _ z⟩
        · rw [upd_ne (ne_of_none z nF)]
          exact sm _ _ (xf.keep b o n z)
        · rw [upd_ne nSF]
          exact sm _ _ hS'
        · rw [upd_same, List.map_append]
          rfl
        · rw [List.length_append, hz]
          rfl
        · intro z hz2
          rcases List.mem_append.mp hz2 with y | y
          · exact ht z y
          · have y2 : z = Txt.join (Str.ofString "") (cs2.map sg) := List.mem_singleton.mp y
            subst y2
            have ej := join_sg cs2
            refine ⟨?_, ?_, fun c hc2 => ?_⟩
            · rw [ej]
              omega
            · rw [ej]
              omega
            · rw [ej] at hc2
              exact hcs c hc2
        · intro k z hz2
          by_cases hlt : k < zs.length
          · rw [List.getElem?_append_left hlt] at hz2
            exact hk k z hz2
          · rw [List.getElem?_append_right (by omega)] at hz2
            have e3 : k - zs.length = 0 := by
              have := (List.getElem?_eq_some_iff.mp hz2).1
              simp at this
              omega
            rw [e3] at hz2
            cases hz2
            have e4 : k = i := by omega
            subst e4
            rw [join_sg cs2]
            exact hat
      · rintro σ H' ⟨xf, hS', ⟨zs, hF', hz, ht, hk⟩, o1, o2, rfl⟩
        exact ⟨_, rfl, q F zs H' xf nF hF' (by omega) ht (nodup_at (by omega) hk)⟩
end
end K1
/-! enumerate over a tuple -/
namespace EnT
open PySem PySem.Spec
open PyProof.Rows L2
open Builtin
set_option maxHeartbeats
    4000000 in
theorem meets_enumerate_newB1 {v : Value} {o : Obj} {H : Heap → Prop} (B : Begins v o H) :
    Meets (Builtin.«enumerate.__new__» ⟨[.type "enumerate", v], []⟩) (fun _ R s => H s.heap ∧
      R (.ok (.ret (.ref (s.heap.push o).objs.size))) { s with heap := (s.heap.push o).push { cls := .type "enumerate", data := .fields #[.none, .bool false, .ref s.heap.objs.size, rawInt 0, .none, .none] } }) :=
  .of_wp fun prog w A R s hyp => by
    obtain ⟨hp, g, d, tk, os⟩ := s; obtain ⟨h1, hyp⟩ := hyp
    have hsub := sub_enumerate
    have q1 : ∀ {A' : Around} {E : Value → Shared → Prop} {Q : Value → Shared → Prop}, Q (.ref
        hp.objs.size) ⟨hp.push o, g, d, tk, os⟩ → wpAny (model prog w) A' (pyIter v) Q E ⟨hp, g, d, tk, os⟩ :=
      fun q => B.iter prog w _
          _ ⟨hp, g, d, tk, os⟩ _ h1 q
    wp_walk using q1
    refine wpAny_stack_any fun stA => wpAny_pure ?_
    split
    · rename_i c _ _ _ _ _
      cases (c == Value.type
          "enumerate")
      · wp_walk using q1
        exact ⟨_, rfl, hyp⟩
      · wp_walk using q1
        exact ⟨_, rfl, hyp⟩
    · wp_walk using q1
      exact ⟨_, rfl, hyp⟩
section
variable {prog : Program} {w : World} {A
    : Around} {E : Value → Shared → Prop} {s : Shared}
theorem enum_begins1 {v : Value} {o : Obj} {H : Heap → Prop} {Q : Value → Shared → Prop} (B : Begins v o H) (h1 : H s.heap)
    (hyp : ∀ h', IsEnum h' (s.heap.objs.size + 1) s.heap.objs.size 0 .none → h'.get? s.heap.objs.size = some o → h'.objs.size = s.heap.objs.size + 2 →
      (∀ b o, s.heap.get? b = some o → h'.get? b = some
          o) → Q (.ref (s.heap.objs.size + 1)) { s with heap := h' }) :
    wpAny (model prog w) A (call (.type "enumerate") [v]) Q E s := by
  refine callType_new F.called_enumerate (by decide) (F.typeCall_enumerate_1
      _) (F.newCall_enumerate_1 _) (fun obj => F.args_object_init_2 obj _) F.entry_enumerate_new
    (meets_enumerate_newB1 B) ⟨h1, ?_⟩
  have szA : (s.heap.push o).objs.size = s.heap.objs.size + 1 := Heap.size_push ..
  show _ ∧ _
  rw [szA]
  have enA : IsEnum ((s.heap.push o).push { cls := .type "enumerate", data := .fields #[.none, .bool false, .ref s.heap.objs.size, rawInt 0, .none, .none] }) (s.heap.objs.size + 1) s.heap.objs.size 0 .none := by
    have := Heap.get?_push_size (s.heap.push o) (o := { cls := .type "enumerate", data := .fields #[.none, .bool false, .ref s.heap.objs.size, rawInt 0, .none, .none] }) rfl
    rw [szA] at this; exact this
  refine ⟨⟨_, enA, rfl⟩, hyp _ enA (Heap.get?_push_of_some _ (Heap.get?_push_size _ B.free)) (by rw [Heap.size_push, szA]) fun b o x => Heap.get?_push_of_some _ (Heap.get?_push_of_some _ x)⟩
end
/-- the tuple at a, each item in a new pair -/
def Itet (K : PySem.W.Frag) (a : Addr) : It :=
  ⟨fun i H => ∃ (xs : List V) (x : V), SqT K H a xs ∧ xs[i]? = some x, fun i H v H' => ∃ T x, v = .ref T ∧ H T = none ∧ H' = upd H T (.tup [.int (i : Nat), x]) ∧ ∀ xs, SqT K H a xs → xs[i]? = some x, fun i H => ∃ xs : List V, SqT K H a xs ∧ xs.length ≤ i⟩
theorem turn_enumT {P : Program} {w : World} {K : PySem.W.Frag} {elts : List Expr} {kk : Nat} {tpos : Pos} (a e it : Addr) (hai : a ≠ it) (hae : e ≠ a) :
    Turn P w K (.Tuple elts kk tpos) (Itet K a) [e, it] e (fun i hyp => (∃ old, IsEnum hyp e it ((i : Nat) : Int) old) ∧ hyp.IsTupleIter it a i ∧ e ≠ it) where
  mem := by simp
  obj := fun i hyp stA b memB => by
    obtain ⟨⟨old, enA⟩, ⟨o, obA, clA, dtA⟩, _⟩ := stA
    have eqB : b = e ∨ b = it := by simpa using memB
    rcases eqB with zA | zA
    · rw [zA]; exact ⟨_, enA, fun v q => nomatch q⟩
    · rw [zA]; exact ⟨o, obA, fun v q => by rw [dtA] at q; cases q⟩
  keep := fun i hyp h' stA k => let ⟨⟨old, enA⟩, hi, neA⟩ := stA; ⟨⟨old, k e (by simp) _ enA⟩, hi.at fun o q => k it (by simp) o q, neA⟩
  item := by
    intro X hP hw hK clA i pins s σ H E Iv fpA stA hg
    subst hP hw hK
    obtain ⟨⟨old, enA⟩, itA, neA⟩ := stA
    obtain ⟨xs, x, seqA, hx⟩ := hg
    obtain ⟨vsA, relA, p, szA⟩ := Iv.tuple seqA
    obtain ⟨u, getA, rlA⟩ := relA.get hx
    have ltE : e < s.heap.objs.size := Heap.lt_size enA
    have ltI : it < s.heap.objs.size := by obtain ⟨_, q, _⟩ := itA; exact Heap.lt_size q
    have hlt : i < vsA.toArray.size := by
      have := (List.getElem?_eq_some_iff.mp getA).1
      simpa using this
    refine wpAny_pyNext_enum_itemD (Draws.tuple (A := X.A.in1) (prog := X.prog) (w := X.w) (show X.A.in1.handled = none from Iv.ok.hd clA) it a hai vsA.toArray) enA ⟨itA, p⟩ hlt neA (by simp [neA, hae]) fun x' h' tk hx' obA st' tyA hsz kpA => ?_
    have ex : x' = u := by
      have : vsA[i]? = some x' := by simpa using hx'
      rw [getA] at this
      exact (Option.some.inj
          this).symm
    subst ex
    refine ⟨_, rfl, wpAny_letOwnedTupleGo_enum (s := { s with heap := h', toks := tk + 1 }) obA fun h'' he' sameB => ?_⟩
    have hT2 : h''.get? s.heap.objs.size = some { cls := .type "tuple", data := .seq #[.int i tk, x'] } := (sameB.2 _ (Nat.ne_of_gt ltE)).trans tyA
    have new : ObjOk X.prog X.w (upd H s.heap.objs.size (.tup [.int
        (i : Nat), x])) h'' s.heap.objs.size (.tup [.int (i : Nat), x]) :=
      ⟨by show 2 ≤ sizeLine; decide, [.int i tk, x'], .cons ⟨_, rfl⟩ (.cons rlA .nil), ⟨_, hT2, rfl, _, rfl⟩⟩
    have Iv1 : Inv X pins σ (upd H s.heap.objs.size (.tup [.int (i : Nat), x])) { s with heap := h'', toks := tk + 1 } :=
      Iv.turnedNew (ch := [e, it]) (fun b ob memB q => (sameB.2 b (fun zA => memB (by simp [zA]))).trans (kpA b ob (fun zA => memB (by simp [zA])) (fun zA => memB (by simp [zA])) q)) fpA (Nat.le_refl _) new
    refine ⟨.ref s.heap.objs.size, _, Iv1, rfl, ⟨_, x, rfl, Iv.hok.fresh (Nat.le_refl _), rfl, fun ys hy => by rw [Iv.tuple_inj hy seqA]; exact hx⟩, ⟨⟨x', ?_⟩, st'.1.at fun o q => (sameB.2 it (Ne.symm neA)).trans q, neA⟩, fun b memB => ?_⟩
    · have eqA : ((i + 1 : Nat) : Int) = (i : Int) + 1 := by omega
      rw [eqA]; exact he'
    · have ltB : b < s.heap.objs.size := by
        have eqB : b = e ∨ b = it := by simpa using memB
        rcases eqB with zA | zA
        · rw [zA]; exact ltE
        · rw [zA]; exact ltI
      rw [upd_ne (Nat.ne_of_lt ltB)]
      exact (fpA b memB).1
  done := by
    intro X hP hw hK clA i pins s σ H E Iv fpA stA hg
    subst hP hw hK
    obtain ⟨⟨old, enA⟩, itA, neA⟩ := stA
    obtain ⟨xs, seqA, hx⟩ := hg
    obtain ⟨vsA, relA, p, szA⟩ := Iv.tuple seqA
    obtain ⟨f0, f1, f2, f3, f4, f5⟩ := fpA it (by simp)
    have hl := relA.length
    have tyA : s.TypeIs (.ref e) "enumerate" := ⟨_, enA, rfl⟩
    unfold pyNext
    refine wpAny_bind (wpAny_attempt (wpAny_callSpecial?_slot (name := Str.ofString "__next__") tyA F.slot_enumerate_next
      (wpAny_call_entry F.slot_enumerate_next tyA F.entry_enumerate_next ?_ (F.args_enumerate_next_1 _))))
    show wpAny _ _ (field
        (.ref e) 2 >>= _) _ _ _
    refine wpAny_bind (wpAny_field enA rfl (x := .ref it) rfl ?_)
    refine wpAny_bind (wpAny_nextOf_tuple_end (A := X.A.in1) (show X.A.in1.handled = none from Iv.ok.hd clA) itA p (by simp; omega) fun h' x he' hx' => ?_)
    obtain ⟨o, obA, hcl⟩ := hx'
    refine wpAny_bind (wpAny_isInstance (T := "StopIteration") (b := true) ⟨o, obA, hcl⟩ isSubtype_stop ?_)
    exact wpAny_pure ⟨rfl, Iv.turned (t' := s.toks) (fun b o memB q => he' b o memB q) f0 f1 f3 f4 f5⟩
  self := fun A i s Q E stA hyp => let ⟨⟨_, enA⟩, _⟩ := stA; wpAny_pyIter_enum enA hyp
def iEnumT (K : PySem.W.Frag) (ta : TA) : TI := fun σ H R => ta σ H fun vs H1 => ∃ a xs, vs = [.ref a] ∧ SqT K H1 a xs ∧ R (Itet K a) H1
theorem pi_enumT {X : Cx} {e : Expr} {ta : TA} {p pos tpos : Pos} {elts : List Expr} {kk : Nat} (hg : Gl X "enumerate") (hm : X.mg "enumerate" = none) (ha : PA X [e] ta) (hs : starEach [e] X.env = [(false, eval e X.env)] := by rfl) :
    PI X (.Tuple elts kk tpos) (.Call (.Name "enumerate" p) [e] [] pos) (iEnumT X.K ta) := by
  refine ⟨fun pins s σ H R Iv hyp => ?_⟩
  refine Call_ (ld_blt Iv hg hm boot_enumerate (PyProof.Rows.callWith_type1 (thn (ha.run pos pins s σ H _ Iv hyp) fun us s1 ⟨vs, H1, Iv1, r1, q1⟩ => ?_) hs rfl))
  obtain ⟨a, xs, ex, seqA, q⟩ := q1
  subst ex
  cases r1 with
  | cons r rr =>
    cases rr
    cases r
    obtain ⟨vsA, relA, p', szA⟩ := Iv1.tuple seqA
    have hal : a < s1.heap.objs.size := by
      obtain ⟨_, q, _⟩ := p'
      exact Heap.lt_size q
    refine enum_begins1 (begins_tuple a vsA.toArray) p' fun h' enA itA hsz kpA => wpAny_pyIter_enum enA ?_
    have Iv2 : Inv X pins σ H1 { s1 with heap := h' } := Iv1.kept (t' := s1.toks) kpA
    refine ⟨s1.heap.objs.size + 1, [s1.heap.objs.size + 1, s1.heap.objs.size], _, _, H1, rfl, Iv2, turn_enumT a (s1.heap.objs.size + 1) s1.heap.objs.size (Nat.ne_of_lt hal) (Nat.ne_of_gt (Nat.lt_succ_of_lt hal)), ⟨⟨.none, enA⟩, ⟨_, itA, rfl, rfl⟩, Nat.succ_ne_self _⟩, fun b memB => ?_, q⟩
    have eqB : b = s1.heap.objs.size + 1 ∨ b = s1.heap.objs.size := by simpa using memB
    have leB : s1.heap.objs.size ≤ b := by
      rcases eqB with zA | zA
      · rw [zA]; exact Nat.le_add_right _ _
      · rw [zA]; exact Nat.le_refl _
    exact Iv1.fpOk leB (Iv1.hok.fresh leB)
theorem walk_enumT {K : PySem.W.Frag} {a : Addr} {xs : List V} : Walk (Itet K a) xs.length (fun H => SqT K H a xs) (YPair (fun i => some (.int (i : Nat))) (fun i => xs[i]?)) := by
  refine ⟨fun i _ hi q => ⟨xs, xs[i], q, by simp [hi]⟩,
      fun _ q => ⟨xs, q, Nat.le_refl _⟩, fun i H v H' _ q y => ?_⟩
  obtain ⟨T, x, h1,
      h2, h3, h4⟩ := y
  exact ⟨T, .int (i : Nat),
      x, h1, h2, h3, rfl, h4 xs q⟩
end EnT
namespace K1
open PySem PySem.Spec
open PyProof.Rows L2
open TL hiding len_tl
/-! ### what a name is -/
def nameB (z : Str) : Bool := if 8 < z.length then false else if Txt.isascii z = false then false else if Txt.isalnum z = false then false else if Txt.isalpha (sg (z.cps.getD 0 0)) = false then false else decide (z = Txt.lower z)
theorem alnum_all : ((List.range 128).all fun c => !((97 ≤ c && c ≤ 122) || (48 ≤ c && c ≤ 57)) || Unicode.isAlnum c) = true := by decide +kernel
theorem alpha_all : ((List.range 128).all fun c => !(97 ≤ c && c ≤ 122) || Unicode.isAlpha c) = true := by decide +kernel
theorem lo1_all : ((List.range 128).all fun c => !((97 ≤ c && c ≤ 122) || (48 ≤ c && c ≤ 57)) || PyProof.Rows.lo1 c == c) = true := by decide +kernel
theorem small_at {p : Nat → Bool} (h : ((List.range 128).all p) = true) {c : Nat} (hc : c < 128) : p c = true := (List.all_eq_true.mp h) c (List.mem_range.mpr hc)
def NameCh (c : Nat) : Prop := (97 ≤ c ∧ c ≤ 122) ∨ (48 ≤ c ∧ c ≤ 57)
theorem name_of {z : Str} (h1 : 1 ≤ (tl z).length) (h8 : (tl z).length ≤ 8) (ha : ∀ c ∈ tl z, NameCh c) (hf : ∀ c r, tl z = c :: r → 97 ≤ c ∧ c ≤ 122) : nameB z = true := by
  have hl : z.length = (tl z).length := TL.len_tl z
  have h128 : ∀ c ∈ tl z, c < 128 := fun c hc => by
    rcases ha c hc with q | q <;> omega
  have e1 : Txt.isascii z = true := by
    show z.cps.all (· < 128) = true
    rw [← Array.all_toList]
    exact List.all_eq_true.mpr fun c hc => decide_eq_true (h128 c hc)
  have e2 : Txt.isalnum z = true := by
    show (decide (z.length > 0) && z.cps.all Unicode.isAlnum) = true
    rw [decide_eq_true (by omega), ← Array.all_toList, Bool.true_and]
    refine List.all_eq_true.mpr fun c hc => ?_
    have q := small_at alnum_all (h128 c hc)
    rcases ha c hc with y | y
    · simpa [y.1, y.2] using q
    · simpa [y.1, y.2] using q
  obtain ⟨c, r, er⟩ : ∃ c r, tl z = c :: r := by
    cases e : tl z with
    | nil =>
      rw [e] at h1
      cases h1
    | cons c r => exact ⟨c, r, rfl⟩
  have e0 : z.cps.getD 0 0 = c := by
    have q : z.cps.getD 0 0 = (tl z).getD 0 0 := by simp [Array.getD_eq_getD_getElem?]
    rw [q, er]
    rfl
  have e3 : Txt.isalpha (sg c) = true := by
    have hc := hf c r er
    have q := small_at alpha_all (h128 c (by rw [er]; exact List.mem_cons_self))
    have q2 : Unicode.isAlpha c = true := by simpa [hc.1, hc.2] using q
    show (decide ((sg c).length > 0) && (sg c).cps.all Unicode.isAlpha) = true
    have e : (sg c).cps.all Unicode.isAlpha = true := by simp [q2]
    rw [e]
    rfl
  have e4 : Txt.lower z = z := by
    rw [lower_ascii h128]
    refine ext_tl ?_
    show (z.cps.map lo1).toList = tl z
    rw [Array.toList_map]
    have q : ∀ l : List Nat, (∀ c ∈ l, NameCh c) → l.map lo1 = l := fun l => by
      induction l with
      | nil => exact fun _ => rfl
      | cons a t ih =>
        intro h
        rw [List.map_cons, ih fun c hc => h c (List.mem_cons_of_mem _ hc)]
        have hn := h a List.mem_cons_self
        have h128 : a < 128 := by rcases hn with y | y <;> omega
        have q := small_at lo1_all h128
        have q2 : lo1 a = a := by
          rcases hn with y | y
          · simpa [y.1, y.2] using q
          · simpa [y.1, y.2] using q
        rw [q2]
    exact q _ ha
  unfold nameB
  rw [if_neg (by omega), e1, if_neg (by decide), e2, if_neg (by decide), e0, e3, if_neg (by decide), e4]
  exact decide_eq_true rfl
theorem tag_name {z : Str} (h : Tag z) : nameB z = true := name_of h.lo (Nat.le_trans h.hi (by decide)) (fun c hc => .inl (h.low c hc)) fun c r e => h.low c (by rw [e]; exact List.mem_cons_self)
/-! ### is_name -/
/-! ### values that are no texts -/
inductive NoStr (H : Hp) : V → Prop where
  | non : NoStr H .non
  | bl (b : Bool) : NoStr H (.bl b)
  | int (i : Int) : NoStr H (.int i)
  | lst {a : Addr} {xs : List V} (e : H a = some (.lst xs)) : NoStr H (.ref a)
  | tup {a : Addr} {xs : List V} (e : H a = some (.tup xs)) : NoStr H (.ref a)
  | dK {a : Addr} {kvs : List (Key × V)} (e : H a = some (.dK kvs)) : NoStr H (.ref a)
theorem NoStr.same {H H' : Hp} {v : V} (s : Same H H') (h : NoStr H v) : NoStr H' v := by
  cases h with
  | non => exact .non
  | bl b => exact .bl b
  | int i => exact .int i
  | lst e => exact .lst (s _ _ e)
  | tup e => exact .tup (s _ _ e)
  | dK e => exact .dK (s _ _ e)
theorem NoStr.ty {K : PySem.W.Frag} {H : Hp} {v : V} (h : NoStr H v) : ∃ t, TyX K H v t ∧ PySem.W.kitOne K t (.type "str") = some false := by
  cases h with
  | non => exact ⟨_, .base .non, kit_ty (by decide +kernel)⟩
  | bl b => exact ⟨_, .base (.bl b), kit_ty (by decide +kernel)⟩
  | int i => exact ⟨_, .base (.int i), kit_ty (by decide +kernel)⟩
  | lst e => exact ⟨_, .base (.lst e), kit_ty (by decide +kernel)⟩
  | tup e => exact ⟨_, .base (.tup e), kit_ty (by decide +kernel)⟩
  | dK e => exact ⟨_, .base (.dK e), kit_ty (by decide +kernel)⟩
def nameV : V → Bool
  | .str z => nameB z
  | _ => false
theorem NoStr.name {H : Hp} {v : V} (h : NoStr H v) : nameV v = false := by
  cases h <;> rfl
/-- a value that is_name may be asked of -/
def VOk (H : Hp) (v : V) : Prop := (∃ z, v = .str z ∧ z.length ≤ sizeLine) ∨ NoStr H v
theorem VOk.same {H H' : Hp} {v : V} (s : Same H H') (h : VOk H v) : VOk H' v := h.elim .inl fun n => .inr (n.same s)
def spIsName : Sp := fun vs H Q _ => ∃ v, vs = [v] ∧ VOk H v ∧ Q (.bl (nameV v)) H
section
variable {w : World} {P : Program}
variable {base : Heap} {mg : Str → Option Value} {K : PySem.W.Frag}
theorem scIsName : FnScope ["value"] ["value"] (defScope sIsName) := ⟨rfl, rfl, rfl, by decide +kernel, rfl, by decide +kernel, by decide +kernel⟩
theorem ok_isname {f : Addr} {fd : FuncData} (F : Fun K "is_name" "is_name" sIsName f fd) (T : Free mg) (mgL : ∃ t, mg "LONGEST_NAME" = some (.int 8 t)) : FnOk P w K mg base CX0 1 f fd ["value"] spIsName := by
  obtain ⟨tL, mgL⟩ := mgL
  refine F.ok scIsName (fun vs H Q E h => ?_) (fun cdv A outer s H vs Q E hr h => ?_)
  · obtain ⟨v, rfl, _⟩ := h
    rfl
  · obtain ⟨v, rfl, h⟩ := h
    refine ⟨_, pss_cons (ps_if (PW.pt (pw_or (pt_not (pt_val (pe_callB call_isi (by rfl) T.isinstance (by decide +kernel) (pa_cons (pv 0) (pa_cons (pe_bltn (v := .ty "str") (u := .type "str") (by rfl) T.str (by decide +kernel) rfl) pa_nil)))))
          (pw_or1 (pt_cmpR op_gt (pe_callB call_len_str (by rfl) T.len PySem.boot_len (pa_cons (pv 0) pa_nil)) (pe_glob (v := .int 8) rfl mgL ⟨_, rfl⟩) (nomark _))))) (pss_one (ps_ret pe_bl)) pss_nil)
      (pss_cons (ps_if (PW.pt (pw_or (pt_not (pt_val (pe_m0 PySem.F.slot_str_isascii PySem.F.type_str_isascii mt_isascii (pv 0)))) (pw_or1 (pt_not (pt_val (pe_m0 PySem.F.slot_str_isalnum PySem.F.type_str_isalnum mt_isalnum (pv 0))))))) (pss_one (ps_ret pe_bl)) pss_nil)
      (pss_one (ps_ret (pe_and (pe_m0 PySem.F.slot_str_isalpha PySem.F.type_str_isalpha mt_isalpha (pe_item_str (pv 0) pe_int (fun _ _ => rfl))) (pe_one (pe_cmpR op_eq (pv 0) (pe_lower (pv 0)) (nomark _))))))), ?_⟩
    obtain ⟨hv, q⟩ := h
    rcases hv with ⟨z, rfl, hz⟩ | n
    · refine ⟨_, rfl, _, _, _, _, true, rfl, .ty _, .base (.str z), kit_ty (by decide +kernel), true, rfl, ?_⟩
      refine iteF ?_
      refine ⟨_, rfl, z, rfl, hz, _, _, rfl, rfl, _, rfl, ?_⟩
      have q : Q (.bl (nameB z)) H := q
      unfold nameB at q
      by_cases h8 : 8 < z.length
      · rw [decide_eq_true (by omega)]
        rw [if_pos h8] at q
        exact iteT q
      rw [decide_eq_false
          (by omega)]
      rw [if_neg h8] at q
      refine iteF ?_
      refine ⟨_, rfl, ⟨_, rfl⟩, _, rfl, rfl, True.intro, _, rfl, ?_⟩
      cases ea : Txt.isascii z with
      | false =>
        rw [ea, if_pos rfl] at q
        exact iteT (iteT q)
      | true =>
        rw [ea, if_neg (by decide)] at q
        refine iteF ?_
        refine ⟨_, rfl, ⟨_, rfl⟩, _, rfl, rfl, True.intro, _, rfl, ?_⟩
        cases en : Txt.isalnum z with
        | false =>
          rw [en, if_pos rfl] at q
          exact iteT q
        | true =>
          rw [en, if_neg (by decide)] at q
          refine iteF ?_
          have hpos : 0 < z.length := by
            have e : (decide (z.length > 0) && z.cps.all Unicode.isAlnum) = true := en
            simp only [Bool.and_eq_true, decide_eq_true_eq] at e
            exact e.1
          have hcp : z.cps[(0 : Int).toNat]? = some (z.cps.getD 0 0) := by
            have h0 : 0 < z.cps.size := hpos
            show z.cps[0]? = _
            rw [Array.getD_eq_getD_getElem?, Array.getElem?_eq_getElem h0]
            rfl
          refine ⟨_, rfl, z, 0, z.cps.getD 0 0, rfl, rfl, by decide, by decide, by omega, hcp, ⟨_, rfl⟩, _, rfl, rfl, True.intro, _, rfl, ?_⟩
          cases el : Txt.isalpha (sg (z.cps.getD 0 0)) with
          | false =>
            rw [el, if_pos rfl] at q
            exact iteF q
          | true =>
            rw [el, if_neg (by decide)] at q
            refine iteT ?_
            refine ⟨_, rfl, _, rfl, ⟨_, rfl⟩, _, rfl, rfl, by omega, rfl, ?_⟩
            have e : decide (V.str z = V.str (Txt.lower z)) = decide (z = Txt.lower z) := by
              by_cases h : z = Txt.lower z
              · rw [decide_eq_true h, decide_eq_true (congrArg V.str h)]
              · rw [decide_eq_false h, decide_eq_false fun y => h (V.str.inj y)]
            show Q (V.bl (decide (V.str z = V.str (Txt.lower z)))) H
            rw [e]
            exact q
    · obtain ⟨t, ty, kt⟩ := n.ty (K := K)
      rw [n.name] at q
      refine ⟨_, rfl, _, _, _, _, false, rfl, .ty _, ty, kt, false, rfl, ?_⟩
      exact iteT (iteT q)
end
end K1
/-! str(o), repr(o), len(o), bool(o), v in o, o == v, o != v by an own class's methods -/
namespace DuX
open PySem PySem.Spec
open PyProof.Rows L2
section
variable {X : Cx} {CX : CXT} {k : Nat} {g C : Addr} {sp : Sp} {Ek : XK} {pins : List (Addr × Obj)} {σ : L2.St} {H : Hp} {s : Shared}
/-- a method is run somewhere below the body that runs -/
theorem run_below {A : Around} {valsU : List Value} {vs : List V} {Q : VK} (F : FnR X.prog X.w X.K X.mg X.base CX k g sp) (hr : Room k A) (hf : A.frames = X.A.frames) (hx : Passes CX X Ek) (Iv : Inv X pins σ H s) (r : Vals vs valsU) (hyp : sp vs H Q Ek) :
    wpAny (model X.prog X.w) A (call (.ref g) valsU) (EP X pins σ Q) X.xe s := by
  have e0 : Env0 X.prog X.w X.K
      X.mg X.base A X.stack s H := by
    obtain ⟨a1, a2, a3, a4, a5, a6, a7, a8⟩ := Iv.env0
    exact ⟨by rw [hf]; exact a1, a2, a3, a4, a5, a6, a7, a8⟩
  refine wpAny_call (codeAny_mono (F A X.stack s H valsU vs Q Ek hr e0 r hyp) fun res s1 hq => ?_)
  match res, hq with
  | .error e, hq => exact hx pins σ H s e s1 Iv hq
  | .ok (.ret u), hq => exact Iv.after hq
  | .ok .next, hq => exact False.elim hq
  | .ok .brk, hq => exact False.elim hq
  | .ok .cont, hq => exact False.elim hq
/-- the class at C has the method m, at g -/
structure OwnM (K : PySem.W.Frag) (C : Addr) (m : Str) (g : Addr) : Prop where
  at_ : PySem.W.findIn K (.ref C) m = some (some (.ref g))
  fn : PySem.W.isFn
      K (.ref g) = true
theorem inst_of {a dx : Addr} {fs : List (Str × V)} (Iv : Inv X pins σ H s) (hyp : H a = some (.ins C dx fs)) : ∃ ox od, PySem.W.InstAt s.heap a ox C (some od) := by
  obtain ⟨mA, O, _⟩ := ins_get Iv.hok hyp
  obtain ⟨od, J, _⟩ := O.look
  exact ⟨_, od, J⟩
/-- str(o) -/
theorem call_strO (m : OwnM X.K C "__str__" g) (F : FnR X.prog X.w X.K X.mg X.base CX k g sp) (hr : Room (k + 2) X.A) (hx : Passes CX X Ek) :
    CallR X (.type "str") (fun xs H Q => ∃ a dx fs, xs = [.ref a] ∧ H a = some (.ins C dx fs) ∧ sp [.ref a] H (fun v H' => ∃ z, v = .str z ∧ Q (.str z) H') Ek) := by
  intro pins s σ H xs valsU Q Iv r hyp
  obtain ⟨a, dx, fs, rfl, atA, cont⟩ := hyp
  rw [Vals.ref1 r]
  obtain ⟨ox, od, J⟩ := inst_of Iv atA
  refine PySem.W.kso_call hr.in1.in1.units0 Iv.kIn J m.at_ m.fn ?_
  refine wpAny_mono (run_below F hr.in1.in1 rfl hx Iv (vs := [V.ref a]) (.cons rfl .nil) cont) (fun u s1 hu => ?_) fun _ _ e => e
  obtain ⟨v, H1, Iv1, rv, z, rfl, q1⟩ := hu
  obtain ⟨t, rfl⟩ := rv
  exact ⟨.str z, H1, Iv1, ⟨t, rfl⟩, q1⟩
/-- repr(o) -/
theorem call_reprO (m : OwnM X.K C "__repr__" g) (F : FnR X.prog X.w X.K X.mg X.base CX k g sp) (hr : Room (k + 1) X.A) (hx : Passes CX X Ek) :
    CallR X (.builtin "repr") (fun xs H Q => ∃ a dx fs, xs = [.ref a] ∧ H a = some (.ins C dx fs) ∧ sp [.ref a] H (fun v H' => ∃ z, v = .str z ∧ Q (.str z) H') Ek) := by
  intro pins s σ H xs valsU Q Iv r hyp
  obtain ⟨a, dx, fs, rfl, atA, cont⟩ := hyp
  rw [Vals.ref1 r]
  obtain ⟨ox, od, J⟩ := inst_of Iv atA
  obtain ⟨mm, hF⟩ := Iv.fr
  refine PySem.W.repr_K hr.in1.units0 hF Iv.ok.mod.kin J m.at_ m.fn ?_
  refine wpAny_mono (run_below F hr.in1 rfl hx Iv (vs := [V.ref a]) (.cons rfl .nil) cont) (fun u s1 hu => ?_) fun _ _ e => e
  obtain ⟨v, H1, Iv1, rv, z, rfl, q1⟩ := hu
  obtain ⟨t, rfl⟩ := rv
  exact ⟨.str z, H1, Iv1, ⟨t, rfl⟩, q1⟩
/-- len(o) -/
theorem call_lenO (m : OwnM X.K C "__len__" g) (F : FnR X.prog X.w X.K X.mg X.base CX k g sp) (hr : Room (k + 1) X.A) (hx : Passes CX X Ek) :
    CallR X (.builtin "len") (fun xs H Q => ∃ a dx fs, xs = [.ref a] ∧ H a = some (.ins C dx fs) ∧ sp [.ref a] H (fun v H' => ∃ n : Nat, v = .int n ∧ n < 2 ^ 62 ∧ Q (.int n) H') Ek) := by
  intro pins s σ H xs valsU Q Iv r hyp
  obtain ⟨a, dx, fs, rfl, atA, cont⟩ := hyp
  rw [Vals.ref1 r]
  obtain ⟨ox, od, J⟩ := inst_of Iv atA
  obtain ⟨mm, hF⟩ := Iv.fr
  refine PySem.W.len_K hF Iv.ok.mod.kin J m.at_ m.fn ?_
  refine wpAny_mono (run_below F hr.in1 rfl hx Iv (vs := [V.ref a]) (.cons rfl .nil) cont) (fun u s1 hu => ?_) fun _ _ e => e
  obtain ⟨v, H1, Iv1, rv, n, rfl, hn, q1⟩ := hu
  obtain ⟨t, rfl⟩ := rv
  exact ⟨⟨by omega, by omega⟩, .int n, H1, Iv1.tok _, ⟨_, rfl⟩, q1⟩
/-- v in o -/
theorem op_inO (m : OwnM X.K C "__contains__" g) (F : FnR X.prog X.w X.K X.mg X.base CX k g sp) (hr : Room k X.A) (hx : Passes CX X Ek) :
    OpR X (compareOp .In) (fun x y H Q => ∃ a dx fs, y = .ref a ∧ H a = some (.ins C dx fs) ∧ sp [.ref a, x] H (fun v H' => ∃ b, v = .bl b ∧ Q (.bl b) H') Ek) := by
  intro pins s σ H x y u v Q Iv rx ry hyp
  obtain ⟨a, dx, fs, rfl, atA, cont⟩ := hyp
  cases ry
  obtain ⟨ox, od, J⟩ := inst_of Iv atA
  obtain ⟨mm, hF⟩ := Iv.fr
  refine PySem.W.in_K hF Iv.ok.mod.kin J m.at_ m.fn ?_
  refine wpAny_mono (run_below F hr rfl hx Iv (vs := [V.ref a, x]) (.cons rfl (.cons rx .nil)) cont) (fun u' s1 hu => ?_) fun _ _ e => e
  obtain ⟨v', H1, Iv1, rv, b, rfl, q1⟩ := hu
  cases rv
  exact wpAny_truthy_bool ⟨.bl b, H1, Iv1, rfl, q1⟩
/-- o == v: the own method answers with a truth value -/
theorem rc_eq {A : Around} {a dx : Addr} {fs : List (Str × V)} {y : V} {u t : Value} {Q : Bool → Hp → Prop} (m : OwnM X.K C "__eq__" g) (F : FnR X.prog X.w X.K X.mg X.base CX k g sp) (hr : Room k A) (hf : A.frames = X.A.frames) (hx : Passes CX X Ek) (Iv : Inv X pins σ H s) (atA : H a = some (.ins C dx fs))
    (ry : RelV y u) (ty : ∀ M : Model, PySem.W.Looks M s.heap (typeOf u) t) (nf : PySem.W.notFirst X.K C t = true) (cont : sp [.ref a, y] H (fun v H' => ∃ b, v = .bl b ∧ Q b H') Ek) :
    wpAny (model X.prog X.w) A (richCompare .Eq (.ref a) u) (fun r s1 => ∃ b, r = .bool b ∧ ∃ H', Inv X pins σ H' s1 ∧ Q b H') X.xe s := by
  obtain ⟨ox, od, J⟩ := inst_of Iv atA
  obtain ⟨mm, hF⟩ := Iv.fr
  refine PySem.W.cmp_K (op := .Eq) hr.units0 hF Iv.ok.mod.kin J (ty _) nf m.at_ m.fn ?_
  refine wpAny_mono (run_below F hr hf hx Iv (vs := [V.ref a, y]) (.cons rfl (.cons ry .nil)) cont) (fun w s1 hu => ?_) fun _ _ e => e
  obtain ⟨v, H1, Iv1, rv, b, rfl, q1⟩ := hu
  cases rv
  exact ⟨b, rfl, H1, Iv1, q1⟩
theorem op_eqO (m : OwnM X.K C "__eq__" g) (F : FnR X.prog X.w X.K X.mg X.base CX k g sp) (hr : Room k X.A) (hx : Passes CX X Ek) :
    OpR X (compareOp .Eq) (fun x y H Q => ∃ a dx fs t, x = .ref a ∧ H a = some (.ins C dx fs) ∧ (∀ pins σ s u, Inv X pins σ H s → RelV y u → ∀ M : Model, PySem.W.Looks M s.heap (typeOf u) t) ∧ PySem.W.notFirst X.K C t = true ∧ sp [.ref a, y] H (fun v H' => ∃ b, v = .bl b ∧ Q (.bl b) H') Ek) := by
  intro pins s σ H x y u v Q Iv rx ry hyp
  obtain ⟨a, dx, fs, t, rfl, atA, ty, nf, cont⟩ := hyp
  cases rx
  refine wpAny_mono (rc_eq (Q := fun b H' => Q (.bl b) H') m F hr rfl hx Iv atA ry (ty pins σ s _ Iv ry) nf cont) (fun r s1 z => ?_) fun _ _ e => e
  obtain ⟨b, rfl, H1, Iv1, q1⟩ := z
  exact ⟨.bl b, H1, Iv1, rfl, q1⟩
/-- a special method that is a built-in's -/
theorem bound_bi {M : Model} {A : Around} {E : Value → Shared → Prop} {a : Addr} {ox : Obj} {od : Option Obj} {name : Str} {id : String} {args : List Value} {Q : Option Value → Shared → Prop} {Kf : PySem.W.Frag} (kin : Kf.In s.heap) (J : PySem.W.InstAt s.heap a ox C od) (hs : PySem.W.findIn Kf (.ref C) name = some (some (.builtin id)))
    (hb : ∀ self, bindSpecial (.builtin id) self = pure (.builtin id, [self])) (hyp : wpAny M A (call (.builtin id) (.ref a :: args)) (fun v => Q (some v)) E s) : wpAny M A (callSpecialIfBound? (.ref a) name args) Q E s := by
  simp only [callSpecialIfBound?,
      bindSpecialIfBound?]
  refine wpAny_holding (wpAny_bind (wpAny_bind (wpAny_bind (J.type.here ((PySem.W.looks_findIn kin hs).here ?_)))))
  have go : wpAny M A (call (.builtin id) ([.ref a] ++ args) >>= fun v => pure (some v)) Q E s := wpAny_bind (wpAny_mono hyp (fun v s1 z => wpAny_pure z) fun _ _ z => z)
  refine wpAny_bind (wpAny_askSetting
      (wpAny_ite ?_))
  split
  · exact wpAny_bind ((PySem.W.Looks.of_pure (hb _)).here (wpAny_pure go))
  · exact wpAny_tryCatch (wpAny_bind ((PySem.W.Looks.of_pure (hb _)).here (wpAny_pure go)))
/-- object.__ne__(o, v), where o's class has its own == -/
theorem one_ne {A : Around} {a dx : Addr} {fs : List (Str × V)} {y : V} {u : Value} {Q : Bool → Hp → Prop} (m : OwnM X.K C "__eq__" g) (hm : PySem.W.mroIn X.K C (.type "object") = some true) (F : FnR X.prog X.w X.K X.mg X.base CX k g sp) (hr : Room (k + 1) A) (hf : A.frames = X.A.frames) (hx : Passes CX X Ek) (Iv : Inv X pins σ H s) (atA : H a = some (.ins C dx fs))
    (ry : RelV y u) (cont : sp [.ref a, y] H (fun v H' => ∃ b, v = .bl b ∧ Q b H') Ek) :
    wpAny (model X.prog X.w) A (call (.builtin "object.__ne__") [.ref a, u]) (fun r s1 => ∃ b, r = .bool (!b) ∧ ∃ H', Inv X pins σ H' s1 ∧ Q b H') X.xe s := by
  obtain ⟨ox, od, J⟩ := inst_of Iv atA
  refine wpAny_call (codeAny_call_builtin PySem.F.slot_object_ne.plain PySem.F.cmpEntry_ne (PySem.W.check_slot (i := "object.__ne__") (owner := "object") (n := "__ne__") (by decide +kernel) (by decide +kernel) (J.type.andThen (PySem.W.looks_mroIn Iv.kIn hm)) (PySem.F.cmpArgs_ne _ _) ?_))
  unfold
    Builtin.«object.__ne__»
  refine wpAny_bind (m := slotArgs "__ne__" 1 _) (wpAny_pure ?_)
  refine wpAny_bind (m := cRoomFor _ _) (wpAny_cRoomFor hr.in1.units0 ?_)
  refine wpAny_bind (m := callSpecialIfBound? (.ref a) (Str.ofString "__eq__") _) (PySem.W.ifBound_K Iv.kIn J m.at_ m.fn ?_)
  refine wpAny_mono (run_below F hr.in1 hf hx Iv (vs := [V.ref a, y]) (.cons rfl (.cons ry .nil)) cont) (fun w s1 hu => ?_) fun _ _ e => e
  obtain ⟨v, H1, Iv1, rv, b, rfl, q1⟩ := hu
  cases rv
  refine wpAny_bind (wpAny_truthy_bool ?_)
  exact wpAny_pure ⟨_, rfl, H1, Iv1, q1⟩
theorem rc_ne {A : Around} {a dx : Addr} {fs : List (Str × V)} {y : V} {u t : Value} {Q : Bool → Hp → Prop} (m : OwnM X.K C "__eq__" g) (hn : PySem.W.findIn X.K (.ref C) "__ne__" = some (some (.builtin "object.__ne__"))) (hm : PySem.W.mroIn X.K C (.type "object") = some true) (F : FnR X.prog X.w X.K X.mg X.base CX k g sp) (hr : Room (k + 1) A) (hf : A.frames = X.A.frames)
    (hx : Passes CX X Ek) (Iv : Inv X pins σ H s) (atA : H a = some (.ins C dx fs)) (ry : RelV y u) (ty : ∀ M : Model, PySem.W.Looks M s.heap (typeOf u) t) (nf : PySem.W.notFirst X.K C t = true) (cont : sp [.ref a, y] H (fun v H' => ∃ b, v = .bl b ∧ Q b H') Ek) :
    wpAny (model X.prog X.w) A (richCompare .NotEq (.ref a) u) (fun r s1 => ∃ b, r = .bool (!b) ∧ ∃ H', Inv X pins σ H' s1 ∧ Q b H') X.xe s := by
  obtain ⟨ox, od, J⟩ := inst_of Iv atA
  have one : wpAny (model X.prog X.w) A (tryCompare (.ref a) (cmpInfo .NotEq).2.1 u) (fun r s1 => ∃ b, r = some (.bool (!b)) ∧ ∃ H', Inv X pins σ H' s1 ∧ Q b H') X.xe s := by
    unfold tryCompare
    refine wpAny_bind (bound_bi Iv.kIn J hn PySem.F.slot_object_ne.bind (wpAny_mono (one_ne m hm F hr hf hx Iv atA ry cont) (fun r s1 z => ?_) fun _ _ e => e))
    obtain ⟨b, rfl, z⟩ := z
    exact wpAny_pure ⟨b, rfl, z⟩
  unfold richCompare
  simp only [oneThing_ref]
  refine wpAny_holding (wpAny_bind (wpAny_cRoomFor hr.units0 ?_))
  refine wpAny_bind (J.type.here (wpAny_bind ((ty _).here ?_)))
  split
  · rename_i z
    have e : PySem.W.subIn X.K t (.ref C) = some false := by
      rcases Bool.or_eq_true_iff.mp nf with e | e
      · rw [beq_iff_eq.mp e] at z
        simp at z
      · exact beq_iff_eq.mp e
    refine wpAny_bind ((PySem.W.looks_subIn Iv.kIn e).here ?_)
    simp only [Bool.false_eq_true,
        if_false]
    refine wpAny_bind (wpAny_mono one (fun r s1 zz => ?_) fun _ _ e => e)
    obtain ⟨b, rfl, zz⟩ := zz
    exact wpAny_pure ⟨b, rfl, zz⟩
  · refine wpAny_bind
        (wpAny_pure ?_)
    simp only [Bool.false_eq_true,
        if_false]
    refine wpAny_bind (wpAny_mono one (fun r s1 zz => ?_) fun _ _ e => e)
    obtain ⟨b, rfl, zz⟩ := zz
    exact wpAny_pure ⟨b, rfl, zz⟩
end
end DuX
/-! o != v; bool(o) by the own __len__ -/
namespace DuX
open PySem PySem.Spec
open PyProof.Rows L2
section
variable {X : Cx} {CX : CXT} {k : Nat} {g C : Addr} {sp : Sp} {Ek : XK} {pins : List (Addr × Obj)} {σ : L2.St} {H : Hp} {s : Shared}
/-- what the class at C has from object: its != -/
structure NeM (K : PySem.W.Frag) (C : Addr) : Prop where
  ne : PySem.W.findIn K (.ref C) "__ne__" = some (some (.builtin "object.__ne__"))
  mro : PySem.W.mroIn K C (.type "object") = some true
theorem op_neO (m : OwnM X.K C "__eq__" g) (n : NeM X.K C) (F : FnR X.prog X.w X.K X.mg X.base CX k g sp) (hr : Room (k + 1) X.A) (hx : Passes CX X Ek) :
    OpR X (compareOp .NotEq) (fun x y H Q => ∃ a dx fs t, x = .ref a ∧ H a = some (.ins C dx fs) ∧ (∀ pins σ s u, Inv X pins σ H s → RelV y u → ∀ M : Model, PySem.W.Looks M s.heap (typeOf u) t) ∧ PySem.W.notFirst X.K C t = true ∧ sp [.ref a, y] H (fun v H' => ∃ b, v = .bl b ∧ Q (.bl (!b)) H') Ek) := by
  intro pins s σ H x y u v Q Iv rx ry h
  obtain ⟨a, dx, fs, t, rfl, ha, ty, nf, q⟩ := h
  cases rx
  refine wpAny_mono (rc_ne (Q := fun b H' => Q (.bl (!b)) H') m n.ne n.mro F hr rfl hx Iv ha ry (ty pins σ s _ Iv ry) nf q) (fun r s1 z => ?_) fun _ _ e => e
  obtain ⟨b, rfl, H1, I1, q1⟩ := z
  exact ⟨.bl (!b), H1, I1, rfl, q1⟩
/-- the truth of o, by its __len__ -/
theorem truthy_lenO {A : Around} {a dx : Addr} {fs : List (Str × V)} {Q : Bool → Hp → Prop} (m : OwnM X.K C "__len__" g) (nb : PySem.W.findIn X.K (.ref C) "__bool__" = some none) (F : FnR X.prog X.w X.K X.mg X.base CX k g sp) (hr : Room (k + 1) A) (hf : A.frames = X.A.frames) (hx : Passes CX X Ek) (Iv : Inv X pins σ H s) (ha : H a = some (.ins C dx fs))
    (q : sp [.ref a] H (fun v H' => ∃ n : Nat, v = .int n ∧ n < 2 ^ 62 ∧ Q (n != 0) H') Ek) :
    wpAny (model X.prog X.w) A (truthy (.ref a)) (fun b s1 => ∃ H', Inv X pins σ H' s1 ∧ Q b H') X.xe s := by
  obtain ⟨ox, od, J⟩ := inst_of Iv ha
  have len : wpAny (model X.prog X.w) A (runValue (.builtin "len" ⟨[.ref a], []⟩)) (fun r s1 => ∃ (n : Nat) (t : Tok), r = .int n t ∧ ∃ H', Inv X pins σ H' s1 ∧ Q (n != 0) H') X.xe s := by
    refine wpAny_runValue (codeAny_builtin
        entry_len ?_)
    rw [Around.under_plainId
        plain_len _]
    unfold Builtin.«len»
    refine wpAny_bind (m := oneArg
        "len" _) (wpAny_pure ?_)
    refine wpAny_bind (m := callSpecial? (.ref a) (Str.ofString "__len__")) (PySem.W.special_fn Iv.kIn J m.at_ (beq_iff_eq.mp m.fn) (wpAny_mono (run_below F hr.in1 hf hx Iv (vs := [V.ref a]) (.cons rfl .nil) q) (fun r s' z => ?_) fun _ _ y => y))
    obtain ⟨v, H1, I1, rv, n, rfl, hn, q1⟩ := z
    obtain ⟨t, rfl⟩ := rv
    refine wpAny_bind (wpAny_holding
        (wpAny_pure ?_))
    refine wpAny_bind
        (wpAny_letGo ?_)
    show wpAny _ _ (if ((n : Nat) : Int) < 0 then _ else _) _ _ _
    rw [if_neg (by omega)]
    show wpAny _ _ (if ((n : Nat) : Int) ≥ 2 ^ 63 then _ else _) _ _ _
    rw [if_neg (by omega)]
    exact wpAny_bind (wpAny_mkInt (wpAny_pure ⟨n, _, rfl, H1, I1.tok _, q1⟩))
  unfold truthy
  refine wpAny_bind (m := callSpecial? (.ref a) (Str.ofString "__bool__")) (wpAny_bind (wpAny_bind (J.type.here ((PySem.W.looks_findIn Iv.kIn nb).here (wpAny_pure ?_)))))
  refine wpAny_bind (wpAny_bind (J.type.here ((PySem.W.looks_findIn Iv.kIn m.at_).here ?_)))
  refine wpAny_bind (wpAny_mono len (fun r s1 z => ?_) fun _ _ e => e)
  obtain ⟨n, t, rfl, H1, I1, q1⟩ := z
  have e : ((n : Int) != 0) = (n != 0) := by
    cases n with
    | zero => rfl
    | succ n => rfl
  show wpAny _ _ (pure ((n : Int) != 0)) _ _ _
  rw [e]
  exact wpAny_pure ⟨H1, I1, q1⟩
/-- bool(o) -/
theorem call_boolO (m : OwnM X.K C "__len__" g) (nb : PySem.W.findIn X.K (.ref C) "__bool__" = some none) (F : FnR X.prog X.w X.K X.mg X.base CX k g sp) (hr : Room (k + 3) X.A) (hx : Passes CX X Ek) :
    CallR X (.type "bool") (fun xs H Q => ∃ a dx fs, xs = [.ref a] ∧ H a = some (.ins C dx fs) ∧ sp [.ref a] H (fun v H' => ∃ n : Nat, v = .int n ∧ n < 2 ^ 62 ∧ Q (.bl (n != 0)) H') Ek) := by
  intro pins s σ H xs us Q Iv r h
  obtain ⟨a, dx, fs,
      rfl, ha, q⟩ := h
  rw [Vals.ref1 r]
  have f1 := PySem.F.conv_sub_bool
  refine callType_codes (T := "bool") (Bi := Builtin.«object.__init__») (Q₁ := fun r s₁ => ∃ b, r = .bool b ∧ ∃ H', Inv X pins σ H' s₁ ∧ Q (.bl b) H') PySem.F.called_bool (PySem.F.typeCall_bool_1 _) PySem.F.entry_object_init ?_ ?_
  · refine codeAny_of_tree ?_
    show wpAny _ X.A.in1.in1 (do checkBuiltinCall "bool.__new__" ⟨[.type "bool", .ref a], []⟩; again (.builtin "bool.__new__" ⟨[.type "bool", .ref a], []⟩)) _ _ s
    refine wpAny_bind (wpAny_of_eq (PySem.F.newCall_bool_1 _) (wpAny_pure ⟨plainId_quiet (by decide +kernel) _, codeAny_builtin PySem.F.entry_bool_new ?_⟩))
    rw [Around.under_plainId
        (by decide +kernel) _]
    unfold Builtin.«bool.__new__»
    refine wpAny_bind (m := isType (.type "bool")) (wpAny_pure ?_)
    simp only [Bool.not_true,
        Bool.false_eq_true, if_false]
    refine wpAny_bind (wpAny_of_eq f1 ?_)
    simp only [Bool.not_true,
        Bool.false_eq_true, if_false]
    refine wpAny_bind (m := someArgs "bool" 0 1 _) (wpAny_pure ?_)
    refine wpAny_bind (wpAny_mono (truthy_lenO (Q := fun b H' => Q (.bl b) H') m nb F hr.in1.in1 rfl hx Iv ha q) (fun b s1 z => ?_) fun _ _ e => e)
    exact wpAny_pure ⟨b, rfl, z⟩
  · rintro obj s₁ ⟨b, rfl, H1, I1, q1⟩
    exact ⟨rfl, PySem.F.args_object_init_2 _ _, object_init_meets PySem.F.called_bool.init.lookup PySem.F.called_bool.made (by decide) X.prog X.w X.A.in1 _ s₁ ⟨rfl, rfl, .bl b, H1, I1, rfl, q1⟩⟩
end
end DuX
/-! a | b, a |= b, a <= b by an own class's methods -/
namespace DuX
open PySem PySem.Spec
open PyProof.Rows L2
section
variable {X : Cx} {CX : CXT} {k : Nat} {g C : Addr} {sp : Sp} {Ek : XK}
/-- both are of the class at C -/
def rBinO (C : Addr) (sp : Sp) (Ek : XK) : R2 := fun x y H Q => ∃ a dx fs b dy gs, x = .ref a ∧ y = .ref b ∧ H a = some (.ins C dx fs) ∧ H b = some (.ins C dy gs) ∧ sp [.ref a, .ref b] H Q Ek
theorem op_binO {op : Operator} (m : OwnM X.K C (PySem.dunder op.info.2) g) (hc : PySem.W.selfFirst X.K C = true) (F : FnR X.prog X.w X.K X.mg X.base CX k g sp) (hr : Room k X.A) (hx : Passes CX X Ek) : OpR X (binaryOp op) (rBinO C sp Ek) := by
  intro pins s σ H x y v u Q Iv rx ry h
  obtain ⟨a, dx, fs, b, dy, gs, rfl, rfl, ha, hb, q⟩ := h
  cases rx
  cases ry
  obtain ⟨ox, od, J⟩ := inst_of Iv ha
  obtain ⟨oy, oe, J2⟩ := inst_of Iv hb
  obtain ⟨mm, hF⟩ := Iv.fr
  refine PySem.W.binop_K hF Iv.ok.mod.kin J J2.type hc m.at_ m.fn ?_
  refine wpAny_mono (run_below F hr rfl hx Iv (vs := [V.ref a, V.ref b]) (.cons rfl (.cons rfl .nil)) q) (fun z s1 hz => ?_) fun _ _ e => e
  obtain ⟨z', H1, I1, rz, qz⟩ := hz
  exact SlX.cmpback rz ⟨z', H1, I1, rz, qz⟩
/-- a op= b -/
def rInO (C : Addr) (sp : Sp) (Ek : XK) : TIp := fun x y H Q => ∃ a dx fs, x = .ref a ∧ H a = some (.ins C dx fs) ∧ sp [.ref a, y] H Q Ek
theorem ip_O {op : Operator} (m : OwnM X.K C (PySem.dunderI op.info.2) g) (hc : PySem.W.selfFirst X.K C = true) (F : FnR X.prog X.w X.K X.mg X.base CX k g sp) (hr : Room k X.A) (hx : Passes CX X Ek) : PIp X op (rInO C sp Ek) := by
  intro pins s σ H x y v u Q Iv rx ry h
  obtain ⟨a, dx, fs, rfl, ha, q⟩ := h
  cases rx
  obtain ⟨ox, od, J⟩ := inst_of Iv ha
  obtain ⟨mm, hF⟩ := Iv.fr
  refine PySem.W.ksp_inplace hF Iv.ok.mod.kin J hc m.at_ m.fn ?_
  refine wpAny_mono (run_below F hr rfl hx Iv (vs := [V.ref a, y]) (.cons rfl (.cons ry .nil)) q) (fun z s1 hz => ?_) fun _ _ e => e
  obtain ⟨z', H1, I1, rz, qz⟩ := hz
  exact SlX.cmpback rz ⟨z', H1, I1, rz, qz⟩
/-- an order by an own method -/
def rCmpO (K : PySem.W.Frag) (C : Addr) (sp : Sp) (Ek : XK) : R2 := fun x y H Q => ∃ a dx fs t, x = .ref a ∧ H a = some (.ins C dx fs) ∧ TyX K H y t ∧ PySem.W.notFirst K C t = true ∧ sp [.ref a, y] H Q Ek
theorem op_cmpO {op : CmpOp} (hop : ∀ a b, compareOp op a b = richCompare op a b) (m : OwnM X.K C (cmpInfo op).2.1 g) (F : FnR X.prog X.w X.K X.mg X.base CX k g sp) (hr : Room k X.A) (hx : Passes CX X Ek) : OpR X (compareOp op) (rCmpO X.K C sp Ek) := by
  intro pins s σ H x y v u Q Iv rx ry h
  obtain ⟨a, dx, fs, t, rfl, ha, ty, nf, q⟩ := h
  cases rx
  obtain ⟨ox, od, J⟩ := inst_of Iv ha
  obtain ⟨mm, hF⟩ := Iv.fr
  obtain ⟨Pz, Z, pz, _⟩ := kit_of Iv ry ty
  rw [hop]
  refine PySem.W.cmp_K (op := op) hr.units0 hF Iv.ok.mod.kin J (Z.ty _ _ Iv.kIn pz) nf m.at_ m.fn ?_
  refine wpAny_mono (run_below F hr rfl hx Iv (vs := [V.ref a, y]) (.cons rfl (.cons ry .nil)) q) (fun z s1 hz => ?_) fun _ _ e => e
  obtain ⟨z', H1, I1, rz, qz⟩ := hz
  exact SlX.cmpback rz ⟨z', H1, I1, rz, qz⟩
end
/-- what a built-in class has for an operator, and that it is not below C -/
structure OthT (K : PySem.W.Frag) (C : Addr) (nm T : String) : Prop where
  h1 : ∃ fo, PySem.W.findIn K (.type T) (PySem.dunder nm) = some fo
  h2 : ∃ ro, PySem.W.findIn K (.type T) (dunderR nm) = some ro
  hs : PySem.W.subIn K (.type T) (.ref C) = some false
section
variable {M : Model} {prog : Program} {w : World} {A : Around} {E : Value → Shared → Prop} {s : Shared} {K : PySem.W.Frag} {x C f : Addr} {ox : Obj} {od : Option Obj} {T : String}
open PySem.W in
theorem bin_other {op : Operator} {b : Value} {Q : Value → Shared → Prop} (X : K.In s.heap) (J : InstAt s.heap x ox C od) (hb : ∀ M : Model, Looks M s.heap (typeOf b) (.type T)) (hc : selfFirst K C = true) (hs : findIn K (.ref C) (PySem.dunder op.info.2) = some (some (.ref f))) (hf : isFn K (.ref f) = true)
    (hr : findIn K (.ref C) (dunderR op.info.2) = some none) (O : OthT K C op.info.2 T)
    (h : wpAny (model prog w) A (call (.ref f) [.ref x, b]) (PySem.W.CmpBack Q) E s) : wpAny (model prog w) A (binaryOp op (.ref x) b) Q E s := by
  obtain ⟨cd, more, hcd, hm⟩ := ksp_first hc
  obtain ⟨⟨fo, h1⟩, ⟨ro, h2⟩, hsub⟩ := O
  have one := ksp_try X J hs hf h
  rcases hi : op.info with ⟨sym, nm⟩
  rw [hi] at hs hr h1 h2 one
  dsimp only at hs hr h1 h2 one
  obtain ⟨hp, g, d, tk, os⟩ := s
  have la := J.type (M := model prog w)
  have lb := hb (model prog w)
  have lc := fills_K (M := model prog w) X hcd hm hs
  have ld := ksp_fillsT (M := model prog w) X h1 h2
  have le := looks_subIn (M := model prog w) X hsub
  have lf := ksp_inPy (M := model prog w) X hs hr (.inl rfl)
  have lg : Looks (model prog w) hp (numberSlotInPython (.type T) nm) false := .of_pure rfl
  have lh := looks_findIn (M := model prog w) X h2
  generalize ((fo.isSome && !isSeqSlot fo) || (ro.isSome && !isSeqSlot ro)) = right at ld
  have ne : (Value.ref C == Value.type T) = false := Bool.eq_false_iff.mpr fun q => by cases beq_iff_eq.mp q
  simp only [binaryOp, hi]
  refine wpAny_holding (wpAny_bind ?_)
  unfold binaryOp1
  refine wpAny_bind (la.at (wpAny_bind (lb.at (wpAny_bind (lc.at ?_)))))
  simp only [ne, if_false, Bool.false_eq_true]
  cases right <;>
  · ksp_lk
    refine wpAny_mono one (fun r s1 hz => ?_) fun _ _ e => e
    obtain ⟨v, rfl, q⟩ := hz
    ksp_lk
    exact q
end
section
variable {X : Cx} {CX : CXT} {k : Nat} {g C : Addr} {sp : Sp} {Ek : XK}
/-- the other one is of a built-in class -/
def rBinT (K : PySem.W.Frag) (C : Addr) (Ts : List String) (sp : Sp) (Ek : XK) : R2 := fun x y H Q => ∃ a dx fs t, x = .ref a ∧ H a = some (.ins C dx fs) ∧ t ∈ Ts ∧ TyX K H y (.type t) ∧ sp [.ref a, y] H Q Ek
theorem op_binT {op : Operator} {Ts : List String} (m : OwnM X.K C (PySem.dunder op.info.2) g) (hc : PySem.W.selfFirst X.K C = true) (hR : PySem.W.findIn X.K (.ref C) (dunderR op.info.2) = some none) (O : ∀ t ∈ Ts, OthT X.K C op.info.2 t) (F : FnR X.prog X.w X.K X.mg X.base CX k g sp) (hr : Room k X.A) (hx : Passes CX X Ek) :
    OpR X (binaryOp op) (rBinT X.K C Ts sp Ek) := by
  intro pins s σ H x y v u Q Iv rx ry h
  obtain ⟨a, dx, fs, t, rfl, ha, ht, ty, q⟩ := h
  cases rx
  obtain ⟨ox, od, J⟩ := inst_of Iv ha
  obtain ⟨Pz, Z, pz, _⟩ := kit_of Iv ry ty
  refine bin_other Iv.kIn J (fun M => Z.ty M _ Iv.kIn pz) hc m.at_ m.fn hR (O t ht) ?_
  refine wpAny_mono (run_below F hr rfl hx Iv (vs := [V.ref a, y]) (.cons rfl (.cons ry .nil)) q) (fun z s1 hz => ?_) fun _ _ e => e
  obtain ⟨z', H1, I1, rz, qz⟩ := hz
  exact SlX.cmpback rz ⟨z', H1, I1, rz, qz⟩
end
end DuX
/-! in, not in, ==, != of an own class's instances, told without the context -/
namespace DuX
open PySem PySem.Spec
open PyProof.Rows L2
section
variable {X : Cx} {CX : CXT} {k : Nat} {g C : Addr} {sp : Sp} {Ek : XK}
theorem op_ninO (m : OwnM X.K C "__contains__" g) (F : FnR X.prog X.w X.K X.mg X.base CX k g sp) (hr : Room k X.A) (hx : Passes CX X Ek) :
    OpR X (compareOp .NotIn) (fun x y H Q => ∃ a dx fs, y = .ref a ∧ H a = some (.ins C dx fs) ∧ sp [.ref a, x] H (fun v H' => ∃ b, v = .bl b ∧ Q (.bl (!b)) H') Ek) := by
  intro pins s σ H x y u v Q Iv rx ry hyp
  obtain ⟨a, dx, fs, rfl, atA, cont⟩ := hyp
  cases ry
  obtain ⟨ox, od, J⟩ := inst_of Iv atA
  obtain ⟨mm, hF⟩ := Iv.fr
  refine PySem.W.notIn_K hF Iv.ok.mod.kin J m.at_ m.fn ?_
  refine wpAny_mono (run_below F hr rfl hx Iv (vs := [V.ref a, x]) (.cons rfl (.cons rx .nil)) cont) (fun u' s1 hu => ?_) fun _ _ e => e
  obtain ⟨v', H1, Iv1, rv, b, rfl, q1⟩ := hu
  cases rv
  exact wpAny_truthy_bool ⟨.bl (!b), H1, Iv1, rfl, q1⟩
def rEqO (K : PySem.W.Frag) (C : Addr) (sp : Sp) : R2 := fun x y H Q => ∃ a dx fs t, x = .ref a ∧ H a = some (.ins C dx fs) ∧ TyX K H y t ∧ PySem.W.notFirst K C t = true ∧ sp [.ref a, y] H (fun v H' => ∃ b, v = .bl b ∧ Q (.bl b) H') E0
def rNeO (K : PySem.W.Frag) (C : Addr) (sp : Sp) : R2 := fun x y H Q => ∃ a dx fs t, x = .ref a ∧ H a = some (.ins C dx fs) ∧ TyX K H y t ∧ PySem.W.notFirst K C t = true ∧ sp [.ref a, y] H (fun v H' => ∃ b, v = .bl b ∧ Q (.bl (!b)) H') E0
def rHasO (C : Addr) (sp : Sp) : R2 := fun x y H Q => ∃ a dx fs, y = .ref a ∧ H a = some (.ins C dx fs) ∧ sp [.ref a, x] H (fun v H' => ∃ b, v = .bl b ∧ Q (.bl b) H') E0
def rNinO (C : Addr) (sp : Sp) : R2 := fun x y H Q => ∃ a dx fs, y = .ref a ∧ H a = some (.ins C dx fs) ∧ sp [.ref a, x] H (fun v H' => ∃ b, v = .bl b ∧ Q (.bl (!b)) H') E0
theorem op_eqX (m : OwnM X.K C "__eq__" g) (F : FnR X.prog X.w X.K X.mg X.base CX0 k g sp) (hr : Room k X.A) : OpR X (compareOp .Eq) (rEqO X.K C sp) := by
  intro pins s σ H x y u v Q I rx ry h
  obtain ⟨a, dx, fs, t, h1, h2, h3, h4, q⟩ := h
  exact op_eqO m F hr pass0 pins s σ H x y u v Q I rx ry ⟨a, dx, fs, t, h1, h2, fun pins σ s u Iv r M => by
    obtain ⟨Pz, Z, pz, _⟩ := kit_of Iv r h3
    exact Z.ty M s.heap Iv.kIn pz, h4, q⟩
theorem op_neX (m : OwnM X.K C "__eq__" g) (n : NeM X.K C) (F : FnR X.prog X.w X.K X.mg X.base CX0 k g sp) (hr : Room (k + 1) X.A) : OpR X (compareOp .NotEq) (rNeO X.K C sp) := by
  intro pins s σ H x y u v Q I rx ry h
  obtain ⟨a, dx, fs, t, h1, h2, h3, h4, q⟩ := h
  exact op_neO m n F hr pass0 pins s σ H x y u v Q I rx ry ⟨a, dx, fs, t, h1, h2, fun pins σ s u Iv r M => by
    obtain ⟨Pz, Z, pz, _⟩ := kit_of Iv r h3
    exact Z.ty M s.heap Iv.kIn pz, h4, q⟩
theorem op_inX (m : OwnM X.K C "__contains__" g) (F : FnR X.prog X.w X.K X.mg X.base CX0 k g sp) (hr : Room k X.A) : OpR X (compareOp .In) (rHasO C sp) := op_inO m F hr pass0
theorem op_ninX (m : OwnM X.K C "__contains__" g) (F : FnR X.prog X.w X.K X.mg X.base CX0 k g sp) (hr : Room k X.A) : OpR X (compareOp .NotIn) (rNinO C sp) := op_ninO m F hr pass0
end
/-! ### what is known of a def -/
structure Has (P : Program) (w : World) (K : PySem.W.Frag) (mg : Str → Option Value) (base : Heap) (CX : CXT) (k : Nat) (x : Str) (f : Addr) (ps : List Str) (sp : Sp) : Prop where
  gm : mg x = some (.ref f)
  kp : PySem.W.keepIn K (.ref f) = true
  ex : ∃ fd, FnOk P w K mg base CX k f fd ps sp ∧ L2.Binds K fd ps []
section
variable {X : Cx} {CX : CXT} {k : Nat} {x : Str} {f : Addr} {ps : List Str} {sp : Sp} {E : XK}
/-- x(e, ..) -/
theorem pe_has {e : Expr} {es : List Expr} {t : TA} {p pos : Pos} (F : Has X.prog X.w X.K X.mg X.base CX k x f ps sp) (hr : Room k X.A) (hg : Gl X x) (hx : Passes CX X E) (ha : PA X (e :: es) t) (hd : (x == ("__debug__" : Str)) = false := by decide)
    (hst : starEach (e :: es) X.env = (false, eval e X.env) :: starEach es X.env := by rfl) (hpl : (backTo pos (starEach es X.env)).any (·.1) = false := by rfl) :
    PE X (.Call (.Name x p) (e :: es) [] pos) (tCall sp [] E t) := by
  obtain ⟨gm, kp, fd, F, B⟩ := F
  exact pe_call F hr hg gm kp B .nil hx ha hd hst hpl
end
end DuX
/-! sorted(set(texts)) -/
namespace TxS
open PySem PySem.Spec
open PyProof.Rows L2
/-- a set whose table can be walked; its members and their hashes are ms -/
def Tbl (w : World) (hp : Heap) (S : Addr) (ms : Array (Int × Value)) : Prop :=
  ∃ (ob : Obj) (ep : Nat) (tb : SetTable), hp.get? S = some ob ∧ ob.ExactSet ∧ ob.data = .set ms ep tb ∧ ms.size < scanBound ∧ tb.fits ms.size = true ∧ Ris tb.place.toList ∧ (w.params.followText "set-order" = true ∨ tb.led = true)
theorem Tbl.moved {w : World} {hp hp' : Heap} {S : Addr} {ms : Array (Int × Value)} (T : Tbl w hp S ms) (kp : ∀ ob, hp.get? S = some ob → hp'.get? S = some ob) : Tbl w hp' S ms := by
  obtain ⟨ob, ep, tb, h0, rest⟩ := T
  exact ⟨ob, ep, tb, kp ob h0, rest⟩
section
variable {P : Program} {w : World} {A : Around} {Er : Value → Shared → Prop} {st : Shared} {S : Addr}
theorem gave_ok {Q1 : Unit → Shared → Prop} {s1 : Shared} (gv : Bool) (cont : Q1 () s1) : wpAny (model P w) A (match gv with | true => rule "set.scan.the-table-gave-way" | false => pure ()) Q1 Er s1 := by
  cases gv with
  | true => exact wpAny_rule cont
  | false => exact wpAny_pure cont
/-- the table laid, and laid anew where it is too full -/
theorem tail_ok {ms ms1 : Array (Int × Value)} {ob : Obj} {ep : Nat} {tb t1 : SetTable} (h0 : st.heap.get? S = some ob) (hx : ob.ExactSet) (hd : ob.data = .set ms ep tb) (b1 : ms1.size < scanBound) (f1 : t1.fits ms1.size = true) (r1 : Ris t1.place.toList)
    (l1 : w.params.followText "set-order" = true ∨ t1.led = true) (wd : Bool) {R : Option Bool → Shared → Prop}
    (hR : ∀ hp' ms', Heap.SameBut S st.heap hp' → Tbl w hp' S ms' → ms'.toList.Perm ms1.toList → R (some true) { st with heap := hp' }) :
    wpAny (model P w) A (do
      storeSet S ms1 t1
      if (!wd && t1.tooFull) = true then do
        (match (relayAll t1 ms1 (SetTable.grown ms1.size)).2.2 with | true => rule "set.scan.the-table-gave-way" | false => pure ())
        storeSet S (relayAll t1 ms1 (SetTable.grown ms1.size)).1 (relayAll t1 ms1 (SetTable.grown ms1.size)).2.1
        pure (some true)
      else pure (some true)) R Er st := by
  refine wpAny_bind (wpAny_storeSet_of h0 hd ?_ (fits_of_scanBound b1))
  have a1 := store_at (es' := ms1) (t' := t1) h0 hd
  have k1 := Heap.SameBut.update st.heap S (Obj.putSet ms1 t1)
  by_cases full : (!wd && t1.tooFull) = true
  · rw [if_pos full]
    have p2 := relayAll_perm t1 ms1 (SetTable.grown ms1.size)
    have n2 : (relayAll t1 ms1 (SetTable.grown ms1.size)).1.size = ms1.size := by
      have cont := p2.length_eq
      simpa using cont
    refine wpAny_bind (gave_ok _ ?_)
    refine wpAny_bind (wpAny_storeSet_of a1 rfl ?_ (fits_of_scanBound (by rw [n2]; exact b1)))
    have a2 := store_at (es' := (relayAll t1 ms1 (SetTable.grown ms1.size)).1) (t' := (relayAll t1 ms1 (SetTable.grown ms1.size)).2.1) a1 rfl
    refine wpAny_pure (hR _ _ (k1.trans (Heap.SameBut.update _ S _)) ⟨_, _, _, a2, hx, rfl, by rw [n2]; exact b1, relayAll_fits t1 ms1 _, relayAll_ris t1 ms1 _, ?_⟩ p2)
    rw [relayAll_led t1 ms1 _]
    exact l1
  · rw [if_neg full]
    exact wpAny_pure (hR _ _ k1 ⟨_, _, _, a1, hx, rfl, b1, f1, r1, l1⟩ .rfl)
variable {κ : Type} [DecidableEq κ] [BEq κ] [LawfulBEq κ] {knd : KeyKind P w κ}
theorem add_ok {ms : Array (Int × Value)} {k : κ} {v : Value} {Q : Bool → Shared → Prop} (T : Tbl w st.heap S ms) (el : ElemsOf knd ms.toList) (hk : knd.is k v = true) (sc : v.scannable = true) (room : ms.size + 1 < scanBound)
    (old : (∃ e ∈ ms.toList, knd.is k e.2 = true) → Q false st)
    (new : (∀ e ∈ ms.toList, knd.is k e.2 = false) → ∀ hp' ms', Heap.SameBut S st.heap hp' → Tbl w hp' S ms' → ms'.toList.Perm ((knd.hash k, v) :: ms.toList) → Q true { st with heap := hp' }) :
    wpAny (model P w) A (setAddHashed S v (knd.hash k)) Q Er st := by
  obtain ⟨ob, ep, tb, h0, hx, hd, b0, f0, r0, l0⟩ := T
  unfold setAddHashed
      setAddHashedIn
  refine wpAny_holding (wpAny_bind (wpAny_setState_of h0 hd f0 ?_))
  dsimp only
  rw [byScan_of sc b0 el]
  simp only [↓reduceIte]
  unfold setAddByScan
  refine wpAny_bind (wpAny_bind (wpAny_rule (wpAny_bind (wpAny_setScan_of hk h0 hd f0 el ?_))))
  cases fdA : List.findIdx? (fun e => knd.is k e.2) ms.toList with
  | some j =>
    obtain ⟨jA, pA, _⟩ := List.findIdx?_eq_some_iff_getElem.mp fdA
    exact wpAny_pure (wpAny_pure (old ⟨_, List.getElem_mem jA, pA⟩))
  | none =>
    have none_ : ∀ e ∈ ms.toList, knd.is k e.2 = false := fun e he => List.findIdx?_eq_none_iff.mp fdA e he
    dsimp only
    have pm := layNew_perm tb ms (knd.hash k) v
    have hf1 := layNew_fits tb ms (knd.hash k) v
    have hr1 := layNew_ris tb ms (knd.hash k) v r0
    have hl1 := layNew_led tb ms (knd.hash k) v
    generalize layNew tb ms (knd.hash k) v = Z at pm hf1 hr1 hl1 ⊢
    obtain ⟨ms1, t1, wd, gv⟩ := Z
    dsimp only at pm hl1 hr1 hf1 ⊢
    have pc : ms1.toList.Perm ((knd.hash k, v) :: ms.toList) := by
      rw [Array.toList_push] at pm
      exact pm.trans (List.perm_append_singleton _ _)
    have n1 : ms1.size = ms.size + 1 := by
      have cont := pc.length_eq
      simpa using cont
    have fin : ∀ hp' ms', Heap.SameBut S st.heap hp' → Tbl w hp' S ms' → ms'.toList.Perm ms1.toList → Q true { st with heap := hp' } := fun hp' ms' sb T' pp => new none_ hp' ms' sb T' (pp.trans pc)
    have led1 : w.params.followText "set-order" = true ∨ t1.led = true := by
      rw [hl1]
      exact l0
    refine wpAny_bind (gave_ok _ ?_)
    by_cases pl : t1.plain = true
    · rw [if_pos pl, hashByValue_scannable 8 sc]
      refine wpAny_bind
          (wpAny_pure ?_)
      by_cases pk : plainKind v = true
      · rw [pk]
        exact tail_ok h0 hx hd (by rw [n1]; exact room) hf1 hr1 led1 wd fun hp' ms' sb T' pp => wpAny_pure (fin hp' ms' sb T' pp)
      · have pk' : plainKind v = false := by simpa using pk
        rw [pk']
        exact tail_ok (t1 := { t1 with plain := false }) h0 hx hd (by rw [n1]; exact room) (SetTable.fits_plain_off hf1) hr1 led1 wd fun hp' ms' sb T' pp => wpAny_pure (fin hp' ms' sb T' pp)
    · rw [if_neg pl]
      refine wpAny_bind
          (wpAny_pure ?_)
      exact tail_ok h0 hx hd (by rw [n1]; exact room) hf1 hr1 led1 wd fun hp' ms' sb T' pp => wpAny_pure (fin hp' ms' sb T' pp)
end
/-! ### texts -/
def txt (e : Int × Value) : Str := match e.2 with
  | .str z _ => z
  | _ => Str.empty
def Txts (P : Program) (w : World) (ms : List (Int × Value)) : Prop := ∀ e ∈ ms, ∃ z t, e.2 = Value.str z t ∧ e.1 = (PySem.strKind P w).hash z
theorem Txts.el {P : Program} {w : World} {ms : List (Int × Value)} (g : Txts P w ms) : ElemsOf (PySem.strKind P w) ms := fun e he => by
  obtain ⟨z, t, e1, e2⟩ := g e he
  exact ⟨⟨z, by rw [e1]; exact strKind_is P w z t, e2⟩, by rw [e1]; rfl⟩
theorem is_txt {P : Program} {w : World} {e : Int × Value} {z y : Str} {t : Tok} (e1 : e.2 = Value.str z t) : (PySem.strKind P w).is y e.2 = true ↔ txt e = y := by
  have cont : txt e = z := by
    unfold txt
    rw [e1]
  rw [cont]
  constructor
  · intro hyp
    have h2 := strKind_is P w z t
    rw [← e1] at h2
    exact (PySem.strKind P w).inj _ _ _ h2 hyp
  · rintro rfl
    rw [e1]
    exact strKind_is P w z t
/-- the set at S holds just the texts in zs -/
def SetTx (P : Program) (w : World) (hp : Heap) (S : Addr) (zs : List Str) (n : Nat) : Prop :=
  ∃ ms, Tbl w hp S ms ∧ Txts P w ms.toList ∧ (ms.toList.map txt).Nodup ∧ (∀ z, z ∈ ms.toList.map txt ↔ z ∈ zs) ∧ ms.size ≤ n
theorem SetTx.moved {P : Program} {w : World} {hp hp' : Heap} {S : Addr} {zs : List Str} {n : Nat} (T : SetTx P w hp S zs n) (kp : ∀ ob, hp.get? S = some ob → hp'.get? S = some ob) : SetTx P w hp' S zs n := by
  obtain ⟨ms, T0, rest⟩ := T
  exact ⟨ms, T0.moved kp, rest⟩
section
variable {P : Program} {w : World} {A : Around} {Er : Value → Shared → Prop} {st : Shared} {S : Addr}
theorem add_text {zs : List Str} {n : Nat} {y : Str} {t : Tok} {Q : Bool → Shared → Prop} (T : SetTx P w st.heap S zs n) (room : n + 1 < scanBound)
    (cont : ∀ b hp', Heap.SameBut S st.heap hp' → SetTx P w hp' S (zs ++ [y]) (n + 1) → Q b { st with heap := hp' }) :
    wpAny (model P w) A (setAddHashed S (.str y t) ((PySem.strKind P w).hash y)) Q Er st := by
  obtain ⟨ms, T0, g, nd, hm, hn⟩ := T
  refine add_ok (knd := PySem.strKind P w) T0 g.el (strKind_is P w y t) rfl (by omega) (fun ⟨e, he, hy⟩ => ?_) (fun no hp' ms' sb T' pp => ?_)
  · obtain ⟨z, t', e1, _⟩ := g e he
    have ey := (is_txt (P := P) (w := w) e1).mp hy
    refine cont false st.heap (Heap.SameBut.refl S st.heap) ⟨ms, T0, g, nd, fun x => ?_, by omega⟩
    rw [hm x, List.mem_append, List.mem_singleton]
    refine ⟨.inl, fun hyp => hyp.elim id fun h2 => ?_⟩
    rw [h2, ← ey]
    exact (hm _).mp (List.mem_map.mpr ⟨e, he, rfl⟩)
  · have nin : y ∉ ms.toList.map txt := fun hyp => by
      obtain ⟨e, he, ey⟩ := List.mem_map.mp hyp
      obtain ⟨z, t', e1, _⟩ := g e he
      have b := (is_txt (P := P) (w := w) (y := y) e1).mpr ey
      rw [no e he] at b
      cases b
    have pk : (ms'.toList.map txt).Perm (y :: ms.toList.map txt) := pp.map txt
    refine cont true hp' sb ⟨ms', T', fun e he => ?_, pk.nodup_iff.mpr (List.nodup_cons.mpr ⟨nin, nd⟩), fun x => ?_, ?_⟩
    · rcases List.mem_cons.mp (pp.mem_iff.mp he) with hyp | hyp
      · rw [hyp]
        exact ⟨y, t, rfl, rfl⟩
      · exact g e hyp
    · rw [pk.mem_iff, List.mem_cons, hm x, List.mem_append, List.mem_singleton]
      exact Or.comm
    · have cont := pp.length_eq
      rw [Array.length_toList, List.length_cons, Array.length_toList] at cont
      omega
/-- all that is walked is added -/
theorem loop_texts {Iv : Addr} {fp wr : List Addr} {G : Array GenState → Array GenState → Prop} {n : Nat} {Pv : Nat → Value → Prop} {Sv : Nat → Shared → Prop} {R : Result → Shared → Prop} (Wk : WalksS P w A.in1 Iv fp wr G n Pv Sv) (far : S ∉ fp)
    (zs : List Str) (hz : zs.length = n) (room : n + 1 < scanBound) (val : ∀ i v, Pv i v → ∃ z t, zs[i]? = some z ∧ v = Value.str z t)
    (fin : ∀ s1, Moved (S :: wr) G st s1 → SetTx P w s1.heap S zs n → R (.ok (.ret .none)) s1) :
    ∀ (left i : Nat) (s1 : Shared), i + left = n → Sv i s1 → Moved (S :: wr) G st s1 → SetTx P w s1.heap S (zs.take i) i → codeAny (model P w) A (.builtin "set.update.loop" ⟨[.ref S, .ref Iv], []⟩) R s1 := by
  have farw : S ∉ wr := fun hyp => far (Wk.sub _ hyp)
  have inc : ∀ b ∈ wr, b ∈ S :: wr := fun b hb => List.mem_cons_of_mem _ hb
  intro left
  induction left with
  | zero =>
    intro i s1 e hs mv T
    have ei : i = n := by omega
    subst ei
    refine codeAny_builtin
        F.entry_set_update_loop ?_
    rw [Around.under_plainId
        F.plain_set_update_loop _]
    show wpAny _ A.in1 (pyNext (.ref Iv) >>= _) _ _ s1
    refine wpAny_bind (Wk.done s1 _ _ hs fun s2 m2 => ?_)
    rw [List.take_of_length_le (by omega)] at T
    exact wpAny_pure (fin s2 (Moved.trans Wk.gtrans mv (m2.mono inc)) (T.moved fun ob hb => m2.heap S ob farw hb))
  | succ left ih =>
    intro i s1 e hs mv T
    refine codeAny_builtin
        F.entry_set_update_loop ?_
    rw [Around.under_plainId
        F.plain_set_update_loop _]
    show wpAny _ A.in1 (pyNext (.ref Iv) >>= _) _ _ s1
    refine wpAny_bind (Wk.item i s1 _ _ (by omega) hs fun v s2 hv hs2 m2 => ?_)
    obtain ⟨z, t, ez, rfl⟩ := val i v hv
    show wpAny _ A.in1 (holding [Value.str z t] (setAdd S (.str z t)) >>= _) _ _ s2
    refine wpAny_bind
        (wpAny_holding ?_)
    unfold setAdd
    refine wpAny_holding (wpAny_bind ((PySem.strKind P w).pyHash (k := z) (strKind_is P w z t) ?_))
    refine add_text (st := { s2 with toks := s2.toks + 1 }) (T.moved fun ob hb => m2.heap S ob farw hb) (by omega) fun b hp' sb T' => ?_
    have et : zs.take i ++ [z] = zs.take (i + 1) := by
      rw [List.take_add_one, ez]
      rfl
    rw [et] at T'
    have apart : ∀ b ∈ fp, b ≠ S := fun b hb hyp => far (hyp ▸ hb)
    refine wpAny_pure ⟨plainId_quiet F.plain_set_update_loop _, ih (i + 1) _ (by omega) (Wk.frame _ s2 _ _ hs2 (Nat.le_succ _) fun b hb ob eb => (sb.2 b (apart b hb)).trans eb) ?_ T'⟩
    exact Moved.trans Wk.gtrans mv ((m2.mono inc).then_heap (Nat.le_succ _) fun b ob hb eb => (sb.2 b fun hyp => hb (hyp ▸ List.mem_cons_self)).trans eb)
/-- a set as it is made -/
abbrev fresh0 (w : World) : Obj := { cls := .type "set", dict := none, data := .set #[] 0 (.fresh 0 0 (!w.params.followText "set-order")) }
theorem fresh_tx {hp : Heap} {zs : List Str} (hyp : hp.get? S = some (fresh0 w)) : SetTx P w hp S (zs.take 0) 0 := by
  refine ⟨#[], ⟨_, 0, _, hyp, ⟨rfl, rfl, rfl⟩, rfl, by decide, rfl, List.Pairwise.nil, ?_⟩, fun e he => by simp at he, by simp, fun z => by simp, Nat.le_refl _⟩
  show _ ∨ (!w.params.followText
      "set-order") = true
  cases w.params.followText "set-order" with
  | false => exact .inr rfl
  | true => exact .inl rfl
/-- what a list and a tuple have alike, to be made a set of -/
structure Src (P : Program) (w : World) (l : Addr) (items : Array Value) (T : String) (it : Obj) (Sv : Addr → Nat → Heap → Prop) (Is : Heap → Prop) : Prop where
  s1 : isSubtype (.type T) (.type "set") = pure false
  s2 : isSubtype (.type T) (.type "frozenset") = pure false
  nd : (Value.type T == Value.type "dict") = false
  beg : Begins (.ref l) it Is
  walk : ∀ (A' : Around) (Iv : Addr), A'.handled = none → l ≠ Iv → Walks P w A' Iv [Iv, l] [Iv] items.size (fun i v => items[i]? = some v) (Sv Iv)
  st0 : ∀ (Iv : Addr) (hp : Heap), Is hp → hp.get? Iv = some it → Sv Iv 0 hp
set_option maxHeartbeats 6400000 in
theorem call_set_any {l : Addr} {items : Array Value} {T : String} {it : Obj} {Sv : Addr → Nat → Heap → Prop} {Is : Heap → Prop} {zs : List Str} {Q : Value → Shared → Prop} {od : Option Addr} {dt : Data} {sl : Array (Option Value)} (src : Src P w l items T it Sv Is) (hh : A.handled = none)
    (hol : st.heap.get? l = some { cls := .type T, dict := od, data := dt, slots := sl }) (is0 : Is st.heap) (val : ∀ (i : Nat) (v : Value), items[i]? = some v → ∃ (z : Str) (t : Tok), zs[i]? = some z ∧ v = Value.str z t) (hz : zs.length = items.size) (room : items.size + 1 < scanBound)
    (cont : ∀ (hp' : Heap) (tk : Nat), SetTx P w hp' st.heap.objs.size zs items.size → (∀ b ob, st.heap.get? b = some ob → hp'.get? b = some ob) → Q (.ref st.heap.objs.size) { st with heap := hp', toks := tk }) :
    wpAny (model P w) A (call (.type "set") [.ref l]) Q Er st := by
  obtain ⟨c, tl, hmro⟩
      := F.called_set.mro
  have hmade :=
      F.called_set.made
  have hsub := F.called_set.sub
  refine wpAny_call
      (codeAny_of_tree ?_)
  show wpAny _ _ (callAny
      (.type "set") _) _ _ _
  refine wpAny_pure ⟨Code.quiet_builtin _ (by decide +kernel),
      codeAny_builtin F.entry_type_call ?_⟩
  rw [Around.under_plain (weight_type_call_type
      "set" [.ref l] []) rfl]
  have nt := F.called_set.notType
  have cc := F.called_set.canCreate
  have tc := F.typeCall_set_1 (.ref l)
  repeat (any_goals (first
      | assumption | wp_step))
  refine codeAny_mono (code_set_led1 (.ref l) (E := Er) (Q₁ := fun obj sx => obj = .ref st.heap.objs.size ∧ sx = { st with heap := st.heap.push (fresh0 w) }) ⟨rfl, rfl⟩) fun r sx hr => ?_
  cases r with
  | error e => exact hr
  | ok fl =>
    cases fl with
    | ret obj =>
      obtain ⟨rfl, rfl⟩ := hr
      have hS : (st.heap.push (fresh0 w)).get? st.heap.objs.size = some (fresh0 w) := Heap.get?_push_size _ rfl
      have hT : Shared.TypeIs { st with heap := st.heap.push (fresh0 w) } (.ref st.heap.objs.size) "set" := ⟨_, hS, rfl⟩
      have li := F.called_set.init.lookup
      have bi := F.called_set.init.bind (.ref st.heap.objs.size)
      repeat (any_goals (first
          | assumption | wp_step))
      refine codeAny_mono (codeAny_call_builtin (R := wants (fun r s₂ => r = .none ∧ ∃ hp' tk, s₂ = { st with heap := hp', toks := tk } ∧ SetTx P w hp' st.heap.objs.size zs items.size ∧ (∀ b ob, st.heap.get? b = some ob → hp'.get? b = some ob)) Er)
        F.called_set.init.plain F.entry_set_init (check_set_init_1 hT ?_)) fun r₂ s₂ hr₂ => ?_
      · have hol2 : (st.heap.push (fresh0 w)).get? l = some { cls := .type T, dict := od, data := dt, slots := sl } := Heap.get?_push_of_some _ hol
        have e1 := src.s1
        have e2 := src.s2
        have e3 := src.nd
        have is1 : Is (st.heap.push (fresh0 w)) := src.beg.keeps _ _ is0 fun b ob e => Heap.get?_push_of_some _ e
        unfold Builtin.«set.__init__» noKeywords
            Builtin.Frozenset.updateFrom
        generalize hPI : pyIter = PI
        wp_walk
        subst hPI
        refine src.beg.iter P w _ _ _ _ is1 ?_
        refine wpAny_bind
            (wpAny_runValue ?_)
        have ls : l < st.heap.objs.size := Heap.lt_size hol
        have z1 : (st.heap.push (fresh0 w)).objs.size = st.heap.objs.size + 1 := Heap.size_push ..
        have hget : ((st.heap.push (fresh0 w)).push it).get? st.heap.objs.size = some (fresh0 w) := Heap.get?_push_of_some _ hS
        have lI : l ≠ (st.heap.push (fresh0 w)).objs.size := by
          rw [z1]
          exact Nat.ne_of_lt (Nat.lt_succ_of_lt ls)
        refine loop_texts (st := { st with heap := (st.heap.push (fresh0 w)).push it }) ((src.walk _ _ (by simp [hh]) lI).toS) ?_ zs hz room val (fun s1 mv T' => ?_) items.size 0 _ (by omega) ?_ ⟨fun _ _ _ e => e, rfl, rfl, rfl, Nat.le_refl _⟩ (fresh_tx hget)
        · rw [z1]
          intro hm
          rcases List.mem_cons.mp hm with hyp | hyp
          · exact Nat.ne_of_lt (Nat.lt_succ_self _) hyp
          · exact Nat.ne_of_gt ls (List.mem_singleton.mp hyp)
        · obtain ⟨hp', g', d', tk', os'⟩ := s1
          obtain rfl : g' = st.gens := mv.gens
          obtain rfl : d' = st.drawn := mv.drawn
          obtain rfl : os' = st.os := mv.os
          show wpAny _ _ _ _ _ _
          refine wpAny_pure ?_
          show wpAny _ _ (ret
              Value.none) _ _ _
          refine wpAny_pure ⟨rfl, hp', tk', rfl, T', fun b ob e => ?_⟩
          have bl := Heap.lt_size e
          refine mv.heap b ob ?_ (Heap.get?_push_of_some _ (Heap.get?_push_of_some _ e))
          rw [z1]
          intro hm
          rcases List.mem_cons.mp hm with hyp | hyp
          · exact Nat.ne_of_lt bl hyp
          · exact Nat.ne_of_lt (Nat.lt_succ_of_lt bl) (List.mem_singleton.mp hyp)
        · exact src.st0 _ _ (src.beg.keeps _ _ is1 fun b ob e => Heap.get?_push_of_some _ e) (Heap.get?_push_size _ src.beg.free)
      · cases r₂ with
        | error e => exact hr₂
        | ok fl₂ =>
          cases fl₂ with
          | ret r =>
            obtain ⟨rfl, hp', tk, rfl, T', kp⟩ := hr₂
            repeat (any_goals (first
                | assumption | wp_step))
            exact cont hp' tk T' kp
          | _ => exact hr₂.elim
    | _ => exact hr.elim
theorem src_list (l : Addr) (items : Array Value) : Src P w l items "list" { cls := .type "list_iterator", data := .fields #[.ref l, .int 0 0] } (fun Iv i hp => hp.IsListIter Iv l i ∧ hp.IsList l items) (fun hp => hp.IsList l items) :=
  ⟨F.sub_list_set, F.sub_list_frozenset, by decide, begins_list l items, fun A' Iv hh hne => Walks.list hh Iv l hne items, fun Iv hp h1 h2 => ⟨⟨_, h2, rfl, rfl⟩, h1⟩⟩
theorem src_tuple (l : Addr) (items : Array Value) : Src P w l items "tuple" { cls := .type "tuple_iterator", data := .fields #[.ref l, .int 0 0] } (fun Iv i hp => hp.IsTupleIter Iv l i ∧ hp.IsTuple l items) (fun hp => hp.IsTuple l items) :=
  ⟨F.sub_tuple_set, F.sub_tuple_frozenset, by decide, begins_tuple l items, fun A' Iv hh hne => Walks.tuple hh Iv l hne items, fun Iv hp h1 h2 => ⟨⟨_, h2, rfl, rfl⟩, h1⟩⟩
theorem strs_of_txts : ∀ (l : List (Int × Value)), Txts P w l → StrsAre (l.map (·.2)) (l.map txt)
  | [], _ => .nil
  | e :: l, g => by
    obtain ⟨z, t, e1, _⟩ := g e List.mem_cons_self
    have cont : txt e = z := by
      unfold txt
      rw [e1]
    rw [List.map_cons, List.map_cons, e1, cont]
    exact .cons z t (strs_of_txts l fun x hx => g x (List.mem_cons_of_mem _ hx))
theorem sorted_setTx {zs : List Str} {n : Nat} {Q : Value → Shared → Prop} (T : SetTx P w st.heap S zs n) (hh : A.handled = none)
    (cont : ∀ s1 p (out : Array Value) (c : Nat) (ys : List Str), (∀ b ob, st.heap.get? b = some ob → s1.heap.get? b = some ob) → s1.gens = st.gens → s1.os = st.os → st.heap.objs.size ≤ p → s1.heap.get? p = some (seqObj "list" out c) →
      StrsAre out.toList ys → sortedS ys = true → ys.Nodup → (∀ z, z ∈ ys ↔ z ∈ zs) → ys.length ≤ n → Q (.ref p) s1) :
    wpAny (model P w) A (call (.builtin "sorted") [.ref S]) Q Er st := by
  obtain ⟨ms, ⟨ob, ep, tb, h0, hx, hd, b0, f0, r0, l0⟩, g, nd, hm, hn⟩ := T
  refine Calls.call_function_entry kind_sorted
      plain_sorted entry_sorted (args_sorted1 _) ?_
  unfold Builtin.«sorted»
  refine wpAny_bind (m := checkCount "sorted" 1 1 _) (wpAny_pure (wpAny_bind (collect_set (A := A.in1) hh ⟨ob, h0, hx.1, hd⟩ f0 b0 r0 l0 fun s1 vs k1 z1 g1 o1 pm => ?_)))
  have lv : vs.length ≤ n := by
    rw [pm.length_eq, List.length_map, Array.length_toList]
    exact hn
  have lv2 : vs.length ≤ sizeLine := by
    rw [pm.length_eq, List.length_map, Array.length_toList]
    exact fits_of_scanBound b0
  have hS : StrsAre vs (vs.map strOf) := strsAre_map vs fun v hv => by
    obtain ⟨e, he, ev⟩ := List.mem_map.mp (pm.mem_iff.mp hv)
    obtain ⟨z, t, e1, _⟩ := g e he
    exact ⟨z, t, by rw [← ev, e1]⟩
  have pk : (vs.map strOf).Perm (ms.toList.map txt) := by
    have q1 := pm.map strOf
    rw [(strs_of_txts ms.toList g).strs] at q1
    exact q1
  refine wpAny_bind (wpAny_newList ?_ lv2)
  have hL : (s1.heap.push (seqObj "list" vs.toArray 0)).get? s1.heap.objs.size = some (seqObj "list" vs.toArray 0) := Heap.get?_push_size _ rfl
  refine wpAny_bind (wpAny_holding (wpAny_call_entry PyProof.Rows.slot_list_sort ⟨_, hL, rfl⟩ PyProof.Rows.entry_list_sort
    (list_sort_treeKAny strKind_oneLt hL hS.keysOf (fun v₁ v₂ rest e => keyKind_strs (by rw [← e]; exact hS)) lv2 fun sx hp hs => ⟨_, rfl, ?_⟩) (PyProof.Rows.args_list_sort _)))
  obtain ⟨ys, y1, y2, y3⟩ := sorted_out_str hS hp hs
  obtain ⟨c, hc⟩ := sortedHeap_at (vs := vs) (out := (arrOf sx).map (·.2)) hL
  have py := y2.trans pk
  refine wpAny_pure ⟨_, rfl, cont _ s1.heap.objs.size _ c ys (fun b u e => ?_) g1 o1 z1 hc y1 y3 (py.nodup_iff.mpr nd) (fun z => by rw [py.mem_iff, hm z]) ?_⟩
  · have e1 := k1 b u e
    have lt := Heap.lt_size e1
    show (sortedHeap (s1.heap.push (seqObj "list" vs.toArray 0)) s1.heap.objs.size vs ((arrOf sx).map (·.2))).get? b = some u
    rw [sortedHeap_old (Nat.ne_of_lt lt) (by rw [size_push']; exact Nat.lt_succ_of_lt lt)]
    exact Heap.get?_push_of_some _ e1
  · rw [y2.length_eq, List.length_map]
    exact lv
end
/-! ### the rule -/
/-- sorted(set(a)), a list or a tuple of texts -/
def tSortSet (K : PySem.W.Frag) (ta : TE) : TE := fun σ H Q => ta σ H fun x H1 => ∃ (l : Addr) (zs : List Str), x = .ref l ∧ (SqL K H1 l (zs.map V.str) ∨ SqT K H1 l (zs.map V.str)) ∧ zs.length ≤ 1000 ∧
  ∀ (ys : List Str) (p : Addr), sortedS ys = true → ys.Nodup → (∀ z, z ∈ ys ↔ z ∈ zs) → ys.length ≤ zs.length → H1 p = none → Q (.ref p) (upd H1 p (.lst (ys.map V.str)))
section
variable {X : Cx}
theorem vals_get {zs : List Str} {its : List Value} (r : Vals (zs.map V.str) its) (i : Nat) (v : Value) (hyp : its[i]? = some v) : ∃ (z : Str) (t : Tok), zs[i]? = some z ∧ v = Value.str z t := by
  have hl := r.length
  rw [List.length_map] at hl
  have hi : i < zs.length := by
    rw [hl]
    exact (List.getElem?_eq_some_iff.mp hyp).1
  obtain ⟨u, hu, ru⟩ := r.get (i := i) (x := V.str zs[i]) (by rw [List.getElem?_map, List.getElem?_eq_getElem hi]; rfl)
  rw [hyp] at hu
  obtain rfl : v = u := Option.some.inj hu
  obtain ⟨t, et⟩ := ru
  exact ⟨zs[i], t, List.getElem?_eq_getElem hi, et⟩
theorem len_of {zs : List Str} {its : List Value} (r : Vals (zs.map V.str) its) : zs.length = its.toArray.size := by
  have cont := r.length
  rw [List.length_map] at cont
  rw [List.size_toArray, cont]
theorem room_of {zs : List Str} {its : List Value} (r : Vals (zs.map V.str) its) (hyp : zs.length ≤ 1000) : its.toArray.size + 1 < scanBound := by
  rw [← len_of r]
  unfold scanBound
  omega
theorem pe_sortSet {a : Expr} {ta : TE} {p p2 q2 pos : Pos} (hc : X.calm = true) (hg : Gl X "sorted") (hm : X.mg "sorted" = none) (hg2 : Gl X "set") (hm2 : X.mg "set" = none) (ha : PE X a ta) (na : starEach [a] X.env = (false, eval a X.env) :: starEach [] X.env := by rfl) :
    PE X (.Call (.Name "sorted" p) [.Call (.Name "set" p2) [a] [] q2] [] pos) (tSortSet X.K ta) := by
  refine ⟨fun pins s σ H Q Iv hyp => ?_⟩
  refine Call_ (ld_blt Iv hg hm (show bootBuiltins "sorted" = some (.builtin "sorted") by decide +kernel) (PyProof.Rows.callWith_builtin1 (PyProof.Rows.args_cons ?_ rfl) rfl rfl))
  refine Call_ (ld_blt Iv hg2 hm2 boot_set (PyProof.Rows.callWith_type1 (PyProof.Rows.args_cons (thn (ha.run pins s σ H _ Iv hyp) fun v s1 ⟨x, H1, Iv1, r1, q1⟩ => PyProof.Rows.args_nil ?_) na) na rfl))
  obtain ⟨l, zs, rfl, hq, h1, q1⟩ := q1
  cases r1
  have fin : ∀ (its : List Value), Vals (zs.map V.str) its → ∀ (hp' : Heap) (tk : Nat), SetTx X.prog X.w hp' s1.heap.objs.size zs its.toArray.size → (∀ b ob, s1.heap.get? b = some ob → hp'.get? b = some ob) →
      wpAny (model X.prog X.w) X.A (spliced (backTo pos (starEach [] X.env))) (fun vs s₂ => wpAny (model X.prog X.w) X.A (call (.builtin "sorted") (Value.ref s1.heap.objs.size :: vs)) (EP X pins σ Q) X.xe s₂) X.xe { s1 with heap := hp', toks := tk } := fun its r hp' tk T kp => by
    refine PyProof.Rows.args_nil
        ?_
    have Iv2 : Inv X pins σ H1 { s1 with heap := hp', toks := tk } := Iv1.kept kp
    have n1 : its.toArray.size = zs.length := by
      have cont := r.length
      rw [List.length_map] at cont
      rw [List.size_toArray, cont]
    rw [n1] at T
    refine sorted_setTx T (Iv1.ok.hd hc) fun s3 p' out c ys k3 g3 o3 z3 hp3 y1 y2 y3 y4 y5 => ?_
    have Iv3 := Iv2.tok tk
    have hn : H1 p' = none := Iv2.hok.fresh z3
    have big : (ys.map V.str).length ≤ sizeLine := by
      rw [List.length_map,
          sizeLine_eq]
      omega
    obtain ⟨hp4, g4, d4, t4, o4⟩ := s3
    obtain rfl : o4 = s1.os := o3
    have bare4 : AllBare g4 := by
      rw [show g4 = s1.gens from g3]
      exact Iv2.bare
    have un : Un X.fs [] H1 (upd H1 p' (.lst (ys.map V.str))) hp' hp4 := Un.laid k3 z3 hn
    have ok4 : HOk X.prog X.w (upd H1 p' (.lst (ys.map V.str))) hp4 := Iv2.hok.laid k3 z3 ⟨big, out.toList, c, vals_of_strs y1, hp3⟩
    exact ⟨.ref p', _, L2.Inv.call (s := { s1 with heap := hp', toks := tk }) Iv2 (ch := []) (Un.laid k3 z3 hn) ok4 bare4 (fun _ z => nomatch z), rfl, q1 ys p' y2 y3 y4 y5 hn⟩
  rcases hq with hq | hq
  · obtain ⟨its, r, pl, hz⟩ := Iv1.list hq
    obtain ⟨⟨c0, d0, dt0, sl0⟩, ho, hc0, n0, hd0⟩ := pl.isList
    obtain rfl : c0 = Value.type "list" := hc0
    exact call_set_any (src_list l its.toArray) (Iv1.ok.hd hc) ho pl.isList (fun i v hv => vals_get r i v (by simpa using hv)) (len_of r) (room_of r h1) fun hp' tk T kp => fin its r hp' tk T kp
  · obtain ⟨its, r, pl, hz⟩ := Iv1.tuple hq
    obtain ⟨⟨c0, d0, dt0, sl0⟩, ho, hc0, n0, hd0⟩ := id pl
    obtain rfl : c0 = Value.type "tuple" := hc0
    exact call_set_any (src_tuple l its.toArray) (Iv1.ok.hd hc) ho pl (fun i v hv => vals_get r i v (by simpa using hv)) (len_of r) (room_of r h1) fun hp' tk T kp => fin its r hp' tk T kp
end
end TxS
/-! static methods called through their class; instances made by a starred or an empty argument list -/
namespace SmX
open PySem PySem.Spec PyProof.Rows L2 StX ClX
section
variable {X : Cx} {CX : CXT} {k i : Nat} {f C : Addr} {sp : Sp} {E : XK}
    {x m : Str} {e o : Expr} {es : List Expr} {te ta : TE} {t : TA} {p sp_ pos apos : Pos}
/-- C(*y) -/
theorem pe_makeS1 (M : Mk X.K C f) (F : FnR X.prog X.w X.K X.mg X.base CX k f sp) (hr : Room (k + 1) X.A) (hg : Gl X x) (hm : X.mg x = some (.ref C)) (hx : Passes CX X E) (he : PE X e te) (hd : (x == ("__debug__" : Str)) = false := by decide)
    (hst : starEach [.Starred e sp_] X.env
        = [(true, eval e X.env)] := by rfl) :
    PE X (.Call (.Name x p) [.Starred e sp_] [] pos) (fun σ H Q => te σ H fun y H1 => ∃ a xs, y = V.ref a ∧ (SqT X.K H1 a xs ∨ SqL X.K H1 a xs) ∧ ∀ x dx, H1 x = Option.none → H1 dx = Option.none → dx ≠ x →
      sp (V.ref x :: xs) (upd (upd H1 dx (.own x)) x (.ins C dx [])) (fun v H2 => v = .non ∧ Q (.ref x) H2) E) := by
  refine ⟨fun pins s σ H Q Iv hyp => ?_⟩
  refine wpAny_Call_Name_kw (ld_glob Iv hg hm ?_ hd)
  refine PySem.W.callWith_S (h₀ := X.base) Iv.ok.mod.kin M.kp (thn (he.run pins s σ H _ Iv hyp) fun v st1 ⟨y, H1, Iv1, relY, a, xs, ey, hxs, cont⟩ => ?_) hst
  subst ey
  obtain rfl : v = Value.ref a := relY
  exact star_any Iv1 hxs fun us st2 Iv2 rv => ⟨Iv2.kIn, run_makeR M F hr hx Iv2 rv cont⟩
/-- C() -/
theorem pe_makeR0 (M : Mk X.K C f) (F : FnR X.prog X.w X.K X.mg X.base CX k f sp) (hr : Room (k + 1) X.A) (hg : Gl X x) (hm : X.mg x = some (.ref C)) (hx : Passes CX X E) (hd : (x == ("__debug__" : Str)) = false := by decide) :
    PE X (.Call (.Name x p) [] [] pos) (tMakeR C sp E tNil) := by
  refine ⟨fun pins s σ H Q Iv hyp => ?_⟩
  refine wpAny_Call_Name_kw (ld_glob Iv hg hm ?_ hd)
  exact PySem.W.callWith_K0 Iv.kIn M.kp (run_makeR (us := []) (vs := []) M F hr hx Iv .nil hyp)
end
/-- C.m is a staticmethod: its record at p, its def at g -/
structure SMet (K : PySem.W.Frag) (C : Addr) (mc : Value) (m : Str) (p g : Addr) : Prop where
  at_ : PySem.W.findCls K (.ref C) mc m = some (.get (.builtin "staticmethod.__get__") (.ref p) .none (.ref C))
  rc : ∃ rest, PySem.W.recIn K p "staticmethod" = some (.ref g :: rest)
  kp : PySem.W.keepIn K (.ref g) = true
def tSMeth (C : Addr) (sp : Sp) (E : XK) (ta : TE) (t : TA) : TE := fun σ H Q => ta σ H fun x H1 => x = .ref C ∧ t σ H1 fun vs H2 => sp vs H2 Q E
def tSMethK (C : Addr) (m : Nat) (sp : Sp) (gV : List V → List V → List V) (E : XK) (ta : TE) (tk : TA) : TE := fun σ H Q => ta σ H fun x H1 => x = .ref C ∧ tk σ H1 fun zs H2 => zs.length = m ∧ sp (gV [] zs) H2 Q E
section
variable {X : Cx} {CX : CXT} {k : Nat} {C p g : Addr} {mc : Value} {sp : Sp} {E : XK} {o e : Expr} {es : List Expr} {f m : Str} {pos apos : Pos} {ta : TE} {t tk : TA} {pl : Sem Bool} {pins : List (Addr × Obj)} {σ : L2.St} {H : Hp} {s : Shared} {A : Around} {E' : Value → Shared → Prop}
theorem getmethsm_ok {Q : Value × List Value → Shared → Prop} (Iv : Inv X pins σ H s) (r : CRead X.K C mc) (k : SMet X.K C mc m p g) (hyp : ∀ s', Inv X pins σ H s' → Q (.ref g, []) s') : wpAny (model X.prog X.w) A (getMethod (.ref C) m pl) Q E' s := by
  obtain ⟨rest, hp⟩ := k.rc
  refine PySem.W.method_cls Iv.kIn r.ga (PySem.W.cls_bind Iv.kIn r.rd k.at_ ?_)
  exact wpAny_call (PySem.W.sm_get (s := { s with toks := s.toks + 1 }) Iv.kIn hp (PySem.W.handed_on rfl (hyp _ (Iv.tok _))))
theorem pe_smeth (he : PE X o ta) (r : CRead X.K C mc) (c : SMet X.K C mc m p g) (F : FnR X.prog X.w X.K X.mg X.base CX k g sp) (hr : Room k X.A) (hx : Passes CX X E) (ha : PA X (e :: es) t)
    (hst : starEach (e :: es) X.env = (false, eval e X.env) :: starEach es
        X.env := by rfl) (hpl : (backTo pos (starEach es X.env)).any (·.1) = false := by rfl)
    (ht : eval (.Call (.Attribute o
        m apos) (e :: es) [] pos) X.env = (do
      let ov ← eval o X.env
      standAt apos.atName
      let (f, first) ← holding
          [ov] (getMethod ov m pl)
      callWith pos f first (backTo pos (starEach (e :: es)
          X.env)) (backToKw pos (keywordEach [] X.env))) := by rfl) :
    PE X (.Call (.Attribute o m apos) (e :: es) [] pos) (tSMeth C sp E ta t) := by
  refine ⟨fun pins s σ H Q Iv hyp => ?_⟩
  refine PySem.W.methodCall_KW (pl := pl) (thn (he.run pins s σ H _ Iv hyp) fun usV st1 ⟨x, H1, Iv1, relX, ex, cont⟩ => ?_) ht
  subst ex
  obtain rfl : usV = Value.ref C := relX
  refine getmethsm_ok Iv1 r c fun st2 Iv2 => ?_
  refine PySem.W.callWith_K (h₀ := X.base) Iv.ok.mod.kin c.kp (thn (ha.run pos pins st2 σ H1 _ Iv2 cont) fun us st3 ⟨vs, H2, Iv3, rv, q2⟩ => ⟨Iv3.kIn, ?_⟩) hst hpl
  exact wpAny_call (run_fnR F hr hx Iv3 rv q2)
theorem pe_smethK {fd : FuncData} {ps ks : List Str} {kws : List Keyword} {gg : List Value → List Value → List Value} {gV : List V → List V → List V} (he : PE X o ta) (r : CRead X.K C mc) (c : SMet X.K C mc m p g) (F : FnOk X.prog X.w X.K X.mg X.base CX k g fd ps sp) (hb : KBn X.K fd ps 0 ks gg gV) (hr : Room k X.A) (hx : Passes CX X E) (hkw : PK X kws tk)
    (hall : (backToKw pos (keywordEach kws X.env)).all (·.1.isSome) = true := by rfl) (hks : (backToKw pos (keywordEach kws X.env)).filterMap (·.1) = ks := by rfl)
    (hpl : ((backTo pos (starEach [] X.env)).any (·.1) || (backToKw pos (keywordEach kws X.env)).any (·.1.isNone)) = false := by rfl)
    (ht : eval (.Call (.Attribute o m apos) [] kws pos) X.env = (do
      let ov ← eval o X.env
      standAt apos.atName
      let (f, first) ← holding
          [ov] (getMethod ov m pl)
      callWith pos f first (backTo pos (starEach [] X.env)) (backToKw pos (keywordEach kws X.env))) := by rfl) :
    PE X (.Call (.Attribute o m apos) [] kws pos) (tSMethK C ks.length sp gV E ta tk) := by
  refine ⟨fun pins s σ H Q Iv hyp => ?_⟩
  refine PySem.W.methodCall_KW (pl := pl) (thn (he.run pins s σ H _ Iv hyp) fun usV st1 ⟨x, H1, Iv1, relX, ex, cont⟩ => ?_) ht
  subst ex
  obtain rfl : usV = Value.ref C := relX
  refine getmethsm_ok Iv1 r c fun st2 Iv2 => ?_
  refine PySem.W.callWith_KW0 (h₀ := X.base) Iv.ok.mod.kin c.kp hall ?_ hpl
  refine thn (hkw.run pos pins st2 σ H1 _ Iv2 cont) fun ws st3 ⟨zs, H2, Iv3, rz, l2, q2⟩ => ⟨Iv3.kIn, ?_⟩
  rw [hks]
  exact run_fnN (us := []) (vs := []) (n := 0) F hr hb hx Iv3 .nil rz rfl l2 q2
end
end SmX
/-! repr of data of any depth -/
namespace RpD
open PySem PySem.Spec
open PyProof.Rows L2
section
variable {X : Cx}
structure Shows (d : PyData) : Prop where
  sh : d.showable = true
  nd : d.hasDict = false
  dp : d.depth ≤ 20
  sz : d.shown.length ≤ sizeLine
/-- repr(x) -/
theorem call_reprD (hg : X.A.guards = some []) (hu : X.A.units + 100 < cLine) : CallR X (.builtin "repr") (fun xs H Q => ∃ x d, xs = [x] ∧ Dp X.K H x d ∧ Shows d ∧ Q (.str d.shown) H) := by
  intro pins s σ H xs us Q Iv r h
  obtain ⟨x, d, rfl, hd, S, q⟩ := h
  cases r with
  | cons r rr =>
    cases rr
    rename_i u
    obtain ⟨as, R⟩ := Dp.reads Iv d x u hd r
    have dp := S.dp
    have go : ∀ {a : Addr}, u = .ref a → wpAny (model X.prog X.w) X.A (call (.builtin "repr") [u]) (EP X pins σ Q) X.xe s := fun {a} e => by
      subst e
      refine repr_of_reads' R S.sh (fun e => by rw [S.nd] at e; cases e) hg (by omega) (fun _ _ e => e) (fun h' t tk kp => ⟨.str d.shown, H, Iv.kept kp, ⟨t, rfl⟩, q⟩) S.sz
    cases hd with
    | non =>
      cases r
      exact P.repr_of_none ⟨.str _, H, Iv.tok _, ⟨_, rfl⟩, q⟩
    | bl b =>
      cases r
      exact P.repr_of_bool ⟨.str _, H, Iv.tok _, ⟨_, rfl⟩, q⟩
    | int i =>
      obtain ⟨t, rfl⟩ := r
      have e : i.natAbs.log2 < 1920 := by simpa [PyData.showable] using S.sh
      exact P.repr_of_int e ⟨.str _, H, Iv.tok _, ⟨_, rfl⟩, q⟩
    | str z =>
      obtain ⟨t, rfl⟩ := r
      exact P.repr_of_str ⟨.str _, H, Iv.tok _, ⟨_, rfl⟩, q⟩ S.sz
    | lst h1 h2 =>
      cases r
      exact go rfl
    | tup h1 h2 =>
      cases r
      exact go rfl
end
/-! ### how long a text of data is -/
mutual
def wide : PyData → Nat
  | .none => 5
  | .bool _ => 5
  | .int _ => 5
  | .str x => 10 * x.length + 2
  | .list xs => wideAll xs + 3
  | .tuple xs => wideAll xs + 3
  | .dict _ => 0
def wideAll : List PyData → Nat
  | [] => 0
  | x :: xs => wide x + 2 + wideAll xs
end
mutual
def plainD : PyData → Bool
  | .none => true
  | .bool _ => true
  | .int i => decide (0 ≤ i ∧ i < 1000)
  | .str x => x.cps.toList.all
      fun c => decide (c < 16 ^ 8)
  | .list xs => plainAll xs
  | .tuple xs => plainAll xs
  | .dict _ => false
def plainAll :
    List PyData → Bool
  | [] => true
  | x :: xs => plainD x && plainAll xs
end
theorem dec1000 : ((List.range 1000).all fun n => decide ((toString (n : Int) : Str).length ≤ 5)) = true := by decide +kernel
theorem shown_int {i : Int} (h : 0 ≤ i ∧ i < 1000) : (toString i : Str).length ≤ 5 := by
  have q := (List.all_eq_true.mp dec1000) i.toNat (List.mem_range.mpr (by omega))
  have e : ((i.toNat : Nat) : Int) = i := by omega
  rw [e] at q
  exact of_decide_eq_true q
theorem log_small {i : Int} (h : 0 ≤ i ∧ i < 1024) : i.natAbs.log2 < 1920 := by
  by_cases h0 : i.natAbs = 0
  · rw [h0]
    decide
  · refine (Nat.log2_lt h0).mpr ?_
    refine Nat.lt_of_lt_of_le (show i.natAbs < 2 ^ 10 by omega) (Nat.pow_le_pow_right (by decide) (by decide))
mutual
theorem shown_le : ∀ d : PyData, plainD d = true → d.shown.length ≤ wide d ∧ d.showable = true ∧ d.hasDict = false
  | .none, _ => ⟨by decide +kernel, rfl, rfl⟩
  | .bool b, _ => ⟨by cases b <;> decide +kernel, rfl, rfl⟩
  | .int i, h => by
    have q : 0 ≤ i ∧ i < 1000 := of_decide_eq_true h
    exact ⟨shown_int q, decide_eq_true (log_small ⟨q.1, by omega⟩), rfl⟩
  | .str x, h => by
    refine ⟨StrLaws.reprText_len x fun c hc => of_decide_eq_true ((List.all_eq_true.mp h) c hc), rfl, rfl⟩
  | .list xs, h => by
    obtain ⟨a, b, c⟩ := shown_all xs h
    refine ⟨?_, b, c⟩
    show (listText (PyData.shownAll xs)).length ≤ wideAll xs + 3
    have := listText_len_le (PyData.shownAll xs)
    omega
  | .tuple xs, h => by
    obtain ⟨a, b, c⟩ := shown_all xs h
    refine ⟨?_, b, c⟩
    show (tupleText (PyData.shownAll xs)).length ≤ wideAll xs + 3
    have := tupleText_len_le (PyData.shownAll xs)
    omega
  | .dict _, h => by cases h
theorem shown_all : ∀ xs : List PyData, plainAll xs = true → ((PyData.shownAll xs).map (·.length)).sum + 2 * (PyData.shownAll xs).length ≤ wideAll xs ∧ PyData.showableAll xs = true ∧ PyData.hasDictAll xs = false
  | [], _ => ⟨Nat.le_refl _, rfl, rfl⟩
  | x :: xs, h => by
    have h : (plainD x && plainAll xs) = true := h
    rw [Bool.and_eq_true] at h
    obtain ⟨a, b, c⟩ := shown_le x h.1
    obtain ⟨a2, b2, c2⟩ := shown_all xs h.2
    refine ⟨?_, ?_, ?_⟩
    · show ((x.shown :: PyData.shownAll xs).map (·.length)).sum + 2 * (x.shown :: PyData.shownAll xs).length ≤ wide x + 2 + wideAll xs
      rw [List.map_cons, List.sum_cons, List.length_cons]
      omega
    · show (x.showable && PyData.showableAll xs) = true
      rw [b, b2]
      rfl
    · show (x.hasDict || PyData.hasDictAll xs) = false
      rw [c, c2]
      rfl
end
theorem Shows.of {d : PyData} (h : plainD d = true) (hd : d.depth ≤ 20) (hw : wide d ≤ 16000000) : Shows d := by
  obtain ⟨a, b, c⟩ := shown_le d h
  exact ⟨b, c, hd, by rw [sizeLine_eq]; omega⟩
end RpD
namespace K1
open PySem PySem.Spec
open PyProof.Rows L2 EnT StX SmX TxS DuX
def baseTys : List String := ["NoneType", "bool", "int", "str", "list", "tuple", "dict"]
theorem VOk.ty {K : PySem.W.Frag} {H : Hp} {v : V} (h : VOk H v) : ∃ t, t ∈ baseTys ∧ TyX K H v (.type t) := by
  rcases h with ⟨z, rfl, _⟩ | h
  · exact ⟨"str", by decide, .base (.str z)⟩
  cases h with
  | non => exact ⟨"NoneType", by decide, .base .non⟩
  | bl b => exact ⟨"bool", by decide, .base (.bl b)⟩
  | int i => exact ⟨"int", by decide, .base (.int i)⟩
  | lst e => exact ⟨"list", by decide, .base (.lst e)⟩
  | tup e => exact ⟨"tuple", by decide, .base (.tup e)⟩
  | dK e => exact ⟨"dict", by decide, .base (.dK e)⟩
theorem VOk.isStr {K : PySem.W.Frag} {H : Hp} {v : V} (h : VOk H v) : ∃ t b, TyX K H v (.type t) ∧ PySem.W.kitOne K (.type t) (.type "str") = some b ∧ (b = true → ∃ z, v = .str z) ∧ (b = false → NoStr H v) := by
  rcases h with ⟨z, rfl, _⟩ | h
  · exact ⟨"str", true, .base (.str z), kit_ty (by decide +kernel), fun _ => ⟨z, rfl⟩, fun e => by cases e⟩
  have h0 := h
  cases h with
  | non => exact ⟨"NoneType", false, .base .non, kit_ty (by decide +kernel), fun e => (by cases e), fun _ => h0⟩
  | bl b => exact ⟨"bool", false, .base (.bl b), kit_ty (by decide +kernel), fun e => (by cases e), fun _ => h0⟩
  | int i => exact ⟨"int", false, .base (.int i), kit_ty (by decide +kernel), fun e => (by cases e), fun _ => h0⟩
  | lst e => exact ⟨"list", false, .base (.lst e), kit_ty (by decide +kernel), fun e => (by cases e), fun _ => h0⟩
  | tup e => exact ⟨"tuple", false, .base (.tup e), kit_ty (by decide +kernel), fun e => (by cases e), fun _ => h0⟩
  | dK e => exact ⟨"dict", false, .base (.dK e), kit_ty (by decide +kernel), fun e => (by cases e), fun _ => h0⟩
theorem name_short {z : Str} (h : nameB z = true) : z.length ≤ 8 := by
  unfold nameB at h
  by_cases h8 : 8 < z.length
  · rw [if_pos h8] at h
    cases h
  · omega
/-! ### texts as data -/
def strD (zs : List Str) : List PyData := zs.map PyData.str
theorem dpAll_str {K : PySem.W.Frag} {H : Hp} : ∀ zs : List Str, DpAll K H (zs.map V.str) (strD zs)
  | [] => .nil
  | z :: r => .cons (.str z) (dpAll_str r)
def OkS (zs : List Str) : Prop := ∀ z ∈ zs, PyData.strOk z = true
theorem strD_lay : ∀ zs : List Str, OkS zs → PyData.canLayAll0 (strD zs) = true
  | [], _ => by simp [strD, PyData.canLayAll0]
  | z :: zs, h => by
    have := strD_lay zs fun y hy => h y (List.mem_cons_of_mem _ hy)
    have h1 := h z List.mem_cons_self
    simp only [strD] at this
    simp [strD, PyData.canLayAll0, PyData.canLay0, this, h1]
theorem name_low {z : Str} (h : nameB z = true) : ∀ c ∈ z.cps.toList, c < 128 := by
  unfold nameB at h
  split at h
  · cases h
  split at h
  · cases h
  · rename_i h2
    have e : z.cps.all (· < 128) = true := by
      cases q : Txt.isascii z with
      | true => exact q
      | false => exact absurd q h2
    rw [← Array.all_toList] at e
    exact fun c hc => of_decide_eq_true ((List.all_eq_true.mp e) c hc)
theorem strOk_low {z : Str} (h : ∀ c ∈ z.cps.toList, c < 128) : PyData.strOk z = true := by
  show z.cps.all (· < 0x110000) = true
  rw [← Array.all_toList]
  exact List.all_eq_true.mpr fun c hc => decide_eq_true (Nat.lt_trans (h c hc) (by decide))
theorem okS_names {zs : List Str} (h : ∀ z ∈ zs, nameB z = true) : OkS zs := fun z hz => strOk_low (name_low (h z hz))
theorem strD_depth : ∀ zs : List Str, PyData.depthAll (strD zs) = 0
  | [] => by simp [strD, PyData.depthAll]
  | z :: zs => by
    have := strD_depth zs
    simp only [strD] at this
    simp [strD, PyData.depthAll, PyData.depth, this]
theorem tupD_shaped {zs : List Str} (h : OkS zs) : SeqAt.shaped (.tuple (strD zs)) = true := by
  show (PyData.canLay0 (.tuple (strD zs)) && decide (PyData.depth (.tuple (strD zs)) ≤ 64)) = true
  rw [Bool.and_eq_true]
  refine ⟨by simp only [PyData.canLay0]; exact strD_lay zs h, decide_eq_true ?_⟩
  simp only [PyData.depth]
  rw [strD_depth]
  omega
theorem lstD_shaped {zs : List Str} (h : OkS zs) : SeqAt.shaped (.list (strD zs)) = true := by
  show (PyData.canLay0 (.list (strD zs)) && decide (PyData.depth (.list (strD zs)) ≤ 64)) = true
  rw [Bool.and_eq_true]
  refine ⟨by simp only [PyData.canLay0]; exact strD_lay zs h, decide_eq_true ?_⟩
  simp only [PyData.depth]
  rw [strD_depth]
  omega
theorem strD_eqv : ∀ zs ws : List Str, PyData.eqvAll (strD zs) (strD ws) = decide (zs = ws)
  | [], [] => by simp [strD, PyData.eqvAll]
  | [], w :: ws => by simp [strD, PyData.eqvAll]
  | z :: zs, [] => by simp [strD, PyData.eqvAll]
  | z :: zs, w :: ws => by
    have ih := strD_eqv zs ws
    simp only [strD] at ih
    simp only [strD, List.map_cons, PyData.eqvAll, PyData.eqv, ih]
    by_cases h : z = w
    · subst h
      simp
    · have : (z == w) = false := beq_eq_false_iff_ne.mpr h
      rw [this]
      simp [h]
end K1

namespace K1
open PySem PySem.Spec
open PyProof.Rows L2 EnT StX SmX TxS DuX
theorem len_sub : ∀ {ys zs : List Str}, ys.Nodup → (∀ z ∈ ys, z ∈ zs) → ys.length ≤ zs.length
  | [], _, _, _ => Nat.zero_le _
  | y :: r, zs, nd, s => by
    have nd' := List.nodup_cons.mp nd
    have hy := s y List.mem_cons_self
    have h := len_sub (zs := zs.erase y) nd'.2 fun z hz => (List.mem_erase_of_ne fun e => nd'.1 (by rw [← e]; exact hz)).mpr (s z (List.mem_cons_of_mem _ hz))
    rw [List.length_erase_of_mem hy] at h
    have := List.length_pos_of_mem hy
    rw [List.length_cons]
    omega
theorem upd_upd {H : Hp} {d : Addr} {x y : HO} : upd (upd H d x) d y = upd H d y := by
  funext b
  by_cases h : b = d
  · rw [h, upd_same, upd_same]
  · rw [upd_ne h, upd_ne h, upd_ne h]
theorem filt_succ {zs : List Str} {i : Nat} {z : Str} {p : Str → Bool} (h : zs[i]? = some z) : (zs.take (i + 1)).filter p = (zs.take i).filter p ++ if p z = true then [z] else [] := by
  rw [List.take_add_one, h, List.filter_append]
  congr 1
  by_cases e : p z = true
  · rw [if_pos e]
    simp [e]
  · rw [if_neg e]
    simp [e]
theorem map_succ {zs : List Str} {i : Nat} {z : Str} {g : Str → V} (h : zs[i]? = some z) : (zs.take (i + 1)).map g = (zs.take i).map g ++ [g z] := by
  rw [List.take_add_one, h, List.map_append]
  rfl
theorem filt_len {zs : List Str} {p : Str → Bool} {n : Nat} (h : zs.length ≤ n) : (zs.filter p).length ≤ n := Nat.le_trans (List.length_filter_le _ _) h
theorem same_set {H H' : Hp} {d : Addr} {o : HO} (s : Same H H') (n : H d = none) : Same H (upd H' d o) := fun b x e => by
  rw [upd_ne (ne_of_none e n)]
  exact s _ _ e
theorem at0 {xs : List V} {i : Nat} {v : V} (h : xs[i]? = some v) : atI xs ((0 : Int) + (i : Nat)) = some v := by
  rw [Int.zero_add]
  exact atI_nat h
/-! ### comprehensions that leave what stands -/
def StepQ (D : Addr) (H : Hp) (out : Nat → List V) (i : Nat) : VK := fun y H4 => ∃ acc, H4 D = some (.lst acc) ∧ acc.length < sizeLine ∧ upd H4 D (.lst (acc ++ [y])) = upd H D (.lst (out (i + 1)))
theorem step_ok {D : Addr} {H : Hp} {out : Nat → List V} {i : Nat} {y : V} (hl : (out i).length < sizeLine) (e : out (i + 1) = out i ++ [y]) : StepQ D H out i y (upd H D (.lst (out i))) := ⟨_, upd_same, hl, by rw [upd_upd, e]⟩
theorem step_no {D : Addr} {H : Hp} {out : Nat → List V} {i : Nat} (e : out (i + 1) = out i) : upd H D (.lst (out i)) = upd H D (.lst (out (i + 1))) := by rw [e]
theorem lc_pure {K : PySem.W.Frag} {a : Addr} {xs : List V} {g : TG} {tt : TT} {te : TE} {vs : List Nat} {σ : L2.St} {H : Hp} {D : Addr} {Qd : Hp → Prop} (out : Nat → List V) (src : ∀ H', Same H H' → SqL K H' a xs) (nD : H D = none) (h0 : out 0 = [])
    (hs : ∀ i x, xs[i]? = some x → Same H (upd H D (.lst (out i))) → g x (wipe σ vs) (upd H D (.lst (out i))) fun σ2 H2 => wipe σ2 vs = wipe σ vs ∧ tt σ2 H2 fun b H3 => if b = true then te σ2 H3 (StepQ D H out i) else H3 = upd H D (.lst (out (i + 1))))
    (hd : ∀ H', Same H H' → H' D = some (.lst (out xs.length)) → Qd H') :
    ∃ W : Nat → Nat → Hp → Prop, (∃ m, W 0 m (upd H D (.lst []))) ∧ ∀ i m H, W i m H →
      ((Itl K a).stop i H ∧ Qd H) ∨ ((Itl K a).go i H ∧ ∃ Nx : Hp → Prop, (∀ H', Nx H' → ∃ m', m' < m ∧ W (i + 1) m' H') ∧ ∀ x H', (Itl K a).yld i H x H' → g x (wipe σ vs) H' fun σ2 H2 => wipe σ2 vs = wipe σ vs ∧ tt σ2 H2 fun b H3 =>
        if b = true then te σ2 H3 fun y H4 => ∃ acc, H4 D = some (.lst acc) ∧ acc.length < sizeLine ∧ Nx (upd H4 D (.lst (acc ++ [y]))) else Nx H3) := by
  refine lc_list (K := K) (a := a) (xs := xs) (fun i H' => H' = upd H D (.lst (out i))) (by rw [h0]) (fun i H' hi e => ?_) (fun i x H' hx e => ?_) (fun H' e => ?_)
  · subst e
    exact src _ (same_upd nD)
  · subst e
    exact hs i x hx (same_upd nD)
  · subst e
    exact hd _ (same_upd nD) upd_same
theorem str_at {zs : List Str} {i : Nat} {x : V} (h : (zs.map V.str)[i]? = some x) : ∃ z, zs[i]? = some z ∧ x = V.str z := by
  rw [List.getElem?_map] at h
  obtain ⟨z, hz, e⟩ := Option.map_eq_some_iff.mp h
  exact ⟨z, hz, e.symm⟩
/-- the texts of zs that p tells, up to the i-th -/
def outF (zs : List Str) (p : Str → Bool) (i : Nat) : List V := ((zs.take i).filter p).map V.str
def outM (zs : List Str) (e : Str → V) (i : Nat) : List V := (zs.take i).map e
theorem outF_yes {zs : List Str} {p : Str → Bool} {i : Nat} {z : Str} (h : zs[i]? = some z) (hp : p z = true) : outF zs p (i + 1) = outF zs p i ++ [V.str z] := by
  unfold outF
  rw [filt_succ h, if_pos hp, List.map_append]
  rfl
theorem outF_no {zs : List Str} {p : Str → Bool} {i : Nat} {z : Str} (h : zs[i]? = some z) (hp : p z = false) : outF zs p (i + 1) = outF zs p i := by
  unfold outF
  rw [filt_succ h, hp, if_neg (by decide), List.append_nil]
theorem outM_succ {zs : List Str} {e : Str → V} {i : Nat} {z : Str} (h : zs[i]? = some z) : outM zs e (i + 1) = outM zs e i ++ [e z] := map_succ h
theorem outF_len {zs : List Str} {p : Str → Bool} {i : Nat} (h : zs.length ≤ 1000) : (outF zs p i).length < sizeLine := by
  unfold outF
  have := List.length_filter_le p (zs.take i)
  rw [List.length_take] at this
  rw [List.length_map, sizeLine_eq]
  omega
theorem outM_len {zs : List Str} {e : Str → V} {i : Nat} (h : zs.length ≤ 1000) : (outM zs e i).length < sizeLine := by
  unfold outM
  rw [List.length_map, List.length_take, sizeLine_eq]
  omega
theorem outF_end {zs : List Str} {p : Str → Bool} {x : Nat} (h : x = zs.length) : outF zs p x = (zs.filter p).map V.str := by
  unfold outF
  rw [h, List.take_length]
theorem outM_end {zs : List Str} {e : Str → V} {x : Nat} (h : x = zs.length) : outM zs e x = zs.map e := by
  unfold outM
  rw [h, List.take_length]
theorem strs_flat (zs : List Str) : (zs.map V.str).all flatV = true := by simp [flatV]
theorem inV_mem (z : Str) : ∀ ys : List Str, inV (.str z) (ys.map V.str) = decide (z ∈ ys)
  | [] => rfl
  | y :: r => by
    have ih := inV_mem z r
    unfold inV at ih ⊢
    rw [List.map_cons, List.any_cons, ih]
    by_cases h : y = z
    · subst h
      rw [decide_eq_true List.mem_cons_self]
      simp [eqV]
    · have e : eqV (V.str y) (V.str z) = false := by
        show (y == z) = false
        exact beq_eq_false_iff_ne.mpr h
      rw [e, Bool.false_or]
      by_cases m : z ∈ r
      · rw [decide_eq_true m, decide_eq_true (List.mem_cons_of_mem _ m)]
      · rw [decide_eq_false m, decide_eq_false fun q => by
          rcases List.mem_cons.mp q with q | q
          · exact h q.symm
          · exact m q]
theorem lc_pureT {K : PySem.W.Frag} {a : Addr} {xs : List V} {g : TG} {tt : TT} {te : TE} {vs : List Nat} {σ : L2.St} {H : Hp} {D : Addr} {Qd : Hp → Prop} (out : Nat → List V) (src : ∀ H', Same H H' → SqT K H' a xs) (nD : H D = none) (h0 : out 0 = [])
    (hs : ∀ i x, xs[i]? = some x → Same H (upd H D (.lst (out i))) → g x (wipe σ vs) (upd H D (.lst (out i))) fun σ2 H2 => wipe σ2 vs = wipe σ vs ∧ tt σ2 H2 fun b H3 => if b = true then te σ2 H3 (StepQ D H out i) else H3 = upd H D (.lst (out (i + 1))))
    (hd : ∀ H', Same H H' → H' D = some (.lst (out xs.length)) → Qd H') :
    ∃ W : Nat → Nat → Hp → Prop, (∃ m, W 0 m (upd H D (.lst []))) ∧ ∀ i m H, W i m H →
      ((Itt K a).stop i H ∧ Qd H) ∨ ((Itt K a).go i H ∧ ∃ Nx : Hp → Prop, (∀ H', Nx H' → ∃ m', m' < m ∧ W (i + 1) m' H') ∧ ∀ x H', (Itt K a).yld i H x H' → g x (wipe σ vs) H' fun σ2 H2 => wipe σ2 vs = wipe σ vs ∧ tt σ2 H2 fun b H3 =>
        if b = true then te σ2 H3 fun y H4 => ∃ acc, H4 D = some (.lst acc) ∧ acc.length < sizeLine ∧ Nx (upd H4 D (.lst (acc ++ [y]))) else Nx H3) := by
  refine lc_tup (K := K) (a := a) (xs := xs) (fun i H' => H' = upd H D (.lst (out i))) (by rw [h0]) (fun i H' hi e => ?_) (fun i x H' hx e => ?_) (fun H' e => ?_)
  · subst e
    exact src _ (same_upd nD)
  · subst e
    exact hs i x hx (same_upd nD)
  · subst e
    exact hd _ (same_upd nD) upd_same
theorem PoolAt.same {p : Addr} {H H' : Hp} (s : Same H H') (h : PoolAt H p) : PoolAt H' p := by
  obtain ⟨a, b, c, e⟩ := h
  exact ⟨a, b, c, s _ _ e⟩
theorem pss_of {X : Cx} {b : List Stmt} {T : TS} (h : ∀ D σ H, T D σ H → ∃ t, PSs X b t ∧ t D σ H) : PSs X b T := ⟨fun pins s σ H D I hyp => by
  obtain ⟨t, ht, hq⟩ := h D σ H hyp
  exact ht.run pins s σ H D I hq⟩
/-- a promise where no text is being made around -/
def FnG (P : Program) (w : World) (K : PySem.W.Frag) (mg : Str → Option Value) (base : Heap) (CX : CXT) (k : Nat) (f : Addr) (sp : Sp) : Prop :=
  ∀ (A : Around) (outer : List Env) (s : Shared) (H : Hp) (us : List Value) (vs : List V) (Q : VK) (E : XK), A.guards = some [] → Room k A → Env0 P w K mg base A outer s H → Vals vs us → sp vs H Q E →
    codeAny (model P w) A (.call (.ref
        f) ⟨us, []⟩) (CR CX outer P w H s Q E) s
/-- the def of the law's right, its code object at c -/
structure FunC (K : PySem.W.Frag) (x qual : Str) (st : Stmt) (f c : Addr) : Prop where
  ex : ∃ (oc : Value) (od : Option Addr) (kV doc pm : Value) (an : Option Addr) (ct : Value) (osl : Array (Option Value)), K.lookup f = some ⟨oc, od, .func (PySem.W.fnOf x qual (defArgs st) (defBody st) (defScope st) .none kV doc pm an (.ref c) ct), osl⟩ ∧ PySem.W.codeIn K (.ref c) qual = true
section
variable {X : Cx} {k : Nat} {x : Str} {f : Addr} {sp : Sp}
/-- x(e, ..), where no text is being made around -/
theorem pe_callG {e : Expr} {es : List Expr} {t : TA} {p pos : Pos} (F : FnG X.prog X.w X.K X.mg X.base CX0 k f sp) (hgd : X.A.guards = some []) (hr : Room k X.A) (hg : Gl X x) (hm : X.mg x = some (.ref f)) (hk : PySem.W.keepIn X.K (.ref f) = true) (ha : PA X (e :: es) t)
    (hd : (x == ("__debug__" : Str)) = false := by decide) (hst : starEach (e :: es) X.env = (false, eval e X.env) :: starEach es X.env := by rfl) (hpl : (backTo pos (starEach es X.env)).any (·.1) = false := by rfl) :
    PE X (.Call (.Name x p) (e :: es) [] pos) (tCall sp [] E0 t) := by
  refine ⟨fun pins
      s σ H Q I h => ?_⟩
  refine wpAny_Call_Name_kw
      (ld_glob I hg hm ?_ hd)
  refine PySem.W.callWith_K (h₀ := X.base) I.ok.mod.kin hk (thn (ha.run pos pins s σ H _ I h) fun us s1 ⟨vs, H1, I1, rv, q⟩ => ⟨I1.kIn, ?_⟩) hst hpl
  have q : sp vs H1 Q E0 := by
    have q : sp (vs ++ []) H1 Q E0 := q
    rw [List.append_nil] at q
    exact q
  refine wpAny_call (codeAny_mono (F X.A X.stack s1 H1 us vs Q E0 hgd hr I1.env0 rv q) fun r s' hq => ?_)
  cases r with
  | error e => exact hq.elim
  | ok fl =>
    cases fl with
    | ret u => exact I1.after hq
    | next => exact False.elim hq
    | brk => exact False.elim hq
    | cont => exact False.elim hq
end
end K1

namespace K1
open PySem PySem.Spec
open PyProof.Rows L2 EnT StX SmX TxS DuX
/-! ### forms -/
inductive Fm where
  | leaf (z : Str)
  | node (s : Str) (l r : Fm)
abbrev tGiven : Str := "given"
abbrev tNone : Str := "none"
abbrev signs : List Str := ["|", "&", "-", "^"]
/-- a form on the heap -/
inductive FmAt (H : Hp) : V → Fm → Prop where
  | leaf (z : Str) : FmAt H (.str z) (.leaf z)
  | node {a : Addr} {s : Str} {vl vr : V} {l r : Fm} (h : H a = some (.tup [.str s, vl, vr])) (hl : FmAt H vl l) (hr : FmAt H vr r) : FmAt H (.ref a) (.node s l r)
/-- tuples stay -/
def TupK (H H' : Hp) : Prop := ∀ a xs, H a = some (.tup xs) → H' a = some (.tup xs)
theorem TupK.same {H H' : Hp} (s : Same H H') : TupK H H' := fun a xs h => s a _ h
theorem TupK.ext {p : Addr} {H H' : Hp} (hp : PoolAt H p) (x : K1.Ext p H H') : TupK H H' := fun a xs h => x.at (fun e => by
  obtain ⟨i, j, k, q⟩ := hp
  rw [e, q] at h
  cases h) h
theorem TupK.set {H H' : Hp} {t : Addr} {ys : List V} {o : HO} (k : TupK H H') (ht : H' t = some (.lst ys)) : TupK H (upd H' t o) := fun a xs h => by
  have h' := k a xs h
  rw [upd_ne (fun e => by rw [e, ht] at h'; cases h')]
  exact h'
theorem TupK.new {H H' : Hp} {t : Addr} {o : HO} (k : TupK H H') (ht : H t = none) : TupK H (upd H' t o) := fun a xs h => by
  rw [upd_ne (fun e => by rw [e, ht] at h; cases h)]
  exact k a xs h
theorem TupK.trans {H H1 H2 : Hp} (a : TupK H H1) (b : TupK H1 H2) : TupK H H2 := fun c xs h => b c xs (a c xs h)
theorem FmAt.keep {H H' : Hp} (k : TupK H H') {v : V} {t : Fm} (h : FmAt H v t) : FmAt H' v t := by
  induction h with
  | leaf z => exact .leaf z
  | node h _ _ ih1 ih2 => exact .node (k _ _ h) ih1 ih2
theorem FmAt.same {H H' : Hp} (s : Same H H') {v : V} {t : Fm} (h : FmAt H v t) : FmAt H' v t := h.keep (.same s)
namespace Fm
/-- the forms that are valid -/
def Ok : Fm → Prop
  | .leaf z => nameB z = true
  | .node s l r => s ∈ signs ∧ l.Ok ∧ r.Ok
def dep : Fm → Nat
  | .leaf _ => 1
  | .node _ l r => 1 + (if l.dep > r.dep then l.dep else r.dep)
def lvs : Fm → List Str
  | .leaf z => [z]
  | .node _ l r => l.lvs ++ r.lvs
def nl (t : Fm) : Nat := t.lvs.length
def size : Fm → Nat
  | .leaf _ => 1
  | .node _ l r => 1 + l.size + r.size
/-- the text; inside another one in brackets -/
def txt : Bool → Fm → Str
  | _, .leaf z => z
  | false, .node s l r => txt true l ++ (" " : Str) ++ s ++ (" " : Str) ++ txt true r
  | true, .node s l r => ("(" : Str) ++ (txt true l ++ (" " : Str) ++ s ++ (" " : Str) ++ txt true r) ++ (")" : Str)
def dat : Fm → PyData
  | .leaf z => .str z
  | .node s l r => .tuple [.str s, l.dat, r.dat]
theorem dep_pos : ∀ t : Fm, 1 ≤ t.dep
  | .leaf _ => Nat.le_refl _
  | .node _ l r => Nat.le_add_right _ _
theorem nl_pos : ∀ t : Fm, 1 ≤ t.nl
  | .leaf _ => Nat.le_refl _
  | .node _ l r => by
    have := nl_pos l
    unfold nl at this ⊢
    simp only [lvs, List.length_append]
    omega
theorem size_pos : ∀ t : Fm, 1 ≤ t.size
  | .leaf _ => Nat.le_refl _
  | .node _ l r => by simp only [size]; omega
theorem nl_node (s : Str) (l r : Fm) : (node s l r).nl = l.nl + r.nl := by
  unfold nl
  simp only [lvs, List.length_append]
theorem dep_node (s : Str) (l r : Fm) : (node s l r).dep = 1 + max l.dep r.dep := by
  simp only [dep]
  congr 1
  split <;> omega
theorem size_nl : ∀ t : Fm, t.size + 1 = 2 * t.nl
  | .leaf _ => rfl
  | .node s l r => by
    have a := size_nl l
    have b := size_nl r
    rw [nl_node]
    simp only [size]
    omega
theorem nl_dep : ∀ t : Fm, t.nl ≤ 2 ^ (t.dep - 1)
  | .leaf _ => Nat.le_refl _
  | .node s l r => by
    have a := nl_dep l
    have b := nl_dep r
    have pl := dep_pos l
    have pr := dep_pos r
    have a' : 2 ^ (l.dep - 1) ≤ 2 ^ (max l.dep r.dep - 1) := Nat.pow_le_pow_right (by decide) (by omega)
    have b' : 2 ^ (r.dep - 1) ≤ 2 ^ (max l.dep r.dep - 1) := Nat.pow_le_pow_right (by decide) (by omega)
    rw [nl_node, dep_node]
    have e : 1 + max l.dep r.dep - 1 = (max l.dep r.dep - 1) + 1 := by omega
    rw [e, Nat.pow_succ]
    omega
theorem Ok.names : ∀ {t : Fm}, t.Ok → ∀ z ∈ t.lvs, nameB z = true
  | .leaf z, h => fun y hy => by
    rw [List.mem_singleton.mp hy]
    exact h
  | .node s l r, h => fun y hy => by
    rcases List.mem_append.mp hy with e | e
    · exact h.2.1.names y e
    · exact h.2.2.names y e
end Fm
theorem sign_ok {s : Str} (h : s ∈ signs) : s.length = 1 ∧ PyData.strOk s = true := by
  simp only [signs, List.mem_cons, List.not_mem_nil, or_false] at h
  rcases h with rfl | rfl | rfl | rfl <;> decide +kernel
theorem txt_len5 : ∀ (b : Bool) (t : Fm), t.Ok → (t.txt b).length + 5 ≤ 13 * t.nl
  | b, .leaf z, h => by
    have := name_short (show nameB z = true from h)
    have e : (Fm.leaf z).txt b = z := by cases b <;> rfl
    rw [e]
    show z.length + 5 ≤ 13 * 1
    omega
  | b, .node s l r, h => by
    have a := txt_len5 true l h.2.1
    have b' := txt_len5 true r h.2.2
    have c := (sign_ok h.1).1
    have e1 : (" " : Str).length = 1 := by decide +kernel
    have e2 : ("(" : Str).length = 1 := by decide +kernel
    have e3 : (")" : Str).length = 1 := by decide +kernel
    rw [Fm.nl_node]
    cases b
    · simp only [Fm.txt]
      rw [strLen_append, strLen_append, strLen_append, strLen_append, c, e1]
      omega
    · simp only [Fm.txt]
      rw [strLen_append, strLen_append, strLen_append, strLen_append, strLen_append, strLen_append, c, e1, e2, e3]
      omega
theorem txt_len (b : Bool) (t : Fm) (h : t.Ok) : (t.txt b).length ≤ 13 * t.nl := Nat.le_trans (Nat.le_add_right _ _) (txt_len5 b t h)
theorem FmAt.dp {K : PySem.W.Frag} {H : Hp} {v : V} {t : Fm} (h : FmAt H v t) : Dp K H v t.dat := by
  induction h with
  | leaf z => exact .str z
  | node h _ _ ih1 ih2 => exact .tup (SqT.of h) (.cons (.str _) (.cons ih1 (.cons ih2 .nil)))
end K1

namespace K1
open PySem PySem.Spec
open PyProof.Rows L2 EnT StX SmX TxS DuX
/-- the names of the module of forms -/
structure Gf (K : PySem.W.Frag) (mg : Str → Option Value) (aS : Addr) : Prop where
  T : Free mg
  sg : mg "SIGNS" = some (.ref aS)
  st : ∀ H : Hp, SqT K H aS (signs.map V.str)
  gv : ∃ t, mg "GIVEN" = some (.str tGiven t)
  nn : ∃ t, mg "NONE" = some (.str tNone t)
  ml : ∃ t, mg "MOST_LEAVES" = some (.int 200 t)
  md : ∃ t, mg "MOST_DEPTH" = some (.int 20 t)
theorem name_line {z : Str} (h : nameB z = true) : z.length ≤ sizeLine := by
  have := name_short h
  rw [sizeLine_eq]
  omega
theorem FmAt.vok {H : Hp} {v : V} {t : Fm} (h : FmAt H v t) (ok : t.Ok) : VOk H v := by
  cases h with
  | leaf z => exact .inl ⟨z, rfl, name_line ok⟩
  | node h _ _ => exact .inr (.tup h)
/-! ### is_field, of a name -/
def fieldB (z : Str) : Bool := decide (z ≠ tGiven ∧ z ≠ tNone)
def spIsField : Sp := fun vs H Q _ => ∃ z : Str, vs = [.str z] ∧ nameB z = true ∧ ∀ H', Same H H' → Q (.bl (fieldB z)) H'
section
variable {w : World} {P : Program} {base : Heap} {mg : Str → Option Value} {K : PySem.W.Frag} {aS : Addr}
theorem scIsField : FnScope ["value"] ["value"] (defScope sIsField) := ⟨rfl, rfl, rfl, by decide +kernel, rfl, by decide +kernel, by decide +kernel⟩
theorem ok_isfield {f fN : Addr} {fd : FuncData} (F : Fun K "is_field" "is_field" sIsField f fd) (G : Gf K mg aS) (hN : Has P w K mg base CX0 1 "is_name" fN ["value"] spIsName) : FnOk P w K mg base CX0 2 f fd ["value"] spIsField := by
  obtain ⟨tg, hg⟩ := G.gv
  obtain ⟨tn, hn⟩ := G.nn
  refine F.ok scIsField (fun vs H Q E h => ?_) (fun cdv A outer s H vs Q E hr h => ?_)
  · obtain ⟨z, rfl, _⟩ := h
    rfl
  · obtain ⟨z, rfl, nz, q⟩ := h
    refine ⟨_, pss_one (ps_ret (pe_and (pe_has hN hr (by rfl) pass0 (pa_cons (pv 0) pa_nil)) (pe_one (pe_cmpR op_notIn_seq (pv 0) (pe_tup (pa_cons (pe_glob (v := .str tGiven) (by rfl) hg ⟨_, rfl⟩) (pa_cons (pe_glob (v := .str tNone) (by rfl) hn ⟨_, rfl⟩) pa_nil))) (by rfl))))), ?_⟩
    have e : nameV (.str z) = true := nz
    refine ⟨_, rfl, _, rfl, .inl ⟨z, rfl, name_line nz⟩, _, rfl, ?_⟩
    rw [e]
    refine iteT ⟨_, rfl, (by show 2 ≤ sizeLine; decide), fun a na => ⟨a, _, rfl, .inr (SqT.of upd_same), rfl, rfl, ?_⟩⟩
    have z2 : (!inV (.str z) [V.str tGiven, V.str tNone]) = fieldB z := by
      have := inV_mem z [tGiven, tNone]
      show (!inV (.str z) ([tGiven, tNone].map V.str)) = _
      rw [this]
      unfold fieldB
      by_cases h1 : z = tGiven <;> by_cases h2 : z = tNone <;> simp [h1, h2]
    rw [z2]
    exact q _ (same_upd na)
/-! ### is_triple, of a form -/
def isNode : Fm → Bool
  | .leaf _ => false
  | .node _ _ _ => true
def spTriple : Sp := fun vs H Q _ => ∃ (v : V) (t : Fm), vs = [v] ∧ FmAt H v t ∧ t.Ok ∧ Q (.bl (isNode t)) H
theorem scTriple : FnScope ["value"] ["value"] (defScope sTriple) := ⟨rfl, rfl, rfl, by decide +kernel, rfl, by decide +kernel, by decide +kernel⟩
theorem ok_triple {f : Addr} {fd : FuncData} (F : Fun K "is_triple" "is_triple" sTriple f fd) (G : Gf K mg aS) : FnOk P w K mg base CX0 1 f fd ["value"] spTriple := by
  have T := G.T
  refine F.ok scTriple (fun vs H Q E h => ?_) (fun cdv A outer s H vs Q E hr h => ?_)
  · obtain ⟨v, t, rfl, _⟩ := h
    rfl
  · obtain ⟨v, t, rfl, m, ok, q⟩ := h
    refine ⟨_, pss_one (ps_ret (pe_and (pe_callB call_isi (by rfl) T.isinstance (by decide +kernel) (pa_cons (pv 0) (pa_cons (pe_bltn (v := .ty "tuple") (u := .type "tuple") (by rfl) T.tuple (by decide +kernel) rfl) pa_nil)))
      (pe_and (pe_cmpR op_eq (pe_callB call_len_seq (by rfl) T.len PySem.boot_len (pa_cons (pv 0) pa_nil)) pe_int (nomark _))
      (pe_and (pe_callB call_isi (by rfl) T.isinstance (by decide +kernel) (pa_cons (pe_ix ix_tup (pv 0) pe_int (fun _ _ => rfl)) (pa_cons (pe_bltn (v := .ty "str") (u := .type "str") (by rfl) T.str (by decide +kernel) rfl) pa_nil)))
      (pe_one (pe_cmpR op_in_seq (pe_ix ix_tup (pv 0) pe_int (fun _ _ => rfl)) (pe_glob (v := .ref aS) (by rfl) G.sg rfl) (by rfl))))))), ?_⟩
    cases m with
    | leaf z => exact ⟨_, rfl, _, _, _, _, false, rfl, .ty _, .base (.str z), kit_ty (by decide +kernel), false, rfl, iteF q⟩
    | node h hl hr' =>
      rename_i a s vl vr l r
      refine ⟨_, rfl, _, _, _, _, true, rfl, .ty _, .base (.tup h), kit_ty (by decide +kernel), true, rfl, iteT ?_⟩
      refine ⟨_, rfl, a, _, rfl, .inr (SqT.of h), rfl, _, rfl, iteT ?_⟩
      refine ⟨_, rfl, a, _, _, .str s, rfl, rfl, SqT.of h, atI_nat (j := 0) rfl, ?_⟩
      refine ⟨_, _, _, _, true, rfl, .ty _, .base (.str s), kit_ty (by decide +kernel), true, rfl, iteT ?_⟩
      refine ⟨_, rfl, a, _, _, .str s, rfl, rfl, SqT.of h, atI_nat (j := 0) rfl, ?_⟩
      refine ⟨aS, _, rfl, .inr (G.st H), rfl, strs_flat _, ?_⟩
      rw [inV_mem, decide_eq_true ok.1]
      exact q
/-! ### check_leaves, check_depth, within the limits -/
def spChk (n : Int) : Sp := fun vs H Q _ => ∃ i : Int, vs = [.int i] ∧ i ≤ n ∧ Q .non H
theorem scChkL : FnScope ["leaves"] ["leaves"] (defScope sChkL) := ⟨rfl, rfl, rfl, by decide +kernel, rfl, by decide +kernel, by decide +kernel⟩
theorem scChkD : FnScope ["depth"] ["depth"] (defScope sChkD) := ⟨rfl, rfl, rfl, by decide +kernel, rfl, by decide +kernel, by decide +kernel⟩
theorem ok_chkL {f : Addr} {fd : FuncData} (F : Fun K "check_leaves" "check_leaves" sChkL f fd) (G : Gf K mg aS) : FnOk P w K mg base CX0 1 f fd ["leaves"] (spChk 200) := by
  obtain ⟨t, ht⟩ := G.ml
  refine F.ok scChkL (fun vs H Q E h => ?_) (fun cdv A outer s H vs Q E hr h => ?_)
  · obtain ⟨i, rfl, _⟩ := h
    rfl
  · obtain ⟨i, rfl, le, q⟩ := h
    refine ⟨_, pss_one (ps_if (pt_cmpR op_gt (pv 0) (pe_glob (v := .int 200) (by rfl) ht ⟨_, rfl⟩) (nomark _)) pss_never pss_nil), ?_⟩
    refine ⟨_, rfl, _, _, rfl, rfl, _, rfl, ?_⟩
    rw [decide_eq_false (by omega)]
    exact iteF q
theorem ok_chkD {f : Addr} {fd : FuncData} (F : Fun K "check_depth" "check_depth" sChkD f fd) (G : Gf K mg aS) : FnOk P w K mg base CX0 1 f fd ["depth"] (spChk 20) := by
  obtain ⟨t, ht⟩ := G.md
  refine F.ok scChkD (fun vs H Q E h => ?_) (fun cdv A outer s H vs Q E hr h => ?_)
  · obtain ⟨i, rfl, _⟩ := h
    rfl
  · obtain ⟨i, rfl, le, q⟩ := h
    refine ⟨_, pss_one (ps_if (pt_cmpR op_gt (pv 0) (pe_glob (v := .int 20) (by rfl) ht ⟨_, rfl⟩) (nomark _)) pss_never pss_nil), ?_⟩
    refine ⟨_, rfl, _, _, rfl, rfl, _, rfl, ?_⟩
    rw [decide_eq_false (by omega)]
    exact iteF q
end
end K1

namespace K1
open PySem PySem.Spec
open PyProof.Rows L2 EnT StX SmX TxS DuX
/-! ### comprehensions whose steps make objects -/
def StepG (D : Addr) (H : Hp) (out : Nat → List V) (i : Nat) : VK := fun y H4 => Same H H4 ∧ H4 D = some (.lst (out i)) ∧ (out i).length < sizeLine ∧ out (i + 1) = out i ++ [y]
theorem lc_grow {K : PySem.W.Frag} {a : Addr} {xs : List V} {g : TG} {tt : TT} {te : TE} {vs : List Nat} {σ : L2.St} {H : Hp} {D : Addr} {Qd : Hp → Prop} (out : Nat → List V) (src : ∀ H', Same H H' → SqL K H' a xs) (nD : H D = none) (h0 : out 0 = [])
    (hs : ∀ i x H', xs[i]? = some x → Same H H' → H' D = some (.lst (out i)) → g x (wipe σ vs) H' fun σ2 H2 => wipe σ2 vs = wipe σ vs ∧ tt σ2 H2 fun b H3 => if b = true then te σ2 H3 (StepG D H out i) else (Same H H3 ∧ H3 D = some (.lst (out (i + 1)))))
    (hg : ∀ x H' (R R' : L2.St → Hp → Prop), (∀ s h, R s h → R' s h) → g x (wipe σ vs) H' R → g x (wipe σ vs) H' R')
    (ht : ∀ s h (R R' : Bool → Hp → Prop), (∀ b h', R b h' → R' b h') → tt s h R → tt s h R')
    (he : ∀ s h (R R' : VK), (∀ b h', R b h' → R' b h') → te s h R → te s h R')
    (hd : ∀ H', Same H H' → H' D = some (.lst (out xs.length)) → Qd H') :
    ∃ W : Nat → Nat → Hp → Prop, (∃ m, W 0 m (upd H D (.lst []))) ∧ ∀ i m H, W i m H →
      ((Itl K a).stop i H ∧ Qd H) ∨ ((Itl K a).go i H ∧ ∃ Nx : Hp → Prop, (∀ H', Nx H' → ∃ m', m' < m ∧ W (i + 1) m' H') ∧ ∀ x H', (Itl K a).yld i H x H' → g x (wipe σ vs) H' fun σ2 H2 => wipe σ2 vs = wipe σ vs ∧ tt σ2 H2 fun b H3 =>
        if b = true then te σ2 H3 fun y H4 => ∃ acc, H4 D = some (.lst acc) ∧ acc.length < sizeLine ∧ Nx (upd H4 D (.lst (acc ++ [y]))) else Nx H3) := by
  refine lc_list (K := K) (a := a) (xs := xs) (fun i H' => Same H H' ∧ H' D = some (.lst (out i))) ⟨same_upd nD, by rw [upd_same, h0]⟩ (fun i H' hi e => src _ e.1) (fun i x H' hx e => ?_) (fun H' e => hd _ e.1 e.2)
  refine hg x H' _ _ (fun s h r => ⟨r.1, ht _ _ _ _ (fun b h' q => ?_) r.2⟩) (hs i x H' hx e.1 e.2)
  cases b with
  | false => exact q
  | true =>
    refine he _ _ _ _ (fun y h4 z => ?_) q
    obtain ⟨s4, d4, l4, o4⟩ := z
    exact ⟨_, d4, l4, same_set s4 nD, by rw [upd_same, o4]⟩
/-! ### form_leaves -/
def spLeaves (n : Nat) : Sp := fun vs H Q _ => ∃ (v : V) (t : Fm), vs = [v] ∧ FmAt H v t ∧ t.dep ≤ n ∧ t.nl ≤ 1000 ∧ ∀ (q : Addr) (H' : Hp), H q = none → Same H H' → H' q = some (.lst (t.lvs.map V.str)) → Q (.ref q) H'
section
variable {w : World} {P : Program} {base : Heap} {mg : Str → Option Value} {K : PySem.W.Frag} {aS : Addr}
theorem scLeavesF : FnScope ["form"] ["form"] (defScope sLeavesF) := ⟨rfl, rfl, rfl, by decide +kernel, rfl, by decide +kernel, by decide +kernel⟩
theorem ok_leavesF {f : Addr} {fd : FuncData} (F : Fun K "form_leaves" "form_leaves" sLeavesF f fd) (T : Free mg) (mgF : mg "form_leaves" = some (.ref f)) : ∀ n : Nat, FnOk P w K mg base CX0 (n + 1) f fd ["form"] (spLeaves (n + 1)) := by
  have bF : L2.Binds K fd ["form"] [] := F.binds (ps := ["form"]) fun _ _ _ _ _ _ us hl => match us, hl with | [_], _ => rfl
  intro n
  induction n with
  | zero =>
    refine F.ok scLeavesF (fun vs H Q E h => ?_) (fun cdv A outer s H vs Q E hr h => ?_)
    · obtain ⟨v, t, rfl, _⟩ := h
      rfl
    · obtain ⟨v, t, rfl, m, d, l, q⟩ := h
      refine ⟨_, pss_cons (ps_if (pt_val (pe_callB call_isi (by rfl) T.isinstance (by decide +kernel) (pa_cons (pv 0) (pa_cons (pe_bltn (v := .ty "str") (u := .type "str") (by rfl) T.str (by decide +kernel) rfl) pa_nil)))) (pss_one (ps_ret (pe_lst (pa_cons (pv 0) pa_nil)))) pss_nil) pss_never, ?_⟩
      cases m with
      | leaf z => exact ⟨_, rfl, _, _, _, _, true, rfl, .ty _, .base (.str z), kit_ty (by decide +kernel), true, rfl, iteT ⟨_, rfl, (by show 1 ≤ sizeLine; decide), fun p np => q p _ np (same_upd np) upd_same⟩⟩
      | node h hl hr' =>
        rename_i a s' vl vr l' r'
        have := Fm.dep_pos l'
        rw [Fm.dep_node] at d
        omega
  | succ n ih =>
    have hF : Has P w K mg base CX0 (n + 1) "form_leaves" f ["form"] (spLeaves (n + 1)) := ⟨mgF, F.kp, fd, ih, bF⟩
    refine F.ok scLeavesF (fun vs H Q E h => ?_) (fun cdv A outer s H vs Q E hr h => ?_)
    · obtain ⟨v, t, rfl, _⟩ := h
      rfl
    · obtain ⟨v, t, rfl, m, d, l, q⟩ := h
      refine ⟨_, pss_cons (ps_if (pt_val (pe_callB call_isi (by rfl) T.isinstance (by decide +kernel) (pa_cons (pv 0) (pa_cons (pe_bltn (v := .ty "str") (u := .type "str") (by rfl) T.str (by decide +kernel) rfl) pa_nil)))) (pss_one (ps_ret (pe_lst (pa_cons (pv 0) pa_nil)))) pss_nil)
        (pss_one (ps_ret (pe_op op_cat (pe_has hF hr (by rfl) pass0 (pa_cons (pe_ix ix_tup (pv 0) pe_int (fun _ _ => rfl)) pa_nil)) (pe_has hF hr (by rfl) pass0 (pa_cons (pe_ix ix_tup (pv 0) pe_int (fun _ _ => rfl)) pa_nil))))), ?_⟩
      cases m with
      | leaf z => exact ⟨_, rfl, _, _, _, _, true, rfl, .ty _, .base (.str z), kit_ty (by decide +kernel), true, rfl, iteT ⟨_, rfl, (by show 1 ≤ sizeLine; decide), fun p np => q p _ np (same_upd np) upd_same⟩⟩
      | node h hl hr' =>
        rename_i a s' vl vr l' r'
        rw [Fm.dep_node] at d
        rw [Fm.nl_node] at l
        refine ⟨_, rfl, _, _, _, _, false, rfl, .ty _, .base (.tup h), kit_ty (by decide +kernel), false, rfl, iteF ?_⟩
        refine ⟨_, rfl, a, _, _, vl, rfl, rfl, SqT.of h, atI_nat (j := 1) rfl, vl, l', rfl, hl, by omega, by omega, fun q1 H1 n1 s1 h1 => ?_⟩
        refine ⟨_, rfl, a, _, _, vr, rfl, rfl, SqT.of (s1 _ _ h), atI_nat (j := 2) rfl, vr, r', rfl, hr'.same s1, by omega, by omega, fun q2 H2 n2 s2 h2 => ?_⟩
        have e1 : (l'.lvs.map V.str).length = l'.nl := List.length_map ..
        have e2 : (r'.lvs.map V.str).length = r'.nl := List.length_map ..
        refine ⟨q1, q2, _, _, rfl, rfl, s2 _ _ h1, h2, by rw [e1, e2, sizeLine_eq]; omega, fun p np => ?_⟩
        have s12 := s1.trans s2
        refine q p _ ?_ (s12.trans (same_upd np)) (by rw [upd_same, ← List.map_append]; rfl)
        cases hh : H p with
        | none => rfl
        | some o =>
          rw [s12 _ _ hh] at np
          cases np
/-! ### form_fields -/
def spFields (n : Nat) : Sp := fun vs H Q _ => ∃ (v : V) (t : Fm), vs = [v] ∧ FmAt H v t ∧ t.Ok ∧ t.dep ≤ n ∧ t.nl ≤ 500 ∧ ∀ (q : Addr) (ys : List Str) (H' : Hp), Same H H' → H' q = some (.tup (ys.map V.str)) → sortedS ys = true → ys.Nodup → (∀ z, z ∈ ys ↔ z ∈ t.lvs ∧ fieldB z = true) → Q (.ref q) H'
abbrev nmFF : List Str := ["form", "leaves", "leaf"]
theorem scFieldsF : FnScope nmFF ["form"] (defScope sFieldsF) := ⟨rfl, rfl, rfl, by decide +kernel, rfl, by decide +kernel, by decide +kernel⟩
theorem ok_fieldsF {n : Nat} {f fL fI : Addr} {fd : FuncData} (F : Fun K "form_fields" "form_fields" sFieldsF f fd) (T : Free mg) (hL : Has P w K mg base CX0 (n + 3) "form_leaves" fL ["form"] (spLeaves (n + 3))) (hI : Has P w K mg base CX0 2 "is_field" fI ["value"] spIsField) :
    FnOk P w K mg base CX0 (n + 4) f fd ["form"] (spFields (n + 3)) := by
  refine F.ok scFieldsF (fun vs H Q E h => ?_) (fun cdv A outer s H vs Q E hr h => ?_)
  · obtain ⟨v, t, rfl, _⟩ := h
    rfl
  · obtain ⟨v, t, rfl, m, ok, d, l, q⟩ := h
    refine ⟨_, pss_cons (ps_set (i := 1) scFieldsF.nd rfl (.inl rfl) (pe_has hL hr (by rfl) pass0 (pa_cons (pv 0) pa_nil)))
      (pss_one (ps_ret (pe_callTy call_tuple_of (by rfl) T.tuple (by decide +kernel) (pa_cons (pe_sortSet rfl (by rfl) T.sorted (by rfl) T.set (pe_lc (own := [("leaf", 2)]) (g := gName 2) (tt := tTest (tCall spIsField [] E0 (tCons (tVar 2) tNil))) rfl scFieldsF.nd (pi_list (pv 1))
            (blkOk_by (own := [("leaf", 2)]) (N := nmFF) (sc := defScope sFieldsF) (by decide +kernel)) (fun _ _ _ _ _ => pg_name (i := 2) scFieldsF.nd rfl (Or.inl rfl))
            (fun _ _ _ _ _ => pts_one (pt_val (pe_has hI (hr.mono (by omega)) (by rfl) pass0 (pa_cons (pv 2) pa_nil)))) (fun _ _ _ _ _ => pv 2))) pa_nil)))), ?_⟩
    have lt : t.lvs.length ≤ 500 := l
    refine ⟨_, rfl, v, t, rfl, m, d, by omega, fun q1 H1 n1 s1 h1 => ?_⟩
    refine ⟨_, rfl, q1, rfl, ⟨_, SqL.of h1⟩, fun D1 nD => lc_grow (K := K) (a := q1) (xs := t.lvs.map V.str) (outF t.lvs fieldB) (fun H' e => SqL.of (e _ _ h1)) nD rfl (fun i x H' hx e1 e2 => ?_) (fun x H' R R' h hh => h _ _ hh) (fun s h R R' k hh => ?_) (fun s h R R' k hh => ?_) fun H2 s2 h2 => ?_⟩
    · obtain ⟨z, hz, rfl⟩ := str_at hx
      refine ⟨rfl, _, rfl, z, rfl, ok.names z (List.mem_of_getElem? hz), fun H2 s2 => ⟨_, rfl, ?_⟩⟩
      cases hf : fieldB z with
      | true => exact iteT ⟨_, rfl, e1.trans s2, s2 _ _ e2, outF_len (by omega), outF_yes hz hf⟩
      | false => exact iteF ⟨e1.trans s2, by rw [outF_no hz hf]; exact s2 _ _ e2⟩
    · obtain ⟨v', e, z, e2, nz, q⟩ := hh
      exact ⟨v', e, z, e2, nz, fun H' s' => by
        obtain ⟨k', e3, r⟩ := q H' s'
        exact ⟨k', e3, k _ _ r⟩⟩
    · obtain ⟨v', e, r⟩ := hh
      exact ⟨v', e, k _ _ r⟩
    · rw [outF_end (List.length_map ..)] at h2
      have lF := List.length_filter_le fieldB t.lvs
      refine ⟨D1, t.lvs.filter fieldB, rfl, .inl (SqL.of h2), by omega, fun ys q2 srt nd mem lys nq2 => ?_⟩
      have s3 : Same H2 (upd H2 q2 (.lst (ys.map V.str))) := same_upd nq2
      refine ⟨q2, _, rfl, .inl ⟨SqL.of upd_same, fun tp ntp => ?_⟩⟩
      have s4 := same_upd (o := .tup (ys.map V.str)) ntp
      exact q tp ys _ (((s1.trans s2).trans s3).trans s4) upd_same srt nd fun z => (mem z).trans (by rw [List.mem_filter])
end
end K1

namespace K1
open PySem PySem.Spec
open PyProof.Rows L2 EnT StX SmX TxS DuX
namespace Fm
theorem lay : ∀ {t : Fm}, t.Ok → PyData.canLay0 t.dat = true
  | .leaf z, h => by
    have := strOk_low (name_low (show nameB z = true from h))
    simp [dat, PyData.canLay0, this]
  | .node s l r, h => by
    have a := lay h.2.1
    have b := lay h.2.2
    have c := (sign_ok h.1).2
    simp [dat, PyData.canLay0, PyData.canLayAll0, a, b, c]
theorem ddep : ∀ t : Fm, PyData.depth t.dat + 1 = t.dep
  | .leaf z => rfl
  | .node s l r => by
    have a := ddep l
    have b := ddep r
    rw [dep_node]
    simp only [dat, PyData.depth, PyData.depthAll]
    omega
theorem shaped {t : Fm} (h : t.Ok) (d : t.dep ≤ 60) : SeqAt.shaped t.dat = true := by
  show (PyData.canLay0 t.dat && decide (PyData.depth t.dat ≤ 64)) = true
  rw [lay h, Bool.true_and]
  have := ddep t
  exact decide_eq_true (by omega)
theorem eqv_eq : ∀ {t u : Fm}, PyData.eqv t.dat u.dat = true → t = u
  | .leaf z, .leaf y, h => by
    simp only [dat, PyData.eqv] at h
    rw [beq_iff_eq.mp h]
  | .leaf z, .node _ _ _, h => by simp [dat, PyData.eqv] at h
  | .node _ _ _, .leaf z, h => by simp [dat, PyData.eqv] at h
  | .node s l r, .node s' l' r', h => by
    simp only [dat, PyData.eqv, PyData.eqvAll, Bool.and_eq_true, Bool.and_true] at h
    obtain ⟨h1, h2, h3⟩ := h
    rw [beq_iff_eq.mp h1, eqv_eq h2, eqv_eq h3]
theorem eqv_self {t : Fm} (h : t.Ok) : PyData.eqv t.dat t.dat = true := SeqAt.eqv_refl _ (lay h)
end Fm
/-! ### form_size -/
structure It4 where
  a : Addr
  v : V
  m : Nat
  k : Nat
  t : Fm
structure ItOk (H : Hp) (i : It4) : Prop where
  h : H i.a = some (.tup [i.v, .int i.m, .int i.k])
  f : FmAt H i.v i.t
  ok : i.t.Ok
  m1 : 1 ≤ i.m
  k1 : 1 ≤ i.k
theorem ItOk.keep {H H' : Hp} {i : It4} (k : TupK H H') (x : ItOk H i) : ItOk H' i := ⟨k _ _ x.h, x.f.keep k, x.ok, x.m1, x.k1⟩
def lsum : List It4 → Nat
  | [] => 0
  | i :: r => i.m * i.t.nl + lsum r
def lmax : List It4 → Nat
  | [] => 0
  | i :: r => max (i.k + i.t.dep - 1) (lmax r)
def lsz : List It4 → Nat
  | [] => 0
  | i :: r => i.t.size + lsz r
theorem lsum_app : ∀ (x y : List It4), lsum (x ++ y) = lsum x + lsum y
  | [], y => by simp [lsum]
  | i :: r, y => by
    have := lsum_app r y
    simp only [List.cons_append, lsum, this]
    omega
theorem lsz_app : ∀ (x y : List It4), lsz (x ++ y) = lsz x + lsz y
  | [], y => by simp [lsz]
  | i :: r, y => by
    have := lsz_app r y
    simp only [List.cons_append, lsz, this]
    omega
theorem lmax_app : ∀ (x y : List It4), lmax (x ++ y) = max (lmax x) (lmax y)
  | [], y => by simp [lmax]
  | i :: r, y => by
    have := lmax_app r y
    simp only [List.cons_append, lmax, this]
    omega
theorem lsum_len : ∀ {l : List It4}, (∀ i ∈ l, 1 ≤ i.m) → l.length ≤ lsum l
  | [], _ => Nat.le_refl _
  | i :: r, h => by
    have a := lsum_len (l := r) fun j hj => h j (List.mem_cons_of_mem _ hj)
    have b := h i List.mem_cons_self
    have c := Fm.nl_pos i.t
    have d : 1 * 1 ≤ i.m * i.t.nl := Nat.mul_le_mul b c
    simp only [List.length_cons, lsum]
    omega
def spSize : Sp := fun vs H Q _ => ∃ (v : V) (t : Fm), vs = [v] ∧ FmAt H v t ∧ t.Ok ∧ t.nl ≤ 500 ∧ t.dep ≤ 60 ∧ ∀ (q : Addr) (H' : Hp), Same H H' → H' q = some (.tup [.int t.nl, .int t.dep]) → Q (.ref q) H'
abbrev nmSz : List Str := ["value", "leaves", "depth", "parts", "part", "times", "level", "side"]
theorem scSize : FnScope nmSz ["value"] (defScope sSize) := ⟨rfl, rfl, rfl, by decide +kernel, rfl, by decide +kernel, by decide +kernel⟩
structure AtSz (T : Fm) (L : Addr) (H0 : Hp) (m : Nat) (σ : L2.St) (H : Hp) : Prop where
  ex : ∃ (its : List It4) (lv dp : Nat) (x0 x4 x5 x6 x7 : Option V), σ = [x0, some (.int lv), some (.int dp), some (.ref L), x4, x5, x6, x7] ∧ m = lsz its ∧ H L = some (.lst (its.map fun i => V.ref i.a)) ∧ (∀ i ∈ its, ItOk H i) ∧ lv + lsum its = T.nl ∧ max dp (lmax its) = T.dep ∧ Same H0 H
abbrev cxZ (P : Program) (w : World) (K : PySem.W.Frag) (mg : Str → Option Value) (base : Heap) (f : Addr) (cdv : Value) (A : Around) (outer : List Env) (s : Shared) (H : Hp) (E : XK) : Cx := (cxOf CX0 P w K mg base nmSz "form_size" (defScope sSize) f cdv A outer s H E).nox
def whB : List Stmt := match defBody sSize with
  | _ :: _ :: (.While _ b _ _) :: _ => b
  | _ => []
/-- a turn of the loop, behind the depth -/
structure AtB (R : Fm → Prop) (T : Fm) (L : Addr) (H0 : Hp) (σ : L2.St) (H : Hp) (En : Ends) : Prop where
  ex : ∃ (its : List It4) (v : V) (t : Fm) (lv dp m k M : Nat) (x0 x7 : Option V), σ = [x0, some (.int lv), some (.int dp), some (.ref L), some v, some (.int m), some (.int k), x7] ∧ H L = some (.lst (its.map fun i => V.ref i.a)) ∧ (∀ i ∈ its, ItOk H i) ∧ FmAt H v t ∧ t.Ok ∧ R t ∧ 1 ≤ m ∧ 1 ≤ k ∧ k ≤ dp ∧
    lv + (lsum its + m * t.nl) = T.nl ∧ max dp (max (lmax its) (k + t.dep - 1)) = T.dep ∧ lsz its + t.size ≤ M ∧ Same H0 H ∧ H0 L = none ∧ T.nl ≤ 500 ∧ T.dep ≤ 60 ∧ ∀ σ' H', (∃ m', m' < M ∧ AtSz T L H0 m' σ' H') → En.nx σ' H'
section
variable {w : World} {P : Program} {base : Heap} {mg : Str → Option Value} {K : PySem.W.Frag} {aS : Addr}
variable {f fN fT : Addr} {cdv : Value} {A : Around} {outer : List Env} {s : Shared} {H00 : Hp} {E : XK} {T0 : Fm} {L : Addr} {H0 : Hp}
def inIf : List Stmt → List Stmt × List Stmt
  | [.If _ a b _] => (a, b)
  | _ => ([], [])
def whI : List Stmt × List Stmt := inIf (inIf (inIf (whB.drop 2)).2).2
theorem sz_app (T : Free mg) (hr : Room 1 (A.deeper (envOfC "form_size" (defScope sSize) s.heap.objs.size f cdv))) :
    PSs (cxZ P w K mg base f cdv A outer s H00 E) whI.1 (fun En σ H => AtB (fun t => ∃ s l, t = .node s l l) T0 L H0 σ H En) := by
  refine pss_of fun En σ H hyp => ?_
  obtain ⟨its, v, t, lv, dp, m, k, M, x0, x7, eσ, hL, hi, ft, ok, rt, m1, k1, kd, e1, e2, e3, s0, nL, l5, d6, fin⟩ := hyp.ex
  refine ⟨_, pss_one (ps_expr (pe_bm PySem.F.plainAttrs_list PySem.F.slot_list_append PySem.F.type_list_append mt_append (pv 3) (pa_cons (pe_tup (pa_cons (pe_ix ix_tup (pv 4) pe_int (fun _ _ => rfl)) (pa_cons (pe_op op_add (pv 5) (pv 5)) (pa_cons (pe_op op_add (pv 6) pe_int) pa_nil)))) pa_nil))), ?_⟩
  subst eσ
  obtain ⟨s', l, rfl⟩ := rt
  cases ft with
  | node h hl hr' =>
    rename_i a vl vr
    have hlen : its.length ≤ 500 := by
      have := lsum_len (l := its) fun i hx => (hi i hx).m1
      omega
    refine ⟨_, rfl, .inl ⟨rfl, _, SqL.of hL⟩, ?_⟩
    refine ⟨_, rfl, a, _, _, vl, rfl, rfl, SqT.of h, atI_nat (j := 1) rfl, _, rfl, _, rfl, _, _, rfl, rfl, _, rfl, _, _, rfl, rfl, (by show 3 ≤ sizeLine; decide), fun p np => ?_⟩
    have s1 : Same H (upd H p (.tup [vl, .int ((m : Int) + m), .int ((k : Int) + 1)])) := same_upd np
    refine ⟨L, _, _, rfl, rfl, s1 _ _ hL, by rw [List.length_map, sizeLine_eq]; omega, ?_⟩
    have kp : TupK H (upd (upd H p (.tup [vl, .int ((m : Int) + m), .int ((k : Int) + 1)])) L (.lst (its.map (fun i => V.ref i.a) ++ [.ref p]))) := (TupK.same s1).set (s1 _ _ hL)
    have em : (m : Int) + m = ((m + m : Nat) : Int) := by omega
    have ek : (k : Int) + 1 = ((k + 1 : Nat) : Int) := by omega
    have pL : p ≠ L := fun e => by rw [e, hL] at np; cases np
    have hp : (upd (upd H p (.tup [vl, .int ((m : Int) + m), .int ((k : Int) + 1)])) L (.lst (its.map (fun i => V.ref i.a) ++ [.ref p]))) p = some (.tup [vl, .int (m + m : Nat), .int (k + 1 : Nat)]) := by
      rw [upd_ne pL, upd_same, em, ek]
    refine fin _ _ ⟨lsz (its ++ [⟨p, vl, m + m, k + 1, l⟩]), ?_, its ++ [⟨p, vl, m + m, k + 1, l⟩], lv, dp, _, _, _, _, _, rfl, rfl, by rw [upd_same, List.map_append]; rfl, fun i hx => ?_, ?_, ?_, same_set (s0.trans s1) nL⟩
    · rw [lsz_app]
      have := Fm.size_pos l
      simp only [lsz]
      simp only [Fm.size] at e3
      omega
    · rcases List.mem_append.mp hx with e | e
      · exact (hi i e).keep kp
      · rw [List.mem_singleton.mp e]
        exact ⟨hp, hl.keep kp, ok.2.1, by show 1 ≤ m + m; omega, by show 1 ≤ k + 1; omega⟩
    · rw [lsum_app]
      rw [Fm.nl_node, Nat.mul_add] at e1
      simp only [lsum, Nat.add_mul]
      omega
    · rw [lmax_app]
      rw [Fm.dep_node] at e2
      have := Fm.dep_pos l
      simp only [lmax]
      omega
theorem sz_ext (T : Free mg) (hr : Room 1 (A.deeper (envOfC "form_size" (defScope sSize) s.heap.objs.size f cdv))) :
    PSs (cxZ P w K mg base f cdv A outer s H00 E) whI.2 (fun En σ H => AtB (fun t => isNode t = true) T0 L H0 σ H En) := by
  refine pss_of fun En σ H hyp => ?_
  obtain ⟨its, v, t, lv, dp, m, k, M, x0, x7, eσ, hL, hi, ft, ok, rt, m1, k1, kd, e1, e2, e3, s0, nL, l5, d6, fin⟩ := hyp.ex
  refine ⟨_, pss_one (ps_expr (pe_bm PySem.F.plainAttrs_list PySem.F.slot_list_extend PySem.F.type_list_extend mt_extend (pv 3) (pa_cons (pe_lc (own := [("side", 7)]) (g := gName 7) (tt := tYes) (te := tTup (tCons (tVar 7) (tCons (tVar 5) (tCons (tOp (rI0 fun i j => .int (i + j)) (tVar 6) (tC (.int 1))) tNil)))) rfl scSize.nd (pi_tup (pe_slice sl_tup (pv 4) (po_some pe_int) po_none))
              (blkOk_by (own := [("side", 7)]) (N := nmSz) (sc := defScope sSize) (by decide +kernel)) (fun _ _ _ _ _ => pg_name (i := 7) scSize.nd rfl (Or.inl rfl)) (fun _ _ _ _ _ => pts_nil)
              (fun _ _ _ _ _ => pe_tup (pa_cons (pv 7) (pa_cons (pv 5) (pa_cons (pe_op op_add (pv 6) pe_int) pa_nil))))) pa_nil))), ?_⟩
  subst eσ
  cases ft with
  | leaf z => cases rt
  | node h hl hr' =>
    rename_i a s' vl vr l r
    have hlen : its.length ≤ 500 := by
      have := lsum_len (l := its) fun i hx => (hi i hx).m1
      omega
    refine ⟨_, rfl, .inl ⟨rfl, _, SqL.of hL⟩, ?_⟩
    refine ⟨_, rfl, 1, rfl, a, _, rfl, SqT.of h, (fun e => absurd e.1 (by show ¬ (HT.sIx 3 0 (some 1) = 0); decide)), fun pp npp => ?_⟩
    have s1 : Same H (upd H pp (.tup [vl, vr])) := same_upd npp
    have hpp : (upd H pp (.tup [vl, vr])) pp = some (.tup [vl, vr]) := upd_same
    refine ⟨pp, rfl, ⟨_, SqT.of upd_same⟩, fun D nD => ?_⟩
    refine lc_tup (K := K) (a := pp) (xs := [vl, vr]) (fun i H' => Same (upd H pp (.tup [vl, vr])) H' ∧ ∃ ps : List Addr, ps.length = i ∧ H' D = some (.lst (ps.map V.ref)) ∧ ∀ (j : Nat) (q : Addr) (u : V), ps[j]? = some q → ([vl, vr] : List V)[j]? = some u → H' q = some (.tup [u, .int m, .int ((k : Int) + 1)])) ?_ ?_ ?_ ?_
    · exact ⟨same_upd nD, [], rfl, upd_same, fun j q u e => by cases e⟩
    · rintro i H' _ ⟨s2, _⟩
      exact SqT.of (s2 _ _ hpp)
    · rintro i x H' hx ⟨s2, ps, lp, hD, hq⟩
      have hi2 : i < 2 := (List.getElem?_eq_some_iff.mp hx).1
      refine ⟨rfl, _, rfl, _, rfl, _, rfl, _, _, rfl, rfl, (by show 3 ≤ sizeLine; decide), fun q nq => ?_⟩
      have s3 : Same H' (upd H' q (.tup [x, .int m, .int ((k : Int) + 1)])) := same_upd nq
      have hD3 := s3 _ _ hD
      have nqD : q ≠ D := fun e => by rw [e, hD] at nq; cases nq
      refine ⟨_, hD3, by rw [List.length_map, lp, sizeLine_eq]; omega, same_set (s2.trans s3) nD, ps ++ [q], by rw [List.length_append, lp]; rfl, by rw [upd_same, List.map_append]; rfl, fun j q' u e1 e2 => ?_⟩
      by_cases hj : j < ps.length
      · rw [List.getElem?_append_left hj] at e1
        have z := hq j q' u e1 e2
        rw [upd_ne (fun e => by rw [e, hD] at z; cases z)]
        exact s3 _ _ z
      · rw [List.getElem?_append_right (by omega)] at e1
        have e : j - ps.length = 0 := by
          have := (List.getElem?_eq_some_iff.mp e1).1
          simp at this
          omega
        rw [e] at e1
        cases e1
        have ej : j = i := by omega
        rw [ej, hx] at e2
        cases e2
        rw [upd_ne nqD, upd_same]
    · rintro H' ⟨s2, ps, lp, hD, hq⟩
      obtain ⟨p1, p2, rfl⟩ : ∃ p1 p2, ps = [p1, p2] := by
        match ps, lp with
        | [p1, p2], _ => exact ⟨p1, p2, rfl⟩
      have q1 := hq 0 p1 vl rfl rfl
      have q2 := hq 1 p2 vr rfl rfl
      have s12 := s1.trans s2
      refine ⟨L, D, _, _, rfl, rfl, s12 _ _ hL, hD, by rw [List.length_map, sizeLine_eq]; show its.length + 2 ≤ _; omega, ?_⟩
      have kp : TupK H (upd H' L (.lst (its.map (fun i => V.ref i.a) ++ [V.ref p1, V.ref p2]))) := (TupK.same s12).set (s12 _ _ hL)
      have ek : (k : Int) + 1 = ((k + 1 : Nat) : Int) := by omega
      have g1 : (upd H' L (.lst (its.map (fun i => V.ref i.a) ++ [V.ref p1, V.ref p2]))) p1 = some (.tup [vl, .int m, .int (k + 1 : Nat)]) := by
        rw [upd_ne (fun e => by rw [e, s12 _ _ hL] at q1; cases q1), ← ek]
        exact q1
      have g2 : (upd H' L (.lst (its.map (fun i => V.ref i.a) ++ [V.ref p1, V.ref p2]))) p2 = some (.tup [vr, .int m, .int (k + 1 : Nat)]) := by
        rw [upd_ne (fun e => by rw [e, s12 _ _ hL] at q2; cases q2), ← ek]
        exact q2
      refine fin _ _ ⟨lsz (its ++ [⟨p1, vl, m, k + 1, l⟩, ⟨p2, vr, m, k + 1, r⟩]), ?_, its ++ [⟨p1, vl, m, k + 1, l⟩, ⟨p2, vr, m, k + 1, r⟩], lv, dp, _, _, _, _, _, rfl, rfl, by rw [upd_same, List.map_append]; rfl, fun i hx => ?_, ?_, ?_, same_set (s0.trans s12) nL⟩
      · rw [lsz_app]
        simp only [lsz]
        simp only [Fm.size] at e3
        omega
      · rcases List.mem_append.mp hx with e | e
        · exact (hi i e).keep kp
        · simp only [List.mem_cons, List.not_mem_nil, or_false] at e
          rcases e with rfl | rfl
          · exact ⟨g1, hl.keep kp, ok.2.1, m1, by show 1 ≤ k + 1; omega⟩
          · exact ⟨g2, hr'.keep kp, ok.2.2, m1, by show 1 ≤ k + 1; omega⟩
      · rw [lsum_app]
        rw [Fm.nl_node, Nat.mul_add] at e1
        simp only [lsum]
        omega
      · rw [lmax_app]
        rw [Fm.dep_node] at e2
        have := Fm.dep_pos l
        have := Fm.dep_pos r
        simp only [lmax]
        omega
theorem sz_rest (T : Free mg) (hN : Has P w K mg base CX0 1 "is_name" fN ["value"] spIsName) (hT : Has P w K mg base CX0 1 "is_triple" fT ["value"] spTriple) (hr : Room 1 (A.deeper (envOfC "form_size" (defScope sSize) s.heap.objs.size f cdv))) :
    PSs (cxZ P w K mg base f cdv A outer s H00 E) (whB.drop 2) (fun En σ H => AtB (fun _ => True) T0 L H0 σ H En) := by
  refine pss_of fun En σ H hyp => ?_
  obtain ⟨its, v, t, lv, dp, m, k, M, x0, x7, eσ, hL, hi, ft, ok, rt, m1, k1, kd, e1, e2, e3, s0, nL, l5, d6, fin⟩ := hyp.ex
  have hun := hr.un
  refine ⟨_, pss_one (ps_if (pt_val (pe_has hN hr (by rfl) pass0 (pa_cons (pv 4) pa_nil)))
          (pss_one (ps_set (i := 1) scSize.nd rfl (.inl rfl) (pe_op op_add (pv 1) (pv 5))))
          (pss_one (ps_if (pt_not (pt_val (pe_has hT hr (by rfl) pass0 (pa_cons (pv 4) pa_nil)))) pss_never
          (pss_one (ps_if (PW.pt (pw_and (pt_val (pe_has hT hr (by rfl) pass0 (pa_cons (pe_ix ix_tup (pv 4) pe_int (fun _ _ => rfl)) pa_nil))) (pw_and1 (pt_cmpR (op_eqD (by show (A.deeper (envOfC "form_size" (defScope sSize) s.heap.objs.size f cdv)).units + 64 < cLine; omega)) (pe_ix ix_tup (pv 4) pe_int (fun _ _ => rfl)) (pe_ix ix_tup (pv 4) pe_int (fun _ _ => rfl)) (nomark _)))))
            (sz_app (T0 := T0) (L := L) (H0 := H0) T hr)
            (sz_ext (T0 := T0) (L := L) (H0 := H0) T hr)))))), ?_⟩
  subst eσ
  refine ⟨_, rfl, v, rfl, ft.vok ok, _, rfl, ?_⟩
  cases ft with
  | leaf z =>
    rw [show nameV (.str z) = true from ok]
    refine iteT ⟨_, rfl, _, rfl, _, _, rfl, rfl, ?_⟩
    refine fin _ _ ⟨lsz its, ?_, its, lv + m, dp, _, _, _, _, _, rfl, rfl, hL, hi, ?_, ?_, s0⟩
    · have : (Fm.leaf z).size = 1 := rfl
      omega
    · have : m * (Fm.leaf z).nl = m := Nat.mul_one m
      omega
    · have : (Fm.leaf z).dep = 1 := rfl
      rw [this] at e2
      omega
  | node h hl hr' =>
    rename_i a s' vl vr l r
    rw [show nameV (.ref a) = false from rfl]
    refine iteF ?_
    refine ⟨_, rfl, .ref a, .node s' l r, rfl, .node h hl hr', ok, _, rfl, iteF ?_⟩
    refine ⟨_, rfl, a, _, _, vl, rfl, rfl, SqT.of h, atI_nat (j := 1) rfl, vl, l, rfl, hl, ok.2.1, _, rfl, ?_⟩
    have st : AtB (fun t => isNode t = true) T0 L H0 [x0, some (.int lv), some (.int dp), some (.ref L), some (.ref a), some (.int m), some (.int k), x7] H En := ⟨its, .ref a, .node s' l r, lv, dp, m, k, M, x0, x7, rfl, hL, hi, .node h hl hr', ok, rfl, m1, k1, kd, e1, e2, e3, s0, nL, l5, d6, fin⟩
    cases hn : isNode l with
    | false => exact iteF (iteF st)
    | true =>
      have dl : l.dep ≤ 60 ∧ r.dep ≤ 60 := by
        rw [Fm.dep_node] at e2
        omega
      refine iteT ⟨_, rfl, a, _, _, vl, rfl, rfl, SqT.of h, atI_nat (j := 1) rfl, _, rfl, a, _, _, vr, rfl, rfl, SqT.of h, atI_nat (j := 2) rfl, _, _, hl.dp, hr'.dp, Fm.shaped ok.2.1 dl.1, Fm.shaped ok.2.2 dl.2, _, rfl, ?_⟩
      cases he : PyData.eqv l.dat r.dat with
      | false => exact iteF st
      | true =>
        have er := Fm.eqv_eq he
        exact iteT ⟨its, .ref a, .node s' l r, lv, dp, m, k, M, x0, x7, rfl, hL, hi, .node h hl hr', ok, ⟨s', l, by rw [er]⟩, m1, k1, kd, e1, e2, e3, s0, nL, l5, d6, fin⟩
end
end K1

namespace K1
open PySem PySem.Spec
open PyProof.Rows L2 EnT StX SmX TxS DuX
section
variable {w : World} {P : Program} {base : Heap} {mg : Str → Option Value} {K : PySem.W.Frag} {aS : Addr}
theorem sz_any {f fN fT : Addr} {cdv : Value} {A : Around} {outer : List Env} {s : Shared} {H00 : Hp} {E : XK} (T0 : Fm) (H0 : Hp) (T : Free mg) (hN : Has P w K mg base CX0 1 "is_name" fN ["value"] spIsName) (hT : Has P w K mg base CX0 1 "is_triple" fT ["value"] spTriple) (hr : Room 1 (A.deeper (envOfC "form_size" (defScope sSize) s.heap.objs.size f cdv))) :
    PSs (cxZ P w K mg base f cdv A outer s H00 E) (whB.drop 2) (fun En σ H => ∃ L, AtB (fun _ => True) T0 L H0 σ H En) := pss_of fun En σ H h => by
  obtain ⟨L, h⟩ := h
  exact ⟨_, sz_rest (T0 := T0) (L := L) (H0 := H0) T hN hT hr, h⟩
theorem ok_size {f fN fT : Addr} {fd : FuncData} (F : Fun K "form_size" "form_size" sSize f fd) (T : Free mg) (hN : Has P w K mg base CX0 1 "is_name" fN ["value"] spIsName) (hT : Has P w K mg base CX0 1 "is_triple" fT ["value"] spTriple) : FnOk P w K mg base CX0 2 f fd ["value"] spSize := by
  refine F.ok scSize (fun vs H Q E h => ?_) (fun cdv A outer s H vs Q E hr h => ?_)
  · obtain ⟨v, t, rfl, _⟩ := h
    rfl
  · obtain ⟨v, t, rfl, mt, ok, l5, d6, q⟩ := h
    refine ⟨_, pss_cons (ps_asg2 pe_int (pg_name (i := 1) scSize.nd rfl (.inl rfl)) (pg_name (i := 2) scSize.nd rfl (.inl rfl)))
      (pss_cons (ps_set (i := 3) scSize.nd rfl (.inl rfl) (pe_lst (pa_cons (pe_tup (pa_cons (pv 0) (pa_cons pe_int (pa_cons pe_int pa_nil)))) pa_nil)))
      (pss_cons (ps_while PassesOwn.never (pt_truth (pv 3) (by intro _; rfl))
        (pss_cons (ps_asg (pe_bm0 PySem.F.plainAttrs_list PySem.F.slot_list_pop PySem.F.type_list_pop mt_pop (pv 3)) (pg_tup rfl (pgs_cons (pg_name (i := 4) scSize.nd rfl (.inl rfl)) (pgs_cons (pg_name (i := 5) scSize.nd rfl (.inr rfl)) (pgs_cons (pg_name (i := 6) scSize.nd rfl (.inr rfl)) pgs_nil)))))
        (pss_cons (ps_set (i := 2) scSize.nd rfl (.inl rfl) (pe_ifExp (pt_cmpR op_gt (pv 6) (pv 2) (nomark _)) (pv 6) (pv 2)))
        (sz_any t H T hN hT hr))))
      (pss_one (ps_ret (pe_tup (pa_cons (pv 1) (pa_cons (pv 2) pa_nil))))))), ?_⟩
    refine ⟨_, rfl, (by show 3 ≤ sizeLine; decide), fun a1 n1 => ⟨(by show 1 ≤ sizeLine; decide), fun L nL => ?_⟩⟩
    have s1 : Same H (upd H a1 (.tup [v, .int 1, .int 1])) := same_upd n1
    have h1 : (upd H a1 (.tup [v, .int 1, .int 1])) a1 = some (.tup [v, .int 1, .int 1]) := upd_same
    have nL0 : H L = none := by
      cases hh : H L with
      | none => rfl
      | some o =>
        rw [s1 _ _ hh] at nL
        cases nL
    have s2 := s1.trans (same_upd (o := .lst [.ref a1]) nL)
    have h2 := (same_upd (o := .lst [.ref a1]) nL) _ _ h1
    refine ⟨fun m σ H' => AtSz t L H m σ H', ⟨lsz [⟨a1, v, 1, 1, t⟩], [⟨a1, v, 1, 1, t⟩], 0, 0, _, _, _, _, _, rfl, rfl, upd_same, fun i hi => ?_, ?_, ?_, s2⟩, ?_⟩
    · rw [List.mem_singleton.mp hi]
      exact ⟨h2, mt.same s2, ok, Nat.le_refl _, Nat.le_refl _⟩
    · show 0 + (1 * t.nl + 0) = t.nl
      omega
    · have := Fm.dep_pos t
      show max 0 (max (1 + t.dep - 1) 0) = t.dep
      omega
    · rintro m σ1 H1 ⟨its, lv, dp, x0, x4, x5, x6, x7, rfl, rfl, hL, hi, e1, e2, s0⟩
      refine ⟨_, rfl, _, .inl ⟨_, SqL.of hL, rfl⟩, ?_⟩
      rcases List.eq_nil_or_concat its with rfl | ⟨ini, x, rfl⟩
      · refine iteF ?_
        refine ⟨_, rfl, _, rfl, (by show 2 ≤ sizeLine; decide), fun p np => ?_⟩
        have z1 : lv = t.nl := e1
        have z2 : dp = t.dep := by
          rw [← e2]
          show dp = max dp 0
          omega
        rw [z1, z2]
        exact q p _ (s0.trans (same_upd np)) upd_same
      · rw [List.concat_eq_append] at hL hi e1 e2 ⊢
        have em : ((ini ++ [x]).map fun i => V.ref i.a) = (ini.map fun i => V.ref i.a) ++ [.ref x.a] := by rw [List.map_append]; rfl
        rw [em] at hL ⊢
        have ek : (!((ini.map fun i => V.ref i.a) ++ [V.ref x.a]).isEmpty) = true := by simp
        rw [ek]
        refine iteT ⟨fun σ' H' => ∃ m', m' < lsz (ini ++ [x]) ∧ AtSz t L H m' σ' H', fun σ' H' h => h, ?_⟩
        have X := hi x (by simp)
        refine ⟨_, rfl, .inl ⟨rfl, _, SqL.of hL⟩, L, _, .ref x.a, rfl, rfl, hL, by simp, ?_⟩
        have ed : ((ini.map fun i => V.ref i.a) ++ [V.ref x.a]).dropLast = ini.map fun i => V.ref i.a := by simp
        rw [ed]
        have kp : TupK H1 (upd H1 L (.lst (ini.map fun i => V.ref i.a))) := TupK.set (H := H1) (H' := H1) (fun a xs h => h) hL
        have s3 : Same H (upd H1 L (.lst (ini.map fun i => V.ref i.a))) := same_set s0 nL0
        have X' := X.keep kp
        have hL' : (upd H1 L (.lst (ini.map fun i => V.ref i.a))) L = some (.lst (ini.map fun i => V.ref i.a)) := upd_same
        generalize upd H1 L (.lst (ini.map fun i => V.ref i.a)) = H2 at kp s3 X' hL' ⊢
        refine ⟨x.a, _, rfl, SqT.of X'.h, rfl, _, _, rfl, _, _, rfl, _, _, rfl, rfl, ?_⟩
        refine ⟨_, rfl, _, rfl, _, _, rfl, rfl, _, rfl, ?_⟩
        rw [lsum_app] at e1
        rw [lmax_app] at e2
        simp only [lsum, lmax] at e1 e2
        have D := Fm.dep_pos x.t
        have K1' := X.k1
        have key : ∀ dp' : Nat, dp' = max dp x.k → ∀ σ' : L2.St, σ' = [x0, some (.int lv), some (.int dp'), some (.ref L), some x.v, some (.int x.m), some (.int x.k), x7] → ∀ En : Ends, (∀ σ' H', (∃ m', m' < lsz (ini ++ [x]) ∧ AtSz t L H m' σ' H') → En.nx σ' H') → ∃ L', AtB (fun _ => True) t L' H σ' H2 En := fun dp' ed' σ' es En hn => ⟨L, ini, x.v, x.t, lv, dp', x.m, x.k, lsz (ini ++ [x]), _, _, es, hL', fun i hx => (hi i (by simp [hx])).keep kp, X'.f, X.ok, trivial, X.m1, X.k1, by omega, by omega, by omega, by rw [lsz_app]; simp only [lsz]; omega, s3, nL0, l5, d6, hn⟩
        by_cases hk : ((x.k : Nat) : Int) > ((dp : Nat) : Int)
        · rw [decide_eq_true hk]
          exact iteT ⟨_, rfl, key x.k (by omega) _ rfl _ fun σ' H' h => h⟩
        · rw [decide_eq_false hk]
          exact iteF ⟨_, rfl, key dp (by omega) _ rfl _ fun σ' H' h => h⟩
end
end K1

namespace K1
open PySem PySem.Spec
open PyProof.Rows L2 EnT StX SmX TxS DuX
theorem empty_app (x : Str) : Str.empty ++ x = x := by
  cases x with
  | mk c =>
    show (⟨#[] ++ c⟩ : Str) = ⟨c⟩
    simp
/-! ### texts of forms -/
def spTextF (n : Nat) : Sp := fun vs H Q _ => ∃ (v : V) (t : Fm), vs = [v] ∧ FmAt H v t ∧ t.Ok ∧ t.dep ≤ n ∧ t.nl ≤ 500 ∧ Q (.str (t.txt false)) H
def spSideF (n : Nat) : Sp := fun vs H Q _ => ∃ (v : V) (t : Fm), vs = [v] ∧ FmAt H v t ∧ t.Ok ∧ t.dep ≤ n ∧ t.nl ≤ 500 ∧ Q (.str (t.txt true)) H
abbrev nmTx : List Str := ["form", "sign", "left", "right"]
section
variable {w : World} {P : Program} {base : Heap} {mg : Str → Option Value} {K : PySem.W.Frag} {aS : Addr}
theorem scText : FnScope nmTx ["form"] (defScope sText) := ⟨rfl, rfl, rfl, by decide +kernel, rfl, by decide +kernel, by decide +kernel⟩
theorem scSide : FnScope ["form"] ["form"] (defScope sSide) := ⟨rfl, rfl, rfl, by decide +kernel, rfl, by decide +kernel, by decide +kernel⟩
theorem leaf_only {t : Fm} (h : t.dep ≤ 1) : ∃ z, t = .leaf z := by
  cases t with
  | leaf z => exact ⟨z, rfl⟩
  | node s l r =>
    have := Fm.dep_pos l
    rw [Fm.dep_node] at h
    omega
theorem ok_texts {f g : Addr} {fd gd : FuncData} (F : Fun K "form_text" "form_text" sText f fd) (G : Fun K "side_text" "side_text" sSide g gd) (T : Free mg) (mgF : mg "form_text" = some (.ref f)) (mgG : mg "side_text" = some (.ref g)) :
    ∀ n : Nat, FnOk P w K mg base CX0 (2 * n + 2) f fd ["form"] (spTextF (n + 1)) ∧ FnOk P w K mg base CX0 (2 * n + 3) g gd ["form"] (spSideF (n + 1)) := by
  have bF : L2.Binds K fd ["form"] [] := F.binds (ps := ["form"]) fun _ _ _ _ _ _ us hl => match us, hl with | [_], _ => rfl
  have bG : L2.Binds K gd ["form"] [] := G.binds (ps := ["form"]) fun _ _ _ _ _ _ us hl => match us, hl with | [_], _ => rfl
  have e1 : (" " : Str).length = 1 := by decide +kernel
  have e2 : ("(" : Str).length = 1 := by decide +kernel
  have e3 : (")" : Str).length = 1 := by decide +kernel
  intro n
  induction n with
  | zero =>
    refine ⟨?_, ?_⟩
    · refine F.ok scText (fun vs H Q E h => ?_) (fun cdv A outer s H vs Q E hr h => ?_)
      · obtain ⟨v, t, rfl, _⟩ := h
        rfl
      · obtain ⟨v, t, rfl, m, ok, d, l, q⟩ := h
        obtain ⟨z, rfl⟩ := leaf_only d
        refine ⟨_, pss_cons (ps_if (pt_val (pe_callB call_isi (by rfl) T.isinstance (by decide +kernel) (pa_cons (pv 0) (pa_cons (pe_bltn (v := .ty "str") (u := .type "str") (by rfl) T.str (by decide +kernel) rfl) pa_nil)))) (pss_one (ps_ret (pv 0))) pss_nil) pss_never, ?_⟩
        cases m
        exact ⟨_, rfl, _, _, _, _, true, rfl, .ty _, .base (.str z), kit_ty (by decide +kernel), true, rfl, iteT ⟨_, rfl, q⟩⟩
    · refine G.ok scSide (fun vs H Q E h => ?_) (fun cdv A outer s H vs Q E hr h => ?_)
      · obtain ⟨v, t, rfl, _⟩ := h
        rfl
      · obtain ⟨v, t, rfl, m, ok, d, l, q⟩ := h
        obtain ⟨z, rfl⟩ := leaf_only d
        refine ⟨_, pss_cons (ps_if (pt_val (pe_callB call_isi (by rfl) T.isinstance (by decide +kernel) (pa_cons (pv 0) (pa_cons (pe_bltn (v := .ty "str") (u := .type "str") (by rfl) T.str (by decide +kernel) rfl) pa_nil)))) (pss_one (ps_ret (pv 0))) pss_nil) pss_never, ?_⟩
        cases m
        exact ⟨_, rfl, _, _, _, _, true, rfl, .ty _, .base (.str z), kit_ty (by decide +kernel), true, rfl, iteT ⟨_, rfl, q⟩⟩
  | succ n ih =>
    obtain ⟨_, ihS⟩ := ih
    have hS : Has P w K mg base CX0 (2 * n + 3) "side_text" g ["form"] (spSideF (n + 1)) := ⟨mgG, G.kp, gd, ihS, bG⟩
    have one : FnOk P w K mg base CX0 (2 * (n + 1) + 2) f fd ["form"] (spTextF (n + 1 + 1)) := by
      refine F.ok (k := 2 * n + 3) scText (fun vs H Q E h => ?_) (fun cdv A outer s H vs Q E hr h => ?_)
      · obtain ⟨v, t, rfl, _⟩ := h
        rfl
      · obtain ⟨v, t, rfl, m, ok, d, l, q⟩ := h
        refine ⟨_, pss_cons (ps_if (pt_val (pe_callB call_isi (by rfl) T.isinstance (by decide +kernel) (pa_cons (pv 0) (pa_cons (pe_bltn (v := .ty "str") (u := .type "str") (by rfl) T.str (by decide +kernel) rfl) pa_nil)))) (pss_one (ps_ret (pv 0))) pss_nil)
          (pss_cons (ps_asg (pv 0) (pg_tup rfl (pgs_cons (pg_name (i := 1) scText.nd rfl (.inl rfl)) (pgs_cons (pg_name (i := 2) scText.nd rfl (.inl rfl)) (pgs_cons (pg_name (i := 3) scText.nd rfl (.inl rfl)) pgs_nil)))))
          (pss_one (ps_ret (pe_joined (.cons (pe_fmt (pe_has hS hr (by rfl) pass0 (pa_cons (pv 2) pa_nil))) (.cons pe_str (.cons (pe_fmt (pv 1)) (.cons pe_str (.cons (pe_fmt (pe_has hS hr (by rfl) pass0 (pa_cons (pv 3) pa_nil))) .nil))))))))), ?_⟩
        cases m with
        | leaf z => exact ⟨_, rfl, _, _, _, _, true, rfl, .ty _, .base (.str z), kit_ty (by decide +kernel), true, rfl, iteT ⟨_, rfl, q⟩⟩
        | node h hl hr' =>
          rename_i a s' vl vr l' r'
          rw [Fm.dep_node] at d
          have t1 := txt_len true l' ok.2.1
          have t2 := txt_len true r' ok.2.2
          rw [Fm.nl_node] at l
          have c1 := (sign_ok ok.1).1
          have z0 : Str.empty.length = 0 := rfl
          refine ⟨_, rfl, _, _, _, _, false, rfl, .ty _, .base (.tup h), kit_ty (by decide +kernel), false, rfl, iteF ?_⟩
          refine ⟨_, rfl, a, _, rfl, SqT.of h, rfl, _, _, rfl, _, _, rfl, _, _, rfl, rfl, ?_⟩
          refine ⟨_, rfl, vl, l', rfl, hl, ok.2.1, by omega, by omega, .inl ⟨_, rfl, by rw [sizeLine_eq]; omega, _, rfl, by rw [strLen_append, z0, sizeLine_eq]; omega, _, rfl, by rw [strLen_append, strLen_append, z0, e1, sizeLine_eq]; omega, ?_⟩⟩
          refine ⟨_, rfl, .inl ⟨_, rfl, by rw [c1, sizeLine_eq]; omega, _, rfl, by rw [strLen_append, strLen_append, strLen_append, z0, e1, c1, sizeLine_eq]; omega, _, rfl, by rw [strLen_append, strLen_append, strLen_append, strLen_append, z0, e1, c1, sizeLine_eq]; omega, ?_⟩⟩
          refine ⟨_, rfl, vr, r', rfl, hr', ok.2.2, by omega, by omega, .inl ⟨_, rfl, by rw [sizeLine_eq]; omega, _, rfl, by rw [strLen_append, strLen_append, strLen_append, strLen_append, strLen_append, z0, e1, c1, sizeLine_eq]; omega, ?_⟩⟩
          rw [empty_app]
          exact q
    refine ⟨one, ?_⟩
    have hT : Has P w K mg base CX0 (2 * (n + 1) + 2) "form_text" f ["form"] (spTextF (n + 1 + 1)) := ⟨mgF, F.kp, fd, one, bF⟩
    refine G.ok (k := 2 * (n + 1) + 2) scSide (fun vs H Q E h => ?_) (fun cdv A outer s H vs Q E hr h => ?_)
    · obtain ⟨v, t, rfl, _⟩ := h
      rfl
    · obtain ⟨v, t, rfl, m, ok, d, l, q⟩ := h
      refine ⟨_, pss_cons (ps_if (pt_val (pe_callB call_isi (by rfl) T.isinstance (by decide +kernel) (pa_cons (pv 0) (pa_cons (pe_bltn (v := .ty "str") (u := .type "str") (by rfl) T.str (by decide +kernel) rfl) pa_nil)))) (pss_one (ps_ret (pv 0))) pss_nil)
        (pss_one (ps_ret (pe_joined (.cons pe_str (.cons (pe_fmt (pe_has hT hr (by rfl) pass0 (pa_cons (pv 0) pa_nil))) (.cons pe_str .nil)))))), ?_⟩
      have tl := txt_len false t ok
      cases m with
      | leaf z => exact ⟨_, rfl, _, _, _, _, true, rfl, .ty _, .base (.str z), kit_ty (by decide +kernel), true, rfl, iteT ⟨_, rfl, q⟩⟩
      | node h hl hr' =>
        rename_i a s' vl vr l' r'
        have z0 : Str.empty.length = 0 := rfl
        refine ⟨_, rfl, _, _, _, _, false, rfl, .ty _, .base (.tup h), kit_ty (by decide +kernel), false, rfl, iteF ?_⟩
        refine ⟨_, rfl, by rw [strLen_append, z0, e2, sizeLine_eq]; omega, _, rfl, .ref a, .node s' l' r', rfl, .node h hl hr', ok, d, l, .inl ⟨_, rfl, by rw [sizeLine_eq]; omega, _, rfl, by rw [strLen_append, strLen_append, z0, e2, sizeLine_eq]; omega, _, rfl, by rw [strLen_append, strLen_append, strLen_append, z0, e2, e3, sizeLine_eq]; omega, ?_⟩⟩
        rw [empty_app]
        exact q
end
end K1

namespace K1
open PySem PySem.Spec
open PyProof.Rows L2 EnT StX SmX TxS DuX
def spLine (n : Nat) : Sp := fun vs H Q _ => ∃ (v : V) (t : Fm) (b : Bool), vs = [v, .bl b] ∧ FmAt H v t ∧ t.Ok ∧ t.dep ≤ n ∧ t.nl ≤ 500 ∧ Q (.str (t.txt b)) H
def spDeep (n : Nat) : Sp := fun vs H Q _ => ∃ (v : V) (t : Fm), vs = [v] ∧ FmAt H v t ∧ t.dep ≤ n ∧ Q (.int (t.dep : Nat)) H
def spFormL (n : Nat) : Sp := fun vs H Q _ => ∃ (p a : Addr) (N : List Str) (d : Nat), vs = [.ref p, .ref a, .int d] ∧ PoolAt H p ∧ a ≠ p ∧ H a = some (.lst (N.map V.str)) ∧ 0 < N.length ∧ N.length < 1000 ∧ (∀ z ∈ N, nameB z = true) ∧ d ≤ n ∧
  ∀ (v : V) (t : Fm) (H' : Hp), K1.Ext p H H' → FmAt H' v t → t.Ok → t.dep ≤ d + 1 → Q v H'
abbrev nmLi : List Str := ["_law_shape", "_law_inside", "_law_line_here"]
abbrev nmDp : List Str := ["_law_shape", "_law_low", "_law_high"]
abbrev nmFo : List Str := ["_law_pool_here", "_law_words_here", "_law_deep_here", "_law_sign"]
section
variable {w : World} {P : Program} {base : Heap} {mg : Str → Option Value} {K : PySem.W.Frag} {aS : Addr}
theorem scLine : FnScope nmLi ["_law_shape", "_law_inside"] (defScope sLine) := ⟨rfl, rfl, rfl, by decide +kernel, rfl, by decide +kernel, by decide +kernel⟩
theorem scWords : FnScope ["_law_shape"] ["_law_shape"] (defScope sWords) := ⟨rfl, rfl, rfl, by decide +kernel, rfl, by decide +kernel, by decide +kernel⟩
theorem scDeep : FnScope nmDp ["_law_shape"] (defScope sDeep) := ⟨rfl, rfl, rfl, by decide +kernel, rfl, by decide +kernel, by decide +kernel⟩
theorem scForm : FnScope nmFo ["_law_pool_here", "_law_words_here", "_law_deep_here"] (defScope sForm) := ⟨rfl, rfl, rfl, by decide +kernel, rfl, by decide +kernel, by decide +kernel⟩
theorem ok_line {f : Addr} {fd : FuncData} (F : Fun K "_law_line" "_law_line" sLine f fd) (T : Free mg) (mgF : mg "_law_line" = some (.ref f)) : ∀ n : Nat, FnOk P w K mg base CX0 (n + 1) f fd ["_law_shape", "_law_inside"] (spLine (n + 1)) := by
  have bF : L2.Binds K fd ["_law_shape", "_law_inside"] [] := F.binds (ps := ["_law_shape", "_law_inside"]) fun _ _ _ _ _ _ us hl => match us, hl with | [_, _], _ => rfl
  have e1 : (" " : Str).length = 1 := by decide +kernel
  have e2 : ("(" : Str).length = 1 := by decide +kernel
  have e3 : (")" : Str).length = 1 := by decide +kernel
  intro n
  induction n with
  | zero =>
    refine F.ok scLine (fun vs H Q E h => ?_) (fun cdv A outer s H vs Q E hr h => ?_)
    · obtain ⟨v, t, b, rfl, _⟩ := h
      rfl
    · obtain ⟨v, t, b, rfl, m, ok, d, l, q⟩ := h
      obtain ⟨z, rfl⟩ := leaf_only d
      refine ⟨_, pss_cons (ps_if (pt_val (pe_callB call_isi (by rfl) T.isinstance (by decide +kernel) (pa_cons (pv 0) (pa_cons (pe_bltn (v := .ty "str") (u := .type "str") (by rfl) T.str (by decide +kernel) rfl) pa_nil)))) (pss_one (ps_ret (pv 0))) pss_nil) pss_never, ?_⟩
      cases m
      have ez : (Fm.leaf z).txt b = z := by cases b <;> rfl
      rw [ez] at q
      exact ⟨_, rfl, _, _, _, _, true, rfl, .ty _, .base (.str z), kit_ty (by decide +kernel), true, rfl, iteT ⟨_, rfl, q⟩⟩
  | succ n ih =>
    have hF : Has P w K mg base CX0 (n + 1) "_law_line" f ["_law_shape", "_law_inside"] (spLine (n + 1)) := ⟨mgF, F.kp, fd, ih, bF⟩
    refine F.ok scLine (fun vs H Q E h => ?_) (fun cdv A outer s H vs Q E hr h => ?_)
    · obtain ⟨v, t, b, rfl, _⟩ := h
      rfl
    · obtain ⟨v, t, b, rfl, m, ok, d, l, q⟩ := h
      refine ⟨_, pss_cons (ps_if (pt_val (pe_callB call_isi (by rfl) T.isinstance (by decide +kernel) (pa_cons (pv 0) (pa_cons (pe_bltn (v := .ty "str") (u := .type "str") (by rfl) T.str (by decide +kernel) rfl) pa_nil)))) (pss_one (ps_ret (pv 0))) pss_nil)
        (pss_cons (ps_set (i := 2) scLine.nd rfl (.inl rfl) (pe_op op_add_str (pe_op op_add_str (pe_op op_add_str (pe_op op_add_str (pe_has hF hr (by rfl) pass0 (pa_cons (pe_ix ix_tup (pv 0) pe_int (fun _ _ => rfl)) (pa_cons pe_bl pa_nil))) pe_str) (pe_ix ix_tup (pv 0) pe_int (fun _ _ => rfl))) pe_str)
          (pe_has hF hr (by rfl) pass0 (pa_cons (pe_ix ix_tup (pv 0) pe_int (fun _ _ => rfl)) (pa_cons pe_bl pa_nil)))))
        (pss_one (ps_ret (pe_ifExp (pt_val (pv 1)) (pe_op op_add_str (pe_op op_add_str pe_str (pv 2)) pe_str) (pv 2))))), ?_⟩
      cases m with
      | leaf z =>
        have ez : (Fm.leaf z).txt b = z := by cases b <;> rfl
        rw [ez] at q
        exact ⟨_, rfl, _, _, _, _, true, rfl, .ty _, .base (.str z), kit_ty (by decide +kernel), true, rfl, iteT ⟨_, rfl, q⟩⟩
      | node h hl hr' =>
        rename_i a s' vl vr l' r'
        rw [Fm.dep_node] at d
        have t1 := txt_len true l' ok.2.1
        have t2 := txt_len true r' ok.2.2
        rw [Fm.nl_node] at l
        have c1 := (sign_ok ok.1).1
        refine ⟨_, rfl, _, _, _, _, false, rfl, .ty _, .base (.tup h), kit_ty (by decide +kernel), false, rfl, iteF ?_⟩
        refine ⟨_, rfl, a, _, _, vl, rfl, rfl, SqT.of h, atI_nat (j := 1) rfl, vl, l', true, rfl, hl, ok.2.1, by omega, by omega, ?_⟩
        refine ⟨_, _, rfl, rfl, by rw [e1, sizeLine_eq]; omega, ?_⟩
        refine ⟨_, rfl, a, _, _, .str s', rfl, rfl, SqT.of h, atI_nat (j := 0) rfl, ?_⟩
        refine ⟨_, _, rfl, rfl, by rw [strLen_append, e1, c1, sizeLine_eq]; omega, ?_⟩
        refine ⟨_, _, rfl, rfl, by rw [strLen_append, strLen_append, e1, c1, sizeLine_eq]; omega, ?_⟩
        refine ⟨_, rfl, a, _, _, vr, rfl, rfl, SqT.of h, atI_nat (j := 2) rfl, vr, r', true, rfl, hr', ok.2.2, by omega, by omega, ?_⟩
        refine ⟨_, _, rfl, rfl, by rw [strLen_append, strLen_append, strLen_append, e1, c1, sizeLine_eq]; omega, ?_⟩
        cases b with
        | false => exact ⟨_, rfl, _, rfl, iteF ⟨_, rfl, q⟩⟩
        | true =>
          refine ⟨_, rfl, _, rfl, iteT ⟨_, rfl, _, _, rfl, rfl, by rw [strLen_append, strLen_append, strLen_append, strLen_append, e1, e2, c1, sizeLine_eq]; omega, _, _, rfl, rfl, by rw [strLen_append, strLen_append, strLen_append, strLen_append, strLen_append, e1, e2, e3, c1, sizeLine_eq]; omega, q⟩⟩
theorem ok_words {f : Addr} {fd : FuncData} (F : Fun K "_law_words" "_law_words" sWords f fd) (T : Free mg) (mgF : mg "_law_words" = some (.ref f)) : ∀ n : Nat, FnOk P w K mg base CX0 (n + 1) f fd ["_law_shape"] (spLeaves (n + 1)) := by
  have bF : L2.Binds K fd ["_law_shape"] [] := F.binds (ps := ["_law_shape"]) fun _ _ _ _ _ _ us hl => match us, hl with | [_], _ => rfl
  have no : ∀ {vs : List V} {H : Hp} {Q : VK} {E : XK}, ¬ spLeaves 0 vs H Q E := fun h => by
    obtain ⟨v, t, _, _, d, _⟩ := h
    have := Fm.dep_pos t
    omega
  have all : ∀ n : Nat, FnOk P w K mg base CX0 n f fd ["_law_shape"] (spLeaves n) := by
    intro n
    induction n with
    | zero => exact ⟨fun vs H Q E h => absurd h no, fun A outer s H args us vs Q E hr e0 hb r h => absurd h no⟩
    | succ n ih =>
      have hF : Has P w K mg base CX0 n "_law_words" f ["_law_shape"] (spLeaves n) := ⟨mgF, F.kp, fd, ih, bF⟩
      refine F.ok scWords (fun vs H Q E h => ?_) (fun cdv A outer s H vs Q E hr h => ?_)
      · obtain ⟨v, t, rfl, _⟩ := h
        rfl
      · obtain ⟨v, t, rfl, m, d, l, q⟩ := h
        refine ⟨_, pss_one (ps_ret (pe_ifExp (pt_val (pe_callB call_isi (by rfl) T.isinstance (by decide +kernel) (pa_cons (pv 0) (pa_cons (pe_bltn (v := .ty "str") (u := .type "str") (by rfl) T.str (by decide +kernel) rfl) pa_nil)))) (pe_lst (pa_cons (pv 0) pa_nil))
          (pe_op op_cat (pe_has hF hr (by rfl) pass0 (pa_cons (pe_ix ix_tup (pv 0) pe_int (fun _ _ => rfl)) pa_nil)) (pe_has hF hr (by rfl) pass0 (pa_cons (pe_ix ix_tup (pv 0) pe_int (fun _ _ => rfl)) pa_nil))))), ?_⟩
        cases m with
        | leaf z => exact ⟨_, rfl, _, _, _, _, true, rfl, .ty _, .base (.str z), kit_ty (by decide +kernel), true, rfl, iteT ⟨_, rfl, (by show 1 ≤ sizeLine; decide), fun p np => q p _ np (same_upd np) upd_same⟩⟩
        | node h hl hr' =>
          rename_i a s' vl vr l' r'
          rw [Fm.dep_node] at d
          rw [Fm.nl_node] at l
          refine ⟨_, rfl, _, _, _, _, false, rfl, .ty _, .base (.tup h), kit_ty (by decide +kernel), false, rfl, iteF ?_⟩
          refine ⟨_, rfl, a, _, _, vl, rfl, rfl, SqT.of h, atI_nat (j := 1) rfl, vl, l', rfl, hl, by omega, by omega, fun q1 H1 n1 s1 h1 => ?_⟩
          refine ⟨_, rfl, a, _, _, vr, rfl, rfl, SqT.of (s1 _ _ h), atI_nat (j := 2) rfl, vr, r', rfl, hr'.same s1, by omega, by omega, fun q2 H2 n2 s2 h2 => ?_⟩
          have e1 : (l'.lvs.map V.str).length = l'.nl := List.length_map ..
          have e2 : (r'.lvs.map V.str).length = r'.nl := List.length_map ..
          refine ⟨q1, q2, _, _, rfl, rfl, s2 _ _ h1, h2, by rw [e1, e2, sizeLine_eq]; omega, fun p np => ?_⟩
          have s12 := s1.trans s2
          refine q p _ ?_ (s12.trans (same_upd np)) (by rw [upd_same, ← List.map_append]; rfl)
          cases hh : H p with
          | none => rfl
          | some o =>
            rw [s12 _ _ hh] at np
            cases np
  exact fun n => all (n + 1)
theorem ok_deep {f : Addr} {fd : FuncData} (F : Fun K "_law_deep" "_law_deep" sDeep f fd) (T : Free mg) (mgF : mg "_law_deep" = some (.ref f)) : ∀ n : Nat, FnOk P w K mg base CX0 (n + 1) f fd ["_law_shape"] (spDeep (n + 1)) := by
  have bF : L2.Binds K fd ["_law_shape"] [] := F.binds (ps := ["_law_shape"]) fun _ _ _ _ _ _ us hl => match us, hl with | [_], _ => rfl
  intro n
  induction n with
  | zero =>
    refine F.ok scDeep (fun vs H Q E h => ?_) (fun cdv A outer s H vs Q E hr h => ?_)
    · obtain ⟨v, t, rfl, _⟩ := h
      rfl
    · obtain ⟨v, t, rfl, m, d, q⟩ := h
      obtain ⟨z, rfl⟩ := leaf_only d
      refine ⟨_, pss_cons (ps_if (pt_val (pe_callB call_isi (by rfl) T.isinstance (by decide +kernel) (pa_cons (pv 0) (pa_cons (pe_bltn (v := .ty "str") (u := .type "str") (by rfl) T.str (by decide +kernel) rfl) pa_nil)))) (pss_one (ps_ret pe_int)) pss_nil) pss_never, ?_⟩
      cases m
      exact ⟨_, rfl, _, _, _, _, true, rfl, .ty _, .base (.str z), kit_ty (by decide +kernel), true, rfl, iteT q⟩
  | succ n ih =>
    have hF : Has P w K mg base CX0 (n + 1) "_law_deep" f ["_law_shape"] (spDeep (n + 1)) := ⟨mgF, F.kp, fd, ih, bF⟩
    refine F.ok scDeep (fun vs H Q E h => ?_) (fun cdv A outer s H vs Q E hr h => ?_)
    · obtain ⟨v, t, rfl, _⟩ := h
      rfl
    · obtain ⟨v, t, rfl, m, d, q⟩ := h
      refine ⟨_, pss_cons (ps_if (pt_val (pe_callB call_isi (by rfl) T.isinstance (by decide +kernel) (pa_cons (pv 0) (pa_cons (pe_bltn (v := .ty "str") (u := .type "str") (by rfl) T.str (by decide +kernel) rfl) pa_nil)))) (pss_one (ps_ret pe_int)) pss_nil)
        (pss_cons (ps_par (i := 1) (j := 2) rfl scDeep.nd rfl rfl (by decide) rfl rfl (pa_cons (pe_has hF hr (by rfl) pass0 (pa_cons (pe_ix ix_tup (pv 0) pe_int (fun _ _ => rfl)) pa_nil)) (pa_cons (pe_has hF hr (by rfl) pass0 (pa_cons (pe_ix ix_tup (pv 0) pe_int (fun _ _ => rfl)) pa_nil)) pa_nil)) (by rfl))
        (pss_one (ps_ret (pe_op op_add pe_int (pe_ifExp (pt_cmpR op_gt (pv 1) (pv 2) (nomark _)) (pv 1) (pv 2)))))), ?_⟩
      cases m with
      | leaf z => exact ⟨_, rfl, _, _, _, _, true, rfl, .ty _, .base (.str z), kit_ty (by decide +kernel), true, rfl, iteT q⟩
      | node h hl hr' =>
        rename_i a s' vl vr l' r'
        have d' := d
        rw [Fm.dep_node] at d
        refine ⟨_, rfl, _, _, _, _, false, rfl, .ty _, .base (.tup h), kit_ty (by decide +kernel), false, rfl, iteF ?_⟩
        refine ⟨_, rfl, a, _, _, vl, rfl, rfl, SqT.of h, atI_nat (j := 1) rfl, vl, l', rfl, hl, by omega, ?_⟩
        refine ⟨_, rfl, a, _, _, vr, rfl, rfl, SqT.of h, atI_nat (j := 2) rfl, vr, r', rfl, hr', by omega, ?_⟩
        refine ⟨_, _, rfl, ?_⟩
        refine ⟨_, rfl, _, rfl, _, _, rfl, rfl, _, rfl, ?_⟩
        by_cases hk : ((l'.dep : Nat) : Int) > ((r'.dep : Nat) : Int)
        · rw [decide_eq_true hk]
          refine iteT ⟨_, rfl, _, _, rfl, rfl, ?_⟩
          have e : ((Fm.node s' l' r').dep : Int) = 1 + (l'.dep : Int) := by rw [Fm.dep_node]; omega
          rw [e] at q
          exact q
        · rw [decide_eq_false hk]
          refine iteF ⟨_, rfl, _, _, rfl, rfl, ?_⟩
          have e : ((Fm.node s' l' r').dep : Int) = 1 + (r'.dep : Int) := by rw [Fm.dep_node]; omega
          rw [e] at q
          exact q
def foB : List Stmt := match defBody sForm with
  | (.If _ b _ _) :: _ => b
  | _ => []
structure AtFo (p a : Addr) (N : List Str) (σ : L2.St) (H : Hp) (En : Ends) : Prop where
  ex : ∃ (x2 x3 : Option V), σ = [some (.ref p), some (.ref a), x2, x3] ∧ PoolAt H p ∧ a ≠ p ∧ H a = some (.lst (N.map V.str)) ∧ 0 < N.length ∧ N.length < 1000 ∧ (∀ z ∈ N, nameB z = true) ∧ ∀ z H', K1.Ext p H H' → nameB z = true → En.rt (.str z) H'
theorem fo_leaf {f fD p a : Addr} {N : List Str} {cdv : Value} {A : Around} {outer : List Env} {s : Shared} {H00 : Hp} {E : XK} (T : Free mg) (hD : Has P w K mg base CX0 1 "_law_draw" fD ["_law_pool_here", "_law_many"] spDraw) (hr : Room 1 (A.deeper (envOfC "_law_form" (defScope sForm) s.heap.objs.size f cdv))) :
    PSs (cxOf CX0 P w K mg base nmFo "_law_form" (defScope sForm) f cdv A outer s H00 E).nox foB (fun En σ H => AtFo p a N σ H En) := by
  refine pss_of fun En σ H hyp => ?_
  obtain ⟨x2, x3, eσ, hp, ap, ha, n0, n1, nm, q⟩ := hyp.ex
  refine ⟨_, pss_one (ps_ret (pe_ix ix_list (pv 1) (pe_has hD hr (by rfl) pass0 (pa_cons (pv 0) (pa_cons (pe_callB call_len_seq (by rfl) T.len PySem.boot_len (pa_cons (pv 1) pa_nil)) pa_nil))) (fun _ _ => rfl))), ?_⟩
  subst eσ
  refine ⟨_, rfl, _, rfl, _, rfl, a, _, rfl, .inl (SqL.of ha), ?_⟩
  rw [List.length_map]
  refine ⟨p, _, rfl, hp, by omega, by omega, fun i H1 x1 i0 i1 => ?_⟩
  have ei : ((i.toNat : Nat) : Int) = i := by omega
  have hi : i.toNat < N.length := by omega
  refine ⟨a, _, i, .str (N[i.toNat]), rfl, rfl, SqL.of (x1.at ap ha), ?_, ?_⟩
  · have z := atI_nat (xs := N.map V.str) (j := i.toNat) (by rw [List.getElem?_map, List.getElem?_eq_getElem hi]; rfl)
    rw [ei] at z
    exact z
  · exact q _ H1 x1 (nm _ (List.getElem_mem hi))
/-- a form that is drawn -/
theorem ok_form {f fD : Addr} {fd : FuncData} (F : Fun K "_law_form" "_law_form" sForm f fd) (T : Free mg) (mgF : mg "_law_form" = some (.ref f)) (hD : Has P w K mg base CX0 1 "_law_draw" fD ["_law_pool_here", "_law_many"] spDraw) :
    ∀ n : Nat, FnOk P w K mg base CX0 (n + 2) f fd ["_law_pool_here", "_law_words_here", "_law_deep_here"] (spFormL n) := by
  have bF : L2.Binds K fd ["_law_pool_here", "_law_words_here", "_law_deep_here"] [] := F.binds (ps := ["_law_pool_here", "_law_words_here", "_law_deep_here"]) fun _ _ _ _ _ _ us hl => match us, hl with | [_, _, _], _ => rfl
  intro n
  induction n with
  | zero =>
    refine F.ok scForm (fun vs H Q E h => ?_) (fun cdv A outer s H vs Q E hr h => ?_)
    · obtain ⟨p, a, N, d, rfl, _⟩ := h
      rfl
    · obtain ⟨p, a, N, d, rfl, hp, ap, ha, n0, n1, nm, dn, q⟩ := h
      refine ⟨_, pss_cons (ps_if (PW.pt (pw_or (pt_cmpR op_eq (pv 2) pe_int (nomark _)) (pw_or1 (pt_cmpR op_eq (pe_has hD hr (by rfl) pass0 (pa_cons (pv 0) (pa_cons pe_int pa_nil))) pe_int (nomark _)))))
        (fo_leaf (p := p) (a := a) (N := N) T hD hr) pss_nil) pss_never, ?_⟩
      have d0 : d = 0 := by omega
      subst d0
      refine ⟨_, rfl, rfl, _, rfl, iteT (iteT ?_)⟩
      exact ⟨_, _, rfl, hp, ap, ha, n0, n1, nm, fun z H1 x1 nz => q _ _ H1 x1 (.leaf z) nz (by show 1 ≤ 0 + 1; omega)⟩
  | succ n ih =>
    have hF : Has P w K mg base CX0 (n + 2) "_law_form" f ["_law_pool_here", "_law_words_here", "_law_deep_here"] (spFormL n) := ⟨mgF, F.kp, fd, ih, bF⟩
    refine F.ok scForm (fun vs H Q E h => ?_) (fun cdv A outer s H vs Q E hr h => ?_)
    · obtain ⟨p, a, N, d, rfl, _⟩ := h
      rfl
    · obtain ⟨p, a, N, d, rfl, hp, ap, ha, n0, n1, nm, dn, q⟩ := h
      refine ⟨_, pss_cons (ps_if (PW.pt (pw_or (pt_cmpR op_eq (pv 2) pe_int (nomark _)) (pw_or1 (pt_cmpR op_eq (pe_has hD (hr.mono (by omega)) (by rfl) pass0 (pa_cons (pv 0) (pa_cons pe_int pa_nil))) pe_int (nomark _)))))
        (fo_leaf (p := p) (a := a) (N := N) T hD (hr.mono (by omega))) pss_nil)
        (pss_cons (ps_set (i := 3) scForm.nd rfl (.inl rfl) (pe_ix ix_list (pe_lst (pa_cons pe_str (pa_cons pe_str (pa_cons pe_str (pa_cons pe_str pa_nil))))) (pe_has hD (hr.mono (by omega)) (by rfl) pass0 (pa_cons (pv 0) (pa_cons pe_int pa_nil))) (fun _ _ => rfl)))
        (pss_one (ps_ret (pe_tup (pa_cons (pv 3) (pa_cons (pe_has hF hr (by rfl) pass0 (pa_cons (pv 0) (pa_cons (pv 1) (pa_cons (pe_op op_sub (pv 2) pe_int) pa_nil)))) (pa_cons (pe_has hF hr (by rfl) pass0 (pa_cons (pv 0) (pa_cons (pv 1) (pa_cons (pe_op op_sub (pv 2) pe_int) pa_nil)))) pa_nil))))))), ?_⟩
      have leaf : ∀ H1, K1.Ext p H H1 → ∀ z H2, K1.Ext p H1 H2 → nameB z = true → Q (.str z) H2 := fun H1 x1 z H2 x2 nz => q _ _ H2 (x1.trans x2) (.leaf z) nz (by show 1 ≤ d + 1; omega)
      by_cases hd : d = 0
      · subst hd
        refine ⟨_, rfl, rfl, _, rfl, iteT (iteT ?_)⟩
        exact ⟨_, _, rfl, hp, ap, ha, n0, n1, nm, leaf H (.refl hp)⟩
      · refine ⟨_, rfl, rfl, _, rfl, ?_⟩
        rw [decide_eq_false (fun e => hd (by have := V.int.inj e; omega))]
        refine iteF ?_
        refine ⟨_, rfl, p, 3, rfl, hp, by decide, by decide, fun i H1 x1 i0 i1 => ⟨rfl, _, rfl, ?_⟩⟩
        refine ite2 (fun _ => ?_) (fun _ => ?_)
        · exact ⟨_, _, rfl, x1.pool, ap, x1.at ap ha, n0, n1, nm, leaf H1 x1⟩
        · refine ⟨(by show 4 ≤ sizeLine; decide), fun S nS => ?_⟩
          have Sp : S ≠ p := x1.pool.ne nS
          have x2 : K1.Ext p H (upd H1 S (.lst (signs.map V.str))) := x1.same (same_upd nS)
          refine ⟨_, rfl, p, 4, rfl, x2.pool, by decide, by decide, fun j H2 x3 j0 j1 => ?_⟩
          have hS : H2 S = some (.lst (signs.map V.str)) := x3.at Sp upd_same
          have x23 := x2.trans x3
          have ej : ((j.toNat : Nat) : Int) = j := by omega
          have hj : j.toNat < signs.length := by show j.toNat < 4; omega
          refine ⟨S, _, j, .str (signs[j.toNat]), rfl, rfl, SqL.of hS, ?_, ?_⟩
          · have z := atI_nat (xs := signs.map V.str) (j := j.toNat) (by rw [List.getElem?_map, List.getElem?_eq_getElem hj]; rfl)
            rw [ej] at z
            exact z
          have es : ((d - 1 : Nat) : Int) = (d : Int) - 1 := by omega
          refine ⟨_, rfl, _, rfl, _, rfl, _, rfl, _, _, rfl, rfl, ?_⟩
          refine ⟨p, a, N, d - 1, by rw [es]; rfl, x23.pool, ap, x23.at ap ha, n0, n1, nm, by omega, fun v1 t1 H3 x4 m1 ok1 d1 => ?_⟩
          have x34 := x23.trans x4
          refine ⟨_, rfl, _, rfl, _, rfl, _, _, rfl, rfl, ?_⟩
          refine ⟨p, a, N, d - 1, by rw [es]; rfl, x34.pool, ap, x34.at ap ha, n0, n1, nm, by omega, fun v2 t2 H4 x5 m2 ok2 d2 => ?_⟩
          have x45 := x34.trans x5
          refine ⟨(by show 3 ≤ sizeLine; decide), fun r nr => ?_⟩
          have s6 := same_upd (o := .tup [.str (signs[j.toNat]), v1, v2]) nr
          refine q (.ref r) (.node (signs[j.toNat]) t1 t2) _ (x45.same s6) (.node upd_same ((m1.keep (.ext x34.pool x5)).same s6) (m2.same s6)) ⟨List.getElem_mem hj, ok1, ok2⟩ ?_
          rw [Fm.dep_node]
          omega
end
end K1

namespace K1
open PySem PySem.Spec
open PyProof.Rows L2 EnT StX SmX TxS DuX
/-! ### what is read: parts, rows of parts, the stack of rows -/
inductive Part where
  | f (t : Fm)
  | s (z : Str)
inductive PartAt (H : Hp) : V → Part → Prop where
  | f {a : Addr} {v : V} {t : Fm} (h : H a = some (.tup [v, .int (t.nl : Nat)])) (m : FmAt H v t) : PartAt H (.ref a) (.f t)
  | s (z : Str) : PartAt H (.str z) (.s z)
theorem PartAt.keep {H H' : Hp} (k : TupK H H') {v : V} {x : Part} (h : PartAt H v x) : PartAt H' v x := by
  cases h with
  | f h m => exact .f (k _ _ h) (m.keep k)
  | s z => exact .s z
inductive PartsAt (H : Hp) : List V → List Part → Prop where
  | nil : PartsAt H [] []
  | cons {v : V} {x : Part} {vs : List V} {xs : List Part} (h : PartAt H v x) (r : PartsAt H vs xs) : PartsAt H (v :: vs) (x :: xs)
theorem PartsAt.keep {H H' : Hp} (k : TupK H H') {vs : List V} {xs : List Part} (h : PartsAt H vs xs) : PartsAt H' vs xs := by
  induction h with
  | nil => exact .nil
  | cons h _ ih => exact .cons (h.keep k) ih
theorem PartsAt.len {H : Hp} {vs : List V} {xs : List Part} (h : PartsAt H vs xs) : vs.length = xs.length := by
  induction h with
  | nil => rfl
  | cons _ _ ih => rw [List.length_cons, List.length_cons, ih]
theorem PartsAt.snoc {H : Hp} {vs : List V} {xs : List Part} {v : V} {x : Part} (h : PartsAt H vs xs) (p : PartAt H v x) : PartsAt H (vs ++ [v]) (xs ++ [x]) := by
  induction h with
  | nil => exact .cons p .nil
  | cons h _ ih => exact .cons h ih
/-- an even row: nothing, or a form and a sign -/
inductive Even : List Part → Prop where
  | nil : Even []
  | two (t : Fm) (z : Str) : Even [.f t, .s z]
abbrev tOpen : Str := "("
abbrev tClose : Str := ")"
inductive Step : List (List Part) → Str → List (List Part) → Prop where
  | close (z : Str) (l r : Fm) (o : List Part) (os : List (List Part)) (h : Even o) : Step ([.f l, .s z, .f r] :: o :: os) tClose ((o ++ [.f (.node z l r)]) :: os)
  | sign (l : Fm) (z : Str) (os : List (List Part)) (h : z ∈ signs) : Step ([.f l] :: os) z ([.f l, .s z] :: os)
  | open_ (i : List Part) (os : List (List Part)) (h : Even i) : Step (i :: os) tOpen ([] :: i :: os)
  | name (i : List Part) (os : List (List Part)) (h : Even i) (z : Str) (n : nameB z = true) : Step (i :: os) z ((i ++ [.f (.leaf z)]) :: os)
inductive Runs : List (List Part) → List Str → List (List Part) → Prop where
  | nil (st : List (List Part)) : Runs st [] st
  | cons {st st1 st2 : List (List Part)} {z : Str} {ws : List Str} (h : Step st z st1) (r : Runs st1 ws st2) : Runs st (z :: ws) st2
theorem Runs.app {a b c : List (List Part)} {x y : List Str} (h : Runs a x b) (g : Runs b y c) : Runs a (x ++ y) c := by
  induction h with
  | nil st => exact g
  | cons h _ ih => exact .cons h (ih g)
/-- the words of a form's text -/
def Fm.tok : Bool → Fm → List Str
  | _, .leaf z => [z]
  | false, .node s l r => Fm.tok true l ++ (s :: Fm.tok true r)
  | true, .node s l r => tOpen :: (Fm.tok true l ++ (s :: (Fm.tok true r ++ [tClose])))
theorem runs_tok : ∀ (t : Fm) (i : List Part) (os : List (List Part)), t.Ok → Even i → Runs (i :: os) (t.tok true) ((i ++ [.f t]) :: os)
  | .leaf z, i, os, ok, e => .cons (.name i os e z ok) (.nil _)
  | .node s l r, i, os, ok, e => .cons (.open_ i os e) (Runs.app (runs_tok l [] (i :: os) ok.2.1 .nil) (.cons (.sign l s (i :: os) ok.1) (Runs.app (runs_tok r [.f l, .s s] (i :: os) ok.2.2 (.two l s)) (.cons (.close s l r i os e) (.nil _)))))
/-- what stands in the outermost row at the end -/
def Fm.outer : Fm → List Part
  | .leaf z => [.f (.leaf z)]
  | .node s l r => [.f l, .s s, .f r]
theorem runs_all (t : Fm) (ok : t.Ok) : Runs [[]] (t.tok false) [t.outer] := by
  cases t with
  | leaf z => exact .cons (.name [] [] .nil z ok) (.nil _)
  | node s l r => exact Runs.app (runs_tok l [] [] ok.2.1 .nil) (.cons (.sign l s [] ok.1) (runs_tok r [.f l, .s s] [] ok.2.2 (.two l s)))
/-! ### joined -/
def spJoined : Sp := fun vs H Q _ => ∃ (a : Addr) (xs : List V) (z : Str) (l r : Fm), vs = [.ref a] ∧ H a = some (.lst xs) ∧ PartsAt H xs [.f l, .s z, .f r] ∧ ∀ (v : V) (H' : Hp), Same H H' → PartAt H' v (.f (.node z l r)) → Q v H'
abbrev nmJo : List Str := ["parts", "left", "left_leaves", "sign", "right", "right_leaves"]
section
variable {w : World} {P : Program} {base : Heap} {mg : Str → Option Value} {K : PySem.W.Frag} {aS : Addr}
theorem scJoined : FnScope nmJo ["parts"] (defScope sJoined) := ⟨rfl, rfl, rfl, by decide +kernel, rfl, by decide +kernel, by decide +kernel⟩
theorem ok_joined {f : Addr} {fd : FuncData} (F : Fun K "joined" "joined" sJoined f fd) : FnOk P w K mg base CX0 1 f fd ["parts"] spJoined := by
  refine F.ok scJoined (fun vs H Q E h => ?_) (fun cdv A outer s H vs Q E hr h => ?_)
  · obtain ⟨a, xs, z, l, r, rfl, _⟩ := h
    rfl
  · obtain ⟨a, xs, z, l, r, rfl, ha, pa, q⟩ := h
    refine ⟨_, pss_cons (ps_asg (pv 0) (pg_unl rfl (pgs_cons (pg_tup rfl (pgs_cons (pg_name (i := 1) scJoined.nd rfl (.inl rfl)) (pgs_cons (pg_name (i := 2) scJoined.nd rfl (.inl rfl)) pgs_nil)))
        (pgs_cons (pg_name (i := 3) scJoined.nd rfl (.inl rfl)) (pgs_cons (pg_tup rfl (pgs_cons (pg_name (i := 4) scJoined.nd rfl (.inl rfl)) (pgs_cons (pg_name (i := 5) scJoined.nd rfl (.inl rfl)) pgs_nil))) pgs_nil)))))
      (pss_one (ps_ret (pe_tup (pa_cons (pe_tup (pa_cons (pv 3) (pa_cons (pv 1) (pa_cons (pv 4) pa_nil)))) (pa_cons (pe_op op_add (pv 2) (pv 5)) pa_nil))))), ?_⟩
    cases pa with
    | cons p1 r1 =>
    cases r1 with
    | cons p2 r2 =>
    cases r2 with
    | cons p3 r3 =>
    cases r3
    cases p1 with
    | f h1 m1 =>
    cases p2
    cases p3 with
    | f h3 m3 =>
    rename_i a1 v1 a3 v3
    refine ⟨_, rfl, a, _, rfl, SqL.of ha, rfl, _, _, rfl, ?_⟩
    refine ⟨a1, _, rfl, SqT.of h1, rfl, _, _, rfl, _, _, rfl, rfl, ?_⟩
    refine ⟨_, _, rfl, _, _, rfl, a3, _, rfl, SqT.of h3, rfl, _, _, rfl, _, _, rfl, rfl, rfl, ?_⟩
    refine ⟨_, rfl, _, rfl, _, rfl, (by show 3 ≤ sizeLine; decide), fun p np => ?_⟩
    refine ⟨_, rfl, _, rfl, _, _, rfl, rfl, (by show 2 ≤ sizeLine; decide), fun p2 np2 => ?_⟩
    have s1 : Same H (upd H p (.tup [.str z, v1, v3])) := same_upd np
    have hp : (upd H p (.tup [.str z, v1, v3])) p = some (.tup [.str z, v1, v3]) := upd_same
    have s2 := same_upd (o := .tup [.ref p, .int ((l.nl : Nat) + (r.nl : Nat))]) np2
    have e : ((l.nl : Nat) : Int) + (r.nl : Nat) = (((Fm.node z l r).nl : Nat) : Int) := by rw [Fm.nl_node]; omega
    refine q (.ref p2) _ (s1.trans s2) (.f (v := .ref p) ?_ (.node (s2 _ _ hp) (m1.same (s1.trans s2)) (m3.same (s1.trans s2))))
    rw [← e]
    exact upd_same
end
end K1

namespace K1
open PySem PySem.Spec
open PyProof.Rows L2 EnT StX SmX TxS DuX
/-! ### the stack on the heap, the innermost row first -/
inductive RowsAt (H0 H : Hp) (L : Addr) : List Addr → List (List Part) → Prop where
  | nil : RowsAt H0 H L [] []
  | cons {a : Addr} {as : List Addr} {vs : List V} {xs : List Part} {st : List (List Part)} (h : H a = some (.lst vs)) (p : PartsAt H vs xs) (n : H0 a = none) (ne : a ≠ L) (nd : a ∉ as) (r : RowsAt H0 H L as st) : RowsAt H0 H L (a :: as) (xs :: st)
theorem RowsAt.len {H0 H : Hp} {L : Addr} {as : List Addr} {st : List (List Part)} (h : RowsAt H0 H L as st) : as.length = st.length := by
  induction h with
  | nil => rfl
  | cons _ _ _ _ _ _ ih => rw [List.length_cons, List.length_cons, ih]
theorem RowsAt.move {H0 H H' : Hp} {L : Addr} {as : List Addr} {st : List (List Part)} (k : TupK H H') (g : ∀ a vs, a ∈ as → H a = some (.lst vs) → H' a = some (.lst vs)) (h : RowsAt H0 H L as st) : RowsAt H0 H' L as st := by
  induction h with
  | nil => exact .nil
  | cons h p n ne nd _ ih => exact .cons (g _ _ (List.mem_cons_self ..) h) (p.keep k) n ne nd (ih fun a vs m e => g a vs (List.mem_cons_of_mem _ m) e)
theorem RowsAt.same {H0 H H' : Hp} {L : Addr} {as : List Addr} {st : List (List Part)} (s : Same H H') (h : RowsAt H0 H L as st) : RowsAt H0 H' L as st := h.move (.same s) fun a vs _ e => s _ _ e
/-- a list that is none of the rows is stored into -/
theorem RowsAt.set {H0 H : Hp} {L t : Addr} {as : List Addr} {st : List (List Part)} {ys : List V} {o : HO} (ht : H t = some (.lst ys)) (n : t ∉ as) (h : RowsAt H0 H L as st) : RowsAt H0 (upd H t o) L as st :=
  h.move (TupK.set (H := H) (H' := H) (fun a xs e => e) ht) fun a vs m e => by rw [upd_ne (fun z => n (by rw [← z]; exact m))]; exact e
structure StackAt (H0 H : Hp) (L : Addr) (as : List Addr) (st : List (List Part)) : Prop where
  hL : H L = some (.lst (as.reverse.map V.ref))
  nL : H0 L = none
  rows : RowsAt H0 H L as st
theorem StackAt.same {H0 H H' : Hp} {L : Addr} {as : List Addr} {st : List (List Part)} (s : Same H H') (h : StackAt H0 H L as st) : StackAt H0 H' L as st := ⟨s _ _ h.hL, h.nL, h.rows.same s⟩
def spTake (H0 : Hp) : Sp := fun vs H Q _ => ∃ (L : Addr) (w : Str) (as : List Addr) (st st' : List (List Part)), vs = [.ref L, .str w] ∧ StackAt H0 H L as st ∧ Step st w st' ∧ Same H0 H ∧ st.length ≤ 100000 ∧ w.length ≤ sizeLine ∧
  ∀ (as' : List Addr) (H' : Hp), Same H0 H' → StackAt H0 H' L as' st' → Q (.bl true) H'
abbrev nmTk : List Str := ["opened", "word", "innermost"]
theorem last_ref {as : List Addr} {a : Addr} : atI ((a :: as).reverse.map V.ref) (-1) = some (.ref a) := by
  rw [List.reverse_cons, List.map_append]
  exact atI_last _ _
theorem last_at {as : List Addr} {a : Addr} : ((a :: as).reverse.map V.ref)[((a :: as).reverse.map V.ref).length - 1]? = some (.ref a) := by
  rw [List.reverse_cons, List.map_append]
  simp
theorem last_drop {as : List Addr} {a : Addr} : ((a :: as).reverse.map V.ref).dropLast = as.reverse.map V.ref := by
  rw [List.reverse_cons, List.map_append]
  simp
theorem even_len {i : List Part} (h : Even i) : i.length = 0 ∨ i.length = 2 := by
  cases h
  · exact .inl rfl
  · exact .inr rfl
theorem in_02 {n : Nat} : inV (.int n) [V.int 0, V.int 2] = decide (n = 0 ∨ n = 2) := by
  by_cases h0 : n = 0
  · subst h0
    rfl
  · by_cases h2 : n = 2
    · subst h2
      rfl
    · rw [decide_eq_false (by omega)]
      have a : eqV (.int 0) (.int n) = false := by
        show ((0 : Int) == (n : Int)) = false
        exact beq_eq_false_iff_ne.mpr (by omega)
      have b : eqV (.int 2) (.int n) = false := by
        show ((2 : Int) == (n : Int)) = false
        exact beq_eq_false_iff_ne.mpr (by omega)
      unfold inV
      simp [a, b]
theorem sign_no {z : Str} (h : z ∈ signs) : z ≠ tClose ∧ z ≠ tOpen := by
  simp only [signs, List.mem_cons, List.not_mem_nil, or_false] at h
  rcases h with rfl | rfl | rfl | rfl <;> decide +kernel
theorem name_no {z : Str} (h : nameB z = true) : z ≠ tClose ∧ z ≠ tOpen := ⟨fun e => by
  rw [e] at h
  revert h
  decide +kernel, fun e => by
  rw [e] at h
  revert h
  decide +kernel⟩
section
variable {w : World} {P : Program} {base : Heap} {mg : Str → Option Value} {K : PySem.W.Frag} {aS : Addr}
theorem scTake : FnScope nmTk ["opened", "word"] (defScope sTake) := ⟨rfl, rfl, rfl, by decide +kernel, rfl, by decide +kernel, by decide +kernel⟩
theorem ok_take {f fJ fN : Addr} {fd : FuncData} (H0 : Hp) (F : Fun K "take_word" "take_word" sTake f fd) (G : Gf K mg aS) (hJ : Has P w K mg base CX0 1 "joined" fJ ["parts"] spJoined) (hN : Has P w K mg base CX0 1 "is_name" fN ["value"] spIsName) : FnOk P w K mg base CX0 2 f fd ["opened", "word"] (spTake H0) := by
  have T := G.T
  refine F.ok scTake (fun vs H Q E h => ?_) (fun cdv A outer s H vs Q E hr h => ?_)
  · obtain ⟨L, z, as, st, st', rfl, _⟩ := h
    rfl
  · obtain ⟨L, z, as, st, st', rfl, sk, step, s0, ls, lz, q⟩ := h
    refine ⟨_, pss_cons (ps_set (i := 2) scTake.nd rfl (.inl rfl) (pe_ix ix_list (pv 0) (pe_un un_neg pe_int) (fun _ _ => rfl)))
      (pss_cons (ps_if (PW.pt (pw_and (pt_cmpR op_eq (pv 1) pe_str (nomark _)) (pw_and (pt_cmpR op_eq (pe_callB call_len_seq (by rfl) T.len PySem.boot_len (pa_cons (pv 2) pa_nil)) pe_int (nomark _)) (pw_and1 (pt_cmpR op_gt (pe_callB call_len_seq (by rfl) T.len PySem.boot_len (pa_cons (pv 0) pa_nil)) pe_int (nomark _))))))
          (pss_cons (ps_expr (pe_bm0 PySem.F.plainAttrs_list PySem.F.slot_list_pop PySem.F.type_list_pop mt_pop (pv 0)))
          (pss_one (ps_expr (pe_bm PySem.F.plainAttrs_list PySem.F.slot_list_append PySem.F.type_list_append mt_append (pe_ix ix_list (pv 0) (pe_un un_neg pe_int) (fun _ _ => rfl)) (pa_cons (pe_has hJ hr (by rfl) pass0 (pa_cons (pv 2) pa_nil)) pa_nil)))))
        (pss_one (ps_if (PW.pt (pw_and (pt_cmpR op_eq (pe_callB call_len_seq (by rfl) T.len PySem.boot_len (pa_cons (pv 2) pa_nil)) pe_int (nomark _)) (pw_and1 (pt_cmpR op_in_seq (pv 1) (pe_glob (v := .ref aS) (by rfl) G.sg rfl) (by rfl)))))
          (pss_one (ps_expr (pe_bm PySem.F.plainAttrs_list PySem.F.slot_list_append PySem.F.type_list_append mt_append (pv 2) (pa_cons (pv 1) pa_nil))))
        (pss_one (ps_if (PW.pt (pw_and (pt_cmpR op_in_seq (pe_callB call_len_seq (by rfl) T.len PySem.boot_len (pa_cons (pv 2) pa_nil)) (pe_tup (pa_cons pe_int (pa_cons pe_int pa_nil))) (by rfl)) (pw_and1 (pt_cmpR op_eq (pv 1) pe_str (nomark _)))))
          (pss_one (ps_expr (pe_bm PySem.F.plainAttrs_list PySem.F.slot_list_append PySem.F.type_list_append mt_append (pv 0) (pa_cons (pe_lst pa_nil) pa_nil))))
        (pss_one (ps_if (PW.pt (pw_and (pt_cmpR op_in_seq (pe_callB call_len_seq (by rfl) T.len PySem.boot_len (pa_cons (pv 2) pa_nil)) (pe_tup (pa_cons pe_int (pa_cons pe_int pa_nil))) (by rfl)) (pw_and1 (pt_val (pe_has hN hr (by rfl) pass0 (pa_cons (pv 1) pa_nil))))))
          (pss_one (ps_expr (pe_bm PySem.F.plainAttrs_list PySem.F.slot_list_append PySem.F.type_list_append mt_append (pv 2) (pa_cons (pe_tup (pa_cons (pv 1) (pa_cons pe_int pa_nil))) pa_nil))))
        pss_never)))))))
      (pss_one (ps_ret pe_bl))), ?_⟩
    have hL := sk.hL
    have nL := sk.nL
    obtain ⟨_, _, rows⟩ := sk
    cases step with
    | sign l z os hz =>
      cases rows with
      | cons ha p na ne nd r =>
        rename_i a ar vs hL
        have lv := p.len
        refine ⟨_, rfl, _, rfl, L, _, _, .ref a, rfl, rfl, SqL.of hL, last_ref, ?_⟩
        refine ⟨_, rfl, rfl, _, rfl, ?_⟩
        rw [decide_eq_false (fun e => (sign_no hz).1 (V.str.inj e))]
        refine iteF (iteF ?_)
        refine ⟨_, rfl, a, _, rfl, .inl (SqL.of ha), rfl, _, rfl, ?_⟩
        rw [decide_eq_true (by rw [lv]; rfl)]
        refine iteT ⟨_, rfl, aS, _, rfl, .inr (G.st H), rfl, strs_flat _, _, rfl, ?_⟩
        rw [inV_mem, decide_eq_true hz]
        refine iteT ⟨_, rfl, .inl ⟨rfl, _, SqL.of ha⟩, _, rfl, a, _, _, rfl, rfl, ha, by rw [lv, sizeLine_eq]; show 1 < _; decide, ?_⟩
        have aL : L ≠ a := fun e => ne e.symm
        refine q (a :: ar) _ (same_set s0 na) ⟨by rw [upd_ne aL]; exact hL, nL, .cons upd_same ((p.keep (TupK.set (H := H) (H' := H) (fun a xs e => e) ha)).snoc (.s z)) na ne nd (r.set ha nd)⟩
    | open_ i os hi =>
      cases rows with
      | cons ha p na ne nd r =>
        rename_i a ar vs hL
        have lv := p.len
        have el := even_len hi
        refine ⟨_, rfl, _, rfl, L, _, _, .ref a, rfl, rfl, SqL.of hL, last_ref, ?_⟩
        refine ⟨_, rfl, rfl, _, rfl, ?_⟩
        rw [decide_eq_false (fun e => absurd (V.str.inj e) (by decide +kernel))]
        refine iteF (iteF ?_)
        refine ⟨_, rfl, a, _, rfl, .inl (SqL.of ha), rfl, _, rfl, ?_⟩
        rw [decide_eq_false (fun e => by have := V.int.inj e; omega)]
        refine iteF (iteF ?_)
        refine ⟨_, rfl, a, _, rfl, .inl (SqL.of ha), (by show 2 ≤ sizeLine; decide), fun t nt => ?_⟩
        have s1 : Same H (upd H t (.tup [.int 0, .int 2])) := same_upd nt
        refine ⟨t, _, rfl, .inr (SqT.of upd_same), rfl, rfl, _, rfl, ?_⟩
        rw [in_02, decide_eq_true (by rw [lv]; exact el)]
        refine iteT ⟨_, rfl, rfl, _, rfl, ?_⟩
        rw [decide_eq_true rfl]
        refine iteT ?_
        generalize upd H t (.tup [.int 0, .int 2]) = H1 at s1 ⊢
        have hL1 := s1 _ _ hL
        refine ⟨_, rfl, .inl ⟨rfl, _, SqL.of hL1⟩, (by show 0 ≤ sizeLine; decide), fun b nb => ?_⟩
        have s2 : Same H1 (upd H1 b (.lst [])) := same_upd nb
        have s02 := s0.trans (s1.trans s2)
        have hL2 := s2 _ _ hL1
        have hb : (upd H1 b (.lst [])) b = some (.lst []) := upd_same
        have nb0 : H0 b = none := by
          cases hh : H0 b with
          | none => rfl
          | some o =>
            rw [s1 _ _ (s0 _ _ hh)] at nb
            cases nb
        have bL : b ≠ L := fun e => by rw [e, hL1] at nb; cases nb
        have rl := r.len
        have nbr : b ∉ a :: ar := by
          intro hm
          have rr : RowsAt H0 H1 L (a :: ar) (i :: os) := (RowsAt.cons ha p na ne nd r).same s1
          have : ∀ {as : List Addr} {st : List (List Part)}, RowsAt H0 H1 L as st → b ∈ as → False := fun h m => by
            induction h with
            | nil => cases m
            | cons h _ _ _ _ _ ih =>
              rcases List.mem_cons.mp m with e | e
              · rw [← e, nb] at h
                cases h
              · exact ih e
          exact this rr hm
        generalize upd H1 b (.lst []) = H2 at s2 s02 hL2 hb ⊢
        refine ⟨L, _, _, rfl, rfl, hL2, by rw [List.length_map, List.length_reverse, List.length_cons, rl, sizeLine_eq]; rw [List.length_cons] at ls; omega, ?_⟩
        have rr : RowsAt H0 H2 L (a :: ar) (i :: os) := (RowsAt.cons ha p na ne nd r).same (s1.trans s2)
        have nLr : L ∉ b :: a :: ar := by
          intro hm
          rcases List.mem_cons.mp hm with e | e
          · exact bL e.symm
          · have : ∀ {as : List Addr} {st : List (List Part)}, RowsAt H0 H2 L as st → L ∈ as → False := fun h m => by
              induction h with
              | nil => cases m
              | cons _ _ _ ne _ _ ih =>
                rcases List.mem_cons.mp m with e | e
                · exact ne e.symm
                · exact ih e
            exact this rr e
        refine q (b :: a :: ar) _ (same_set s02 nL) ⟨by rw [upd_same, List.reverse_cons (a := b), List.map_append]; rfl, nL, RowsAt.set hL2 nLr (.cons hb .nil nb0 bL nbr rr)⟩
    | name i os hi z nz =>
      cases rows with
      | cons ha p na ne nd r =>
        rename_i a ar vs hL
        have lv := p.len
        have el := even_len hi
        refine ⟨_, rfl, _, rfl, L, _, _, .ref a, rfl, rfl, SqL.of hL, last_ref, ?_⟩
        refine ⟨_, rfl, rfl, _, rfl, ?_⟩
        rw [decide_eq_false (fun e => (name_no nz).1 (V.str.inj e))]
        refine iteF (iteF ?_)
        refine ⟨_, rfl, a, _, rfl, .inl (SqL.of ha), rfl, _, rfl, ?_⟩
        rw [decide_eq_false (fun e => by have := V.int.inj e; omega)]
        refine iteF (iteF ?_)
        refine ⟨_, rfl, a, _, rfl, .inl (SqL.of ha), (by show 2 ≤ sizeLine; decide), fun t nt => ?_⟩
        have s1 : Same H (upd H t (.tup [.int 0, .int 2])) := same_upd nt
        refine ⟨t, _, rfl, .inr (SqT.of upd_same), rfl, rfl, _, rfl, ?_⟩
        rw [in_02, decide_eq_true (by rw [lv]; exact el)]
        refine iteT ⟨_, rfl, rfl, _, rfl, ?_⟩
        rw [decide_eq_false (fun e => (name_no nz).2 (V.str.inj e))]
        refine iteF ?_
        generalize upd H t (.tup [.int 0, .int 2]) = H1 at s1 ⊢
        refine ⟨_, rfl, a, _, rfl, .inl (SqL.of (s1 _ _ ha)), (by show 2 ≤ sizeLine; decide), fun t2 nt2 => ?_⟩
        have s2 : Same H1 (upd H1 t2 (.tup [.int 0, .int 2])) := same_upd nt2
        refine ⟨t2, _, rfl, .inr (SqT.of upd_same), rfl, rfl, _, rfl, ?_⟩
        rw [in_02, decide_eq_true (by rw [lv]; exact el)]
        refine iteT ⟨_, rfl, .str z, rfl, .inl ⟨z, rfl, lz⟩, _, rfl, ?_⟩
        rw [show nameV (.str z) = true from nz]
        refine iteT ?_
        generalize upd H1 t2 (.tup [.int 0, .int 2]) = H2 at s2 ⊢
        have s12 := s1.trans s2
        have ha2 := s12 _ _ ha
        refine ⟨_, rfl, .inl ⟨rfl, _, SqL.of ha2⟩, _, rfl, (by show 2 ≤ sizeLine; decide), fun u nu => ?_⟩
        have s3 : Same H2 (upd H2 u (.tup [.str z, .int 1])) := same_upd nu
        have hu : (upd H2 u (.tup [.str z, .int 1])) u = some (.tup [.str z, .int 1]) := upd_same
        have ha3 := s3 _ _ ha2
        have s13 := s12.trans s3
        generalize upd H2 u (.tup [.str z, .int 1]) = H3 at s3 hu ha3 s13 ⊢
        refine ⟨a, _, _, rfl, rfl, ha3, by rw [lv, sizeLine_eq]; omega, ?_⟩
        have aL : L ≠ a := fun e => ne e.symm
        have kp : TupK H3 (upd H3 a (.lst (vs ++ [.ref u]))) := TupK.set (H := H3) (H' := H3) (fun a xs e => e) ha3
        exact q (a :: ar) _ (same_set (s0.trans s13) na) ⟨by rw [upd_ne aL]; exact s13 _ _ hL, nL, .cons upd_same ((p.keep ((TupK.same s13).trans kp)).snoc (.f (t := .leaf z) (kp _ _ hu) (.leaf z))) na ne nd ((r.same s13).set ha3 nd)⟩
    | close z l r o os ho =>
      cases rows with
      | cons ha p na ne nd rr =>
        cases rr with
        | cons ha1 p1 na1 ne1 nd1 r2 =>
          rename_i a vs a1 ar vs1 hL
          have lv := p.len
          have lv1 := p1.len
          have el := even_len ho
          refine ⟨_, rfl, _, rfl, L, _, _, .ref a, rfl, rfl, SqL.of hL, last_ref, ?_⟩
          refine ⟨_, rfl, rfl, _, rfl, ?_⟩
          rw [decide_eq_true rfl]
          refine iteT ⟨_, rfl, a, _, rfl, .inl (SqL.of ha), rfl, _, rfl, ?_⟩
          rw [decide_eq_true (by rw [lv]; rfl)]
          refine iteT ⟨_, rfl, L, _, rfl, .inl (SqL.of hL), _, _, rfl, rfl, _, rfl, ?_⟩
          rw [decide_eq_true (by rw [List.length_map, List.length_reverse, List.length_cons, List.length_cons]; omega)]
          refine iteT ?_
          refine ⟨_, rfl, .inl ⟨rfl, _, SqL.of hL⟩, L, _, .ref a, rfl, rfl, hL, last_at, ?_⟩
          rw [last_drop]
          have k1 : TupK H (upd H L (.lst ((a1 :: ar).reverse.map V.ref))) := TupK.set (H := H) (H' := H) (fun a xs e => e) hL
          have s1 := same_set (o := .lst ((a1 :: ar).reverse.map V.ref)) s0 nL
          have hL1 : (upd H L (.lst ((a1 :: ar).reverse.map V.ref))) L = some (.lst ((a1 :: ar).reverse.map V.ref)) := upd_same
          have ha' : (upd H L (.lst ((a1 :: ar).reverse.map V.ref))) a = some (.lst vs) := by rw [upd_ne ne]; exact ha
          have ha1' : (upd H L (.lst ((a1 :: ar).reverse.map V.ref))) a1 = some (.lst vs1) := by rw [upd_ne ne1]; exact ha1
          have nLr : L ∉ ar := by
            intro hm
            have : ∀ {as : List Addr} {st : List (List Part)}, RowsAt H0 H L as st → L ∈ as → False := fun h m => by
              induction h with
              | nil => cases m
              | cons _ _ _ ne _ _ ih =>
                rcases List.mem_cons.mp m with e | e
                · exact ne e.symm
                · exact ih e
            exact this r2 hm
          have r2' := RowsAt.set (o := .lst ((a1 :: ar).reverse.map V.ref)) hL nLr r2
          have p' := p.keep k1
          have p1' := p1.keep k1
          generalize upd H L (.lst ((a1 :: ar).reverse.map V.ref)) = H1 at k1 s1 hL1 ha' ha1' r2' p' p1' ⊢
          refine ⟨_, rfl, _, rfl, L, _, _, .ref a1, rfl, rfl, SqL.of hL1, last_ref, .inl ⟨rfl, _, SqL.of ha1'⟩, ?_⟩
          refine ⟨_, rfl, a, vs, z, l, r, rfl, ha', p', fun v H2 s2 pv => ?_⟩
          have ha2 := s2 _ _ ha1'
          refine ⟨a1, _, _, rfl, rfl, ha2, by rw [lv1, sizeLine_eq]; omega, ?_⟩
          have aL : L ≠ a1 := fun e => ne1 e.symm
          have kp : TupK H2 (upd H2 a1 (.lst (vs1 ++ [v]))) := TupK.set (H := H2) (H' := H2) (fun a xs e => e) ha2
          exact q (a1 :: ar) _ (same_set (s1.trans s2) na1) ⟨by rw [upd_ne aL]; exact s2 _ _ hL1, nL, .cons upd_same ((p1'.keep ((TupK.same s2).trans kp)).snoc (pv.keep kp)) na1 ne1 nd1 ((r2'.same s2).set ha2 nd1)⟩
end
end K1

namespace K1
open PySem PySem.Spec
open PyProof.Rows L2 EnT StX SmX TxS DuX TL PySem.StrLaws
/-! ### the text of a form, cut into words -/
def rep1 (c : Nat) (z l : List Nat) : List Nat := l.flatMap fun d => if d = c then z else [d]
theorem repl_one (c : Nat) (z : List Nat) : ∀ l : List Nat, replL [c] z l = rep1 c z l
  | [] => replL_nil
  | d :: r => by
    by_cases h : d = c
    · subst h
      rw [replL_hit (by simp) rfl]
      show z ++ replL [d] z r = _
      rw [repl_one d z r]
      simp [rep1]
    · rw [replL_miss (by simp [h]), repl_one c z r]
      simp [rep1, h]
def spc (l : List Nat) : List Nat := l.flatMap fun d => if d = 40 then [40, 32] else if d = 41 then [32, 41] else [d]
theorem spc_app (x y : List Nat) : spc (x ++ y) = spc x ++ spc y := List.flatMap_append
theorem two_reps (l : List Nat) : rep1 41 [32, 41] (rep1 40 [40, 32] l) = spc l := by
  unfold rep1 spc
  rw [List.flatMap_assoc]
  congr 1
  funext d
  by_cases h : d = 40
  · simp [h]
  · by_cases g : d = 41 <;> simp [h, g]
abbrev twoSpc (x : Str) : Str := Txt.replace (Txt.replace x tOpen ("( " : Str)) tClose (" )" : Str)
theorem tl_open : tl tOpen = [40] := by decide +kernel
theorem tl_close : tl tClose = [41] := by decide +kernel
theorem tl_twoSpc (x : Str) : tl (twoSpc x) = spc (tl x) := by
  have a := replace_list (x := x) (y := tOpen) (z := ("( " : Str)) (by decide +kernel)
  have b := replace_list (x := Txt.replace x tOpen ("( " : Str)) (y := tClose) (z := (" )" : Str)) (by decide +kernel)
  have e1 : tOpen.cps.toList = [40] := tl_open
  have e2 : tClose.cps.toList = [41] := tl_close
  have e3 : ("( " : Str).cps.toList = [40, 32] := by decide +kernel
  have e4 : (" )" : Str).cps.toList = [32, 41] := by decide +kernel
  show (twoSpc x).cps.toList = _
  rw [b, a, e1, e2, e3, e4, repl_one, repl_one, two_reps]
/-- no bracket, no space -/
def Bare (l : List Nat) : Prop := ∀ c ∈ l, c ≠ 32 ∧ c ≠ 40 ∧ c ≠ 41
theorem spc_bare : ∀ {l : List Nat}, Bare l → spc l = l
  | [], _ => rfl
  | d :: r, h => by
    have a := h d List.mem_cons_self
    have b := spc_bare (l := r) fun c hc => h c (List.mem_cons_of_mem _ hc)
    show (if d = 40 then [40, 32] else if d = 41 then [32, 41] else [d]) ++ spc r = d :: r
    rw [if_neg a.2.1, if_neg a.2.2, b]
    rfl
theorem name_bare {z : Str} (h : nameB z = true) : Bare (tl z) := by
  unfold nameB at h
  split at h
  · cases h
  split at h
  · cases h
  split at h
  · cases h
  · rename_i h3
    intro c hc
    have e : Txt.isalnum z = true := by
      cases q : Txt.isalnum z with
      | true => rfl
      | false => exact absurd q h3
    unfold Txt.isalnum at e
    rw [Bool.and_eq_true] at e
    have e2 := e.2
    rw [← Array.all_toList] at e2
    have e3 : Unicode.isAlnum c = true := (List.all_eq_true.mp e2) c hc
    have no : ∀ d ∈ [32, 40, 41], Unicode.isAlnum d = false := by decide +kernel
    refine ⟨fun x => ?_, fun x => ?_, fun x => ?_⟩
    · rw [x, no 32 (by simp)] at e3
      cases e3
    · rw [x, no 40 (by simp)] at e3
      cases e3
    · rw [x, no 41 (by simp)] at e3
      cases e3
theorem sign_bare {z : Str} (h : z ∈ signs) : Bare (tl z) := by
  have all : ∀ z ∈ signs, (tl z).all (fun c => decide (c ≠ 32 ∧ c ≠ 40 ∧ c ≠ 41)) = true := by decide +kernel
  intro c hc
  exact of_decide_eq_true (List.all_eq_true.mp (all z h) c hc)
theorem joinL_app (S : List Nat) : ∀ {x y : List (List Nat)}, x ≠ [] → y ≠ [] → joinL S (x ++ y) = joinL S x ++ (S ++ joinL S y)
  | [], _, h, _ => absurd rfl h
  | [p], [], _, h => absurd rfl h
  | [p], q :: r, _, _ => rfl
  | p :: q :: r, y, _, hy => by
    have ih := joinL_app S (x := q :: r) (y := y) (by simp) hy
    show p ++ (S ++ joinL S ((q :: r) ++ y)) = (p ++ (S ++ joinL S (q :: r))) ++ (S ++ joinL S y)
    rw [ih]
    simp [List.append_assoc]
theorem joinL_cons (S p : List Nat) {y : List (List Nat)} (hy : y ≠ []) : joinL S (p :: y) = p ++ (S ++ joinL S y) := joinL_app S (x := [p]) (by simp) hy
theorem tok_ne : ∀ (b : Bool) (t : Fm), t.tok b ≠ []
  | _, .leaf z => by cases ‹Bool› <;> simp [Fm.tok]
  | false, .node s l r => by simp [Fm.tok]
  | true, .node s l r => by simp [Fm.tok]
theorem map_ne {l : List Str} (h : l ≠ []) : l.map tl ≠ [] := fun e => h (List.map_eq_nil_iff.mp e)
theorem tok_text : ∀ (b : Bool) (t : Fm), t.Ok → spc (tl (t.txt b)) = joinL [32] ((t.tok b).map tl)
  | b, .leaf z, h => by
    have e : (Fm.leaf z).txt b = z := by cases b <;> rfl
    have e2 : (Fm.leaf z).tok b = [z] := by cases b <;> rfl
    rw [e, e2, spc_bare (name_bare h)]
    rfl
  | b, .node s l r, h => by
    have il := tok_text true l h.2.1
    have ir := tok_text true r h.2.2
    have e1 : tl (" " : Str) = [32] := by decide +kernel
    have e5 : spc [32] = [32] := rfl
    have nl := map_ne (tok_ne true l)
    have nr := map_ne (tok_ne true r)
    have sb := spc_bare (sign_bare h.1)
    cases b
    · simp only [Fm.txt, Fm.tok]
      rw [tl_append, tl_append, tl_append, tl_append, spc_app, spc_app, spc_app, spc_app, e1, e5, il, ir, sb, List.map_append, List.map_cons, joinL_app _ nl (by simp), joinL_cons _ _ nr]
      simp only [List.append_assoc]
    · simp only [Fm.txt, Fm.tok]
      rw [tl_append, tl_append, tl_append, tl_append, tl_append, tl_append, spc_app, spc_app, spc_app, spc_app, spc_app, spc_app, e1, e5, il, ir, sb, List.map_cons, List.map_append, List.map_cons, List.map_append, joinL_cons _ _ (by simp [nl]), joinL_app _ nl (by simp), joinL_cons _ _ (by simp), joinL_app _ nr (by simp)]
      have e6 : spc (tl ("(" : Str)) = [40, 32] := by decide +kernel
      have e7 : spc (tl (")" : Str)) = [32, 41] := by decide +kernel
      rw [e6, e7, tl_open]
      show _ = [40] ++ ([32] ++ (joinL [32] (List.map tl (Fm.tok true l)) ++ ([32] ++ (tl s ++ ([32] ++ (joinL [32] (List.map tl (Fm.tok true r)) ++ ([32] ++ joinL [32] [tl tClose])))))))
      show _ = [40] ++ ([32] ++ (joinL [32] (List.map tl (Fm.tok true l)) ++ ([32] ++ (tl s ++ ([32] ++ (joinL [32] (List.map tl (Fm.tok true r)) ++ ([32] ++ tl tClose)))))))
      rw [tl_close]
      simp only [List.append_assoc, List.cons_append, List.nil_append]
theorem tok_bare : ∀ (b : Bool) (t : Fm), t.Ok → ∀ z ∈ t.tok b, 32 ∉ tl z ∧ z.length ≤ 8
  | b, .leaf y, h => fun z hz => by
    have e2 : (Fm.leaf y).tok b = [y] := by cases b <;> rfl
    rw [e2] at hz
    rw [List.mem_singleton.mp hz]
    exact ⟨fun m => (name_bare h 32 m).1 rfl, name_short h⟩
  | b, .node s l r, h => fun z hz => by
    have c1 := (sign_ok h.1).1
    have sg : 32 ∉ tl s ∧ s.length ≤ 8 := ⟨fun m => (sign_bare h.1 32 m).1 rfl, by omega⟩
    have op : 32 ∉ tl tOpen ∧ tOpen.length ≤ 8 := by decide +kernel
    have cl : 32 ∉ tl tClose ∧ tClose.length ≤ 8 := by decide +kernel
    have il := tok_bare true l h.2.1
    have ir := tok_bare true r h.2.2
    cases b
    · simp only [Fm.tok, List.mem_append, List.mem_cons] at hz
      rcases hz with e | rfl | e
      · exact il z e
      · exact sg
      · exact ir z e
    · simp only [Fm.tok, List.mem_append, List.mem_cons, List.not_mem_nil, or_false] at hz
      rcases hz with rfl | e | rfl | e | rfl
      · exact op
      · exact il z e
      · exact sg
      · exact ir z e
      · exact cl
theorem words_of (t : Fm) (h : t.Ok) : Txt.split (twoSpc (t.txt false)) (" " : Str) = t.tok false := by
  have e1 : tl (" " : Str) = [32] := by decide +kernel
  have e : twoSpc (t.txt false) = Txt.join (" " : Str) (t.tok false) := by
    have a : tl (twoSpc (t.txt false)) = tl (Txt.join (" " : Str) (t.tok false)) := by
      rw [tl_twoSpc, tok_text false t h, join_eq, tl_join, e1]
    rw [← mk_tl (twoSpc (t.txt false)), ← mk_tl (Txt.join (" " : Str) (t.tok false)), a]
  rw [e]
  exact split_join e1 (by decide +kernel) (tok_ne false t) fun p hp => (tok_bare false t h p hp).1
theorem tok_len : ∀ (b : Bool) (t : Fm), (t.tok b).length + 3 ≤ 4 * t.nl
  | b, .leaf y => by
    have e2 : (Fm.leaf y).tok b = [y] := by cases b <;> rfl
    rw [e2]
    show 1 + 3 ≤ 4 * 1
    omega
  | b, .node s l r => by
    have a := tok_len true l
    have c := tok_len true r
    rw [Fm.nl_node]
    cases b
    · simp only [Fm.tok, List.length_append, List.length_cons]
      omega
    · simp only [Fm.tok, List.length_append, List.length_cons, List.length_nil]
      omega
end K1

/-! defs that want a token out -/
namespace TkX
open PySem PySem.Spec PyProof.Rows L2 SmX ClX
structure FnT (P : Program) (w : World) (K : PySem.W.Frag) (mg : Str → Option Value) (base : Heap) (k : Nat) (f : Addr) (fd : FuncData) (ps : List Str) (sp : Sp) : Prop where
  len : ∀ vs H Q E, sp vs H Q E → vs.length = ps.length
  run : ∀ (A : Around) (outer : List Env) (s : Shared) (H : Hp) (args : Args) (us : List Value) (vs : List V) (Q : VK) (E : XK), 1 ≤ s.toks → Room k A → Env0 P w K mg base A outer s H → BindsTo s fd args (ps.zip us) → Vals vs us → sp vs H Q E →
    codeAny (model P w) A (.call (.ref f) args) (CR CX0 outer P w H s Q E) s
section
variable {P : Program} {w : World} {K : PySem.W.Frag} {mg : Str → Option Value} {base : Heap}
theorem fnT_of {k : Nat} {f : Addr} {name qual : Str} {st : Stmt} {fd : FuncData} {N ps : List Str} {sp : Sp} (F : Fun K name qual st f fd) (S : FnScope N ps (defScope st)) (len : ∀ vs H Q E, sp vs H Q E → vs.length = ps.length)
    (body : ∀ (cdv : Value) (A : Around) (outer : List Env) (s : Shared) (H : Hp) (vs : List V) (Q : VK) (E : XK), Room k (A.deeper (envOfC qual (defScope st) s.heap.objs.size f cdv)) → sp vs H Q E →
      ∃ t, PSsT (cxOf CX0 P w K mg base N qual (defScope st) f cdv A outer s H E).nox (defBody st) t ∧ t { nx := fun _ H' => Q .non H', rt := Q } (L2.start N vs) H) : FnT P w K mg base (k + 1) f fd ps sp := by
  refine ⟨len, fun A outer s H args us vs Q E h1 hr e0 hb r hsp => ?_⟩
  obtain ⟨oc, od, kV, doc, pm, an, cdv, ct, osl, rfl, lk, hcd⟩ := F.ex
  have hl := len _ _ _ _ hsp
  have inK : K.In s.heap := e0.mod.kin.keeps fun b o e => (e0.bs b o e).1
  have noL : s.heap.NoLimit := e0.mod.nolimit.keeps fun b o e => (e0.bs b o e).1
  have kinds : ∀ y ∈ ps.zip us, (defScope st).names.lookup y.1 = some .local ∨ ((defScope st).names.lookup y.1 = some .cell ∧ ((cellsFrom (s.heap.objs.size + 1) (defScope st).names []).lookup y.1).isSome = true) := fun ⟨n, v⟩ hy => by
    rcases S.par n (List.of_mem_zip hy).1 with q | q
    · exact .inl q
    · exact .inr ⟨q, PySem.W.cellsFrom_some _ _ _
          (.inl q)⟩
  refine codeAny_call_function hr.depth (inK _ _ lk) rfl S.co S.gen rfl
      (PySem.W.codeRec_of inK hcd) (hb _ _ _ _ ?_)
  refine wpAny_mono (PySem.wpAny_toks_of h1 (wpAny_newFunctionEnv_cells (Q := fun env s1 => env = envOfC qual (defScope st) s.heap.objs.size f cdv ∧ InCallC s s.heap.objs.size (bindL (envOfC qual (defScope st) s.heap.objs.size f cdv).kindOf (ps.zip us) fun _ => none) (cellsFrom (s.heap.objs.size + 1) (defScope st).names []) (bindC (envOfC qual (defScope st) s.heap.objs.size f cdv).kindOf (ps.zip us) fun _ => none) s1) S.kind kinds fun env he s1 x => ⟨he, by subst he; exact x⟩)) (fun env s1 hz => ?_) fun _ _ z => z.2
  obtain ⟨t1, rfl, x⟩ := hz
  refine ⟨noL.keeps
      x.toInCall.keep, codeAny_func ?_⟩
  obtain ⟨t, ht, hq⟩ := body cdv A outer s H vs Q E (hr.deeper _) hsp
  have I := (inv_start (CX := CX0) (E := E) S hr.hd e0 hl r x).wish fun _ _ => False
  refine wpAny_mono (ht [] s1 (L2.start N vs) H _ t1 I hq) (fun fl s2 hs => ?_) fun e s2 hs => False.elim hs
  have hs := hs.unwish
  have fin : ∀ {σ' : L2.St} {H' : Hp} {v : V} {u : Value}, Inv (cxOf CX0 P w K mg base N qual (defScope st) f cdv A outer s H E) [] σ' H' s2 → RelV v u → Q v H' → CE outer P w H s Q u s2 :=
    fun {σ' H' v u} J rv q => ⟨v, H', J.os, J.bare, J.base,
        J.hok, rv, q⟩
  cases fl with
  | ret u =>
    obtain ⟨v, σ', H',
        J, rv, q⟩ := hs
    exact fin J rv q
  | next =>
    obtain ⟨σ', H',
        J, q⟩ := hs
    exact fin (v := V.non)
        (u := Value.none) J rfl q
  | brk =>
    obtain ⟨_, _, _,
        q⟩ := hs
    exact q.elim
  | cont =>
    obtain ⟨_, _, _,
        q⟩ := hs
    exact q.elim
end
/-- x(e, ..), a token being out -/
structure HasT (P : Program) (w : World) (K : PySem.W.Frag) (mg : Str → Option Value) (base : Heap) (k : Nat) (x : Str) (f : Addr) (ps : List Str) (sp : Sp) : Prop where
  gm : mg x = some (.ref f)
  kp : PySem.W.keepIn K (.ref f) = true
  ex : ∃ fd, FnT P w K mg base k f fd ps sp ∧ L2.Binds K fd ps []
section
variable {X : Cx} {k : Nat} {x : Str} {f C p g : Addr} {ps : List Str} {sp : Sp} {o e : Expr} {es : List Expr} {te to : TE} {ta t : TA} {E : XK} {mc : Value} {m : Str} {pos apos : Pos}
theorem after_run {pins : List (Addr × Obj)} {σ : L2.St} {H : Hp} {s : Shared} {Q : VK} (I : Inv X pins σ H s) {r : Result} {s' : Shared} : CR CX0 X.stack X.prog X.w H s Q E0 r s' →
    (match r with | .ok (.ret v) => EP X pins σ Q v s' | .ok _ => False | .error e => X.xe e s') := by
  intro hq
  cases r with
  | error e => exact hq.elim
  | ok fl =>
    cases fl with
    | ret u => exact I.after hq
    | next => exact False.elim hq
    | brk => exact False.elim hq
    | cont => exact False.elim hq
theorem pet_has {pn : Pos} (F : HasT X.prog X.w X.K X.mg X.base k x f ps sp) (hr : Room k X.A) (hg : Gl X x) (ha : PA X (e :: es) t)
    (hd : (x == ("__debug__" : Str)) = false := by decide) (hst : starEach (e :: es) X.env = (false, eval e X.env) :: starEach es X.env := by rfl) (hpl : (backTo pos (starEach es X.env)).any (·.1) = false := by rfl) :
    PET X (.Call (.Name x pn) (e :: es) [] pos) (tCall sp [] E0 t) := by
  obtain ⟨gm, kp, fd, F, hb⟩ := F
  intro pins s σ H Q h1 I h
  refine wpAny_Call_Name_kw
      (ld_glob I hg gm ?_ hd)
  refine PySem.W.callWith_K (h₀ := X.base) I.ok.mod.kin kp (wpAny_mono (PySem.wpAny_toks_of h1 (ha.run pos pins s σ H _ I h)) (fun us s1 q => ?_) fun _ _ z => z.2) hst hpl
  obtain ⟨t1, vs, H1, I1, rv, q⟩ := q
  refine ⟨I1.kIn, ?_⟩
  have q : sp vs H1 Q E0 := by
    have q : sp (vs ++ []) H1 Q E0 := q
    rw [List.append_nil] at q
    exact q
  have hl : us.length = ps.length := by rw [← rv.length]; exact F.len _ _ _ _ q
  have bb := hb s1 us I1.kIn (by rw [List.append_nil]; exact hl)
  rw [List.append_nil] at bb
  exact wpAny_call (codeAny_mono (F.run X.A X.stack s1 H1 ⟨us, []⟩ us vs Q E0 t1 hr I1.env0 bb rv q) fun r s' hq => after_run I1 hq)
theorem pst_set {i : Nat} {pos' : Pos} (hN : X.N.Nodup) (hi : X.N[i]? = some x) (hx : Loc X.env.scope x) (he : PET X e te) (hs : swapsWith e (some (.Name x pos')) pos.line X.env = pure false := by rfl) (hf : X.fn x = true ∨ X.env.scope.names.lookup x = some .local := by first | exact .inl rfl | exact .inr rfl | assumption) :
    PST X (.Assign [.Name x pos'] e pos) (tAsg te (gName i)) := by
  intro pins s σ H D h1 I h
  refine wpAny_Assign_Name (thn (he pins s σ H _ h1 I h) fun v s1 ⟨y, H1, I1, r1, q1⟩ => ?_) hs
  exact store_ok I1 hN hi hx r1 (fun s2 I2 => ⟨_, H1, I2, q1⟩) hf
theorem pet_m1 {id : String} {name : Str} {r : V → List V → Hp → VK → Prop} (slot : Slot "str" name id) (ty : typeOf (.builtin id) = pure (.type "method_descriptor")) (rule : MtR X id r) (ho : PET X o to) (he : PE X e te)
    (hs : starEach [e] X.env = [(false, eval e X.env)] := by rfl) (hbase : attributeBase o name X.env (eval o X.env) = eval o X.env := by rfl) (hline : (apos.endLine == pos.line) = true := by rfl) :
    PET X (.Call (.Attribute o name apos) [e] [] pos) (tM1 r to te) := by
  intro pins s σ H Q h1 I h
  refine PySem.Call_method1 hbase hs hline (thn (ho pins s σ H _ h1 I h) fun v s1 ⟨x, H1, I1, r1, q1⟩ => ?_)
  obtain ⟨⟨a, rfl⟩, q1⟩ := q1
  obtain ⟨t, rfl⟩ := _root_.id r1
  refine ⟨"str", _, F.plainAttrs_str, slot, ty, typeIs_str _ _ _, (fun _ e => nomatch e), Calls.callWith_builtin rfl (Calls.evalArgs_plain (Calls.spliced_cons ?_))⟩
  exact thn (he.run pins s1 σ H1 _ I1 q1) fun u s2 ⟨y, H2, I2, r2, q2⟩ => Calls.spliced_nil (rule pins s2 σ H2 _ [y] _ [u] Q I2 r1 (.cons r2 .nil) q2)
theorem getsm_tok {pl : Sem Bool} {pins : List (Addr × Obj)} {σ : L2.St} {H : Hp} {s : Shared} {A : Around} {E' : Value → Shared → Prop} {Q : Value × List Value → Shared → Prop} (Iv : Inv X pins σ H s) (r : CRead X.K C mc) (k : SMet X.K C mc m p g) (hyp : ∀ s', 1 ≤ s'.toks → Inv X pins σ H s' → Q (.ref g, []) s') : wpAny (model X.prog X.w) A (getMethod (.ref C) m pl) Q E' s := by
  obtain ⟨rest, hp⟩ := k.rc
  refine PySem.W.method_cls Iv.kIn r.ga (PySem.W.cls_bind Iv.kIn r.rd k.at_ ?_)
  exact wpAny_call (PySem.W.sm_get (s := { s with toks := s.toks + 1 }) Iv.kIn hp (PySem.W.handed_on rfl (hyp _ (Nat.le_add_left 1 _) (Iv.tok _))))
/-- C.m(e, ..) of a static method that wants a token out -/
theorem pe_smT {fd : FuncData} {pl : Sem Bool} (he : PE X o to) (r : CRead X.K C mc) (c : SMet X.K C mc m p g) (F : FnT X.prog X.w X.K X.mg X.base k g fd ps sp) (hb : L2.Binds X.K fd ps []) (hr : Room k X.A) (ha : PA X (e :: es) t)
    (hst : starEach (e :: es) X.env = (false, eval e X.env) :: starEach es
        X.env := by rfl) (hpl : (backTo pos (starEach es X.env)).any (·.1) = false := by rfl)
    (ht : eval (.Call (.Attribute o
        m apos) (e :: es) [] pos) X.env = (do
      let ov ← eval o X.env
      standAt apos.atName
      let (f, first) ← holding
          [ov] (getMethod ov m pl)
      callWith pos f first (backTo pos (starEach (e :: es)
          X.env)) (backToKw pos (keywordEach [] X.env))) := by rfl) :
    PE X (.Call (.Attribute o m apos) (e :: es) [] pos) (tSMeth C sp E0 to t) := by
  refine ⟨fun pins s σ H Q Iv hyp => ?_⟩
  refine PySem.W.methodCall_KW (pl := pl) (thn (he.run pins s σ H _ Iv hyp) fun usV st1 ⟨x, H1, Iv1, relX, ex, cont⟩ => ?_) ht
  subst ex
  obtain rfl : usV = Value.ref C := relX
  refine getsm_tok Iv1 r c fun st2 t2 Iv2 => ?_
  refine PySem.W.callWith_K (h₀ := X.base) Iv.ok.mod.kin c.kp (wpAny_mono (PySem.wpAny_toks_of t2 (ha.run pos pins st2 σ H1 _ Iv2 cont)) (fun us s1 q => ?_) fun _ _ z => z.2) hst hpl
  obtain ⟨t3, vs, H2, I3, rv, q⟩ := q
  refine ⟨I3.kIn, ?_⟩
  have hl : us.length = ps.length := by rw [← rv.length]; exact F.len _ _ _ _ q
  have bb := hb s1 us I3.kIn (by rw [List.append_nil]; exact hl)
  rw [List.append_nil] at bb
  exact wpAny_call (codeAny_mono (F.run X.A X.stack s1 H2 ⟨us, []⟩ us vs Q E0 t3 hr I3.env0 bb rv q) fun r s' hq => after_run I3 hq)
end
end TkX

namespace K1
open PySem PySem.Spec
open PyProof.Rows L2 EnT StX SmX TxS DuX
/-! ### read_counted -/
def spTakeX : Sp := fun vs H Q E => ∃ H0, spTake H0 vs H Q E
def spReadC : Sp := fun vs H Q _ => ∃ t : Fm, vs = [.str (t.txt false)] ∧ t.Ok ∧ t.nl ≤ 500 ∧ ∀ (v : V) (H' : Hp), Same H H' → PartAt H' v (.f t) → Q v H'
abbrev nmRc : List Str := ["text", "words", "opened", "word", "outermost"]
theorem step_len {a b : List (List Part)} {z : Str} (h : Step a z b) : b.length ≤ a.length + 1 := by
  cases h <;> simp only [List.length_cons] <;> omega
section
variable {w : World} {P : Program} {base : Heap} {mg : Str → Option Value} {K : PySem.W.Frag} {aS : Addr}
theorem ok_takeX {f fJ fN : Addr} {fd : FuncData} (F : Fun K "take_word" "take_word" sTake f fd) (G : Gf K mg aS) (hJ : Has P w K mg base CX0 1 "joined" fJ ["parts"] spJoined) (hN : Has P w K mg base CX0 1 "is_name" fN ["value"] spIsName) : FnOk P w K mg base CX0 2 f fd ["opened", "word"] spTakeX :=
  ⟨fun vs H Q E ⟨H0, h⟩ => (ok_take H0 F G hJ hN).len vs H Q E h, fun A outer s H args us vs Q E hr e0 hb r ⟨H0, h⟩ => (ok_take H0 F G hJ hN).run A outer s H args us vs Q E hr e0 hb r h⟩
theorem scRc : FnScope nmRc ["text"] (defScope sReadC) := ⟨rfl, rfl, rfl, by decide +kernel, rfl, by decide +kernel, by decide +kernel⟩
theorem ok_readC {f fT fJ : Addr} {fd : FuncData} (F : Fun K "read_counted" "read_counted" sReadC f fd) (T : Free mg) (hT : Has P w K mg base CX0 2 "take_word" fT ["opened", "word"] spTakeX) (hJ : Has P w K mg base CX0 1 "joined" fJ ["parts"] spJoined) :
    TkX.FnT P w K mg base 3 f fd ["text"] spReadC := by
  refine TkX.fnT_of F scRc (fun vs H Q E h => ?_) (fun cdv A outer s H vs Q E hr h => ?_)
  · obtain ⟨t, rfl, _⟩ := h
    rfl
  · obtain ⟨t, rfl, ok, l, q⟩ := h
    refine ⟨_, psst_cons (PST.of (ps_if (pt_not (pt_val (pe_callB call_isi (by rfl) T.isinstance (by decide +kernel) (pa_cons (pv 0) (pa_cons (pe_bltn (v := .ty "str") (u := .type "str") (by rfl) T.str (by decide +kernel) rfl) pa_nil))))) pss_never pss_nil))
      (psst_cons (TkX.pst_set (i := 1) scRc.nd rfl (.inl rfl) (TkX.pet_m1 PySem.F.slot_str_split PySem.F.type_str_split mt_split (CwR.pet_replT (CwR.pet_replC (pv 0))) pe_str))
      (PSsT.of (pss_cons (ps_set (i := 2) scRc.nd rfl (.inl rfl) (pe_lst (pa_cons (pe_lst pa_nil) pa_nil)))
      (pss_cons (ps_for PassesOwn.never rfl (pi_list (pv 1)) (pg_name (i := 3) scRc.nd rfl (.inl rfl))
          (pss_one (ps_if (pt_not (pt_val (pe_has hT hr (by rfl) pass0 (pa_cons (pv 2) (pa_cons (pv 3) pa_nil))))) pss_never pss_nil)))
      (pss_cons (ps_set (i := 4) scRc.nd rfl (.inl rfl) (pe_ix ix_list (pv 2) pe_int (fun _ _ => rfl)))
      (pss_cons (ps_if (pt_cmpR op_eq (pe_callB call_len_seq (by rfl) T.len PySem.boot_len (pa_cons (pv 4) pa_nil)) pe_int (nomark _)) (pss_one (ps_ret (pe_has hJ (hr.mono (by decide)) (by rfl) pass0 (pa_cons (pv 4) pa_nil)))) pss_nil)
      (pss_cons (ps_if (PW.pt (pw_and (pt_cmpR op_eq (pe_callB call_len_seq (by rfl) T.len PySem.boot_len (pa_cons (pv 4) pa_nil)) pe_int (nomark _)) (pw_and1 (pt_val (pe_callB call_isi (by rfl) T.isinstance (by decide +kernel) (pa_cons (pe_ix ix_tup (pe_ix ix_list (pv 4) pe_int (fun _ _ => rfl)) pe_int (fun _ _ => rfl)) (pa_cons (pe_bltn (v := .ty "str") (u := .type "str") (by rfl) T.str (by decide +kernel) rfl) pa_nil)))))))
          (pss_one (ps_ret (pe_ix ix_list (pv 4) pe_int (fun _ _ => rfl)))) pss_nil) pss_never))))))), ?_⟩
    refine ⟨_, rfl, _, _, _, _, true, rfl, .ty _, .base (.str _), kit_ty (by decide +kernel), true, rfl, iteF ?_⟩
    have l1 := txt_len false t ok
    have z1 : ("( " : Str).length = 2 := by decide +kernel
    have z2 : (" )" : Str).length = 2 := by decide +kernel
    have l2 := TK.replace_len (t.txt false) ("(" : Str) ("( " : Str)
    have l3 := TK.replace_len (Txt.replace (t.txt false) ("(" : Str) ("( " : Str)) (")" : Str) (" )" : Str)
    have sl : sizeLine = 16777216 := by decide
    rw [z1] at l2
    rw [z2] at l3
    refine ⟨_, rfl, _, rfl, (by rw [z1]; omega), _, rfl, (by rw [z2]; omega), ⟨_, rfl⟩, _, _, rfl, rfl, by decide +kernel, (by omega), fun W nW => ?_⟩
    have wo := words_of t ok
    have hW : (upd H W (.lst ((Txt.split (twoSpc (t.txt false)) (" " : Str)).map V.str))) W = some (.lst ((t.tok false).map V.str)) := by rw [wo]; exact upd_same
    have s1 : Same H (upd H W (.lst ((Txt.split (twoSpc (t.txt false)) (" " : Str)).map V.str))) := same_upd nW
    generalize (upd H W (.lst ((Txt.split (twoSpc (t.txt false)) (" " : Str)).map V.str))) = H1 at hW s1
    refine ⟨(by show 0 ≤ sizeLine; decide), fun R nR => ⟨(by show 1 ≤ sizeLine; decide), fun L nL => ?_⟩⟩
    have nRL : R ≠ L := fun e => by
      rw [← e, upd_same] at nL
      cases nL
    have nL1 : H1 L = none := by
      rw [upd_ne (Ne.symm nRL)] at nL
      exact nL
    have s2 : Same H1 (upd (upd H1 R (.lst [])) L (.lst [.ref R])) := (same_upd nR).trans (same_upd nL)
    have sk : StackAt H1 (upd (upd H1 R (.lst [])) L (.lst [.ref R])) L [R] [[]] := ⟨upd_same, nL1, .cons (by rw [upd_ne nRL]; exact upd_same) .nil nR nRL (by simp) .nil⟩
    generalize (upd (upd H1 R (.lst [])) L (.lst [.ref R])) = H3 at s2 sk ⊢
    have run := runs_all t ok
    have tl4 := tok_len false t
    refine ⟨_, rfl, W, rfl, ⟨_, SqL.of (s2 _ _ hW)⟩, for_list (xs := (t.tok false).map V.str) (K := K) (a := W) (fun i σ H' => Same H1 H' ∧ ∃ (as : List Addr) (st : List (List Part)) (y3 : Option V), σ = [some (.str (t.txt false)), some (.ref W), some (.ref L), y3, none] ∧ StackAt H1 H' L as st ∧ st.length ≤ i + 1 ∧ Runs st ((t.tok false).drop i) [t.outer]) ⟨s2, _, _, _, rfl, sk, Nat.le_refl _, run⟩ ?_ ?_ ?_⟩
    · rintro i σ H' hi ⟨s3, _⟩
      exact SqL.of (s3 _ _ hW)
    · rintro i x σ H' hx ⟨s3, as, st, y3, rfl, k3, ll, rr⟩
      rw [List.getElem?_map] at hx
      obtain ⟨z, hz, rfl⟩ := Option.map_eq_some_iff.mp hx
      obtain ⟨hi, ez⟩ := List.getElem?_eq_some_iff.mp hz
      rw [List.drop_eq_getElem_cons hi, ez] at rr
      cases rr with
      | cons stp rr =>
      have hl8 := (tok_bare false t ok z (List.mem_of_getElem? hz)).2
      refine ⟨_, rfl, _, rfl, H1, L, z, as, st, _, rfl, k3, stp, s3, (by omega), (by omega), fun as' H4 s4 k4 => ?_⟩
      refine ⟨true, rfl, iteF ?_⟩
      have := step_len stp
      exact ⟨s4, as', _, _, rfl, k4, by omega, rr⟩
    · rintro σ H4 ⟨s4, as, st, y3, rfl, k4, ll, rr⟩
      rw [List.drop_eq_nil_of_le (by rw [List.length_map]; exact Nat.le_refl _)] at rr
      cases rr
      obtain ⟨hL, nL', rows⟩ := k4
      cases rows with
      | cons ha pa na ne nd r =>
      cases r
      rename_i a vs
      refine ⟨_, rfl, L, _, _, .ref a, rfl, rfl, SqL.of hL, rfl, ?_⟩
      have s5 := s1.trans s4
      have lv := pa.len
      cases t with
      | leaf z =>
        cases pa with
        | cons p1 r1 =>
        cases r1
        cases p1 with
        | f hb m =>
        rename_i b v
        cases m
        refine ⟨_, rfl, a, _, rfl, .inl (SqL.of ha), rfl, _, rfl, iteF ?_⟩
        refine ⟨_, rfl, a, _, rfl, .inl (SqL.of ha), rfl, _, rfl, iteT ?_⟩
        refine ⟨_, rfl, a, _, _, .ref b, rfl, rfl, SqL.of ha, rfl, b, _, _, .str z, rfl, rfl, SqT.of hb, rfl, _, _, _, _, true, rfl, .ty _, .base (.str _), kit_ty (by decide +kernel), true, rfl, iteT ?_⟩
        exact ⟨_, rfl, a, _, _, .ref b, rfl, rfl, SqL.of ha, rfl, q _ _ s5 (.f hb (.leaf z))⟩
      | node z l r =>
        refine ⟨_, rfl, a, _, rfl, .inl (SqL.of ha), rfl, _, rfl, ?_⟩
        rw [decide_eq_true (by rw [lv]; rfl)]
        exact iteT ⟨_, rfl, a, _, z, _, r, rfl, ha, pa, fun v H' s p => q v H' (s5.trans s) p⟩
end
end K1

namespace K1
open PySem PySem.Spec
open PyProof.Rows L2 EnT StX SmX TxS DuX
/-! ### expressions -/
def eflds (v : V) (t : Fm) (fl : Addr) : List (Str × V) := putF "_has_given" (.bl (decide (tGiven ∈ t.lvs))) (putF "_fields" (.ref fl) (putF "_depth" (.int (t.dep : Nat)) (putF "_leaves" (.int (t.nl : Nat)) (putF "_form" v []))))
theorem ef_form (v : V) (t : Fm) (fl : Addr) : (eflds v t fl).lookup ("_form" : Str) = some v := by
  unfold eflds
  rw [lookup_putF, if_neg (by decide +kernel), lookup_putF, if_neg (by decide +kernel), lookup_putF, if_neg (by decide +kernel), lookup_putF, if_neg (by decide +kernel), lookup_putF, if_pos rfl]
theorem ef_leaves (v : V) (t : Fm) (fl : Addr) : (eflds v t fl).lookup ("_leaves" : Str) = some (.int (t.nl : Nat)) := by
  unfold eflds
  rw [lookup_putF, if_neg (by decide +kernel), lookup_putF, if_neg (by decide +kernel), lookup_putF, if_neg (by decide +kernel), lookup_putF, if_pos rfl]
theorem ef_depth (v : V) (t : Fm) (fl : Addr) : (eflds v t fl).lookup ("_depth" : Str) = some (.int (t.dep : Nat)) := by
  unfold eflds
  rw [lookup_putF, if_neg (by decide +kernel), lookup_putF, if_neg (by decide +kernel), lookup_putF, if_pos rfl]
theorem ef_fields (v : V) (t : Fm) (fl : Addr) : (eflds v t fl).lookup ("_fields" : Str) = some (.ref fl) := by
  unfold eflds
  rw [lookup_putF, if_neg (by decide +kernel), lookup_putF, if_pos rfl]
theorem ef_given (v : V) (t : Fm) (fl : Addr) : (eflds v t fl).lookup ("_has_given" : Str) = some (.bl (decide (tGiven ∈ t.lvs))) := by
  unfold eflds
  rw [lookup_putF, if_pos rfl]
structure ExpC (K : PySem.W.Frag) (mg : Str → Option Value) (C : Addr) : Prop where
  g : mg "Expression" = some (.ref C)
  cl : Cls K C
  nF : NoAttr K C "_form"
  nL : NoAttr K C "_leaves"
  nD : NoAttr K C "_depth"
  nS : NoAttr K C "_fields"
  nG : NoAttr K C "_has_given"
structure ExpAt (C : Addr) (H : Hp) (p : Addr) (t : Fm) : Prop where
  at_ : ∃ (dx : Addr) (v : V) (fl : Addr) (ys : List Str), H p = some (.ins C dx (eflds v t fl)) ∧ FmAt H v t ∧ H fl = some (.tup (ys.map V.str)) ∧ sortedS ys = true ∧ ys.Nodup ∧ ∀ z, z ∈ ys ↔ z ∈ t.lvs ∧ fieldB z = true
  ok : t.Ok
  d : t.dep ≤ 6
theorem ExpAt.same {C p : Addr} {H H' : Hp} {t : Fm} (s : Same H H') (m : ExpAt C H p t) : ExpAt C H' p t := by
  obtain ⟨⟨dx, v, fl, ys, h1, h2, h3, h4⟩, a, b⟩ := m
  exact ⟨⟨dx, v, fl, ys, s _ _ h1, h2.same s, s _ _ h3, h4⟩, a, b⟩
theorem ExpAt.set {C p a : Addr} {H : Hp} {t : Fm} {xs : List V} {o : HO} (h : H a = some (.lst xs)) (m : ExpAt C H p t) : ExpAt C (upd H a o) p t := by
  obtain ⟨⟨dx, v, fl, ys, h1, h2, h3, h4⟩, b, c⟩ := m
  exact ⟨⟨dx, v, fl, ys, by rw [upd_ne (fun z => by rw [z, h] at h1; cases h1)]; exact h1, h2.keep (TupK.set (H := H) (H' := H) (fun _ _ e => e) h), by rw [upd_ne (fun z => by rw [z, h] at h3; cases h3)]; exact h3, h4⟩, b, c⟩
theorem nl32 {t : Fm} (h : t.dep ≤ 6) : t.nl ≤ 32 := Nat.le_trans (Fm.nl_dep t) (Nat.le_trans (Nat.pow_le_pow_right (by decide) (show t.dep - 1 ≤ 5 by omega)) (by decide))
/-- what Expression(..) gives -/
def spInitE (C : Addr) : Sp := fun vs H Q _ => ∃ (p dx : Addr) (v : V) (t : Fm), vs = [.ref p, v] ∧ H p = some (.ins C dx []) ∧ FmAt H v t ∧ t.Ok ∧ t.dep ≤ 6 ∧ ∀ H', (∀ x o, x ≠ p → H x = some o → H' x = some o) → ExpAt C H' p t → Q .non H'
abbrev nmIE : List Str := ["self", "form", "size", "leaves", "depth"]
section
variable {w : World} {P : Program} {base : Heap} {mg : Str → Option Value} {K : PySem.W.Frag} {aS C : Addr}
theorem scIE : FnScope nmIE ["self", "form"] (defScope sInitE) := ⟨rfl, rfl, rfl, by decide +kernel, rfl, by decide +kernel, by decide +kernel⟩
theorem ok_initE {f f1 f2 f3 f4 f5 : Addr} {fd : FuncData} (F : Fun K "__init__" "Expression.__init__" sInitE f fd) (G : Gf K mg aS) (M : ExpC K mg C) (hS : Has P w K mg base CX0 2 "form_size" f1 ["value"] spSize)
    (hL : Has P w K mg base CX0 1 "check_leaves" f2 ["leaves"] (spChk 200)) (hD : Has P w K mg base CX0 1 "check_depth" f3 ["depth"] (spChk 20)) (hF : Has P w K mg base CX0 7 "form_fields" f4 ["form"] (spFields 6)) (hV : Has P w K mg base CX0 6 "form_leaves" f5 ["form"] (spLeaves 6)) :
    FnOk P w K mg base CX0 8 f fd ["self", "form"] (spInitE C) := by
  obtain ⟨tg, hg⟩ := G.gv
  refine F.ok scIE (fun vs H Q E h => ?_) (fun cdv A outer s H vs Q E hr h => ?_)
  · obtain ⟨p, dx, v, t, rfl, _⟩ := h
    rfl
  · obtain ⟨p, dx, v, t, rfl, hp, hm, ok, hd, q⟩ := h
    refine ⟨_, pss_cons (ps_set (i := 2) scIE.nd rfl (.inl rfl) (pe_has hS (hr.mono (by decide)) (by rfl) pass0 (pa_cons (pv 1) pa_nil)))
      (pss_cons (ps_if (pt_cmp (pc_isN (pv 2))) pss_never pss_nil)
      (pss_cons (ps_asg (pv 2) (pg_tup rfl (pgs_cons (pg_name (i := 3) scIE.nd rfl (.inl rfl)) (pgs_cons (pg_name (i := 4) scIE.nd rfl (.inl rfl)) pgs_nil))))
      (pss_cons (ps_expr (pe_has hL (hr.mono (by decide)) (by rfl) pass0 (pa_cons (pv 3) pa_nil)))
      (pss_cons (ps_expr (pe_has hD (hr.mono (by decide)) (by rfl) pass0 (pa_cons (pv 4) pa_nil)))
      (pss_cons (ps_fld (pv 0) (pv 1) rfl) (pss_cons (ps_fld (pv 0) (pv 3) rfl) (pss_cons (ps_fld (pv 0) (pv 4) rfl)
      (pss_cons (ps_fld (pv 0) (pe_has hF hr (by rfl) pass0 (pa_cons (pv 1) pa_nil)) rfl)
      (pss_one (ps_fld (pv 0) (pe_cmpR op_in_seq (pe_glob (v := .str tGiven) (by rfl) hg ⟨_, rfl⟩) (pe_has hV (hr.mono (by decide)) (by rfl) pass0 (pa_cons (pv 1) pa_nil)) (by rfl)) rfl)))))))))), ?_⟩
    have nl := nl32 hd
    refine ⟨_, rfl, v, t, rfl, hm, ok, by omega, by omega, fun a H1 s1 ha => ?_⟩
    refine ⟨_, rfl, false, rfl, iteF ?_⟩
    refine ⟨_, rfl, a, _, rfl, SqT.of ha, rfl, _, _, rfl, _, _, rfl, rfl, ?_⟩
    refine ⟨_, rfl, _, rfl, by omega, ?_⟩
    refine ⟨_, rfl, _, rfl, by omega, ?_⟩
    have hp1 := s1 _ _ hp
    have hm1 := hm.same s1
    have pt : ∀ {fs : List (Str × V)} {H2 : Hp} {o : HO}, H2 p = some (.ins C dx fs) → TupK H2 (upd H2 p o) := fun {fs H2 o} e a xs h => by rw [upd_ne (fun z => by rw [z, e] at h; cases h)]; exact h
    refine ⟨_, rfl, _, rfl, p, C, dx, [], rfl, hp1, M.cl, M.nF, (by show 0 < 1000; decide), ?_⟩
    refine ⟨_, rfl, _, rfl, p, C, dx, _, rfl, upd_same, M.cl, M.nL, (by rw [show (putF "_form" v []).length = 1 from rfl]; decide), ?_⟩
    rw [upd_upd]
    refine ⟨_, rfl, _, rfl, p, C, dx, _, rfl, upd_same, M.cl, M.nD, (by rw [show (putF "_leaves" (V.int (t.nl : Nat)) (putF "_form" v [])).length = 2 from rfl]; decide), ?_⟩
    rw [upd_upd]
    refine ⟨_, rfl, v, t, rfl, hm1.keep (pt hp1), ok, hd, by omega, fun fl ys H2 s2 hf so nd iff => ?_⟩
    have hp2 := s2 _ _ (upd_same (H := H1) (a := p) (o := .ins C dx (putF "_depth" (V.int (t.dep : Nat)) (putF "_leaves" (V.int (t.nl : Nat)) (putF "_form" v [])))))
    have hm2 := (hm1.keep (pt hp1 (o := .ins C dx (putF "_depth" (V.int (t.dep : Nat)) (putF "_leaves" (V.int (t.nl : Nat)) (putF "_form" v [])))))).same s2
    refine ⟨_, rfl, p, C, dx, _, rfl, hp2, M.cl, M.nS, (by rw [show (putF "_depth" (V.int (t.dep : Nat)) (putF "_leaves" (V.int (t.nl : Nat)) (putF "_form" v []))).length = 3 from rfl]; decide), ?_⟩
    refine ⟨_, rfl, v, t, rfl, hm2.keep (pt hp2), hd, by omega, fun l H3 nl' s3 hl => ?_⟩
    have hp3 := s3 _ _ (upd_same (H := H2) (a := p) (o := .ins C dx (putF "_fields" (V.ref fl) (putF "_depth" (V.int (t.dep : Nat)) (putF "_leaves" (V.int (t.nl : Nat)) (putF "_form" v []))))))
    have hm3 := (hm2.keep (pt hp2 (o := .ins C dx (putF "_fields" (V.ref fl) (putF "_depth" (V.int (t.dep : Nat)) (putF "_leaves" (V.int (t.nl : Nat)) (putF "_form" v []))))))).same s3
    have hf3 := s3 _ _ (pt hp2 (o := .ins C dx (putF "_fields" (V.ref fl) (putF "_depth" (V.int (t.dep : Nat)) (putF "_leaves" (V.int (t.nl : Nat)) (putF "_form" v []))))) _ _ hf)
    refine ⟨l, _, rfl, .inl (SqL.of hl), rfl, strs_flat _, ?_⟩
    rw [inV_mem]
    refine ⟨_, rfl, p, C, dx, _, rfl, hp3, M.cl, M.nG, (by rw [show (putF "_fields" (V.ref fl) (putF "_depth" (V.int (t.dep : Nat)) (putF "_leaves" (V.int (t.nl : Nat)) (putF "_form" v [])))).length = 4 from rfl]; decide), ?_⟩
    refine q _ (fun x o n e => ?_) ⟨⟨dx, v, fl, ys, upd_same, hm3.keep (pt hp3), pt hp3 _ _ hf3, so, nd, iff⟩, ok, hd⟩
    rw [upd_ne n]
    refine s3 _ _ ?_
    rw [upd_ne n]
    refine s2 _ _ ?_
    rw [upd_ne n]
    exact s1 _ _ e
end
end K1

namespace K1
open PySem PySem.Spec
open PyProof.Rows L2 EnT StX SmX TxS DuX
/-! ### what an expression tells -/
/-- e.x, a property that hands a field on -/
structure Pp (P : Program) (w : World) (K : PySem.W.Frag) (mg : Str → Option Value) (base : Heap) (C : Addr) (x y : Str) : Prop where
  cl : Cls K C
  ex : ∃ p g fd, PropOf K C x p g ∧ FnOk P w K mg base CX0 1 g fd ["self"] (getSp C y) ∧ L2.Binds K fd ["self"] []
section
variable {X : Cx} {C : Addr} {x y : Str} {e : Expr} {pos : Pos} {ta : TE}
theorem pe_pp (h : Pp X.prog X.w X.K X.mg X.base C x y) (he : PE X e ta) (hr : Room 2 X.A) (hab : attributeBase e x X.env (eval e X.env) = eval e X.env) : PE X (.Attribute e x pos) (tProp C (getSp C y) [] E0 ta) := by
  obtain ⟨c, p, g, fd, pr, G, b⟩ := h
  exact pe_prop he c pr G hr b .nil pass0 hab
end
/-- what is asked of a class for isinstance -/
structure IsC (K : PySem.W.Frag) (C : Addr) : Prop where
  yes : PySem.W.kitOne K (.ref C) (.ref C) = some true
  no : ∀ t ∈ baseTys, PySem.W.kitOne K (.type t) (.ref C) = some false
  hm : PySem.W.mroIn K C (.type "object") = some true
  htk : PySem.W.takesIn K (.builtin "object.__class__") = some true
  hn : PySem.W.specialIn K (.builtin "object.__class__") "__get__" = some (some (.builtin "getset_descriptor.__get__"))
  ha : PySem.W.findIn K (.ref C) "__class__" = some (some (.builtin "object.__class__"))
/-- a value that is none of the class at C -/
def NotC (K : PySem.W.Frag) (C : Addr) (H : Hp) (v : V) : Prop := ∃ t, TyX K H v t ∧ PySem.W.kitOne K t (.ref C) = some false
theorem VOk.notC {K : PySem.W.Frag} {C : Addr} {H : Hp} {v : V} (I : IsC K C) (h : VOk H v) : NotC K C H v := by
  obtain ⟨t, ht, tx⟩ := h.ty (K := K)
  exact ⟨_, tx, I.no t ht⟩
theorem exp_ty {K : PySem.W.Frag} {mg : Str → Option Value} {C b : Addr} {H : Hp} {t : Fm} (M : ExpC K mg C) (I : IsC K C) (m : ExpAt C H b t) : TyX K H (.ref b) (.ref C) := by
  obtain ⟨dy, v, fl, ys, k1, _⟩ := m.at_
  exact .base (.ins k1 M.cl I.ha I.hn I.htk I.hm)
def expText (t : Fm) : Str := Str.empty ++ ("Expression(" : Str) ++ (toString (t.nl : Int) : Str) ++ (" leaves)" : Str)
def spStrE (C : Addr) : Sp := fun vs H Q _ => ∃ (a : Addr) (t : Fm), vs = [.ref a] ∧ ExpAt C H a t ∧ Q (.str (t.txt false)) H
def spReprE (C : Addr) : Sp := fun vs H Q _ => ∃ (a : Addr) (t : Fm), vs = [.ref a] ∧ ExpAt C H a t ∧ Q (.str (expText t)) H
def spEqE (K : PySem.W.Frag) (C : Addr) : Sp := fun vs H Q _ => ∃ (a : Addr) (t : Fm) (y : V), vs = [.ref a, y] ∧ ExpAt C H a t ∧ ((∃ (b : Addr) (u : Fm), y = .ref b ∧ ExpAt C H b u ∧ Q (.bl (PyData.eqv t.dat u.dat)) H) ∨ (NotC K C H y ∧ Q (.bl false) H))
section
variable {w : World} {P : Program} {base : Heap} {mg : Str → Option Value} {K : PySem.W.Frag} {aS C : Addr}
theorem scFormP : FnScope ["self"] ["self"] (defScope sFormP) := ⟨rfl, rfl, rfl, by decide +kernel, rfl, by decide +kernel, by decide +kernel⟩
theorem scLeavesP : FnScope ["self"] ["self"] (defScope sLeavesP) := ⟨rfl, rfl, rfl, by decide +kernel, rfl, by decide +kernel, by decide +kernel⟩
theorem scDepthP : FnScope ["self"] ["self"] (defScope sDepthP) := ⟨rfl, rfl, rfl, by decide +kernel, rfl, by decide +kernel, by decide +kernel⟩
theorem scFieldsP : FnScope ["self"] ["self"] (defScope sFieldsP) := ⟨rfl, rfl, rfl, by decide +kernel, rfl, by decide +kernel, by decide +kernel⟩
theorem scGivenP : FnScope ["self"] ["self"] (defScope sGivenP) := ⟨rfl, rfl, rfl, by decide +kernel, rfl, by decide +kernel, by decide +kernel⟩
theorem scStrE : FnScope ["self"] ["self"] (defScope sStrE) := ⟨rfl, rfl, rfl, by decide +kernel, rfl, by decide +kernel, by decide +kernel⟩
theorem scReprE : FnScope ["self"] ["self"] (defScope sReprE) := ⟨rfl, rfl, rfl, by decide +kernel, rfl, by decide +kernel, by decide +kernel⟩
theorem scEqE : FnScope ["self", "other"] ["self", "other"] (defScope sEqE) := ⟨rfl, rfl, rfl, by decide +kernel, rfl, by decide +kernel, by decide +kernel⟩
theorem ok_formP {f : Addr} {fd : FuncData} (F : Fun K "form" "Expression.form" sFormP f fd) (M : ExpC K mg C) : FnOk P w K mg base CX0 1 f fd ["self"] (getSp C "_form") := by
  refine F.ok scFormP (fun vs H Q E h => ?_) (fun cdv A outer s H vs Q E hr h => ?_)
  · obtain ⟨a, dx, fs, v, rfl, _⟩ := h
    rfl
  · obtain ⟨a, dx, fs, v, rfl, ha, l, q⟩ := h
    exact ⟨_, pss_one (ps_ret (pe_fld (pv 0) rfl)), _, rfl, a, C, dx, fs, v, rfl, ha, M.cl, M.nF, l, q⟩
theorem ok_leavesP {f : Addr} {fd : FuncData} (F : Fun K "leaves" "Expression.leaves" sLeavesP f fd) (M : ExpC K mg C) : FnOk P w K mg base CX0 1 f fd ["self"] (getSp C "_leaves") := by
  refine F.ok scLeavesP (fun vs H Q E h => ?_) (fun cdv A outer s H vs Q E hr h => ?_)
  · obtain ⟨a, dx, fs, v, rfl, _⟩ := h
    rfl
  · obtain ⟨a, dx, fs, v, rfl, ha, l, q⟩ := h
    exact ⟨_, pss_one (ps_ret (pe_fld (pv 0) rfl)), _, rfl, a, C, dx, fs, v, rfl, ha, M.cl, M.nL, l, q⟩
theorem ok_depthP {f : Addr} {fd : FuncData} (F : Fun K "depth" "Expression.depth" sDepthP f fd) (M : ExpC K mg C) : FnOk P w K mg base CX0 1 f fd ["self"] (getSp C "_depth") := by
  refine F.ok scDepthP (fun vs H Q E h => ?_) (fun cdv A outer s H vs Q E hr h => ?_)
  · obtain ⟨a, dx, fs, v, rfl, _⟩ := h
    rfl
  · obtain ⟨a, dx, fs, v, rfl, ha, l, q⟩ := h
    exact ⟨_, pss_one (ps_ret (pe_fld (pv 0) rfl)), _, rfl, a, C, dx, fs, v, rfl, ha, M.cl, M.nD, l, q⟩
theorem ok_fieldsP {f : Addr} {fd : FuncData} (F : Fun K "fields" "Expression.fields" sFieldsP f fd) (M : ExpC K mg C) : FnOk P w K mg base CX0 1 f fd ["self"] (getSp C "_fields") := by
  refine F.ok scFieldsP (fun vs H Q E h => ?_) (fun cdv A outer s H vs Q E hr h => ?_)
  · obtain ⟨a, dx, fs, v, rfl, _⟩ := h
    rfl
  · obtain ⟨a, dx, fs, v, rfl, ha, l, q⟩ := h
    exact ⟨_, pss_one (ps_ret (pe_fld (pv 0) rfl)), _, rfl, a, C, dx, fs, v, rfl, ha, M.cl, M.nS, l, q⟩
theorem ok_givenP {f : Addr} {fd : FuncData} (F : Fun K "has_given" "Expression.has_given" sGivenP f fd) (M : ExpC K mg C) : FnOk P w K mg base CX0 1 f fd ["self"] (getSp C "_has_given") := by
  refine F.ok scGivenP (fun vs H Q E h => ?_) (fun cdv A outer s H vs Q E hr h => ?_)
  · obtain ⟨a, dx, fs, v, rfl, _⟩ := h
    rfl
  · obtain ⟨a, dx, fs, v, rfl, ha, l, q⟩ := h
    exact ⟨_, pss_one (ps_ret (pe_fld (pv 0) rfl)), _, rfl, a, C, dx, fs, v, rfl, ha, M.cl, M.nG, l, q⟩
theorem ok_strE {f f1 : Addr} {fd : FuncData} (F : Fun K "__str__" "Expression.__str__" sStrE f fd) (T : Free mg) (M : ExpC K mg C) (hT : Has P w K mg base CX0 12 "form_text" f1 ["form"] (spTextF 6)) : FnOk P w K mg base CX0 13 f fd ["self"] (spStrE C) := by
  refine F.ok scStrE (fun vs H Q E h => ?_) (fun cdv A outer s H vs Q E hr h => ?_)
  · obtain ⟨a, t, rfl, _⟩ := h
    rfl
  · obtain ⟨a, t, rfl, m, q⟩ := h
    obtain ⟨dx, v, fl, ys, h1, h2, _⟩ := m.at_
    have nl := nl32 m.d
    exact ⟨_, pss_one (ps_ret (pe_callTy SkE.call_str_str (by rfl) T.str (by decide +kernel) (pa_cons (pe_has hT hr (by rfl) pass0 (pa_cons (pe_fld (pv 0) rfl) pa_nil)) pa_nil))), _, rfl, a, C, dx, _, _, rfl, h1, M.cl, M.nF, ef_form v t fl, v, t, rfl, h2, m.ok, m.d, by omega, _, rfl, q⟩
theorem ok_reprE {f : Addr} {fd : FuncData} (F : Fun K "__repr__" "Expression.__repr__" sReprE f fd) (M : ExpC K mg C) : FnOk P w K mg base CX0 1 f fd ["self"] (spReprE C) := by
  refine F.ok scReprE (fun vs H Q E h => ?_) (fun cdv A outer s H vs Q E hr h => ?_)
  · obtain ⟨a, t, rfl, _⟩ := h
    rfl
  · obtain ⟨a, t, rfl, m, q⟩ := h
    obtain ⟨dx, v, fl, ys, h1, h2, _⟩ := m.at_
    have nl := nl32 m.d
    have f1 : (toString (t.nl : Int) : Str).length ≤ 5 := RpD.shown_int (by omega)
    have e0 : (Str.empty ++ ("Expression(" : Str)).length = 11 := by decide +kernel
    have e1 : ((" leaves)" : Str)).length = 8 := by decide +kernel
    refine ⟨_, pss_one (ps_ret (pe_joined (.cons pe_str (.cons (pe_fmt (pe_fld (pv 0) rfl)) (.cons pe_str .nil))))), ?_⟩
    refine ⟨_, rfl, by rw [e0, sizeLine_eq]; decide, _, rfl, a, C, dx, _, _, rfl, h1, M.cl, M.nL, ef_leaves v t fl, .inr ⟨_, rfl, RpD.log_small (i := (t.nl : Nat)) (by omega), ?_⟩⟩
    exact ⟨_, rfl, by rw [strLen_append, e0, sizeLine_eq]; omega, _, rfl, by rw [strLen_append, strLen_append, e0, e1, sizeLine_eq]; omega, q⟩
theorem ok_eqE {f : Addr} {fd : FuncData} (F : Fun K "__eq__" "Expression.__eq__" sEqE f fd) (T : Free mg) (M : ExpC K mg C) (I : IsC K C) (pF : Pp P w K mg base C "form" "_form") : FnOk P w K mg base CX0 3 f fd ["self", "other"] (spEqE K C) := by
  refine F.ok scEqE (fun vs H Q E h => ?_) (fun cdv A outer s H vs Q E hr h => ?_)
  · obtain ⟨a, t, y, rfl, _⟩ := h
    rfl
  · obtain ⟨a, t, y, rfl, m, h⟩ := h
    obtain ⟨dx, v, fl, ys, h1, h2, _⟩ := m.at_
    refine ⟨_, pss_one (ps_ret (pe_and (pe_callB call_isi (by rfl) T.isinstance (by decide +kernel) (pa_cons (pv 1) (pa_cons (pe_glob (v := .ref C) (by rfl) M.g rfl) pa_nil))) (pe_one (pe_cmpR (op_eqD (by have := hr.un; have e : (A.deeper (envOfC "Expression.__eq__" (defScope sEqE) s.heap.objs.size f cdv)).units = A.units + 3 := rfl; show A.units + 3 + 64 < cLine; omega)) (pe_fld (pv 0) rfl) (pe_pp pF (pv 1) hr rfl) (nomark _))))), ?_⟩
    rcases h with ⟨b, u, rfl, m2, q⟩ | ⟨⟨ty, tx, kt⟩, q⟩
    · obtain ⟨dx2, v2, fl2, ys2, k1, k2, _⟩ := m2.at_
      refine ⟨_, rfl, _, _, _, _, true, rfl, .own C, exp_ty M I m2, I.yes, true, rfl, ?_⟩
      refine iteT ⟨_, rfl, a, C, dx, _, _, rfl, h1, M.cl, M.nF, ef_form v t fl, _, rfl, b, dx2, _, rfl, k1, b, dx2, _, _, rfl, k1, ef_form v2 u fl2, ?_⟩
      have d1 := m.d
      have d2 := m2.d
      exact ⟨t.dat, u.dat, h2.dp, k2.dp, Fm.shaped m.ok (by omega), Fm.shaped m2.ok (by omega), q⟩
    · refine ⟨_, rfl, _, _, _, _, false, rfl, .own C, tx, kt, false, rfl, ?_⟩
      exact iteF q
end
end K1

namespace TkX
open PySem PySem.Spec PyProof.Rows L2 SmX ClX
/-- C.m(k = e, ..) of a static method that wants a token out -/
theorem pe_smKT {X : Cx} {k : Nat} {C p g : Addr} {mc : Value} {sp : Sp} {o : Expr} {m : Str} {pos apos : Pos} {to : TE} {tk : TA} {pl : Sem Bool} {fd : FuncData} {ps ks : List Str} {kws : List Keyword} {gg : List Value → List Value → List Value} {gV : List V → List V → List V} (he : PE X o to) (r : CRead X.K C mc) (c : SMet X.K C mc m p g)
    (F : FnT X.prog X.w X.K X.mg X.base k g fd ps sp) (hb : KBn X.K fd ps 0 ks gg gV) (hr : Room k X.A) (hkw : PK X kws tk)
    (hks : (backToKw pos (keywordEach kws X.env)).filterMap (·.1) = ks := by rfl) (hall : (backToKw pos (keywordEach kws X.env)).all (·.1.isSome) = true := by rfl)
    (hpl : ((backTo pos (starEach [] X.env)).any (·.1) || (backToKw pos (keywordEach kws X.env)).any (·.1.isNone)) = false := by rfl)
    (ht : eval (.Call (.Attribute o m apos) [] kws pos) X.env = (do
      let ov ← eval o X.env
      standAt apos.atName
      let (f, first) ← holding
          [ov] (getMethod ov m pl)
      callWith pos f first (backTo pos (starEach [] X.env)) (backToKw pos (keywordEach kws X.env))) := by rfl) :
    PE X (.Call (.Attribute o m apos) [] kws pos) (tSMethK C ks.length sp gV E0 to tk) := by
  refine ⟨fun pins s σ H Q Iv hyp => ?_⟩
  refine PySem.W.methodCall_KW (pl := pl) (thn (he.run pins s σ H _ Iv hyp) fun usV st1 ⟨x, H1, Iv1, relX, ex, cont⟩ => ?_) ht
  subst ex
  obtain rfl : usV = Value.ref C := relX
  refine getsm_tok Iv1 r c fun st2 t2 Iv2 => ?_
  refine PySem.W.callWith_KW0 (h₀ := X.base) Iv.ok.mod.kin c.kp hall ?_ hpl
  refine wpAny_mono (PySem.wpAny_toks_of t2 (hkw.run pos pins st2 σ H1 _ Iv2 cont)) (fun ws s1 q => ?_) fun _ _ z => z.2
  obtain ⟨t3, zs, H2, I3, rz, l2, q2⟩ := q
  refine ⟨I3.kIn, ?_⟩
  rw [hks]
  exact wpAny_call (codeAny_mono (F.run X.A X.stack s1 H2 ⟨[], ks.zip ws⟩ (gg [] ws) (gV [] zs) Q E0 t3 hr I3.env0 (hb.to s1 [] ws I3.kIn rfl (rz.length.symm.trans l2)) (hb.rel .nil rz) q2) fun r s' hq => after_run I3 hq)
end TkX
namespace K1
open PySem PySem.Spec
open PyProof.Rows L2 EnT StX SmX TxS DuX
/-! ### Expression.read -/
def MakesE (C : Addr) (t : Fm) (H : Hp) (Q : VK) : Prop := ∀ (p : Addr) (H' : Hp), H p = none → Same H H' → ExpAt C H' p t → Q (.ref p) H'
theorem makeE_go {C : Addr} {H : Hp} {v : V} {t : Fm} {Q : VK} {E : XK} (hm : FmAt H v t) (ok : t.Ok) (hd : t.dep ≤ 6) (q : MakesE C t H Q) : ∀ x dx, H x = none → H dx = none → dx ≠ x → spInitE C [.ref x, v] (upd (upd H dx (.own x)) x (.ins C dx [])) (fun v H2 => v = .non ∧ Q (.ref x) H2) E := by
  intro x dx nx nd ne
  have s1 : Same H (upd H dx (.own x)) := same_upd nd
  have nx1 : (upd H dx (.own x)) x = none := by rw [upd_ne (Ne.symm ne)]; exact nx
  have s2 : Same (upd H dx (.own x)) (upd (upd H dx (.own x)) x (.ins C dx [])) := same_upd nx1
  refine ⟨x, dx, v, t, rfl, upd_same, hm.same (s1.trans s2), ok, hd, fun H' k e => ⟨rfl, q x H' nx (fun b o hb => k b o (fun z => ?_) ((s1.trans s2) b o hb)) e⟩⟩
  rw [z, nx] at hb
  cases hb
def spReadE (C : Addr) : Sp := fun vs H Q _ => ∃ t : Fm, vs = [.str (t.txt false)] ∧ t.Ok ∧ t.dep ≤ 6 ∧ MakesE C t H Q
abbrev nmRE : List Str := ["text", "counted", "form", "leaves"]
section
variable {w : World} {P : Program} {base : Heap} {mg : Str → Option Value} {K : PySem.W.Frag} {aS C fI : Addr}
theorem scRE : FnScope nmRE ["text"] (defScope sReadE) := ⟨rfl, rfl, rfl, by decide +kernel, rfl, by decide +kernel, by decide +kernel⟩
theorem ok_readE {f f1 f2 : Addr} {fd : FuncData} (F : Fun K "read" "Expression.read" sReadE f fd) (M : ExpC K mg C) (MK : Mk K C fI) (FI : FnR P w K mg base CX0 8 fI (spInitE C)) (hR : TkX.HasT P w K mg base 3 "read_counted" f1 ["text"] spReadC)
    (hL : Has P w K mg base CX0 1 "check_leaves" f2 ["leaves"] (spChk 200)) : TkX.FnT P w K mg base 10 f fd ["text"] (spReadE C) := by
  refine TkX.fnT_of F scRE (fun vs H Q E h => ?_) (fun cdv A outer s H vs Q E hr h => ?_)
  · obtain ⟨t, rfl, _⟩ := h
    rfl
  · obtain ⟨t, rfl, ok, hd, q⟩ := h
    refine ⟨_, psst_cons (TkX.pst_set (i := 1) scRE.nd rfl (.inl rfl) (TkX.pet_has hR (hr.mono (by decide)) (by rfl) (pa_cons (pv 0) pa_nil)))
      (PSsT.of (pss_cons (ps_if (pt_cmp (pc_isN (pv 1))) pss_never pss_nil)
      (pss_cons (ps_asg (pv 1) (pg_tup rfl (pgs_cons (pg_name (i := 2) scRE.nd rfl (.inl rfl)) (pgs_cons (pg_name (i := 3) scRE.nd rfl (.inl rfl)) pgs_nil))))
      (pss_cons (ps_expr (pe_has hL (hr.mono (by decide)) (by rfl) pass0 (pa_cons (pv 3) pa_nil)))
      (pss_one (ps_ret (pe_makeR MK FI hr (by rfl) M.g pass0 (pa_cons (pv 2) pa_nil)))))))), ?_⟩
    have nl := nl32 hd
    refine ⟨_, rfl, t, rfl, ok, by omega, fun v H1 s1 pt => ?_⟩
    cases pt with
    | f ha hm =>
    rename_i a v
    refine ⟨_, rfl, false, rfl, iteF ?_⟩
    refine ⟨_, rfl, a, _, rfl, SqT.of ha, rfl, _, _, rfl, _, _, rfl, rfl, ?_⟩
    refine ⟨_, rfl, _, rfl, by omega, ?_⟩
    refine ⟨_, rfl, makeE_go hm ok hd fun p H' np s2 m => q p H' ?_ (s1.trans s2) m⟩
    cases e : H p with
    | none => rfl
    | some o =>
      rw [s1 _ _ e] at np
      cases np
end
end K1

namespace K1
open PySem PySem.Spec
open PyProof.Rows L2 EnT StX SmX TxS DuX
/-! ### the signs -/
def spChkE (C : Addr) : Sp := fun vs H Q _ => ∃ (b : Addr) (t : Fm), vs = [.ref b] ∧ ExpAt C H b t ∧ Q .non H
def spSign (C : Addr) : Sp := fun vs H Q _ => ∃ (z : Str) (a b : Addr) (t u : Fm), vs = [.str z, .ref a, .ref b] ∧ z ∈ signs ∧ ExpAt C H a t ∧ ExpAt C H b u ∧ t.dep ≤ 5 ∧ u.dep ≤ 5 ∧ MakesE C (.node z t u) H Q
def spOp (C : Addr) (z : Str) : Sp := fun vs H Q _ => ∃ (a b : Addr) (t u : Fm), vs = [.ref a, .ref b] ∧ ExpAt C H a t ∧ ExpAt C H b u ∧ t.dep ≤ 5 ∧ u.dep ≤ 5 ∧ MakesE C (.node z t u) H Q
theorem MakesE.after {C : Addr} {t : Fm} {H H1 : Hp} {Q : VK} (s : Same H H1) (q : MakesE C t H Q) : MakesE C t H1 Q := fun p H' np s2 m => q p H' (by
  cases e : H p with
  | none => rfl
  | some o =>
    rw [s _ _ e] at np
    cases np) (s.trans s2) m
section
variable {w : World} {P : Program} {base : Heap} {mg : Str → Option Value} {K : PySem.W.Frag} {aS C fI : Addr}
theorem scChkE : FnScope ["value"] ["value"] (defScope sChkE) := ⟨rfl, rfl, rfl, by decide +kernel, rfl, by decide +kernel, by decide +kernel⟩
theorem scSign : FnScope ["sign", "one", "other"] ["sign", "one", "other"] (defScope sSign) := ⟨rfl, rfl, rfl, by decide +kernel, rfl, by decide +kernel, by decide +kernel⟩
theorem scOrE : FnScope ["self", "other"] ["self", "other"] (defScope sOrE) := ⟨rfl, rfl, rfl, by decide +kernel, rfl, by decide +kernel, by decide +kernel⟩
theorem scAndE : FnScope ["self", "other"] ["self", "other"] (defScope sAndE) := ⟨rfl, rfl, rfl, by decide +kernel, rfl, by decide +kernel, by decide +kernel⟩
theorem scSubE : FnScope ["self", "other"] ["self", "other"] (defScope sSubE) := ⟨rfl, rfl, rfl, by decide +kernel, rfl, by decide +kernel, by decide +kernel⟩
theorem scXorE : FnScope ["self", "other"] ["self", "other"] (defScope sXorE) := ⟨rfl, rfl, rfl, by decide +kernel, rfl, by decide +kernel, by decide +kernel⟩
theorem ok_chkE {f : Addr} {fd : FuncData} (F : Fun K "check_expression" "check_expression" sChkE f fd) (T : Free mg) (M : ExpC K mg C) (I : IsC K C) : FnOk P w K mg base CX0 1 f fd ["value"] (spChkE C) := by
  refine F.ok scChkE (fun vs H Q E h => ?_) (fun cdv A outer s H vs Q E hr h => ?_)
  · obtain ⟨b, t, rfl, _⟩ := h
    rfl
  · obtain ⟨b, t, rfl, m, q⟩ := h
    refine ⟨_, pss_one (ps_if (pt_not (pt_val (pe_callB call_isi (by rfl) T.isinstance (by decide +kernel) (pa_cons (pv 0) (pa_cons (pe_glob (v := .ref C) (by rfl) M.g rfl) pa_nil))))) pss_never pss_nil), ?_⟩
    exact ⟨_, rfl, _, _, _, _, true, rfl, .own C, exp_ty M I m, I.yes, true, rfl, iteF q⟩
theorem ok_sign {f f1 : Addr} {fd : FuncData} (F : Fun K "with_sign" "with_sign" sSign f fd) (M : ExpC K mg C) (MK : Mk K C fI) (FI : FnR P w K mg base CX0 8 fI (spInitE C)) (hC : Has P w K mg base CX0 1 "check_expression" f1 ["value"] (spChkE C)) (pF : Pp P w K mg base C "form" "_form") :
    FnOk P w K mg base CX0 10 f fd ["sign", "one", "other"] (spSign C) := by
  refine F.ok scSign (fun vs H Q E h => ?_) (fun cdv A outer s H vs Q E hr h => ?_)
  · obtain ⟨z, a, b, t, u, rfl, _⟩ := h
    rfl
  · obtain ⟨z, a, b, t, u, rfl, hz, m1, m2, d1, d2, q⟩ := h
    obtain ⟨dx1, v1, fl1, ys1, h1, h2, _⟩ := m1.at_
    obtain ⟨dx2, v2, fl2, ys2, k1, k2, _⟩ := m2.at_
    refine ⟨_, pss_cons (ps_expr (pe_has hC (hr.mono (by decide)) (by rfl) pass0 (pa_cons (pv 2) pa_nil)))
      (pss_one (ps_ret (pe_makeR MK FI hr (by rfl) M.g pass0 (pa_cons (pe_tup (pa_cons (pv 0) (pa_cons (pe_pp pF (pv 1) (hr.mono (by decide)) rfl) (pa_cons (pe_pp pF (pv 2) (hr.mono (by decide)) rfl) pa_nil)))) pa_nil)))), ?_⟩
    refine ⟨_, rfl, b, u, rfl, m2, ?_⟩
    refine ⟨_, rfl, _, rfl, a, dx1, _, rfl, h1, a, dx1, _, _, rfl, h1, ef_form v1 t fl1, _, rfl, b, dx2, _, rfl, k1, b, dx2, _, _, rfl, k1, ef_form v2 u fl2, (by show 3 ≤ sizeLine; decide), fun p np => ?_⟩
    have s1 : Same H (upd H p (.tup [.str z, v1, v2])) := same_upd np
    have dd : (Fm.node z t u).dep ≤ 6 := by rw [Fm.dep_node]; omega
    exact makeE_go (.node upd_same (h2.same s1) (k2.same s1)) ⟨hz, m1.ok, m2.ok⟩ dd (q.after s1)
theorem ok_orE {f f1 : Addr} {fd : FuncData} (F : Fun K "__or__" "Expression.__or__" sOrE f fd) (hS : Has P w K mg base CX0 10 "with_sign" f1 ["sign", "one", "other"] (spSign C)) : FnOk P w K mg base CX0 11 f fd ["self", "other"] (spOp C "|") := by
  refine F.ok scOrE (fun vs H Q E h => ?_) (fun cdv A outer s H vs Q E hr h => ?_)
  · obtain ⟨a, b, t, u, rfl, _⟩ := h
    rfl
  · obtain ⟨a, b, t, u, rfl, m1, m2, d1, d2, q⟩ := h
    exact ⟨_, pss_one (ps_ret (pe_has hS hr (by rfl) pass0 (pa_cons pe_str (pa_cons (pv 0) (pa_cons (pv 1) pa_nil))))), _, rfl, _, rfl, "|", a, b, t, u, rfl, by decide +kernel, m1, m2, d1, d2, q⟩
theorem ok_andE {f f1 : Addr} {fd : FuncData} (F : Fun K "__and__" "Expression.__and__" sAndE f fd) (hS : Has P w K mg base CX0 10 "with_sign" f1 ["sign", "one", "other"] (spSign C)) : FnOk P w K mg base CX0 11 f fd ["self", "other"] (spOp C "&") := by
  refine F.ok scAndE (fun vs H Q E h => ?_) (fun cdv A outer s H vs Q E hr h => ?_)
  · obtain ⟨a, b, t, u, rfl, _⟩ := h
    rfl
  · obtain ⟨a, b, t, u, rfl, m1, m2, d1, d2, q⟩ := h
    exact ⟨_, pss_one (ps_ret (pe_has hS hr (by rfl) pass0 (pa_cons pe_str (pa_cons (pv 0) (pa_cons (pv 1) pa_nil))))), _, rfl, _, rfl, "&", a, b, t, u, rfl, by decide +kernel, m1, m2, d1, d2, q⟩
theorem ok_subE {f f1 : Addr} {fd : FuncData} (F : Fun K "__sub__" "Expression.__sub__" sSubE f fd) (hS : Has P w K mg base CX0 10 "with_sign" f1 ["sign", "one", "other"] (spSign C)) : FnOk P w K mg base CX0 11 f fd ["self", "other"] (spOp C "-") := by
  refine F.ok scSubE (fun vs H Q E h => ?_) (fun cdv A outer s H vs Q E hr h => ?_)
  · obtain ⟨a, b, t, u, rfl, _⟩ := h
    rfl
  · obtain ⟨a, b, t, u, rfl, m1, m2, d1, d2, q⟩ := h
    exact ⟨_, pss_one (ps_ret (pe_has hS hr (by rfl) pass0 (pa_cons pe_str (pa_cons (pv 0) (pa_cons (pv 1) pa_nil))))), _, rfl, _, rfl, "-", a, b, t, u, rfl, by decide +kernel, m1, m2, d1, d2, q⟩
theorem ok_xorE {f f1 : Addr} {fd : FuncData} (F : Fun K "__xor__" "Expression.__xor__" sXorE f fd) (hS : Has P w K mg base CX0 10 "with_sign" f1 ["sign", "one", "other"] (spSign C)) : FnOk P w K mg base CX0 11 f fd ["self", "other"] (spOp C "^") := by
  refine F.ok scXorE (fun vs H Q E h => ?_) (fun cdv A outer s H vs Q E hr h => ?_)
  · obtain ⟨a, b, t, u, rfl, _⟩ := h
    rfl
  · obtain ⟨a, b, t, u, rfl, m1, m2, d1, d2, q⟩ := h
    exact ⟨_, pss_one (ps_ret (pe_has hS hr (by rfl) pass0 (pa_cons pe_str (pa_cons (pv 0) (pa_cons (pv 1) pa_nil))))), _, rfl, _, rfl, "^", a, b, t, u, rfl, by decide +kernel, m1, m2, d1, d2, q⟩
end
end K1

namespace K1
open PySem PySem.Spec
open PyProof.Rows L2 EnT StX SmX TxS DuX
/-! ### facts -/
def ffl (a b : Addr) : List (Str × V) := putF "_right" (.ref b) (putF "_left" (.ref a) [])
theorem ff_left (a b : Addr) : (ffl a b).lookup ("_left" : Str) = some (.ref a) := by
  unfold ffl
  rw [lookup_putF, if_neg (by decide +kernel), lookup_putF, if_pos rfl]
theorem ff_right (a b : Addr) : (ffl a b).lookup ("_right" : Str) = some (.ref b) := by
  unfold ffl
  rw [lookup_putF, if_pos rfl]
structure FacC (K : PySem.W.Frag) (mg : Str → Option Value) (D : Addr) : Prop where
  g : mg "Fact" = some (.ref D)
  cl : Cls K D
  nL : NoAttr K D "_left"
  nR : NoAttr K D "_right"
/-- the fact of the two expressions at a and b -/
structure FacAt (C D : Addr) (H : Hp) (p a b : Addr) (t u : Fm) : Prop where
  at_ : ∃ dx, H p = some (.ins D dx (ffl a b))
  l : ExpAt C H a t
  r : ExpAt C H b u
theorem FacAt.same {C D p a b : Addr} {H H' : Hp} {t u : Fm} (s : Same H H') (m : FacAt C D H p a b t u) : FacAt C D H' p a b t u := by
  obtain ⟨⟨dx, h⟩, l, r⟩ := m
  exact ⟨⟨dx, s _ _ h⟩, l.same s, r.same s⟩
theorem fac_ty {K : PySem.W.Frag} {mg : Str → Option Value} {C D p a b : Addr} {H : Hp} {t u : Fm} (M : FacC K mg D) (I : IsC K D) (m : FacAt C D H p a b t u) : TyX K H (.ref p) (.ref D) := by
  obtain ⟨dy, k1⟩ := m.at_
  exact .base (.ins k1 M.cl I.ha I.hn I.htk I.hm)
def MakesF (C D a b : Addr) (t u : Fm) (H : Hp) (Q : VK) : Prop := ∀ (p : Addr) (H' : Hp), H p = none → Same H H' → FacAt C D H' p a b t u → Q (.ref p) H'
def spInitF (C D : Addr) : Sp := fun vs H Q _ => ∃ (p a b dx : Addr) (t u : Fm), vs = [.ref p, .ref a, .ref b] ∧ H p = some (.ins D dx []) ∧ p ≠ a ∧ p ≠ b ∧ ExpAt C H a t ∧ ExpAt C H b u ∧ ∀ H', (∀ x o, x ≠ p → H x = some o → H' x = some o) → FacAt C D H' p a b t u → Q .non H'
theorem makeF_go {C D a b : Addr} {H : Hp} {t u : Fm} {Q : VK} {E : XK} (m1 : ExpAt C H a t) (m2 : ExpAt C H b u) (q : MakesF C D a b t u H Q) : ∀ x dx, H x = none → H dx = none → dx ≠ x → spInitF C D [.ref x, .ref a, .ref b] (upd (upd H dx (.own x)) x (.ins D dx [])) (fun v H2 => v = .non ∧ Q (.ref x) H2) E := by
  intro x dx nx nd ne
  have s1 : Same H (upd H dx (.own x)) := same_upd nd
  have nx1 : (upd H dx (.own x)) x = none := by rw [upd_ne (Ne.symm ne)]; exact nx
  have s2 : Same (upd H dx (.own x)) (upd (upd H dx (.own x)) x (.ins D dx [])) := same_upd nx1
  have no : ∀ {b : Addr} {o : HO}, H b = some o → x ≠ b := fun h z => by
    rw [← z, nx] at h
    cases h
  obtain ⟨_, _, _, _, h1, _⟩ := m1.at_
  obtain ⟨_, _, _, _, h2, _⟩ := m2.at_
  refine ⟨x, a, b, dx, t, u, rfl, upd_same, no h1, no h2, m1.same (s1.trans s2), m2.same (s1.trans s2), fun H' k e => ⟨rfl, q x H' nx (fun b o hb => k b o (fun z => no hb z.symm) ((s1.trans s2) b o hb)) e⟩⟩
theorem ExpAt.upd_ins {C D p a dx : Addr} {H : Hp} {t : Fm} {fs : List (Str × V)} {o : HO} (h : H p = some (.ins D dx fs)) (n : p ≠ a) (m : ExpAt C H a t) : ExpAt C (upd H p o) a t := by
  obtain ⟨⟨dx', v, fl, ys, h1, h2, h3, h4⟩, b, c⟩ := m
  exact ⟨⟨dx', v, fl, ys, by rw [upd_ne (Ne.symm n)]; exact h1, h2.keep (fun c xs e => by rw [upd_ne (fun z => by rw [z, h] at e; cases e)]; exact e), by rw [upd_ne (fun z => by rw [z, h] at h3; cases h3)]; exact h3, h4⟩, b, c⟩
def spWithin (C D : Addr) : Sp := fun vs H Q _ => ∃ (a b : Addr) (t u : Fm), vs = [.ref a, .ref b] ∧ ExpAt C H a t ∧ ExpAt C H b u ∧ MakesF C D a b t u H Q
def spFormF (C D : Addr) : Sp := fun vs H Q _ => ∃ (p a b : Addr) (t u : Fm), vs = [.ref p] ∧ FacAt C D H p a b t u ∧ ∀ (q : Addr) (v1 v2 : V) (H' : Hp), Same H H' → H' q = some (.tup [v1, v2]) → FmAt H' v1 t → FmAt H' v2 u → Q (.ref q) H'
def spEqF (C D : Addr) : Sp := fun vs H Q _ => ∃ (p q a b c d : Addr) (t u t' u' : Fm), vs = [.ref p, .ref q] ∧ FacAt C D H p a b t u ∧ FacAt C D H q c d t' u' ∧ Q (.bl (PyData.eqv t.dat t'.dat && PyData.eqv u.dat u'.dat)) H
section
variable {w : World} {P : Program} {base : Heap} {mg : Str → Option Value} {K : PySem.W.Frag} {aS C D fI : Addr}
theorem scIF : FnScope ["self", "left", "right"] ["self", "left", "right"] (defScope sInitF) := ⟨rfl, rfl, rfl, by decide +kernel, rfl, by decide +kernel, by decide +kernel⟩
theorem scWithin : FnScope ["self", "other"] ["self", "other"] (defScope sWithin) := ⟨rfl, rfl, rfl, by decide +kernel, rfl, by decide +kernel, by decide +kernel⟩
theorem scLeftP : FnScope ["self"] ["self"] (defScope sLeftP) := ⟨rfl, rfl, rfl, by decide +kernel, rfl, by decide +kernel, by decide +kernel⟩
theorem scRightP : FnScope ["self"] ["self"] (defScope sRightP) := ⟨rfl, rfl, rfl, by decide +kernel, rfl, by decide +kernel, by decide +kernel⟩
theorem scFormF : FnScope ["self"] ["self"] (defScope sFormF) := ⟨rfl, rfl, rfl, by decide +kernel, rfl, by decide +kernel, by decide +kernel⟩
theorem scEqF : FnScope ["self", "other"] ["self", "other"] (defScope sEqF) := ⟨rfl, rfl, rfl, by decide +kernel, rfl, by decide +kernel, by decide +kernel⟩
theorem ok_initF {f f1 : Addr} {fd : FuncData} (F : Fun K "__init__" "Fact.__init__" sInitF f fd) (M : FacC K mg D) (hC : Has P w K mg base CX0 1 "check_expression" f1 ["value"] (spChkE C)) : FnOk P w K mg base CX0 2 f fd ["self", "left", "right"] (spInitF C D) := by
  refine F.ok scIF (fun vs H Q E h => ?_) (fun cdv A outer s H vs Q E hr h => ?_)
  · obtain ⟨p, a, b, dx, t, u, rfl, _⟩ := h
    rfl
  · obtain ⟨p, a, b, dx, t, u, rfl, hp, n1, n2, m1, m2, q⟩ := h
    refine ⟨_, pss_cons (ps_expr (pe_has hC hr (by rfl) pass0 (pa_cons (pv 1) pa_nil)))
      (pss_cons (ps_expr (pe_has hC hr (by rfl) pass0 (pa_cons (pv 2) pa_nil)))
      (pss_cons (ps_fld (pv 0) (pv 1) rfl) (pss_one (ps_fld (pv 0) (pv 2) rfl)))), ?_⟩
    refine ⟨_, rfl, a, t, rfl, m1, _, rfl, b, u, rfl, m2, ?_⟩
    refine ⟨_, rfl, _, rfl, p, D, dx, [], rfl, hp, M.cl, M.nL, (by show 0 < 1000; decide), ?_⟩
    refine ⟨_, rfl, _, rfl, p, D, dx, _, rfl, upd_same, M.cl, M.nR, (by rw [show (putF "_left" (V.ref a) []).length = 1 from rfl]; decide), ?_⟩
    rw [upd_upd]
    exact q _ (fun x o n e => by rw [upd_ne n]; exact e) ⟨⟨dx, upd_same⟩, m1.upd_ins hp n1, m2.upd_ins hp n2⟩
theorem ok_within {f : Addr} {fd : FuncData} (F : Fun K "within" "Expression.within" sWithin f fd) (M : FacC K mg D) (MK : Mk K D fI) (FI : FnR P w K mg base CX0 2 fI (spInitF C D)) : FnOk P w K mg base CX0 4 f fd ["self", "other"] (spWithin C D) := by
  refine F.ok scWithin (fun vs H Q E h => ?_) (fun cdv A outer s H vs Q E hr h => ?_)
  · obtain ⟨a, b, t, u, rfl, _⟩ := h
    rfl
  · obtain ⟨a, b, t, u, rfl, m1, m2, q⟩ := h
    exact ⟨_, pss_one (ps_ret (pe_makeR MK FI hr (by rfl) M.g pass0 (pa_cons (pv 0) (pa_cons (pv 1) pa_nil)))), _, rfl, _, rfl, makeF_go m1 m2 q⟩
theorem ok_leftP {f : Addr} {fd : FuncData} (F : Fun K "left" "Fact.left" sLeftP f fd) (M : FacC K mg D) : FnOk P w K mg base CX0 1 f fd ["self"] (getSp D "_left") := by
  refine F.ok scLeftP (fun vs H Q E h => ?_) (fun cdv A outer s H vs Q E hr h => ?_)
  · obtain ⟨a, dx, fs, v, rfl, _⟩ := h
    rfl
  · obtain ⟨a, dx, fs, v, rfl, ha, l, q⟩ := h
    exact ⟨_, pss_one (ps_ret (pe_fld (pv 0) rfl)), _, rfl, a, D, dx, fs, v, rfl, ha, M.cl, M.nL, l, q⟩
theorem ok_rightP {f : Addr} {fd : FuncData} (F : Fun K "right" "Fact.right" sRightP f fd) (M : FacC K mg D) : FnOk P w K mg base CX0 1 f fd ["self"] (getSp D "_right") := by
  refine F.ok scRightP (fun vs H Q E h => ?_) (fun cdv A outer s H vs Q E hr h => ?_)
  · obtain ⟨a, dx, fs, v, rfl, _⟩ := h
    rfl
  · obtain ⟨a, dx, fs, v, rfl, ha, l, q⟩ := h
    exact ⟨_, pss_one (ps_ret (pe_fld (pv 0) rfl)), _, rfl, a, D, dx, fs, v, rfl, ha, M.cl, M.nR, l, q⟩
theorem ok_formF {f : Addr} {fd : FuncData} (F : Fun K "form" "Fact.form" sFormF f fd) (M : FacC K mg D) (pF : Pp P w K mg base C "form" "_form") : FnOk P w K mg base CX0 3 f fd ["self"] (spFormF C D) := by
  refine F.ok scFormF (fun vs H Q E h => ?_) (fun cdv A outer s H vs Q E hr h => ?_)
  · obtain ⟨p, a, b, t, u, rfl, _⟩ := h
    rfl
  · obtain ⟨p, a, b, t, u, rfl, m, q⟩ := h
    obtain ⟨dx, h⟩ := m.at_
    obtain ⟨dx1, v1, fl1, ys1, h1, h2, _⟩ := m.l.at_
    obtain ⟨dx2, v2, fl2, ys2, k1, k2, _⟩ := m.r.at_
    refine ⟨_, pss_one (ps_ret (pe_tup (pa_cons (pe_pp pF (pe_fld (pv 0) rfl) hr rfl) (pa_cons (pe_pp pF (pe_fld (pv 0) rfl) hr rfl) pa_nil)))), ?_⟩
    refine ⟨_, rfl, p, D, dx, _, _, rfl, h, M.cl, M.nL, ff_left a b, a, dx1, _, rfl, h1, a, dx1, _, _, rfl, h1, ef_form v1 t fl1, ?_⟩
    refine ⟨_, rfl, p, D, dx, _, _, rfl, h, M.cl, M.nR, ff_right a b, b, dx2, _, rfl, k1, b, dx2, _, _, rfl, k1, ef_form v2 u fl2, (by show 2 ≤ sizeLine; decide), fun r nr => ?_⟩
    have s1 : Same H (upd H r (.tup [v1, v2])) := same_upd nr
    exact q r v1 v2 _ s1 upd_same (h2.same s1) (k2.same s1)
theorem ok_eqF {f gE : Addr} {fd : FuncData} (F : Fun K "__eq__" "Fact.__eq__" sEqF f fd) (T : Free mg) (ME : ExpC K mg C) (IE : IsC K C) (M : FacC K mg D) (I : IsC K D) (nf : PySem.W.notFirst K C (.ref C) = true) (mE : OwnM K C "__eq__" gE) (FE : FnR P w K mg base CX0 3 gE (spEqE K C))
    (pL : Pp P w K mg base D "left" "_left") (pR : Pp P w K mg base D "right" "_right") : FnOk P w K mg base CX0 4 f fd ["self", "other"] (spEqF C D) := by
  refine F.ok scEqF (fun vs H Q E h => ?_) (fun cdv A outer s H vs Q E hr h => ?_)
  · obtain ⟨p, q, a, b, c, d, t, u, t', u', rfl, _⟩ := h
    rfl
  · obtain ⟨p, q, a, b, c, d, t, u, t', u', rfl, m, m', qq⟩ := h
    obtain ⟨dx, h⟩ := m.at_
    obtain ⟨dy, k⟩ := m'.at_
    obtain ⟨dx1, v1, fl1, ys1, h1, _⟩ := m.l.at_
    obtain ⟨dx2, v2, fl2, ys2, h2, _⟩ := m.r.at_
    refine ⟨_, pss_one (ps_ret (pe_and (pe_callB call_isi (by rfl) T.isinstance (by decide +kernel) (pa_cons (pv 1) (pa_cons (pe_glob (v := .ref D) (by rfl) M.g rfl) pa_nil)))
      (pe_and (pe_cmpR (op_eqX mE FE hr) (pe_fld (pv 0) rfl) (pe_pp pL (pv 1) (hr.mono (by decide)) rfl) (nomark _)) (pe_one (pe_cmpR (op_eqX mE FE hr) (pe_fld (pv 0) rfl) (pe_pp pR (pv 1) (hr.mono (by decide)) rfl) (nomark _)))))), ?_⟩
    refine ⟨_, rfl, _, _, _, _, true, rfl, .own D, fac_ty M I m', I.yes, true, rfl, iteT ?_⟩
    refine ⟨_, rfl, p, D, dx, _, _, rfl, h, M.cl, M.nL, ff_left a b, _, rfl, q, dy, _, rfl, k, q, dy, _, _, rfl, k, ff_left c d, a, dx1, _, _, rfl, h1, exp_ty ME IE m'.l, nf, a, t, _, rfl, m.l, .inl ⟨c, t', rfl, m'.l, _, rfl, ?_⟩⟩
    refine ⟨_, rfl, ?_⟩
    cases e1 : PyData.eqv t.dat t'.dat with
    | false =>
      rw [e1] at qq
      exact iteF qq
    | true =>
      rw [e1] at qq
      refine iteT ⟨_, rfl, p, D, dx, _, _, rfl, h, M.cl, M.nR, ff_right a b, _, rfl, q, dy, _, rfl, k, q, dy, _, _, rfl, k, ff_right c d, b, dx2, _, _, rfl, h2, exp_ty ME IE m'.r, nf, b, u, _, rfl, m.r, .inl ⟨d, u', rfl, m'.r, _, rfl, qq⟩⟩
end
end K1
/-! joined and sorted texts -/
namespace K1
open PySem PySem.Spec
open PyProof.Rows L2
def NotLt (a b : Str) : Prop := ¬ (b.cps.toList < a.cps.toList)
theorem notLt_of {a b : Str} (h : (!ltCps b.cps.toList a.cps.toList) = true) : NotLt a b := by
  rw [ltCps_eq] at h
  simpa [NotLt] using h
theorem notLt_trans {a b c : Str} (h1 : NotLt a b) (h2 : NotLt b c) : NotLt a c := by
  have h1 : a.cps.toList ≤ b.cps.toList := List.not_lt.mp h1
  have h2 : b.cps.toList ≤ c.cps.toList := List.not_lt.mp h2
  exact List.not_lt.mpr (List.le_trans h1 h2)
theorem notLt_anti {a b : Str} (h1 : NotLt a b) (h2 : NotLt b a) : a = b := by
  have h1 : a.cps.toList ≤ b.cps.toList := List.not_lt.mp h1
  have h2 : b.cps.toList ≤ a.cps.toList := List.not_lt.mp h2
  exact TL.ext_tl (List.le_antisymm h1 h2)
theorem rising_pw : ∀ (r : List Str) (p : Str), risingS p r = true → (p :: r).Pairwise NotLt
  | [], p, _ => List.pairwise_cons.mpr ⟨fun _ h => (by cases h), List.Pairwise.nil⟩
  | x :: r, p, h => by
    have h : (!ltCps x.cps.toList p.cps.toList && risingS x r) = true := h
    rw [Bool.and_eq_true] at h
    have ih := rising_pw r x h.2
    have h1 := notLt_of h.1
    refine List.pairwise_cons.mpr ⟨fun y hy => ?_, ih⟩
    rcases List.mem_cons.mp
        hy with e | e
    · rw [e]
      exact h1
    · exact notLt_trans h1 ((List.pairwise_cons.mp ih).1 y e)
theorem sorted_pw {xs : List Str} (h : sortedS xs = true) : xs.Pairwise NotLt := by
  cases xs with
  | nil => exact List.Pairwise.nil
  | cons x r => exact rising_pw r x h
theorem sorted_uniq {xs ys : List Str} (hx : sortedS xs = true) (hy : sortedS ys = true) (nx : xs.Nodup) (ny : ys.Nodup) (m : ∀ z, z ∈ xs ↔ z ∈ ys) : xs = ys :=
  List.Perm.eq_of_pairwise (le := NotLt) (fun a b _ _ h1 h2 => notLt_anti h1 h2) (sorted_pw hx) (sorted_pw hy) ((List.perm_ext_iff_of_nodup nx ny).mpr m)
end K1

namespace K1
open PySem PySem.Spec
open PyProof.Rows L2 EnT StX SmX TxS DuX
/-! ### the law: one expression -/
section
variable {w : World} {P : Program} {base : Heap} {mg : Str → Option Value} {K : PySem.W.Frag}
theorem fnG_of {k : Nat} {x : Str} {st : Stmt} {f c : Addr} {N ps : List Str} {sp : Sp} (F : FunC K x x st f c) (S : FnScope N ps (defScope st)) (B : ∀ (kV doc pm : Value) (an : Option Addr) (ct : Value), L2.Binds K (PySem.W.fnOf x x (defArgs st) (defBody st) (defScope st) .none kV doc pm an (.ref c) ct) ps [])
    (len : ∀ vs H Q E, sp vs H Q E → vs.length = ps.length)
    (body : ∀ (A : Around) (outer : List Env) (s : Shared) (H : Hp) (vs : List V) (Q : VK) (E : XK), A.guards = some [] → Room k (A.deeper (envOfC x (defScope st) s.heap.objs.size f (.ref c))) → sp vs H Q E →
      ∃ t, PSs (cxOf CX0 P w K mg base N x (defScope st) f (.ref c) A outer s H E).nox (defBody st) t ∧ t { nx := fun _ H' => Q .non H', rt := Q } (L2.start N vs) H) : FnG P w K mg base CX0 (k + 1) f sp := by
  intro A outer s H us vs Q E hgd hr e0 r h
  obtain ⟨oc, od, kV, doc, pm, an, ct, osl, lk, hcd⟩ := F.ex
  have hl := len _ _ _ _ h
  refine LamX.run_ofS (N := N) (ps := ps) (us := us) (vs := vs) lk hcd S hr e0 ?_ r hl fun hr' => ?_
  · have hlu : us.length = ps.length := by rw [← r.length]; exact hl
    have z := B kV doc pm an ct s us (e0.mod.kin.keeps fun b o e => (e0.bs b o e).1) (by rw [List.append_nil]; exact hlu)
    rw [List.append_nil] at z
    exact z
  · obtain ⟨t, ht, hq⟩ := body A outer s H vs Q E hgd hr' h
    exact ⟨t, ht.nox, hq⟩
end
theorem plain_low {z : Str} (h : ∀ c ∈ z.cps.toList, c < 128) : RpD.plainD (.str z) = true := by
  show (z.cps.toList.all fun c => decide (c < 16 ^ 8)) = true
  refine List.all_eq_true.mpr fun c hc => decide_eq_true ?_
  have := h c hc
  omega
theorem sign_low {z : Str} (h : z ∈ signs) : ∀ c ∈ z.cps.toList, c < 128 := by
  simp only [signs, List.mem_cons, List.not_mem_nil, or_false] at h
  rcases h with rfl | rfl | rfl | rfl <;> decide +kernel
theorem Fm.plain : ∀ {t : Fm}, t.Ok → RpD.plainD t.dat = true ∧ RpD.wide t.dat + 30 ≤ 130 * t.nl
  | .leaf z, h => by
    have hl := name_short (show nameB z = true from h)
    refine ⟨plain_low (name_low h), ?_⟩
    show 10 * z.length + 2 + 30 ≤ 130 * 1
    omega
  | .node s l r, h => by
    obtain ⟨p1, w1⟩ := Fm.plain h.2.1
    obtain ⟨p2, w2⟩ := Fm.plain h.2.2
    have sl := (sign_ok h.1).1
    refine ⟨?_, ?_⟩
    · show (RpD.plainD (.str s) && (RpD.plainD l.dat && (RpD.plainD r.dat && true))) = true
      rw [plain_low (sign_low h.1), p1, p2]
      rfl
    · rw [Fm.nl_node]
      show (10 * s.length + 2) + 2 + (RpD.wide l.dat + 2 + (RpD.wide r.dat + 2 + 0)) + 3 + 30 ≤ _
      omega
theorem plain_strs : ∀ {zs : List Str}, (∀ z ∈ zs, nameB z = true) → RpD.plainAll (strD zs) = true ∧ RpD.wideAll (strD zs) ≤ 90 * zs.length
  | [], _ => ⟨rfl, Nat.le_refl _⟩
  | z :: r, h => by
    obtain ⟨a, b⟩ := plain_strs (zs := r) fun y hy => h y (List.mem_cons_of_mem _ hy)
    have hz := h z List.mem_cons_self
    have hl := name_short hz
    refine ⟨?_, ?_⟩
    · show (RpD.plainD (.str z) && RpD.plainAll (strD r)) = true
      rw [plain_low (name_low hz), a]
      rfl
    · show 10 * z.length + 2 + 2 + RpD.wideAll (strD r) ≤ 90 * (r.length + 1)
      omega
end K1

namespace K1
open PySem PySem.Spec
open PyProof.Rows L2 EnT StX SmX TxS DuX ClX
/-- what the law's defs call -/
structure Ex (P : Program) (w : World) (K : PySem.W.Frag) (mg : Str → Option Value) (base : Heap) (C D : Addr) (mc : Value) : Prop where
  T : Free mg
  M : ExpC K mg C
  I : IsC K C
  cr : CRead K C mc
  mkE : ∃ f fd gg, Mk K C f ∧ FnR P w K mg base CX0 8 f (spInitE C) ∧ FnOk P w K mg base CX0 8 f fd ["self", "form"] (spInitE C) ∧ KBn K fd ["self", "form"] 1 ["form"] gg fun vs zs => vs ++ zs
  read : ∃ p g fd gg, SMet K C mc "read" p g ∧ TkX.FnT P w K mg base 10 g fd ["text"] (spReadE C) ∧ L2.Binds K fd ["text"] [] ∧ KBn K fd ["text"] 0 ["text"] gg fun _ zs => zs
  pF : Pp P w K mg base C "form" "_form"
  pL : Pp P w K mg base C "leaves" "_leaves"
  pD : Pp P w K mg base C "depth" "_depth"
  pS : Pp P w K mg base C "fields" "_fields"
  pG : Pp P w K mg base C "has_given" "_has_given"
  str : ∃ g, OwnM K C "__str__" g ∧ FnR P w K mg base CX0 13 g (spStrE C)
  rep : ∃ g, OwnM K C "__repr__" g ∧ FnR P w K mg base CX0 1 g (spReprE C)
  eq : ∃ g, OwnM K C "__eq__" g ∧ FnR P w K mg base CX0 3 g (spEqE K C)
  nf : PySem.W.notFirst K C (.ref C) = true
  words : ∃ f, Has P w K mg base CX0 6 "_law_words" f ["_law_shape"] (spLeaves 6)
  deep : ∃ f, Has P w K mg base CX0 6 "_law_deep" f ["_law_shape"] (spDeep 6)
  line : ∃ f, Has P w K mg base CX0 6 "_law_line" f ["_law_shape", "_law_inside"] (spLine 6)
abbrev nmOne : List Str := ["_law_shape", "_law_made", "_law_words_here", "_law_tags", "_law_told", "_law_due", "_law_word"]
def spOne : Sp := fun vs H Q _ => ∃ (v : V) (t : Fm), vs = [v] ∧ FmAt H v t ∧ t.Ok ∧ t.dep ≤ 5 ∧ ∀ H', Same H H' → Q (.bl true) H'
theorem makeE_at {C x dx : Addr} {H : Hp} {v : V} {t : Fm} {R : VK} {E : XK} (hm : FmAt H v t) (ok : t.Ok) (hd : t.dep ≤ 6) (nx : H x = none) (nd : H dx = none) (ne : dx ≠ x) (q : ∀ H', Same H H' → ExpAt C H' x t → R .non H') : spInitE C [.ref x, v] (upd (upd H dx (.own x)) x (.ins C dx [])) R E := by
  have s1 : Same H (upd H dx (.own x)) := same_upd nd
  have nx1 : (upd H dx (.own x)) x = none := by rw [upd_ne (Ne.symm ne)]; exact nx
  have s2 : Same (upd H dx (.own x)) (upd (upd H dx (.own x)) x (.ins C dx [])) := same_upd nx1
  refine ⟨x, dx, v, t, rfl, upd_same, hm.same (s1.trans s2), ok, hd, fun H' k e => q H' (fun b o hb => k b o (fun z => ?_) ((s1.trans s2) b o hb)) e⟩
  rw [z, nx] at hb
  cases hb
def oneD (t : Fm) (ts : List Str) : PyData := .list [t.dat, .int (t.nl : Nat), .int (t.dep : Nat), .tuple (strD ts), .bool (decide (tGiven ∈ t.lvs)), .str (t.txt false), .str (expText t)]
theorem expText_eq (t : Fm) : expText t = ("Expression(" : Str) ++ (toString (t.nl : Int) : Str) ++ (" leaves)" : Str) := by
  unfold expText
  rw [empty_app]
theorem num_all : ((List.range 1000).all fun n => (toString (n : Int) : Str).cps.toList.all fun c => decide (c < 128)) = true := by decide +kernel
theorem num_low {n : Nat} (h : n < 1000) : ∀ c ∈ (toString (n : Int) : Str).cps.toList, c < 128 := fun c hc =>
  of_decide_eq_true (List.all_eq_true.mp ((List.all_eq_true.mp num_all) n (List.mem_range.mpr h)) c hc)
theorem low_app {x y : Str} (hx : ∀ c ∈ x.cps.toList, c < 128) (hy : ∀ c ∈ y.cps.toList, c < 128) : ∀ c ∈ (x ++ y).cps.toList, c < 128 := by
  intro c hc
  have e : (x ++ y).cps.toList = x.cps.toList ++ y.cps.toList := TL.tl_append x y
  rw [e] at hc
  rcases List.mem_append.mp hc with q | q
  · exact hx c q
  · exact hy c q
theorem txt_low : ∀ (b : Bool) {t : Fm}, t.Ok → ∀ c ∈ (t.txt b).cps.toList, c < 128
  | b, .leaf z, h => by
    have e : (Fm.leaf z).txt b = z := by cases b <;> rfl
    rw [e]
    exact name_low h
  | b, .node s l r, h => by
    have a := txt_low true h.2.1
    have d := txt_low true h.2.2
    have g := sign_low h.1
    have sp : ∀ c ∈ (" " : Str).cps.toList, c < 128 := by decide +kernel
    have op : ∀ c ∈ ("(" : Str).cps.toList, c < 128 := by decide +kernel
    have cl : ∀ c ∈ (")" : Str).cps.toList, c < 128 := by decide +kernel
    have m := low_app (low_app (low_app (low_app a sp) g) sp) d
    cases b
    · exact m
    · exact low_app (low_app op m) cl
theorem one_shows {t : Fm} {ts : List Str} (ok : t.Ok) (hd : t.dep ≤ 6) (nm : ∀ z ∈ ts, nameB z = true) (hl : ts.length ≤ 32) : RpD.Shows (oneD t ts) := by
  have nl := nl32 hd
  obtain ⟨p1, w1⟩ := Fm.plain ok
  obtain ⟨p2, w2⟩ := plain_strs nm
  have lx := txt_len false t ok
  have e1 : ("Expression(" : Str).length = 11 := by decide +kernel
  have e2 : (" leaves)" : Str).length = 8 := by decide +kernel
  have e3 : (toString (t.nl : Int) : Str).length ≤ 5 := RpD.shown_int (by omega)
  have le : (expText t).length ≤ 24 := by
    rw [expText_eq, strLen_append, strLen_append, e1, e2]
    omega
  have pe : RpD.plainD (.str (expText t)) = true := by
    rw [expText_eq]
    exact plain_low (low_app (low_app (by decide +kernel) (num_low (by omega))) (by decide +kernel))
  have i1 : RpD.plainD (.int (t.nl : Nat)) = true := decide_eq_true ⟨by omega, by omega⟩
  have i2 : RpD.plainD (.int (t.dep : Nat)) = true := decide_eq_true ⟨by omega, by omega⟩
  refine RpD.Shows.of ?_ ?_ ?_
  · show (RpD.plainD t.dat && (RpD.plainD (.int (t.nl : Nat)) && (RpD.plainD (.int (t.dep : Nat)) && (RpD.plainAll (strD ts) && (true && (RpD.plainD (.str (t.txt false)) && (RpD.plainD (.str (expText t)) && true))))))) = true
    rw [p1, i1, i2, p2, plain_low (txt_low false ok), pe]
    rfl
  · have := Fm.ddep t
    have := strD_depth ts
    simp only [oneD, PyData.depth, PyData.depthAll]
    omega
  · show RpD.wide t.dat + 2 + (5 + 2 + (5 + 2 + (RpD.wideAll (strD ts) + 3 + 2 + (5 + 2 + (10 * (t.txt false).length + 2 + 2 + (10 * (expText t).length + 2 + 2 + 0)))))) + 3 ≤ 16000000
    omega
section
variable {w : World} {P : Program} {base : Heap} {mg : Str → Option Value} {K : PySem.W.Frag} {C D : Addr} {mc : Value}
theorem scOne : FnScope nmOne ["_law_shape"] (defScope sOne) := ⟨rfl, rfl, rfl, by decide +kernel, rfl, by decide +kernel, by decide +kernel⟩
theorem ok_one {f c : Addr} (F : FunC K "_law_one_right" "_law_one_right" sOne f c) (W : Ex P w K mg base C D mc) : FnG P w K mg base CX0 16 f spOne := by
  have T := W.T
  have M := W.M
  obtain ⟨fI, fdI, ggI, MK, FI, _, _⟩ := W.mkE
  obtain ⟨pR, gR, fdR, ggR, sm, FR, bR, kR⟩ := W.read
  obtain ⟨gS, mS, FS⟩ := W.str
  obtain ⟨gP, mP, FP⟩ := W.rep
  obtain ⟨gE, mE, FE⟩ := W.eq
  obtain ⟨fW, hW⟩ := W.words
  obtain ⟨fD, hD⟩ := W.deep
  obtain ⟨fL, hL⟩ := W.line
  refine fnG_of F scOne (fun kV doc pm an ct => .all fun us hl => match us, hl with | [_], _ => rfl) (fun vs H Q E h => ?_) fun A outer s H vs Q E hgd hr h => ?_
  · obtain ⟨v, t, rfl, _⟩ := h
    rfl
  · obtain ⟨v, t, rfl, hm, ok, hd, q⟩ := h
    have hun := hr.un
    refine ⟨_, pss_cons (ps_par (i := 1) (j := 2) rfl scOne.nd rfl rfl (by decide) rfl rfl (pa_cons (pe_makeR MK FI (hr.mono (by decide)) (by rfl) M.g pass0 (pa_cons (pv 0) pa_nil)) (pa_cons (pe_has hW (hr.mono (by decide)) (by rfl) pass0 (pa_cons (pv 0) pa_nil)) pa_nil)) (by rfl))
      (pss_cons (ps_set (i := 3) scOne.nd rfl (.inl rfl) (pe_sortSet rfl (by rfl) T.sorted (by rfl) T.set (pe_lc (own := [("_law_word", 6)]) (g := gName 6) (tt := tTest (tOp (rIn K true) (tVar 6) (tLst (tCons (tC (.str tGiven)) (tCons (tC (.str tNone)) tNil))))) rfl scOne.nd (pi_list (pv 2))
            (blkOk_by (own := [("_law_word", 6)]) (N := nmOne) (sc := defScope sOne) (by decide +kernel)) (fun _ _ _ _ _ => pg_name (i := 6) scOne.nd rfl (Or.inl rfl))
            (fun _ _ _ _ _ => pts_one (pt_cmpR op_notIn_seq (pv 6) (pe_lst (pa_cons pe_str (pa_cons pe_str pa_nil))) (by rfl))) (fun _ _ _ _ _ => pe_callTy SkE.call_str_str (by rfl) T.str (by decide +kernel) (pa_cons (pv 6) pa_nil)))))
      (pss_cons (ps_set (i := 4) scOne.nd rfl (.inl rfl) (pe_lst (pa_cons (pe_pp W.pF (pv 1) (hr.mono (by decide)) rfl) (pa_cons (pe_pp W.pL (pv 1) (hr.mono (by decide)) rfl) (pa_cons (pe_pp W.pD (pv 1) (hr.mono (by decide)) rfl) (pa_cons (pe_pp W.pS (pv 1) (hr.mono (by decide)) rfl) (pa_cons (pe_pp W.pG (pv 1) (hr.mono (by decide)) rfl)
          (pa_cons (pe_callTy (call_strO mS FS hr pass0) (by rfl) T.str (by decide +kernel) (pa_cons (pv 1) pa_nil)) (pa_cons (pe_callB (call_reprO mP FP (hr.mono (by decide)) pass0) (by rfl) T.repr (by decide +kernel) (pa_cons (pv 1) pa_nil)) pa_nil)))))))))
      (pss_cons (ps_set (i := 5) scOne.nd rfl (.inl rfl) (pe_lst (pa_cons (pv 0) (pa_cons (pe_callB call_len_seq (by rfl) T.len PySem.boot_len (pa_cons (pv 2) pa_nil)) (pa_cons (pe_has hD (hr.mono (by decide)) (by rfl) pass0 (pa_cons (pv 0) pa_nil)) (pa_cons (pe_callTy call_tuple_of (by rfl) T.tuple (by decide +kernel) (pa_cons (pv 3) pa_nil))
          (pa_cons (pe_cmpR op_in_seq pe_str (pv 2) (by rfl)) (pa_cons (pe_has hL (hr.mono (by decide)) (by rfl) pass0 (pa_cons (pv 0) (pa_cons pe_bl pa_nil))) pa_nil))))))))
      (pss_cons (ps_if (pt_cmpR op_ne (pe_callB (RpD.call_reprD (by exact hgd) (by show A.units + 3 + 100 < cLine; have e : (A.deeper (envOfC "_law_one_right" (defScope sOne) s.heap.objs.size f (.ref c))).units = A.units + 3 := rfl; omega)) (by rfl) T.repr (by decide +kernel) (pa_cons (pv 4) pa_nil))
            (pe_callB (RpD.call_reprD (by exact hgd) (by show A.units + 3 + 100 < cLine; have e : (A.deeper (envOfC "_law_one_right" (defScope sOne) s.heap.objs.size f (.ref c))).units = A.units + 3 := rfl; omega)) (by rfl) T.repr (by decide +kernel) (pa_cons (pe_op op_cat (pv 5) (pe_lst (pa_cons (pe_op op_add_str (pe_op op_add_str pe_str (pe_callTy call_str_int (by rfl) T.str (by decide +kernel) (pa_cons (pe_callB call_len_seq (by rfl) T.len PySem.boot_len (pa_cons (pv 2) pa_nil)) pa_nil))) pe_str) pa_nil))) pa_nil)) (nomark _)) pss_never pss_nil)
      (pss_one (ps_ret (pe_and (pe_cmpR (op_eqX mE FE (hr.mono (by decide))) (TkX.pe_smT (pe_glob (v := .ref C) (by rfl) M.g rfl) W.cr sm FR bR (hr.mono (by decide)) (pa_cons (pe_callTy (call_strO mS FS hr pass0) (by rfl) T.str (by decide +kernel) (pa_cons (pv 1) pa_nil)) pa_nil)) (pv 1) (nomark _))
          (pe_one (pe_cmpR (op_eqD (by show A.units + 3 + 64 < cLine; have e : (A.deeper (envOfC "_law_one_right" (defScope sOne) s.heap.objs.size f (.ref c))).units = A.units + 3 := rfl; omega)) (pe_pp W.pF (TkX.pe_smKT (pe_glob (v := .ref C) (by rfl) M.g rfl) W.cr sm FR kR (hr.mono (by decide)) (pk_cons (pe_callTy (call_strO mS FS hr pass0) (by rfl) T.str (by decide +kernel) (pa_cons (pv 1) pa_nil)) pk_nil)) (hr.mono (by decide)) rfl) (pv 0) (nomark _)))))))))), ?_⟩
    have nl : t.nl ≤ 32 := nl32 (by omega)
    have lt : t.lvs.length ≤ 32 := nl
    refine ⟨_, rfl, fun p dxp np ndp nep => makeE_at hm ok (by omega) np ndp nep fun H1 s1 m1 => ⟨rfl, ?_⟩⟩
    refine ⟨_, rfl, v, t, rfl, hm.same s1, by omega, by omega, fun wl H2 n2 s2 h2 => ?_⟩
    refine ⟨_, _, rfl, ?_⟩
    -- the names of fields
    refine ⟨_, rfl, wl, rfl, ⟨_, SqL.of h2⟩, fun D1 nD => lc_grow (K := K) (a := wl) (xs := t.lvs.map V.str) (outF t.lvs fieldB) (fun H' e => SqL.of (e _ _ h2)) nD rfl (fun i x H' hx e1 e2 => ?_) (fun x H' R R' h hh => h _ _ hh) (fun s h R R' k hh => ?_) (fun s h R R' k hh => ?_) fun H3 s3 h3 => ?_⟩
    · obtain ⟨z, hz, rfl⟩ := str_at hx
      refine ⟨rfl, _, rfl, (by show 2 ≤ sizeLine; decide), fun a na => ⟨a, _, rfl, .inl (SqL.of upd_same), rfl, rfl, _, rfl, ?_⟩⟩
      have s9 : Same H' (upd H' a (.lst [.str tGiven, .str tNone])) := same_upd na
      have z2 : (if true = true then !inV (.str z) [V.str tGiven, V.str tNone] else inV (.str z) [V.str tGiven, V.str tNone]) = fieldB z := by
        have := inV_mem z [tGiven, tNone]
        show (!inV (.str z) ([tGiven, tNone].map V.str)) = _
        rw [this]
        unfold fieldB
        by_cases h1 : z = tGiven <;> by_cases h2 : z = tNone <;> simp [h1, h2]
      rw [z2]
      cases hf : fieldB z with
      | true => exact iteT ⟨_, rfl, z, rfl, e1.trans s9, s9 _ _ e2, outF_len (by omega), outF_yes hz hf⟩
      | false => exact iteF ⟨e1.trans s9, by rw [outF_no hz hf]; exact s9 _ _ e2⟩
    · obtain ⟨v', e, l2, q⟩ := hh
      exact ⟨v', e, l2, fun a na => by
        obtain ⟨p', xs, e1, hq, f1, f2, k1, e2, r⟩ := q a na
        exact ⟨p', xs, e1, hq, f1, f2, k1, e2, k _ _ r⟩⟩
    · obtain ⟨v', e, a, e2, r⟩ := hh
      exact ⟨v', e, a, e2, k _ _ r⟩
    rw [outF_end (List.length_map ..)] at h3
    have lF := List.length_filter_le fieldB t.lvs
    refine ⟨D1, t.lvs.filter fieldB, rfl, .inl (SqL.of h3), by omega, fun ts tl srt nd mem lts ntl => ?_⟩
    have s4 : Same H3 (upd H3 tl (.lst (ts.map V.str))) := same_upd ntl
    have h4 : (upd H3 tl (.lst (ts.map V.str))) tl = some (.lst (ts.map V.str)) := upd_same
    generalize (upd H3 tl (.lst (ts.map V.str))) = H4 at s4 h4 ⊢
    have s14 := (s2.trans s3).trans s4
    have m4 := m1.same s14
    have hm4 := hm.same (s1.trans s14)
    have w4 := (s3.trans s4) _ _ h2
    obtain ⟨dx, v0, fl, ys, k1, k2, k3, srt2, nd2, mem2⟩ := m4.at_
    have eT : ts = ys := sorted_uniq srt srt2 nd nd2 fun z => ((mem z).trans (by rw [List.mem_filter])).trans (mem2 z).symm
    subst eT
    -- what is told
    refine ⟨_, rfl, p, dx, _, rfl, k1, p, dx, _, _, rfl, k1, ef_form v0 t fl, ?_⟩
    refine ⟨_, rfl, p, dx, _, rfl, k1, p, dx, _, _, rfl, k1, ef_leaves v0 t fl, ?_⟩
    refine ⟨_, rfl, p, dx, _, rfl, k1, p, dx, _, _, rfl, k1, ef_depth v0 t fl, ?_⟩
    refine ⟨_, rfl, p, dx, _, rfl, k1, p, dx, _, _, rfl, k1, ef_fields v0 t fl, ?_⟩
    refine ⟨_, rfl, p, dx, _, rfl, k1, p, dx, _, _, rfl, k1, ef_given v0 t fl, ?_⟩
    refine ⟨_, rfl, p, dx, _, rfl, k1, p, t, rfl, m4, _, rfl, ?_⟩
    refine ⟨_, rfl, p, dx, _, rfl, k1, p, t, rfl, m4, _, rfl, ?_⟩
    refine ⟨(by show 7 ≤ sizeLine; decide), fun L nL => ?_⟩
    have s5 : Same H4 (upd H4 L (.lst [v0, .int (t.nl : Nat), .int (t.dep : Nat), .ref fl, .bl (decide (tGiven ∈ t.lvs)), .str (t.txt false), .str (expText t)])) := same_upd nL
    have h5 : (upd H4 L (.lst [v0, .int (t.nl : Nat), .int (t.dep : Nat), .ref fl, .bl (decide (tGiven ∈ t.lvs)), .str (t.txt false), .str (expText t)])) L = some (.lst [v0, .int (t.nl : Nat), .int (t.dep : Nat), .ref fl, .bl (decide (tGiven ∈ t.lvs)), .str (t.txt false), .str (expText t)]) := upd_same
    generalize (upd H4 L (.lst [v0, .int (t.nl : Nat), .int (t.dep : Nat), .ref fl, .bl (decide (tGiven ∈ t.lvs)), .str (t.txt false), .str (expText t)])) = H5 at s5 h5 ⊢
    have w5 := s5 _ _ w4
    have hm5 := hm4.same s5
    have t5 := s5 _ _ h4
    -- what is due
    refine ⟨_, rfl, _, rfl, wl, _, rfl, .inl (SqL.of w5), ?_⟩
    rw [List.length_map]
    refine ⟨_, rfl, v, t, rfl, hm5, by omega, ?_⟩
    refine ⟨_, rfl, tl, _, rfl, .inl ⟨SqL.of t5, fun tp ntp => ?_⟩⟩
    have s6 : Same H5 (upd H5 tp (.tup (ts.map V.str))) := same_upd ntp
    have h6 : (upd H5 tp (.tup (ts.map V.str))) tp = some (.tup (ts.map V.str)) := upd_same
    generalize (upd H5 tp (.tup (ts.map V.str))) = H6 at s6 h6 ⊢
    refine ⟨_, rfl, wl, _, rfl, .inl (SqL.of (s6 _ _ w5)), rfl, strs_flat _, ?_⟩
    rw [if_neg (show ¬ (false = true) by decide), inV_mem]
    refine ⟨_, rfl, v, t, false, rfl, hm5.same s6, ok, by omega, by omega, (by show 6 ≤ sizeLine; decide), fun L2 nL2 => ?_⟩
    have s7 : Same H6 (upd H6 L2 (.lst [v, .int (t.lvs.length : Nat), .int (t.dep : Nat), .ref tp, .bl (decide (tGiven ∈ t.lvs)), .str (t.txt false)])) := same_upd nL2
    have h7 : (upd H6 L2 (.lst [v, .int (t.lvs.length : Nat), .int (t.dep : Nat), .ref tp, .bl (decide (tGiven ∈ t.lvs)), .str (t.txt false)])) L2 = some (.lst [v, .int (t.lvs.length : Nat), .int (t.dep : Nat), .ref tp, .bl (decide (tGiven ∈ t.lvs)), .str (t.txt false)]) := upd_same
    generalize (upd H6 L2 (.lst [v, .int (t.lvs.length : Nat), .int (t.dep : Nat), .ref tp, .bl (decide (tGiven ∈ t.lvs)), .str (t.txt false)])) = H7 at s7 h7 ⊢
    have s57 := s6.trans s7
    have S := one_shows (ts := ts) ok (by omega) (fun z hz => ok.names z ((mem2 z).mp hz).1) (by omega)
    have D1 : Dp K H7 (.ref L) (oneD t ts) := .lst (SqL.of (s57 _ _ h5)) (.cons (k2.same (s5.trans s57)).dp (.cons (.int _) (.cons (.int _) (.cons (.tup (SqT.of ((s5.trans s57) _ _ k3)) (dpAll_str ts)) (.cons (.bl _) (.cons (.str _) (.cons (.str _) .nil)))))))
    refine ⟨_, rfl, .ref L, oneD t ts, rfl, D1, S, ?_⟩
    have w7 := s7 _ _ (s6 _ _ w5)
    have e1 : ("Expression(" : Str).length = 11 := by decide +kernel
    have e2 : (" leaves)" : Str).length = 8 := by decide +kernel
    have e3 : (toString (t.nl : Int) : Str).length ≤ 5 := RpD.shown_int (by omega)
    refine ⟨_, rfl, _, rfl, wl, _, rfl, .inl (SqL.of w7), ?_⟩
    rw [List.length_map]
    refine ⟨_, rfl, RpD.log_small (i := (t.lvs.length : Nat)) (by omega), _, _, rfl, rfl, (by rw [e1, sizeLine_eq]; have e3' : (toString (t.lvs.length : Int) : Str).length ≤ 5 := e3; omega), _, _, rfl, rfl, (by rw [strLen_append, e1, e2, sizeLine_eq]; have e3' : (toString (t.lvs.length : Int) : Str).length ≤ 5 := e3; omega), (by show 1 ≤ sizeLine; decide), fun L3 nL3 => ?_⟩
    have s8 : Same H7 (upd H7 L3 (.lst [.str (("Expression(" : Str) ++ (toString (t.lvs.length : Int) : Str) ++ (" leaves)" : Str))])) := same_upd nL3
    refine ⟨L2, L3, _, _, rfl, rfl, s8 _ _ h7, upd_same, (by show 6 + 1 ≤ sizeLine; decide), fun L4 nL4 => ?_⟩
    have s9 := s8.trans (same_upd (o := .lst ([v, .int (t.lvs.length : Nat), .int (t.dep : Nat), .ref tp, .bl (decide (tGiven ∈ t.lvs)), .str (t.txt false)] ++ [.str (("Expression(" : Str) ++ (toString (t.lvs.length : Int) : Str) ++ (" leaves)" : Str))])) nL4)
    have h9 : (upd (upd H7 L3 (.lst [.str (("Expression(" : Str) ++ (toString (t.lvs.length : Int) : Str) ++ (" leaves)" : Str))])) L4 (.lst ([v, .int (t.lvs.length : Nat), .int (t.dep : Nat), .ref tp, .bl (decide (tGiven ∈ t.lvs)), .str (t.txt false)] ++ [.str (("Expression(" : Str) ++ (toString (t.lvs.length : Int) : Str) ++ (" leaves)" : Str))]))) L4 = some (.lst ([v, .int (t.lvs.length : Nat), .int (t.dep : Nat), .ref tp, .bl (decide (tGiven ∈ t.lvs)), .str (t.txt false)] ++ [.str (("Expression(" : Str) ++ (toString (t.lvs.length : Int) : Str) ++ (" leaves)" : Str))])) := upd_same
    generalize (upd (upd H7 L3 (.lst [.str (("Expression(" : Str) ++ (toString (t.lvs.length : Int) : Str) ++ (" leaves)" : Str))])) L4 (.lst ([v, .int (t.lvs.length : Nat), .int (t.dep : Nat), .ref tp, .bl (decide (tGiven ∈ t.lvs)), .str (t.txt false)] ++ [.str (("Expression(" : Str) ++ (toString (t.lvs.length : Int) : Str) ++ (" leaves)" : Str))]))) = H9 at s9 h9 ⊢
    have s79 := s7.trans s9
    have D2 : Dp K H9 (.ref L4) (oneD t ts) := by
      unfold oneD
      rw [expText_eq]
      exact .lst (SqL.of h9) (.cons ((hm5.same s6).same s79).dp (.cons (.int _) (.cons (.int _) (.cons (.tup (SqT.of (s79 _ _ h6)) (dpAll_str ts)) (.cons (.bl _) (.cons (.str _) (.cons (.str _) .nil)))))))
    refine ⟨.ref L4, oneD t ts, rfl, D2, S, rfl, _, rfl, ?_⟩
    rw [decide_eq_true rfl]
    refine iteF ?_
    have s49 := s5.trans (s6.trans s79)
    have m9 := m4.same s49
    have hm9 := hm4.same s49
    have s09 := (s1.trans s14).trans s49
    -- read again
    have k9 := s49 _ _ k1
    refine ⟨rfl, _, rfl, p, dx, _, rfl, k9, p, t, rfl, m9, _, rfl, t, rfl, ok, by omega, fun r H10 nr sr mr => ?_⟩
    obtain ⟨dr, vr, flr, ysr, r1, r2, _⟩ := mr.at_
    have m10 := m9.same sr
    refine ⟨_, rfl, r, dr, _, _, rfl, r1, exp_ty M W.I m10, W.nf, r, t, _, rfl, mr, .inl ⟨p, t, rfl, m10, _, rfl, ?_⟩⟩
    refine ⟨_, rfl, ?_⟩
    rw [Fm.eqv_self ok]
    refine iteT ?_
    refine ⟨rfl, _, rfl, p, dx, _, rfl, sr _ _ k9, p, t, rfl, m10, _, rfl, rfl, t, rfl, ok, by omega, fun u H11 nu su mu => ?_⟩
    obtain ⟨du, vu, flu, ysu, u1, u2, _⟩ := mu.at_
    have hm11 := (hm9.same sr).same su
    refine ⟨u, du, _, rfl, u1, u, du, _, _, rfl, u1, ef_form vu t flu, _, rfl, t.dat, t.dat, u2.dp, hm11.dp, Fm.shaped ok (by omega), Fm.shaped ok (by omega), ?_⟩
    rw [Fm.eqv_self ok]
    exact q _ ((s09.trans sr).trans su)
end
end K1

namespace TkX
open PySem PySem.Spec PyProof.Rows L2
/-! lists of the same objects and of equal data -/
def SameIt (K : PySem.W.Frag) (H : Hp) (x y : V) : Prop := (∃ a, x = .ref a ∧ y = .ref a) ∨ ∃ d, Dp K H x d ∧ Dp K H y d ∧ SeqAt.shaped d = true ∧ PyData.eqv d d = true
section
variable {X : Cx} {pins : List (Addr × Obj)} {σ : L2.St} {H : Hp} {s : Shared}
theorem its_at (I : Inv X pins σ H s) {A : Around} (hu : A.units + 64 < cLine) : ∀ {xs ys : List V}, Paired (SameIt X.K H) xs ys → ∀ {us ws : List Value}, Vals xs us → Vals ys ws → ∀ j (h1 : j < us.length) (h2 : j < ws.length), SeqAt.EqAt A s us[j] ws[j] true := by
  intro xs ys hp
  induction hp with
  | nil =>
    intro us ws r1 r2 j h1 h2
    cases r1
    exact absurd h1 (Nat.not_lt_zero j)
  | cons h _ k =>
    intro us ws r1 r2 j h1 h2
    cases r1 with
    | cons a1 b1 =>
    cases r2 with
    | cons a2 b2 =>
    cases j with
    | succ j => exact k b1 b2 j (Nat.lt_of_succ_lt_succ h1) (Nat.lt_of_succ_lt_succ h2)
    | zero =>
      rcases h with ⟨a, rfl, rfl⟩ | ⟨d, d1, d2, sd, ee⟩
      · cases a1
        cases a2
        exact SeqAt.EqAt.same _
      · obtain ⟨as, q1⟩ := Dp.reads I d _ _ d1 a1
        obtain ⟨bs, q2⟩ := Dp.reads I d _ _ d2 a2
        have z := SeqAt.eqAt_reads d d A s _ _ as bs q1 q2 (SeqAt.canLay_of_shaped sd) (SeqAt.canLay_of_shaped sd) (SeqAt.room_of_shaped sd hu)
        rw [ee] at z
        exact z
end
def rNeIts (K : PySem.W.Frag) : R2 := fun x y H Q => ∃ a b xs ys, x = .ref a ∧ y = .ref b ∧ SqL K H a xs ∧ SqL K H b ys ∧ Paired (SameIt K H) xs ys ∧ Q (.bl false) H
theorem paired_len {F : V → V → Prop} {xs ys : List V} (h : Paired F xs ys) : xs.length = ys.length := by
  induction h with
  | nil => rfl
  | cons _ _ k => rw [List.length_cons, List.length_cons, k]
theorem op_neIts {X : Cx} (hu : X.A.units + 66 < cLine) : OpR X (compareOp .NotEq) (rNeIts X.K) := by
  intro pins s σ H x y v u Q I rx ry h
  obtain ⟨a, b, xs, ys, rfl, rfl, hx, hy, hp, q⟩ := h
  cases rx
  cases ry
  obtain ⟨its, rv, p, hz⟩ := I.list hx
  obtain ⟨its2, rv2, p2, hz2⟩ := I.list hy
  have hl : its.toArray.size = its2.toArray.size := by
    have := paired_len hp
    rw [rv.length, rv2.length] at this
    simpa using this
  have hu1 : X.A.in1.units + 64 < cLine := by show X.A.units + 1 + 64 < cLine; omega
  refine SeqAt.RcNeAt.lists (e := fun _ => true) p.isList p2.isList hl (by omega) (fun j h1 h2 => ?_) X.prog X.w X.xe _ ⟨.bl false, H, I, ?_, q⟩
  · have z := its_at I (A := X.A.in1) hu1 hp rv rv2 j (by simpa using h1) (by simpa using h2)
    simpa using z
  · have e : (!(List.range its.toArray.size).all fun _ => true) = false := by simp
    rw [e]
    exact rfl
end TkX

namespace K1
open PySem PySem.Spec
open PyProof.Rows L2 EnT StX SmX TxS DuX ClX
abbrev uOr : Str := PySem.dunder Operator.BitOr.info.2
abbrev uAnd : Str := PySem.dunder Operator.BitAnd.info.2
abbrev uSub : Str := PySem.dunder Operator.Sub.info.2
abbrev uXor : Str := PySem.dunder Operator.BitXor.info.2
/-- .. and for two expressions -/
structure Ex2 (P : Program) (w : World) (K : PySem.W.Frag) (mg : Str → Option Value) (base : Heap) (C D : Addr) (mc : Value) : Prop where
  e : Ex P w K mg base C D mc
  J : IsC K D
  F : FacC K mg D
  dc : PySem.W.kitOne K (.ref D) (.ref C) = some false
  nfD : PySem.W.notFirst K C (.ref D) = true
  nfF : PySem.W.notFirst K D (.ref D) = true
  nfB : ∀ t ∈ baseTys, PySem.W.notFirst K C (.type t) = true
  sf : PySem.W.selfFirst K C = true
  neC : NeM K C
  neD : NeM K D
  or_ : ∃ g, OwnM K C uOr g ∧ FnR P w K mg base CX0 11 g (spOp C "|")
  and_ : ∃ g, OwnM K C uAnd g ∧ FnR P w K mg base CX0 11 g (spOp C "&")
  sub_ : ∃ g, OwnM K C uSub g ∧ FnR P w K mg base CX0 11 g (spOp C "-")
  xor_ : ∃ g, OwnM K C uXor g ∧ FnR P w K mg base CX0 11 g (spOp C "^")
  mkF : ∃ f, Mk K D f ∧ FnR P w K mg base CX0 2 f (spInitF C D)
  wi : ∃ g fd, Meth K C "within" g ∧ FnOk P w K mg base CX0 4 g fd ["self", "other"] (spWithin C D) ∧ L2.Binds K fd ["self", "other"] []
  eqF : ∃ g, OwnM K D "__eq__" g ∧ FnR P w K mg base CX0 4 g (spEqF C D)
  pLe : Pp P w K mg base D "left" "_left"
  pRi : Pp P w K mg base D "right" "_right"
  pFo : ∃ p g fd, PropOf K D "form" p g ∧ FnOk P w K mg base CX0 3 g fd ["self"] (spFormF C D) ∧ L2.Binds K fd ["self"] []
abbrev nmTwo : List Str := ["_law_low", "_law_high", "_law_first", "_law_second", "_law_told", "_law_fact", "_law_sign"]
def spTwo : Sp := fun vs H Q _ => ∃ (v1 v2 : V) (t u : Fm), vs = [v1, v2] ∧ FmAt H v1 t ∧ FmAt H v2 u ∧ t.Ok ∧ u.Ok ∧ t.dep ≤ 5 ∧ u.dep ≤ 5 ∧ ∀ H', Same H H' → Q (.bl true) H'
theorem fms_dp {K : PySem.W.Frag} {H : Hp} {vs : List V} {fs : List Fm} (h : Paired (FmAt H) vs fs) : DpAll K H vs (fs.map Fm.dat) := by
  induction h with
  | nil => exact .nil
  | cons h _ k => exact .cons h.dp k
theorem fms_same {H H' : Hp} (s : Same H H') {vs : List V} {fs : List Fm} (h : Paired (FmAt H) vs fs) : Paired (FmAt H') vs fs := by
  induction h with
  | nil => exact .nil
  | cons h _ k => exact .cons (h.same s) k
theorem fms_keep {H H' : Hp} (s : TupK H H') {vs : List V} {fs : List Fm} (h : Paired (FmAt H) vs fs) : Paired (FmAt H') vs fs := by
  induction h with
  | nil => exact .nil
  | cons h _ k => exact .cons (h.keep s) k
theorem fms_len {H : Hp} {vs : List V} {fs : List Fm} (h : Paired (FmAt H) vs fs) : vs.length = fs.length := by
  induction h with
  | nil => rfl
  | cons _ _ k => rw [List.length_cons, List.length_cons, k]
theorem fms_lay : ∀ {fs : List Fm}, (∀ t ∈ fs, t.Ok ∧ t.dep ≤ 6) → PyData.canLayAll0 (fs.map Fm.dat) = true ∧ PyData.depthAll (fs.map Fm.dat) ≤ 10
  | [], _ => ⟨rfl, by simp [PyData.depthAll]⟩
  | t :: r, h => by
    obtain ⟨a, b⟩ := fms_lay (fs := r) fun y hy => h y (List.mem_cons_of_mem _ hy)
    obtain ⟨ok, hd⟩ := h t List.mem_cons_self
    have := Fm.ddep t
    refine ⟨?_, ?_⟩
    · simp [PyData.canLayAll0, Fm.lay ok, a]
    · rw [List.map_cons]
      simp only [PyData.depthAll]
      omega
theorem fms_shaped {fs : List Fm} (h : ∀ t ∈ fs, t.Ok ∧ t.dep ≤ 6) : SeqAt.shaped (.list (fs.map Fm.dat)) = true ∧ PyData.eqv (.list (fs.map Fm.dat)) (.list (fs.map Fm.dat)) = true := by
  obtain ⟨a, b⟩ := fms_lay h
  have c : PyData.canLay0 (.list (fs.map Fm.dat)) = true := by simp only [PyData.canLay0]; exact a
  refine ⟨?_, SeqAt.eqv_refl _ c⟩
  show (PyData.canLay0 (.list (fs.map Fm.dat)) && decide (PyData.depth (.list (fs.map Fm.dat)) ≤ 64)) = true
  rw [c, Bool.true_and]
  simp only [PyData.depth]
  exact decide_eq_true (by omega)
theorem fms_tup {fs : List Fm} (h : ∀ t ∈ fs, t.Ok ∧ t.dep ≤ 6) : SeqAt.shaped (.tuple (fs.map Fm.dat)) = true ∧ PyData.eqv (.tuple (fs.map Fm.dat)) (.tuple (fs.map Fm.dat)) = true := by
  obtain ⟨a, b⟩ := fms_lay h
  have c : PyData.canLay0 (.tuple (fs.map Fm.dat)) = true := by simp only [PyData.canLay0]; exact a
  refine ⟨?_, SeqAt.eqv_refl _ c⟩
  show (PyData.canLay0 (.tuple (fs.map Fm.dat)) && decide (PyData.depth (.tuple (fs.map Fm.dat)) ≤ 64)) = true
  rw [c, Bool.true_and]
  simp only [PyData.depth]
  exact decide_eq_true (by omega)
theorem ef_within (v : V) (t : Fm) (fl : Addr) : (eflds v t fl).lookup ("within" : Str) = none := by
  unfold eflds
  rw [lookup_putF, if_neg (by decide +kernel), lookup_putF, if_neg (by decide +kernel), lookup_putF, if_neg (by decide +kernel), lookup_putF, if_neg (by decide +kernel), lookup_putF, if_neg (by decide +kernel)]
  rfl
theorem makeF_at {C D a b x dx : Addr} {H : Hp} {t u : Fm} {R : VK} {E : XK} (m1 : ExpAt C H a t) (m2 : ExpAt C H b u) (nx : H x = none) (nd : H dx = none) (ne : dx ≠ x) (q : ∀ H', Same H H' → FacAt C D H' x a b t u → R .non H') : spInitF C D [.ref x, .ref a, .ref b] (upd (upd H dx (.own x)) x (.ins D dx [])) R E := by
  have s1 : Same H (upd H dx (.own x)) := same_upd nd
  have nx1 : (upd H dx (.own x)) x = none := by rw [upd_ne (Ne.symm ne)]; exact nx
  have s2 : Same (upd H dx (.own x)) (upd (upd H dx (.own x)) x (.ins D dx [])) := same_upd nx1
  have no : ∀ {b : Addr} {o : HO}, H b = some o → x ≠ b := fun h z => by
    rw [← z, nx] at h
    cases h
  obtain ⟨_, _, _, _, h1, _⟩ := m1.at_
  obtain ⟨_, _, _, _, h2, _⟩ := m2.at_
  exact ⟨x, a, b, dx, t, u, rfl, upd_same, no h1, no h2, m1.same (s1.trans s2), m2.same (s1.trans s2), fun H' k e => q H' (fun b o hb => k b o (fun z => no hb z.symm) ((s1.trans s2) b o hb)) e⟩
theorem eqv_dec {t u : Fm} (h : t.Ok) : (PyData.eqv t.dat u.dat = true ∧ t = u) ∨ (PyData.eqv t.dat u.dat = false ∧ t ≠ u) := by
  cases e : PyData.eqv t.dat u.dat with
  | true => exact .inl ⟨rfl, Fm.eqv_eq e⟩
  | false =>
    refine .inr ⟨rfl, fun q => ?_⟩
    rw [← q, Fm.eqv_self h] at e
    cases e
section
variable {w : World} {P : Program} {base : Heap} {mg : Str → Option Value} {K : PySem.W.Frag} {C D : Addr} {mc : Value}
theorem scTwo : FnScope nmTwo ["_law_low", "_law_high"] (defScope sTwo) := ⟨rfl, rfl, rfl, by decide +kernel, rfl, by decide +kernel, by decide +kernel⟩
theorem ok_two {f c : Addr} (F : FunC K "_law_two_right" "_law_two_right" sTwo f c) (V2 : Ex2 P w K mg base C D mc) : FnG P w K mg base CX0 16 f spTwo := by
  have W := V2.e
  have T := W.T
  have M := W.M
  obtain ⟨fI, fdI, ggI, MK, FI, GI, kI⟩ := W.mkE
  obtain ⟨gE, mE, FE⟩ := W.eq
  obtain ⟨gS, mS, FS⟩ := W.str
  obtain ⟨g1, m1, F1⟩ := V2.or_
  obtain ⟨g2, m2, F2⟩ := V2.and_
  obtain ⟨g3, m3, F3⟩ := V2.sub_
  obtain ⟨g4, m4, F4⟩ := V2.xor_
  obtain ⟨fF, MF, FF⟩ := V2.mkF
  obtain ⟨gW, fdW, mW, FW, bW⟩ := V2.wi
  obtain ⟨gQ, mQ, FQ⟩ := V2.eqF
  obtain ⟨pO, gO, fdO, prO, FO, bO⟩ := V2.pFo
  refine fnG_of F scTwo (fun kV doc pm an ct => .all fun us hl => match us, hl with | [_, _], _ => rfl) (fun vs H Q E h => ?_) fun A outer s H vs Q E hgd hr h => ?_
  · obtain ⟨v1, v2, t, u, rfl, _⟩ := h
    rfl
  · obtain ⟨v1, v2, t, u, rfl, hm1, hm2, ok1, ok2, hd1, hd2, q⟩ := h
    have hun := hr.un
    have hu64 : (A.deeper (envOfC "_law_two_right" (defScope sTwo) s.heap.objs.size f (.ref c))).units + 66 < cLine := by
      have e : (A.deeper (envOfC "_law_two_right" (defScope sTwo) s.heap.objs.size f (.ref c))).units = A.units + 3 := rfl
      omega
    have hu4 : (A.deeper (envOfC "_law_two_right" (defScope sTwo) s.heap.objs.size f (.ref c))).units + 64 < cLine := by omega
    refine ⟨_, pss_cons (ps_par (i := 2) (j := 3) rfl scTwo.nd rfl rfl (by decide) rfl rfl (pa_cons (pe_makeR MK FI (hr.mono (by decide)) (by rfl) M.g pass0 (pa_cons (pv 0) pa_nil)) (pa_cons (pe_makeK0 MK GI (hr.mono (by decide)) (by rfl) M.g kI pass0 (pk_cons (pv 1) pk_nil)) pa_nil)) (by rfl))
      (pss_cons (ps_set (i := 4) scTwo.nd rfl (.inl rfl) (pe_lst (pa_cons (pe_pp W.pF (pe_op (op_binO m1 V2.sf F1 (hr.mono (by decide)) pass0) (pv 2) (pv 3)) (hr.mono (by decide)) rfl) (pa_cons (pe_pp W.pF (pe_op (op_binO m2 V2.sf F2 (hr.mono (by decide)) pass0) (pv 2) (pv 3)) (hr.mono (by decide)) rfl) (pa_cons (pe_pp W.pF (pe_op (op_binO m3 V2.sf F3 (hr.mono (by decide)) pass0) (pv 2) (pv 3)) (hr.mono (by decide)) rfl)
          (pa_cons (pe_pp W.pF (pe_op (op_binO m4 V2.sf F4 (hr.mono (by decide)) pass0) (pv 2) (pv 3)) (hr.mono (by decide)) rfl) pa_nil))))))
      (pss_cons (ps_if (pt_cmpR (op_neD (by exact hu4)) (pv 4) (pe_lc (own := [("_law_sign", 6)]) (g := gName 6) (tt := tYes) (te := tTup (tCons (tVar 6) (tCons (tVar 0) (tCons (tVar 1) tNil)))) rfl scTwo.nd (pi_list (pe_lst (pa_cons pe_str (pa_cons pe_str (pa_cons pe_str (pa_cons pe_str pa_nil))))))
            (blkOk_by (own := [("_law_sign", 6)]) (N := nmTwo) (sc := defScope sTwo) (by decide +kernel)) (fun _ _ _ _ _ => pg_name (i := 6) scTwo.nd rfl (Or.inl rfl)) (fun _ _ _ _ _ => pts_nil) (fun _ _ _ _ _ => pe_tup (pa_cons (pv 6) (pa_cons (pv 0) (pa_cons (pv 1) pa_nil))))) (nomark _)) pss_never pss_nil)
      (pss_cons (ps_set (i := 5) scTwo.nd rfl (.inl rfl) (pe_meth (pv 2) M.cl mW FW (hr.mono (by decide)) bW .nil pass0 (pa_cons (pv 3) pa_nil)))
      (pss_cons (ps_if (PW.pt (pw_or (pt_cmpR (op_neX mQ V2.neD FQ (hr.mono (by decide))) (pv 5) (pe_makeR MF FF (hr.mono (by decide)) (by rfl) V2.F.g pass0 (pa_cons (pv 2) (pa_cons (pv 3) pa_nil))) (nomark _))
          (pw_or1 (pt_cmpR (TkX.op_neIts hu64) (pe_lst (pa_cons (pe_pp V2.pLe (pv 5) (hr.mono (by decide)) rfl) (pa_cons (pe_pp V2.pRi (pv 5) (hr.mono (by decide)) rfl) (pa_cons (pe_prop (pv 5) V2.F.cl prO FO (hr.mono (by decide)) bO .nil pass0 rfl) pa_nil)))) (pe_lst (pa_cons (pv 2) (pa_cons (pv 3) (pa_cons (pe_tup (pa_cons (pv 0) (pa_cons (pv 1) pa_nil))) pa_nil)))) (nomark _))))) pss_never pss_nil)
      (pss_cons (ps_if (PW.pt (pw_or (pt_cmpR (op_eqX mE FE (hr.mono (by decide))) (pv 2) (pv 5) (nomark _)) (pw_or (pt_cmpR (op_eqX mE FE (hr.mono (by decide))) (pv 2) (pv 0) (nomark _)) (pw_or (pt_cmpR (op_eqX mE FE (hr.mono (by decide))) (pv 2) (pe_callTy (call_strO mS FS hr pass0) (by rfl) T.str (by decide +kernel) (pa_cons (pv 2) pa_nil)) (nomark _))
          (pw_or1 (pt_cmpR op_ne (pe_cmpR (op_eqX mE FE (hr.mono (by decide))) (pv 2) (pv 3) (nomark _)) (pe_cmpR (op_eqD (by exact hu4)) (pv 0) (pv 1) (nomark _)) (nomark _))))))) pss_never pss_nil)
      (pss_one (ps_ret (pe_and (pe_cmpR op_eq (pe_cmpR (op_neX mE V2.neC FE (hr.mono (by decide))) (pv 2) (pv 3) (nomark _)) (pe_cmpR (op_neD (by exact hu4)) (pv 0) (pv 1) (nomark _)) (nomark _))
          (pe_one (pe_cmpR (op_eqD (by exact hu4)) (pe_lst (pa_cons (pe_pp W.pF (pv 2) (hr.mono (by decide)) rfl) (pa_cons (pe_pp W.pF (pv 3) (hr.mono (by decide)) rfl) pa_nil))) (pe_lst (pa_cons (pv 0) (pa_cons (pv 1) pa_nil))) (nomark _))))))))))), ?_⟩
    refine ⟨_, rfl, fun p1 x1 np1 nx1 ne1 => makeE_at hm1 ok1 (by omega) np1 nx1 ne1 fun H1 s1 e1 => ⟨rfl, ?_⟩⟩
    refine ⟨_, rfl, rfl, rfl, fun p2 x2 np2 nx2 ne2 => makeE_at (hm2.same s1) ok2 (by omega) np2 nx2 ne2 fun H2 s2 e2 => ⟨rfl, ?_⟩⟩
    refine ⟨_, _, rfl, ?_⟩
    have e1 := e1.same s2
    have s12 := s1.trans s2
    obtain ⟨y1, w1, fl1, ys1, k1, l1, _⟩ := e1.at_
    obtain ⟨y2, w2, fl2, ys2, k2, l2, _⟩ := e2.at_
    -- the four signs
    refine ⟨_, rfl, _, rfl, p1, y1, _, p2, y2, _, rfl, rfl, k1, k2, p1, p2, t, u, rfl, e1, e2, hd1, hd2, fun r1 H3 n3 s3 c1 => ?_⟩
    obtain ⟨z1, b1, gl1, zs1, i1, j1, _⟩ := c1.at_
    refine ⟨r1, z1, _, rfl, i1, r1, z1, _, _, rfl, i1, ef_form b1 _ gl1, ?_⟩
    refine ⟨_, rfl, _, rfl, p1, y1, _, p2, y2, _, rfl, rfl, s3 _ _ k1, s3 _ _ k2, p1, p2, t, u, rfl, e1.same s3, e2.same s3, hd1, hd2, fun r2 H4 n4 s4 c2 => ?_⟩
    obtain ⟨z2, b2, gl2, zs2, i2, j2, _⟩ := c2.at_
    refine ⟨r2, z2, _, rfl, i2, r2, z2, _, _, rfl, i2, ef_form b2 _ gl2, ?_⟩
    have s34 := s3.trans s4
    refine ⟨_, rfl, _, rfl, p1, y1, _, p2, y2, _, rfl, rfl, s34 _ _ k1, s34 _ _ k2, p1, p2, t, u, rfl, e1.same s34, e2.same s34, hd1, hd2, fun r3 H5 n5 s5 c3 => ?_⟩
    obtain ⟨z3, b3, gl3, zs3, i3, j3, _⟩ := c3.at_
    refine ⟨r3, z3, _, rfl, i3, r3, z3, _, _, rfl, i3, ef_form b3 _ gl3, ?_⟩
    have s35 := s34.trans s5
    refine ⟨_, rfl, _, rfl, p1, y1, _, p2, y2, _, rfl, rfl, s35 _ _ k1, s35 _ _ k2, p1, p2, t, u, rfl, e1.same s35, e2.same s35, hd1, hd2, fun r4 H6 n6 s6 c4 => ?_⟩
    obtain ⟨z4, b4, gl4, zs4, i4, j4, _⟩ := c4.at_
    refine ⟨r4, z4, _, rfl, i4, r4, z4, _, _, rfl, i4, ef_form b4 _ gl4, ?_⟩
    refine ⟨(by show 4 ≤ sizeLine; decide), fun L nL => ?_⟩
    have s36 := s35.trans s6
    have ps : Paired (FmAt H6) [b1, b2, b3, b4] (signs.map fun z => Fm.node z t u) := .cons (j1.same (s4.trans (s5.trans s6))) (.cons (j2.same (s5.trans s6)) (.cons (j3.same s6) (.cons j4 .nil)))
    have s7 : Same H6 (upd H6 L (.lst [b1, b2, b3, b4])) := same_upd nL
    have h7 : (upd H6 L (.lst [b1, b2, b3, b4])) L = some (.lst [b1, b2, b3, b4]) := upd_same
    generalize (upd H6 L (.lst [b1, b2, b3, b4])) = H7 at s7 h7 ⊢
    -- told by the law
    refine ⟨_, rfl, (by show 4 ≤ sizeLine; decide), fun sl nsl => ⟨sl, rfl, ⟨_, SqL.of upd_same⟩, fun D1 nD => ?_⟩⟩
    have s8 : Same H7 (upd H7 sl (.lst [.str "|", .str "&", .str "-", .str "^"])) := same_upd nsl
    have h8 : (upd H7 sl (.lst [.str "|", .str "&", .str "-", .str "^"])) sl = some (.lst (signs.map V.str)) := upd_same
    generalize (upd H7 sl (.lst [.str "|", .str "&", .str "-", .str "^"])) = H8 at s8 h8 nD ⊢
    have s08 := s12.trans (s36.trans (s7.trans s8))
    refine lc_list (K := K) (a := sl) (xs := signs.map V.str) (fun i H' => Same H8 H' ∧ ∃ vs, H' D1 = some (.lst vs) ∧ Paired (FmAt H') vs ((signs.take i).map fun z => Fm.node z t u)) ⟨same_upd nD, [], upd_same, .nil⟩ (fun i H' hi e => SqL.of (e.1 _ _ h8)) (fun i x H' hx e => ?_) (fun H9 e => ?_)
    · obtain ⟨z, hz, rfl⟩ := str_at hx
      obtain ⟨e, vs, hv, pv⟩ := e
      refine ⟨rfl, ?_⟩
      refine ⟨_, rfl, _, rfl, _, rfl, (by show 3 ≤ sizeLine; decide), fun tp ntp => ?_⟩
      have s9 : Same H' (upd H' tp (.tup [.str z, v1, v2])) := same_upd ntp
      have hv9 := s9 _ _ hv
      have h9 : (upd H' tp (.tup [.str z, v1, v2])) tp = some (.tup [.str z, v1, v2]) := upd_same
      have f1 := ((hm1.same s08).same e).same s9
      have f2 := ((hm2.same s08).same e).same s9
      have pv9 := fms_same s9 pv
      generalize (upd H' tp (.tup [.str z, v1, v2])) = H9 at s9 hv9 h9 f1 f2 pv9 ⊢
      have tk : TupK H9 (upd H9 D1 (.lst (vs ++ [.ref tp]))) := TupK.set (H := H9) (H' := H9) (fun _ _ e => e) hv9
      have ll := fms_len pv
      have ln : vs.length ≤ 4 := by
        rw [ll, List.length_map, List.length_take]
        exact Nat.min_le_right _ _
      refine ⟨vs, hv9, by rw [sizeLine_eq]; omega, same_set (e.trans s9) nD, vs ++ [.ref tp], upd_same, ?_⟩
      have et : (signs.take (i + 1)).map (fun z => Fm.node z t u) = (signs.take i).map (fun z => Fm.node z t u) ++ [Fm.node z t u] := by
        rw [List.take_add_one, hz, List.map_append]
        rfl
      rw [et]
      exact (fms_keep tk pv9).snoc (.node (tk _ _ h9) (f1.keep tk) (f2.keep tk))
    obtain ⟨e9, vs, hv, pv⟩ := e
    rw [show (signs.map V.str).length = 4 from rfl, show signs.take 4 = signs from rfl] at pv
    have okN : ∀ f ∈ signs.map (fun z => Fm.node z t u), f.Ok ∧ f.dep ≤ 6 := fun f hf => by
      obtain ⟨z, hz, rfl⟩ := List.mem_map.mp hf
      exact ⟨⟨hz, ok1, ok2⟩, by rw [Fm.dep_node]; omega⟩
    obtain ⟨shN, eqN⟩ := fms_shaped okN
    have s79 := s8.trans e9
    refine ⟨_, _, .lst (SqL.of (s79 _ _ h7)) (fms_dp (fms_same (s7.trans s79) ps)), .lst (SqL.of hv) (fms_dp pv), shN, shN, _, rfl, ?_⟩
    rw [eqN]
    refine iteF ?_
    have s39 := s36.trans (s7.trans s79)
    have E1 := e1.same s39
    have E2 := e2.same s39
    have hl := hm1.same (s12.trans s39)
    have hh := hm2.same (s12.trans s39)
    have s0 : Same H H9 := s12.trans s39
    have K1' := s39 _ _ k1
    have K2' := s39 _ _ k2
    clear e1 e2 k1 k2 ps pv hv
    -- within
    refine ⟨_, rfl, p1, y1, _, rfl, K1', ef_within w1 t fl1, _, rfl, p1, p2, t, u, rfl, E1, E2, fun pf Ha na sa ma => ?_⟩
    -- the same fact
    obtain ⟨xf, kf⟩ := ma.at_
    refine ⟨_, rfl, _, rfl, _, rfl, fun pg xg npg nxg neg => makeF_at ma.l ma.r npg nxg neg fun Hb sb mb => ⟨rfl, ?_⟩⟩
    have mab := ma.same sb
    have kfb := sb _ _ kf
    refine ⟨pf, xf, _, _, rfl, kfb, fac_ty V2.F V2.J mb, V2.nfF, pf, pg, p1, p2, p1, p2, t, u, t, u, rfl, mab, mb, _, rfl, _, rfl, ?_⟩
    rw [Fm.eqv_self ok1, Fm.eqv_self ok2]
    refine iteF ?_
    -- its sides
    have s0b := (s0.trans sa).trans sb
    have lb := (hm1.same s0b)
    have hb := (hm2.same s0b)
    refine ⟨_, rfl, pf, xf, _, rfl, kfb, pf, xf, _, _, rfl, kfb, ff_left p1 p2, _, rfl, pf, xf, _, rfl, kfb, pf, xf, _, _, rfl, kfb, ff_right p1 p2, _, rfl, pf, xf, _, rfl, kfb, pf, p1, p2, t, u, rfl, mab, fun qf o1 o2 Hc sc hq fo1 fo2 => ⟨(by show 3 ≤ sizeLine; decide), fun L1 nL1 => ?_⟩⟩
    have sd : Same Hc (upd Hc L1 (.lst [.ref p1, .ref p2, .ref qf])) := same_upd nL1
    have hd : (upd Hc L1 (.lst [.ref p1, .ref p2, .ref qf])) L1 = some (.lst [.ref p1, .ref p2, .ref qf]) := upd_same
    generalize (upd Hc L1 (.lst [.ref p1, .ref p2, .ref qf])) = Hd at sd hd ⊢
    refine ⟨_, rfl, _, rfl, _, rfl, _, rfl, (by show 2 ≤ sizeLine; decide), fun tp ntp => ⟨(by show 3 ≤ sizeLine; decide), fun L2 nL2 => ?_⟩⟩
    have se : Same Hd (upd Hd tp (.tup [v1, v2])) := same_upd ntp
    have he : (upd Hd tp (.tup [v1, v2])) tp = some (.tup [v1, v2]) := upd_same
    generalize (upd Hd tp (.tup [v1, v2])) = He at se he nL2 ⊢
    have sf : Same He (upd He L2 (.lst [.ref p1, .ref p2, .ref tp])) := same_upd nL2
    have hf : (upd He L2 (.lst [.ref p1, .ref p2, .ref tp])) L2 = some (.lst [.ref p1, .ref p2, .ref tp]) := upd_same
    generalize (upd He L2 (.lst [.ref p1, .ref p2, .ref tp])) = Hf at sf hf ⊢
    have ok2s : ∀ f ∈ [t, u], f.Ok ∧ f.dep ≤ 6 := fun f hf => by
      rcases List.mem_cons.mp hf with rfl | hf
      · exact ⟨ok1, by omega⟩
      · rw [List.mem_singleton.mp hf]
        exact ⟨ok2, by omega⟩
    obtain ⟨shT, eqT⟩ := fms_tup ok2s
    obtain ⟨shL, eqL⟩ := fms_shaped ok2s
    have sdf := sd.trans (se.trans sf)
    have scf := sc.trans sdf
    have dq : Dp K Hf (.ref qf) (.tuple ([t, u].map Fm.dat)) := .tup (SqT.of (sdf _ _ hq)) (fms_dp (.cons (fo1.same sdf) (.cons (fo2.same sdf) .nil)))
    have dt : Dp K Hf (.ref tp) (.tuple ([t, u].map Fm.dat)) := .tup (SqT.of (sf _ _ he)) (fms_dp (.cons (lb.same scf) (.cons (hb.same scf) .nil)))
    refine ⟨L1, L2, _, _, rfl, rfl, SqL.of ((se.trans sf) _ _ hd), SqL.of hf, .cons (.inl ⟨p1, rfl, rfl⟩) (.cons (.inl ⟨p2, rfl, rfl⟩) (.cons (.inr ⟨_, dq, dt, shT, eqT⟩) .nil)), _, rfl, ?_⟩
    refine iteF ?_
    have mf := mab.same scf
    have s0f := s0b.trans scf
    have lf := hm1.same s0f
    have hf' := hm2.same s0f
    obtain ⟨xg, kg⟩ := mf.at_
    have E1 := mf.l
    have E2 := mf.r
    obtain ⟨y1, w1, fl1, ys1, k1, l1, _⟩ := E1.at_
    obtain ⟨y2, w2, fl2, ys2, k2, l2, _⟩ := E2.at_
    obtain ⟨ty, ht, tx⟩ := (lf.vok ok1).ty (K := K)
    have hs : "str" ∈ baseTys := by decide
    have sh1 := Fm.shaped ok1 (by omega)
    have sh2 := Fm.shaped ok2 (by omega)
    -- what is unequal
    refine ⟨_, rfl, _, rfl, p1, y1, _, _, rfl, k1, fac_ty V2.F V2.J mf, V2.nfD, p1, t, _, rfl, E1, .inr ⟨⟨_, fac_ty V2.F V2.J mf, V2.dc⟩, _, rfl, _, rfl, iteF ?_⟩⟩
    refine ⟨_, rfl, _, rfl, p1, y1, _, _, rfl, k1, tx, V2.nfB ty ht, p1, t, _, rfl, E1, .inr ⟨⟨_, tx, W.I.no ty ht⟩, _, rfl, _, rfl, iteF ?_⟩⟩
    refine ⟨_, rfl, _, rfl, p1, y1, _, rfl, k1, p1, t, rfl, E1, _, rfl, p1, y1, _, _, rfl, k1, .base (.str _), V2.nfB "str" hs, p1, t, _, rfl, E1, .inr ⟨⟨_, .base (.str _), W.I.no "str" hs⟩, _, rfl, _, rfl, iteF ?_⟩⟩
    refine ⟨_, rfl, _, rfl, p1, y1, _, _, rfl, k1, exp_ty M W.I E2, W.nf, p1, t, _, rfl, E1, .inl ⟨p2, u, rfl, E2, _, rfl, _, rfl, _, rfl, t.dat, u.dat, lf.dp, hf'.dp, sh1, sh2, rfl, _, rfl, ?_⟩⟩
    rw [decide_eq_true rfl]
    refine iteF ?_
    -- and equal
    refine ⟨_, rfl, _, rfl, p1, y1, _, _, rfl, k1, exp_ty M W.I E2, W.nf, p1, t, _, rfl, E1, .inl ⟨p2, u, rfl, E2, _, rfl, _, rfl, _, rfl, t.dat, u.dat, lf.dp, hf'.dp, sh1, sh2, rfl, _, rfl, ?_⟩⟩
    rw [decide_eq_true rfl]
    refine iteT ?_
    refine ⟨_, rfl, p1, y1, _, rfl, k1, p1, y1, _, _, rfl, k1, ef_form w1 t fl1, _, rfl, p2, y2, _, rfl, k2, p2, y2, _, _, rfl, k2, ef_form w2 u fl2, (by show 2 ≤ sizeLine; decide), fun L3 nL3 => ?_⟩
    have s9 : Same Hf (upd Hf L3 (.lst [w1, w2])) := same_upd nL3
    refine ⟨_, rfl, _, rfl, (by show 2 ≤ sizeLine; decide), fun L4 nL4 => ?_⟩
    have s10 := same_upd (o := .lst [v1, v2]) nL4
    have s910 := s9.trans s10
    refine ⟨_, _, .lst (SqL.of (s10 _ _ upd_same)) (fms_dp (.cons (l1.same s910) (.cons (l2.same s910) .nil))), .lst (SqL.of upd_same) (fms_dp (.cons (lf.same s910) (.cons (hf'.same s910) .nil))), shL, shL, ?_⟩
    rw [eqL]
    exact q _ (s0f.trans s910)
end
end K1

namespace K1
open PySem PySem.Spec
open PyProof.Rows L2 EnT StX SmX TxS DuX ClX
/-- what right calls -/
structure Rt (P : Program) (w : World) (K : PySem.W.Frag) (mg : Str → Option Value) (base : Heap) : Prop where
  T : Free mg
  draw : ∃ f, Has P w K mg base CX0 1 "_law_draw" f ["_law_pool_here", "_law_many"] spDraw
  names : ∃ f, Has P w K mg base CX0 2 "_law_names" f ["_law_pool_here", "_law_many"] spNames
  form : ∃ f, Has P w K mg base CX0 6 "_law_form" f ["_law_pool_here", "_law_words_here", "_law_deep_here"] (spFormL 4)
  one : ∃ f, mg "_law_one_right" = some (.ref f) ∧ PySem.W.keepIn K (.ref f) = true ∧ FnG P w K mg base CX0 16 f spOne
  two : ∃ f, mg "_law_two_right" = some (.ref f) ∧ PySem.W.keepIn K (.ref f) = true ∧ FnG P w K mg base CX0 16 f spTwo
abbrev nmRt : List Str := ["_law_pool_here", "_law_words_here", "_law_forms", "_law_k", "_law_shape"]
def spRight : Sp := fun vs H Q _ => ∃ p : Addr, vs = [.ref p] ∧ PoolAt H p ∧ ∀ H', K1.Ext p H H' → Q (.bl true) H'
abbrev trues (n : Nat) : List V := (List.replicate n true).map V.bl
theorem trues_succ (n : Nat) : trues (n + 1) = trues n ++ [.bl true] := by
  unfold trues
  rw [List.replicate_succ', List.map_append]
  rfl
theorem trues_all (n : Nat) : (List.replicate n true).all id = true := by
  rw [List.all_eq_true]
  intro b hb
  rw [List.eq_of_mem_replicate hb]
  rfl
theorem Ext.set {p D : Addr} {H H' : Hp} {o : HO} (x : K1.Ext p H H') (nD : H D = none) (np : D ≠ p) : K1.Ext p H (upd H' D o) := by
  obtain ⟨⟨a, b, c, z⟩, k⟩ := x
  refine ⟨⟨a, b, c, by rw [upd_ne (Ne.symm np)]; exact z⟩, fun y u n e => ?_⟩
  rw [upd_ne (fun z => by rw [z, nD] at e; cases e)]
  exact k y u n e
theorem trues_len {n : Nat} (h : n ≤ 100) : (trues n).length < sizeLine := by
  rw [List.length_map, List.length_replicate, sizeLine_eq]
  omega
/-- n forms in a list -/
structure Forms (H : Hp) (L : Addr) (n : Nat) (vs : List V) (fs : List Fm) : Prop where
  at_ : H L = some (.lst vs)
  fm : Paired (FmAt H) vs fs
  len : vs.length = n
  ok : ∀ f ∈ fs, f.Ok ∧ f.dep ≤ 5
theorem pair_nth {H : Hp} {vs : List V} {fs : List Fm} (fm : Paired (FmAt H) vs fs) : (∀ f ∈ fs, f.Ok ∧ f.dep ≤ 5) → ∀ {i : Nat} {v : V}, vs[i]? = some v → ∃ t, FmAt H v t ∧ t.Ok ∧ t.dep ≤ 5 := by
  induction fm with
  | nil =>
    intro ok i v h
    simp at h
  | cons hd _ k =>
    intro ok i v h
    cases i with
    | zero =>
      simp only [List.getElem?_cons_zero, Option.some.injEq] at h
      subst h
      exact ⟨_, hd, ok _ List.mem_cons_self⟩
    | succ i => exact k (fun f hf => ok f (List.mem_cons_of_mem _ hf)) (i := i) (by simpa using h)
theorem Forms.nth {H : Hp} {L : Addr} {n : Nat} {vs : List V} {fs : List Fm} (m : Forms H L n vs fs) {i : Nat} {v : V} (h : vs[i]? = some v) : ∃ t, FmAt H v t ∧ t.Ok ∧ t.dep ≤ 5 := pair_nth m.fm m.ok h
abbrev more4 : List Str := ["given", "none", "a1", "abcdefgh"]
theorem Forms.ext {p : Addr} {H H' : Hp} {L : Addr} {n : Nat} {vs : List V} {fs : List Fm} (hp : PoolAt H p) (np : L ≠ p) (x : K1.Ext p H H') (m : Forms H L n vs fs) : Forms H' L n vs fs := ⟨x.at np m.at_, fms_keep (.ext hp x) m.fm, m.len, m.ok⟩
section
variable {w : World} {P : Program} {base : Heap} {mg : Str → Option Value} {K : PySem.W.Frag}
theorem scRt : FnScope nmRt ["_law_pool_here"] (defScope sRight) := ⟨rfl, rfl, rfl, by decide +kernel, rfl, by decide +kernel, by decide +kernel⟩
theorem ok_right {f c : Addr} (F : FunC K "_law_right" "_law_right" sRight f c) (W : Rt P w K mg base) : FnG P w K mg base CX0 17 f spRight := by
  have T := W.T
  obtain ⟨fD, hD⟩ := W.draw
  obtain ⟨fN, hN⟩ := W.names
  obtain ⟨fF, hF⟩ := W.form
  obtain ⟨fO, mgO, kpO, GO⟩ := W.one
  obtain ⟨fT, mgT, kpT, GT⟩ := W.two
  refine fnG_of F scRt (fun kV doc pm an ct => .all fun us hl => match us, hl with | [_], _ => rfl) (fun vs H Q E h => ?_) fun A outer s H vs Q E hgd hr h => ?_
  · obtain ⟨p, rfl, _⟩ := h
    rfl
  · obtain ⟨p, rfl, hp, q⟩ := h
    refine ⟨_, pss_cons (ps_set (i := 1) scRt.nd rfl (.inr rfl) (pe_op op_cat (pe_has hN (hr.mono (by decide)) (by rfl) pass0 (pa_cons (pv 0) (pa_cons (pe_op op_add pe_int (pe_has hD (hr.mono (by decide)) (by rfl) pass0 (pa_cons (pv 0) (pa_cons pe_int pa_nil)))) pa_nil))) (pe_lst (pa_cons pe_str (pa_cons pe_str (pa_cons pe_str (pa_cons pe_str pa_nil)))))))
      (pss_cons (ps_set (i := 2) scRt.nd rfl (.inr rfl) (pe_lc (own := [("_law_k", 3)]) (g := gName 3) (tt := tYes) (te := tCall (spFormL 4) [] E0 (tCons (tVar 0) (tCons (tVar 1) (tCons (tCall spDraw [] E0 (tCons (tVar 0) (tCons (tC (.int 5)) tNil))) tNil)))) rfl scRt.nd (pi_range1 rfl T.range (pa_cons pe_int pa_nil))
            (blkOk_by (own := [("_law_k", 3)]) (N := nmRt) (sc := defScope sRight) (by decide +kernel)) (fun _ _ _ _ _ => pg_name (i := 3) scRt.nd rfl (Or.inl rfl)) (fun _ _ _ _ _ => pts_nil)
            (fun _ _ _ _ _ => pe_has (x := "_law_form") (sp := spFormL 4) hF (hr.mono (by decide)) (by rfl) pass0 (pa_cons (pv 0) (pa_cons (pv 1) (pa_cons (pe_has (x := "_law_draw") (sp := spDraw) hD (hr.mono (by decide)) (by rfl) pass0 (pa_cons (pv 0) (pa_cons pe_int pa_nil))) pa_nil))))))
      (pss_cons (ps_if (pt_not (pt_val (pe_callB (cr_all rfl) (by rfl) T.all (by decide +kernel) (pa_cons (pe_lc (own := [("_law_shape", 4)]) (g := gName 4) (tt := tYes) (te := tCall spOne [] E0 (tCons (tVar 4) tNil)) rfl scRt.nd (pi_list (pv 2))
            (blkOk_by (own := [("_law_shape", 4)]) (N := nmRt) (sc := defScope sRight) (by decide +kernel)) (fun _ _ _ _ _ => pg_name (i := 4) scRt.nd rfl (Or.inl rfl)) (fun _ _ _ _ _ => pts_nil)
            (fun _ _ _ _ _ => pe_callG (x := "_law_one_right") GO (by exact hgd) hr (by rfl) mgO kpO (pa_cons (pv 4) pa_nil))) pa_nil)))) pss_never pss_nil)
      (pss_one (ps_ret (pe_callB (cr_all rfl) (by rfl) T.all (by decide +kernel) (pa_cons (pe_lc (own := [("_law_shape", 4)]) (g := gName 4) (tt := tYes) (te := tCall spTwo [] E0 (tCons (tVar 4) (tCons (tOp (rIxL K) (tVar 2) (tCall spDraw [] E0 (tCons (tVar 0) (tCons (tC (.int 4)) tNil)))) tNil))) rfl scRt.nd (pi_list (pv 2))
            (blkOk_by (own := [("_law_shape", 4)]) (N := nmRt) (sc := defScope sRight) (by decide +kernel)) (fun _ _ _ _ _ => pg_name (i := 4) scRt.nd rfl (Or.inl rfl)) (fun _ _ _ _ _ => pts_nil)
            (fun _ _ _ _ _ => pe_callG (x := "_law_two_right") GT (by exact hgd) hr (by rfl) mgT kpT (pa_cons (pv 4) (pa_cons (pe_ix ix_list (pv 2) (pe_has (x := "_law_draw") (sp := spDraw) hD (hr.mono (by decide)) (by rfl) pass0 (pa_cons (pv 0) (pa_cons pe_int pa_nil))) (fun _ _ => rfl)) pa_nil)))) pa_nil)))))), ?_⟩
    -- the words
    refine ⟨_, rfl, _, rfl, p, 4, rfl, hp, by decide, by decide, fun d H1 x1 d0 d4 => ?_⟩
    obtain ⟨n, rfl⟩ := Int.eq_ofNat_of_zero_le d0
    refine ⟨_, _, rfl, rfl, p, 1 + n, ?_, x1.pool, by omega, fun nl zs H2 x2 nn hn hl ht nd => ?_⟩
    · rw [Int.natCast_add]
      rfl
    refine ⟨(by show 4 ≤ sizeLine; decide), fun ll nll => ?_⟩
    have s3 : Same H2 (upd H2 ll (.lst [.str "given", .str "none", .str "a1", .str "abcdefgh"])) := same_upd nll
    refine ⟨nl, ll, _, _, rfl, rfl, s3 _ _ hn, upd_same, by rw [List.length_map, hl, sizeLine_eq]; show 1 + n + 4 ≤ _; omega, fun wl nwl => ?_⟩
    have x3 := ((x1.trans x2).same s3).same (same_upd (o := .lst (zs.map V.str ++ [.str "given", .str "none", .str "a1", .str "abcdefgh"])) nwl)
    have wp : wl ≠ p := (((x1.trans x2).same s3).pool).ne nwl
    have hw : (upd (upd H2 ll (.lst [.str "given", .str "none", .str "a1", .str "abcdefgh"])) wl (.lst (zs.map V.str ++ [.str "given", .str "none", .str "a1", .str "abcdefgh"]))) wl = some (.lst ((zs ++ more4).map V.str)) := by
      rw [upd_same, List.map_append]
      rfl
    generalize (upd (upd H2 ll (.lst [.str "given", .str "none", .str "a1", .str "abcdefgh"])) wl (.lst (zs.map V.str ++ [.str "given", .str "none", .str "a1", .str "abcdefgh"]))) = H3 at x3 hw ⊢
    have nm : ∀ z ∈ zs ++ more4, nameB z = true := fun z hz => by
      rcases List.mem_append.mp hz with e | e
      · exact tag_name (ht z e)
      · have k : (more4.all nameB) = true := by decide +kernel
        exact List.all_eq_true.mp k z e
    have wlen : (zs ++ more4).length = 1 + n + 4 := by
      rw [List.length_append, hl]
      rfl
    -- the forms
    refine ⟨4, rfl, by omega, by omega, fun L nL => ?_⟩
    have Lp : L ≠ p := x3.pool.ne nL
    have Lw : wl ≠ L := fun e => by rw [e, nL] at hw; cases hw
    refine lc_range (lo := 0) (n := 4) (fun i H' => K1.Ext p H3 H' ∧ ∃ vs fs, Forms H' L i vs fs) ?_ ?_ ?_
    · exact ⟨(K1.Ext.refl x3.pool).set nL Lp, [], [], upd_same, .nil, rfl, fun f hf => by cases hf⟩
    · rintro i H' hi ⟨x, vs, fs, m⟩
      refine ⟨rfl, ?_⟩
      refine ⟨_, rfl, _, rfl, _, rfl, p, 5, rfl, x.pool, by decide, by decide, fun d H4 x4 d0 d5 => ?_⟩
      obtain ⟨k, rfl⟩ := Int.eq_ofNat_of_zero_le d0
      have x5 := x.trans x4
      refine ⟨p, wl, zs ++ more4, k, rfl, x5.pool, wp, x5.at wp hw, by omega, by omega, nm, by omega, fun v t H5 x6 hm ok hd => ?_⟩
      have m5 := (m.ext x.pool Lp x4).ext x4.pool Lp x6
      have tk : TupK H5 (upd H5 L (.lst (vs ++ [v]))) := TupK.set (H := H5) (H' := H5) (fun _ _ e => e) m5.at_
      have lv := m5.len
      refine ⟨vs, m5.at_, by rw [sizeLine_eq]; omega, (x5.trans x6).set nL Lp, vs ++ [v], fs ++ [t], upd_same, (fms_keep tk m5.fm).snoc (hm.keep tk), by rw [List.length_append, lv]; rfl, fun f hf => ?_⟩
      rcases List.mem_append.mp hf with e | e
      · exact m5.ok f e
      · rw [List.mem_singleton.mp e]
        exact ⟨ok, by omega⟩
    rintro H4 ⟨x4, vs, fs, m⟩
    have x04 := x3.trans x4
    -- one after another
    refine ⟨_, rfl, L, rfl, ⟨_, SqL.of m.at_⟩, fun D nD => ?_⟩
    refine lc_list (K := K) (a := L) (xs := vs) (fun i H' => Same H4 H' ∧ H' D = some (.lst (trues i))) ⟨same_upd nD, upd_same⟩ (fun i H' hi e => SqL.of (e.1 _ _ m.at_)) (fun i x H' hx e => ?_) (fun H5 e => ?_)
    · have hi : i < vs.length := (List.getElem?_eq_some_iff.mp hx).1
      have lv := m.len
      obtain ⟨t, hm, ok, hd⟩ := m.nth hx
      refine ⟨rfl, ?_⟩
      exact ⟨_, rfl, x, t, rfl, hm.same e.1, ok, hd, fun H6 s6 => ⟨trues i, s6 _ _ e.2, trues_len (by omega), same_set (e.1.trans s6) nD, by rw [upd_same, trues_succ]⟩⟩
    obtain ⟨s5, h5⟩ := e
    refine ⟨D, _, rfl, SqL.of h5, ?_⟩
    rw [trues_all]
    refine ⟨true, rfl, iteF ?_⟩
    have x05 := x04.same s5
    have m5 : Forms H5 L 4 vs fs := ⟨s5 _ _ m.at_, fms_same s5 m.fm, m.len, m.ok⟩
    -- two by two
    refine ⟨_, rfl, L, rfl, ⟨_, SqL.of m5.at_⟩, fun D2 nD2 => ?_⟩
    have D2p : D2 ≠ p := x05.pool.ne nD2
    refine lc_list (K := K) (a := L) (xs := vs) (fun i H' => K1.Ext p H5 H' ∧ H' D2 = some (.lst (trues i))) ⟨(K1.Ext.refl x05.pool).set nD2 D2p, upd_same⟩ (fun i H' hi e => SqL.of (e.1.at Lp m5.at_)) (fun i x H' hx e => ?_) (fun H6 e => ?_)
    · have hi : i < vs.length := (List.getElem?_eq_some_iff.mp hx).1
      have lv := m5.len
      obtain ⟨x6, h6⟩ := e
      have m6 := m5.ext x05.pool Lp x6
      refine ⟨rfl, ?_⟩
      refine ⟨_, rfl, _, rfl, _, rfl, p, 4, rfl, x6.pool, by decide, by decide, fun d H7 x7 d0 d4 => ?_⟩
      have m7 := m6.ext x6.pool Lp x7
      have hj : d.toNat < vs.length := by omega
      have ej : ((d.toNat : Nat) : Int) = d := by omega
      have hv := List.getElem?_eq_getElem hj
      obtain ⟨t, hm, ok, hd⟩ := m7.nth hx
      obtain ⟨u, hm2, ok2, hd2⟩ := m7.nth hv
      have za := atI_nat (xs := vs) (j := d.toNat) hv
      rw [ej] at za
      exact ⟨L, vs, d, _, rfl, rfl, SqL.of m7.at_, za, x, _, t, u, rfl, hm, hm2, ok, ok2, hd, hd2, fun H8 s8 => ⟨trues i, s8 _ _ (x7.at D2p h6), trues_len (by omega), ((x6.trans x7).same s8).set nD2 D2p, by rw [upd_same, trues_succ]⟩⟩
    obtain ⟨x6, h6⟩ := e
    refine ⟨D2, _, rfl, SqL.of h6, ?_⟩
    rw [trues_all]
    exact q _ (x05.trans x6)
end
end K1

namespace K1
open PySem PySem.Spec
open PyProof.Rows L2 EnT StX SmX TxS DuX ClX
abbrev nmLaw : List Str := ["_law_cells", "_law_k"]
/-- the law's promise: it tells True -/
def spLaw (K : PySem.W.Frag) : Sp := fun vs H Q _ => ∃ (a : Addr) (ns : List Int), vs = [.ref a] ∧ SqL K H a (ns.map V.int) ∧ ns.length < 2 ^ 60 ∧ ∀ H', Q (.bl true) H'
theorem sqL_same {K : PySem.W.Frag} {a : Addr} {H H' : Hp} {xs : List V} (x : Same H H') (h : SqL K H a xs) : SqL K H' a xs := by
  rcases h with h | h
  · rcases h with h | ⟨o, h⟩
    · exact .inl (.inl (x _ _ h))
    · exact .inl (.inr ⟨o, x _ _ h⟩)
  · exact .inr h
/-- what the law itself calls -/
structure Top (P : Program) (w : World) (K : PySem.W.Frag) (mg : Str → Option Value) (base : Heap) : Prop where
  cell : ∃ f, Has P w K mg base CX0 1 "_law_cell" f ["_law_cells", "_law_k"] (spCell K)
  pool : ∃ f, Has P w K mg base CX0 1 "_law_pool" f ["_law_cell_here"] spPool
  right : ∃ f, mg "_law_right" = some (.ref f) ∧ PySem.W.keepIn K (.ref f) = true ∧ FnG P w K mg base CX0 17 f spRight
section
variable {w : World} {P : Program} {base : Heap} {mg : Str → Option Value} {K : PySem.W.Frag}
theorem scLaw : FnScope nmLaw ["_law_cells"] (defScope sLaw) := ⟨rfl, rfl, rfl, by decide +kernel, rfl, by decide +kernel, by decide +kernel⟩
theorem ok_law {f c : Addr} (F : FunC K "law" "law" sLaw f c) (T : Free mg) (W : Top P w K mg base) : FnG P w K mg base CX0 18 f (spLaw K) := by
  obtain ⟨fC, hC⟩ := W.cell
  obtain ⟨fP, hP⟩ := W.pool
  obtain ⟨fR, mgR, kpR, GR⟩ := W.right
  refine fnG_of F scLaw (fun kV doc pm an ct => .all fun us hl => match us, hl with | [_], _ => rfl) (fun vs H Q E h => ?_) fun A outer s H vs Q E hgd hr h => ?_
  · obtain ⟨a, ns, rfl, _⟩ := h
    rfl
  · obtain ⟨a, ns, rfl, hS, hlen, q⟩ := h
    refine ⟨_, pss_one (ps_ret (pe_callB (cr_all rfl) (by rfl) T.all (by decide +kernel) (pa_cons (pe_lc (own := [("_law_k", 1)]) (g := gName 1) (tt := tYes) (te := tCall spRight [] E0 (tCons (tCall spPool [] E0 (tCons (tCall (spCell K) [] E0 (tCons (tVar 0) (tCons (tVar 1) tNil))) tNil)) tNil)) rfl scLaw.nd
        (pi_range1 rfl T.range (pa_cons (pe_callB (call_max2 rfl) (by rfl) T.max (by decide +kernel) (pa_cons pe_int (pa_cons (pe_callB (call_min2 rfl) (by rfl) T.min (by decide +kernel) (pa_cons (pe_callB call_len_seq (by rfl) T.len PySem.boot_len (pa_cons (pv 0) pa_nil)) (pa_cons pe_int pa_nil))) pa_nil))) pa_nil))
        (blkOk_by (own := [("_law_k", 1)]) (N := nmLaw) (sc := defScope sLaw) (by decide +kernel)) (fun _ _ _ _ _ => pg_name (i := 1) scLaw.nd rfl (Or.inl rfl)) (fun _ _ _ _ _ => pts_nil)
        (fun _ _ _ _ _ => pe_callG (x := "_law_right") GR (by exact hgd) hr (by rfl) mgR kpR (pa_cons (pe_has (x := "_law_pool") (sp := spPool) hP (hr.mono (by decide)) (by rfl) pass0 (pa_cons (pe_has (x := "_law_cell") (sp := spCell K) hC (hr.mono (by decide)) (by rfl) pass0 (pa_cons (pv 0) (pa_cons (pv 1) pa_nil))) pa_nil)) pa_nil))) pa_nil))), ?_⟩
    refine ⟨_, rfl, a, _, rfl, .inl hS, _, _, rfl, ?_⟩
    rw [List.length_map]
    generalize eN : (if (6 : Int) < ((ns.length : Nat) : Int) then (6 : Int) else ((ns.length : Nat) : Int)) = n6
    have b6 : n6 ≤ 6 := by
      rw [← eN]
      split <;> omega
    refine ⟨_, _, rfl, ?_⟩
    generalize eM : (if n6 > (2 : Int) then n6 else (2 : Int)) = m
    have m0 : 0 ≤ m ∧ m ≤ 6 := by
      rw [← eM]
      split <;> omega
    obtain ⟨n, rfl⟩ := Int.eq_ofNat_of_zero_le m0.1
    refine ⟨n, rfl, by omega, by omega, fun L nL => ?_⟩
    refine lc_range (lo := 0) (n := ((n : Nat) : Int).toNat) (fun i H' => Same H H' ∧ H' L = some (.lst (trues i))) ?_ ?_ ?_
    · exact ⟨same_upd nL, upd_same⟩
    · rintro i H' hi ⟨s1, hL⟩
      refine ⟨rfl, ?_⟩
      refine ⟨_, rfl, _, rfl, a, ns, i, (by rw [Int.zero_add]; rfl), sqL_same s1 hS, fun z => ?_⟩
      refine ⟨z, rfl, fun p np d1 d2 d3 => ?_⟩
      have s2 : Same H' (upd H' p (.lst [.int d1, .int d2, .int d3])) := same_upd np
      refine ⟨p, rfl, ⟨d1, d2, d3, upd_same⟩, fun H2 x2 => ?_⟩
      have s3 : Same H' H2 := fun b o e => x2.keep b o (fun z => by rw [z, np] at e; cases e) (s2 b o e)
      exact ⟨trues i, s3 _ _ hL, trues_len (by omega), same_set (s1.trans s3) nL, by rw [upd_same, trues_succ]⟩
    · rintro H2 ⟨s2, hL⟩
      refine ⟨L, _, rfl, SqL.of hL, ?_⟩
      rw [trues_all]
      exact q H2
end
end K1

/-! the end, for a law that makes texts of what it holds -/
namespace EnG
open PySem PySem.Spec
open PyProof.Rows L2 LamX
theorem call_tabs {P : Program} {w : World} {K : PySem.W.Frag} {mg mb : Str → Option Value} {k : Nat} {fa a : Addr} {cs : List (Addr × Addr)} {sp : Sp} {s₁ : Shared} {vs : List Value} {ns : List Int}
    (kInS : K.In s₁.heap) (nsG : s₁.heap.Ns mainGlobals mg) (nsB : s₁.heap.Ns builtinsNs mb) (bltB : ∀ x : Str, x ≠ "__name__" → mb x = bootBuiltins x) (noLim : s₁.heap.NoLimit) (gen0 : s₁.gens = #[])
    (tabE : ∀ p ∈ cs, s₁.heap.get? p.2 = some { cls := .none, data := .fields #[] }) (tabN : ∀ p ∈ cs, K.lookup p.2 = none) (C : ∀ p ∈ cs, PySem.W.CodeHd s₁.heap p.1 p.2)
    (modB : ∃ (bm : Addr) (ob : Obj), mg "__builtins__" = some (.ref bm) ∧ bm ≠ builtinsNs ∧ s₁.heap.get? bm = some ob ∧ ob.cls = .type "module" ∧ ob.dict = some builtinsNs ∧ ob.data = .plain)
    (lstA : s₁.heap.get? a = some { cls := .type "list", data := .seq vs.toArray }) (intA : IntsAre vs ns) (lenA : ns.length ≤ sizeLine) (roomA : Room k callerA)
    (F : ∀ base : Heap, K.In base → base.Ns mainGlobals mg → (∀ p ∈ cs, TabB base mg p.1 p.2) → K1.FnG P w K mg base CX0 k fa sp)
    (askS : ∀ H : Hp, (∀ p ∈ cs, H p.2 = some (.tbl #[])) → SqL K H a (ns.map V.int) → sp [.ref a] H (fun v _ => v = .bl true) fun _ _ _ => False) :
    codeAny (model P w) callerA (.call (.ref fa) ⟨[.ref a], []⟩) (fun r s' => r
        = .ok (.ret (.bool true)) ∧ OldK s₁.heap s'.heap ∧ s'.os = s₁.os ∧ AllBare s'.gens) s₁ := by
  have relA := vals_ints intA
  have lenI := intA.length
  have isTab : ∀ b : Addr, b ∈ cs.map (·.2) → s₁.heap.get? b = some { cls := .none, data := .fields #[] } := fun b nsB => by
    obtain ⟨p, hp, e⟩ := List.mem_map.mp nsB
    rw [← e]
    exact tabE p hp
  have aNot : a ∉ cs.map (·.2) := fun z => by
    have q := isTab a z
    rw [lstA] at q
    have z' : Data.seq vs.toArray _ = Data.fields
        #[] := congrArg Obj.data (Option.some.inj q)
    cases z'
  have memTab : ∀ p ∈ cs, p.2 ∈ cs.map (·.2) := fun p hp => List.mem_map.mpr ⟨p, hp, rfl⟩
  have coreH : ∀ H : Hp, (∀ p ∈ cs, H p.2 = some (.tbl #[])) → (∀ b, H b = none ∨ b ∈ cs.map (·.2) ∨ ∃ o xs, H b = some (.frz o (.lst xs))) → SqL K H a (ns.map V.int) → HOk P w H s₁.heap → (∀ b, H b ≠ none → b = a ∨ b ∈ cs.map (·.2)) → (H a ≠ none → K.lookup a = none) →
      codeAny (model P w) callerA (.call (.ref fa) ⟨[.ref a], []⟩) (fun r s' => r
          = .ok (.ret (.bool true)) ∧ OldK s₁.heap s'.heap ∧ s'.os = s₁.os ∧ AllBare s'.gens) s₁ := by
    intro H tabH onlyH seqH okH hasH keyH
    have baseOf : ∀ {b : Addr} {o : Obj}, s₁.heap.get? b = some o → H b = none → (hidT s₁.heap H).get? b = some o := fun e n => hidT_get e n
    have noDat : ∀ {b : Addr} {o : Obj}, s₁.heap.get? b = some o → (∀ vs n, o.data ≠ .seq vs n) → o.data ≠ .fields #[] → H b = none := fun {b o} e h1 h2 => by
      cases q : H b with
      | none => rfl
      | some u =>
        rcases hasH b (by rw [q]; simp) with e' | e'
        · rw [e', lstA] at e
          cases e
          exact (h1 _ _ rfl).elim
        · rw [isTab b e'] at e
          cases e
          exact (h2 rfl).elim
    have noDic : ∀ {b : Addr} {o : Obj} {es : Array DictEntry} {ep : Nat}, s₁.heap.get? b = some o → o.data = .dict es ep → H b = none := fun {b o es ep} e d => by
      refine noDat e (fun vs n z => ?_) fun z => ?_
      · rw [d] at z
        cases z
      · rw [d] at z
        cases z
    have nsKeep : ∀ {b : Addr} {m : Str → Option Value}, s₁.heap.Ns b m → (hidT s₁.heap H).Ns b m := fun {b m} ⟨o, es, ep, e, d, r⟩ => ⟨o, es, ep, baseOf e (noDic e d), d, r⟩
    have kInB : K.In (hidT s₁.heap H) := fun b o e => baseOf (kInS b o e) (by
      cases q : H b with
      | none => rfl
      | some u =>
        rcases hasH b (by rw [q]; simp) with e' | e'
        · rw [e'] at e q
          rw [keyH (by rw [q]; simp)] at e
          cases e
        · obtain ⟨p, hp, ep⟩
              := List.mem_map.mp e'
          rw [← ep, tabN p hp] at e
          cases e)
    have modM : L2.Mod K mg (hidT s₁.heap H) := ⟨kInB, nsKeep nsG, ⟨mb, nsKeep nsB, bltB⟩, let ⟨mc, h1, h2⟩ := noLim; ⟨mc, nsKeep h1, h2⟩⟩
    have tabB : ∀ p ∈ cs, TabB (hidT s₁.heap H) mg p.1 p.2 := fun p hp => by
      have hTp := tabE p hp
      refine ⟨?_, ?_, fun z => ?_⟩
      · obtain ⟨o, us, file, tf, flags, tg, inF, text,
            tt, e1, r1, r2, r3, r4, r5, r6, r7, r8, hne⟩ := C p hp
        refine ⟨o, us, file, tf, flags, tg, inF, text, tt, baseOf e1 (noDat e1 (fun vs n z => ?_) fun z => ?_), r1, r2, r3, r4, r5, r6, r7, r8, hne⟩
        · rw [r2] at z
          cases z
        · rw [r2] at z
          cases z
          simp at r3
      · obtain ⟨bm, ob, b1, b2, b3, b4, b5, b6⟩ := modB
        have nG : bm ≠ mainGlobals
            := fun q => by
          obtain ⟨o, es, ep, e, hd, _⟩ := nsG
          rw [q, e] at b3
          cases b3
          rw [hd] at b6
          cases b6
        have nP : bm ≠
            p.2 := fun q => by
          rw [q, hTp] at b3
          cases b3
          cases b6
        refine ⟨bm, ob, b1, b2, nG, nP, baseOf b3 (noDat b3 (fun vs n z => ?_) fun z => ?_), b4, b5, b6⟩
        · rw [b6] at z
          cases z
        · rw [b6] at z
          cases z
      · obtain ⟨o, es, ep, e, hd, _⟩ := nsG
        rw [z, hTp] at e
        cases e
        cases hd
    have env0 : Env0 P w K mg (hidT s₁.heap H) callerA [] s₁ H := ⟨rfl, modM, fun b o e => of_hidT e, Nat.le_of_eq (hidT_size _ _), trivial, fun b nsB => absurd (show b ∈ ([] : List Addr) from nsB) (by simp), okH, .of_eq gen0⟩
    refine codeAny_mono (F _ kInB (nsKeep nsG) tabB callerA [] s₁ H [.ref a] [.ref a] _ _ rfl roomA env0 (.cons rfl .nil) (askS H tabH seqH)) fun r s' h => ?_
    cases r with
    | error e => exact (show False from h).elim
    | ok fl =>
      cases fl with
      | next => exact False.elim h
      | brk => exact False.elim h
      | cont => exact False.elim h
      | ret u =>
        obtain ⟨v, H', osA, barA, unA, hok', r', q⟩ := h
        have q' : v = .bl true := q
        subst q'
        obtain rfl : u = Value.bool
            true := r'
        have keyB : ∀ b o, b ∉ cs.map (·.2) → s₁.heap.get? b = some o → s'.heap.get? b = some o := fun b o nb e => by
          cases q : H b with
          | none => exact unA.keep b o e q (by intro z; exact absurd (show b ∈ ([] : List Addr) from z) (by simp)) (by simp)
          | some u =>
            rcases onlyH b with z | z | ⟨ob, xs, z⟩
            · rw [q] at z; cases z
            · exact absurd z nb
            · have z2 := unA.frzs b ob _ z
              obtain ⟨e1, _⟩ := okH b _ z
              obtain ⟨e2, _⟩ := hok' b _ z2
              rw [e] at e1; cases e1
              exact e2
        have grewT : ∀ p ∈ cs, ∃ more : Array Value, s'.heap.get? p.2 = some { cls := .none, data := .fields more } := fun p hp => by
          obtain ⟨more, z⟩ := unA.tbls p.2 #[] (tabH p hp)
          exact ⟨_, hok' p.2 _ z⟩
        refine ⟨rfl, ⟨fun b o e => ?_, fun b o e => ?_⟩, osA, barA⟩
        · by_cases nsB : b ∈ cs.map (·.2)
          · obtain ⟨p, hp, ep⟩ := List.mem_map.mp nsB
            obtain ⟨more, hm⟩ := grewT p hp
            rw [← ep] at e ⊢
            rw [tabE p hp] at e
            cases e
            exact .inr (.inl ⟨((C p hp).tab (tabE p hp)).isCodeTable, rfl, #[], more, rfl, by rw [Array.empty_append]; exact hm⟩)
          · exact .inl (keyB b o nsB e)
        · by_cases nsB : b ∈ cs.map (·.2)
          · obtain ⟨p, hp, ep⟩ := List.mem_map.mp nsB
            obtain ⟨more, hm⟩ := grewT p hp
            rw [← ep]
            exact ⟨_, hm⟩
          · exact ⟨o, keyB b o nsB e⟩
  cases hk : K.lookup a with
  | some o =>
    have e := kInS a o hk
    rw [lstA] at e
    cases e
    refine coreH (fun b => if b ∈ cs.map (·.2) then some (.tbl #[]) else none) (fun p hp => if_pos (memTab p hp)) (fun b => ?_) (.inr ⟨_, vs.toArray, _, hk, rfl, rfl, rfl, by rw [List.size_toArray, lenI]; exact lenA, by simpa using relA⟩) (fun b u z => ?_) (fun b z => ?_) fun z => absurd (show (if a ∈ cs.map (·.2) then some (HO.tbl #[]) else none) = none from if_neg aNot) z
    · by_cases nsB : b ∈ cs.map (·.2)
      · exact .inr (.inl nsB)
      · exact .inl (if_neg nsB)
    · by_cases nsB : b ∈ cs.map (·.2)
      · have z' := (if_pos nsB).symm.trans z
        cases z'
        exact isTab b nsB
      · have z' := (if_neg nsB).symm.trans z
        cases z'
    · by_cases nsB : b ∈ cs.map (·.2)
      · exact .inr nsB
      · exact absurd (if_neg nsB) z
  | none =>
    refine coreH (fun b => if b = a then some (.frz { cls := .type "list", data := .seq vs.toArray } (.lst (ns.map V.int))) else if b ∈ cs.map (·.2) then some (.tbl #[]) else none) (fun p hp => (if_neg (show ¬ p.2 = a from fun z => aNot (by rw [← z]; exact memTab p hp))).trans (if_pos (memTab p hp))) (fun b => ?_)
      (.inl (.inr ⟨{ cls := .type "list", data := .seq vs.toArray
          }, if_pos rfl⟩)) (fun b u z => ?_) (fun b z => ?_) fun _ => hk
    · by_cases nsB : b = a
      · exact .inr (.inr ⟨_, _, if_pos nsB⟩)
      · by_cases hb2
            : b ∈ cs.map (·.2)
        · exact .inr (.inl hb2)
        · exact .inl ((if_neg nsB).trans (if_neg hb2))
    · by_cases nsB : b = a
      · have z' := (if_pos nsB).symm.trans z
        cases z'
        rw [nsB]
        exact ⟨lstA, by rw [List.length_map]; exact lenA, vs, _, relA, lstA⟩
      · have z1 := (if_neg nsB).symm.trans z
        by_cases hb2 :
            b ∈ cs.map (·.2)
        · have z' := (if_pos
              hb2).symm.trans z1
          cases z'
          exact isTab b hb2
        · have z' := (if_neg
              hb2).symm.trans z1
          cases z'
    · by_cases nsB : b = a
      · exact .inl nsB
      · by_cases hb2
            : b ∈ cs.map (·.2)
        · exact .inr hb2
        · exact absurd ((if_neg nsB).trans (if_neg hb2)) z
end EnG

namespace EnG
open PySem PySem.Spec
open PyProof.Rows L2 LamX
/-- the defs of the top as the head leaves them -/
def TabsAt (q : Program) (mg : Str → Option Value) (h : Heap) : Prop := ∀ d ∈ recsOf q, ∃ a o fd c P, mg d.name = some (.ref a) ∧ h.get? a = some o ∧ o.data = .func fd ∧ fd.code = .ref c ∧ h.IsCode c P #[] ∧ h.TableAt c P #[]
structure LawG (l : PySem.W.OpenLaw) (w : World) (k n : Nat) (mg : Str → Option Value) (fa : Addr) (h : Heap) : Prop where
  ex : ∃ (K : PySem.W.Frag) (cs : List (Addr × Addr)) (sp : Sp), K.In h ∧ (∀ p ∈ cs, h.get? p.2 = some { cls := .none, data := .fields #[] }) ∧ (∀ p ∈ cs, K.lookup p.2 = none) ∧ (∀ p ∈ cs, PySem.W.CodeHd h p.1 p.2) ∧
    (∀ (H : Hp) (a : Addr) (ns : List Int), ns.length ≤ n → (∀ p ∈ cs, H p.2 = some (.tbl #[])) → SqL K H a (ns.map V.int) → sp [.ref a] H (fun v _ => v = .bl true) fun _ _ _ => False) ∧
    ∀ base : Heap, K.In base → base.Ns mainGlobals mg → (∀ p ∈ cs, TabB base mg p.1 p.2) → K1.FnG l.prog w K mg base CX0 k fa sp
theorem walk_G {l : PySem.W.OpenLaw} {n k : Nat} {q : Program} {loose : List Str} {XP : (Str → Option Value) → Heap → Prop} {YP : World → Heap → Prop} {d : DefRec}
    (hn : l.most = some n) (hn2 : n ≤ sizeLine)
        (hdf : d.params.defaults = []) (hr : Room k callerA)
    (F : ∀ (w : World) (mg : Str → Option Value) (fa : Addr) (h : Heap), YP w h → h.Ns mainGlobals mg → mg d.name = some (.ref fa) → TabsAt q mg h → LawG l w k n mg fa h) :
    PySem.W.WalkO q loose XP YP l.row.toRowW
        d [] (fun f vs => PySem.call f vs) := by
  refine Att.attach_callB hn hdf fun w s₀ s₁ mg mb fa o
      pm cd doc a vs ns G Y ho hd hcd hmg hobj hints hlen hbits hg => ?_
  obtain ⟨K, cs, sp, KX, hT, nT, C, hsp, hF⟩ := (F w mg fa _ Y G.T.g hmg G.T.tab).ex
  exact call_tabs KX G.T.g G.T.b G.T.builtins G.T.nolimit hg hT nT C G.T.bmain hobj hints (Nat.le_trans hlen hn2) hr hF (fun H hH hS => hsp H a ns hlen hH hS)
/-- the table of a def's code object -/
theorem tab_of {K : PySem.W.Frag} {q : Program} {mg : Str → Option Value} {h : Heap} {f c P : Addr} {x : Str} {o : Obj} {fd : FuncData} {ec : Value} {dc : Option Addr} {vc : Array Value} {slc : Array (Option Value)} (KX : K.In h) (T : TabsAt q mg h) (hrec : ((recsOf q).any fun e => e.name == x) = true)
    (hx : mg x = some (.ref f)) (lk : K.lookup f = some o) (hd : o.data = .func fd) (hc : fd.code = .ref c) (lc : K.lookup c = some ⟨ec, dc, .fields vc, slc⟩) (h11 : vc[11]? = some (.ref P)) :
    h.get? P = some { cls := .none, data := .fields #[] } ∧ PySem.W.CodeHd h c P := by
  obtain ⟨d, hm, hn⟩ := List.any_eq_true.mp hrec
  have hn : d.name = x := beq_iff_eq.mp hn
  obtain ⟨a', o', fd', c', P', h1, h2, h3, h4, h5, h6⟩ := T d hm
  rw [hn, hx] at h1
  cases h1
  have g1 := KX _ _ lk
  rw [g1] at h2
  cases h2
  rw [hd] at h3
  cases h3
  rw [hc] at h4
  cases h4
  have h6' := h6
  obtain ⟨⟨oc, us, e1, _, e3, e4⟩, hP⟩ := h6
  have g2 := KX _ _ lc
  rw [g2] at e1
  cases e1
  cases e3
  rw [h11] at e4
  cases e4
  exact ⟨hP, PySem.W.CodeHd.of h5 h6'⟩
end EnG

namespace K1
open PySem PySem.Spec
open PyProof.Rows L2 EnT StX SmX TxS DuX ClX
section
variable {K : PySem.W.Frag}
/-- a def where it stands -/
structure DefR (K : PySem.W.Frag) (x qual : Str) (st : Stmt) (f : Addr) : Prop where
  ex : ∃ (oc : Value) (od : Option Addr) (kV doc pm : Value) (an : Option Addr) (cdv ct : Value) (osl : Array (Option Value)), K.lookup f = some ⟨oc, od, .func (PySem.W.fnOf x qual (defArgs st) (defBody st) (defScope st) .none kV doc pm an cdv ct), osl⟩ ∧ PySem.W.codeIn K cdv qual = true
  kp : PySem.W.keepIn
      K (.ref f) = true
theorem DefR.fun_ {x qual : Str} {st : Stmt} {f : Addr} (d : DefR K x qual st f) : ∃ fd, Fun K x qual st f fd := by
  obtain ⟨oc, od, kV, doc, pm, an, cdv, ct, osl, l, c⟩ := d.ex
  exact ⟨_, fun_mk l c d.kp⟩
/-- a def of the top -/
def GloD (K : PySem.W.Frag) (x : Str) (st : Stmt) : Prop := ∃ f, PySem.W.nsIn K mainGlobals x = some (some (.ref f)) ∧ DefR K x x st f
theorem gloD_mk {x : Str} {st : Stmt} {f : Addr} {oc kV doc pm cdv ct : Value} {od an : Option Addr} {osl : Array (Option Value)} (a : PySem.W.nsIn K mainGlobals x = some (some (.ref f)))
    (l : K.lookup f = some ⟨oc, od, .func (PySem.W.fnOf x x (defArgs st) (defBody st) (defScope st) .none kV doc pm an cdv ct), osl⟩) (c : PySem.W.codeIn K cdv x = true) (k : PySem.W.keepIn K (.ref f) = true) : GloD K x st := ⟨f, a, ⟨oc, od, kV, doc, pm, an, cdv, ct, osl, l, c⟩, k⟩
/-- a method of
    the class at C -/
def MethD (K : PySem.W.Frag) (C : Addr) (x qual : Str) (st : Stmt) : Prop := ∃ f, PySem.W.findIn K (.ref C) x = some (some (.ref f)) ∧ PySem.W.isFn K (.ref f) = true ∧ DefR K x qual st f
theorem methD_mk {C : Addr} {x qual : Str} {st : Stmt} {f : Addr} {oc kV doc pm cdv ct : Value} {od an : Option Addr} {osl : Array (Option Value)} (a : PySem.W.findIn K (.ref C) x = some (some (.ref f))) (i : PySem.W.isFn K (.ref f) = true)
    (l : K.lookup f = some ⟨oc, od, .func (PySem.W.fnOf x qual (defArgs st) (defBody st) (defScope st) .none kV doc pm an cdv ct), osl⟩) (c : PySem.W.codeIn K cdv qual = true) (k : PySem.W.keepIn K (.ref f) = true) : MethD K C x qual st := ⟨f, a, i, ⟨oc, od, kV, doc, pm, an, cdv, ct, osl, l, c⟩, k⟩
/-- a property -/
def PropD (K : PySem.W.Frag) (C : Addr) (x qual : Str) (st : Stmt) : Prop := ∃ p g, PropOf K C x p g ∧ DefR K x qual st g
theorem propD_mk {C : Addr} {x qual : Str} {st : Stmt} {p f : Addr} {rest : List Value} {oc kV doc pm cdv ct : Value} {od an : Option Addr} {osl : Array (Option Value)} (a : PySem.W.findIn K (.ref C) x = some (some (.ref p))) (g : PySem.W.specialIn K (.ref p) "__get__" = some (some (.builtin "property.__get__")))
    (t : PySem.W.takesIn K (.ref p) = some true) (r : PySem.W.recIn K p "property" = some (.ref f :: rest))
    (l : K.lookup f = some ⟨oc, od, .func (PySem.W.fnOf x qual (defArgs st) (defBody st) (defScope st) .none kV doc pm an cdv ct), osl⟩) (c : PySem.W.codeIn K cdv qual = true) (k : PySem.W.keepIn K (.ref f) = true) : PropD K C x qual st := ⟨p, f, ⟨a, g, t, rest, r⟩, ⟨oc, od, kV, doc, pm, an, cdv, ct, osl, l, c⟩, k⟩
/-- a static method -/
def StatD (K : PySem.W.Frag) (C : Addr) (mc : Value) (x qual : Str) (st : Stmt) : Prop := ∃ p g, SMet K C mc x p g ∧ DefR K x qual st g
theorem statD_mk {C : Addr} {mc : Value} {x qual : Str} {st : Stmt} {p f : Addr} {rest : List Value} {oc kV doc pm cdv ct : Value} {od an : Option Addr} {osl : Array (Option Value)} (a : PySem.W.findCls K (.ref C) mc x = some (.get (.builtin "staticmethod.__get__") (.ref p) .none (.ref C)))
    (r : PySem.W.recIn K p "staticmethod" = some (.ref f :: rest))
    (l : K.lookup f = some ⟨oc, od, .func (PySem.W.fnOf x qual (defArgs st) (defBody st) (defScope st) .none kV doc pm an cdv ct), osl⟩) (c : PySem.W.codeIn K cdv qual = true) (k : PySem.W.keepIn K (.ref f) = true) : StatD K C mc x qual st := ⟨p, f, ⟨a, ⟨rest, r⟩, k⟩, ⟨oc, od, kV, doc, pm, an, cdv, ct, osl, l, c⟩, k⟩
end
/-- a class with fields -/
structure ClsD (K : PySem.W.Frag) (x : Str) (C : Addr) : Prop where
  g : PySem.W.nsIn K mainGlobals x = some (some (.ref C))
  cl : Cls K C
  mk' : PySem.W.makesIn K C = true
  kC : PySem.W.keepIn K (.ref C) = true
  is : IsC K C
  ne : NeM K C
  cr : CRead K C (.type "type")
  nf : PySem.W.notFirst K C (.ref C) = true
  nB : ∀ t ∈ baseTys, PySem.W.notFirst K C (.type t) = true
theorem clsD_mk {K : PySem.W.Frag} {x : Str} {C : Addr} (g : PySem.W.nsIn K mainGlobals x = some (some (.ref C))) (hd : PySem.W.hasDictIn K C = true) (pg : PySem.W.plainGet K C Str.empty = true) (sa : PySem.W.findIn K (.ref C) "__setattr__" = some (some (.builtin "object.__setattr__"))) (po : PySem.W.plainOver K C = true)
    (kC : PySem.W.keepIn K (.ref C) = true) (mk' : PySem.W.makesIn K C = true)
    (hm : PySem.W.mroIn K C (.type "object") = some true) (ht : PySem.W.takesIn K (.builtin "object.__class__") = some true) (hn : PySem.W.specialIn K (.builtin "object.__class__") "__get__" = some (some (.builtin "getset_descriptor.__get__"))) (ha : PySem.W.findIn K (.ref C) "__class__" = some (some (.builtin "object.__class__")))
    (yes : PySem.W.kitOne K (.ref C) (.ref C) = some true) (o1 : PySem.W.kitOne K (.type "NoneType") (.ref C) = some false) (o2 : PySem.W.kitOne K (.type "bool") (.ref C) = some false) (o3 : PySem.W.kitOne K (.type "int") (.ref C) = some false) (o4 : PySem.W.kitOne K (.type "str") (.ref C) = some false) (o5 : PySem.W.kitOne K (.type "list") (.ref C) = some false) (o6 : PySem.W.kitOne K (.type "tuple") (.ref C) = some false) (o7 : PySem.W.kitOne K (.type "dict") (.ref C) = some false)
    (f1 : PySem.W.notFirst K C (.type "NoneType") = true) (f2 : PySem.W.notFirst K C (.type "bool") = true) (f3 : PySem.W.notFirst K C (.type "int") = true) (f4 : PySem.W.notFirst K C (.type "str") = true) (f5 : PySem.W.notFirst K C (.type "list") = true) (f6 : PySem.W.notFirst K C (.type "tuple") = true) (f7 : PySem.W.notFirst K C (.type "dict") = true) (fC : PySem.W.notFirst K C (.ref C) = true)
    (ne : PySem.W.findIn K (.ref C) "__ne__" = some (some (.builtin "object.__ne__"))) (rd : PySem.W.readsIn K C (.type "type") = true) (ga : PySem.W.specialIn K (.ref C) "__getattribute__" = some (some (.builtin "type.__getattribute__"))) : ClsD K x C := by
  refine ⟨g, ⟨pg, hd, po, sa⟩, mk', kC, ⟨yes, fun t h => ?_, hm, ht, hn, ha⟩, ⟨ne, hm⟩, ⟨rd, ga⟩, fC, fun t h => ?_⟩
  · simp only [baseTys, List.mem_cons, List.not_mem_nil, or_false] at h
    rcases h with rfl | rfl | rfl | rfl | rfl | rfl | rfl
    · exact o1
    · exact o2
    · exact o3
    · exact o4
    · exact o5
    · exact o6
    · exact o7
  · simp only [baseTys, List.mem_cons, List.not_mem_nil, or_false] at h
    rcases h with rfl | rfl | rfl | rfl | rfl | rfl | rfl
    · exact f1
    · exact f2
    · exact f3
    · exact f4
    · exact f5
    · exact f6
    · exact f7
/-- the def at f, its code object at c -/
structure CodD (K : PySem.W.Frag) (x : Str) (st : Stmt) (f c : Addr) : Prop where
  g : PySem.W.nsIn K mainGlobals x = some (some (.ref f))
  fn : FunC K x x st f c
  kp : PySem.W.keepIn K (.ref f) = true
theorem codD_mk {K : PySem.W.Frag} {x : Str} {st : Stmt} {f c : Addr} {oc kV doc pm ct : Value} {od an : Option Addr} {osl : Array (Option Value)} (a : PySem.W.nsIn K mainGlobals x = some (some (.ref f)))
    (l : K.lookup f = some ⟨oc, od, .func (PySem.W.fnOf x x (defArgs st) (defBody st) (defScope st) .none kV doc pm an (.ref c) ct), osl⟩) (cc : PySem.W.codeIn K (.ref c) x = true) (k : PySem.W.keepIn K (.ref f) = true) : CodD K x st f c :=
  ⟨a, ⟨oc, od, kV, doc, pm, an, ct, osl, l, cc⟩, k⟩
theorem raw_2 {P : Program} {w : World} {K : PySem.W.Frag} {mg : Str → Option Value} {base : Heap} {CX : CXT} {k : Nat} {f : Addr} {fd : FuncData} {ps : List Str} {sp : Sp} (B : L2.Binds K fd ps []) (G : FnOk P w K mg base CX k f fd ps sp) : FnR P w K mg base CX k f sp :=
  (G.raw B .nil).imp fun vs H Q E h => by rw [List.append_nil]; exact h
end K1

namespace K1
open PySem PySem.Spec
open PyProof.Rows L2 EnT StX SmX TxS DuX ClX
abbrev frees : List Str := ["len", "int", "abs", "range", "list", "str", "set", "sorted", "tuple", "isinstance", "enumerate", "repr", "bool", "any", "all", "max", "min"]
/-- the tuple of the signs -/
def SgD (K : PySem.W.Frag) (aS : Addr) : Prop := PySem.W.nsIn K mainGlobals "SIGNS" = some (some (.ref aS)) ∧ ∃ (dd : Option Addr) (t1 t2 t3 t4 : Tok) (n : Nat) (sl : Array (Option Value)), K.lookup aS = some ⟨.type "tuple", dd, .seq #[.str "|" t1, .str "&" t2, .str "-" t3, .str "^" t4] n, sl⟩
theorem sgD_mk {K : PySem.W.Frag} {aS : Addr} {dd : Option Addr} {t1 t2 t3 t4 : Tok} {n : Nat} {sl : Array (Option Value)} (a : PySem.W.nsIn K mainGlobals "SIGNS" = some (some (.ref aS))) (l : K.lookup aS = some ⟨.type "tuple", dd, .seq #[.str "|" t1, .str "&" t2, .str "-" t3, .str "^" t4] n, sl⟩) : SgD K aS := ⟨a, dd, t1, t2, t3, t4, n, sl, l⟩
structure Raw (K : PySem.W.Frag) (C D aS : Addr) : Prop where
  exp : ClsD K "Expression" C
  fac : ClsD K "Fact" D
  n1 : PySem.W.findIn K (.ref C) "_form" = some none
  n2 : PySem.W.findIn K (.ref C) "_leaves" = some none
  n3 : PySem.W.findIn K (.ref C) "_depth" = some none
  n4 : PySem.W.findIn K (.ref C) "_fields" = some none
  n5 : PySem.W.findIn K (.ref C) "_has_given" = some none
  n6 : PySem.W.findIn K (.ref D) "_left" = some none
  n7 : PySem.W.findIn K (.ref D) "_right" = some none
  sf : PySem.W.selfFirst K C = true
  dc : PySem.W.kitOne K (.ref D) (.ref C) = some false
  nfD : PySem.W.notFirst K C (.ref D) = true
  ini : MethD K C "__init__" "Expression.__init__" sInitE
  str : MethD K C "__str__" "Expression.__str__" sStrE
  rep : MethD K C "__repr__" "Expression.__repr__" sReprE
  eq : MethD K C "__eq__" "Expression.__eq__" sEqE
  m1 : MethD K C "__or__" "Expression.__or__" sOrE
  m2 : MethD K C "__and__" "Expression.__and__" sAndE
  m3 : MethD K C "__sub__" "Expression.__sub__" sSubE
  m4 : MethD K C "__xor__" "Expression.__xor__" sXorE
  wi : MethD K C "within" "Expression.within" sWithin
  iniF : MethD K D "__init__" "Fact.__init__" sInitF
  eqF : MethD K D "__eq__" "Fact.__eq__" sEqF
  p1 : PropD K C "form" "Expression.form" sFormP
  p2 : PropD K C "leaves" "Expression.leaves" sLeavesP
  p3 : PropD K C "depth" "Expression.depth" sDepthP
  p4 : PropD K C "fields" "Expression.fields" sFieldsP
  p5 : PropD K C "has_given" "Expression.has_given" sGivenP
  p6 : PropD K D "left" "Fact.left" sLeftP
  p7 : PropD K D "right" "Fact.right" sRightP
  p8 : PropD K D "form" "Fact.form" sFormF
  rd : StatD K C (.type "type") "read" "Expression.read" sReadE
  g1 : GloD K "is_name" sIsName
  g2 : GloD K "is_field" sIsField
  g3 : GloD K "form_size" sSize
  g4 : GloD K "is_triple" sTriple
  g5 : GloD K "check_leaves" sChkL
  g6 : GloD K "check_depth" sChkD
  g7 : GloD K "form_text" sText
  g8 : GloD K "side_text" sSide
  g9 : GloD K "read_counted" sReadC
  g10 : GloD K "take_word" sTake
  g11 : GloD K "joined" sJoined
  g12 : GloD K "form_leaves" sLeavesF
  g13 : GloD K "form_fields" sFieldsF
  g14 : GloD K "check_expression" sChkE
  g15 : GloD K "with_sign" sSign
  g16 : GloD K "_law_cell" sCell
  g17 : GloD K "_law_pool" sPool
  g18 : GloD K "_law_draw" sDraw
  g19 : GloD K "_law_names" sNames
  g20 : GloD K "_law_form" sForm
  g21 : GloD K "_law_line" sLine
  g22 : GloD K "_law_words" sWords
  g23 : GloD K "_law_deep" sDeep
  sg : SgD K aS
  c1 : ∃ t, PySem.W.nsIn K mainGlobals "LONGEST_NAME" = some (some (.int 8 t))
  c2 : ∃ t, PySem.W.nsIn K mainGlobals "GIVEN" = some (some (.str tGiven t))
  c3 : ∃ t, PySem.W.nsIn K mainGlobals "NONE" = some (some (.str tNone t))
  c4 : ∃ t, PySem.W.nsIn K mainGlobals "MOST_LEAVES" = some (some (.int 200 t))
  c5 : ∃ t, PySem.W.nsIn K mainGlobals "MOST_DEPTH" = some (some (.int 20 t))
  free : ∀ x ∈ frees, PySem.W.nsIn K mainGlobals x = some none
section
variable {w : World} {P : Program} {base : Heap} {mg : Str → Option Value} {K : PySem.W.Frag} {C D aS : Addr} {h : Heap}
theorem free_of (R : Raw K C D aS) (X : K.In h) (G : h.Ns mainGlobals mg) : Free mg := by
  have z : ∀ x ∈ frees, mg x = none := fun x hx => PySem.W.mg_none_of X G (R.free x hx)
  exact ⟨z _ (by simp), z _ (by simp), z _ (by simp), z _ (by simp), z _ (by simp), z _ (by simp), z _ (by simp), z _ (by simp), z _ (by simp), z _ (by simp), z _ (by simp), z _ (by simp), z _ (by simp), z _ (by simp), z _ (by simp), z _ (by simp), z _ (by simp)⟩
theorem gf_of (R : Raw K C D aS) (X : K.In h) (G : h.Ns mainGlobals mg) : Gf K mg aS := by
  obtain ⟨a, dd, t1, t2, t3, t4, n, sl, l⟩ := R.sg
  obtain ⟨u2, e2⟩ := R.c2
  obtain ⟨u3, e3⟩ := R.c3
  obtain ⟨u4, e4⟩ := R.c4
  obtain ⟨u5, e5⟩ := R.c5
  exact ⟨free_of R X G, PySem.W.mg_of X G a, fun H => .inr ⟨_, _, _, l, rfl, rfl, (by show 4 ≤ sizeLine; decide), .cons ⟨_, rfl⟩ (.cons ⟨_, rfl⟩ (.cons ⟨_, rfl⟩ (.cons ⟨_, rfl⟩ .nil)))⟩, ⟨u2, PySem.W.mg_of X G e2⟩, ⟨u3, PySem.W.mg_of X G e3⟩, ⟨u4, PySem.W.mg_of X G e4⟩, ⟨u5, PySem.W.mg_of X G e5⟩⟩
theorem has_of {k : Nat} {x : Str} {st : Stmt} {ps : List Str} {sp : Sp} (d : GloD K x st) (X : K.In h) (G : h.Ns mainGlobals mg) (B : ∀ f fd, Fun K x x st f fd → L2.Binds K fd ps []) (ok : ∀ f fd, mg x = some (.ref f) → Fun K x x st f fd → FnOk P w K mg base CX0 k f fd ps sp) : ∃ f, Has P w K mg base CX0 k x f ps sp := by
  obtain ⟨f, a, d⟩ := d
  obtain ⟨fd, F⟩ := d.fun_
  have m := PySem.W.mg_of X G a
  exact ⟨f, m, F.kp, fd, ok f fd m F, B f fd F⟩
end
end K1

namespace K1
open PySem PySem.Spec
open PyProof.Rows L2 EnT StX SmX TxS DuX ClX
theorem u_or : uOr = ("__or__" : Str) := by decide +kernel
theorem u_and : uAnd = ("__and__" : Str) := by decide +kernel
theorem u_sub : uSub = ("__sub__" : Str) := by decide +kernel
theorem u_xor : uXor = ("__xor__" : Str) := by decide +kernel
section
variable {w : World} {P : Program} {base : Heap} {mg : Str → Option Value} {K : PySem.W.Frag} {C D aS : Addr} {h : Heap}
theorem pp_of {D : Addr} {x y qual : Str} {st : Stmt} (c : Cls K D) (d : PropD K D x qual st) (B : ∀ f fd, Fun K x qual st f fd → L2.Binds K fd ["self"] []) (ok : ∀ f fd, Fun K x qual st f fd → FnOk P w K mg base CX0 1 f fd ["self"] (getSp D y)) : Pp P w K mg base D x y := by
  obtain ⟨p, g, pr, d⟩ := d
  obtain ⟨fd, F⟩ := d.fun_
  exact ⟨c, p, g, fd, pr, ok g fd F, B g fd F⟩
theorem own_of {D : Addr} {x qual : Str} {st : Stmt} {k : Nat} {ps : List Str} {sp : Sp} (d : MethD K D x qual st) (B : ∀ f fd, Fun K x qual st f fd → L2.Binds K fd ps []) (ok : ∀ f fd, Fun K x qual st f fd → FnOk P w K mg base CX0 k f fd ps sp) : ∃ g, OwnM K D x g ∧ FnR P w K mg base CX0 k g sp := by
  obtain ⟨f, a, i, d⟩ := d
  obtain ⟨fd, F⟩ := d.fun_
  exact ⟨f, ⟨a, i⟩, raw_2 (B f fd F) (ok f fd F)⟩
theorem ex2_of (R : Raw K C D aS) (X : K.In h) (G : h.Ns mainGlobals mg) : Ex2 P w K mg base C D (.type "type") := by
  have T : Free mg := free_of R X G
  have GF := gf_of R X G
  have M : ExpC K mg C := ⟨PySem.W.mg_of X G R.exp.g, R.exp.cl, R.n1, R.n2, R.n3, R.n4, R.n5⟩
  have MF : FacC K mg D := ⟨PySem.W.mg_of X G R.fac.g, R.fac.cl, R.n6, R.n7⟩
  obtain ⟨tL, lL⟩ := R.c1
  obtain ⟨f1, h1⟩ := has_of (P := P) (w := w) (base := base) (k := 1) (ps := ["value"]) (sp := spIsName) R.g1 X G (fun f fd F => F.binds (ps := ["value"]) fun _ _ _ _ _ _ us hl => match us, hl with | [_], _ => rfl) fun f fd m F => ok_isname F T ⟨tL, PySem.W.mg_of X G lL⟩
  obtain ⟨f2, h2⟩ := has_of (P := P) (w := w) (base := base) (k := 2) (ps := ["value"]) (sp := spIsField) R.g2 X G (fun f fd F => F.binds (ps := ["value"]) fun _ _ _ _ _ _ us hl => match us, hl with | [_], _ => rfl) fun f fd m F => ok_isfield F GF h1
  obtain ⟨f4, h4⟩ := has_of (P := P) (w := w) (base := base) (k := 1) (ps := ["value"]) (sp := spTriple) R.g4 X G (fun f fd F => F.binds (ps := ["value"]) fun _ _ _ _ _ _ us hl => match us, hl with | [_], _ => rfl) fun f fd m F => ok_triple F GF
  obtain ⟨f3, h3⟩ := has_of (P := P) (w := w) (base := base) (k := 2) (ps := ["value"]) (sp := spSize) R.g3 X G (fun f fd F => F.binds (ps := ["value"]) fun _ _ _ _ _ _ us hl => match us, hl with | [_], _ => rfl) fun f fd m F => ok_size F T h1 h4
  obtain ⟨f5, h5⟩ := has_of (P := P) (w := w) (base := base) (k := 1) (ps := ["leaves"]) (sp := spChk 200) R.g5 X G (fun f fd F => F.binds (ps := ["leaves"]) fun _ _ _ _ _ _ us hl => match us, hl with | [_], _ => rfl) fun f fd m F => ok_chkL F GF
  obtain ⟨f6, h6⟩ := has_of (P := P) (w := w) (base := base) (k := 1) (ps := ["depth"]) (sp := spChk 20) R.g6 X G (fun f fd F => F.binds (ps := ["depth"]) fun _ _ _ _ _ _ us hl => match us, hl with | [_], _ => rfl) fun f fd m F => ok_chkD F GF
  obtain ⟨f8, a8, d8⟩ := R.g8
  obtain ⟨fd8, F8⟩ := d8.fun_
  have mg8 := PySem.W.mg_of X G a8
  obtain ⟨f7, h7⟩ := has_of (P := P) (w := w) (base := base) (k := 12) (ps := ["form"]) (sp := spTextF 6) R.g7 X G (fun f fd F => F.binds (ps := ["form"]) fun _ _ _ _ _ _ us hl => match us, hl with | [_], _ => rfl) fun f fd m F => (ok_texts F F8 T m mg8 5).1
  obtain ⟨f11, h11⟩ := has_of (P := P) (w := w) (base := base) (k := 1) (ps := ["parts"]) (sp := spJoined) R.g11 X G (fun f fd F => F.binds (ps := ["parts"]) fun _ _ _ _ _ _ us hl => match us, hl with | [_], _ => rfl) fun f fd m F => ok_joined F
  obtain ⟨f10, h10⟩ := has_of (P := P) (w := w) (base := base) (k := 2) (ps := ["opened", "word"]) (sp := spTakeX) R.g10 X G (fun f fd F => F.binds (ps := ["opened", "word"]) fun _ _ _ _ _ _ us hl => match us, hl with | [_, _], _ => rfl) fun f fd m F => ok_takeX F GF h11 h1
  obtain ⟨f9, a9, d9⟩ := R.g9
  obtain ⟨fd9, F9⟩ := d9.fun_
  have b9 : L2.Binds K fd9 ["text"] [] := F9.binds (ps := ["text"]) fun _ _ _ _ _ _ us hl => match us, hl with | [_], _ => rfl
  have h9 : TkX.HasT P w K mg base 3 "read_counted" f9 ["text"] spReadC := ⟨PySem.W.mg_of X G a9, F9.kp, fd9, ok_readC F9 T h10 h11, b9⟩
  obtain ⟨f12, h12⟩ := has_of (P := P) (w := w) (base := base) (k := 6) (ps := ["form"]) (sp := spLeaves 6) R.g12 X G (fun f fd F => F.binds (ps := ["form"]) fun _ _ _ _ _ _ us hl => match us, hl with | [_], _ => rfl) fun f fd m F => ok_leavesF F T m 5
  obtain ⟨f13, h13⟩ := has_of (P := P) (w := w) (base := base) (k := 7) (ps := ["form"]) (sp := spFields 6) R.g13 X G (fun f fd F => F.binds (ps := ["form"]) fun _ _ _ _ _ _ us hl => match us, hl with | [_], _ => rfl) fun f fd m F => ok_fieldsF (n := 3) F T h12 h2
  obtain ⟨f14, h14⟩ := has_of (P := P) (w := w) (base := base) (k := 1) (ps := ["value"]) (sp := spChkE C) R.g14 X G (fun f fd F => F.binds (ps := ["value"]) fun _ _ _ _ _ _ us hl => match us, hl with | [_], _ => rfl) fun f fd m F => ok_chkE F T M R.exp.is
  obtain ⟨fI, aI, iI, dI⟩ := R.ini
  obtain ⟨ocI, odI, kVI, docI, pmI, anI, cdI, ctI, oslI, lI, cI⟩ := dI.ex
  have FI := fun_mk (st := sInitE) lI cI dI.kp
  have bI : L2.Binds K _ ["self", "form"] [] := FI.binds (ps := ["self", "form"]) fun _ _ _ _ _ _ us hl => match us, hl with | [_, _], _ => rfl
  have OI : FnOk P w K mg base CX0 8 fI _ ["self", "form"] (spInitE C) := ok_initE FI GF M h3 h5 h6 h13 h12
  have MK : Mk K C fI := ⟨R.exp.mk', aI, iI, R.exp.kC⟩
  have pF : Pp P w K mg base C "form" "_form" := pp_of R.exp.cl R.p1 (fun f fd F => F.binds (ps := ["self"]) fun _ _ _ _ _ _ us hl => match us, hl with | [_], _ => rfl) fun f fd F => ok_formP F M
  obtain ⟨f15, h15⟩ := has_of (P := P) (w := w) (base := base) (k := 10) (ps := ["sign", "one", "other"]) (sp := spSign C) R.g15 X G (fun f fd F => F.binds (ps := ["sign", "one", "other"]) fun _ _ _ _ _ _ us hl => match us, hl with | [_, _, _], _ => rfl) fun f fd m F => ok_sign F M MK (raw_2 bI OI) h14 pF
  obtain ⟨pR, gR, mR, dR⟩ := R.rd
  obtain ⟨ocR, odR, kVR, docR, pmR, anR, cdR, ctR, oslR, lR, cR⟩ := dR.ex
  have FR := fun_mk (st := sReadE) lR cR dR.kp
  have bR : L2.Binds K _ ["text"] [] := FR.binds (ps := ["text"]) fun _ _ _ _ _ _ us hl => match us, hl with | [_], _ => rfl
  obtain ⟨fJ, aJ, iJ, dJ⟩ := R.iniF
  obtain ⟨fdJ, FJ⟩ := dJ.fun_
  have bJ : L2.Binds K fdJ ["self", "left", "right"] [] := FJ.binds (ps := ["self", "left", "right"]) fun _ _ _ _ _ _ us hl => match us, hl with | [_, _, _], _ => rfl
  have MJ : Mk K D fJ := ⟨R.fac.mk', aJ, iJ, R.fac.kC⟩
  have RJ : FnR P w K mg base CX0 2 fJ (spInitF C D) := raw_2 bJ (ok_initF FJ MF h14)
  have eqE : ∃ g, OwnM K C "__eq__" g ∧ FnR P w K mg base CX0 3 g (spEqE K C) := own_of R.eq (fun f fd F => F.binds (ps := ["self", "other"]) fun _ _ _ _ _ _ us hl => match us, hl with | [_, _], _ => rfl) fun f fd F => ok_eqE F T M R.exp.is pF
  have pLe : Pp P w K mg base D "left" "_left" := pp_of R.fac.cl R.p6 (fun f fd F => F.binds (ps := ["self"]) fun _ _ _ _ _ _ us hl => match us, hl with | [_], _ => rfl) fun f fd F => ok_leftP F MF
  have pRi : Pp P w K mg base D "right" "_right" := pp_of R.fac.cl R.p7 (fun f fd F => F.binds (ps := ["self"]) fun _ _ _ _ _ _ us hl => match us, hl with | [_], _ => rfl) fun f fd F => ok_rightP F MF
  obtain ⟨gE, mE, FE⟩ := eqE
  have E1 : Ex P w K mg base C D (.type "type") := {
    T := T
    M := M
    I := R.exp.is
    cr := R.exp.cr
    mkE := ⟨fI, _, _, MK, raw_2 bI OI, OI, ⟨fun s us ws X hu hw => match us, ws, hu, hw with | [_], [_], _, _ => .of_eq rfl, fun r1 r2 => r1.append r2⟩⟩
    read := ⟨pR, gR, _, _, mR, ok_readE FR M MK (raw_2 bI OI) h9 h5, bR, ⟨fun s us ws X hu hw => match us, ws, hu, hw with | [], [_], _, _ => .of_eq rfl, fun _ r => r⟩⟩
    pF := pF
    pL := pp_of R.exp.cl R.p2 (fun f fd F => F.binds (ps := ["self"]) fun _ _ _ _ _ _ us hl => match us, hl with | [_], _ => rfl) fun f fd F => ok_leavesP F M
    pD := pp_of R.exp.cl R.p3 (fun f fd F => F.binds (ps := ["self"]) fun _ _ _ _ _ _ us hl => match us, hl with | [_], _ => rfl) fun f fd F => ok_depthP F M
    pS := pp_of R.exp.cl R.p4 (fun f fd F => F.binds (ps := ["self"]) fun _ _ _ _ _ _ us hl => match us, hl with | [_], _ => rfl) fun f fd F => ok_fieldsP F M
    pG := pp_of R.exp.cl R.p5 (fun f fd F => F.binds (ps := ["self"]) fun _ _ _ _ _ _ us hl => match us, hl with | [_], _ => rfl) fun f fd F => ok_givenP F M
    str := own_of R.str (fun f fd F => F.binds (ps := ["self"]) fun _ _ _ _ _ _ us hl => match us, hl with | [_], _ => rfl) fun f fd F => ok_strE F T M h7
    rep := own_of R.rep (fun f fd F => F.binds (ps := ["self"]) fun _ _ _ _ _ _ us hl => match us, hl with | [_], _ => rfl) fun f fd F => ok_reprE F M
    eq := ⟨gE, mE, FE⟩
    nf := R.exp.nf
    words := has_of R.g22 X G (fun f fd F => F.binds (ps := ["_law_shape"]) fun _ _ _ _ _ _ us hl => match us, hl with | [_], _ => rfl) fun f fd m F => ok_words F T m 5
    deep := has_of R.g23 X G (fun f fd F => F.binds (ps := ["_law_shape"]) fun _ _ _ _ _ _ us hl => match us, hl with | [_], _ => rfl) fun f fd m F => ok_deep F T m 5
    line := has_of R.g21 X G (fun f fd F => F.binds (ps := ["_law_shape", "_law_inside"]) fun _ _ _ _ _ _ us hl => match us, hl with | [_, _], _ => rfl) fun f fd m F => ok_line F T m 5 }
  obtain ⟨gW, aW, iW, dW⟩ := R.wi
  obtain ⟨fdW, FW⟩ := dW.fun_
  have bW : L2.Binds K fdW ["self", "other"] [] := FW.binds (ps := ["self", "other"]) fun _ _ _ _ _ _ us hl => match us, hl with | [_, _], _ => rfl
  obtain ⟨pO, gO, prO, dO⟩ := R.p8
  obtain ⟨fdO, FO⟩ := dO.fun_
  have bO : L2.Binds K fdO ["self"] [] := FO.binds (ps := ["self"]) fun _ _ _ _ _ _ us hl => match us, hl with | [_], _ => rfl
  exact {
    e := E1
    J := R.fac.is
    F := MF
    dc := R.dc
    nfD := R.nfD
    nfF := R.fac.nf
    nfB := R.exp.nB
    sf := R.sf
    neC := R.exp.ne
    neD := R.fac.ne
    or_ := by rw [u_or]; exact own_of R.m1 (fun f fd F => F.binds (ps := ["self", "other"]) fun _ _ _ _ _ _ us hl => match us, hl with | [_, _], _ => rfl) fun f fd F => ok_orE F h15
    and_ := by rw [u_and]; exact own_of R.m2 (fun f fd F => F.binds (ps := ["self", "other"]) fun _ _ _ _ _ _ us hl => match us, hl with | [_, _], _ => rfl) fun f fd F => ok_andE F h15
    sub_ := by rw [u_sub]; exact own_of R.m3 (fun f fd F => F.binds (ps := ["self", "other"]) fun _ _ _ _ _ _ us hl => match us, hl with | [_, _], _ => rfl) fun f fd F => ok_subE F h15
    xor_ := by rw [u_xor]; exact own_of R.m4 (fun f fd F => F.binds (ps := ["self", "other"]) fun _ _ _ _ _ _ us hl => match us, hl with | [_, _], _ => rfl) fun f fd F => ok_xorE F h15
    mkF := ⟨fJ, MJ, RJ⟩
    wi := ⟨gW, fdW, ⟨aW, iW, dW.kp⟩, ok_within FW MF MJ RJ, bW⟩
    eqF := own_of R.eqF (fun f fd F => F.binds (ps := ["self", "other"]) fun _ _ _ _ _ _ us hl => match us, hl with | [_, _], _ => rfl) fun f fd F => ok_eqF F T M R.exp.is MF R.fac.is R.exp.nf mE FE pLe pRi
    pLe := pLe
    pRi := pRi
    pFo := ⟨pO, gO, fdO, prO, ok_formF FO MF pF, bO⟩ }
theorem law_end {l : PySem.W.OpenLaw} {fa f1 c1 f2 c2 f3 c3 f4 c4 : Addr} (R : Raw K C D aS) (D1 : CodD K "_law_one_right" sOne f1 c1) (D2 : CodD K "_law_two_right" sTwo f2 c2) (D3 : CodD K "_law_right" sRight f3 c3) (D4 : CodD K "law" sLaw f4 c4)
    (X : K.In h) (G : h.Ns mainGlobals mg) (hmg : mg "law" = some (.ref fa)) : EnG.LawG l w 18 63 mg fa h := by
  have e := hmg.symm.trans (PySem.W.mg_of X G D4.g)
  cases e
  refine ⟨K, [], spLaw K, X, (fun p hp => by cases hp), (fun p hp => by cases hp), (fun p hp => by cases hp), fun H a ns hl hH hS => ⟨a, ns, rfl, hS, by omega, fun _ => rfl⟩, fun base hb hG hT => ?_⟩
  have V2 : Ex2 l.prog w K mg base C D (.type "type") := ex2_of R X G
  have T := V2.e.T
  obtain ⟨fD, hD⟩ := has_of (P := l.prog) (w := w) (base := base) (k := 1) (ps := ["_law_pool_here", "_law_many"]) (sp := spDraw) R.g18 X G (fun f fd F => F.binds (ps := ["_law_pool_here", "_law_many"]) fun _ _ _ _ _ _ us hl => match us, hl with | [_, _], _ => rfl) fun f fd m F => ok_draw F T
  obtain ⟨fE, aE, dE⟩ := R.g18
  obtain ⟨fdE, FE⟩ := dE.fun_
  have RT : Rt l.prog w K mg base := {
    T := T
    draw := ⟨fD, hD⟩
    names := has_of R.g19 X G (fun f fd F => F.binds (ps := ["_law_pool_here", "_law_many"]) fun _ _ _ _ _ _ us hl => match us, hl with | [_, _], _ => rfl) fun f fd m F => ok_names F T FE (PySem.W.mg_of X G aE)
    form := has_of R.g20 X G (fun f fd F => F.binds (ps := ["_law_pool_here", "_law_words_here", "_law_deep_here"]) fun _ _ _ _ _ _ us hl => match us, hl with | [_, _, _], _ => rfl) fun f fd m F => ok_form F T m hD 4
    one := ⟨f1, PySem.W.mg_of X G D1.g, D1.kp, ok_one D1.fn V2.e⟩
    two := ⟨f2, PySem.W.mg_of X G D2.g, D2.kp, ok_two D2.fn V2⟩ }
  exact ok_law D4.fn T ⟨has_of R.g16 X G (fun f fd F => F.binds (ps := ["_law_cells", "_law_k"]) fun _ _ _ _ _ _ us hl => match us, hl with | [_, _], _ => rfl) fun f fd m F => ok_cell F T,
    has_of R.g17 X G (fun f fd F => F.binds (ps := ["_law_cell_here"]) fun _ _ _ _ _ _ us hl => match us, hl with | [_], _ => rfl) fun f fd m F => ok_pool F T, ⟨f3, PySem.W.mg_of X G D3.g, D3.kp, ok_right D3.fn RT⟩⟩
end
end K1
theorem K1.ex1 {α : Sort _} {p : α → Prop} {a : α} (h : p a) : ∃ x, p x := ⟨a, h⟩
set_option maxHeartbeats 0
section
open PySem PySem.W PyProof.Rows
theorem PySem.Challenge.cw_onemember_k04_expressions_made_holds : PySem.Challenge.rw_onemember_k04_expressions_made.Holds := by
  refine K1.hdT.2 (K1.HeadTag.mk ?_)
  delta K1.hdT
  dsimp only
  k_fill
  refine EnG.walk_G (l := PySem.Challenge.rw_onemember_k04_expressions_made) (n := 63) (k := 18) rfl (by decide) rfl ⟨rfl, by decide, by decide⟩ ?F
  intro w mg fa h Y G hmg TB
  have KX := kIn_of Y
  refine' K1.law_end ?R ?D1 ?D2 ?D3 ?D4 KX G hmg
  case D1 =>
    refine' K1.codD_mk ?a ?l ?c ?k
    (case a => k_is)
    (case l => k_is)
    (case c => k_is)
    (case k => k_is)
  case D2 =>
    refine' K1.codD_mk ?a ?l ?c ?k
    (case a => k_is)
    (case l => k_is)
    (case c => k_is)
    (case k => k_is)
  case D3 =>
    refine' K1.codD_mk ?a ?l ?c ?k
    (case a => k_is)
    (case l => k_is)
    (case c => k_is)
    (case k => k_is)
  case D4 =>
    refine' K1.codD_mk ?a ?l ?c ?k
    (case a => k_is)
    (case l => k_is)
    (case c => k_is)
    (case k => k_is)
  case R =>
    refine' { exp := ?z_exp, fac := ?z_fac, n1 := ?z_n1, n2 := ?z_n2, n3 := ?z_n3, n4 := ?z_n4, n5 := ?z_n5, n6 := ?z_n6, n7 := ?z_n7, sf := ?z_sf, dc := ?z_dc, nfD := ?z_nfD, ini := ?z_ini, str := ?z_str, rep := ?z_rep, eq := ?z_eq, m1 := ?z_m1, m2 := ?z_m2, m3 := ?z_m3, m4 := ?z_m4, wi := ?z_wi, iniF := ?z_iniF, eqF := ?z_eqF, p1 := ?z_p1, p2 := ?z_p2, p3 := ?z_p3, p4 := ?z_p4, p5 := ?z_p5, p6 := ?z_p6, p7 := ?z_p7, p8 := ?z_p8, rd := ?z_rd, g1 := ?z_g1, g2 := ?z_g2, g3 := ?z_g3, g4 := ?z_g4, g5 := ?z_g5, g6 := ?z_g6, g7 := ?z_g7, g8 := ?z_g8, g9 := ?z_g9, g10 := ?z_g10, g11 := ?z_g11, g12 := ?z_g12, g13 := ?z_g13, g14 := ?z_g14, g15 := ?z_g15, g16 := ?z_g16, g17 := ?z_g17, g18 := ?z_g18, g19 := ?z_g19, g20 := ?z_g20, g21 := ?z_g21, g22 := ?z_g22, g23 := ?z_g23, sg := ?z_sg, c1 := ?z_c1, c2 := ?z_c2, c3 := ?z_c3, c4 := ?z_c4, c5 := ?z_c5, free := ?z_free }
    case z_exp =>
      refine' K1.clsD_mk ?g ?hd ?pg ?sa ?po ?kC ?mk ?hm ?ht ?hn ?ha ?yes ?o1 ?o2 ?o3 ?o4 ?o5 ?o6 ?o7 ?f1 ?f2 ?f3 ?f4 ?f5 ?f6 ?f7 ?fC ?ne ?rd ?ga
      (case g => k_is)
      (case hd => k_is)
      (case pg => k_is)
      (case sa => k_is)
      (case po => k_is)
      (case kC => k_is)
      (case mk => k_is)
      (case hm => k_is)
      (case ht => k_is)
      (case hn => k_is)
      (case ha => k_is)
      (case yes => kit_is)
      (case o1 => kit_is)
      (case o2 => kit_is)
      (case o3 => kit_is)
      (case o4 => kit_is)
      (case o5 => kit_is)
      (case o6 => kit_is)
      (case o7 => kit_is)
      (case f1 => k_is)
      (case f2 => k_is)
      (case f3 => k_is)
      (case f4 => k_is)
      (case f5 => k_is)
      (case f6 => k_is)
      (case f7 => k_is)
      (case fC => k_is)
      (case ne => k_is)
      (case rd => k_is)
      (case ga => k_is)
    case z_fac =>
      refine' K1.clsD_mk ?g ?hd ?pg ?sa ?po ?kC ?mk ?hm ?ht ?hn ?ha ?yes ?o1 ?o2 ?o3 ?o4 ?o5 ?o6 ?o7 ?f1 ?f2 ?f3 ?f4 ?f5 ?f6 ?f7 ?fC ?ne ?rd ?ga
      (case g => k_is)
      (case hd => k_is)
      (case pg => k_is)
      (case sa => k_is)
      (case po => k_is)
      (case kC => k_is)
      (case mk => k_is)
      (case hm => k_is)
      (case ht => k_is)
      (case hn => k_is)
      (case ha => k_is)
      (case yes => kit_is)
      (case o1 => kit_is)
      (case o2 => kit_is)
      (case o3 => kit_is)
      (case o4 => kit_is)
      (case o5 => kit_is)
      (case o6 => kit_is)
      (case o7 => kit_is)
      (case f1 => k_is)
      (case f2 => k_is)
      (case f3 => k_is)
      (case f4 => k_is)
      (case f5 => k_is)
      (case f6 => k_is)
      (case f7 => k_is)
      (case fC => k_is)
      (case ne => k_is)
      (case rd => k_is)
      (case ga => k_is)
    (case z_n1 => k_is)
    (case z_n2 => k_is)
    (case z_n3 => k_is)
    (case z_n4 => k_is)
    (case z_n5 => k_is)
    (case z_n6 => k_is)
    (case z_n7 => k_is)
    (case z_sf => k_is)
    (case z_dc => kit_is)
    (case z_nfD => k_is)
    case z_ini =>
      refine' K1.methD_mk ?a ?i ?l ?c ?k
      (case a => k_is)
      (case i => k_is)
      (case l => k_is)
      (case c => k_is)
      (case k => k_is)
    case z_str =>
      refine' K1.methD_mk ?a ?i ?l ?c ?k
      (case a => k_is)
      (case i => k_is)
      (case l => k_is)
      (case c => k_is)
      (case k => k_is)
    case z_rep =>
      refine' K1.methD_mk ?a ?i ?l ?c ?k
      (case a => k_is)
      (case i => k_is)
      (case l => k_is)
      (case c => k_is)
      (case k => k_is)
    case z_eq =>
      refine' K1.methD_mk ?a ?i ?l ?c ?k
      (case a => k_is)
      (case i => k_is)
      (case l => k_is)
      (case c => k_is)
      (case k => k_is)
    case z_m1 =>
      refine' K1.methD_mk ?a ?i ?l ?c ?k
      (case a => k_is)
      (case i => k_is)
      (case l => k_is)
      (case c => k_is)
      (case k => k_is)
    case z_m2 =>
      refine' K1.methD_mk ?a ?i ?l ?c ?k
      (case a => k_is)
      (case i => k_is)
      (case l => k_is)
      (case c => k_is)
      (case k => k_is)
    case z_m3 =>
      refine' K1.methD_mk ?a ?i ?l ?c ?k
      (case a => k_is)
      (case i => k_is)
      (case l => k_is)
      (case c => k_is)
      (case k => k_is)
    case z_m4 =>
      refine' K1.methD_mk ?a ?i ?l ?c ?k
      (case a => k_is)
      (case i => k_is)
      (case l => k_is)
      (case c => k_is)
      (case k => k_is)
    case z_wi =>
      refine' K1.methD_mk ?a ?i ?l ?c ?k
      (case a => k_is)
      (case i => k_is)
      (case l => k_is)
      (case c => k_is)
      (case k => k_is)
    case z_iniF =>
      refine' K1.methD_mk ?a ?i ?l ?c ?k
      (case a => k_is)
      (case i => k_is)
      (case l => k_is)
      (case c => k_is)
      (case k => k_is)
    case z_eqF =>
      refine' K1.methD_mk ?a ?i ?l ?c ?k
      (case a => k_is)
      (case i => k_is)
      (case l => k_is)
      (case c => k_is)
      (case k => k_is)
    case z_p1 =>
      refine' K1.propD_mk ?a ?g ?t ?r ?l ?c ?k
      (case a => k_is)
      (case g => k_is)
      (case t => k_is)
      (case r => k_is)
      (case l => k_is)
      (case c => k_is)
      (case k => k_is)
    case z_p2 =>
      refine' K1.propD_mk ?a ?g ?t ?r ?l ?c ?k
      (case a => k_is)
      (case g => k_is)
      (case t => k_is)
      (case r => k_is)
      (case l => k_is)
      (case c => k_is)
      (case k => k_is)
    case z_p3 =>
      refine' K1.propD_mk ?a ?g ?t ?r ?l ?c ?k
      (case a => k_is)
      (case g => k_is)
      (case t => k_is)
      (case r => k_is)
      (case l => k_is)
      (case c => k_is)
      (case k => k_is)
    case z_p4 =>
      refine' K1.propD_mk ?a ?g ?t ?r ?l ?c ?k
      (case a => k_is)
      (case g => k_is)
      (case t => k_is)
      (case r => k_is)
      (case l => k_is)
      (case c => k_is)
      (case k => k_is)
    case z_p5 =>
      refine' K1.propD_mk ?a ?g ?t ?r ?l ?c ?k
      (case a => k_is)
      (case g => k_is)
      (case t => k_is)
      (case r => k_is)
      (case l => k_is)
      (case c => k_is)
      (case k => k_is)
    case z_p6 =>
      refine' K1.propD_mk ?a ?g ?t ?r ?l ?c ?k
      (case a => k_is)
      (case g => k_is)
      (case t => k_is)
      (case r => k_is)
      (case l => k_is)
      (case c => k_is)
      (case k => k_is)
    case z_p7 =>
      refine' K1.propD_mk ?a ?g ?t ?r ?l ?c ?k
      (case a => k_is)
      (case g => k_is)
      (case t => k_is)
      (case r => k_is)
      (case l => k_is)
      (case c => k_is)
      (case k => k_is)
    case z_p8 =>
      refine' K1.propD_mk ?a ?g ?t ?r ?l ?c ?k
      (case a => k_is)
      (case g => k_is)
      (case t => k_is)
      (case r => k_is)
      (case l => k_is)
      (case c => k_is)
      (case k => k_is)
    case z_rd =>
      refine' K1.statD_mk ?a ?r ?l ?c ?k
      (case a => k_is)
      (case r => k_is)
      (case l => k_is)
      (case c => k_is)
      (case k => k_is)
    case z_g1 =>
      refine' K1.gloD_mk ?a ?l ?c ?k
      (case a => k_is)
      (case l => k_is)
      (case c => k_is)
      (case k => k_is)
    case z_g2 =>
      refine' K1.gloD_mk ?a ?l ?c ?k
      (case a => k_is)
      (case l => k_is)
      (case c => k_is)
      (case k => k_is)
    case z_g3 =>
      refine' K1.gloD_mk ?a ?l ?c ?k
      (case a => k_is)
      (case l => k_is)
      (case c => k_is)
      (case k => k_is)
    case z_g4 =>
      refine' K1.gloD_mk ?a ?l ?c ?k
      (case a => k_is)
      (case l => k_is)
      (case c => k_is)
      (case k => k_is)
    case z_g5 =>
      refine' K1.gloD_mk ?a ?l ?c ?k
      (case a => k_is)
      (case l => k_is)
      (case c => k_is)
      (case k => k_is)
    case z_g6 =>
      refine' K1.gloD_mk ?a ?l ?c ?k
      (case a => k_is)
      (case l => k_is)
      (case c => k_is)
      (case k => k_is)
    case z_g7 =>
      refine' K1.gloD_mk ?a ?l ?c ?k
      (case a => k_is)
      (case l => k_is)
      (case c => k_is)
      (case k => k_is)
    case z_g8 =>
      refine' K1.gloD_mk ?a ?l ?c ?k
      (case a => k_is)
      (case l => k_is)
      (case c => k_is)
      (case k => k_is)
    case z_g9 =>
      refine' K1.gloD_mk ?a ?l ?c ?k
      (case a => k_is)
      (case l => k_is)
      (case c => k_is)
      (case k => k_is)
    case z_g10 =>
      refine' K1.gloD_mk ?a ?l ?c ?k
      (case a => k_is)
      (case l => k_is)
      (case c => k_is)
      (case k => k_is)
    case z_g11 =>
      refine' K1.gloD_mk ?a ?l ?c ?k
      (case a => k_is)
      (case l => k_is)
      (case c => k_is)
      (case k => k_is)
    case z_g12 =>
      refine' K1.gloD_mk ?a ?l ?c ?k
      (case a => k_is)
      (case l => k_is)
      (case c => k_is)
      (case k => k_is)
    case z_g13 =>
      refine' K1.gloD_mk ?a ?l ?c ?k
      (case a => k_is)
      (case l => k_is)
      (case c => k_is)
      (case k => k_is)
    case z_g14 =>
      refine' K1.gloD_mk ?a ?l ?c ?k
      (case a => k_is)
      (case l => k_is)
      (case c => k_is)
      (case k => k_is)
    case z_g15 =>
      refine' K1.gloD_mk ?a ?l ?c ?k
      (case a => k_is)
      (case l => k_is)
      (case c => k_is)
      (case k => k_is)
    case z_g16 =>
      refine' K1.gloD_mk ?a ?l ?c ?k
      (case a => k_is)
      (case l => k_is)
      (case c => k_is)
      (case k => k_is)
    case z_g17 =>
      refine' K1.gloD_mk ?a ?l ?c ?k
      (case a => k_is)
      (case l => k_is)
      (case c => k_is)
      (case k => k_is)
    case z_g18 =>
      refine' K1.gloD_mk ?a ?l ?c ?k
      (case a => k_is)
      (case l => k_is)
      (case c => k_is)
      (case k => k_is)
    case z_g19 =>
      refine' K1.gloD_mk ?a ?l ?c ?k
      (case a => k_is)
      (case l => k_is)
      (case c => k_is)
      (case k => k_is)
    case z_g20 =>
      refine' K1.gloD_mk ?a ?l ?c ?k
      (case a => k_is)
      (case l => k_is)
      (case c => k_is)
      (case k => k_is)
    case z_g21 =>
      refine' K1.gloD_mk ?a ?l ?c ?k
      (case a => k_is)
      (case l => k_is)
      (case c => k_is)
      (case k => k_is)
    case z_g22 =>
      refine' K1.gloD_mk ?a ?l ?c ?k
      (case a => k_is)
      (case l => k_is)
      (case c => k_is)
      (case k => k_is)
    case z_g23 =>
      refine' K1.gloD_mk ?a ?l ?c ?k
      (case a => k_is)
      (case l => k_is)
      (case c => k_is)
      (case k => k_is)
    case z_sg =>
      refine' K1.sgD_mk ?a ?l
      (case a => k_is)
      (case l => k_is)
    (case z_c1 => refine' K1.ex1 ?a; (case a => k_is))
    (case z_c2 => refine' K1.ex1 ?a; (case a => k_is))
    (case z_c3 => refine' K1.ex1 ?a; (case a => k_is))
    (case z_c4 => refine' K1.ex1 ?a; (case a => k_is))
    (case z_c5 => refine' K1.ex1 ?a; (case a => k_is))
    case z_free =>
      intro x hx
      simp only [K1.frees, List.mem_cons, List.not_mem_nil,
          or_false] at hx
      rcases hx with rfl | rfl | rfl | rfl | rfl | rfl | rfl | rfl | rfl | rfl | rfl | rfl | rfl | rfl | rfl | rfl | rfl <;> k_is

end
