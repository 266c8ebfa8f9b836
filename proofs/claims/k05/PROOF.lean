import PyProof.Rows.All
import Wide.All
import OpenK.AllK
import Wide.FinOn
import HandS.ForMost
import HandS.ForExc
import HandS.Star
import HandS.OwnEq
import KE.KCallOwn
import PyProof.InstEq
import PyProof.ListTruth
import PyProof.Conv_bool
import PyProof.ListNew
import KE.KOpsOwn
import HandS.SlotsOwn
import HandS.IsInst
import PyProof.Rows.FactsN_abs
import HandS.Walk
import KE.GoesMore
import KE.GoesEnum
import HandS.StrMore
import KE.KxStill
import HandS.ClsMeth
import HandS.MakeKwOnly
import HandS.Set
import HandS.Strs
import HandS.SetFor
import HandS.ExcInit
import HandS.DictComp
import HandS.Deep
import HandS.RaiseMore
import PyProof.ReprRoads
import KE.DatumIndex
import PyProof.ReprLen
import PyProof.StrLawsRepr
import HandS.FStr
import HandS.Property
import HandS.Small
import HandS.WordsExc
import PyProof.Rows.StrMeet
import HandS.TupAny
import PyProof.NeKinds
import HandS.ExcIs
import KE.KTryMore
import HandS.HotCalls
import HandS.Dict
import HandS.Lambda
import HandS.NoneIn
import HandS.ExcField
import HandS.Flow
import HandS.ReplaceList
import HandS.ReplaceLit
import KE.DataEq
import KE.KEqDict
import PyProof.EqKinds
import PyProof.EqAt
import KE.KFmtOwn
import HandS.Text
import KE.KExcInit
import HandS.ReplaceDef
import HandS.EndTab
import KE.KSortAny
import KE.OsRunLaw
import PySem.Challenge.RW_onemember_k05_expressions_refused
set_option Elab.async false
set_option linter.all false
set_option maxRecDepth 100000
set_option maxHeartbeats 0
section
open PySem PySem.W PySem.Calls PyProof.Rows HeadRun
theorem K1.seen_halves {a b : PyProof.Rows.Seen} {n : Nat} (h1 : a.defs.take n = b.defs.take n) (h3 : a.defs.drop n = b.defs.drop n) (h2 : { a with defs := [] } = { b with defs := [] }) : a = b := by
  have h4 : a.defs = b.defs := by rw [← List.take_append_drop n a.defs, h1, h3, List.take_append_drop]
  cases a
  cases b
  simp only [PyProof.Rows.Seen.mk.injEq] at h2 ⊢
  exact ⟨h4, h2.2⟩
theorem K1.gate7 {p q : Program} {loose mods : List PySem.Str} {Xt : Shared → Bool} {h0 : Heap} {o : Option SharedT} {n : Nat}
    (h1 : o.map (fun s => (looksF p h0 s.abs, (seenQ q loose mods Xt s.abs).2.1, (seenQ q loose mods Xt s.abs).2.2.2.2.1, (seenQ q loose mods Xt s.abs).2.2.2.2.2.2.1, (seenQ q loose mods Xt s.abs).2.2.2.2.2.2.2.2)) = some (true, bltViewBooted, pinGoodD (drecsOf q), plainGoodD q loose, clsGoodW q loose))
    (h2 : o.map (fun s => (seenQ q loose mods Xt s.abs).1.defs.take n) = some ((expectedOf q).defs.take n))
    (h2' : o.map (fun s => (seenQ q loose mods Xt s.abs).1.defs.drop n) = some ((expectedOf q).defs.drop n))
    (h2'' : o.map (fun s => ({ (seenQ q loose mods Xt s.abs).1 with defs := [] } : PyProof.Rows.Seen)) = some { (expectedOf q) with defs := [] })
    (h3 : o.map (fun s => (seenQ q loose mods Xt s.abs).2.2.1) = some true)
    (h3' : o.map (fun s => (seenQ q loose mods Xt s.abs).2.2.2.1) = some true)
    (h4 : plainsOf q (looseW q loose) = [])
    (h5 : o.map (fun s => (seenQ q loose mods Xt s.abs).2.2.2.2.2.2.2.1) = some (wideGood q)) :
    o.map (fun s => (looksF p h0 s.abs, seenQ q loose mods Xt s.abs)) = some (true, openGood q loose) := by
  cases o with
  | none => cases h3
  | some s =>
    simp only [Option.map_some, Option.some.injEq, Prod.mk.injEq] at h1 h2 h2' h2'' h3 h3' h5 ⊢
    obtain ⟨a1, a2, a3, a4, a5⟩ := h1
    have h6 : (seenQ q loose mods Xt s.abs).2.2.2.2.2.1 = plainGoodE q (looseW q loose) := by
      rw [← seenQ_eq]
      show plainSeenE q (looseW q loose) s.abs = _
      unfold plainSeenE plainGoodE
      rw [h4]
      rfl
    exact ⟨a1, Prod.ext (K1.seen_halves h2 h2' h2'') (Prod.ext a2 (Prod.ext h3 (Prod.ext h3' (Prod.ext a3 (Prod.ext h6 (Prod.ext a4 (Prod.ext h5 a5)))))))⟩
theorem K1.gate2 {p p' q q' : Program} {loose loose' mods mods' : List PySem.Str} {Xt Xt' : Shared → Bool} {M M' : Nat} {as : List Addr} {v : List (Option Obj)}
    (pre : ∀ (w : World) (os : OsState), (endF (stepQ (denQ tabQ) p' w) M' p' w os).map (fun s => (looksF p' (boot_heap w.params) s.abs, seenQ q' loose' mods' Xt' s.abs)) = some (true, openGood q' loose'))
    {w : World} {os : OsState}
    (h : (endF (stepQ (denQ tabQ) p w) M p w os).map (fun s => as.map (getT s)) = some v)
    (e1 : (endF (stepQ (denQ tabQ) p w) M p w os).map (fun s => (looksF p (boot_heap w.params) s.abs, seenQ q loose mods Xt s.abs)) = (endF (stepQ (denQ tabQ) p' w) M' p' w os).map (fun s => (looksF p' (boot_heap w.params) s.abs, seenQ q' loose' mods' Xt' s.abs)))
    (e2 : (some (true, openGood q' loose') : Option (Bool × _)) = some (true, openGood q loose)) :
    (endF (stepQ (denQ tabQ) p w) M p w os).map (fun s => (looksF p (boot_heap w.params) s.abs, seenQ q loose mods Xt s.abs, as.map (getT s))) = some (true, openGood q loose, v) := by
  have z := e1.trans ((pre w os).trans e2)
  cases ho : endF (stepQ (denQ tabQ) p w) M p w os with
  | none => rw [ho] at z; cases z
  | some s =>
    rw [ho] at z h
    simp only [Option.map_some, Option.some.injEq, Prod.mk.injEq] at z h ⊢
    exact ⟨z.1, z.2, h⟩
end
namespace K1.Hd
open PySem PySem.W PySem.Calls PyProof.Rows HeadRun
abbrev RR : OpenRow := OpenLaw.row PySem.Challenge.rw_onemember_k05_expressions_refused
def qW : Program := view RR.prog [0, 2, 3, 4, 5, 6, 7, 8, 9, 10, 11, 12, 13, 14, 15, 16, 17, 19, 20, 21, 23, 24, 25, 26, 27, 28, 29, 30, 31, 32, 33, 34, 35, 36, 37, 38, 40, 41, 42, 43, 45, 46, 47, 48, 49, 50, 51, 52, 54, 55, 56, 57, 58, 59, 60, 61, 62, 63, 64, 65, 66, 67]
def lW : List PySem.Str := [PySem.Str.ofString "Members", PySem.Str.ofString "Change", PySem.Str.ofString "Expression", PySem.Str.ofString "Fact"]
def xW : Shared → Bool := fun s => xlAt qW [] s && recOk RR.toRowW.records s
theorem r1 (w : World) (os : OsState) : (endF (stepQ (denQ tabQ) RR.prog w) 17432 RR.prog w os).map (fun s => (looksF RR.prog (boot_heap w.params) s.abs, (seenQ qW lW (importedModules RR.prog.main.body) xW s.abs).2.1, (seenQ qW lW (importedModules RR.prog.main.body) xW s.abs).2.2.2.2.1, (seenQ qW lW (importedModules RR.prog.main.body) xW s.abs).2.2.2.2.2.2.1, (seenQ qW lW (importedModules RR.prog.main.body) xW s.abs).2.2.2.2.2.2.2.2)) = some (true, bltViewBooted, pinGoodD (drecsOf qW), plainGoodD qW lW, clsGoodW qW lW) := by kernel_rfl
theorem r2a (w : World) (os : OsState) : (endF (stepQ (denQ tabQ) RR.prog w) 17432 RR.prog w os).map (fun s => (seenQ qW lW (importedModules RR.prog.main.body) xW s.abs).1.defs.take 26) = some ((expectedOf qW).defs.take 26) := by kernel_rfl
theorem r2b (w : World) (os : OsState) : (endF (stepQ (denQ tabQ) RR.prog w) 17432 RR.prog w os).map (fun s => (seenQ qW lW (importedModules RR.prog.main.body) xW s.abs).1.defs.drop 26) = some ((expectedOf qW).defs.drop 26) := by kernel_rfl
theorem r2c (w : World) (os : OsState) : (endF (stepQ (denQ tabQ) RR.prog w) 17432 RR.prog w os).map (fun s => ({ (seenQ qW lW (importedModules RR.prog.main.body) xW s.abs).1 with defs := [] } : PyProof.Rows.Seen)) = some ({ (expectedOf qW) with defs := [] }) := by kernel_rfl
theorem r3a (w : World) (os : OsState) : (endF (stepQ (denQ tabQ) RR.prog w) 17432 RR.prog w os).map (fun s => (seenQ qW lW (importedModules RR.prog.main.body) xW s.abs).2.2.1) = some (true) := by kernel_rfl
theorem r3b (w : World) (os : OsState) : (endF (stepQ (denQ tabQ) RR.prog w) 17432 RR.prog w os).map (fun s => (seenQ qW lW (importedModules RR.prog.main.body) xW s.abs).2.2.2.1) = some (true) := by kernel_rfl
theorem r4 : plainsOf qW (looseW qW lW) = [] := by kernel_rfl
theorem r5 (w : World) (os : OsState) : (endF (stepQ (denQ tabQ) RR.prog w) 17432 RR.prog w os).map (fun s => (seenQ qW lW (importedModules RR.prog.main.body) xW s.abs).2.2.2.2.2.2.2.1) = some (wideGood qW) := by kernel_rfl
theorem pre (w : World) (os : OsState) : (endF (stepQ (denQ tabQ) RR.prog w) 17432 RR.prog w os).map (fun s => (looksF RR.prog (boot_heap w.params) s.abs, (seenQ qW lW (importedModules RR.prog.main.body) xW s.abs))) = some (true, openGood qW lW) := K1.gate7 (r1 w os) (r2a w os) (r2b w os) (r2c w os) (r3a w os) (r3b w os) r4 (r5 w os)
end K1.Hd
set_option maxHeartbeats 4000000
/-! str(o), repr(o), len(o), bool(o), v in o, o == v, o != v by an own class's methods -/
namespace DuX
open PySem PySem.Spec
open PyProof.Rows L2
section
variable {X : Cx} {CX : CXT} {k : Nat} {g C : Addr} {sp : Sp} {Ek : XK} {pins : List (Addr × Obj)} {σ : L2.St} {H : Hp} {s : Shared}
/-- a method is run somewhere below the body that runs -/
theorem run_below {A : Around} {valsU : List Value} {vs : List V} {Q : VK} (F : FnR X.prog X.w X.K X.mg X.base CX k g sp) (hr : Room k A) (hf : A.frames = X.A.frames) (hx : Passes CX X Ek) (Iv : Inv X pins σ H s) (r : Vals vs valsU) (hyp : sp vs H Q Ek) :
    wpAny (model X.prog X.w) A (call (.ref g) valsU) (EP X pins σ Q) X.xe s := by
  have e0 : Env0 X.prog X.w X.K
      X.mg X.base A X.stack s H := by
    obtain ⟨a1, a2, a3, a4, a5, a6, a7, a8⟩ := Iv.env0
    exact ⟨by rw [hf]; exact a1, a2, a3, a4, a5, a6, a7, a8⟩
  refine wpAny_call (codeAny_mono (F A X.stack s H valsU vs Q Ek hr e0 r hyp) fun res s1 hq => ?_)
  match res, hq with
  | .error e, hq => exact hx pins σ H s e s1 Iv hq
  | .ok (.ret u), hq => exact Iv.after hq
  | .ok .next, hq => exact False.elim hq
  | .ok .brk, hq => exact False.elim hq
  | .ok .cont, hq => exact False.elim hq
/-- the class at C has the method m, at g -/
structure OwnM (K : PySem.W.Frag) (C : Addr) (m : Str) (g : Addr) : Prop where
  at_ : PySem.W.findIn K (.ref C) m = some (some (.ref g))
  fn : PySem.W.isFn
      K (.ref g) = true
theorem inst_of {a dx : Addr} {fs : List (Str × V)} (Iv : Inv X pins σ H s) (hyp : H a = some (.ins C dx fs)) : ∃ ox od, PySem.W.InstAt s.heap a ox C (some od) := by
  obtain ⟨mA, O, _⟩ := ins_get Iv.hok hyp
  obtain ⟨od, J, _⟩ := O.look
  exact ⟨_, od, J⟩
/-- str(o) -/
theorem call_strO (m : OwnM X.K C "__str__" g) (F : FnR X.prog X.w X.K X.mg X.base CX k g sp) (hr : Room (k + 2) X.A) (hx : Passes CX X Ek) :
    CallR X (.type "str") (fun xs H Q => ∃ a dx fs, xs = [.ref a] ∧ H a = some (.ins C dx fs) ∧ sp [.ref a] H (fun v H' => ∃ z, v = .str z ∧ Q (.str z) H') Ek) := by
  intro pins s σ H xs valsU Q Iv r hyp
  obtain ⟨a, dx, fs, rfl, atA, cont⟩ := hyp
  rw [Vals.ref1 r]
  obtain ⟨ox, od, J⟩ := inst_of Iv atA
  refine PySem.W.kso_call hr.in1.in1.units0 Iv.kIn J m.at_ m.fn ?_
  refine wpAny_mono (run_below F hr.in1.in1 rfl hx Iv (vs := [V.ref a]) (.cons rfl .nil) cont) (fun u s1 hu => ?_) fun _ _ e => e
  obtain ⟨v, H1, Iv1, rv, z, rfl, q1⟩ := hu
  obtain ⟨t, rfl⟩ := rv
  exact ⟨.str z, H1, Iv1, ⟨t, rfl⟩, q1⟩
/-- repr(o) -/
theorem call_reprO (m : OwnM X.K C "__repr__" g) (F : FnR X.prog X.w X.K X.mg X.base CX k g sp) (hr : Room (k + 1) X.A) (hx : Passes CX X Ek) :
    CallR X (.builtin "repr") (fun xs H Q => ∃ a dx fs, xs = [.ref a] ∧ H a = some (.ins C dx fs) ∧ sp [.ref a] H (fun v H' => ∃ z, v = .str z ∧ Q (.str z) H') Ek) := by
  intro pins s σ H xs valsU Q Iv r hyp
  obtain ⟨a, dx, fs, rfl, atA, cont⟩ := hyp
  rw [Vals.ref1 r]
  obtain ⟨ox, od, J⟩ := inst_of Iv atA
  obtain ⟨mm, hF⟩ := Iv.fr
  refine PySem.W.repr_K hr.in1.units0 hF Iv.ok.mod.kin J m.at_ m.fn ?_
  refine wpAny_mono (run_below F hr.in1 rfl hx Iv (vs := [V.ref a]) (.cons rfl .nil) cont) (fun u s1 hu => ?_) fun _ _ e => e
  obtain ⟨v, H1, Iv1, rv, z, rfl, q1⟩ := hu
  obtain ⟨t, rfl⟩ := rv
  exact ⟨.str z, H1, Iv1, ⟨t, rfl⟩, q1⟩
/-- len(o) -/
theorem call_lenO (m : OwnM X.K C "__len__" g) (F : FnR X.prog X.w X.K X.mg X.base CX k g sp) (hr : Room (k + 1) X.A) (hx : Passes CX X Ek) :
    CallR X (.builtin "len") (fun xs H Q => ∃ a dx fs, xs = [.ref a] ∧ H a = some (.ins C dx fs) ∧ sp [.ref a] H (fun v H' => ∃ n : Nat, v = .int n ∧ n < 2 ^ 62 ∧ Q (.int n) H') Ek) := by
  intro pins s σ H xs valsU Q Iv r hyp
  obtain ⟨a, dx, fs, rfl, atA, cont⟩ := hyp
  rw [Vals.ref1 r]
  obtain ⟨ox, od, J⟩ := inst_of Iv atA
  obtain ⟨mm, hF⟩ := Iv.fr
  refine PySem.W.len_K hF Iv.ok.mod.kin J m.at_ m.fn ?_
  refine wpAny_mono (run_below F hr.in1 rfl hx Iv (vs := [V.ref a]) (.cons rfl .nil) cont) (fun u s1 hu => ?_) fun _ _ e => e
  obtain ⟨v, H1, Iv1, rv, n, rfl, hn, q1⟩ := hu
  obtain ⟨t, rfl⟩ := rv
  exact ⟨⟨by omega, by omega⟩, .int n, H1, Iv1.tok _, ⟨_, rfl⟩, q1⟩
/-- v in o -/
theorem op_inO (m : OwnM X.K C "__contains__" g) (F : FnR X.prog X.w X.K X.mg X.base CX k g sp) (hr : Room k X.A) (hx : Passes CX X Ek) :
    OpR X (compareOp .In) (fun x y H Q => ∃ a dx fs, y = .ref a ∧ H a = some (.ins C dx fs) ∧ sp [.ref a, x] H (fun v H' => ∃ b, v = .bl b ∧ Q (.bl b) H') Ek) := by
  intro pins s σ H x y u v Q Iv rx ry hyp
  obtain ⟨a, dx, fs, rfl, atA, cont⟩ := hyp
  cases ry
  obtain ⟨ox, od, J⟩ := inst_of Iv atA
  obtain ⟨mm, hF⟩ := Iv.fr
  refine PySem.W.in_K hF Iv.ok.mod.kin J m.at_ m.fn ?_
  refine wpAny_mono (run_below F hr rfl hx Iv (vs := [V.ref a, x]) (.cons rfl (.cons rx .nil)) cont) (fun u' s1 hu => ?_) fun _ _ e => e
  obtain ⟨v', H1, Iv1, rv, b, rfl, q1⟩ := hu
  cases rv
  exact wpAny_truthy_bool ⟨.bl b, H1, Iv1, rfl, q1⟩
/-- o == v: the own method answers with a truth value -/
theorem rc_eq {A : Around} {a dx : Addr} {fs : List (Str × V)} {y : V} {u t : Value} {Q : Bool → Hp → Prop} (m : OwnM X.K C "__eq__" g) (F : FnR X.prog X.w X.K X.mg X.base CX k g sp) (hr : Room k A) (hf : A.frames = X.A.frames) (hx : Passes CX X Ek) (Iv : Inv X pins σ H s) (atA : H a = some (.ins C dx fs))
    (ry : RelV y u) (ty : ∀ M : Model, PySem.W.Looks M s.heap (typeOf u) t) (nf : PySem.W.notFirst X.K C t = true) (cont : sp [.ref a, y] H (fun v H' => ∃ b, v = .bl b ∧ Q b H') Ek) :
    wpAny (model X.prog X.w) A (richCompare .Eq (.ref a) u) (fun r s1 => ∃ b, r = .bool b ∧ ∃ H', Inv X pins σ H' s1 ∧ Q b H') X.xe s := by
  obtain ⟨ox, od, J⟩ := inst_of Iv atA
  obtain ⟨mm, hF⟩ := Iv.fr
  refine PySem.W.cmp_K (op := .Eq) hr.units0 hF Iv.ok.mod.kin J (ty _) nf m.at_ m.fn ?_
  refine wpAny_mono (run_below F hr hf hx Iv (vs := [V.ref a, y]) (.cons rfl (.cons ry .nil)) cont) (fun w s1 hu => ?_) fun _ _ e => e
  obtain ⟨v, H1, Iv1, rv, b, rfl, q1⟩ := hu
  cases rv
  exact ⟨b, rfl, H1, Iv1, q1⟩
theorem op_eqO (m : OwnM X.K C "__eq__" g) (F : FnR X.prog X.w X.K X.mg X.base CX k g sp) (hr : Room k X.A) (hx : Passes CX X Ek) :
    OpR X (compareOp .Eq) (fun x y H Q => ∃ a dx fs t, x = .ref a ∧ H a = some (.ins C dx fs) ∧ (∀ pins σ s u, Inv X pins σ H s → RelV y u → ∀ M : Model, PySem.W.Looks M s.heap (typeOf u) t) ∧ PySem.W.notFirst X.K C t = true ∧ sp [.ref a, y] H (fun v H' => ∃ b, v = .bl b ∧ Q (.bl b) H') Ek) := by
  intro pins s σ H x y u v Q Iv rx ry hyp
  obtain ⟨a, dx, fs, t, rfl, atA, ty, nf, cont⟩ := hyp
  cases rx
  refine wpAny_mono (rc_eq (Q := fun b H' => Q (.bl b) H') m F hr rfl hx Iv atA ry (ty pins σ s _ Iv ry) nf cont) (fun r s1 z => ?_) fun _ _ e => e
  obtain ⟨b, rfl, H1, Iv1, q1⟩ := z
  exact ⟨.bl b, H1, Iv1, rfl, q1⟩
/-- a special method that is a built-in's -/
theorem bound_bi {M : Model} {A : Around} {E : Value → Shared → Prop} {a : Addr} {ox : Obj} {od : Option Obj} {name : Str} {id : String} {args : List Value} {Q : Option Value → Shared → Prop} {Kf : PySem.W.Frag} (kin : Kf.In s.heap) (J : PySem.W.InstAt s.heap a ox C od) (hs : PySem.W.findIn Kf (.ref C) name = some (some (.builtin id)))
    (hb : ∀ self, bindSpecial (.builtin id) self = pure (.builtin id, [self])) (hyp : wpAny M A (call (.builtin id) (.ref a :: args)) (fun v => Q (some v)) E s) : wpAny M A (callSpecialIfBound? (.ref a) name args) Q E s := by
  simp only [callSpecialIfBound?,
      bindSpecialIfBound?]
  refine wpAny_holding (wpAny_bind (wpAny_bind (wpAny_bind (J.type.here ((PySem.W.looks_findIn kin hs).here ?_)))))
  have go : wpAny M A (call (.builtin id) ([.ref a] ++ args) >>= fun v => pure (some v)) Q E s := wpAny_bind (wpAny_mono hyp (fun v s1 z => wpAny_pure z) fun _ _ z => z)
  refine wpAny_bind (wpAny_askSetting
      (wpAny_ite ?_))
  split
  · exact wpAny_bind ((PySem.W.Looks.of_pure (hb _)).here (wpAny_pure go))
  · exact wpAny_tryCatch (wpAny_bind ((PySem.W.Looks.of_pure (hb _)).here (wpAny_pure go)))
/-- object.__ne__(o, v), where o's class has its own == -/
theorem one_ne {A : Around} {a dx : Addr} {fs : List (Str × V)} {y : V} {u : Value} {Q : Bool → Hp → Prop} (m : OwnM X.K C "__eq__" g) (hm : PySem.W.mroIn X.K C (.type "object") = some true) (F : FnR X.prog X.w X.K X.mg X.base CX k g sp) (hr : Room (k + 1) A) (hf : A.frames = X.A.frames) (hx : Passes CX X Ek) (Iv : Inv X pins σ H s) (atA : H a = some (.ins C dx fs))
    (ry : RelV y u) (cont : sp [.ref a, y] H (fun v H' => ∃ b, v = .bl b ∧ Q b H') Ek) :
    wpAny (model X.prog X.w) A (call (.builtin "object.__ne__") [.ref a, u]) (fun r s1 => ∃ b, r = .bool (!b) ∧ ∃ H', Inv X pins σ H' s1 ∧ Q b H') X.xe s := by
  obtain ⟨ox, od, J⟩ := inst_of Iv atA
  refine wpAny_call (codeAny_call_builtin PySem.F.slot_object_ne.plain PySem.F.cmpEntry_ne (PySem.W.check_slot (i := "object.__ne__") (owner := "object") (n := "__ne__") (by decide +kernel) (by decide +kernel) (J.type.andThen (PySem.W.looks_mroIn Iv.kIn hm)) (PySem.F.cmpArgs_ne _ _) ?_))
  unfold
    Builtin.«object.__ne__»
  refine wpAny_bind (m := slotArgs "__ne__" 1 _) (wpAny_pure ?_)
  refine wpAny_bind (m := cRoomFor _ _) (wpAny_cRoomFor hr.in1.units0 ?_)
  refine wpAny_bind (m := callSpecialIfBound? (.ref a) (Str.ofString "__eq__") _) (PySem.W.ifBound_K Iv.kIn J m.at_ m.fn ?_)
  refine wpAny_mono (run_below F hr.in1 hf hx Iv (vs := [V.ref a, y]) (.cons rfl (.cons ry .nil)) cont) (fun w s1 hu => ?_) fun _ _ e => e
  obtain ⟨v, H1, Iv1, rv, b, rfl, q1⟩ := hu
  cases rv
  refine wpAny_bind (wpAny_truthy_bool ?_)
  exact wpAny_pure ⟨_, rfl, H1, Iv1, q1⟩
theorem rc_ne {A : Around} {a dx : Addr} {fs : List (Str × V)} {y : V} {u t : Value} {Q : Bool → Hp → Prop} (m : OwnM X.K C "__eq__" g) (hn : PySem.W.findIn X.K (.ref C) "__ne__" = some (some (.builtin "object.__ne__"))) (hm : PySem.W.mroIn X.K C (.type "object") = some true) (F : FnR X.prog X.w X.K X.mg X.base CX k g sp) (hr : Room (k + 1) A) (hf : A.frames = X.A.frames)
    (hx : Passes CX X Ek) (Iv : Inv X pins σ H s) (atA : H a = some (.ins C dx fs)) (ry : RelV y u) (ty : ∀ M : Model, PySem.W.Looks M s.heap (typeOf u) t) (nf : PySem.W.notFirst X.K C t = true) (cont : sp [.ref a, y] H (fun v H' => ∃ b, v = .bl b ∧ Q b H') Ek) :
    wpAny (model X.prog X.w) A (richCompare .NotEq (.ref a) u) (fun r s1 => ∃ b, r = .bool (!b) ∧ ∃ H', Inv X pins σ H' s1 ∧ Q b H') X.xe s := by
  obtain ⟨ox, od, J⟩ := inst_of Iv atA
  have one : wpAny (model X.prog X.w) A (tryCompare (.ref a) (cmpInfo .NotEq).2.1 u) (fun r s1 => ∃ b, r = some (.bool (!b)) ∧ ∃ H', Inv X pins σ H' s1 ∧ Q b H') X.xe s := by
    unfold tryCompare
    refine wpAny_bind (bound_bi Iv.kIn J hn PySem.F.slot_object_ne.bind (wpAny_mono (one_ne m hm F hr hf hx Iv atA ry cont) (fun r s1 z => ?_) fun _ _ e => e))
    obtain ⟨b, rfl, z⟩ := z
    exact wpAny_pure ⟨b, rfl, z⟩
  unfold richCompare
  simp only [oneThing_ref]
  refine wpAny_holding (wpAny_bind (wpAny_cRoomFor hr.units0 ?_))
  refine wpAny_bind (J.type.here (wpAny_bind ((ty _).here ?_)))
  split
  · rename_i z
    have e : PySem.W.subIn X.K t (.ref C) = some false := by
      rcases Bool.or_eq_true_iff.mp nf with e | e
      · rw [beq_iff_eq.mp e] at z
        simp at z
      · exact beq_iff_eq.mp e
    refine wpAny_bind ((PySem.W.looks_subIn Iv.kIn e).here ?_)
    simp only [Bool.false_eq_true,
        if_false]
    refine wpAny_bind (wpAny_mono one (fun r s1 zz => ?_) fun _ _ e => e)
    obtain ⟨b, rfl, zz⟩ := zz
    exact wpAny_pure ⟨b, rfl, zz⟩
  · refine wpAny_bind
        (wpAny_pure ?_)
    simp only [Bool.false_eq_true,
        if_false]
    refine wpAny_bind (wpAny_mono one (fun r s1 zz => ?_) fun _ _ e => e)
    obtain ⟨b, rfl, zz⟩ := zz
    exact wpAny_pure ⟨b, rfl, zz⟩
end
end DuX
/-! o != v; bool(o) by the own __len__ -/
namespace DuX
open PySem PySem.Spec
open PyProof.Rows L2
section
variable {X : Cx} {CX : CXT} {k : Nat} {g C : Addr} {sp : Sp} {Ek : XK} {pins : List (Addr × Obj)} {σ : L2.St} {H : Hp} {s : Shared}
/-- what the class at C has from object: its != -/
structure NeM (K : PySem.W.Frag) (C : Addr) : Prop where
  ne : PySem.W.findIn K (.ref C) "__ne__" = some (some (.builtin "object.__ne__"))
  mro : PySem.W.mroIn K C (.type "object") = some true
theorem op_neO (m : OwnM X.K C "__eq__" g) (n : NeM X.K C) (F : FnR X.prog X.w X.K X.mg X.base CX k g sp) (hr : Room (k + 1) X.A) (hx : Passes CX X Ek) :
    OpR X (compareOp .NotEq) (fun x y H Q => ∃ a dx fs t, x = .ref a ∧ H a = some (.ins C dx fs) ∧ (∀ pins σ s u, Inv X pins σ H s → RelV y u → ∀ M : Model, PySem.W.Looks M s.heap (typeOf u) t) ∧ PySem.W.notFirst X.K C t = true ∧ sp [.ref a, y] H (fun v H' => ∃ b, v = .bl b ∧ Q (.bl (!b)) H') Ek) := by
  intro pins s σ H x y u v Q Iv rx ry h
  obtain ⟨a, dx, fs, t, rfl, ha, ty, nf, q⟩ := h
  cases rx
  refine wpAny_mono (rc_ne (Q := fun b H' => Q (.bl (!b)) H') m n.ne n.mro F hr rfl hx Iv ha ry (ty pins σ s _ Iv ry) nf q) (fun r s1 z => ?_) fun _ _ e => e
  obtain ⟨b, rfl, H1, I1, q1⟩ := z
  exact ⟨.bl (!b), H1, I1, rfl, q1⟩
/-- the truth of o, by its __len__ -/
theorem truthy_lenO {A : Around} {a dx : Addr} {fs : List (Str × V)} {Q : Bool → Hp → Prop} (m : OwnM X.K C "__len__" g) (nb : PySem.W.findIn X.K (.ref C) "__bool__" = some none) (F : FnR X.prog X.w X.K X.mg X.base CX k g sp) (hr : Room (k + 1) A) (hf : A.frames = X.A.frames) (hx : Passes CX X Ek) (Iv : Inv X pins σ H s) (ha : H a = some (.ins C dx fs))
    (q : sp [.ref a] H (fun v H' => ∃ n : Nat, v = .int n ∧ n < 2 ^ 62 ∧ Q (n != 0) H') Ek) :
    wpAny (model X.prog X.w) A (truthy (.ref a)) (fun b s1 => ∃ H', Inv X pins σ H' s1 ∧ Q b H') X.xe s := by
  obtain ⟨ox, od, J⟩ := inst_of Iv ha
  have len : wpAny (model X.prog X.w) A (runValue (.builtin "len" ⟨[.ref a], []⟩)) (fun r s1 => ∃ (n : Nat) (t : Tok), r = .int n t ∧ ∃ H', Inv X pins σ H' s1 ∧ Q (n != 0) H') X.xe s := by
    refine wpAny_runValue (codeAny_builtin
        entry_len ?_)
    rw [Around.under_plainId
        plain_len _]
    unfold Builtin.«len»
    refine wpAny_bind (m := oneArg
        "len" _) (wpAny_pure ?_)
    refine wpAny_bind (m := callSpecial? (.ref a) (Str.ofString "__len__")) (PySem.W.special_fn Iv.kIn J m.at_ (beq_iff_eq.mp m.fn) (wpAny_mono (run_below F hr.in1 hf hx Iv (vs := [V.ref a]) (.cons rfl .nil) q) (fun r s' z => ?_) fun _ _ y => y))
    obtain ⟨v, H1, I1, rv, n, rfl, hn, q1⟩ := z
    obtain ⟨t, rfl⟩ := rv
    refine wpAny_bind (wpAny_holding
        (wpAny_pure ?_))
    refine wpAny_bind
        (wpAny_letGo ?_)
    show wpAny _ _ (if ((n : Nat) : Int) < 0 then _ else _) _ _ _
    rw [if_neg (by omega)]
    show wpAny _ _ (if ((n : Nat) : Int) ≥ 2 ^ 63 then _ else _) _ _ _
    rw [if_neg (by omega)]
    exact wpAny_bind (wpAny_mkInt (wpAny_pure ⟨n, _, rfl, H1, I1.tok _, q1⟩))
  unfold truthy
  refine wpAny_bind (m := callSpecial? (.ref a) (Str.ofString "__bool__")) (wpAny_bind (wpAny_bind (J.type.here ((PySem.W.looks_findIn Iv.kIn nb).here (wpAny_pure ?_)))))
  refine wpAny_bind (wpAny_bind (J.type.here ((PySem.W.looks_findIn Iv.kIn m.at_).here ?_)))
  refine wpAny_bind (wpAny_mono len (fun r s1 z => ?_) fun _ _ e => e)
  obtain ⟨n, t, rfl, H1, I1, q1⟩ := z
  have e : ((n : Int) != 0) = (n != 0) := by
    cases n with
    | zero => rfl
    | succ n => rfl
  show wpAny _ _ (pure ((n : Int) != 0)) _ _ _
  rw [e]
  exact wpAny_pure ⟨H1, I1, q1⟩
/-- bool(o) -/
theorem call_boolO (m : OwnM X.K C "__len__" g) (nb : PySem.W.findIn X.K (.ref C) "__bool__" = some none) (F : FnR X.prog X.w X.K X.mg X.base CX k g sp) (hr : Room (k + 3) X.A) (hx : Passes CX X Ek) :
    CallR X (.type "bool") (fun xs H Q => ∃ a dx fs, xs = [.ref a] ∧ H a = some (.ins C dx fs) ∧ sp [.ref a] H (fun v H' => ∃ n : Nat, v = .int n ∧ n < 2 ^ 62 ∧ Q (.bl (n != 0)) H') Ek) := by
  intro pins s σ H xs us Q Iv r h
  obtain ⟨a, dx, fs,
      rfl, ha, q⟩ := h
  rw [Vals.ref1 r]
  have f1 := PySem.F.conv_sub_bool
  refine callType_codes (T := "bool") (Bi := Builtin.«object.__init__») (Q₁ := fun r s₁ => ∃ b, r = .bool b ∧ ∃ H', Inv X pins σ H' s₁ ∧ Q (.bl b) H') PySem.F.called_bool (PySem.F.typeCall_bool_1 _) PySem.F.entry_object_init ?_ ?_
  · refine codeAny_of_tree ?_
    show wpAny _ X.A.in1.in1 (do checkBuiltinCall "bool.__new__" ⟨[.type "bool", .ref a], []⟩; again (.builtin "bool.__new__" ⟨[.type "bool", .ref a], []⟩)) _ _ s
    refine wpAny_bind (wpAny_of_eq (PySem.F.newCall_bool_1 _) (wpAny_pure ⟨plainId_quiet (by decide +kernel) _, codeAny_builtin PySem.F.entry_bool_new ?_⟩))
    rw [Around.under_plainId
        (by decide +kernel) _]
    unfold Builtin.«bool.__new__»
    refine wpAny_bind (m := isType (.type "bool")) (wpAny_pure ?_)
    simp only [Bool.not_true,
        Bool.false_eq_true, if_false]
    refine wpAny_bind (wpAny_of_eq f1 ?_)
    simp only [Bool.not_true,
        Bool.false_eq_true, if_false]
    refine wpAny_bind (m := someArgs "bool" 0 1 _) (wpAny_pure ?_)
    refine wpAny_bind (wpAny_mono (truthy_lenO (Q := fun b H' => Q (.bl b) H') m nb F hr.in1.in1 rfl hx Iv ha q) (fun b s1 z => ?_) fun _ _ e => e)
    exact wpAny_pure ⟨b, rfl, z⟩
  · rintro obj s₁ ⟨b, rfl, H1, I1, q1⟩
    exact ⟨rfl, PySem.F.args_object_init_2 _ _, object_init_meets PySem.F.called_bool.init.lookup PySem.F.called_bool.made (by decide) X.prog X.w X.A.in1 _ s₁ ⟨rfl, rfl, .bl b, H1, I1, rfl, q1⟩⟩
end
end DuX
/-! a | b, a |= b, a <= b by an own class's methods -/
namespace DuX
open PySem PySem.Spec
open PyProof.Rows L2
section
variable {X : Cx} {CX : CXT} {k : Nat} {g C : Addr} {sp : Sp} {Ek : XK}
/-- both are of the class at C -/
def rBinO (C : Addr) (sp : Sp) (Ek : XK) : R2 := fun x y H Q => ∃ a dx fs b dy gs, x = .ref a ∧ y = .ref b ∧ H a = some (.ins C dx fs) ∧ H b = some (.ins C dy gs) ∧ sp [.ref a, .ref b] H Q Ek
theorem op_binO {op : Operator} (m : OwnM X.K C (PySem.dunder op.info.2) g) (hc : PySem.W.selfFirst X.K C = true) (F : FnR X.prog X.w X.K X.mg X.base CX k g sp) (hr : Room k X.A) (hx : Passes CX X Ek) : OpR X (binaryOp op) (rBinO C sp Ek) := by
  intro pins s σ H x y v u Q Iv rx ry h
  obtain ⟨a, dx, fs, b, dy, gs, rfl, rfl, ha, hb, q⟩ := h
  cases rx
  cases ry
  obtain ⟨ox, od, J⟩ := inst_of Iv ha
  obtain ⟨oy, oe, J2⟩ := inst_of Iv hb
  obtain ⟨mm, hF⟩ := Iv.fr
  refine PySem.W.binop_K hF Iv.ok.mod.kin J J2.type hc m.at_ m.fn ?_
  refine wpAny_mono (run_below F hr rfl hx Iv (vs := [V.ref a, V.ref b]) (.cons rfl (.cons rfl .nil)) q) (fun z s1 hz => ?_) fun _ _ e => e
  obtain ⟨z', H1, I1, rz, qz⟩ := hz
  exact SlX.cmpback rz ⟨z', H1, I1, rz, qz⟩
/-- a op= b -/
def rInO (C : Addr) (sp : Sp) (Ek : XK) : TIp := fun x y H Q => ∃ a dx fs, x = .ref a ∧ H a = some (.ins C dx fs) ∧ sp [.ref a, y] H Q Ek
theorem ip_O {op : Operator} (m : OwnM X.K C (PySem.dunderI op.info.2) g) (hc : PySem.W.selfFirst X.K C = true) (F : FnR X.prog X.w X.K X.mg X.base CX k g sp) (hr : Room k X.A) (hx : Passes CX X Ek) : PIp X op (rInO C sp Ek) := by
  intro pins s σ H x y v u Q Iv rx ry h
  obtain ⟨a, dx, fs, rfl, ha, q⟩ := h
  cases rx
  obtain ⟨ox, od, J⟩ := inst_of Iv ha
  obtain ⟨mm, hF⟩ := Iv.fr
  refine PySem.W.ksp_inplace hF Iv.ok.mod.kin J hc m.at_ m.fn ?_
  refine wpAny_mono (run_below F hr rfl hx Iv (vs := [V.ref a, y]) (.cons rfl (.cons ry .nil)) q) (fun z s1 hz => ?_) fun _ _ e => e
  obtain ⟨z', H1, I1, rz, qz⟩ := hz
  exact SlX.cmpback rz ⟨z', H1, I1, rz, qz⟩
/-- an order by an own method -/
def rCmpO (K : PySem.W.Frag) (C : Addr) (sp : Sp) (Ek : XK) : R2 := fun x y H Q => ∃ a dx fs t, x = .ref a ∧ H a = some (.ins C dx fs) ∧ TyX K H y t ∧ PySem.W.notFirst K C t = true ∧ sp [.ref a, y] H Q Ek
theorem op_cmpO {op : CmpOp} (hop : ∀ a b, compareOp op a b = richCompare op a b) (m : OwnM X.K C (cmpInfo op).2.1 g) (F : FnR X.prog X.w X.K X.mg X.base CX k g sp) (hr : Room k X.A) (hx : Passes CX X Ek) : OpR X (compareOp op) (rCmpO X.K C sp Ek) := by
  intro pins s σ H x y v u Q Iv rx ry h
  obtain ⟨a, dx, fs, t, rfl, ha, ty, nf, q⟩ := h
  cases rx
  obtain ⟨ox, od, J⟩ := inst_of Iv ha
  obtain ⟨mm, hF⟩ := Iv.fr
  obtain ⟨Pz, Z, pz, _⟩ := kit_of Iv ry ty
  rw [hop]
  refine PySem.W.cmp_K (op := op) hr.units0 hF Iv.ok.mod.kin J (Z.ty _ _ Iv.kIn pz) nf m.at_ m.fn ?_
  refine wpAny_mono (run_below F hr rfl hx Iv (vs := [V.ref a, y]) (.cons rfl (.cons ry .nil)) q) (fun z s1 hz => ?_) fun _ _ e => e
  obtain ⟨z', H1, I1, rz, qz⟩ := hz
  exact SlX.cmpback rz ⟨z', H1, I1, rz, qz⟩
end
/-- what a built-in class has for an operator, and that it is not below C -/
structure OthT (K : PySem.W.Frag) (C : Addr) (nm T : String) : Prop where
  h1 : ∃ fo, PySem.W.findIn K (.type T) (PySem.dunder nm) = some fo
  h2 : ∃ ro, PySem.W.findIn K (.type T) (dunderR nm) = some ro
  hs : PySem.W.subIn K (.type T) (.ref C) = some false
section
variable {M : Model} {prog : Program} {w : World} {A : Around} {E : Value → Shared → Prop} {s : Shared} {K : PySem.W.Frag} {x C f : Addr} {ox : Obj} {od : Option Obj} {T : String}
open PySem.W in
theorem bin_other {op : Operator} {b : Value} {Q : Value → Shared → Prop} (X : K.In s.heap) (J : InstAt s.heap x ox C od) (hb : ∀ M : Model, Looks M s.heap (typeOf b) (.type T)) (hc : selfFirst K C = true) (hs : findIn K (.ref C) (PySem.dunder op.info.2) = some (some (.ref f))) (hf : isFn K (.ref f) = true)
    (hr : findIn K (.ref C) (dunderR op.info.2) = some none) (O : OthT K C op.info.2 T)
    (h : wpAny (model prog w) A (call (.ref f) [.ref x, b]) (PySem.W.CmpBack Q) E s) : wpAny (model prog w) A (binaryOp op (.ref x) b) Q E s := by
  obtain ⟨cd, more, hcd, hm⟩ := ksp_first hc
  obtain ⟨⟨fo, h1⟩, ⟨ro, h2⟩, hsub⟩ := O
  have one := ksp_try X J hs hf h
  rcases hi : op.info with ⟨sym, nm⟩
  rw [hi] at hs hr h1 h2 one
  dsimp only at hs hr h1 h2 one
  obtain ⟨hp, g, d, tk, os⟩ := s
  have la := J.type (M := model prog w)
  have lb := hb (model prog w)
  have lc := fills_K (M := model prog w) X hcd hm hs
  have ld := ksp_fillsT (M := model prog w) X h1 h2
  have le := looks_subIn (M := model prog w) X hsub
  have lf := ksp_inPy (M := model prog w) X hs hr (.inl rfl)
  have lg : Looks (model prog w) hp (numberSlotInPython (.type T) nm) false := .of_pure rfl
  have lh := looks_findIn (M := model prog w) X h2
  generalize ((fo.isSome && !isSeqSlot fo) || (ro.isSome && !isSeqSlot ro)) = right at ld
  have ne : (Value.ref C == Value.type T) = false := Bool.eq_false_iff.mpr fun q => by cases beq_iff_eq.mp q
  simp only [binaryOp, hi]
  refine wpAny_holding (wpAny_bind ?_)
  unfold binaryOp1
  refine wpAny_bind (la.at (wpAny_bind (lb.at (wpAny_bind (lc.at ?_)))))
  simp only [ne, if_false, Bool.false_eq_true]
  cases right <;>
  · ksp_lk
    refine wpAny_mono one (fun r s1 hz => ?_) fun _ _ e => e
    obtain ⟨v, rfl, q⟩ := hz
    ksp_lk
    exact q
end
section
variable {X : Cx} {CX : CXT} {k : Nat} {g C : Addr} {sp : Sp} {Ek : XK}
/-- the other one is of a built-in class -/
def rBinT (K : PySem.W.Frag) (C : Addr) (Ts : List String) (sp : Sp) (Ek : XK) : R2 := fun x y H Q => ∃ a dx fs t, x = .ref a ∧ H a = some (.ins C dx fs) ∧ t ∈ Ts ∧ TyX K H y (.type t) ∧ sp [.ref a, y] H Q Ek
theorem op_binT {op : Operator} {Ts : List String} (m : OwnM X.K C (PySem.dunder op.info.2) g) (hc : PySem.W.selfFirst X.K C = true) (hR : PySem.W.findIn X.K (.ref C) (dunderR op.info.2) = some none) (O : ∀ t ∈ Ts, OthT X.K C op.info.2 t) (F : FnR X.prog X.w X.K X.mg X.base CX k g sp) (hr : Room k X.A) (hx : Passes CX X Ek) :
    OpR X (binaryOp op) (rBinT X.K C Ts sp Ek) := by
  intro pins s σ H x y v u Q Iv rx ry h
  obtain ⟨a, dx, fs, t, rfl, ha, ht, ty, q⟩ := h
  cases rx
  obtain ⟨ox, od, J⟩ := inst_of Iv ha
  obtain ⟨Pz, Z, pz, _⟩ := kit_of Iv ry ty
  refine bin_other Iv.kIn J (fun M => Z.ty M _ Iv.kIn pz) hc m.at_ m.fn hR (O t ht) ?_
  refine wpAny_mono (run_below F hr rfl hx Iv (vs := [V.ref a, y]) (.cons rfl (.cons ry .nil)) q) (fun z s1 hz => ?_) fun _ _ e => e
  obtain ⟨z', H1, I1, rz, qz⟩ := hz
  exact SlX.cmpback rz ⟨z', H1, I1, rz, qz⟩
end
end DuX
/-! in, not in, ==, != of an own class's instances, told without the context -/
namespace DuX
open PySem PySem.Spec
open PyProof.Rows L2
section
variable {X : Cx} {CX : CXT} {k : Nat} {g C : Addr} {sp : Sp} {Ek : XK}
theorem op_ninO (m : OwnM X.K C "__contains__" g) (F : FnR X.prog X.w X.K X.mg X.base CX k g sp) (hr : Room k X.A) (hx : Passes CX X Ek) :
    OpR X (compareOp .NotIn) (fun x y H Q => ∃ a dx fs, y = .ref a ∧ H a = some (.ins C dx fs) ∧ sp [.ref a, x] H (fun v H' => ∃ b, v = .bl b ∧ Q (.bl (!b)) H') Ek) := by
  intro pins s σ H x y u v Q Iv rx ry hyp
  obtain ⟨a, dx, fs, rfl, atA, cont⟩ := hyp
  cases ry
  obtain ⟨ox, od, J⟩ := inst_of Iv atA
  obtain ⟨mm, hF⟩ := Iv.fr
  refine PySem.W.notIn_K hF Iv.ok.mod.kin J m.at_ m.fn ?_
  refine wpAny_mono (run_below F hr rfl hx Iv (vs := [V.ref a, x]) (.cons rfl (.cons rx .nil)) cont) (fun u' s1 hu => ?_) fun _ _ e => e
  obtain ⟨v', H1, Iv1, rv, b, rfl, q1⟩ := hu
  cases rv
  exact wpAny_truthy_bool ⟨.bl (!b), H1, Iv1, rfl, q1⟩
def rEqO (K : PySem.W.Frag) (C : Addr) (sp : Sp) : R2 := fun x y H Q => ∃ a dx fs t, x = .ref a ∧ H a = some (.ins C dx fs) ∧ TyX K H y t ∧ PySem.W.notFirst K C t = true ∧ sp [.ref a, y] H (fun v H' => ∃ b, v = .bl b ∧ Q (.bl b) H') E0
def rNeO (K : PySem.W.Frag) (C : Addr) (sp : Sp) : R2 := fun x y H Q => ∃ a dx fs t, x = .ref a ∧ H a = some (.ins C dx fs) ∧ TyX K H y t ∧ PySem.W.notFirst K C t = true ∧ sp [.ref a, y] H (fun v H' => ∃ b, v = .bl b ∧ Q (.bl (!b)) H') E0
def rHasO (C : Addr) (sp : Sp) : R2 := fun x y H Q => ∃ a dx fs, y = .ref a ∧ H a = some (.ins C dx fs) ∧ sp [.ref a, x] H (fun v H' => ∃ b, v = .bl b ∧ Q (.bl b) H') E0
def rNinO (C : Addr) (sp : Sp) : R2 := fun x y H Q => ∃ a dx fs, y = .ref a ∧ H a = some (.ins C dx fs) ∧ sp [.ref a, x] H (fun v H' => ∃ b, v = .bl b ∧ Q (.bl (!b)) H') E0
theorem op_eqX (m : OwnM X.K C "__eq__" g) (F : FnR X.prog X.w X.K X.mg X.base CX0 k g sp) (hr : Room k X.A) : OpR X (compareOp .Eq) (rEqO X.K C sp) := by
  intro pins s σ H x y u v Q I rx ry h
  obtain ⟨a, dx, fs, t, h1, h2, h3, h4, q⟩ := h
  exact op_eqO m F hr pass0 pins s σ H x y u v Q I rx ry ⟨a, dx, fs, t, h1, h2, fun pins σ s u Iv r M => by
    obtain ⟨Pz, Z, pz, _⟩ := kit_of Iv r h3
    exact Z.ty M s.heap Iv.kIn pz, h4, q⟩
theorem op_neX (m : OwnM X.K C "__eq__" g) (n : NeM X.K C) (F : FnR X.prog X.w X.K X.mg X.base CX0 k g sp) (hr : Room (k + 1) X.A) : OpR X (compareOp .NotEq) (rNeO X.K C sp) := by
  intro pins s σ H x y u v Q I rx ry h
  obtain ⟨a, dx, fs, t, h1, h2, h3, h4, q⟩ := h
  exact op_neO m n F hr pass0 pins s σ H x y u v Q I rx ry ⟨a, dx, fs, t, h1, h2, fun pins σ s u Iv r M => by
    obtain ⟨Pz, Z, pz, _⟩ := kit_of Iv r h3
    exact Z.ty M s.heap Iv.kIn pz, h4, q⟩
theorem op_inX (m : OwnM X.K C "__contains__" g) (F : FnR X.prog X.w X.K X.mg X.base CX0 k g sp) (hr : Room k X.A) : OpR X (compareOp .In) (rHasO C sp) := op_inO m F hr pass0
theorem op_ninX (m : OwnM X.K C "__contains__" g) (F : FnR X.prog X.w X.K X.mg X.base CX0 k g sp) (hr : Room k X.A) : OpR X (compareOp .NotIn) (rNinO C sp) := op_ninO m F hr pass0
end
/-! ### what is known of a def -/
structure Has (P : Program) (w : World) (K : PySem.W.Frag) (mg : Str → Option Value) (base : Heap) (CX : CXT) (k : Nat) (x : Str) (f : Addr) (ps : List Str) (sp : Sp) : Prop where
  gm : mg x = some (.ref f)
  kp : PySem.W.keepIn K (.ref f) = true
  ex : ∃ fd, FnOk P w K mg base CX k f fd ps sp ∧ L2.Binds K fd ps []
section
variable {X : Cx} {CX : CXT} {k : Nat} {x : Str} {f : Addr} {ps : List Str} {sp : Sp} {E : XK}
/-- x(e, ..) -/
theorem pe_has {e : Expr} {es : List Expr} {t : TA} {p pos : Pos} (F : Has X.prog X.w X.K X.mg X.base CX k x f ps sp) (hr : Room k X.A) (hg : Gl X x) (hx : Passes CX X E) (ha : PA X (e :: es) t) (hd : (x == ("__debug__" : Str)) = false := by decide)
    (hst : starEach (e :: es) X.env = (false, eval e X.env) :: starEach es X.env := by rfl) (hpl : (backTo pos (starEach es X.env)).any (·.1) = false := by rfl) :
    PE X (.Call (.Name x p) (e :: es) [] pos) (tCall sp [] E t) := by
  obtain ⟨gm, kp, fd, F, B⟩ := F
  exact pe_call F hr hg gm kp B .nil hx ha hd hst hpl
end
end DuX
/-! two own classes at an operator; -o, abs(o), bool(o) by own methods; the truth of o in a test -/
namespace DuX
open PySem PySem.Spec
open PyProof.Rows L2
/-- the class at D has the operator too, and is not below C -/
structure OthC (K : PySem.W.Frag) (C D : Addr) (nm : String) : Prop where
  ne : C ≠ D
  sf : PySem.W.selfFirst K D = true
  f : ∃ f, PySem.W.findIn K (.ref D) (PySem.dunder nm) = some (some (.ref f))
  r : PySem.W.findIn K (.ref D) (dunderR nm) = some none
  hs : PySem.W.subIn K (.ref D) (.ref C) = some false
section
variable {M : Model} {prog : Program} {w : World} {A : Around} {E : Value → Shared → Prop} {s : Shared} {K : PySem.W.Frag} {x C D f : Addr} {ox : Obj} {od : Option Obj}
open PySem.W in
theorem bin_two {op : Operator} {b : Value} {Q : Value → Shared → Prop} (X : K.In s.heap) (J : InstAt s.heap x ox C od) (hb : ∀ M : Model, Looks M s.heap (typeOf b) (.ref D)) (hc : selfFirst K C = true) (hs : findIn K (.ref C) (PySem.dunder op.info.2) = some (some (.ref f))) (hf : isFn K (.ref f) = true)
    (hr : findIn K (.ref C) (dunderR op.info.2) = some none) (O : OthC K C D op.info.2)
    (h : wpAny (model prog w) A (call (.ref f) [.ref x, b]) (PySem.W.CmpBack Q) E s) : wpAny (model prog w) A (binaryOp op (.ref x) b) Q E s := by
  obtain ⟨cd, more, hcd, hm⟩ := ksp_first hc
  obtain ⟨ne, sf, ⟨g, h1⟩, h2, hsub⟩ := O
  obtain ⟨cd2, more2, hcd2, hm2⟩ := ksp_first sf
  have one := ksp_try X J hs hf h
  rcases hi : op.info with ⟨sym, nm⟩
  rw [hi] at hs hr h1 h2 one
  dsimp only at hs hr h1 h2 one
  obtain ⟨hp, g', d, tk, os⟩ := s
  have la := J.type (M := model prog w)
  have lb := hb (model prog w)
  have lc := fills_K (M := model prog w) X hcd hm hs
  have ld := fills_K (M := model prog w) X hcd2 hm2 h1
  have le := looks_subIn (M := model prog w) X hsub
  have lf := ksp_inPy (M := model prog w) X hs hr (.inl rfl)
  have lg := ksp_inPy (M := model prog w) X h1 h2 (.inl rfl)
  have ne : (Value.ref C == Value.ref D) = false := Bool.eq_false_iff.mpr fun q => ne (Value.ref.inj (beq_iff_eq.mp q))
  simp only [binaryOp, hi]
  refine wpAny_holding (wpAny_bind ?_)
  unfold binaryOp1
  refine wpAny_bind (la.at (wpAny_bind (lb.at (wpAny_bind (lc.at ?_)))))
  simp only [ne, if_false, Bool.false_eq_true]
  ksp_lk
  refine wpAny_mono one (fun r s1 hz => ?_) fun _ _ e => e
  obtain ⟨v, rfl, q⟩ := hz
  ksp_lk
  exact q
end
section
variable {X : Cx} {CX : CXT} {k : Nat} {g C D : Addr} {sp : Sp} {Ek : XK} {pins : List (Addr × Obj)} {σ : L2.St} {H : Hp} {s : Shared}
/-- the left one of the class at C, the right one of the class at D -/
def rBinD (K : PySem.W.Frag) (C D : Addr) (sp : Sp) (Ek : XK) : R2 := fun x y H Q => ∃ a dx fs, x = .ref a ∧ H a = some (.ins C dx fs) ∧ TyX K H y (.ref D) ∧ sp [.ref a, y] H Q Ek
theorem op_binD {op : Operator} (m : OwnM X.K C (PySem.dunder op.info.2) g) (hc : PySem.W.selfFirst X.K C = true) (hR : PySem.W.findIn X.K (.ref C) (dunderR op.info.2) = some none) (O : OthC X.K C D op.info.2) (F : FnR X.prog X.w X.K X.mg X.base CX k g sp) (hr : Room k X.A) (hx : Passes CX X Ek) :
    OpR X (binaryOp op) (rBinD X.K C D sp Ek) := by
  intro pins s σ H x y v u Q Iv rx ry h
  obtain ⟨a, dx, fs, rfl, ha, ty, q⟩ := h
  cases rx
  obtain ⟨ox, od, J⟩ := inst_of Iv ha
  obtain ⟨Pz, Z, pz, _⟩ := kit_of Iv ry ty
  refine bin_two Iv.kIn J (fun M => Z.ty M _ Iv.kIn pz) hc m.at_ m.fn hR O ?_
  refine wpAny_mono (run_below F hr rfl hx Iv (vs := [V.ref a, y]) (.cons rfl (.cons ry .nil)) q) (fun z s1 hz => ?_) fun _ _ e => e
  obtain ⟨z', H1, I1, rz, qz⟩ := hz
  exact SlX.cmpback rz ⟨z', H1, I1, rz, qz⟩
/-- -o -/
def rNegO (C : Addr) (sp : Sp) (Ek : XK) : V → Hp → VK → Prop := fun x H Q => ∃ a dx fs, x = .ref a ∧ H a = some (.ins C dx fs) ∧ sp [.ref a] H Q Ek
theorem un_negO (m : OwnM X.K C "__neg__" g) (F : FnR X.prog X.w X.K X.mg X.base CX k g sp) (hr : Room k X.A) (hx : Passes CX X Ek) : UnR X (unaryOp .USub) (rNegO C sp Ek) := by
  intro pins s σ H x v Q Iv rx h
  obtain ⟨a, dx, fs, rfl, ha, q⟩ := h
  cases rx
  obtain ⟨ox, od, J⟩ := inst_of Iv ha
  obtain ⟨mm, hF⟩ := Iv.fr
  exact PySem.W.ksp_neg hF Iv.ok.mod.kin J m.at_ m.fn (run_below F hr rfl hx Iv (vs := [V.ref a]) (.cons rfl .nil) q)
/-- abs(o) -/
theorem call_absO (m : OwnM X.K C "__abs__" g) (F : FnR X.prog X.w X.K X.mg X.base CX k g sp) (hr : Room (k + 1) X.A) (hx : Passes CX X Ek) :
    CallR X (.builtin "abs") (fun xs H Q => ∃ a dx fs, xs = [.ref a] ∧ H a = some (.ins C dx fs) ∧ sp [.ref a] H Q Ek) := by
  intro pins s σ H xs us Q Iv r h
  obtain ⟨a, dx, fs, rfl, ha, q⟩ := h
  rw [Vals.ref1 r]
  obtain ⟨ox, od, J⟩ := inst_of Iv ha
  refine Calls.call_function_entry kind_abs plain_abs entry_abs (args_abs _) ?_
  unfold Builtin.«abs»
  refine wpAny_bind (m := oneArg "abs" _) (wpAny_pure ?_)
  refine wpAny_bind (m := callSpecial? (.ref a) (Str.ofString "__abs__")) (PySem.W.special_fn Iv.kIn J m.at_ (beq_iff_eq.mp m.fn) (wpAny_mono (run_below F hr.in1 rfl hx Iv (vs := [V.ref a]) (.cons rfl .nil) q) (fun z s1 hz => ?_) fun _ _ e => e))
  exact wpAny_pure ⟨_, rfl, hz⟩
/-- the truth of o, by its __bool__ -/
theorem truthy_boolO {A : Around} {a dx : Addr} {fs : List (Str × V)} {Q : Bool → Hp → Prop} (m : OwnM X.K C "__bool__" g) (F : FnR X.prog X.w X.K X.mg X.base CX k g sp) (hr : Room k A) (hf : A.frames = X.A.frames) (hx : Passes CX X Ek) (Iv : Inv X pins σ H s) (ha : H a = some (.ins C dx fs))
    (q : sp [.ref a] H (fun v H' => ∃ b, v = .bl b ∧ Q b H') Ek) :
    wpAny (model X.prog X.w) A (truthy (.ref a)) (fun b s1 => ∃ H', Inv X pins σ H' s1 ∧ Q b H') X.xe s := by
  obtain ⟨ox, od, J⟩ := inst_of Iv ha
  obtain ⟨mm, hF⟩ := Iv.fr
  refine PySem.W.truthy_K hF Iv.ok.mod.kin J m.at_ m.fn (wpAny_mono (run_below F hr hf hx Iv (vs := [V.ref a]) (.cons rfl .nil) q) (fun z s1 hz => ?_) fun _ _ e => e)
  obtain ⟨v, H1, I1, rv, b, rfl, q1⟩ := hz
  cases rv
  exact ⟨H1, I1, q1⟩
/-- bool(o), by its __bool__ -/
theorem call_boolB (m : OwnM X.K C "__bool__" g) (F : FnR X.prog X.w X.K X.mg X.base CX k g sp) (hr : Room (k + 2) X.A) (hx : Passes CX X Ek) :
    CallR X (.type "bool") (fun xs H Q => ∃ a dx fs, xs = [.ref a] ∧ H a = some (.ins C dx fs) ∧ sp [.ref a] H (fun v H' => ∃ b, v = .bl b ∧ Q (.bl b) H') Ek) := by
  intro pins s σ H xs us Q Iv r h
  obtain ⟨a, dx, fs, rfl, ha, q⟩ := h
  rw [Vals.ref1 r]
  have f1 := PySem.F.conv_sub_bool
  refine callType_codes (T := "bool") (Bi := Builtin.«object.__init__») (Q₁ := fun r s₁ => ∃ b, r = .bool b ∧ ∃ H', Inv X pins σ H' s₁ ∧ Q (.bl b) H') PySem.F.called_bool (PySem.F.typeCall_bool_1 _) PySem.F.entry_object_init ?_ ?_
  · refine codeAny_of_tree ?_
    show wpAny _ X.A.in1.in1 (do checkBuiltinCall "bool.__new__" ⟨[.type "bool", .ref a], []⟩; again (.builtin "bool.__new__" ⟨[.type "bool", .ref a], []⟩)) _ _ s
    refine wpAny_bind (wpAny_of_eq (PySem.F.newCall_bool_1 _) (wpAny_pure ⟨plainId_quiet (by decide +kernel) _, codeAny_builtin PySem.F.entry_bool_new ?_⟩))
    rw [Around.under_plainId
        (by decide +kernel) _]
    unfold Builtin.«bool.__new__»
    refine wpAny_bind (m := isType (.type "bool")) (wpAny_pure ?_)
    simp only [Bool.not_true,
        Bool.false_eq_true, if_false]
    refine wpAny_bind (wpAny_of_eq f1 ?_)
    simp only [Bool.not_true,
        Bool.false_eq_true, if_false]
    refine wpAny_bind (m := someArgs "bool" 0 1 _) (wpAny_pure ?_)
    refine wpAny_bind (wpAny_mono (truthy_boolO (Q := fun b H' => Q (.bl b) H') m F hr.in1.in1 rfl hx Iv ha q) (fun b s1 z => ?_) fun _ _ e => e)
    exact wpAny_pure ⟨b, rfl, z⟩
  · rintro obj s₁ ⟨b, rfl, H1, I1, q1⟩
    exact ⟨rfl, PySem.F.args_object_init_2 _ _, object_init_meets PySem.F.called_bool.init.lookup PySem.F.called_bool.made (by decide) X.prog X.w X.A.in1 _ s₁ ⟨rfl, rfl, .bl b, H1, I1, rfl, q1⟩⟩
/-- o in a test, by its __len__ -/
theorem pt_lenO {e : Expr} {ta : TE} (m : OwnM X.K C "__len__" g) (nb : PySem.W.findIn X.K (.ref C) "__bool__" = some none) (F : FnR X.prog X.w X.K X.mg X.base CX k g sp) (hr : Room (k + 1) X.A) (hx : Passes CX X Ek) (ha : PE X e ta)
    (he : ∀ whole, isTrue e X.env whole = (do let v ← whole; standAt e.pos; holding [v] (truthy v)) := by intro _; rfl) :
    PT X e (fun σ H Q => ta σ H fun x H' => ∃ a dx fs, x = .ref a ∧ H' a = some (.ins C dx fs) ∧ sp [.ref a] H' (fun v H2 => ∃ n : Nat, v = .int n ∧ n < 2 ^ 62 ∧ Q (n != 0) H2) Ek) := by
  refine ⟨fun pins s σ H Q Iv h => ?_⟩
  refine isTrue_plain (thn (ha.run pins s σ H _ Iv h) fun v s1 ⟨x, H1, I1, r1, q1⟩ => ?_) (he _)
  obtain ⟨a, dx, fs, rfl, h1, q⟩ := q1
  cases r1
  exact truthy_lenO m nb F hr rfl hx I1 h1 q
end
end DuX
/-! an operator of an own class with another own class that has none at its right -/
namespace DuX
open PySem PySem.Spec
open PyProof.Rows L2
/-- the class at D has no such operator, and is not below C -/
structure OthN (K : PySem.W.Frag) (C D : Addr) (nm : String) : Prop where
  ne : C ≠ D
  cl : ∃ cd, PySem.W.clsIn K D = some cd ∧ cd.mro = [.ref D, .type "object"]
  f : PySem.W.findIn K (.ref D) (PySem.dunder nm) = some none
  r : PySem.W.findIn K (.ref D) (dunderR nm) = some none
  f0 : PySem.W.findIn K (.type "object") (PySem.dunder nm) = some none
  r0 : PySem.W.findIn K (.type "object") (dunderR nm) = some none
  hs : PySem.W.subIn K (.ref D) (.ref C) = some false
section
variable {M : Model} {prog : Program} {w : World} {A : Around} {E : Value → Shared → Prop} {s : Shared} {K : PySem.W.Frag} {x C D f : Addr} {ox : Obj} {od : Option Obj}
open PySem.W in
theorem fills_no {h : Heap} {nm : String} {C : Addr} (X : K.In h) (O : OthN K C D nm) : Looks M h (fillsNumberSlot (.ref D) nm) false := by
  intro A Q E s k q
  obtain ⟨_, ⟨cd, hc, hm⟩, h1, h2, h3, h4, _⟩ := O
  obtain ⟨hh, g, d, tt, os⟩ := s
  have X' : K.In hh := X.keeps k
  have L0 := (looks_clsIn (M := M) X' hc).andThen (f := fun cd => pure cd.mro) .now
  have L1 : Looks M hh (typeLookup (.ref D) (PySem.dunder nm)) none := looks_findIn X' h1
  have L2 : Looks M hh (typeLookup (.ref D) (dunderR nm)) none := looks_findIn X' h2
  have L3 : Looks M hh (typeLookup (.type "object") (PySem.dunder nm)) none := looks_findIn X' h3
  have L4 : Looks M hh (typeLookup (.type "object") (dunderR nm)) none := looks_findIn X' h4
  unfold fillsNumberSlot
  refine wpAny_bind (L0.at ?_)
  rw [hm]
  simp only [List.anyM_cons, List.anyM_nil]
  repeat lk
  exact q
open PySem.W in
theorem bin_nop {op : Operator} {b : Value} {Q : Value → Shared → Prop} (X : K.In s.heap) (J : InstAt s.heap x ox C od) (hb : ∀ M : Model, Looks M s.heap (typeOf b) (.ref D)) (hc : selfFirst K C = true) (hs : findIn K (.ref C) (PySem.dunder op.info.2) = some (some (.ref f))) (hf : isFn K (.ref f) = true)
    (hr : findIn K (.ref C) (dunderR op.info.2) = some none) (O : OthN K C D op.info.2)
    (h : wpAny (model prog w) A (call (.ref f) [.ref x, b]) (PySem.W.CmpBack Q) E s) : wpAny (model prog w) A (binaryOp op (.ref x) b) Q E s := by
  obtain ⟨cd, more, hcd, hm⟩ := ksp_first hc
  have ne := O.ne
  have one := ksp_try X J hs hf h
  rcases hi : op.info with ⟨sym, nm⟩
  rw [hi] at hs hr O one
  dsimp only at hs hr O one
  obtain ⟨hp, g', d, tk, os⟩ := s
  have la := J.type (M := model prog w)
  have lb := hb (model prog w)
  have lc := fills_K (M := model prog w) X hcd hm hs
  have ld := fills_no (M := model prog w) X O
  have le := looks_subIn (M := model prog w) X O.hs
  have lf := ksp_inPy (M := model prog w) X hs hr (.inl rfl)
  have ne : (Value.ref C == Value.ref D) = false := Bool.eq_false_iff.mpr fun q => ne (Value.ref.inj (beq_iff_eq.mp q))
  simp only [binaryOp, hi]
  refine wpAny_holding (wpAny_bind ?_)
  unfold binaryOp1
  refine wpAny_bind (la.at (wpAny_bind (lb.at (wpAny_bind (lc.at ?_)))))
  simp only [ne, if_false, Bool.false_eq_true]
  ksp_lk
  refine wpAny_mono one (fun r s1 hz => ?_) fun _ _ e => e
  obtain ⟨v, rfl, q⟩ := hz
  ksp_lk
  exact q
end
section
variable {X : Cx} {CX : CXT} {k : Nat} {g C D : Addr} {sp : Sp} {Ek : XK}
theorem op_binN {op : Operator} (m : OwnM X.K C (PySem.dunder op.info.2) g) (hc : PySem.W.selfFirst X.K C = true) (hR : PySem.W.findIn X.K (.ref C) (dunderR op.info.2) = some none) (O : OthN X.K C D op.info.2) (F : FnR X.prog X.w X.K X.mg X.base CX k g sp) (hr : Room k X.A) (hx : Passes CX X Ek) :
    OpR X (binaryOp op) (rBinD X.K C D sp Ek) := by
  intro pins s σ H x y v u Q Iv rx ry h
  obtain ⟨a, dx, fs, rfl, ha, ty, q⟩ := h
  cases rx
  obtain ⟨ox, od, J⟩ := inst_of Iv ha
  obtain ⟨Pz, Z, pz, _⟩ := kit_of Iv ry ty
  refine bin_nop Iv.kIn J (fun M => Z.ty M _ Iv.kIn pz) hc m.at_ m.fn hR O ?_
  refine wpAny_mono (run_below F hr rfl hx Iv (vs := [V.ref a, y]) (.cons rfl (.cons ry .nil)) q) (fun z s1 hz => ?_) fun _ _ e => e
  obtain ⟨z', H1, I1, rz, qz⟩ := hz
  exact SlX.cmpback rz ⟨z', H1, I1, rz, qz⟩
end
theorem othN_mk {K : PySem.W.Frag} {C D : Addr} {nm : String} {cd : ClassData} (ne : C ≠ D) (hc : PySem.W.clsIn K D = some cd) (hm : cd.mro = [.ref D, .type "object"]) (f : PySem.W.findIn K (.ref D) (PySem.dunder nm) = some none) (r : PySem.W.findIn K (.ref D) (dunderR nm) = some none)
    (f0 : PySem.W.findIn K (.type "object") (PySem.dunder nm) = some none) (r0 : PySem.W.findIn K (.type "object") (dunderR nm) = some none) (hs : PySem.W.subIn K (.ref D) (.ref C) = some false) : OthN K C D nm := ⟨ne, ⟨cd, hc, hm⟩, f, r, f0, r0, hs⟩
end DuX
namespace K1
open PySem PySem.Spec
open PyProof.Rows L2
/-! ### the text by places -/
def top (i : Nat) : Stmt := PySem.Challenge.pw_onemember_k05_expressions_refused.main.body.getD i (.Pass ⟨0, 0, 0, 0⟩)
abbrev s__wall : Stmt := top 0
abbrev sErrMem : Stmt := inClass (top 5) 0
abbrev sErrChg : Stmt := inClass (top 6) 0
abbrev s_NotAnExpression___init__ : Stmt := inClass (top 7) 0
abbrev s_InvalidForm___init__ : Stmt := inClass (top 8) 0
abbrev sErrText : Stmt := inClass (top 9) 0
abbrev s_UnknownField___init__ : Stmt := inClass (top 10) 0
abbrev sErrNames : Stmt := inClass (top 11) 0
abbrev s_InvalidSets___init__ : Stmt := inClass (top 12) 0
abbrev s_TooManyLeaves___init__ : Stmt := inClass (top 14) 0
abbrev s_TooManyLevels___init__ : Stmt := inClass (top 15) 0
abbrev sIsName : Stmt := top 20
abbrev sWrong : Stmt := top 21
abbrev s_is_field : Stmt := top 26
abbrev s_form_size : Stmt := top 27
abbrev s_is_triple : Stmt := top 28
abbrev s_check_leaves : Stmt := top 29
abbrev s_check_depth : Stmt := top 30
abbrev s_form_text : Stmt := top 31
abbrev s_side_text : Stmt := top 32
abbrev s_read_counted : Stmt := top 33
abbrev s_take_word : Stmt := top 34
abbrev s_joined : Stmt := top 35
abbrev s_form_leaves : Stmt := top 36
abbrev s_form_fields : Stmt := top 37
abbrev s_form_value : Stmt := top 38
abbrev sInit : Stmt := inClass (top 40) 0
abbrev sFromN : Stmt := inClass (top 40) 1
abbrev sReadM : Stmt := inClass (top 40) 2
abbrev sNamesP : Stmt := inClass (top 40) 3
abbrev sStrM : Stmt := inClass (top 40) 4
abbrev sReprM : Stmt := inClass (top 40) 5
abbrev sLenM : Stmt := inClass (top 40) 6
abbrev sIterM : Stmt := inClass (top 40) 7
abbrev sHasM : Stmt := inClass (top 40) 8
abbrev sEqM : Stmt := inClass (top 40) 9
abbrev sOrM : Stmt := inClass (top 40) 10
abbrev sAndM : Stmt := inClass (top 40) 11
abbrev sSubM : Stmt := inClass (top 40) 12
abbrev sXorM : Stmt := inClass (top 40) 13
abbrev sIorM : Stmt := inClass (top 40) 14
abbrev sIandM : Stmt := inClass (top 40) 15
abbrev sIsubM : Stmt := inClass (top 40) 16
abbrev sIxorM : Stmt := inClass (top 40) 17
abbrev sLeM : Stmt := inClass (top 40) 18
abbrev sLtM : Stmt := inClass (top 40) 19
abbrev sGeM : Stmt := inClass (top 40) 20
abbrev sGtM : Stmt := inClass (top 40) 21
abbrev sAddM : Stmt := inClass (top 40) 22
abbrev sInitC : Stmt := inClass (top 41) 0
abbrev sBetC : Stmt := inClass (top 41) 1
abbrev sCameP : Stmt := inClass (top 41) 2
abbrev sWentP : Stmt := inClass (top 41) 3
abbrev sReprC : Stmt := inClass (top 41) 4
abbrev sBoolC : Stmt := inClass (top 41) 5
abbrev sAbsC : Stmt := inClass (top 41) 6
abbrev sEqC : Stmt := inClass (top 41) 7
abbrev sNegC : Stmt := inClass (top 41) 8
abbrev sAddC : Stmt := inClass (top 41) 9
abbrev sChkM : Stmt := top 42
abbrev sChkC : Stmt := top 43
abbrev s_Expression___init__ : Stmt := inClass (top 45) 0
abbrev s_Expression_read : Stmt := inClass (top 45) 1
abbrev s_Expression_form : Stmt := inClass (top 45) 2
abbrev s_Expression_leaves : Stmt := inClass (top 45) 3
abbrev s_Expression_depth : Stmt := inClass (top 45) 4
abbrev s_Expression_fields : Stmt := inClass (top 45) 5
abbrev s_Expression_has_given : Stmt := inClass (top 45) 6
abbrev s_Expression___str__ : Stmt := inClass (top 45) 7
abbrev s_Expression___repr__ : Stmt := inClass (top 45) 8
abbrev s_Expression___eq__ : Stmt := inClass (top 45) 9
abbrev s_Expression___or__ : Stmt := inClass (top 45) 10
abbrev s_Expression___and__ : Stmt := inClass (top 45) 11
abbrev s_Expression___sub__ : Stmt := inClass (top 45) 12
abbrev s_Expression___xor__ : Stmt := inClass (top 45) 13
abbrev s_Expression_within : Stmt := inClass (top 45) 14
abbrev s_Expression_of : Stmt := inClass (top 45) 15
abbrev s_Expression_meets : Stmt := inClass (top 45) 16
abbrev s_Fact___init__ : Stmt := inClass (top 46) 0
abbrev s_Fact_read : Stmt := inClass (top 46) 1
abbrev s_Fact_left : Stmt := inClass (top 46) 2
abbrev s_Fact_right : Stmt := inClass (top 46) 3
abbrev s_Fact_form : Stmt := inClass (top 46) 4
abbrev s_Fact_fields : Stmt := inClass (top 46) 5
abbrev s_Fact_has_given : Stmt := inClass (top 46) 6
abbrev s_Fact___str__ : Stmt := inClass (top 46) 7
abbrev s_Fact___repr__ : Stmt := inClass (top 46) 8
abbrev s_Fact___eq__ : Stmt := inClass (top 46) 9
abbrev s_Fact_is_kept : Stmt := inClass (top 46) 10
abbrev s_fields_of_two : Stmt := top 47
abbrev s_check_expression : Stmt := top 48
abbrev s_with_sign : Stmt := top 49
abbrev s_all_sets : Stmt := top 50
abbrev s_field_sets : Stmt := top 51
abbrev s_is_field_set : Stmt := top 52
abbrev sCell : Stmt := top 54
abbrev sPool : Stmt := top 55
abbrev sDraw : Stmt := top 56
abbrev sNames : Stmt := top 57
abbrev s_L_form : Stmt := top 58
abbrev sCaught : Stmt := top 59
abbrev s_L_spoilt : Stmt := top 60
abbrev s_L_bad_line : Stmt := top 61
abbrev s_L_broad : Stmt := top 62
abbrev s_L_tall : Stmt := top 63
abbrev s_L_tall_line : Stmt := top 64
abbrev s_L_limits_right : Stmt := top 65
abbrev sRight : Stmt := top 66
abbrev sLaw : Stmt := top 67
abbrev sIsField : Stmt := top 26
abbrev sSize : Stmt := top 27
abbrev sTriple : Stmt := top 28
abbrev sChkL : Stmt := top 29
abbrev sChkD : Stmt := top 30
abbrev sText : Stmt := top 31
abbrev sSide : Stmt := top 32
abbrev sReadC : Stmt := top 33
abbrev sTake : Stmt := top 34
abbrev sJoined : Stmt := top 35
abbrev sLeavesF : Stmt := top 36
abbrev sFieldsF : Stmt := top 37
abbrev sInitE : Stmt := inClass (top 45) 0
abbrev sReadE : Stmt := inClass (top 45) 1
abbrev sFormP : Stmt := inClass (top 45) 2
abbrev sLeavesP : Stmt := inClass (top 45) 3
abbrev sDepthP : Stmt := inClass (top 45) 4
abbrev sFieldsP : Stmt := inClass (top 45) 5
abbrev sGivenP : Stmt := inClass (top 45) 6
abbrev sStrE : Stmt := inClass (top 45) 7
abbrev sReprE : Stmt := inClass (top 45) 8
abbrev sEqE : Stmt := inClass (top 45) 9
abbrev sOrE : Stmt := inClass (top 45) 10
abbrev sAndE : Stmt := inClass (top 45) 11
abbrev sSubE : Stmt := inClass (top 45) 12
abbrev sXorE : Stmt := inClass (top 45) 13
abbrev sWithin : Stmt := inClass (top 45) 14
abbrev sInitF : Stmt := inClass (top 46) 0
abbrev sReadF : Stmt := inClass (top 46) 1
abbrev sLeftP : Stmt := inClass (top 46) 2
abbrev sRightP : Stmt := inClass (top 46) 3
abbrev sFormF : Stmt := inClass (top 46) 4
abbrev sFieldsFa : Stmt := inClass (top 46) 5
abbrev sGivenF : Stmt := inClass (top 46) 6
abbrev sStrF : Stmt := inClass (top 46) 7
abbrev sReprF : Stmt := inClass (top 46) 8
abbrev sEqF : Stmt := inClass (top 46) 9
abbrev sKept : Stmt := inClass (top 46) 10
abbrev sChkE : Stmt := top 48
abbrev sSign : Stmt := top 49
abbrev sForm : Stmt := top 58
end K1
namespace K1
open PySem PySem.Spec
open PyProof.Rows L2
/-! ### which names are the built-ins' -/
structure Free (mg : Str → Option Value) : Prop where
  len : mg "len" = none
  int : mg "int" = none
  abs : mg "abs" = none
  range : mg "range" = none
  list : mg "list" = none
  str : mg "str" = none
  set : mg "set" = none
  sorted : mg "sorted" = none
  tuple : mg "tuple" = none
  isinstance : mg "isinstance" = none
  enumerate : mg "enumerate" = none
  repr : mg "repr" = none
  bool : mg "bool" = none
  any : mg "any" = none
  all : mg "all" = none
  max : mg "max" = none
  min : mg "min" = none
/-! ### the pool: a list of three ints -/
def PoolAt (H : Hp) (p : Addr) : Prop := ∃ a b c : Int, H p = some (.lst [.int a, .int b, .int c])
def spCell (K : PySem.W.Frag) : Sp := fun vs H Q _ => ∃ (a : Addr) (ns : List Int) (k : Nat), vs = [.ref a, .int k] ∧ SqL K H a (ns.map V.int) ∧ ∀ z : Int, Q (.int z) H
def spPool : Sp := fun vs H Q _ => ∃ z : Int, vs = [.int z] ∧ ∀ p, H p = none → ∀ a b c : Int, Q (.ref p) (upd H p (.lst [.int a, .int b, .int c]))
/-- all but the pool stays, the pool is a pool -/
structure Ext (p : Addr) (H H' : Hp) : Prop where
  pool : PoolAt H' p
  keep : ∀ b o, b ≠ p → H b = some o → H' b = some o
theorem PoolAt.ne {H : Hp} {p q : Addr} (h : PoolAt H p) (n : H q = none) : q ≠ p := fun e => by
  obtain ⟨a, b, c, h⟩ := h
  rw [e, h] at n
  cases n
theorem Ext.refl {p : Addr} {H : Hp} (h : PoolAt H p) : Ext p H H := ⟨h, fun _ _ _ e => e⟩
theorem Ext.trans {p : Addr} {H H1 H2 : Hp} (a : Ext p H H1) (b : Ext p H1 H2) : Ext p H H2 := ⟨b.pool, fun c o n e => b.keep c o n (a.keep c o n e)⟩
theorem Ext.free {p q : Addr} {H H' : Hp} (e : Ext p H H') (n : H' q = none) : H q = none := by
  have n2 := e.pool.ne n
  cases h : H q with
  | none => rfl
  | some o =>
    rw [e.keep q o n2 h] at n
    cases n
theorem Ext.same {p : Addr} {H H1 H2 : Hp} (a : Ext p H H1) (s : Same H1 H2) : Ext p H H2 := ⟨by
  obtain ⟨x, y, z, h⟩ := a.pool
  exact ⟨x, y, z, s _ _ h⟩, fun c o n e => s c o (a.keep c o n e)⟩
theorem same_upd {H : Hp} {p : Addr} {o : HO} (h : H p = none) : Same H (upd H p o) := fun b x e => by
  rw [upd_ne (ne_of_none e h)]
  exact e
theorem Ext.of {p : Addr} {H : Hp} (a b c : Int) : Ext p H (upd H p (.lst [.int a, .int b, .int c])) := ⟨⟨a, b, c, upd_same⟩, fun d o n e => by
  rw [upd_ne n]
  exact e⟩
theorem Ext.at {p q : Addr} {H H' : Hp} {o : HO} (e : Ext p H H') (n : q ≠ p) (h : H q = some o) : H' q = some o := e.keep q o n h
def spDraw : Sp := fun vs H Q _ => ∃ (p : Addr) (m : Int), vs = [.ref p, .int m] ∧ PoolAt H p ∧ 0 < m ∧ m < 1000 ∧ ∀ (d : Int) (H' : Hp), Ext p H H' → 0 ≤ d → d < m → Q (.int d) H'
section
variable {w : World} {P : Program}
variable {base : Heap} {mg : Str → Option Value} {K : PySem.W.Frag}
theorem scCell : FnScope ["_law_cells", "_law_k", "_law_mixed", "_law_cell_here"] ["_law_cells", "_law_k"] (defScope sCell) := ⟨rfl, rfl, rfl, by decide +kernel, rfl, by decide +kernel, by decide +kernel⟩
theorem ok_cell {f : Addr} {fd : FuncData} (F : Fun K "_law_cell" "_law_cell" sCell f fd) (T : Free mg) : FnOk P w K mg base CX0 1 f fd ["_law_cells", "_law_k"] (spCell K) := by
  refine F.ok scCell (fun vs H Q E h => ?_) (fun cdv A outer s H vs Q E hr h => ?_)
  · obtain ⟨a, ns, k, rfl, _⟩ := h
    rfl
  · obtain ⟨a, ns, k, rfl, hS, q⟩ := h
    refine ⟨_, pss_cons (ps_if (pt_cmpR op_lt (pv 1) (pe_callB call_len_seq (by rfl) T.len PySem.boot_len (pa_cons (pv 0) pa_nil)) (nomark _)) (pss_one (ps_ret (pe_ix ix_list (pv 0) (pv 1) (fun _ _ => rfl)))) pss_nil)
      (pss_cons (ps_set (i := 2) scCell.nd rfl (.inl rfl) (pe_op op_add pe_int (pe_op op_mul pe_int (pv 1))))
      (pss_cons (ps_for PassesOwn.never rfl (pi_list (pv 0)) (pg_name (i := 3) scCell.nd rfl (.inl rfl))
        (pss_one (ps_set (i := 2) scCell.nd rfl (.inl rfl) (pe_op op_mod (pe_callTy call_int1 (by rfl) T.int (by decide +kernel) (pa_cons (pe_op op_add (pe_op op_mul (pv 2) pe_int) (pe_callB call_abs (by rfl) T.abs (by decide +kernel) (pa_cons (pv 3) pa_nil))) pa_nil)) pe_int))))
      (pss_one (ps_ret (pe_op op_add (pe_op op_mul (pv 2) pe_int) (pv 1)))))), ?_⟩
    refine ⟨_, rfl, _, rfl, a, _, rfl, .inl hS, _, _, rfl, rfl, _, rfl, ?_⟩
    by_cases hk : (k : Int) < ((ns.map V.int).length : Nat)
    · rw [decide_eq_true hk]
      refine iteT ⟨_, rfl, _, rfl, a, _, _, V.int (ns.getD k 0), rfl, rfl, hS, ?_, q _⟩
      have hk2 : k < ns.length := by
        rw [List.length_map] at hk
        omega
      exact atI_nat (by rw [List.getElem?_map, List.getElem?_eq_getElem hk2, List.getD_eq_getElem?_getD, List.getElem?_eq_getElem hk2]; rfl)
    · rw [decide_eq_false hk]
      refine iteF ?_
      refine ⟨_, rfl, _, _, rfl, rfl, .inl (by decide), _, _, rfl, rfl, ?_⟩
      refine ⟨_, rfl, a, rfl, ⟨_, hS⟩, ?_⟩
      refine for_list (xs := ns.map V.int) (K := K) (a := a) (fun i σ H' => H' = H ∧ ∃ (z : Int) (o : Option V), σ = [some (.ref a), some (.int k), some (.int z), o]) ?_ ?_ ?_ ?_
      · exact ⟨rfl, _, none, rfl⟩
      · rintro i σ H' hi ⟨rfl, _⟩
        exact hS
      · rintro i x σ H' hx ⟨rfl, z, o, rfl⟩
        rw [List.getElem?_map] at hx
        obtain ⟨n, _, rfl⟩ := Option.map_eq_some_iff.mp hx
        refine ⟨_, rfl, _, _, rfl, rfl, .inr (by decide), ?_⟩
        refine ⟨_, rfl, n, rfl, _, _, rfl, rfl, ?_⟩
        refine .inl ⟨_, rfl, _, _, rfl, rfl, (by show (0 : Int) < 2147483629; decide), ?_⟩
        exact ⟨rfl, _, _, rfl⟩
      · rintro σ H' ⟨rfl, z, o, rfl⟩
        refine ⟨_, rfl, _, _, rfl, rfl, .inr (by decide), _, rfl, _, _, rfl, rfl, q _⟩
theorem scPool : FnScope ["_law_cell_here"] ["_law_cell_here"] (defScope sPool) := ⟨rfl, rfl, rfl, by decide +kernel, rfl, by decide +kernel, by decide +kernel⟩
theorem ok_pool {f : Addr} {fd : FuncData} (F : Fun K "_law_pool" "_law_pool" sPool f fd) (T : Free mg) : FnOk P w K mg base CX0 1 f fd ["_law_cell_here"] spPool := by
  refine F.ok scPool (fun vs H Q E h => ?_) (fun cdv A outer s H vs Q E hr h => ?_)
  · obtain ⟨z, rfl, _⟩ := h
    rfl
  · obtain ⟨z, rfl, q⟩ := h
    refine ⟨_, pss_one (ps_ret (pe_lst (pa_cons (pe_op op_mod (pe_callTy call_int1 (by rfl) T.int (by decide +kernel) (pa_cons (pv 0) pa_nil)) pe_int)
      (pa_cons (pe_ifExp (PW.pt (pw_or (pt_cmpR op_lt (pv 0) pe_int (nomark _)) (pw_or1 (pt_cmpR op_ge (pv 0) (pe_op op_pow pe_int pe_int) (nomark _))))) (pe_callB call_abs (by rfl) T.abs (by decide +kernel) (pa_cons (pv 0) pa_nil)) pe_int)
      (pa_cons pe_int pa_nil))))), ?_⟩
    refine ⟨_, rfl, .inl ⟨_, rfl, _, _, rfl, rfl, (by show (0 : Int) < 2147483629; decide), ?_⟩⟩
    have fin : ∀ b : Int, ([V.int (z % 2147483629), V.int b, V.int 0] : List V).length ≤ sizeLine ∧ ∀ p, H p = none → Q (.ref p) (upd H p (.lst [V.int (z % 2147483629), V.int b, V.int 0])) := fun b => ⟨by show 3 ≤ sizeLine; decide, fun p hp => q p hp _ _ _⟩
    refine ⟨_, rfl, _, _, rfl, rfl, _, rfl, ?_⟩
    refine ite2 (fun _ => ?_) (fun _ => ?_)
    · refine iteT ⟨_, rfl, _, rfl, fin _⟩
    · refine ⟨_, rfl, _, _, rfl, rfl, ⟨by decide, by decide, by decide⟩, _, _, rfl, rfl, _, rfl, ?_⟩
      refine ite2 (fun _ => ?_) (fun _ => ?_)
      · exact ⟨_, rfl, _, rfl, fin _⟩
      · exact fin 0
theorem scDraw : FnScope ["_law_pool_here", "_law_many", "_law_mixed", "_law_digit"] ["_law_pool_here", "_law_many"] (defScope sDraw) := ⟨rfl, rfl, rfl, by decide +kernel, rfl, by decide +kernel, by decide +kernel⟩
theorem at3 {a b c : V} {j : Nat} {v : V} (h : [a, b, c][j]? = some v) : atI [a, b, c] (j : Int) = some v := atI_nat h
theorem ok_draw {f : Addr} {fd : FuncData} (F : Fun K "_law_draw" "_law_draw" sDraw f fd) (T : Free mg) : FnOk P w K mg base CX0 1 f fd ["_law_pool_here", "_law_many"] spDraw := by
  refine F.ok scDraw (fun vs H Q E h => ?_) (fun cdv A outer s H vs Q E hr h => ?_)
  · obtain ⟨p, m, rfl, _⟩ := h
    rfl
  · obtain ⟨p, m, rfl, ⟨a, b, c, hp⟩, hm, hm2, q⟩ := h
    refine ⟨_, pss_cons (ps_asg (pe_op op_add (pe_ix ix_list (pv 0) pe_int (fun _ _ => rfl)) pe_int) (pg_sub (pv 0) pe_int set_list))
      (pss_cons (ps_set (i := 2) scDraw.nd rfl (.inl rfl) (pe_op op_mod (pe_callTy call_int1 (by rfl) T.int (by decide +kernel) (pa_cons (pe_op op_add (pe_op op_mul (pe_ix ix_list (pv 0) pe_int (fun _ _ => rfl)) pe_int) (pe_op op_mul (pe_ix ix_list (pv 0) pe_int (fun _ _ => rfl)) pe_int)) pa_nil)) pe_int))
      (pss_cons (ps_asg (pe_op op_mod (pe_callTy call_int1 (by rfl) T.int (by decide +kernel) (pa_cons (pe_op op_add (pe_op op_mul (pv 2) (pe_op op_add (pe_op op_fdiv (pv 2) pe_int) pe_int)) pe_int) pa_nil)) pe_int) (pg_sub (pv 0) pe_int set_list))
      (pss_cons (ps_if (pt_cmpR op_gt (pe_ix ix_list (pv 0) pe_int (fun _ _ => rfl)) pe_int (nomark _))
          (pss_cons (ps_set (i := 3) scDraw.nd rfl (.inl rfl) (pe_op op_modN (pe_callTy call_int1 (by rfl) T.int (by decide +kernel) (pa_cons (pe_ix ix_list (pv 0) pe_int (fun _ _ => rfl)) pa_nil)) (pv 1)))
          (pss_cons (ps_asg (pe_op op_fdivN (pe_callTy call_int1 (by rfl) T.int (by decide +kernel) (pa_cons (pe_ix ix_list (pv 0) pe_int (fun _ _ => rfl)) pa_nil)) (pv 1)) (pg_sub (pv 0) pe_int set_list))
          (pss_one (ps_ret (pv 3))))) pss_nil)
      (pss_one (ps_ret (pe_op op_modN (pe_callTy call_int1 (by rfl) T.int (by decide +kernel) (pa_cons (pe_op op_fdiv (pe_ix ix_list (pv 0) pe_int (fun _ _ => rfl)) pe_int) pa_nil)) (pv 1))))))), ?_⟩
    -- pool[2] = pool[2] + 1
    refine ⟨_, rfl, p, _, _, _, rfl, rfl, SqL.of hp, at3 (j := 2) rfl, _, _, rfl, rfl, _, rfl, p, _, _, 2, rfl, rfl, hp, rfl, ?_⟩
    generalize e1 : upd H p _ = H1
    have h1 : H1 p = some (.lst [.int a, .int b, .int (c + 1)]) := by rw [← e1]; exact upd_same
    have x1 : Ext p H H1 := by rw [← e1]; exact Ext.of a b (c + 1)
    clear e1
    -- mixed
    refine ⟨_, rfl, p, _, _, _, rfl, rfl, SqL.of h1, at3 (j := 0) rfl, _, _, rfl, rfl, .inr (by decide), ?_⟩
    refine ⟨_, rfl, p, _, _, _, rfl, rfl, SqL.of h1, at3 (j := 2) rfl, _, _, rfl, rfl, .inr (by decide), ?_⟩
    refine ⟨_, _, rfl, rfl, .inl ⟨_, rfl, _, _, rfl, rfl, (by show (0 : Int) < 2147483629; decide), ?_⟩⟩
    have hx : ∃ x : Int, x = (a * 48271 + (c + 1) * 69997) % 2147483629 ∧ 0 ≤ x ∧ x < 2147483629 := ⟨_, rfl, by omega, by omega⟩
    obtain ⟨x, ex, x0, xl⟩ := hx
    show tSeq _ _ _ (List.set _ _ (some (V.int ((a * 48271 + (c + 1) * 69997) % 2147483629)))) H1
    rw [← ex]
    -- pool[0]
    refine ⟨_, rfl, _, rfl, _, _, rfl, rfl, ⟨by decide, by decide⟩, _, _, rfl, rfl, _, _, rfl, rfl, .inl ⟨by omega, by omega⟩, _, _, rfl, rfl, .inl ⟨_, rfl, _, _, rfl, rfl, (by show (0 : Int) < 2147483629; decide), ?_⟩⟩
    refine ⟨_, rfl, p, _, _, 0, rfl, rfl, h1, rfl, ?_⟩
    generalize e2 : upd H1 p _ = H2
    obtain ⟨a2, h2, x2⟩ : ∃ a2 : Int, H2 p = some (.lst [.int a2, .int b, .int (c + 1)]) ∧ Ext p H H2 := ⟨(x * (x / 7 + 30011) + 12345) % 2147483629, by rw [← e2]; exact upd_same, x1.trans (by rw [← e2]; exact Ext.of _ b (c + 1))⟩
    clear e2
    -- the digits
    refine ⟨_, rfl, p, _, _, _, rfl, rfl, SqL.of h2, at3 (j := 1) rfl, _, _, rfl, rfl, _, rfl, ?_⟩
    have md : ∀ y : Int, 0 ≤ y.fmod m ∧ y.fmod m < m := fun y => ⟨Int.fmod_nonneg_of_pos _ hm, Int.fmod_lt_of_pos _ hm⟩
    refine ite2 (fun _ => ?_) (fun _ => ?_)
    · refine ⟨_, rfl, p, _, _, _, rfl, rfl, SqL.of h2, at3 (j := 1) rfl, .inl ⟨_, rfl, _, rfl, _, _, rfl, rfl, (by omega), ?_⟩⟩
      refine ⟨_, rfl, p, _, _, _, rfl, rfl, SqL.of h2, at3 (j := 1) rfl, .inl ⟨_, rfl, _, rfl, _, _, rfl, rfl, ⟨by omega, by omega⟩, ?_⟩⟩
      refine ⟨_, rfl, p, _, _, 1, rfl, rfl, h2, rfl, _, rfl, ?_⟩
      exact q _ _ (x2.trans (Ext.of a2 _ (c + 1))) (md _).1 (md _).2
    · refine ⟨_, rfl, p, _, _, _, rfl, rfl, SqL.of h2, at3 (j := 0) rfl, _, _, rfl, rfl, ⟨by decide, by decide⟩, .inl ⟨_, rfl, _, rfl, _, _, rfl, rfl, (by omega), ?_⟩⟩
      exact q _ _ x2 (md _).1 (md _).2
end
end K1
namespace K1
open PySem PySem.Spec PyProof.Rows L2 TL
/-! ### tags: texts of one to three lower-case letters -/
def Low (z : Str) : Prop := ∀ c ∈ tl z, 97 ≤ c ∧ c ≤ 122
structure Tag (z : Str) : Prop where
  lo : 1 ≤ (tl z).length
  hi : (tl z).length ≤ 3
  low : Low z
/-- a sign's text -/
abbrev sg (c : Nat) : Str := ⟨#[c]⟩
theorem len_tl (z : Str) : z.length = (tl z).length := by simp [Str.length]
theorem joinL_sg : ∀ cs : List Nat, joinL [] (cs.map fun c => [c]) = cs
  | [] => rfl
  | [c] => rfl
  | c :: d :: r => by
    show [c] ++ ([] ++ joinL [] ((d :: r).map fun c => [c])) = c :: d :: r
    rw [joinL_sg (d :: r)]
    rfl
theorem join_sg (cs : List Nat) : tl (Txt.join (Str.ofString "") (cs.map sg)) = cs := by
  rw [join_eq, tl_join, List.map_map]
  have e : tl (Str.ofString "") = [] := by decide +kernel
  rw [e]
  exact joinL_sg cs
abbrev letters : Str := Str.ofString "abcdefghijklmnopqrstuvwxyz"
theorem letters_len : letters.length = 26 := by decide +kernel
theorem letters_cps : letters.cps = (((List.range 26).map fun i => 97 + i).toArray) := by decide +kernel
theorem letters_at {i : Nat} (h : i < 26) : letters.cps[i]? = some (97 + i) := by
  rw [letters_cps]
  simp [h]
theorem sum_sg : ∀ cs : List Nat, ((cs.map sg).map (·.length)).sum = cs.length
  | [] => rfl
  | c :: r => by
    have ih := sum_sg r
    rw [List.map_cons, List.map_cons, List.sum_cons, ih, List.length_cons]
    show 1 + r.length
        = r.length + 1
    omega
theorem nodup_at {zs : List Str} {t : Nat} {b : Int} (hl : zs.length ≤ 26) (h : ∀ (k : Nat) (z : Str), zs[k]? = some z → (tl z)[t]? = some (97 + ((b + (0 + (k : Int))) % 26).toNat)) : zs.Nodup := by
  refine List.pairwise_iff_getElem.mpr fun i j hi hj hij e => ?_
  have a := h i _ (List.getElem?_eq_getElem hi)
  have b := h j _ (List.getElem?_eq_getElem hj)
  rw [e] at a
  have c := Option.some.inj (a.symm.trans b)
  omega
def spNames : Sp := fun vs H Q _ => ∃ (p : Addr) (m : Nat), vs = [.ref p, .int m] ∧ PoolAt H p ∧ m ≤ 26 ∧ ∀ (q : Addr) (zs : List Str) (H' : Hp), Ext p H H' → H q = none → H' q = some (.lst (zs.map V.str)) → zs.length = m → (∀ z ∈ zs, Tag z) → zs.Nodup → Q (.ref q) H'
section
variable {w : World} {P : Program}
variable {base : Heap} {mg : Str → Option Value} {K : PySem.W.Frag}
abbrev nmNames : List Str := ["_law_pool_here", "_law_many", "_law_letters", "_law_found", "_law_k", "_law_stem", "_law_at", "_law_base", "_law_own"]
theorem scNames : FnScope nmNames ["_law_pool_here", "_law_many"] (defScope sNames) := ⟨rfl, rfl, rfl, by decide +kernel, rfl, by decide +kernel, by decide +kernel⟩
theorem ok_names {f fD : Addr} {fd fdD : FuncData} (F : Fun K "_law_names" "_law_names" sNames f fd) (T : Free mg) (FD : Fun K "_law_draw" "_law_draw" sDraw fD fdD) (mgD : mg "_law_draw" = some (.ref fD)) :
    FnOk P w K mg base CX0 2 f fd ["_law_pool_here", "_law_many"] spNames := by
  have GD : FnOk P w K mg base CX0 1 fD fdD ["_law_pool_here", "_law_many"] spDraw := ok_draw FD T
  have bD : Binds K fdD ["_law_pool_here", "_law_many"] [] := FD.binds (ps := ["_law_pool_here", "_law_many"]) fun _ _ _ _ _ _ us hl => match us, hl with | [_, _], _ => rfl
  refine F.ok scNames (fun vs H Q E h => ?_) (fun cdv A outer s H vs Q E hr h => ?_)
  · obtain ⟨p, m, rfl, _⟩ := h
    rfl
  · obtain ⟨p, m, rfl, hp, hm, q⟩ := h
    refine ⟨_, pss_cons (ps_asg (pe_tup (pa_cons pe_str (pa_cons (pe_lst pa_nil) pa_nil))) (pg_tup rfl (pgs_cons (pg_name (i := 2) scNames.nd rfl (.inr rfl)) (pgs_cons (pg_name (i := 3) scNames.nd rfl (.inl rfl)) pgs_nil))))
      (pss_cons (ps_setLc (i := 5) (own := [("_law_k", 4)]) (g := gName 4) rfl scNames.nd rfl rfl (sw_true rfl rfl rfl (by decide +kernel))
          (pi_range1 rfl T.range (pa_cons (pe_op op_add pe_int (pe_call GD hr rfl mgD FD.kp bD .nil pass0 (pa_cons (pv 0) (pa_cons pe_int pa_nil)))) pa_nil))
          (blkOk_by (own := [("_law_k", 4)]) (N := nmNames) (sc := defScope sNames) (by decide +kernel)) (fun _ _ _ _ _ => pg_name (i := 4) scNames.nd rfl (Or.inl rfl)) (fun _ _ _ _ _ => pts_nil)
          (fun _ _ _ _ _ => pe_item_str (pv 2) (pe_call GD hr rfl mgD FD.kp bD .nil pass0 (pa_cons (pv 0) (pa_cons pe_int pa_nil))) (fun _ _ => rfl)))
      (pss_cons (ps_par (i := 6) (j := 7) rfl scNames.nd rfl rfl (by decide) rfl rfl (pa_cons (pe_call GD hr rfl mgD FD.kp bD .nil pass0 (pa_cons (pv 0) (pa_cons (pe_callB call_len_seq (by rfl) T.len PySem.boot_len (pa_cons (pv 5) pa_nil)) pa_nil))) (pa_cons (pe_call GD hr rfl mgD FD.kp bD .nil pass0 (pa_cons (pv 0) (pa_cons pe_int pa_nil))) pa_nil)) (by rfl))
      (pss_cons (ps_for PassesOwn.never rfl (pi_range1 rfl T.range (pa_cons (pv 1) pa_nil)) (pg_name (i := 4) scNames.nd rfl (.inl rfl))
          (pss_cons (ps_set (i := 8) scNames.nd rfl (.inl rfl) (pe_callTy call_list_of (by rfl) T.list (by decide +kernel) (pa_cons (pv 5) pa_nil)))
          (pss_cons (ps_asg (pe_item_str (pv 2) (pe_op op_mod (pe_callTy call_int1 (by rfl) T.int (by decide +kernel) (pa_cons (pe_op op_add (pv 7) (pv 4)) pa_nil)) pe_int) (fun _ _ => rfl)) (pg_sub (pv 8) (pv 6) set_list))
          (pss_one (ps_expr (pe_bm PySem.F.plainAttrs_list PySem.F.slot_list_append PySem.F.type_list_append mt_append (pv 3) (pa_cons (pe_join pe_str (pv 8)) pa_nil)))))))
      (pss_one (ps_ret (pv 3)))))), ?_⟩
    -- letters, found
    refine ⟨(by show 0 ≤ sizeLine; decide), fun F nF => ⟨(by show 2 ≤ sizeLine; decide), fun t nt => ?_⟩⟩
    refine ⟨t, _, rfl, SqT.of upd_same, rfl, ?_⟩
    have nFp : F ≠ p := hp.ne nF
    have ntF : t ≠ F := fun e => by
      rw [e, upd_same] at nt
      cases nt
    have s1 : Same H (upd H F (.lst [])) := same_upd nF
    have s2 : Same (upd H F (.lst [])) (upd (upd H F (.lst [])) t (.tup [.str letters, .ref F])) := same_upd nt
    have hF : (upd (upd H F (.lst [])) t (.tup [.str letters, .ref F])) F = some (.lst []) := by rw [upd_ne (Ne.symm ntF), upd_same]
    have x1 : Ext p H (upd (upd H F (.lst [])) t (.tup [.str letters, .ref F])) := ((Ext.refl hp).same s1).same s2
    generalize (upd (upd H F (.lst [])) t (.tup [.str letters, .ref F])) = H1 at hF x1 ⊢
    -- stem
    refine ⟨_, _, rfl, _, _, rfl, rfl, ?_⟩
    refine ⟨_, rfl, p, 3, rfl, x1.pool, by decide, by decide, fun d H2 x2 d0 d1 => ?_⟩
    refine ⟨_, _, rfl, rfl, _, rfl, by omega, by omega, fun S nS => ?_⟩
    have hF2 : H2 F = some (.lst []) := x2.at nFp hF
    have nSF : S ≠ F := fun e => by
      rw [e, hF2] at nS
      cases nS
    have nSp : S ≠ p := x2.pool.ne nS
    have xx : Ext p H H2 := x1.trans x2
    refine lc_range (lo := 0) (n := (1 + d).toNat) (fun i H' => Ext p H2 H' ∧ ∃ cs : List Nat, H' S = some (.lst ((cs.map sg).map V.str)) ∧ cs.length = i ∧ ∀ c ∈ cs, 97 ≤ c ∧ c ≤ 122) ?_ ?_ ?_
    · exact ⟨(Ext.refl x2.pool).same (same_upd nS), [], upd_same, rfl, fun c z => by cases z⟩
    · rintro i H' hi ⟨xe, cs, hS, hl, hc⟩
      refine ⟨rfl, ?_⟩
      refine ⟨_, rfl, _, rfl, p, 26, rfl, xe.pool, by decide, by decide, fun e H3 x3 e0 e1 => ?_⟩
      refine ⟨letters, e, 97 + e.toNat, rfl, rfl, e0, by omega, ?_, letters_at (by omega), (cs.map sg).map V.str, x3.at nSp hS, ?_, ?_⟩
      · rw [letters_len]
        exact e1
      · rw [List.length_map, List.length_map, hl]
        exact small1000 (by omega)
      · have hS3 : (H3 S) = some (.lst ((cs.map sg).map V.str)) := x3.at nSp hS
        refine ⟨⟨?_, fun b o n z => ?_⟩, cs ++ [97 + e.toNat], ?_, ?_, ?_⟩
        · obtain ⟨a, b, c, z⟩ := x3.pool
          exact ⟨a, b, c, by rw [upd_ne (Ne.symm nSp)]; exact z⟩
        · have nb : b ≠ S := ne_of_none z nS
          rw [upd_ne nb]
          exact x3.keep b o n (xe.keep b o n z)
        · rw [upd_same, List.map_append, List.map_append]
          rfl
        · rw [List.length_append, hl]
          rfl
        · intro c hc2
          rcases List.mem_append.mp hc2 with z | z
          · exact hc c z
          · have z2 : c = 97 + e.toNat := List.mem_singleton.mp z
            omega
    · rintro H3 ⟨xe, cs, hS, hl, hc⟩
      have hF3 : H3 F = some (.lst []) := xe.at nFp hF2
      -- at, base
      have hS2 : SqL K H3 S ((cs.map sg).map V.str) := SqL.of hS
      have hlS : (((cs.map sg).map V.str).length : Nat) = (1 + d).toNat := by rw [List.length_map, List.length_map, hl]
      refine ⟨_, rfl, _, rfl, S, _, rfl, .inl hS2, p, _, rfl, xe.pool, by omega, by omega, fun t1 H4 x4 t0 t2 => ?_⟩
      refine ⟨_, rfl, p, 26, rfl, x4.pool, by decide, by decide, fun b1 H5 x5 b0 b2 => ?_⟩
      refine ⟨_, _, rfl, ?_⟩
      have x45 : Ext p H3 H5 := x4.trans x5
      have xa : Ext p H H5 := xx.trans (xe.trans x45)
      -- the loop
      refine ⟨_, rfl, m, rfl, by omega, by omega, ?_⟩
      refine for_range (lo := 0) (n := ((m : Nat) : Int).toNat) (fun i σ H' => Ext p H H' ∧ H' S = some (.lst ((cs.map sg).map V.str)) ∧ (∃ zs : List Str, H' F = some (.lst (zs.map V.str)) ∧ zs.length = i ∧ (∀ z ∈ zs, Tag z) ∧ ∀ (k : Nat) (z : Str), zs[k]? = some z → (tl z)[t1.toNat]? = some (97 + ((b1 + (0 + (k : Int))) % 26).toNat)) ∧
        ∃ o1 o2 : Option V, σ = [some (.ref p), some (.int m), some (.str letters), some (.ref F), o1, some (.ref S), some (.int t1), some (.int b1), o2]) ?_ ?_ ?_
      · exact ⟨xa, x45.at nSp hS, ⟨[], x45.at nFp hF3, rfl, fun z hz => (by cases hz), fun k z hk => by cases hk⟩, none, none, rfl⟩
      · rintro i σ H' hi ⟨xf, hS', ⟨zs, hF', hz, ht, hk⟩, o1, o2, rfl⟩
        -- own = list(stem)
        refine ⟨_, rfl, S, _, rfl, .inl (SqL.of hS'), fun W nW => ?_⟩
        have nWp : W ≠ p := xf.pool.ne nW
        have nWF : W ≠ F := fun e => by
          rw [e, hF'] at nW
          cases nW
        refine ⟨_, rfl, _, rfl, _, rfl, _, _, rfl, rfl, .inl ⟨_, rfl, _, _, rfl, rfl, (by show (0 : Int) < 26; decide), ?_⟩⟩
        have r0 : 0 ≤ (b1 + (0 + (i : Int))) % 26 := by omega
        have r1 : (b1 + (0 + (i : Int))) % 26 < 26 := by omega
        refine ⟨letters, _, 97 + ((b1 + (0 + (i : Int))) % 26).toNat, rfl, rfl, r0, by omega, ?_, letters_at (by omega), ?_⟩
        · rw [letters_len]
          exact r1
        have ht1 : t1.toNat < cs.length := by
          rw [hl]
          omega
        refine ⟨_, rfl, _, rfl, W, _, _, t1.toNat, rfl, rfl, upd_same, ?_, ?_⟩
        · rw [List.length_map, List.length_map]
          unfold ixN
          rw [if_pos t0, if_pos (by omega)]
        have eset : ((cs.map sg).map V.str).set t1.toNat (V.str (sg (97 + ((b1 + (0 + (i : Int))) % 26).toNat))) = ((cs.set t1.toNat (97 + ((b1 + (0 + (i : Int))) % 26).toNat)).map sg).map V.str := by
          rw [List.map_set, List.map_set]
        have hcs : ∀ c ∈ cs.set t1.toNat (97 + ((b1 + (0 + (i : Int))) % 26).toNat), 97 ≤ c ∧ c ≤ 122 := fun c z => by
          rcases List.mem_or_eq_of_mem_set z with z | z
          · exact hc c z
          · omega
        have hln : (cs.set t1.toNat (97 + ((b1 + (0 + (i : Int))) % 26).toNat)).length = cs.length := List.length_set
        have hat : (cs.set t1.toNat (97 + ((b1 + (0 + (i : Int))) % 26).toNat))[t1.toNat]? = some (97 + ((b1 + (0 + (i : Int))) % 26).toNat) := List.getElem?_set_self ht1
        generalize cs.set t1.toNat (97 + ((b1 + (0 + (i : Int))) % 26).toNat) = cs2 at eset hcs hln hat
        generalize eW : upd (upd H' W _) W _ = H6
        have hW : H6 W = some (.lst ((cs2.map sg).map V.str)) := by
          rw [← eW, ← eset]
          exact upd_same
        have sm : Same H' H6 := fun b o z => by
          have nb : b ≠ W := ne_of_none z nW
          rw [← eW, upd_ne nb, upd_ne nb]
          exact z
        clear eW
        refine ⟨_, rfl, .inl ⟨rfl, _, SqL.of (sm _ _ hF')⟩, ⟨_, rfl⟩, _, rfl, _, W, cs2.map sg, rfl, rfl, .inl (SqL.of hW), ?_, ?_⟩
        · have e0 := sum_sg cs2
          have e2 : (Str.ofString "").length = 0 := by decide +kernel
          rw [e0, e2]
          omega
        refine ⟨F, _, _, rfl, rfl, sm _ _ hF', ?_, ?_⟩
        · rw [List.length_map, hz]
          exact small1000 (by omega)
        refine ⟨⟨?_, fun b o n z => ?_⟩, ?_, ⟨zs ++ [Txt.join (Str.ofString "") (cs2.map sg)], ?_, ?_, ?_, ?_⟩, _, _, rfl⟩
        · obtain ⟨a, b, c, z⟩ := xf.pool
          exact ⟨a, b, c, by rw [upd_ne (Ne.symm nFp)]; exact sm _ _ z⟩
        · rw [upd_ne (ne_of_none z nF)]
          exact sm _ _ (xf.keep b o n z)
        · rw [upd_ne nSF]
          exact sm _ _ hS'
        · rw [upd_same, List.map_append]
          rfl
        · rw [List.length_append, hz]
          rfl
        · intro z hz2
          rcases List.mem_append.mp hz2 with y | y
          · exact ht z y
          · have y2 : z = Txt.join (Str.ofString "") (cs2.map sg) := List.mem_singleton.mp y
            subst y2
            have ej := join_sg cs2
            refine ⟨?_, ?_, fun c hc2 => ?_⟩
            · rw [ej]
              omega
            · rw [ej]
              omega
            · rw [ej] at hc2
              exact hcs c hc2
        · intro k z hz2
          by_cases hlt : k < zs.length
          · rw [List.getElem?_append_left hlt] at hz2
            exact hk k z hz2
          · rw [List.getElem?_append_right (by omega)] at hz2
            have e3 : k - zs.length = 0 := by
              have := (List.getElem?_eq_some_iff.mp hz2).1
              simp at this
              omega
            rw [e3] at hz2
            cases hz2
            have e4 : k = i := by omega
            subst e4
            rw [join_sg cs2]
            exact hat
      · rintro σ H' ⟨xf, hS', ⟨zs, hF', hz, ht, hk⟩, o1, o2, rfl⟩
        exact ⟨_, rfl, q F zs H' xf nF hF' (by omega) ht (nodup_at (by omega) hk)⟩
end
end K1
/-! enumerate over a tuple -/
namespace EnT
open PySem PySem.Spec
open PyProof.Rows L2
open Builtin
set_option maxHeartbeats
    4000000 in
theorem meets_enumerate_newB1 {v : Value} {o : Obj} {H : Heap → Prop} (B : Begins v o H) :
    Meets (Builtin.«enumerate.__new__» ⟨[.type "enumerate", v], []⟩) (fun _ R s => H s.heap ∧
      R (.ok (.ret (.ref (s.heap.push o).objs.size))) { s with heap := (s.heap.push o).push { cls := .type "enumerate", data := .fields #[.none, .bool false, .ref s.heap.objs.size, rawInt 0, .none, .none] } }) :=
  .of_wp fun prog w A R s hyp => by
    obtain ⟨hp, g, d, tk, os⟩ := s; obtain ⟨h1, hyp⟩ := hyp
    have hsub := sub_enumerate
    have q1 : ∀ {A' : Around} {E : Value → Shared → Prop} {Q : Value → Shared → Prop}, Q (.ref
        hp.objs.size) ⟨hp.push o, g, d, tk, os⟩ → wpAny (model prog w) A' (pyIter v) Q E ⟨hp, g, d, tk, os⟩ :=
      fun q => B.iter prog w _
          _ ⟨hp, g, d, tk, os⟩ _ h1 q
    wp_walk using q1
    refine wpAny_stack_any fun stA => wpAny_pure ?_
    split
    · rename_i c _ _ _ _ _
      cases (c == Value.type
          "enumerate")
      · wp_walk using q1
        exact ⟨_, rfl, hyp⟩
      · wp_walk using q1
        exact ⟨_, rfl, hyp⟩
    · wp_walk using q1
      exact ⟨_, rfl, hyp⟩
section
variable {prog : Program} {w : World} {A
    : Around} {E : Value → Shared → Prop} {s : Shared}
theorem enum_begins1 {v : Value} {o : Obj} {H : Heap → Prop} {Q : Value → Shared → Prop} (B : Begins v o H) (h1 : H s.heap)
    (hyp : ∀ h', IsEnum h' (s.heap.objs.size + 1) s.heap.objs.size 0 .none → h'.get? s.heap.objs.size = some o → h'.objs.size = s.heap.objs.size + 2 →
      (∀ b o, s.heap.get? b = some o → h'.get? b = some
          o) → Q (.ref (s.heap.objs.size + 1)) { s with heap := h' }) :
    wpAny (model prog w) A (call (.type "enumerate") [v]) Q E s := by
  refine callType_new F.called_enumerate (by decide) (F.typeCall_enumerate_1
      _) (F.newCall_enumerate_1 _) (fun obj => F.args_object_init_2 obj _) F.entry_enumerate_new
    (meets_enumerate_newB1 B) ⟨h1, ?_⟩
  have szA : (s.heap.push o).objs.size = s.heap.objs.size + 1 := Heap.size_push ..
  show _ ∧ _
  rw [szA]
  have enA : IsEnum ((s.heap.push o).push { cls := .type "enumerate", data := .fields #[.none, .bool false, .ref s.heap.objs.size, rawInt 0, .none, .none] }) (s.heap.objs.size + 1) s.heap.objs.size 0 .none := by
    have := Heap.get?_push_size (s.heap.push o) (o := { cls := .type "enumerate", data := .fields #[.none, .bool false, .ref s.heap.objs.size, rawInt 0, .none, .none] }) rfl
    rw [szA] at this; exact this
  refine ⟨⟨_, enA, rfl⟩, hyp _ enA (Heap.get?_push_of_some _ (Heap.get?_push_size _ B.free)) (by rw [Heap.size_push, szA]) fun b o x => Heap.get?_push_of_some _ (Heap.get?_push_of_some _ x)⟩
end
/-- the tuple at a, each item in a new pair -/
def Itet (K : PySem.W.Frag) (a : Addr) : It :=
  ⟨fun i H => ∃ (xs : List V) (x : V), SqT K H a xs ∧ xs[i]? = some x, fun i H v H' => ∃ T x, v = .ref T ∧ H T = none ∧ H' = upd H T (.tup [.int (i : Nat), x]) ∧ ∀ xs, SqT K H a xs → xs[i]? = some x, fun i H => ∃ xs : List V, SqT K H a xs ∧ xs.length ≤ i⟩
theorem turn_enumT {P : Program} {w : World} {K : PySem.W.Frag} {elts : List Expr} {kk : Nat} {tpos : Pos} (a e it : Addr) (hai : a ≠ it) (hae : e ≠ a) :
    Turn P w K (.Tuple elts kk tpos) (Itet K a) [e, it] e (fun i hyp => (∃ old, IsEnum hyp e it ((i : Nat) : Int) old) ∧ hyp.IsTupleIter it a i ∧ e ≠ it) where
  mem := by simp
  obj := fun i hyp stA b memB => by
    obtain ⟨⟨old, enA⟩, ⟨o, obA, clA, dtA⟩, _⟩ := stA
    have eqB : b = e ∨ b = it := by simpa using memB
    rcases eqB with zA | zA
    · rw [zA]; exact ⟨_, enA, fun v q => nomatch q⟩
    · rw [zA]; exact ⟨o, obA, fun v q => by rw [dtA] at q; cases q⟩
  keep := fun i hyp h' stA k => let ⟨⟨old, enA⟩, hi, neA⟩ := stA; ⟨⟨old, k e (by simp) _ enA⟩, hi.at fun o q => k it (by simp) o q, neA⟩
  item := by
    intro X hP hw hK clA i pins s σ H E Iv fpA stA hg
    subst hP hw hK
    obtain ⟨⟨old, enA⟩, itA, neA⟩ := stA
    obtain ⟨xs, x, seqA, hx⟩ := hg
    obtain ⟨vsA, relA, p, szA⟩ := Iv.tuple seqA
    obtain ⟨u, getA, rlA⟩ := relA.get hx
    have ltE : e < s.heap.objs.size := Heap.lt_size enA
    have ltI : it < s.heap.objs.size := by obtain ⟨_, q, _⟩ := itA; exact Heap.lt_size q
    have hlt : i < vsA.toArray.size := by
      have := (List.getElem?_eq_some_iff.mp getA).1
      simpa using this
    refine wpAny_pyNext_enum_itemD (Draws.tuple (A := X.A.in1) (prog := X.prog) (w := X.w) (show X.A.in1.handled = none from Iv.ok.hd clA) it a hai vsA.toArray) enA ⟨itA, p⟩ hlt neA (by simp [neA, hae]) fun x' h' tk hx' obA st' tyA hsz kpA => ?_
    have ex : x' = u := by
      have : vsA[i]? = some x' := by simpa using hx'
      rw [getA] at this
      exact (Option.some.inj
          this).symm
    subst ex
    refine ⟨_, rfl, wpAny_letOwnedTupleGo_enum (s := { s with heap := h', toks := tk + 1 }) obA fun h'' he' sameB => ?_⟩
    have hT2 : h''.get? s.heap.objs.size = some { cls := .type "tuple", data := .seq #[.int i tk, x'] } := (sameB.2 _ (Nat.ne_of_gt ltE)).trans tyA
    have new : ObjOk X.prog X.w (upd H s.heap.objs.size (.tup [.int
        (i : Nat), x])) h'' s.heap.objs.size (.tup [.int (i : Nat), x]) :=
      ⟨by show 2 ≤ sizeLine; decide, [.int i tk, x'], .cons ⟨_, rfl⟩ (.cons rlA .nil), ⟨_, hT2, rfl, _, rfl⟩⟩
    have Iv1 : Inv X pins σ (upd H s.heap.objs.size (.tup [.int (i : Nat), x])) { s with heap := h'', toks := tk + 1 } :=
      Iv.turnedNew (ch := [e, it]) (fun b ob memB q => (sameB.2 b (fun zA => memB (by simp [zA]))).trans (kpA b ob (fun zA => memB (by simp [zA])) (fun zA => memB (by simp [zA])) q)) fpA (Nat.le_refl _) new
    refine ⟨.ref s.heap.objs.size, _, Iv1, rfl, ⟨_, x, rfl, Iv.hok.fresh (Nat.le_refl _), rfl, fun ys hy => by rw [Iv.tuple_inj hy seqA]; exact hx⟩, ⟨⟨x', ?_⟩, st'.1.at fun o q => (sameB.2 it (Ne.symm neA)).trans q, neA⟩, fun b memB => ?_⟩
    · have eqA : ((i + 1 : Nat) : Int) = (i : Int) + 1 := by omega
      rw [eqA]; exact he'
    · have ltB : b < s.heap.objs.size := by
        have eqB : b = e ∨ b = it := by simpa using memB
        rcases eqB with zA | zA
        · rw [zA]; exact ltE
        · rw [zA]; exact ltI
      rw [upd_ne (Nat.ne_of_lt ltB)]
      exact (fpA b memB).1
  done := by
    intro X hP hw hK clA i pins s σ H E Iv fpA stA hg
    subst hP hw hK
    obtain ⟨⟨old, enA⟩, itA, neA⟩ := stA
    obtain ⟨xs, seqA, hx⟩ := hg
    obtain ⟨vsA, relA, p, szA⟩ := Iv.tuple seqA
    obtain ⟨f0, f1, f2, f3, f4, f5⟩ := fpA it (by simp)
    have hl := relA.length
    have tyA : s.TypeIs (.ref e) "enumerate" := ⟨_, enA, rfl⟩
    unfold pyNext
    refine wpAny_bind (wpAny_attempt (wpAny_callSpecial?_slot (name := Str.ofString "__next__") tyA F.slot_enumerate_next
      (wpAny_call_entry F.slot_enumerate_next tyA F.entry_enumerate_next ?_ (F.args_enumerate_next_1 _))))
    show wpAny _ _ (field
        (.ref e) 2 >>= _) _ _ _
    refine wpAny_bind (wpAny_field enA rfl (x := .ref it) rfl ?_)
    refine wpAny_bind (wpAny_nextOf_tuple_end (A := X.A.in1) (show X.A.in1.handled = none from Iv.ok.hd clA) itA p (by simp; omega) fun h' x he' hx' => ?_)
    obtain ⟨o, obA, hcl⟩ := hx'
    refine wpAny_bind (wpAny_isInstance (T := "StopIteration") (b := true) ⟨o, obA, hcl⟩ isSubtype_stop ?_)
    exact wpAny_pure ⟨rfl, Iv.turned (t' := s.toks) (fun b o memB q => he' b o memB q) f0 f1 f3 f4 f5⟩
  self := fun A i s Q E stA hyp => let ⟨⟨_, enA⟩, _⟩ := stA; wpAny_pyIter_enum enA hyp
def iEnumT (K : PySem.W.Frag) (ta : TA) : TI := fun σ H R => ta σ H fun vs H1 => ∃ a xs, vs = [.ref a] ∧ SqT K H1 a xs ∧ R (Itet K a) H1
theorem pi_enumT {X : Cx} {e : Expr} {ta : TA} {p pos tpos : Pos} {elts : List Expr} {kk : Nat} (hg : Gl X "enumerate") (hm : X.mg "enumerate" = none) (ha : PA X [e] ta) (hs : starEach [e] X.env = [(false, eval e X.env)] := by rfl) :
    PI X (.Tuple elts kk tpos) (.Call (.Name "enumerate" p) [e] [] pos) (iEnumT X.K ta) := by
  refine ⟨fun pins s σ H R Iv hyp => ?_⟩
  refine Call_ (ld_blt Iv hg hm boot_enumerate (PyProof.Rows.callWith_type1 (thn (ha.run pos pins s σ H _ Iv hyp) fun us s1 ⟨vs, H1, Iv1, r1, q1⟩ => ?_) hs rfl))
  obtain ⟨a, xs, ex, seqA, q⟩ := q1
  subst ex
  cases r1 with
  | cons r rr =>
    cases rr
    cases r
    obtain ⟨vsA, relA, p', szA⟩ := Iv1.tuple seqA
    have hal : a < s1.heap.objs.size := by
      obtain ⟨_, q, _⟩ := p'
      exact Heap.lt_size q
    refine enum_begins1 (begins_tuple a vsA.toArray) p' fun h' enA itA hsz kpA => wpAny_pyIter_enum enA ?_
    have Iv2 : Inv X pins σ H1 { s1 with heap := h' } := Iv1.kept (t' := s1.toks) kpA
    refine ⟨s1.heap.objs.size + 1, [s1.heap.objs.size + 1, s1.heap.objs.size], _, _, H1, rfl, Iv2, turn_enumT a (s1.heap.objs.size + 1) s1.heap.objs.size (Nat.ne_of_lt hal) (Nat.ne_of_gt (Nat.lt_succ_of_lt hal)), ⟨⟨.none, enA⟩, ⟨_, itA, rfl, rfl⟩, Nat.succ_ne_self _⟩, fun b memB => ?_, q⟩
    have eqB : b = s1.heap.objs.size + 1 ∨ b = s1.heap.objs.size := by simpa using memB
    have leB : s1.heap.objs.size ≤ b := by
      rcases eqB with zA | zA
      · rw [zA]; exact Nat.le_add_right _ _
      · rw [zA]; exact Nat.le_refl _
    exact Iv1.fpOk leB (Iv1.hok.fresh leB)
theorem walk_enumT {K : PySem.W.Frag} {a : Addr} {xs : List V} : Walk (Itet K a) xs.length (fun H => SqT K H a xs) (YPair (fun i => some (.int (i : Nat))) (fun i => xs[i]?)) := by
  refine ⟨fun i _ hi q => ⟨xs, xs[i], q, by simp [hi]⟩,
      fun _ q => ⟨xs, q, Nat.le_refl _⟩, fun i H v H' _ q y => ?_⟩
  obtain ⟨T, x, h1,
      h2, h3, h4⟩ := y
  exact ⟨T, .int (i : Nat),
      x, h1, h2, h3, rfl, h4 xs q⟩
end EnT
namespace K1
open PySem PySem.Spec
open PyProof.Rows L2
open TL hiding len_tl
/-! ### what a name is -/
def nameB (z : Str) : Bool := if 8 < z.length then false else if Txt.isascii z = false then false else if Txt.isalnum z = false then false else if Txt.isalpha (sg (z.cps.getD 0 0)) = false then false else decide (z = Txt.lower z)
theorem alnum_all : ((List.range 128).all fun c => !((97 ≤ c && c ≤ 122) || (48 ≤ c && c ≤ 57)) || Unicode.isAlnum c) = true := by decide +kernel
theorem alpha_all : ((List.range 128).all fun c => !(97 ≤ c && c ≤ 122) || Unicode.isAlpha c) = true := by decide +kernel
theorem lo1_all : ((List.range 128).all fun c => !((97 ≤ c && c ≤ 122) || (48 ≤ c && c ≤ 57)) || PyProof.Rows.lo1 c == c) = true := by decide +kernel
theorem small_at {p : Nat → Bool} (h : ((List.range 128).all p) = true) {c : Nat} (hc : c < 128) : p c = true := (List.all_eq_true.mp h) c (List.mem_range.mpr hc)
def NameCh (c : Nat) : Prop := (97 ≤ c ∧ c ≤ 122) ∨ (48 ≤ c ∧ c ≤ 57)
theorem name_of {z : Str} (h1 : 1 ≤ (tl z).length) (h8 : (tl z).length ≤ 8) (ha : ∀ c ∈ tl z, NameCh c) (hf : ∀ c r, tl z = c :: r → 97 ≤ c ∧ c ≤ 122) : nameB z = true := by
  have hl : z.length = (tl z).length := TL.len_tl z
  have h128 : ∀ c ∈ tl z, c < 128 := fun c hc => by
    rcases ha c hc with q | q <;> omega
  have e1 : Txt.isascii z = true := by
    show z.cps.all (· < 128) = true
    rw [← Array.all_toList]
    exact List.all_eq_true.mpr fun c hc => decide_eq_true (h128 c hc)
  have e2 : Txt.isalnum z = true := by
    show (decide (z.length > 0) && z.cps.all Unicode.isAlnum) = true
    rw [decide_eq_true (by omega), ← Array.all_toList, Bool.true_and]
    refine List.all_eq_true.mpr fun c hc => ?_
    have q := small_at alnum_all (h128 c hc)
    rcases ha c hc with y | y
    · simpa [y.1, y.2] using q
    · simpa [y.1, y.2] using q
  obtain ⟨c, r, er⟩ : ∃ c r, tl z = c :: r := by
    cases e : tl z with
    | nil =>
      rw [e] at h1
      cases h1
    | cons c r => exact ⟨c, r, rfl⟩
  have e0 : z.cps.getD 0 0 = c := by
    have q : z.cps.getD 0 0 = (tl z).getD 0 0 := by simp [Array.getD_eq_getD_getElem?]
    rw [q, er]
    rfl
  have e3 : Txt.isalpha (sg c) = true := by
    have hc := hf c r er
    have q := small_at alpha_all (h128 c (by rw [er]; exact List.mem_cons_self))
    have q2 : Unicode.isAlpha c = true := by simpa [hc.1, hc.2] using q
    show (decide ((sg c).length > 0) && (sg c).cps.all Unicode.isAlpha) = true
    have e : (sg c).cps.all Unicode.isAlpha = true := by simp [q2]
    rw [e]
    rfl
  have e4 : Txt.lower z = z := by
    rw [lower_ascii h128]
    refine ext_tl ?_
    show (z.cps.map lo1).toList = tl z
    rw [Array.toList_map]
    have q : ∀ l : List Nat, (∀ c ∈ l, NameCh c) → l.map lo1 = l := fun l => by
      induction l with
      | nil => exact fun _ => rfl
      | cons a t ih =>
        intro h
        rw [List.map_cons, ih fun c hc => h c (List.mem_cons_of_mem _ hc)]
        have hn := h a List.mem_cons_self
        have h128 : a < 128 := by rcases hn with y | y <;> omega
        have q := small_at lo1_all h128
        have q2 : lo1 a = a := by
          rcases hn with y | y
          · simpa [y.1, y.2] using q
          · simpa [y.1, y.2] using q
        rw [q2]
    exact q _ ha
  unfold nameB
  rw [if_neg (by omega), e1, if_neg (by decide), e2, if_neg (by decide), e0, e3, if_neg (by decide), e4]
  exact decide_eq_true rfl
theorem tag_name {z : Str} (h : Tag z) : nameB z = true := name_of h.lo (Nat.le_trans h.hi (by decide)) (fun c hc => .inl (h.low c hc)) fun c r e => h.low c (by rw [e]; exact List.mem_cons_self)
/-! ### is_name -/
/-! ### values that are no texts -/
inductive NoStr (H : Hp) : V → Prop where
  | non : NoStr H .non
  | bl (b : Bool) : NoStr H (.bl b)
  | int (i : Int) : NoStr H (.int i)
  | lst {a : Addr} {xs : List V} (e : H a = some (.lst xs)) : NoStr H (.ref a)
  | tup {a : Addr} {xs : List V} (e : H a = some (.tup xs)) : NoStr H (.ref a)
  | dK {a : Addr} {kvs : List (Key × V)} (e : H a = some (.dK kvs)) : NoStr H (.ref a)
theorem NoStr.same {H H' : Hp} {v : V} (s : Same H H') (h : NoStr H v) : NoStr H' v := by
  cases h with
  | non => exact .non
  | bl b => exact .bl b
  | int i => exact .int i
  | lst e => exact .lst (s _ _ e)
  | tup e => exact .tup (s _ _ e)
  | dK e => exact .dK (s _ _ e)
theorem NoStr.ty {K : PySem.W.Frag} {H : Hp} {v : V} (h : NoStr H v) : ∃ t, TyX K H v t ∧ PySem.W.kitOne K t (.type "str") = some false := by
  cases h with
  | non => exact ⟨_, .base .non, kit_ty (by decide +kernel)⟩
  | bl b => exact ⟨_, .base (.bl b), kit_ty (by decide +kernel)⟩
  | int i => exact ⟨_, .base (.int i), kit_ty (by decide +kernel)⟩
  | lst e => exact ⟨_, .base (.lst e), kit_ty (by decide +kernel)⟩
  | tup e => exact ⟨_, .base (.tup e), kit_ty (by decide +kernel)⟩
  | dK e => exact ⟨_, .base (.dK e), kit_ty (by decide +kernel)⟩
def nameV : V → Bool
  | .str z => nameB z
  | _ => false
theorem NoStr.name {H : Hp} {v : V} (h : NoStr H v) : nameV v = false := by
  cases h <;> rfl
/-- a value that is_name may be asked of -/
def VOk (H : Hp) (v : V) : Prop := (∃ z, v = .str z ∧ z.length ≤ sizeLine) ∨ NoStr H v
theorem VOk.same {H H' : Hp} {v : V} (s : Same H H') (h : VOk H v) : VOk H' v := h.elim .inl fun n => .inr (n.same s)
def spIsName : Sp := fun vs H Q _ => ∃ v, vs = [v] ∧ VOk H v ∧ Q (.bl (nameV v)) H
section
variable {w : World} {P : Program}
variable {base : Heap} {mg : Str → Option Value} {K : PySem.W.Frag}
theorem scIsName : FnScope ["value"] ["value"] (defScope sIsName) := ⟨rfl, rfl, rfl, by decide +kernel, rfl, by decide +kernel, by decide +kernel⟩
theorem ok_isname {f : Addr} {fd : FuncData} (F : Fun K "is_name" "is_name" sIsName f fd) (T : Free mg) (mgL : ∃ t, mg "LONGEST_NAME" = some (.int 8 t)) : FnOk P w K mg base CX0 1 f fd ["value"] spIsName := by
  obtain ⟨tL, mgL⟩ := mgL
  refine F.ok scIsName (fun vs H Q E h => ?_) (fun cdv A outer s H vs Q E hr h => ?_)
  · obtain ⟨v, rfl, _⟩ := h
    rfl
  · obtain ⟨v, rfl, h⟩ := h
    refine ⟨_, pss_cons (ps_if (PW.pt (pw_or (pt_not (pt_val (pe_callB call_isi (by rfl) T.isinstance (by decide +kernel) (pa_cons (pv 0) (pa_cons (pe_bltn (v := .ty "str") (u := .type "str") (by rfl) T.str (by decide +kernel) rfl) pa_nil)))))
          (pw_or1 (pt_cmpR op_gt (pe_callB call_len_str (by rfl) T.len PySem.boot_len (pa_cons (pv 0) pa_nil)) (pe_glob (v := .int 8) rfl mgL ⟨_, rfl⟩) (nomark _))))) (pss_one (ps_ret pe_bl)) pss_nil)
      (pss_cons (ps_if (PW.pt (pw_or (pt_not (pt_val (pe_m0 PySem.F.slot_str_isascii PySem.F.type_str_isascii mt_isascii (pv 0)))) (pw_or1 (pt_not (pt_val (pe_m0 PySem.F.slot_str_isalnum PySem.F.type_str_isalnum mt_isalnum (pv 0))))))) (pss_one (ps_ret pe_bl)) pss_nil)
      (pss_one (ps_ret (pe_and (pe_m0 PySem.F.slot_str_isalpha PySem.F.type_str_isalpha mt_isalpha (pe_item_str (pv 0) pe_int (fun _ _ => rfl))) (pe_one (pe_cmpR op_eq (pv 0) (pe_lower (pv 0)) (nomark _))))))), ?_⟩
    obtain ⟨hv, q⟩ := h
    rcases hv with ⟨z, rfl, hz⟩ | n
    · refine ⟨_, rfl, _, _, _, _, true, rfl, .ty _, .base (.str z), kit_ty (by decide +kernel), true, rfl, ?_⟩
      refine iteF ?_
      refine ⟨_, rfl, z, rfl, hz, _, _, rfl, rfl, _, rfl, ?_⟩
      have q : Q (.bl (nameB z)) H := q
      unfold nameB at q
      by_cases h8 : 8 < z.length
      · rw [decide_eq_true (by omega)]
        rw [if_pos h8] at q
        exact iteT q
      rw [decide_eq_false
          (by omega)]
      rw [if_neg h8] at q
      refine iteF ?_
      refine ⟨_, rfl, ⟨_, rfl⟩, _, rfl, rfl, True.intro, _, rfl, ?_⟩
      cases ea : Txt.isascii z with
      | false =>
        rw [ea, if_pos rfl] at q
        exact iteT (iteT q)
      | true =>
        rw [ea, if_neg (by decide)] at q
        refine iteF ?_
        refine ⟨_, rfl, ⟨_, rfl⟩, _, rfl, rfl, True.intro, _, rfl, ?_⟩
        cases en : Txt.isalnum z with
        | false =>
          rw [en, if_pos rfl] at q
          exact iteT q
        | true =>
          rw [en, if_neg (by decide)] at q
          refine iteF ?_
          have hpos : 0 < z.length := by
            have e : (decide (z.length > 0) && z.cps.all Unicode.isAlnum) = true := en
            simp only [Bool.and_eq_true, decide_eq_true_eq] at e
            exact e.1
          have hcp : z.cps[(0 : Int).toNat]? = some (z.cps.getD 0 0) := by
            have h0 : 0 < z.cps.size := hpos
            show z.cps[0]? = _
            rw [Array.getD_eq_getD_getElem?, Array.getElem?_eq_getElem h0]
            rfl
          refine ⟨_, rfl, z, 0, z.cps.getD 0 0, rfl, rfl, by decide, by decide, by omega, hcp, ⟨_, rfl⟩, _, rfl, rfl, True.intro, _, rfl, ?_⟩
          cases el : Txt.isalpha (sg (z.cps.getD 0 0)) with
          | false =>
            rw [el, if_pos rfl] at q
            exact iteF q
          | true =>
            rw [el, if_neg (by decide)] at q
            refine iteT ?_
            refine ⟨_, rfl, _, rfl, ⟨_, rfl⟩, _, rfl, rfl, by omega, rfl, ?_⟩
            have e : decide (V.str z = V.str (Txt.lower z)) = decide (z = Txt.lower z) := by
              by_cases h : z = Txt.lower z
              · rw [decide_eq_true h, decide_eq_true (congrArg V.str h)]
              · rw [decide_eq_false h, decide_eq_false fun y => h (V.str.inj y)]
            show Q (V.bl (decide (V.str z = V.str (Txt.lower z)))) H
            rw [e]
            exact q
    · obtain ⟨t, ty, kt⟩ := n.ty (K := K)
      rw [n.name] at q
      refine ⟨_, rfl, _, _, _, _, false, rfl, .ty _, ty, kt, false, rfl, ?_⟩
      exact iteT (iteT q)
end
end K1
namespace K1
open PySem PySem.Spec PyProof.Rows L2 EnT
/-! ### wrong_at -/
def wrongIx (xs : List V) : Option Nat := xs.findIdx? fun v => !nameV v
def optInt : Option Nat → V
  | some i => .int i
  | none => .non
theorem wrong_some {xs : List V} {i : Nat} {v : V} (hv : xs[i]? = some v) (hn : nameV v = false) (h : (xs.take i).all nameV = true) : wrongIx xs = some i := by
  unfold wrongIx
  rw [List.findIdx?_eq_some_iff_getElem]
  obtain ⟨hi, e⟩ := List.getElem?_eq_some_iff.mp hv
  refine ⟨hi, by rw [e, hn]; rfl, fun j hj => ?_⟩
  have q := (List.all_eq_true.mp h) (xs[j]'(Nat.lt_trans hj hi)) (List.mem_iff_getElem.mpr ⟨j, by rw [List.length_take]; omega, by rw [List.getElem_take]⟩)
  rw [q]
  decide
theorem wrong_none {xs : List V} (h : xs.all nameV = true) : wrongIx xs = none := by
  unfold wrongIx
  rw [List.findIdx?_eq_none_iff]
  intro x hx
  rw [(List.all_eq_true.mp h) x hx]
  rfl
theorem take_all_succ {xs : List V} {i : Nat} {v : V} (hv : xs[i]? = some v) (hn : nameV v = true) (h : (xs.take i).all nameV = true) : (xs.take (i + 1)).all nameV = true := by
  rw [List.take_succ, hv, List.all_append, h]
  simp [hn]
def spWrongT (K : PySem.W.Frag) : Sp := fun vs H Q _ => ∃ (a : Addr) (xs : List V), vs = [.ref a] ∧ SqT K H a xs ∧ (∀ v ∈ xs, VOk H v) ∧ ∀ H', Same H H' → Q (optInt (wrongIx xs)) H'
def spWrongL (K : PySem.W.Frag) : Sp := fun vs H Q _ => ∃ (a : Addr) (xs : List V), vs = [.ref a] ∧ SqL K H a xs ∧ (∀ v ∈ xs, VOk H v) ∧ ∀ H', Same H H' → Q (optInt (wrongIx xs)) H'
theorem sameT {K : PySem.W.Frag} {H H' : Hp} {a : Addr} {xs : List V} (e : Same H H') (h : SqT K H a xs) : SqT K H' a xs := by
  rcases h with h | h
  · rcases h with h | ⟨o, h⟩
    · exact .inl (.inl (e _ _ h))
    · exact .inl (.inr
          ⟨o, e _ _ h⟩)
  · exact .inr h
section
variable {w : World} {P : Program}
variable {base : Heap} {mg : Str → Option Value} {K : PySem.W.Frag}
theorem scWrong : FnScope ["values", "at", "value"] ["values"] (defScope sWrong) := ⟨rfl, rfl, rfl, by decide +kernel, rfl, by decide +kernel, by decide +kernel⟩
theorem ok_wrongT {f fN : Addr} {fd fdN : FuncData} (F : Fun K "wrong_at" "wrong_at" sWrong f fd) (T : Free mg) (GN : FnOk P w K mg base CX0 1 fN fdN ["value"] spIsName) (FN : Fun K "is_name" "is_name" sIsName fN fdN) (mgN : mg "is_name" = some (.ref fN)) :
    FnOk P w K mg base CX0 2 f fd ["values"] (spWrongT K) := by
  have bN : Binds K fdN ["value"] [] := FN.binds (ps := ["value"]) fun _ _ _ _ _ _ us hl => match us, hl with | [_], _ => rfl
  refine F.ok scWrong (fun vs H Q E h => ?_) (fun cdv A outer s H vs Q E hr h => ?_)
  · obtain ⟨a, xs, rfl, _⟩ := h
    rfl
  · obtain ⟨a, xs, rfl, hS, hv, q⟩ := h
    refine ⟨_, pss_cons (ps_for PassesOwn.never rfl (pi_enumT (by rfl) T.enumerate (pa_cons (pv 0) pa_nil)) (pg_tup rfl (pgs_cons (pg_name (i := 1) scWrong.nd rfl (.inl rfl)) (pgs_cons (pg_name (i := 2) scWrong.nd rfl (.inl rfl)) pgs_nil)))
        (pss_one (ps_if (pt_not (pt_val (pe_call GN hr rfl mgN FN.kp bN .nil pass0 (pa_cons (pv 2) pa_nil)))) (pss_one (ps_ret (pv 1))) pss_nil)))
      (pss_one (ps_ret pe_non)), ?_⟩
    refine ⟨_, rfl, a, xs, rfl, hS, ?_⟩
    refine for_it (walk_enumT (xs := xs)) (fun i σ H' => Same H H' ∧ (xs.take i).all nameV = true ∧ ∃ o1 o2 : Option V, σ = [some (.ref a), o1, o2]) ?_ ?_ ?_ ?_
    · exact ⟨Same.refl H, rfl, none, none, rfl⟩
    · rintro i σ H' hi ⟨sm, _⟩
      exact sameT sm hS
    · rintro i x σ H1 H2 hi ⟨sm, ha, o1, o2, rfl⟩ ⟨t, y1, y2, rfl, nt, rfl, e1, e2⟩
      cases e1
      refine ⟨t, _, rfl, SqT.of upd_same, rfl, _, _, rfl, _, _, rfl, rfl, ?_⟩
      have sm2 : Same H (upd H1 t (.tup [.int (i : Nat), y2])) := sm.trans (same_upd nt)
      have hm : y2 ∈ xs := List.mem_of_getElem? e2
      refine ⟨_, rfl, _, rfl, (hv y2 hm).same sm2, _, rfl, ?_⟩
      cases en : nameV y2 with
      | false =>
        refine iteT ⟨_, rfl, ?_⟩
        have z := q _ sm2
        rw [wrong_some e2 en ha] at z
        exact z
      | true =>
        refine iteF ⟨sm2, take_all_succ e2 en ha, _, _, rfl⟩
    · rintro σ H' ⟨sm, ha, o1, o2, rfl⟩
      have z := q _ sm
      rw [List.take_length] at ha
      rw [wrong_none ha] at z
      exact z
theorem ok_wrongL {f fN : Addr} {fd fdN : FuncData} (F : Fun K "wrong_at" "wrong_at" sWrong f fd) (T : Free mg) (GN : FnOk P w K mg base CX0 1 fN fdN ["value"] spIsName) (FN : Fun K "is_name" "is_name" sIsName fN fdN) (mgN : mg "is_name" = some (.ref fN)) :
    FnOk P w K mg base CX0 2 f fd ["values"] (spWrongL K) := by
  have bN : Binds K fdN ["value"] [] := FN.binds (ps := ["value"]) fun _ _ _ _ _ _ us hl => match us, hl with | [_], _ => rfl
  refine F.ok scWrong (fun vs H Q E h => ?_) (fun cdv A outer s H vs Q E hr h => ?_)
  · obtain ⟨a, xs, rfl, _⟩ := h
    rfl
  · obtain ⟨a, xs, rfl, hS, hv, q⟩ := h
    refine ⟨_, pss_cons (ps_for PassesOwn.never rfl (pi_enum (by rfl) T.enumerate (pa_cons (pv 0) pa_nil)) (pg_tup rfl (pgs_cons (pg_name (i := 1) scWrong.nd rfl (.inl rfl)) (pgs_cons (pg_name (i := 2) scWrong.nd rfl (.inl rfl)) pgs_nil)))
        (pss_one (ps_if (pt_not (pt_val (pe_call GN hr rfl mgN FN.kp bN .nil pass0 (pa_cons (pv 2) pa_nil)))) (pss_one (ps_ret (pv 1))) pss_nil)))
      (pss_one (ps_ret pe_non)), ?_⟩
    refine ⟨_, rfl, a, xs, rfl, hS, ?_⟩
    refine for_it (walk_enum (xs := xs)) (fun i σ H' => Same H H' ∧ (xs.take i).all nameV = true ∧ ∃ o1 o2 : Option V, σ = [some (.ref a), o1, o2]) ?_ ?_ ?_ ?_
    · exact ⟨Same.refl H, rfl, none, none, rfl⟩
    · rintro i σ H' hi ⟨sm, _⟩
      exact sm.seq hS
    · rintro i x σ H1 H2 hi ⟨sm, ha, o1, o2, rfl⟩ ⟨t, y1, y2, rfl, nt, rfl, e1, e2⟩
      cases e1
      refine ⟨t, _, rfl, SqT.of upd_same, rfl, _, _, rfl, _, _, rfl, rfl, ?_⟩
      have sm2 : Same H (upd H1 t (.tup [.int (i : Nat), y2])) := sm.trans (same_upd nt)
      have hm : y2 ∈ xs := List.mem_of_getElem? e2
      refine ⟨_, rfl, _, rfl, (hv y2 hm).same sm2, _, rfl, ?_⟩
      cases en : nameV y2 with
      | false =>
        refine iteT ⟨_, rfl, ?_⟩
        have z := q _ sm2
        rw [wrong_some e2 en ha] at z
        exact z
      | true =>
        refine iteF ⟨sm2, take_all_succ e2 en ha, _, _, rfl⟩
    · rintro σ H' ⟨sm, ha, o1, o2, rfl⟩
      have z := q _ sm
      rw [List.take_length] at ha
      rw [wrong_none ha] at z
      exact z
end
end K1
/-! static methods called through their class; instances made by a starred or an empty argument list -/
namespace SmX
open PySem PySem.Spec PyProof.Rows L2 StX ClX
section
variable {X : Cx} {CX : CXT} {k i : Nat} {f C : Addr} {sp : Sp} {E : XK}
    {x m : Str} {e o : Expr} {es : List Expr} {te ta : TE} {t : TA} {p sp_ pos apos : Pos}
/-- C(*y) -/
theorem pe_makeS1 (M : Mk X.K C f) (F : FnR X.prog X.w X.K X.mg X.base CX k f sp) (hr : Room (k + 1) X.A) (hg : Gl X x) (hm : X.mg x = some (.ref C)) (hx : Passes CX X E) (he : PE X e te) (hd : (x == ("__debug__" : Str)) = false := by decide)
    (hst : starEach [.Starred e sp_] X.env
        = [(true, eval e X.env)] := by rfl) :
    PE X (.Call (.Name x p) [.Starred e sp_] [] pos) (fun σ H Q => te σ H fun y H1 => ∃ a xs, y = V.ref a ∧ (SqT X.K H1 a xs ∨ SqL X.K H1 a xs) ∧ ∀ x dx, H1 x = Option.none → H1 dx = Option.none → dx ≠ x →
      sp (V.ref x :: xs) (upd (upd H1 dx (.own x)) x (.ins C dx [])) (fun v H2 => v = .non ∧ Q (.ref x) H2) E) := by
  refine ⟨fun pins s σ H Q Iv hyp => ?_⟩
  refine wpAny_Call_Name_kw (ld_glob Iv hg hm ?_ hd)
  refine PySem.W.callWith_S (h₀ := X.base) Iv.ok.mod.kin M.kp (thn (he.run pins s σ H _ Iv hyp) fun v st1 ⟨y, H1, Iv1, relY, a, xs, ey, hxs, cont⟩ => ?_) hst
  subst ey
  obtain rfl : v = Value.ref a := relY
  exact star_any Iv1 hxs fun us st2 Iv2 rv => ⟨Iv2.kIn, run_makeR M F hr hx Iv2 rv cont⟩
/-- C() -/
theorem pe_makeR0 (M : Mk X.K C f) (F : FnR X.prog X.w X.K X.mg X.base CX k f sp) (hr : Room (k + 1) X.A) (hg : Gl X x) (hm : X.mg x = some (.ref C)) (hx : Passes CX X E) (hd : (x == ("__debug__" : Str)) = false := by decide) :
    PE X (.Call (.Name x p) [] [] pos) (tMakeR C sp E tNil) := by
  refine ⟨fun pins s σ H Q Iv hyp => ?_⟩
  refine wpAny_Call_Name_kw (ld_glob Iv hg hm ?_ hd)
  exact PySem.W.callWith_K0 Iv.kIn M.kp (run_makeR (us := []) (vs := []) M F hr hx Iv .nil hyp)
end
/-- C.m is a staticmethod: its record at p, its def at g -/
structure SMet (K : PySem.W.Frag) (C : Addr) (mc : Value) (m : Str) (p g : Addr) : Prop where
  at_ : PySem.W.findCls K (.ref C) mc m = some (.get (.builtin "staticmethod.__get__") (.ref p) .none (.ref C))
  rc : ∃ rest, PySem.W.recIn K p "staticmethod" = some (.ref g :: rest)
  kp : PySem.W.keepIn K (.ref g) = true
def tSMeth (C : Addr) (sp : Sp) (E : XK) (ta : TE) (t : TA) : TE := fun σ H Q => ta σ H fun x H1 => x = .ref C ∧ t σ H1 fun vs H2 => sp vs H2 Q E
def tSMethK (C : Addr) (m : Nat) (sp : Sp) (gV : List V → List V → List V) (E : XK) (ta : TE) (tk : TA) : TE := fun σ H Q => ta σ H fun x H1 => x = .ref C ∧ tk σ H1 fun zs H2 => zs.length = m ∧ sp (gV [] zs) H2 Q E
section
variable {X : Cx} {CX : CXT} {k : Nat} {C p g : Addr} {mc : Value} {sp : Sp} {E : XK} {o e : Expr} {es : List Expr} {f m : Str} {pos apos : Pos} {ta : TE} {t tk : TA} {pl : Sem Bool} {pins : List (Addr × Obj)} {σ : L2.St} {H : Hp} {s : Shared} {A : Around} {E' : Value → Shared → Prop}
theorem getmethsm_ok {Q : Value × List Value → Shared → Prop} (Iv : Inv X pins σ H s) (r : CRead X.K C mc) (k : SMet X.K C mc m p g) (hyp : ∀ s', Inv X pins σ H s' → Q (.ref g, []) s') : wpAny (model X.prog X.w) A (getMethod (.ref C) m pl) Q E' s := by
  obtain ⟨rest, hp⟩ := k.rc
  refine PySem.W.method_cls Iv.kIn r.ga (PySem.W.cls_bind Iv.kIn r.rd k.at_ ?_)
  exact wpAny_call (PySem.W.sm_get (s := { s with toks := s.toks + 1 }) Iv.kIn hp (PySem.W.handed_on rfl (hyp _ (Iv.tok _))))
theorem pe_smeth (he : PE X o ta) (r : CRead X.K C mc) (c : SMet X.K C mc m p g) (F : FnR X.prog X.w X.K X.mg X.base CX k g sp) (hr : Room k X.A) (hx : Passes CX X E) (ha : PA X (e :: es) t)
    (hst : starEach (e :: es) X.env = (false, eval e X.env) :: starEach es
        X.env := by rfl) (hpl : (backTo pos (starEach es X.env)).any (·.1) = false := by rfl)
    (ht : eval (.Call (.Attribute o
        m apos) (e :: es) [] pos) X.env = (do
      let ov ← eval o X.env
      standAt apos.atName
      let (f, first) ← holding
          [ov] (getMethod ov m pl)
      callWith pos f first (backTo pos (starEach (e :: es)
          X.env)) (backToKw pos (keywordEach [] X.env))) := by rfl) :
    PE X (.Call (.Attribute o m apos) (e :: es) [] pos) (tSMeth C sp E ta t) := by
  refine ⟨fun pins s σ H Q Iv hyp => ?_⟩
  refine PySem.W.methodCall_KW (pl := pl) (thn (he.run pins s σ H _ Iv hyp) fun usV st1 ⟨x, H1, Iv1, relX, ex, cont⟩ => ?_) ht
  subst ex
  obtain rfl : usV = Value.ref C := relX
  refine getmethsm_ok Iv1 r c fun st2 Iv2 => ?_
  refine PySem.W.callWith_K (h₀ := X.base) Iv.ok.mod.kin c.kp (thn (ha.run pos pins st2 σ H1 _ Iv2 cont) fun us st3 ⟨vs, H2, Iv3, rv, q2⟩ => ⟨Iv3.kIn, ?_⟩) hst hpl
  exact wpAny_call (run_fnR F hr hx Iv3 rv q2)
theorem pe_smethK {fd : FuncData} {ps ks : List Str} {kws : List Keyword} {gg : List Value → List Value → List Value} {gV : List V → List V → List V} (he : PE X o ta) (r : CRead X.K C mc) (c : SMet X.K C mc m p g) (F : FnOk X.prog X.w X.K X.mg X.base CX k g fd ps sp) (hb : KBn X.K fd ps 0 ks gg gV) (hr : Room k X.A) (hx : Passes CX X E) (hkw : PK X kws tk)
    (hall : (backToKw pos (keywordEach kws X.env)).all (·.1.isSome) = true := by rfl) (hks : (backToKw pos (keywordEach kws X.env)).filterMap (·.1) = ks := by rfl)
    (hpl : ((backTo pos (starEach [] X.env)).any (·.1) || (backToKw pos (keywordEach kws X.env)).any (·.1.isNone)) = false := by rfl)
    (ht : eval (.Call (.Attribute o m apos) [] kws pos) X.env = (do
      let ov ← eval o X.env
      standAt apos.atName
      let (f, first) ← holding
          [ov] (getMethod ov m pl)
      callWith pos f first (backTo pos (starEach [] X.env)) (backToKw pos (keywordEach kws X.env))) := by rfl) :
    PE X (.Call (.Attribute o m apos) [] kws pos) (tSMethK C ks.length sp gV E ta tk) := by
  refine ⟨fun pins s σ H Q Iv hyp => ?_⟩
  refine PySem.W.methodCall_KW (pl := pl) (thn (he.run pins s σ H _ Iv hyp) fun usV st1 ⟨x, H1, Iv1, relX, ex, cont⟩ => ?_) ht
  subst ex
  obtain rfl : usV = Value.ref C := relX
  refine getmethsm_ok Iv1 r c fun st2 Iv2 => ?_
  refine PySem.W.callWith_KW0 (h₀ := X.base) Iv.ok.mod.kin c.kp hall ?_ hpl
  refine thn (hkw.run pos pins st2 σ H1 _ Iv2 cont) fun ws st3 ⟨zs, H2, Iv3, rz, l2, q2⟩ => ⟨Iv3.kIn, ?_⟩
  rw [hks]
  exact run_fnN (us := []) (vs := []) (n := 0) F hr hb hx Iv3 .nil rz rfl l2 q2
end
end SmX
/-! sorted(set(texts)) -/
namespace TxS
open PySem PySem.Spec
open PyProof.Rows L2
/-- a set whose table can be walked; its members and their hashes are ms -/
def Tbl (w : World) (hp : Heap) (S : Addr) (ms : Array (Int × Value)) : Prop :=
  ∃ (ob : Obj) (ep : Nat) (tb : SetTable), hp.get? S = some ob ∧ ob.ExactSet ∧ ob.data = .set ms ep tb ∧ ms.size < scanBound ∧ tb.fits ms.size = true ∧ Ris tb.place.toList ∧ (w.params.followText "set-order" = true ∨ tb.led = true)
theorem Tbl.moved {w : World} {hp hp' : Heap} {S : Addr} {ms : Array (Int × Value)} (T : Tbl w hp S ms) (kp : ∀ ob, hp.get? S = some ob → hp'.get? S = some ob) : Tbl w hp' S ms := by
  obtain ⟨ob, ep, tb, h0, rest⟩ := T
  exact ⟨ob, ep, tb, kp ob h0, rest⟩
section
variable {P : Program} {w : World} {A : Around} {Er : Value → Shared → Prop} {st : Shared} {S : Addr}
theorem gave_ok {Q1 : Unit → Shared → Prop} {s1 : Shared} (gv : Bool) (cont : Q1 () s1) : wpAny (model P w) A (match gv with | true => rule "set.scan.the-table-gave-way" | false => pure ()) Q1 Er s1 := by
  cases gv with
  | true => exact wpAny_rule cont
  | false => exact wpAny_pure cont
/-- the table laid, and laid anew where it is too full -/
theorem tail_ok {ms ms1 : Array (Int × Value)} {ob : Obj} {ep : Nat} {tb t1 : SetTable} (h0 : st.heap.get? S = some ob) (hx : ob.ExactSet) (hd : ob.data = .set ms ep tb) (b1 : ms1.size < scanBound) (f1 : t1.fits ms1.size = true) (r1 : Ris t1.place.toList)
    (l1 : w.params.followText "set-order" = true ∨ t1.led = true) (wd : Bool) {R : Option Bool → Shared → Prop}
    (hR : ∀ hp' ms', Heap.SameBut S st.heap hp' → Tbl w hp' S ms' → ms'.toList.Perm ms1.toList → R (some true) { st with heap := hp' }) :
    wpAny (model P w) A (do
      storeSet S ms1 t1
      if (!wd && t1.tooFull) = true then do
        (match (relayAll t1 ms1 (SetTable.grown ms1.size)).2.2 with | true => rule "set.scan.the-table-gave-way" | false => pure ())
        storeSet S (relayAll t1 ms1 (SetTable.grown ms1.size)).1 (relayAll t1 ms1 (SetTable.grown ms1.size)).2.1
        pure (some true)
      else pure (some true)) R Er st := by
  refine wpAny_bind (wpAny_storeSet_of h0 hd ?_ (fits_of_scanBound b1))
  have a1 := store_at (es' := ms1) (t' := t1) h0 hd
  have k1 := Heap.SameBut.update st.heap S (Obj.putSet ms1 t1)
  by_cases full : (!wd && t1.tooFull) = true
  · rw [if_pos full]
    have p2 := relayAll_perm t1 ms1 (SetTable.grown ms1.size)
    have n2 : (relayAll t1 ms1 (SetTable.grown ms1.size)).1.size = ms1.size := by
      have cont := p2.length_eq
      simpa using cont
    refine wpAny_bind (gave_ok _ ?_)
    refine wpAny_bind (wpAny_storeSet_of a1 rfl ?_ (fits_of_scanBound (by rw [n2]; exact b1)))
    have a2 := store_at (es' := (relayAll t1 ms1 (SetTable.grown ms1.size)).1) (t' := (relayAll t1 ms1 (SetTable.grown ms1.size)).2.1) a1 rfl
    refine wpAny_pure (hR _ _ (k1.trans (Heap.SameBut.update _ S _)) ⟨_, _, _, a2, hx, rfl, by rw [n2]; exact b1, relayAll_fits t1 ms1 _, relayAll_ris t1 ms1 _, ?_⟩ p2)
    rw [relayAll_led t1 ms1 _]
    exact l1
  · rw [if_neg full]
    exact wpAny_pure (hR _ _ k1 ⟨_, _, _, a1, hx, rfl, b1, f1, r1, l1⟩ .rfl)
variable {κ : Type} [DecidableEq κ] [BEq κ] [LawfulBEq κ] {knd : KeyKind P w κ}
theorem add_ok {ms : Array (Int × Value)} {k : κ} {v : Value} {Q : Bool → Shared → Prop} (T : Tbl w st.heap S ms) (el : ElemsOf knd ms.toList) (hk : knd.is k v = true) (sc : v.scannable = true) (room : ms.size + 1 < scanBound)
    (old : (∃ e ∈ ms.toList, knd.is k e.2 = true) → Q false st)
    (new : (∀ e ∈ ms.toList, knd.is k e.2 = false) → ∀ hp' ms', Heap.SameBut S st.heap hp' → Tbl w hp' S ms' → ms'.toList.Perm ((knd.hash k, v) :: ms.toList) → Q true { st with heap := hp' }) :
    wpAny (model P w) A (setAddHashed S v (knd.hash k)) Q Er st := by
  obtain ⟨ob, ep, tb, h0, hx, hd, b0, f0, r0, l0⟩ := T
  unfold setAddHashed
      setAddHashedIn
  refine wpAny_holding (wpAny_bind (wpAny_setState_of h0 hd f0 ?_))
  dsimp only
  rw [byScan_of sc b0 el]
  simp only [↓reduceIte]
  unfold setAddByScan
  refine wpAny_bind (wpAny_bind (wpAny_rule (wpAny_bind (wpAny_setScan_of hk h0 hd f0 el ?_))))
  cases fdA : List.findIdx? (fun e => knd.is k e.2) ms.toList with
  | some j =>
    obtain ⟨jA, pA, _⟩ := List.findIdx?_eq_some_iff_getElem.mp fdA
    exact wpAny_pure (wpAny_pure (old ⟨_, List.getElem_mem jA, pA⟩))
  | none =>
    have none_ : ∀ e ∈ ms.toList, knd.is k e.2 = false := fun e he => List.findIdx?_eq_none_iff.mp fdA e he
    dsimp only
    have pm := layNew_perm tb ms (knd.hash k) v
    have hf1 := layNew_fits tb ms (knd.hash k) v
    have hr1 := layNew_ris tb ms (knd.hash k) v r0
    have hl1 := layNew_led tb ms (knd.hash k) v
    generalize layNew tb ms (knd.hash k) v = Z at pm hf1 hr1 hl1 ⊢
    obtain ⟨ms1, t1, wd, gv⟩ := Z
    dsimp only at pm hl1 hr1 hf1 ⊢
    have pc : ms1.toList.Perm ((knd.hash k, v) :: ms.toList) := by
      rw [Array.toList_push] at pm
      exact pm.trans (List.perm_append_singleton _ _)
    have n1 : ms1.size = ms.size + 1 := by
      have cont := pc.length_eq
      simpa using cont
    have fin : ∀ hp' ms', Heap.SameBut S st.heap hp' → Tbl w hp' S ms' → ms'.toList.Perm ms1.toList → Q true { st with heap := hp' } := fun hp' ms' sb T' pp => new none_ hp' ms' sb T' (pp.trans pc)
    have led1 : w.params.followText "set-order" = true ∨ t1.led = true := by
      rw [hl1]
      exact l0
    refine wpAny_bind (gave_ok _ ?_)
    by_cases pl : t1.plain = true
    · rw [if_pos pl, hashByValue_scannable 8 sc]
      refine wpAny_bind
          (wpAny_pure ?_)
      by_cases pk : plainKind v = true
      · rw [pk]
        exact tail_ok h0 hx hd (by rw [n1]; exact room) hf1 hr1 led1 wd fun hp' ms' sb T' pp => wpAny_pure (fin hp' ms' sb T' pp)
      · have pk' : plainKind v = false := by simpa using pk
        rw [pk']
        exact tail_ok (t1 := { t1 with plain := false }) h0 hx hd (by rw [n1]; exact room) (SetTable.fits_plain_off hf1) hr1 led1 wd fun hp' ms' sb T' pp => wpAny_pure (fin hp' ms' sb T' pp)
    · rw [if_neg pl]
      refine wpAny_bind
          (wpAny_pure ?_)
      exact tail_ok h0 hx hd (by rw [n1]; exact room) hf1 hr1 led1 wd fun hp' ms' sb T' pp => wpAny_pure (fin hp' ms' sb T' pp)
end
/-! ### texts -/
def txt (e : Int × Value) : Str := match e.2 with
  | .str z _ => z
  | _ => Str.empty
def Txts (P : Program) (w : World) (ms : List (Int × Value)) : Prop := ∀ e ∈ ms, ∃ z t, e.2 = Value.str z t ∧ e.1 = (PySem.strKind P w).hash z
theorem Txts.el {P : Program} {w : World} {ms : List (Int × Value)} (g : Txts P w ms) : ElemsOf (PySem.strKind P w) ms := fun e he => by
  obtain ⟨z, t, e1, e2⟩ := g e he
  exact ⟨⟨z, by rw [e1]; exact strKind_is P w z t, e2⟩, by rw [e1]; rfl⟩
theorem is_txt {P : Program} {w : World} {e : Int × Value} {z y : Str} {t : Tok} (e1 : e.2 = Value.str z t) : (PySem.strKind P w).is y e.2 = true ↔ txt e = y := by
  have cont : txt e = z := by
    unfold txt
    rw [e1]
  rw [cont]
  constructor
  · intro hyp
    have h2 := strKind_is P w z t
    rw [← e1] at h2
    exact (PySem.strKind P w).inj _ _ _ h2 hyp
  · rintro rfl
    rw [e1]
    exact strKind_is P w z t
/-- the set at S holds just the texts in zs -/
def SetTx (P : Program) (w : World) (hp : Heap) (S : Addr) (zs : List Str) (n : Nat) : Prop :=
  ∃ ms, Tbl w hp S ms ∧ Txts P w ms.toList ∧ (ms.toList.map txt).Nodup ∧ (∀ z, z ∈ ms.toList.map txt ↔ z ∈ zs) ∧ ms.size ≤ n
theorem SetTx.moved {P : Program} {w : World} {hp hp' : Heap} {S : Addr} {zs : List Str} {n : Nat} (T : SetTx P w hp S zs n) (kp : ∀ ob, hp.get? S = some ob → hp'.get? S = some ob) : SetTx P w hp' S zs n := by
  obtain ⟨ms, T0, rest⟩ := T
  exact ⟨ms, T0.moved kp, rest⟩
section
variable {P : Program} {w : World} {A : Around} {Er : Value → Shared → Prop} {st : Shared} {S : Addr}
theorem add_text {zs : List Str} {n : Nat} {y : Str} {t : Tok} {Q : Bool → Shared → Prop} (T : SetTx P w st.heap S zs n) (room : n + 1 < scanBound)
    (cont : ∀ b hp', Heap.SameBut S st.heap hp' → SetTx P w hp' S (zs ++ [y]) (n + 1) → Q b { st with heap := hp' }) :
    wpAny (model P w) A (setAddHashed S (.str y t) ((PySem.strKind P w).hash y)) Q Er st := by
  obtain ⟨ms, T0, g, nd, hm, hn⟩ := T
  refine add_ok (knd := PySem.strKind P w) T0 g.el (strKind_is P w y t) rfl (by omega) (fun ⟨e, he, hy⟩ => ?_) (fun no hp' ms' sb T' pp => ?_)
  · obtain ⟨z, t', e1, _⟩ := g e he
    have ey := (is_txt (P := P) (w := w) e1).mp hy
    refine cont false st.heap (Heap.SameBut.refl S st.heap) ⟨ms, T0, g, nd, fun x => ?_, by omega⟩
    rw [hm x, List.mem_append, List.mem_singleton]
    refine ⟨.inl, fun hyp => hyp.elim id fun h2 => ?_⟩
    rw [h2, ← ey]
    exact (hm _).mp (List.mem_map.mpr ⟨e, he, rfl⟩)
  · have nin : y ∉ ms.toList.map txt := fun hyp => by
      obtain ⟨e, he, ey⟩ := List.mem_map.mp hyp
      obtain ⟨z, t', e1, _⟩ := g e he
      have b := (is_txt (P := P) (w := w) (y := y) e1).mpr ey
      rw [no e he] at b
      cases b
    have pk : (ms'.toList.map txt).Perm (y :: ms.toList.map txt) := pp.map txt
    refine cont true hp' sb ⟨ms', T', fun e he => ?_, pk.nodup_iff.mpr (List.nodup_cons.mpr ⟨nin, nd⟩), fun x => ?_, ?_⟩
    · rcases List.mem_cons.mp (pp.mem_iff.mp he) with hyp | hyp
      · rw [hyp]
        exact ⟨y, t, rfl, rfl⟩
      · exact g e hyp
    · rw [pk.mem_iff, List.mem_cons, hm x, List.mem_append, List.mem_singleton]
      exact Or.comm
    · have cont := pp.length_eq
      rw [Array.length_toList, List.length_cons, Array.length_toList] at cont
      omega
/-- all that is walked is added -/
theorem loop_texts {Iv : Addr} {fp wr : List Addr} {G : Array GenState → Array GenState → Prop} {n : Nat} {Pv : Nat → Value → Prop} {Sv : Nat → Shared → Prop} {R : Result → Shared → Prop} (Wk : WalksS P w A.in1 Iv fp wr G n Pv Sv) (far : S ∉ fp)
    (zs : List Str) (hz : zs.length = n) (room : n + 1 < scanBound) (val : ∀ i v, Pv i v → ∃ z t, zs[i]? = some z ∧ v = Value.str z t)
    (fin : ∀ s1, Moved (S :: wr) G st s1 → SetTx P w s1.heap S zs n → R (.ok (.ret .none)) s1) :
    ∀ (left i : Nat) (s1 : Shared), i + left = n → Sv i s1 → Moved (S :: wr) G st s1 → SetTx P w s1.heap S (zs.take i) i → codeAny (model P w) A (.builtin "set.update.loop" ⟨[.ref S, .ref Iv], []⟩) R s1 := by
  have farw : S ∉ wr := fun hyp => far (Wk.sub _ hyp)
  have inc : ∀ b ∈ wr, b ∈ S :: wr := fun b hb => List.mem_cons_of_mem _ hb
  intro left
  induction left with
  | zero =>
    intro i s1 e hs mv T
    have ei : i = n := by omega
    subst ei
    refine codeAny_builtin
        F.entry_set_update_loop ?_
    rw [Around.under_plainId
        F.plain_set_update_loop _]
    show wpAny _ A.in1 (pyNext (.ref Iv) >>= _) _ _ s1
    refine wpAny_bind (Wk.done s1 _ _ hs fun s2 m2 => ?_)
    rw [List.take_of_length_le (by omega)] at T
    exact wpAny_pure (fin s2 (Moved.trans Wk.gtrans mv (m2.mono inc)) (T.moved fun ob hb => m2.heap S ob farw hb))
  | succ left ih =>
    intro i s1 e hs mv T
    refine codeAny_builtin
        F.entry_set_update_loop ?_
    rw [Around.under_plainId
        F.plain_set_update_loop _]
    show wpAny _ A.in1 (pyNext (.ref Iv) >>= _) _ _ s1
    refine wpAny_bind (Wk.item i s1 _ _ (by omega) hs fun v s2 hv hs2 m2 => ?_)
    obtain ⟨z, t, ez, rfl⟩ := val i v hv
    show wpAny _ A.in1 (holding [Value.str z t] (setAdd S (.str z t)) >>= _) _ _ s2
    refine wpAny_bind
        (wpAny_holding ?_)
    unfold setAdd
    refine wpAny_holding (wpAny_bind ((PySem.strKind P w).pyHash (k := z) (strKind_is P w z t) ?_))
    refine add_text (st := { s2 with toks := s2.toks + 1 }) (T.moved fun ob hb => m2.heap S ob farw hb) (by omega) fun b hp' sb T' => ?_
    have et : zs.take i ++ [z] = zs.take (i + 1) := by
      rw [List.take_add_one, ez]
      rfl
    rw [et] at T'
    have apart : ∀ b ∈ fp, b ≠ S := fun b hb hyp => far (hyp ▸ hb)
    refine wpAny_pure ⟨plainId_quiet F.plain_set_update_loop _, ih (i + 1) _ (by omega) (Wk.frame _ s2 _ _ hs2 (Nat.le_succ _) fun b hb ob eb => (sb.2 b (apart b hb)).trans eb) ?_ T'⟩
    exact Moved.trans Wk.gtrans mv ((m2.mono inc).then_heap (Nat.le_succ _) fun b ob hb eb => (sb.2 b fun hyp => hb (hyp ▸ List.mem_cons_self)).trans eb)
/-- a set as it is made -/
abbrev fresh0 (w : World) : Obj := { cls := .type "set", dict := none, data := .set #[] 0 (.fresh 0 0 (!w.params.followText "set-order")) }
theorem fresh_tx {hp : Heap} {zs : List Str} (hyp : hp.get? S = some (fresh0 w)) : SetTx P w hp S (zs.take 0) 0 := by
  refine ⟨#[], ⟨_, 0, _, hyp, ⟨rfl, rfl, rfl⟩, rfl, by decide, rfl, List.Pairwise.nil, ?_⟩, fun e he => by simp at he, by simp, fun z => by simp, Nat.le_refl _⟩
  show _ ∨ (!w.params.followText
      "set-order") = true
  cases w.params.followText "set-order" with
  | false => exact .inr rfl
  | true => exact .inl rfl
/-- what a list and a tuple have alike, to be made a set of -/
structure Src (P : Program) (w : World) (l : Addr) (items : Array Value) (T : String) (it : Obj) (Sv : Addr → Nat → Heap → Prop) (Is : Heap → Prop) : Prop where
  s1 : isSubtype (.type T) (.type "set") = pure false
  s2 : isSubtype (.type T) (.type "frozenset") = pure false
  nd : (Value.type T == Value.type "dict") = false
  beg : Begins (.ref l) it Is
  walk : ∀ (A' : Around) (Iv : Addr), A'.handled = none → l ≠ Iv → Walks P w A' Iv [Iv, l] [Iv] items.size (fun i v => items[i]? = some v) (Sv Iv)
  st0 : ∀ (Iv : Addr) (hp : Heap), Is hp → hp.get? Iv = some it → Sv Iv 0 hp
set_option maxHeartbeats 6400000 in
theorem call_set_any {l : Addr} {items : Array Value} {T : String} {it : Obj} {Sv : Addr → Nat → Heap → Prop} {Is : Heap → Prop} {zs : List Str} {Q : Value → Shared → Prop} {od : Option Addr} {dt : Data} {sl : Array (Option Value)} (src : Src P w l items T it Sv Is) (hh : A.handled = none)
    (hol : st.heap.get? l = some { cls := .type T, dict := od, data := dt, slots := sl }) (is0 : Is st.heap) (val : ∀ (i : Nat) (v : Value), items[i]? = some v → ∃ (z : Str) (t : Tok), zs[i]? = some z ∧ v = Value.str z t) (hz : zs.length = items.size) (room : items.size + 1 < scanBound)
    (cont : ∀ (hp' : Heap) (tk : Nat), SetTx P w hp' st.heap.objs.size zs items.size → (∀ b ob, st.heap.get? b = some ob → hp'.get? b = some ob) → Q (.ref st.heap.objs.size) { st with heap := hp', toks := tk }) :
    wpAny (model P w) A (call (.type "set") [.ref l]) Q Er st := by
  obtain ⟨c, tl, hmro⟩
      := F.called_set.mro
  have hmade :=
      F.called_set.made
  have hsub := F.called_set.sub
  refine wpAny_call
      (codeAny_of_tree ?_)
  show wpAny _ _ (callAny
      (.type "set") _) _ _ _
  refine wpAny_pure ⟨Code.quiet_builtin _ (by decide +kernel),
      codeAny_builtin F.entry_type_call ?_⟩
  rw [Around.under_plain (weight_type_call_type
      "set" [.ref l] []) rfl]
  have nt := F.called_set.notType
  have cc := F.called_set.canCreate
  have tc := F.typeCall_set_1 (.ref l)
  repeat (any_goals (first
      | assumption | wp_step))
  refine codeAny_mono (code_set_led1 (.ref l) (E := Er) (Q₁ := fun obj sx => obj = .ref st.heap.objs.size ∧ sx = { st with heap := st.heap.push (fresh0 w) }) ⟨rfl, rfl⟩) fun r sx hr => ?_
  cases r with
  | error e => exact hr
  | ok fl =>
    cases fl with
    | ret obj =>
      obtain ⟨rfl, rfl⟩ := hr
      have hS : (st.heap.push (fresh0 w)).get? st.heap.objs.size = some (fresh0 w) := Heap.get?_push_size _ rfl
      have hT : Shared.TypeIs { st with heap := st.heap.push (fresh0 w) } (.ref st.heap.objs.size) "set" := ⟨_, hS, rfl⟩
      have li := F.called_set.init.lookup
      have bi := F.called_set.init.bind (.ref st.heap.objs.size)
      repeat (any_goals (first
          | assumption | wp_step))
      refine codeAny_mono (codeAny_call_builtin (R := wants (fun r s₂ => r = .none ∧ ∃ hp' tk, s₂ = { st with heap := hp', toks := tk } ∧ SetTx P w hp' st.heap.objs.size zs items.size ∧ (∀ b ob, st.heap.get? b = some ob → hp'.get? b = some ob)) Er)
        F.called_set.init.plain F.entry_set_init (check_set_init_1 hT ?_)) fun r₂ s₂ hr₂ => ?_
      · have hol2 : (st.heap.push (fresh0 w)).get? l = some { cls := .type T, dict := od, data := dt, slots := sl } := Heap.get?_push_of_some _ hol
        have e1 := src.s1
        have e2 := src.s2
        have e3 := src.nd
        have is1 : Is (st.heap.push (fresh0 w)) := src.beg.keeps _ _ is0 fun b ob e => Heap.get?_push_of_some _ e
        unfold Builtin.«set.__init__» noKeywords
            Builtin.Frozenset.updateFrom
        generalize hPI : pyIter = PI
        wp_walk
        subst hPI
        refine src.beg.iter P w _ _ _ _ is1 ?_
        refine wpAny_bind
            (wpAny_runValue ?_)
        have ls : l < st.heap.objs.size := Heap.lt_size hol
        have z1 : (st.heap.push (fresh0 w)).objs.size = st.heap.objs.size + 1 := Heap.size_push ..
        have hget : ((st.heap.push (fresh0 w)).push it).get? st.heap.objs.size = some (fresh0 w) := Heap.get?_push_of_some _ hS
        have lI : l ≠ (st.heap.push (fresh0 w)).objs.size := by
          rw [z1]
          exact Nat.ne_of_lt (Nat.lt_succ_of_lt ls)
        refine loop_texts (st := { st with heap := (st.heap.push (fresh0 w)).push it }) ((src.walk _ _ (by simp [hh]) lI).toS) ?_ zs hz room val (fun s1 mv T' => ?_) items.size 0 _ (by omega) ?_ ⟨fun _ _ _ e => e, rfl, rfl, rfl, Nat.le_refl _⟩ (fresh_tx hget)
        · rw [z1]
          intro hm
          rcases List.mem_cons.mp hm with hyp | hyp
          · exact Nat.ne_of_lt (Nat.lt_succ_self _) hyp
          · exact Nat.ne_of_gt ls (List.mem_singleton.mp hyp)
        · obtain ⟨hp', g', d', tk', os'⟩ := s1
          obtain rfl : g' = st.gens := mv.gens
          obtain rfl : d' = st.drawn := mv.drawn
          obtain rfl : os' = st.os := mv.os
          show wpAny _ _ _ _ _ _
          refine wpAny_pure ?_
          show wpAny _ _ (ret
              Value.none) _ _ _
          refine wpAny_pure ⟨rfl, hp', tk', rfl, T', fun b ob e => ?_⟩
          have bl := Heap.lt_size e
          refine mv.heap b ob ?_ (Heap.get?_push_of_some _ (Heap.get?_push_of_some _ e))
          rw [z1]
          intro hm
          rcases List.mem_cons.mp hm with hyp | hyp
          · exact Nat.ne_of_lt bl hyp
          · exact Nat.ne_of_lt (Nat.lt_succ_of_lt bl) (List.mem_singleton.mp hyp)
        · exact src.st0 _ _ (src.beg.keeps _ _ is1 fun b ob e => Heap.get?_push_of_some _ e) (Heap.get?_push_size _ src.beg.free)
      · cases r₂ with
        | error e => exact hr₂
        | ok fl₂ =>
          cases fl₂ with
          | ret r =>
            obtain ⟨rfl, hp', tk, rfl, T', kp⟩ := hr₂
            repeat (any_goals (first
                | assumption | wp_step))
            exact cont hp' tk T' kp
          | _ => exact hr₂.elim
    | _ => exact hr.elim
theorem src_list (l : Addr) (items : Array Value) : Src P w l items "list" { cls := .type "list_iterator", data := .fields #[.ref l, .int 0 0] } (fun Iv i hp => hp.IsListIter Iv l i ∧ hp.IsList l items) (fun hp => hp.IsList l items) :=
  ⟨F.sub_list_set, F.sub_list_frozenset, by decide, begins_list l items, fun A' Iv hh hne => Walks.list hh Iv l hne items, fun Iv hp h1 h2 => ⟨⟨_, h2, rfl, rfl⟩, h1⟩⟩
theorem src_tuple (l : Addr) (items : Array Value) : Src P w l items "tuple" { cls := .type "tuple_iterator", data := .fields #[.ref l, .int 0 0] } (fun Iv i hp => hp.IsTupleIter Iv l i ∧ hp.IsTuple l items) (fun hp => hp.IsTuple l items) :=
  ⟨F.sub_tuple_set, F.sub_tuple_frozenset, by decide, begins_tuple l items, fun A' Iv hh hne => Walks.tuple hh Iv l hne items, fun Iv hp h1 h2 => ⟨⟨_, h2, rfl, rfl⟩, h1⟩⟩
theorem strs_of_txts : ∀ (l : List (Int × Value)), Txts P w l → StrsAre (l.map (·.2)) (l.map txt)
  | [], _ => .nil
  | e :: l, g => by
    obtain ⟨z, t, e1, _⟩ := g e List.mem_cons_self
    have cont : txt e = z := by
      unfold txt
      rw [e1]
    rw [List.map_cons, List.map_cons, e1, cont]
    exact .cons z t (strs_of_txts l fun x hx => g x (List.mem_cons_of_mem _ hx))
theorem sorted_setTx {zs : List Str} {n : Nat} {Q : Value → Shared → Prop} (T : SetTx P w st.heap S zs n) (hh : A.handled = none)
    (cont : ∀ s1 p (out : Array Value) (c : Nat) (ys : List Str), (∀ b ob, st.heap.get? b = some ob → s1.heap.get? b = some ob) → s1.gens = st.gens → s1.os = st.os → st.heap.objs.size ≤ p → s1.heap.get? p = some (seqObj "list" out c) →
      StrsAre out.toList ys → sortedS ys = true → ys.Nodup → (∀ z, z ∈ ys ↔ z ∈ zs) → ys.length ≤ n → Q (.ref p) s1) :
    wpAny (model P w) A (call (.builtin "sorted") [.ref S]) Q Er st := by
  obtain ⟨ms, ⟨ob, ep, tb, h0, hx, hd, b0, f0, r0, l0⟩, g, nd, hm, hn⟩ := T
  refine Calls.call_function_entry kind_sorted
      plain_sorted entry_sorted (args_sorted1 _) ?_
  unfold Builtin.«sorted»
  refine wpAny_bind (m := checkCount "sorted" 1 1 _) (wpAny_pure (wpAny_bind (collect_set (A := A.in1) hh ⟨ob, h0, hx.1, hd⟩ f0 b0 r0 l0 fun s1 vs k1 z1 g1 o1 pm => ?_)))
  have lv : vs.length ≤ n := by
    rw [pm.length_eq, List.length_map, Array.length_toList]
    exact hn
  have lv2 : vs.length ≤ sizeLine := by
    rw [pm.length_eq, List.length_map, Array.length_toList]
    exact fits_of_scanBound b0
  have hS : StrsAre vs (vs.map strOf) := strsAre_map vs fun v hv => by
    obtain ⟨e, he, ev⟩ := List.mem_map.mp (pm.mem_iff.mp hv)
    obtain ⟨z, t, e1, _⟩ := g e he
    exact ⟨z, t, by rw [← ev, e1]⟩
  have pk : (vs.map strOf).Perm (ms.toList.map txt) := by
    have q1 := pm.map strOf
    rw [(strs_of_txts ms.toList g).strs] at q1
    exact q1
  refine wpAny_bind (wpAny_newList ?_ lv2)
  have hL : (s1.heap.push (seqObj "list" vs.toArray 0)).get? s1.heap.objs.size = some (seqObj "list" vs.toArray 0) := Heap.get?_push_size _ rfl
  refine wpAny_bind (wpAny_holding (wpAny_call_entry PyProof.Rows.slot_list_sort ⟨_, hL, rfl⟩ PyProof.Rows.entry_list_sort
    (list_sort_treeKAny strKind_oneLt hL hS.keysOf (fun v₁ v₂ rest e => keyKind_strs (by rw [← e]; exact hS)) lv2 fun sx hp hs => ⟨_, rfl, ?_⟩) (PyProof.Rows.args_list_sort _)))
  obtain ⟨ys, y1, y2, y3⟩ := sorted_out_str hS hp hs
  obtain ⟨c, hc⟩ := sortedHeap_at (vs := vs) (out := (arrOf sx).map (·.2)) hL
  have py := y2.trans pk
  refine wpAny_pure ⟨_, rfl, cont _ s1.heap.objs.size _ c ys (fun b u e => ?_) g1 o1 z1 hc y1 y3 (py.nodup_iff.mpr nd) (fun z => by rw [py.mem_iff, hm z]) ?_⟩
  · have e1 := k1 b u e
    have lt := Heap.lt_size e1
    show (sortedHeap (s1.heap.push (seqObj "list" vs.toArray 0)) s1.heap.objs.size vs ((arrOf sx).map (·.2))).get? b = some u
    rw [sortedHeap_old (Nat.ne_of_lt lt) (by rw [size_push']; exact Nat.lt_succ_of_lt lt)]
    exact Heap.get?_push_of_some _ e1
  · rw [y2.length_eq, List.length_map]
    exact lv
end
/-! ### the rule -/
/-- sorted(set(a)), a list or a tuple of texts -/
def tSortSet (K : PySem.W.Frag) (ta : TE) : TE := fun σ H Q => ta σ H fun x H1 => ∃ (l : Addr) (zs : List Str), x = .ref l ∧ (SqL K H1 l (zs.map V.str) ∨ SqT K H1 l (zs.map V.str)) ∧ zs.length ≤ 1000 ∧
  ∀ (ys : List Str) (p : Addr), sortedS ys = true → ys.Nodup → (∀ z, z ∈ ys ↔ z ∈ zs) → ys.length ≤ zs.length → H1 p = none → Q (.ref p) (upd H1 p (.lst (ys.map V.str)))
section
variable {X : Cx}
theorem vals_get {zs : List Str} {its : List Value} (r : Vals (zs.map V.str) its) (i : Nat) (v : Value) (hyp : its[i]? = some v) : ∃ (z : Str) (t : Tok), zs[i]? = some z ∧ v = Value.str z t := by
  have hl := r.length
  rw [List.length_map] at hl
  have hi : i < zs.length := by
    rw [hl]
    exact (List.getElem?_eq_some_iff.mp hyp).1
  obtain ⟨u, hu, ru⟩ := r.get (i := i) (x := V.str zs[i]) (by rw [List.getElem?_map, List.getElem?_eq_getElem hi]; rfl)
  rw [hyp] at hu
  obtain rfl : v = u := Option.some.inj hu
  obtain ⟨t, et⟩ := ru
  exact ⟨zs[i], t, List.getElem?_eq_getElem hi, et⟩
theorem len_of {zs : List Str} {its : List Value} (r : Vals (zs.map V.str) its) : zs.length = its.toArray.size := by
  have cont := r.length
  rw [List.length_map] at cont
  rw [List.size_toArray, cont]
theorem room_of {zs : List Str} {its : List Value} (r : Vals (zs.map V.str) its) (hyp : zs.length ≤ 1000) : its.toArray.size + 1 < scanBound := by
  rw [← len_of r]
  unfold scanBound
  omega
theorem pe_sortSet {a : Expr} {ta : TE} {p p2 q2 pos : Pos} (hc : X.calm = true) (hg : Gl X "sorted") (hm : X.mg "sorted" = none) (hg2 : Gl X "set") (hm2 : X.mg "set" = none) (ha : PE X a ta) (na : starEach [a] X.env = (false, eval a X.env) :: starEach [] X.env := by rfl) :
    PE X (.Call (.Name "sorted" p) [.Call (.Name "set" p2) [a] [] q2] [] pos) (tSortSet X.K ta) := by
  refine ⟨fun pins s σ H Q Iv hyp => ?_⟩
  refine Call_ (ld_blt Iv hg hm (show bootBuiltins "sorted" = some (.builtin "sorted") by decide +kernel) (PyProof.Rows.callWith_builtin1 (PyProof.Rows.args_cons ?_ rfl) rfl rfl))
  refine Call_ (ld_blt Iv hg2 hm2 boot_set (PyProof.Rows.callWith_type1 (PyProof.Rows.args_cons (thn (ha.run pins s σ H _ Iv hyp) fun v s1 ⟨x, H1, Iv1, r1, q1⟩ => PyProof.Rows.args_nil ?_) na) na rfl))
  obtain ⟨l, zs, rfl, hq, h1, q1⟩ := q1
  cases r1
  have fin : ∀ (its : List Value), Vals (zs.map V.str) its → ∀ (hp' : Heap) (tk : Nat), SetTx X.prog X.w hp' s1.heap.objs.size zs its.toArray.size → (∀ b ob, s1.heap.get? b = some ob → hp'.get? b = some ob) →
      wpAny (model X.prog X.w) X.A (spliced (backTo pos (starEach [] X.env))) (fun vs s₂ => wpAny (model X.prog X.w) X.A (call (.builtin "sorted") (Value.ref s1.heap.objs.size :: vs)) (EP X pins σ Q) X.xe s₂) X.xe { s1 with heap := hp', toks := tk } := fun its r hp' tk T kp => by
    refine PyProof.Rows.args_nil
        ?_
    have Iv2 : Inv X pins σ H1 { s1 with heap := hp', toks := tk } := Iv1.kept kp
    have n1 : its.toArray.size = zs.length := by
      have cont := r.length
      rw [List.length_map] at cont
      rw [List.size_toArray, cont]
    rw [n1] at T
    refine sorted_setTx T (Iv1.ok.hd hc) fun s3 p' out c ys k3 g3 o3 z3 hp3 y1 y2 y3 y4 y5 => ?_
    have Iv3 := Iv2.tok tk
    have hn : H1 p' = none := Iv2.hok.fresh z3
    have big : (ys.map V.str).length ≤ sizeLine := by
      rw [List.length_map,
          sizeLine_eq]
      omega
    obtain ⟨hp4, g4, d4, t4, o4⟩ := s3
    obtain rfl : o4 = s1.os := o3
    have bare4 : AllBare g4 := by
      rw [show g4 = s1.gens from g3]
      exact Iv2.bare
    have un : Un X.fs [] H1 (upd H1 p' (.lst (ys.map V.str))) hp' hp4 := Un.laid k3 z3 hn
    have ok4 : HOk X.prog X.w (upd H1 p' (.lst (ys.map V.str))) hp4 := Iv2.hok.laid k3 z3 ⟨big, out.toList, c, vals_of_strs y1, hp3⟩
    exact ⟨.ref p', _, L2.Inv.call (s := { s1 with heap := hp', toks := tk }) Iv2 (ch := []) (Un.laid k3 z3 hn) ok4 bare4 (fun _ z => nomatch z), rfl, q1 ys p' y2 y3 y4 y5 hn⟩
  rcases hq with hq | hq
  · obtain ⟨its, r, pl, hz⟩ := Iv1.list hq
    obtain ⟨⟨c0, d0, dt0, sl0⟩, ho, hc0, n0, hd0⟩ := pl.isList
    obtain rfl : c0 = Value.type "list" := hc0
    exact call_set_any (src_list l its.toArray) (Iv1.ok.hd hc) ho pl.isList (fun i v hv => vals_get r i v (by simpa using hv)) (len_of r) (room_of r h1) fun hp' tk T kp => fin its r hp' tk T kp
  · obtain ⟨its, r, pl, hz⟩ := Iv1.tuple hq
    obtain ⟨⟨c0, d0, dt0, sl0⟩, ho, hc0, n0, hd0⟩ := id pl
    obtain rfl : c0 = Value.type "tuple" := hc0
    exact call_set_any (src_tuple l its.toArray) (Iv1.ok.hd hc) ho pl (fun i v hv => vals_get r i v (by simpa using hv)) (len_of r) (room_of r h1) fun hp' tk T kp => fin its r hp' tk T kp
end
end TxS
namespace K1
open PySem PySem.Spec PyProof.Rows L2 EnT StX SmX TxS
/-! ### errors of the program -/
structure ErrC (K : PySem.W.Frag) (mg : Str → Option Value) (x f : Str) (C fI : Addr) : Prop where
  g : mg x = some (.ref C)
  ox : OexC K C
  no : PySem.W.findIn K (.ref C) f = some none
  ini : PySem.W.findIn K (.ref C) "__init__" = some (some (.ref fI))
  ty : PySem.W.typeIn K (.ref fI) = some (.type "function")
/-- an error of the class at C with one field, let go from the heap H -/
def ErrAt (C : Addr) (f : Str) (v : V) (H : Hp) (E : XK) : Prop := ∀ (d : Addr) (H' : Hp), Same H H' → H' d = none → E (.ref C) (some d) (upd H' d (.xd [(f, v)]))
def spErr (C : Addr) (f : Str) : Sp := fun vs H Q _ => ∃ (a : Addr) (v : V), vs = [.ref a, v] ∧ H a = some (exo a C none) ∧ ∀ d, H d = none → d ≠ a → Q .non (upd (upd H d (exd d [(f, v)])) a (exo a C (some d)))
theorem raise_heap {H : Hp} {a d : Addr} {o1 o2 o3 o4 : HO} (n : H a = none) (hd : d ≠ a) : upd (del (upd (upd (upd H a o1) d o2) a o3) a) d o4 = upd H d o4 := by
  funext b
  by_cases h1 : b = d
  · rw [h1, upd_same, upd_same]
  · rw [upd_ne h1, upd_ne h1]
    by_cases h2 : b = a
    · rw [h2, del_same, n]
    · rw [del_ne h2, upd_ne h2, upd_ne h1, upd_ne h2]
section
variable {w : World} {P : Program}
variable {base : Heap} {mg : Str → Option Value} {K : PySem.W.Frag}
theorem scErrN : FnScope ["self", "index"] ["self", "index"] (defScope sErrNames) := ⟨rfl, rfl, rfl, by decide +kernel, rfl, by decide +kernel, by decide +kernel⟩
theorem scErrT : FnScope ["self", "value"] ["self", "value"] (defScope sErrText) := ⟨rfl, rfl, rfl, by decide +kernel, rfl, by decide +kernel, by decide +kernel⟩
theorem ok_errN {f C fI : Addr} {fd : FuncData} (F : Fun K "__init__" "InvalidNames.__init__" sErrNames f fd) (T : ErrC K mg "InvalidNames" "index" C fI) : FnOk P w K mg base CX0 1 f fd ["self", "index"] (spErr C "index") := by
  refine F.ok scErrN (fun vs H Q E h => ?_) (fun cdv A outer s H vs Q E hr h => ?_)
  · obtain ⟨a, v, rfl, _⟩ := h
    rfl
  · obtain ⟨a, v, rfl, ha, q⟩ := h
    exact ⟨_, pss_one (ps_ost (pv 0) (pv 1)), _, rfl, _, rfl, a, C, rfl, T.ox, T.no, .inl ⟨ha, fun d nd ne => q d nd ne⟩⟩
theorem ok_errT {f C fI : Addr} {fd : FuncData} (F : Fun K "__init__" "InvalidText.__init__" sErrText f fd) (T : ErrC K mg "InvalidText" "value" C fI) : FnOk P w K mg base CX0 1 f fd ["self", "value"] (spErr C "value") := by
  refine F.ok scErrT (fun vs H Q E h => ?_) (fun cdv A outer s H vs Q E hr h => ?_)
  · obtain ⟨a, v, rfl, _⟩ := h
    rfl
  · obtain ⟨a, v, rfl, ha, q⟩ := h
    exact ⟨_, pss_one (ps_ost (pv 0) (pv 1)), _, rfl, _, rfl, a, C, rfl, T.ox, T.no, .inl ⟨ha, fun d nd ne => q d nd ne⟩⟩
end
/-! ### Members -/
def flds (t d : Addr) : List (Str × V) := putF "_table" (.ref d) (putF "_names" (.ref t) [])
def tabOf (zs : List Str) : List (Key × V) := zs.map fun z => (Sum.inr z, V.bl true)
structure MemAt (C : Addr) (H : Hp) (p : Addr) (zs : List Str) : Prop where
  at_ : ∃ dx t d, H p = some (.ins C dx (flds t d)) ∧ H t = some (.tup (zs.map V.str)) ∧ H d = some (.dK (tabOf zs))
  srt : sortedS zs = true
  nd : zs.Nodup
  few : zs.length ≤ 1000
  nm : ∀ z ∈ zs, nameB z = true
theorem MemAt.same {C : Addr} {H H' : Hp} {p : Addr} {zs : List Str} (s : Same H H') (m : MemAt C H p zs) : MemAt C H' p zs := by
  obtain ⟨⟨dx, t, d, h1, h2, h3⟩, a, b, c, e⟩ := m
  exact ⟨⟨dx, t, d, s _ _ h1, s _ _ h2, s _ _ h3⟩, a, b, c, e⟩
/-- what Members(..) gives: new Members of these texts -/
def Makes (C : Addr) (zs : List Str) (H : Hp) (Q : VK) : Prop := ∀ (p : Addr) (ys : List Str) (H' : Hp), H p = none → Same H H' → (∀ z, z ∈ ys ↔ z ∈ zs) → MemAt C H' p ys → Q (.ref p) H'
structure MemC (K : PySem.W.Frag) (mg : Str → Option Value) (C : Addr) : Prop where
  g : mg "Members" = some (.ref C)
  cl : Cls K C
  nN : NoAttr K C "_names"
  nT : NoAttr K C "_table"
/-- __init__, its names a tuple at t -/
def spInit0 (K : PySem.W.Frag) (C CN : Addr) : Sp := fun vs H Q E => ∃ (p t dx : Addr) (xs : List V), vs = [.ref p, .ref t] ∧ H p = some (.ins C dx []) ∧ SqT K H t xs ∧ (∀ v ∈ xs, VOk H v) ∧ xs.length ≤ 1000 ∧
  (∀ i, wrongIx xs = some i → ErrAt CN "index" (.int i) H E) ∧ (wrongIx xs = none → ∀ zs : List Str, xs = zs.map V.str → ∀ (ys : List Str) (H' : Hp), (∀ b o, b ≠ p → H b = some o → H' b = some o) → (∀ z, z ∈ ys ↔ z ∈ zs) → MemAt C H' p ys → Q .non H')
theorem all_texts : ∀ {xs : List V}, wrongIx xs = none → ∃ zs : List Str, xs = zs.map V.str
  | [], _ => ⟨[], rfl⟩
  | x :: r, h => by
    unfold wrongIx at h
    rw [List.findIdx?_eq_none_iff] at h
    have hr : wrongIx r = none := by
      unfold wrongIx
      rw [List.findIdx?_eq_none_iff]
      exact fun y hy => h y (List.mem_cons_of_mem _ hy)
    obtain ⟨zs, e⟩ := all_texts hr
    have hx := h x List.mem_cons_self
    cases x with
    | str z => exact ⟨z :: zs, by rw [e]; rfl⟩
    | _ => simp [nameV] at hx
theorem names_ok {zs : List Str} (h : wrongIx (zs.map V.str) = none) : ∀ z ∈ zs, nameB z = true := fun z hz => by
  unfold wrongIx at h
  rw [List.findIdx?_eq_none_iff] at h
  simpa [nameV] using h (V.str z) (List.mem_map.mpr ⟨z, hz, rfl⟩)
section
variable {w : World} {P : Program}
variable {base : Heap} {mg : Str → Option Value} {K : PySem.W.Frag}
theorem kNT : ¬ (("_names" : Str) = "_table") := by decide +kernel
theorem look_names (u : Addr) : (putF "_names" (V.ref u) []).lookup ("_names" : Str) = some (.ref u) := by
  rw [lookup_putF, if_pos rfl]
theorem tab_none {zs : List Str} {z : Str} (h : z ∉ zs) : valV (tabOf zs) (Sum.inr z : Key) = none := by
  induction zs with
  | nil => rfl
  | cons a r ih =>
    have ha : ¬ a = z := fun e => h (e ▸ List.mem_cons_self)
    show valV ((Sum.inr a, V.bl true) :: tabOf r) (Sum.inr z : Key) = none
    rw [valV_neg (fun e => ha (Sum.inr.inj e))]
    exact ih fun m => h (List.mem_cons_of_mem _ m)
theorem take_nodup_none {ys : List Str} {i : Nat} {z : Str} (nd : ys.Nodup) (h : ys[i]? = some z) : z ∉ ys.take i := by
  intro m
  obtain ⟨ltX, e⟩ := List.getElem?_eq_some_iff.mp h
  obtain ⟨j, hj, ej⟩ := List.mem_iff_getElem.mp m
  rw [List.length_take] at hj
  rw [List.getElem_take] at ej
  have := (List.getElem_inj nd).mp (ej.trans e.symm)
  omega
abbrev nmInit : List Str := ["self", "names", "at", "name"]
theorem scInit : FnScope nmInit ((["self"] : List Str) ++ (["names"] : List Str)) (defScope sInit) := ⟨rfl, rfl, rfl, by decide +kernel, rfl, by decide +kernel, by decide +kernel⟩
theorem ok_init {f fW fE C CN : Addr} {fd fdW fdE : FuncData} (F : Fun K "__init__" "Members.__init__" sInit f fd) (T : Free mg) (M : MemC K mg C) (GW : FnOk P w K mg base CX0 2 fW fdW ["values"] (spWrongT K)) (FW : Fun K "wrong_at" "wrong_at" sWrong fW fdW) (mgW : mg "wrong_at" = some (.ref fW))
    (EN : ErrC K mg "InvalidNames" "index" CN fE) (FE : Fun K "__init__" "InvalidNames.__init__" sErrNames fE fdE) :
    FnR P w K mg base (L2.CX P w) 4 f (fun vs H Q E => ∃ ws rest, vs = ws ++ rest ∧ ws.length = (["self"] : List Str).length ∧ rest.length ≤ sizeLine ∧ ∀ p, H p = Option.none → spInit0 K C CN (ws ++ [V.ref p]) (upd H p (.tup rest)) Q E) := by
  have bW : Binds K fdW ["values"] [] := FW.binds (ps := ["values"]) fun _ _ _ _ _ _ us hl => match us, hl with | [_], _ => rfl
  have bE : Binds K fdE ["self", "index"] [] := FE.binds (ps := ["self", "index"]) fun _ _ _ _ _ _ us hl => match us, hl with | [_, _], _ => rfl
  have GE : FnOk P w K mg base CX0 1 fE fdE ["self", "index"] (spErr CN "index") := ok_errN FE EN
  obtain ⟨oc, oD, kV, doc, pm, an, cdv, ct, osl, rfl, lk, hcd⟩ := F.ex
  refine fn_star (ps := ["self"]) (pv := "names") (sp := spInit0 K C CN) lk hcd scInit cxUp (bind_star1 (B := fun us => bindArgs (PySem.W.fnOf "__init__" "Members.__init__" (defArgs sInit) (defBody sInit) (defScope sInit) .none kV doc pm an cdv ct) ⟨us, []⟩) (p1 := "self") (pv := "names") (fun a => rfl) fun a r rs => rfl) fun A outer s H vs Q E hr h => ?_
  obtain ⟨p, t, dx, xs, rfl, hp, hS, hv, hl, qE, q⟩ := h
  refine ⟨_, pss_cons (ps_set (i := 2) scInit.nd rfl (.inl rfl) (pe_call GW (hr.mono (by decide)) rfl mgW FW.kp bW .nil pass0 (pa_cons (pv 1) pa_nil)))
    (pss_cons (ps_if (pt_cmp (pc_notN (pv 2))) (pss_one (ps_raise rfl (takes_of rfl rfl rfl rfl) (pmk_oex EN.ox EN.ini EN.ty GE (hr.mono (by decide)) bE .nil pass0 rfl EN.g (pa_cons (pv 2) pa_nil)))) pss_nil)
    (pss_cons (ps_fld (pv 0) (pe_callTy call_tuple_of (by rfl) T.tuple (by decide +kernel) (pa_cons (pe_sortSet rfl (by rfl) T.sorted (by rfl) T.set (pv 1)) pa_nil)) rfl)
    (pss_one (ps_fld (pv 0) (pe_dc (own := [("name", 3)]) (g := gName 3) (tt := tYes) rfl scInit.nd (pi_tup (pe_fld (pv 0) rfl)) (blkOk_by (own := [("name", 3)]) (N := nmInit) (sc := defScope sInit) (by decide +kernel)) (fun _ _ _ _ _ => pg_name (i := 3) scInit.nd rfl (Or.inl rfl)) (fun _ _ _ _ _ => pts_nil) (fun _ _ _ _ _ => pv 3) (fun _ _ _ _ _ => pe_bl)) rfl)))), ?_⟩
  refine ⟨_, rfl, t, xs, rfl, hS, hv, fun H1 sm => ?_⟩
  refine ⟨_, rfl, _, rfl, ?_⟩
  cases hw : wrongIx xs with
  | some i =>
    refine iteT ?_
    refine ⟨_, rfl, (by show 1 ≤ 1000; decide), fun a na => ⟨a, _, rfl, upd_same, fun d nd ne => ⟨rfl, d, [("index", .int i)], upd_same, ?_, ?_, ?_⟩⟩⟩
    · rw [upd_ne ne, upd_same]
      rfl
    · rw [upd_ne ne] at nd
      exact nd
    · rw [raise_heap na ne]
      rw [upd_ne ne] at nd
      exact qE i hw d H1 sm nd
  | none =>
    refine iteF ?_
    obtain ⟨zs, rfl⟩ := all_texts hw
    have hS1 : SqT K H1 t (zs.map V.str) := sameT sm hS
    have hp1 := sm _ _ hp
    refine ⟨_, rfl, t, zs, rfl, .inr hS1, by rw [List.length_map] at hl; exact hl, fun ys l y1 y2 y3 y4 nl => ?_⟩
    refine ⟨l, _, rfl, .inl ⟨SqL.of upd_same, fun u nu => ?_⟩⟩
    have nu1 : H1 u = none := by
      by_cases e : u = l
      · rw [e, upd_same] at nu
        cases nu
      · rw [upd_ne e] at nu
        exact nu
    have pu : p ≠ u := ne_of_none hp1 nu1
    have pl : p ≠ l := ne_of_none hp1 nl
    have s1 : Same H1 (upd H1 l (.lst (ys.map V.str))) := same_upd nl
    have s2 : Same (upd H1 l (.lst (ys.map V.str))) (upd (upd H1 l (.lst (ys.map V.str))) u (.tup (ys.map V.str))) := same_upd nu
    refine ⟨_, rfl, p, C, dx, [], rfl, s2 _ _ (s1 _ _ hp1), M.cl, M.nN, (by show 0 < 1000; decide), ?_⟩
    generalize e4 : upd (upd (upd H1 l _) u _) p _ = H4
    have h4p : H4 p = some (.ins C dx (putF "_names" (.ref u) [])) := by
      rw [← e4]
      exact upd_same
    have h4u : H4 u = some (.tup (ys.map V.str)) := by
      rw [← e4, upd_ne (Ne.symm pu)]
      exact upd_same
    have kp : ∀ b o, b ≠ p → H b = some o → H4 b = some o := fun b o n z => by
      rw [← e4, upd_ne n]
      exact s2 _ _ (s1 _ _ (sm _ _ z))
    clear e4
    refine ⟨_, rfl, p, C, dx, _, _, rfl, h4p, M.cl, M.nN, look_names u, u, rfl, ⟨_, SqT.of h4u⟩, fun D nD => ?_⟩
    have Dp : D ≠ p := fun e => by
      rw [e, h4p] at nD
      cases nD
    have Du : D ≠ u := fun e => by
      rw [e, h4u] at nD
      cases nD
    have few : ys.length ≤ 1000 := Nat.le_trans y4 (by rw [List.length_map] at hl; exact hl)
    refine dc_tup (K := K) (a := u) (xs := ys.map V.str) (fun i H' => (∀ b o, b ≠ D → H4 b = some o → H' b = some o) ∧ H' D = some (.dK (tabOf (ys.take i)))) ?_ ?_ ?_ ?_
    · exact ⟨fun b o n z => by rw [upd_ne n]; exact z, upd_same⟩
    · rintro i H' ltX ⟨k, hD⟩
      exact SqT.of (k _ _ (Ne.symm Du) h4u)
    · rintro i x H' hx ⟨k, hD⟩
      rw [List.getElem?_map] at hx
      obtain ⟨z, ez, rfl⟩ := Option.map_eq_some_iff.mp hx
      have ltX : i < ys.length := (List.getElem?_eq_some_iff.mp ez).1
      refine ⟨rfl, ?_⟩
      refine ⟨_, rfl, tabOf (ys.take i), Sum.inr z, rfl, hD, ?_, ?_, ?_⟩
      · unfold tabOf
        rw [List.length_map, List.length_take]
        exact small1000 (by omega)
      · intro b o n q2
        rw [upd_ne n]
        exact k b o n q2
      · rw [upd_same, putK_new _ (tab_none (take_nodup_none y2 ez))]
        unfold tabOf
        rw [List.take_add_one, ez, List.map_append]
        rfl
    · rintro H' ⟨k, hD⟩
      rw [List.length_map, List.take_length] at hD
      refine ⟨_, rfl, p, C, dx, _, rfl, k _ _ (Ne.symm Dp) h4p, M.cl, M.nT, (by rw [show (putF "_names" (V.ref u) []).length = 1 from rfl]; decide), ?_⟩
      refine q hw zs rfl ys _ (fun b o n z => ?_) y3 ⟨⟨dx, u, D, upd_same, ?_, ?_⟩, y1, y2, few, fun z hz => names_ok hw z ((y3 z).mp hz)⟩
      · rw [upd_ne n]
        exact k b o (fun e => by rw [e] at z; have := kp D o (e ▸ n) z; rw [nD] at this; cases this) (kp b o n z)
      · rw [upd_ne (Ne.symm pu)]
        exact k _ _ (Ne.symm Du) h4u
      · rw [upd_ne Dp]
        exact hD
end
end K1
/-! repr of data of any depth -/
namespace RpD
open PySem PySem.Spec
open PyProof.Rows L2
section
variable {X : Cx}
structure Shows (d : PyData) : Prop where
  sh : d.showable = true
  nd : d.hasDict = false
  dp : d.depth ≤ 20
  sz : d.shown.length ≤ sizeLine
/-- repr(x) -/
theorem call_reprD (hg : X.A.guards = some []) (hu : X.A.units + 100 < cLine) : CallR X (.builtin "repr") (fun xs H Q => ∃ x d, xs = [x] ∧ Dp X.K H x d ∧ Shows d ∧ Q (.str d.shown) H) := by
  intro pins s σ H xs us Q Iv r h
  obtain ⟨x, d, rfl, hd, S, q⟩ := h
  cases r with
  | cons r rr =>
    cases rr
    rename_i u
    obtain ⟨as, R⟩ := Dp.reads Iv d x u hd r
    have dp := S.dp
    have go : ∀ {a : Addr}, u = .ref a → wpAny (model X.prog X.w) X.A (call (.builtin "repr") [u]) (EP X pins σ Q) X.xe s := fun {a} e => by
      subst e
      refine repr_of_reads' R S.sh (fun e => by rw [S.nd] at e; cases e) hg (by omega) (fun _ _ e => e) (fun h' t tk kp => ⟨.str d.shown, H, Iv.kept kp, ⟨t, rfl⟩, q⟩) S.sz
    cases hd with
    | non =>
      cases r
      exact P.repr_of_none ⟨.str _, H, Iv.tok _, ⟨_, rfl⟩, q⟩
    | bl b =>
      cases r
      exact P.repr_of_bool ⟨.str _, H, Iv.tok _, ⟨_, rfl⟩, q⟩
    | int i =>
      obtain ⟨t, rfl⟩ := r
      have e : i.natAbs.log2 < 1920 := by simpa [PyData.showable] using S.sh
      exact P.repr_of_int e ⟨.str _, H, Iv.tok _, ⟨_, rfl⟩, q⟩
    | str z =>
      obtain ⟨t, rfl⟩ := r
      exact P.repr_of_str ⟨.str _, H, Iv.tok _, ⟨_, rfl⟩, q⟩ S.sz
    | lst h1 h2 =>
      cases r
      exact go rfl
    | tup h1 h2 =>
      cases r
      exact go rfl
end
/-! ### how long a text of data is -/
mutual
def wide : PyData → Nat
  | .none => 5
  | .bool _ => 5
  | .int _ => 5
  | .str x => 10 * x.length + 2
  | .list xs => wideAll xs + 3
  | .tuple xs => wideAll xs + 3
  | .dict _ => 0
def wideAll : List PyData → Nat
  | [] => 0
  | x :: xs => wide x + 2 + wideAll xs
end
mutual
def plainD : PyData → Bool
  | .none => true
  | .bool _ => true
  | .int i => decide (0 ≤ i ∧ i < 1000)
  | .str x => x.cps.toList.all
      fun c => decide (c < 16 ^ 8)
  | .list xs => plainAll xs
  | .tuple xs => plainAll xs
  | .dict _ => false
def plainAll :
    List PyData → Bool
  | [] => true
  | x :: xs => plainD x && plainAll xs
end
theorem dec1000 : ((List.range 1000).all fun n => decide ((toString (n : Int) : Str).length ≤ 5)) = true := by decide +kernel
theorem shown_int {i : Int} (h : 0 ≤ i ∧ i < 1000) : (toString i : Str).length ≤ 5 := by
  have q := (List.all_eq_true.mp dec1000) i.toNat (List.mem_range.mpr (by omega))
  have e : ((i.toNat : Nat) : Int) = i := by omega
  rw [e] at q
  exact of_decide_eq_true q
theorem log_small {i : Int} (h : 0 ≤ i ∧ i < 1024) : i.natAbs.log2 < 1920 := by
  by_cases h0 : i.natAbs = 0
  · rw [h0]
    decide
  · refine (Nat.log2_lt h0).mpr ?_
    refine Nat.lt_of_lt_of_le (show i.natAbs < 2 ^ 10 by omega) (Nat.pow_le_pow_right (by decide) (by decide))
mutual
theorem shown_le : ∀ d : PyData, plainD d = true → d.shown.length ≤ wide d ∧ d.showable = true ∧ d.hasDict = false
  | .none, _ => ⟨by decide +kernel, rfl, rfl⟩
  | .bool b, _ => ⟨by cases b <;> decide +kernel, rfl, rfl⟩
  | .int i, h => by
    have q : 0 ≤ i ∧ i < 1000 := of_decide_eq_true h
    exact ⟨shown_int q, decide_eq_true (log_small ⟨q.1, by omega⟩), rfl⟩
  | .str x, h => by
    refine ⟨StrLaws.reprText_len x fun c hc => of_decide_eq_true ((List.all_eq_true.mp h) c hc), rfl, rfl⟩
  | .list xs, h => by
    obtain ⟨a, b, c⟩ := shown_all xs h
    refine ⟨?_, b, c⟩
    show (listText (PyData.shownAll xs)).length ≤ wideAll xs + 3
    have := listText_len_le (PyData.shownAll xs)
    omega
  | .tuple xs, h => by
    obtain ⟨a, b, c⟩ := shown_all xs h
    refine ⟨?_, b, c⟩
    show (tupleText (PyData.shownAll xs)).length ≤ wideAll xs + 3
    have := tupleText_len_le (PyData.shownAll xs)
    omega
  | .dict _, h => by cases h
theorem shown_all : ∀ xs : List PyData, plainAll xs = true → ((PyData.shownAll xs).map (·.length)).sum + 2 * (PyData.shownAll xs).length ≤ wideAll xs ∧ PyData.showableAll xs = true ∧ PyData.hasDictAll xs = false
  | [], _ => ⟨Nat.le_refl _, rfl, rfl⟩
  | x :: xs, h => by
    have h : (plainD x && plainAll xs) = true := h
    rw [Bool.and_eq_true] at h
    obtain ⟨a, b, c⟩ := shown_le x h.1
    obtain ⟨a2, b2, c2⟩ := shown_all xs h.2
    refine ⟨?_, ?_, ?_⟩
    · show ((x.shown :: PyData.shownAll xs).map (·.length)).sum + 2 * (x.shown :: PyData.shownAll xs).length ≤ wide x + 2 + wideAll xs
      rw [List.map_cons, List.sum_cons, List.length_cons]
      omega
    · show (x.showable && PyData.showableAll xs) = true
      rw [b, b2]
      rfl
    · show (x.hasDict || PyData.hasDictAll xs) = false
      rw [c, c2]
      rfl
end
theorem Shows.of {d : PyData} (h : plainD d = true) (hd : d.depth ≤ 20) (hw : wide d ≤ 16000000) : Shows d := by
  obtain ⟨a, b, c⟩ := shown_le d h
  exact ⟨b, c, hd, by rw [sizeLine_eq]; omega⟩
end RpD
namespace K1
open PySem PySem.Spec
open PyProof.Rows L2 EnT StX SmX TxS DuX
/-! ### which class a value is of -/
def baseTys : List String := ["NoneType", "bool", "int", "str", "list", "tuple", "dict"]
structure MemIs (K : PySem.W.Frag) (C : Addr) : Prop where
  ha : PySem.W.findIn K (.ref C) "__class__"
      = some (some (.builtin "object.__class__"))
  hn : PySem.W.specialIn K (.builtin "object.__class__")
      "__get__" = some (some (.builtin "getset_descriptor.__get__"))
  htk : PySem.W.takesIn K (.builtin
      "object.__class__") = some true
  hm : PySem.W.mroIn K C
      (.type "object") = some true
  yes : PySem.W.kitOne K (.ref C) (.ref C) = some true
  no : ∀ t ∈ baseTys, PySem.W.kitOne K (.type t) (.ref C) = some false
  nf : ∀ t ∈ baseTys, PySem.W.notFirst K C (.type t) = true
  nfC : PySem.W.notFirst K C (.ref C) = true
theorem VOk.ty {K : PySem.W.Frag} {H : Hp} {v : V} (h : VOk H v) : ∃ t, t ∈ baseTys ∧ TyX K H v (.type t) := by
  rcases h with ⟨z, rfl, _⟩ | h
  · exact ⟨"str", by decide, .base (.str z)⟩
  cases h with
  | non => exact ⟨"NoneType", by decide, .base .non⟩
  | bl b => exact ⟨"bool", by decide, .base (.bl b)⟩
  | int i => exact ⟨"int", by decide, .base (.int i)⟩
  | lst e => exact ⟨"list", by decide, .base (.lst e)⟩
  | tup e => exact ⟨"tuple", by decide, .base (.tup e)⟩
  | dK e => exact ⟨"dict", by decide, .base (.dK e)⟩
theorem VOk.isStr {K : PySem.W.Frag} {H : Hp} {v : V} (h : VOk H v) : ∃ t b, TyX K H v (.type t) ∧ PySem.W.kitOne K (.type t) (.type "str") = some b ∧ (b = true → ∃ z, v = .str z) ∧ (b = false → NoStr H v) := by
  rcases h with ⟨z, rfl, _⟩ | h
  · exact ⟨"str", true, .base (.str z), kit_ty (by decide +kernel), fun _ => ⟨z, rfl⟩, fun e => by cases e⟩
  have h0 := h
  cases h with
  | non => exact ⟨"NoneType", false, .base .non, kit_ty (by decide +kernel), fun e => (by cases e), fun _ => h0⟩
  | bl b => exact ⟨"bool", false, .base (.bl b), kit_ty (by decide +kernel), fun e => (by cases e), fun _ => h0⟩
  | int i => exact ⟨"int", false, .base (.int i), kit_ty (by decide +kernel), fun e => (by cases e), fun _ => h0⟩
  | lst e => exact ⟨"list", false, .base (.lst e), kit_ty (by decide +kernel), fun e => (by cases e), fun _ => h0⟩
  | tup e => exact ⟨"tuple", false, .base (.tup e), kit_ty (by decide +kernel), fun e => (by cases e), fun _ => h0⟩
  | dK e => exact ⟨"dict", false, .base (.dK e), kit_ty (by decide +kernel), fun e => (by cases e), fun _ => h0⟩
/-! ### facts of names -/
theorem name_short {z : Str} (h : nameB z = true) : z.length ≤ 8 := by
  unfold nameB at h
  by_cases h8 : 8 < z.length
  · rw [if_pos h8] at h
    cases h
  · omega
def sp1 : Str := Str.ofString " "
def joinSp (zs : List Str) : Str := Txt.join sp1 zs
theorem sum_short : ∀ zs : List Str, (∀ z ∈ zs, z.length ≤ 8) → (zs.map (·.length)).sum ≤ zs.length * 8
  | [], _ => Nat.le_refl _
  | z :: r, h => by
    have a := h z List.mem_cons_self
    have b := sum_short r fun y hy => h y (List.mem_cons_of_mem _ hy)
    rw [List.map_cons, List.sum_cons, List.length_cons]
    omega
theorem join_fits {zs : List Str} (h : ∀ z ∈ zs, z.length ≤ 8) (hl : zs.length ≤ 1000) : (zs.map (·.length)).sum + zs.length * (sp1).length ≤ 16777216 := by
  have a := sum_short zs h
  have e : (sp1).length = 1 := by decide +kernel
  rw [e]
  omega
theorem flds_names (t d : Addr) : (flds t d).lookup ("_names" : Str) = some (.ref t) := by
  unfold flds
  rw [lookup_putF, lookup_putF, if_pos rfl, if_neg (by decide +kernel)]
theorem flds_table (t d : Addr) : (flds t d).lookup ("_table" : Str) = some (.ref d) := by
  unfold flds
  rw [lookup_putF, if_pos rfl]
theorem flds_str (t d : Addr) : (flds t d).lookup ("names" : Str) = none := by
  unfold flds
  rw [lookup_putF, lookup_putF, if_neg (by decide +kernel), if_neg (by decide +kernel)]
  rfl
theorem valV_tab {zs : List Str} {z : Str} : (valV (tabOf zs) (Sum.inr z : Key)).isSome = decide (z ∈ zs) := by
  induction zs with
  | nil => rfl
  | cons a r ih =>
    show (valV ((Sum.inr a, V.bl true) :: tabOf r) (Sum.inr z : Key)).isSome = _
    by_cases h : a = z
    · subst h
      have e : valV ((Sum.inr a, V.bl true) :: tabOf r) (Sum.inr a : Key) = some (V.bl true) := by
        unfold valV
        rw [List.find?_cons, decide_eq_true rfl]
        rfl
      rw [e, decide_eq_true List.mem_cons_self]
      rfl
    · rw [valV_neg (fun e => h (Sum.inr.inj e)), ih]
      by_cases m : z ∈ r
      · rw [decide_eq_true m, decide_eq_true (List.mem_cons_of_mem _ m)]
      · rw [decide_eq_false m, decide_eq_false fun q => by
          rcases List.mem_cons.mp q with q | q
          · exact h q.symm
          · exact m q]
/-! ### texts as data -/
def strD (zs : List Str) : List PyData := zs.map PyData.str
theorem dpAll_str {K : PySem.W.Frag} {H : Hp} : ∀ zs : List Str, DpAll K H (zs.map V.str) (strD zs)
  | [] => .nil
  | z :: r => .cons (.str z) (dpAll_str r)
def OkS (zs : List Str) : Prop := ∀ z ∈ zs, PyData.strOk z = true
theorem strD_lay : ∀ zs : List Str, OkS zs → PyData.canLayAll0 (strD zs) = true
  | [], _ => by simp [strD, PyData.canLayAll0]
  | z :: zs, h => by
    have := strD_lay zs fun y hy => h y (List.mem_cons_of_mem _ hy)
    have h1 := h z List.mem_cons_self
    simp only [strD] at this
    simp [strD, PyData.canLayAll0, PyData.canLay0, this, h1]
theorem name_low {z : Str} (h : nameB z = true) : ∀ c ∈ z.cps.toList, c < 128 := by
  unfold nameB at h
  split at h
  · cases h
  split at h
  · cases h
  · rename_i h2
    have e : z.cps.all (· < 128) = true := by
      cases q : Txt.isascii z with
      | true => exact q
      | false => exact absurd q h2
    rw [← Array.all_toList] at e
    exact fun c hc => of_decide_eq_true ((List.all_eq_true.mp e) c hc)
theorem strOk_low {z : Str} (h : ∀ c ∈ z.cps.toList, c < 128) : PyData.strOk z = true := by
  show z.cps.all (· < 0x110000) = true
  rw [← Array.all_toList]
  exact List.all_eq_true.mpr fun c hc => decide_eq_true (Nat.lt_trans (h c hc) (by decide))
theorem okS_names {zs : List Str} (h : ∀ z ∈ zs, nameB z = true) : OkS zs := fun z hz => strOk_low (name_low (h z hz))
theorem strD_depth : ∀ zs : List Str, PyData.depthAll (strD zs) = 0
  | [] => by simp [strD, PyData.depthAll]
  | z :: zs => by
    have := strD_depth zs
    simp only [strD] at this
    simp [strD, PyData.depthAll, PyData.depth, this]
theorem tupD_shaped {zs : List Str} (h : OkS zs) : SeqAt.shaped (.tuple (strD zs)) = true := by
  show (PyData.canLay0 (.tuple (strD zs)) && decide (PyData.depth (.tuple (strD zs)) ≤ 64)) = true
  rw [Bool.and_eq_true]
  refine ⟨by simp only [PyData.canLay0]; exact strD_lay zs h, decide_eq_true ?_⟩
  simp only [PyData.depth]
  rw [strD_depth]
  omega
theorem lstD_shaped {zs : List Str} (h : OkS zs) : SeqAt.shaped (.list (strD zs)) = true := by
  show (PyData.canLay0 (.list (strD zs)) && decide (PyData.depth (.list (strD zs)) ≤ 64)) = true
  rw [Bool.and_eq_true]
  refine ⟨by simp only [PyData.canLay0]; exact strD_lay zs h, decide_eq_true ?_⟩
  simp only [PyData.depth]
  rw [strD_depth]
  omega
theorem strD_eqv : ∀ zs ws : List Str, PyData.eqvAll (strD zs) (strD ws) = decide (zs = ws)
  | [], [] => by simp [strD, PyData.eqvAll]
  | [], w :: ws => by simp [strD, PyData.eqvAll]
  | z :: zs, [] => by simp [strD, PyData.eqvAll]
  | z :: zs, w :: ws => by
    have ih := strD_eqv zs ws
    simp only [strD] at ih
    simp only [strD, List.map_cons, PyData.eqvAll, PyData.eqv, ih]
    by_cases h : z = w
    · subst h
      simp
    · have : (z == w) = false := beq_eq_false_iff_ne.mpr h
      rw [this]
      simp [h]
/-! ### promises -/
def spNamesP (C : Addr) : Sp := fun vs H Q _ => ∃ a zs, vs = [.ref a] ∧ MemAt C H a zs ∧ ∀ t, H t = some (.tup (zs.map V.str)) → Q (.ref t) H
def spStrM (C : Addr) : Sp := fun vs H Q _ => ∃ a zs, vs = [.ref a] ∧ MemAt C H a zs ∧ (∀ z ∈ zs, z.length ≤ 8) ∧ Q (.str (joinSp zs)) H
def spReprM (C : Addr) : Sp := fun vs H Q _ => ∃ a zs, vs = [.ref a] ∧ MemAt C H a zs ∧ Q (.str (Str.empty ++ ("Members(" : Str) ++ (toString (zs.length : Int) : Str) ++ (")" : Str))) H
def spLenM (C : Addr) : Sp := fun vs H Q _ => ∃ a zs, vs = [.ref a] ∧ MemAt C H a zs ∧ Q (.int (zs.length : Nat)) H
def hasV (zs : List Str) : V → Bool
  | .str z => decide (z ∈ zs)
  | _ => false
def spHasM (C : Addr) : Sp := fun vs H Q _ => ∃ a zs v, vs = [.ref a, v] ∧ MemAt C H a zs ∧ VOk H v ∧ Q (.bl (hasV zs v)) H
def spEqM (C : Addr) : Sp := fun vs H Q _ => ∃ a zs y, vs = [.ref a, y] ∧ MemAt C H a zs ∧ ((∃ b ws, y = .ref b ∧ MemAt C H b ws ∧ Q (.bl (decide (zs = ws))) H) ∨ (VOk H y ∧ Q (.bl false) H))
section
variable {w : World} {P : Program} {base : Heap} {mg : Str → Option Value} {K : PySem.W.Frag}
theorem scStrM : FnScope ["self"] ["self"] (defScope sStrM) := ⟨rfl, rfl, rfl, by decide +kernel, rfl, by decide +kernel, by decide +kernel⟩
theorem scReprM : FnScope ["self"] ["self"] (defScope sReprM) := ⟨rfl, rfl, rfl, by decide +kernel, rfl, by decide +kernel, by decide +kernel⟩
theorem scLenM : FnScope ["self"] ["self"] (defScope sLenM) := ⟨rfl, rfl, rfl, by decide +kernel, rfl, by decide +kernel, by decide +kernel⟩
theorem scNamesP : FnScope ["self"] ["self"] (defScope sNamesP) := ⟨rfl, rfl, rfl, by decide +kernel, rfl, by decide +kernel, by decide +kernel⟩
theorem scHasM : FnScope ["self", "value"] ["self", "value"] (defScope sHasM) := ⟨rfl, rfl, rfl, by decide +kernel, rfl, by decide +kernel, by decide +kernel⟩
theorem scEqM : FnScope ["self", "other"] ["self", "other"] (defScope sEqM) := ⟨rfl, rfl, rfl, by decide +kernel, rfl, by decide +kernel, by decide +kernel⟩
theorem ok_namesP {f C : Addr} {fd : FuncData} (F : Fun K "names" "Members.names" sNamesP f fd) (M : MemC K mg C) : FnOk P w K mg base CX0 1 f fd ["self"] (getSp C "_names") := by
  refine F.ok scNamesP (fun vs H Q E h => ?_) (fun cdv A outer s H vs Q E hr h => ?_)
  · obtain ⟨a, dx, fs, v, rfl, _⟩ := h
    rfl
  · obtain ⟨a, dx, fs, v, rfl, ha, l, q⟩ := h
    exact ⟨_, pss_one (ps_ret (pe_fld (pv 0) rfl)), _, rfl, a, C, dx, fs, v, rfl, ha, M.cl, M.nN, l, q⟩
theorem ok_strM {f C : Addr} {fd : FuncData} (F : Fun K "__str__" "Members.__str__" sStrM f fd) (M : MemC K mg C) : FnOk P w K mg base CX0 1 f fd ["self"] (spStrM C) := by
  refine F.ok scStrM (fun vs H Q E h => ?_) (fun cdv A outer s H vs Q E hr h => ?_)
  · obtain ⟨a, zs, rfl, _⟩ := h
    rfl
  · obtain ⟨a, zs, rfl, m, hl, q⟩ := h
    obtain ⟨dx, t, d, h1, h2, h3⟩ := m.at_
    exact ⟨_, pss_one (ps_ret (pe_join pe_str (pe_fld (pv 0) rfl))), ⟨_, rfl⟩, _, rfl, a, C, dx, _, _, rfl, h1, M.cl, M.nN, flds_names t d, _, t, zs, rfl, rfl, .inr (SqT.of h2), join_fits hl m.few, q⟩
theorem ok_lenM {f C : Addr} {fd : FuncData} (F : Fun K "__len__" "Members.__len__" sLenM f fd) (T : Free mg) (M : MemC K mg C) : FnOk P w K mg base CX0 1 f fd ["self"] (spLenM C) := by
  refine F.ok scLenM (fun vs H Q E h => ?_) (fun cdv A outer s H vs Q E hr h => ?_)
  · obtain ⟨a, zs, rfl, _⟩ := h
    rfl
  · obtain ⟨a, zs, rfl, m, q⟩ := h
    obtain ⟨dx, t, d, h1, h2, h3⟩ := m.at_
    refine ⟨_, pss_one (ps_ret (pe_callB call_len_seq (by rfl) T.len PySem.boot_len (pa_cons (pe_fld (pv 0) rfl) pa_nil))), _, rfl, a, C, dx, _, _, rfl, h1, M.cl, M.nN, flds_names t d, t, zs.map V.str, rfl, .inr (SqT.of h2), ?_⟩
    rw [List.length_map]
    exact q
theorem str_short {n : Nat} (h : n ≤ 1000) : (toString (n : Int) : Str).length ≤ 5 := by
  by_cases e : n = 1000
  · subst e
    decide +kernel
  · exact RpD.shown_int (by omega)
theorem ok_reprM {f C : Addr} {fd : FuncData} (F : Fun K "__repr__" "Members.__repr__" sReprM f fd) (T : Free mg) (M : MemC K mg C) : FnOk P w K mg base CX0 1 f fd ["self"] (spReprM C) := by
  refine F.ok scReprM (fun vs H Q E h => ?_) (fun cdv A outer s H vs Q E hr h => ?_)
  · obtain ⟨a, zs, rfl, _⟩ := h
    rfl
  · obtain ⟨a, zs, rfl, m, q⟩ := h
    obtain ⟨dx, t, d, h1, h2, h3⟩ := m.at_
    have few := str_short m.few
    have e0 : (Str.empty ++ ("Members(" : Str)).length = 8 := by decide +kernel
    refine ⟨_, pss_one (ps_ret (pe_joined (.cons pe_str (.cons (pe_fmt (pe_callB call_len_seq (by rfl) T.len PySem.boot_len (pa_cons (pe_fld (pv 0) rfl) pa_nil))) (.cons pe_str .nil))))), ?_⟩
    have e8 : (8 : Nat) ≤ sizeLine := by rw [sizeLine_eq]; decide
    refine ⟨_, rfl, e0 ▸ e8, _, rfl, a, C, dx, _, _, rfl, h1, M.cl, M.nN, flds_names t d, t, zs.map V.str, rfl, .inr (SqT.of h2), .inr ⟨_, rfl, ?_, ?_⟩⟩
    · rw [List.length_map]
      have := m.few
      exact RpD.log_small (i := (zs.length : Nat)) (by omega)
    · rw [List.length_map]
      refine ⟨_, rfl, ?_, _, rfl, ?_, q⟩
      · rw [strLen_append, e0, sizeLine_eq]
        omega
      · rw [strLen_append, strLen_append, e0, sizeLine_eq]
        have : ((")" : Str)).length = 1 := by decide +kernel
        omega
theorem ok_hasM {f C : Addr} {fd : FuncData} (F : Fun K "__contains__" "Members.__contains__" sHasM f fd) (T : Free mg) (M : MemC K mg C) : FnOk P w K mg base CX0 1 f fd ["self", "value"] (spHasM C) := by
  refine F.ok scHasM (fun vs H Q E h => ?_) (fun cdv A outer s H vs Q E hr h => ?_)
  · obtain ⟨a, zs, v, rfl, _⟩ := h
    rfl
  · obtain ⟨a, zs, v, rfl, m, hv, q⟩ := h
    obtain ⟨dx, t, d, h1, h2, h3⟩ := m.at_
    obtain ⟨ty, b, e1, e2, e3, e4⟩ := hv.isStr (K := K)
    refine ⟨_, pss_one (ps_ret (pe_and (pe_callB call_isi (by rfl) T.isinstance (by decide +kernel) (pa_cons (pv 1) (pa_cons (pe_bltn (v := .ty "str") (u := .type "str") (by rfl) T.str (by decide +kernel) rfl) pa_nil))) (pe_one (pe_cmp (pc_din (by have := hr.un; show A.units + 3 + 1 < cLine; have e : (A.deeper (envOfC "Members.__contains__" (defScope sHasM) s.heap.objs.size f cdv)).units = A.units + 3 := rfl; omega) (pv 1) (pe_fld (pv 0) rfl)))))), ?_⟩
    refine ⟨_, rfl, _, _, _, _, b, rfl, .ty _, e1, e2, b, rfl, ?_⟩
    cases b with
    | true =>
      obtain ⟨z, rfl⟩ := e3 rfl
      rw [if_pos rfl]
      refine ⟨_, rfl, _, rfl, a, C, dx, _, _, rfl, h1, M.cl, M.nT, flds_table t d, d, _, rfl, .k (k := Sum.inr z) h3, ?_⟩
      rw [valV_tab]
      exact q
    | false =>
      rw [if_neg (by decide)]
      have n := e4 rfl
      have e : hasV zs v = false := by cases n <;> rfl
      rw [e] at q
      exact q
theorem ok_eqM {f C pN gN : Addr} {fd fdN : FuncData} (F : Fun K "__eq__" "Members.__eq__" sEqM f fd) (T : Free mg) (M : MemC K mg C) (I : MemIs K C) (pr : PropOf K C "names" pN gN) (GN : FnOk P w K mg base CX0 1 gN fdN ["self"] (getSp C "_names")) (FN : Fun K "names" "Members.names" sNamesP gN fdN) :
    FnOk P w K mg base CX0 3 f fd ["self", "other"] (spEqM C) := by
  have bN : Binds K fdN ["self"] [] := FN.binds (ps := ["self"]) fun _ _ _ _ _ _ us hl => match us, hl with | [_], _ => rfl
  refine F.ok scEqM (fun vs H Q E h => ?_) (fun cdv A outer s H vs Q E hr h => ?_)
  · obtain ⟨a, zs, y, rfl, _⟩ := h
    rfl
  · obtain ⟨a, zs, y, rfl, m, h⟩ := h
    obtain ⟨dx, t, d, h1, h2, h3⟩ := m.at_
    refine ⟨_, pss_one (ps_ret (pe_and (pe_callB call_isi (by rfl) T.isinstance (by decide +kernel) (pa_cons (pv 1) (pa_cons (pe_glob (v := .ref C) (by rfl) M.g rfl) pa_nil))) (pe_one (pe_cmpR (op_eqD (by have := hr.un; have e : (A.deeper (envOfC "Members.__eq__" (defScope sEqM) s.heap.objs.size f cdv)).units = A.units + 3 := rfl; show A.units + 3 + 64 < cLine; omega)) (pe_fld (pv 0) rfl) (pe_prop (pv 1) M.cl pr GN hr bN .nil pass0 rfl) (nomark _))))), ?_⟩
    rcases h with ⟨b, ws, rfl, m2, q⟩ | ⟨hv, q⟩
    · obtain ⟨dx2, t2, d2, k1, k2, k3⟩ := m2.at_
      refine ⟨_, rfl, _, _, _, _, true, rfl, .own C, .base (.ins k1 M.cl I.ha I.hn I.htk I.hm), I.yes, true, rfl, ?_⟩
      refine iteT ⟨_, rfl, a, C, dx, _, _, rfl, h1, M.cl, M.nN, flds_names t d, _, rfl, b, dx2, _, rfl, k1, b, dx2, _, _, rfl, k1, flds_names t2 d2, ?_⟩
      refine ⟨.tuple (strD zs), .tuple (strD ws), .tup (SqT.of h2) (dpAll_str zs), .tup (SqT.of k2) (dpAll_str ws), tupD_shaped (okS_names m.nm), tupD_shaped (okS_names m2.nm), ?_⟩
      have e : PyData.eqv (.tuple (strD zs)) (.tuple (strD ws)) = decide (zs = ws) := by
        simp only [PyData.eqv]
        exact strD_eqv zs ws
      rw [e]
      exact q
    · obtain ⟨ty, ht, tx⟩ := hv.ty (K := K)
      refine ⟨_, rfl, _, _, _, _, false, rfl, .own C, tx, I.no ty ht, false, rfl, ?_⟩
      exact iteF q
end
end K1
namespace K1
open PySem PySem.Spec
open PyProof.Rows L2 EnT StX SmX TxS DuX
/-- Members(*xs): what is asked, what is told -/
def spMk (C CN : Addr) : Sp := fun xs H Q E => (∀ v ∈ xs, VOk H v) ∧ xs.length ≤ 1000 ∧ (∀ i, wrongIx xs = some i → ErrAt CN "index" (.int i) H E) ∧ (wrongIx xs = none → ∀ zs : List Str, xs = zs.map V.str → Makes C zs H Q)
theorem ErrAt.same {C : Addr} {f : Str} {v : V} {H H' : Hp} {E : XK} (s : Same H H') (h : ErrAt C f v H E) : ErrAt C f v H' E := fun d H2 s2 n => h d H2 (s.trans s2) n
/-- what __init__ of Members promises, its names starred -/
def spInitR (K : PySem.W.Frag) (C CN : Addr) : Sp := fun vs H Q E => ∃ ws rest, vs = ws ++ rest ∧ ws.length = (["self"] : List Str).length ∧ rest.length ≤ sizeLine ∧ ∀ p, H p = Option.none → spInit0 K C CN (ws ++ [V.ref p]) (upd H p (.tup rest)) Q E
theorem make_of {K : PySem.W.Frag} {C CN : Addr} {xs : List V} {H : Hp} {Q : VK} {E : XK} (h : spMk C CN xs H Q E) :
    ∀ x dx, H x = Option.none → H dx = Option.none → dx ≠ x → spInitR K C CN (V.ref x :: xs) (upd (upd H dx (.own x)) x (.ins C dx [])) (fun v H2 => v = .non ∧ Q (.ref x) H2) E := by
  obtain ⟨hv, hl, he, hq⟩ := h
  intro x dx nx nd ne
  refine ⟨[.ref x], xs, rfl, rfl, by rw [sizeLine_eq]; omega, fun p np => ?_⟩
  have px : p ≠ x := fun e => by
    rw [e, upd_same] at np
    cases np
  have s1 : Same H (upd H dx (.own x)) := same_upd nd
  have s2 : Same (upd H dx (.own x)) (upd (upd H dx (.own x)) x (.ins C dx [])) := same_upd (by rw [upd_ne (Ne.symm ne)]; exact nx)
  have s3 : Same (upd (upd H dx (.own x)) x (.ins C dx [])) (upd (upd (upd H dx (.own x)) x (.ins C dx [])) p (.tup xs)) := same_upd np
  have s : Same H (upd (upd (upd H dx (.own x)) x (.ins C dx [])) p (.tup xs)) := (s1.trans s2).trans s3
  refine ⟨x, p, dx, xs, rfl, by rw [upd_ne (Ne.symm px), upd_same], SqT.of upd_same, fun v hm => (hv v hm).same s, hl, fun i hi => (he i hi).same s, fun hw zs ez ys H' k m M => ⟨rfl, ?_⟩⟩
  exact hq hw zs ez x ys H' nx (fun b o e => k b o (ne_of_none e nx) (s b o e)) m M
/-- the same, what follows told of the place -/
theorem make_at {K : PySem.W.Frag} {C CN : Addr} {xs : List V} {H : Hp} {QA : Addr → Hp → Prop} {E : XK} (h : spMk C CN xs H (fun v H2 => ∃ p, v = .ref p ∧ QA p H2) E) :
    ∀ x dx, H x = Option.none → H dx = Option.none → dx ≠ x → spInitR K C CN (V.ref x :: xs) (upd (upd H dx (.own x)) x (.ins C dx [])) (fun v H2 => v = .non ∧ QA x H2) E := fun x dx nx nd ne => by
  obtain ⟨ws, rest, e1, e2, e3, e4⟩ := make_of (K := K) h x dx nx nd ne
  refine ⟨ws, rest, e1, e2, e3, fun p np => ?_⟩
  obtain ⟨a1, a2, a3, a4, b1, b2, b3, b4, b5, b6, b7⟩ := e4 p np
  refine ⟨a1, a2, a3, a4, b1, b2, b3, b4, b5, b6, fun hw zs ez ys H' k m M => ?_⟩
  obtain ⟨c1, p', c2, c3⟩ := b7 hw zs ez ys H' k m M
  cases c2
  exact ⟨c1, c3⟩
def spFromT (C CN : Addr) : Sp := fun vs H Q E => ∃ a xs, vs = [.ref a] ∧ H a = some (.tup xs) ∧ spMk C CN xs H Q E
def spFromL (CN : Addr) : Sp := fun vs H Q E => ∃ a xs, vs = [.ref a] ∧ H a = some (.lst xs) ∧ ErrAt CN "index" .non H E
/-- what is known of the class that makes Members -/
structure MakeC (P : Program) (w : World) (K : PySem.W.Frag) (mg : Str → Option Value) (base : Heap) (C CN fI : Addr) : Prop where
  M : Mk K C fI
  F : FnR P w K mg base (L2.CX P w) 4 fI (spInitR K C CN)
section
variable {w : World} {P : Program} {base : Heap} {mg : Str → Option Value} {K : PySem.W.Frag}
theorem scFromN : FnScope ["names"] ["names"] (defScope sFromN) := ⟨rfl, rfl, rfl, by decide +kernel, rfl, by decide +kernel, by decide +kernel⟩
theorem ok_fromT {f fI fE C CN : Addr} {fd fdE : FuncData} (F : Fun K "from_names" "Members.from_names" sFromN f fd) (T : Free mg) (M : MemC K mg C) (MM : MakeC P w K mg base C CN fI) (EN : ErrC K mg "InvalidNames" "index" CN fE) (FE : Fun K "__init__" "InvalidNames.__init__" sErrNames fE fdE) :
    FnOk P w K mg base (L2.CX P w) 6 f fd ["names"] (spFromT C CN) := by
  have bE : Binds K fdE ["self", "index"] [] := FE.binds (ps := ["self", "index"]) fun _ _ _ _ _ _ us hl => match us, hl with | [_, _], _ => rfl
  have GE : FnOk P w K mg base CX0 1 fE fdE ["self", "index"] (spErr CN "index") := ok_errN FE EN
  refine F.okX scFromN (fun vs H Q E h => ?_) (fun cdv A outer s H vs Q E hr h => ?_)
  · obtain ⟨a, xs, rfl, _⟩ := h
    rfl
  · obtain ⟨a, xs, rfl, ha, q⟩ := h
    refine ⟨_, pss_cons (ps_if (pt_not (pt_val (pe_callB call_isi (by rfl) T.isinstance (by decide +kernel) (pa_cons (pv 0) (pa_cons (pe_bltn (v := .ty "tuple") (u := .type "tuple") (by rfl) T.tuple (by decide +kernel) rfl) pa_nil)))))
        (pss_one (ps_raise rfl (takes_of rfl rfl rfl rfl) (pmk_oex EN.ox EN.ini EN.ty GE (hr.mono (by decide)) bE .nil pass0 rfl EN.g (pa_cons pe_non pa_nil)))) pss_nil)
      (pss_one (ps_ret (pe_makeS1 MM.M MM.F hr (by rfl) M.g (passes_call (takes_of rfl rfl rfl rfl) fun _ _ _ _ h => h) (pv 0)))), ?_⟩
    refine ⟨_, rfl, _, _, _, _, true, rfl, .ty _, .base (.tup ha), kit_ty (by decide +kernel), true, rfl, ?_⟩
    refine iteF ?_
    exact ⟨_, rfl, a, xs, rfl, .inl (SqT.of ha), make_of q⟩
theorem ok_fromL {f fI fE C CN : Addr} {fd fdE : FuncData} (F : Fun K "from_names" "Members.from_names" sFromN f fd) (T : Free mg) (M : MemC K mg C) (MM : MakeC P w K mg base C CN fI) (EN : ErrC K mg "InvalidNames" "index" CN fE) (FE : Fun K "__init__" "InvalidNames.__init__" sErrNames fE fdE) :
    FnOk P w K mg base (L2.CX P w) 6 f fd ["names"] (spFromL CN) := by
  have bE : Binds K fdE ["self", "index"] [] := FE.binds (ps := ["self", "index"]) fun _ _ _ _ _ _ us hl => match us, hl with | [_, _], _ => rfl
  have GE : FnOk P w K mg base CX0 1 fE fdE ["self", "index"] (spErr CN "index") := ok_errN FE EN
  refine F.okX scFromN (fun vs H Q E h => ?_) (fun cdv A outer s H vs Q E hr h => ?_)
  · obtain ⟨a, xs, rfl, _⟩ := h
    rfl
  · obtain ⟨a, xs, rfl, ha, qE⟩ := h
    refine ⟨_, pss_cons (ps_if (pt_not (pt_val (pe_callB call_isi (by rfl) T.isinstance (by decide +kernel) (pa_cons (pv 0) (pa_cons (pe_bltn (v := .ty "tuple") (u := .type "tuple") (by rfl) T.tuple (by decide +kernel) rfl) pa_nil)))))
        (pss_one (ps_raise rfl (takes_of rfl rfl rfl rfl) (pmk_oex EN.ox EN.ini EN.ty GE (hr.mono (by decide)) bE .nil pass0 rfl EN.g (pa_cons pe_non pa_nil)))) pss_nil)
      (pss_one (ps_ret (pe_makeS1 MM.M MM.F hr (by rfl) M.g (passes_call (takes_of rfl rfl rfl rfl) fun _ _ _ _ h => h) (pv 0)))), ?_⟩
    refine ⟨_, rfl, _, _, _, _, false, rfl, .ty _, .base (.lst ha), kit_ty (by decide +kernel), false, rfl, ?_⟩
    refine iteT ?_
    refine ⟨(by show 1 ≤ 1000; decide), fun x nx => ⟨x, _, rfl, upd_same, fun d nd ne => ⟨rfl, d, [("index", .non)], upd_same, ?_, ?_, ?_⟩⟩⟩
    · rw [upd_ne ne, upd_same]
    · rw [upd_ne ne] at nd
      exact nd
    · rw [raise_heap nx ne]
      rw [upd_ne ne] at nd
      exact qE d H (Same.refl H) nd
end
end K1
/-! joined and sorted texts -/
namespace K1
open PySem PySem.Spec
open PyProof.Rows L2
def NotLt (a b : Str) : Prop := ¬ (b.cps.toList < a.cps.toList)
theorem notLt_of {a b : Str} (h : (!ltCps b.cps.toList a.cps.toList) = true) : NotLt a b := by
  rw [ltCps_eq] at h
  simpa [NotLt] using h
theorem notLt_trans {a b c : Str} (h1 : NotLt a b) (h2 : NotLt b c) : NotLt a c := by
  have h1 : a.cps.toList ≤ b.cps.toList := List.not_lt.mp h1
  have h2 : b.cps.toList ≤ c.cps.toList := List.not_lt.mp h2
  exact List.not_lt.mpr (List.le_trans h1 h2)
theorem notLt_anti {a b : Str} (h1 : NotLt a b) (h2 : NotLt b a) : a = b := by
  have h1 : a.cps.toList ≤ b.cps.toList := List.not_lt.mp h1
  have h2 : b.cps.toList ≤ a.cps.toList := List.not_lt.mp h2
  exact TL.ext_tl (List.le_antisymm h1 h2)
theorem rising_pw : ∀ (r : List Str) (p : Str), risingS p r = true → (p :: r).Pairwise NotLt
  | [], p, _ => List.pairwise_cons.mpr ⟨fun _ h => (by cases h), List.Pairwise.nil⟩
  | x :: r, p, h => by
    have h : (!ltCps x.cps.toList p.cps.toList && risingS x r) = true := h
    rw [Bool.and_eq_true] at h
    have ih := rising_pw r x h.2
    have h1 := notLt_of h.1
    refine List.pairwise_cons.mpr ⟨fun y hy => ?_, ih⟩
    rcases List.mem_cons.mp
        hy with e | e
    · rw [e]
      exact h1
    · exact notLt_trans h1 ((List.pairwise_cons.mp ih).1 y e)
theorem sorted_pw {xs : List Str} (h : sortedS xs = true) : xs.Pairwise NotLt := by
  cases xs with
  | nil => exact List.Pairwise.nil
  | cons x r => exact rising_pw r x h
theorem sorted_uniq {xs ys : List Str} (hx : sortedS xs = true) (hy : sortedS ys = true) (nx : xs.Nodup) (ny : ys.Nodup) (m : ∀ z, z ∈ xs ↔ z ∈ ys) : xs = ys :=
  List.Perm.eq_of_pairwise (le := NotLt) (fun a b _ _ h1 h2 => notLt_anti h1 h2) (sorted_pw hx) (sorted_pw hy) ((List.perm_ext_iff_of_nodup nx ny).mpr m)
end K1

namespace K1
open PySem PySem.Spec
open PyProof.Rows L2 EnT StX SmX TxS DuX ClX
/-! ### the signs of Members -/
theorem mk_names {C CN : Addr} {zs : List Str} {H : Hp} {Q : VK} {E : XK} (nm : ∀ z ∈ zs, nameB z = true) (hl : zs.length ≤ 1000)
    (q : ∀ b ys H', H b = none → Same H H' → (∀ z, z ∈ ys ↔ z ∈ zs) → MemAt C H' b ys → Q (.ref b) H') : spMk C CN (zs.map V.str) H Q E := by
  have hw : wrongIx (zs.map V.str) = none := wrong_none (List.all_eq_true.mpr fun v hv => by
    obtain ⟨z, hz, rfl⟩ := List.mem_map.mp hv
    exact nm z hz)
  refine ⟨fun v hv => ?_, by rw [List.length_map]; exact hl, fun i hi => (by rw [hw] at hi; cases hi), fun _ us eu b ws H' nb s m MA => ?_⟩
  · obtain ⟨z, hz, rfl⟩ := List.mem_map.mp hv
    exact .inl ⟨z, rfl, by have := name_short (nm z hz); rw [sizeLine_eq]; omega⟩
  · have eu2 : us = zs := (List.map_inj_right (fun _ _ h => V.str.inj h)).mp eu.symm
    subst eu2
    exact q b ws H' nb s m MA
/-- new Members of those that p tells -/
def MakesP (C : Addr) (p : Str → Prop) (H : Hp) (Q : VK) : Prop := ∀ (a : Addr) (ys : List Str) (H' : Hp), H a = none → Same H H' → (∀ z, z ∈ ys ↔ p z) → MemAt C H' a ys → Q (.ref a) H'
theorem MakesP.imp {C : Addr} {p p' : Str → Prop} {H H1 : Hp} {Q Q' : VK} (h : MakesP C p H Q) (s : Same H H1) (e : ∀ z, p' z ↔ p z) (q : ∀ a H', Q (.ref a) H' → Q' (.ref a) H') : MakesP C p' H1 Q' := fun a ys H' n s' m MA => q a H' (h a ys H' (by
  cases hh : H a with
  | none => rfl
  | some o =>
    rw [s _ _ hh] at n
    cases n) (s.trans s') (fun z => (m z).trans (e z)) MA)
abbrev rOr : Prop → Prop → Prop := fun a b => a ∨ b
abbrev rAnd : Prop → Prop → Prop := fun a b => a ∧ b
abbrev rSub : Prop → Prop → Prop := fun a b => a ∧ ¬ b
abbrev rXor : Prop → Prop → Prop := fun a b => (a ∧ ¬ b) ∨ (b ∧ ¬ a)
def spBinM (C : Addr) (r : Prop → Prop → Prop) : Sp := fun vs H Q _ => ∃ a b zs ws, vs = [.ref a, .ref b] ∧ MemAt C H a zs ∧ MemAt C H b ws ∧ zs.length + ws.length ≤ 1000 ∧ MakesP C (fun z => r (z ∈ zs) (z ∈ ws)) H Q
def spBadM (C CM : Addr) : Sp := fun vs H _ E => ∃ a zs v, vs = [.ref a, v] ∧ MemAt C H a zs ∧ VOk H v ∧ ErrAt CM "value" v H E
def spChkY (C : Addr) : Sp := fun vs H Q _ => ∃ b ws, vs = [.ref b] ∧ MemAt C H b ws ∧ Q .non H
def spChkN (CM : Addr) : Sp := fun vs H _ E => ∃ v, vs = [v] ∧ VOk H v ∧ ErrAt CM "value" v H E
/-- what the signs of Members lean on -/
structure Mb (P : Program) (w : World) (K : PySem.W.Frag) (mg : Str → Option Value) (base : Heap) (C CN CM : Addr) (mc : Value) : Prop where
  T : Free mg
  M : MemC K mg C
  I : MemIs K C
  sf : PySem.W.selfFirst K C = true
  chkY : ∃ f, Has P w K mg base (L2.CX P w) 3 "check_members" f ["value"] (spChkY C)
  chkN : ∃ f, Has P w K mg base (L2.CX P w) 3 "check_members" f ["value"] (spChkN CM)
  fromT : ∃ p g, SMet K C mc "from_names" p g ∧ FnR P w K mg base (L2.CX P w) 6 g (spFromT C CN)
  hasM : ∃ g, OwnM K C "__contains__" g ∧ FnR P w K mg base CX0 1 g (spHasM C)
  lenM : ∃ g, OwnM K C "__len__" g ∧ FnR P w K mg base CX0 1 g (spLenM C)
  prop : ∃ pN gN fdN, PropOf K C "names" pN gN ∧ FnOk P w K mg base CX0 1 gN fdN ["self"] (getSp C "_names") ∧ L2.Binds K fdN ["self"] []
  cr : CRead K C mc
section
variable {w : World} {P : Program} {base : Heap} {mg : Str → Option Value} {K : PySem.W.Frag} {C CN CM : Addr} {mc : Value}
theorem scErrM : FnScope ["self", "value"] ["self", "value"] (defScope sErrMem) := ⟨rfl, rfl, rfl, by decide +kernel, rfl, by decide +kernel, by decide +kernel⟩
theorem ok_errM {f C fI : Addr} {fd : FuncData} (F : Fun K "__init__" "NotMembers.__init__" sErrMem f fd) (T : ErrC K mg "NotMembers" "value" C fI) : FnOk P w K mg base CX0 1 f fd ["self", "value"] (spErr C "value") := by
  refine F.ok scErrM (fun vs H Q E h => ?_) (fun cdv A outer s H vs Q E hr h => ?_)
  · obtain ⟨a, v, rfl, _⟩ := h
    rfl
  · obtain ⟨a, v, rfl, ha, q⟩ := h
    exact ⟨_, pss_one (ps_ost (pv 0) (pv 1)), _, rfl, _, rfl, a, C, rfl, T.ox, T.no, .inl ⟨ha, fun d nd ne => q d nd ne⟩⟩
theorem scChkM : FnScope ["value"] ["value"] (defScope sChkM) := ⟨rfl, rfl, rfl, by decide +kernel, rfl, by decide +kernel, by decide +kernel⟩
theorem ok_chkY {f fE : Addr} {fd fdE : FuncData} (F : Fun K "check_members" "check_members" sChkM f fd) (T : Free mg) (M : MemC K mg C) (I : MemIs K C) (EM : ErrC K mg "NotMembers" "value" CM fE) (FE : Fun K "__init__" "NotMembers.__init__" sErrMem fE fdE) :
    FnOk P w K mg base (L2.CX P w) 3 f fd ["value"] (spChkY C) := by
  have bE : Binds K fdE ["self", "value"] [] := FE.binds (ps := ["self", "value"]) fun _ _ _ _ _ _ us hl => match us, hl with | [_, _], _ => rfl
  have GE : FnOk P w K mg base CX0 1 fE fdE ["self", "value"] (spErr CM "value") := ok_errM FE EM
  refine F.okX scChkM (fun vs H Q E h => ?_) (fun cdv A outer s H vs Q E hr h => ?_)
  · obtain ⟨b, ws, rfl, _⟩ := h
    rfl
  · obtain ⟨b, ws, rfl, m2, q⟩ := h
    obtain ⟨dx2, t2, d2, k1, k2, k3⟩ := m2.at_
    refine ⟨_, pss_one (ps_if (pt_not (pt_val (pe_callB call_isi (by rfl) T.isinstance (by decide +kernel) (pa_cons (pv 0) (pa_cons (pe_glob (v := .ref C) (by rfl) M.g rfl) pa_nil)))))
        (pss_one (ps_raise rfl (takes_of rfl rfl rfl rfl) (pmk_oex EM.ox EM.ini EM.ty GE (hr.mono (by decide)) bE .nil pass0 rfl EM.g (pa_cons (pv 0) pa_nil)))) pss_nil), ?_⟩
    refine ⟨_, rfl, _, _, _, _, true, rfl, .own C, .base (.ins k1 M.cl I.ha I.hn I.htk I.hm), I.yes, true, rfl, ?_⟩
    exact iteF q
theorem ok_chkN {f fE : Addr} {fd fdE : FuncData} (F : Fun K "check_members" "check_members" sChkM f fd) (T : Free mg) (M : MemC K mg C) (I : MemIs K C) (EM : ErrC K mg "NotMembers" "value" CM fE) (FE : Fun K "__init__" "NotMembers.__init__" sErrMem fE fdE) :
    FnOk P w K mg base (L2.CX P w) 3 f fd ["value"] (spChkN CM) := by
  have bE : Binds K fdE ["self", "value"] [] := FE.binds (ps := ["self", "value"]) fun _ _ _ _ _ _ us hl => match us, hl with | [_, _], _ => rfl
  have GE : FnOk P w K mg base CX0 1 fE fdE ["self", "value"] (spErr CM "value") := ok_errM FE EM
  refine F.okX scChkM (fun vs H Q E h => ?_) (fun cdv A outer s H vs Q E hr h => ?_)
  · obtain ⟨v, rfl, _⟩ := h
    rfl
  · obtain ⟨v, rfl, hv, q⟩ := h
    obtain ⟨ty, ht, tx⟩ := hv.ty (K := K)
    refine ⟨_, pss_one (ps_if (pt_not (pt_val (pe_callB call_isi (by rfl) T.isinstance (by decide +kernel) (pa_cons (pv 0) (pa_cons (pe_glob (v := .ref C) (by rfl) M.g rfl) pa_nil)))))
        (pss_one (ps_raise rfl (takes_of rfl rfl rfl rfl) (pmk_oex EM.ox EM.ini EM.ty GE (hr.mono (by decide)) bE .nil pass0 rfl EM.g (pa_cons (pv 0) pa_nil)))) pss_nil), ?_⟩
    refine ⟨_, rfl, _, _, _, _, false, rfl, .own C, tx, I.no ty ht, false, rfl, ?_⟩
    refine iteT ?_
    refine ⟨_, rfl, (by show 1 ≤ 1000; decide), fun x nx => ⟨x, _, rfl, upd_same, fun d nd ne => ⟨rfl, d, [("value", v)], upd_same, ?_, ?_, ?_⟩⟩⟩
    · rw [upd_ne ne, upd_same]
    · rw [upd_ne ne] at nd
      exact nd
    · rw [raise_heap nx ne]
      rw [upd_ne ne] at nd
      exact q d H (Same.refl H) nd
abbrev nmSO : List Str := ["self", "other"]
theorem scOrM : FnScope nmSO nmSO (defScope sOrM) := ⟨rfl, rfl, rfl, by decide +kernel, rfl, by decide +kernel, by decide +kernel⟩
theorem ok_orM {f : Addr} {fd : FuncData} (F : Fun K "__or__" "Members.__or__" sOrM f fd) (B : Mb P w K mg base C CN CM mc) : FnOk P w K mg base (L2.CX P w) 7 f fd nmSO (spBinM C rOr) := by
  obtain ⟨fC, hC⟩ := B.chkY
  obtain ⟨pF, gF, mF, FF⟩ := B.fromT
  obtain ⟨pN, gN, fdN, pr, GN, bN⟩ := B.prop
  have M := B.M
  refine F.okX scOrM (fun vs H Q E h => ?_) (fun cdv A outer s H vs Q E hr h => ?_)
  · obtain ⟨a, b, zs, ws, rfl, _⟩ := h
    rfl
  · obtain ⟨a, b, zs, ws, rfl, m1, m2, hl, q⟩ := h
    obtain ⟨dx, t, d, h1, h2, h3⟩ := m1.at_
    obtain ⟨dy, t2, d2, k1, k2, k3⟩ := m2.at_
    refine ⟨_, pss_cons (ps_expr (pe_has hC (hr.mono (by decide)) (by rfl) (passes_call (takes_of rfl rfl rfl rfl) fun _ _ _ _ h => h) (pa_cons (pv 1) pa_nil)))
      (pss_one (ps_ret (pe_smeth (pe_glob (v := .ref C) (by rfl) M.g rfl) B.cr mF FF hr (passes_call (takes_of rfl rfl rfl rfl) fun _ _ _ _ h => h) (pa_cons (pe_op op_catA (pe_fld (pv 0) rfl) (pe_prop (pv 1) M.cl pr GN (hr.mono (by decide)) bN .nil pass0 rfl)) pa_nil)))), ?_⟩
    have nm : ∀ z ∈ zs ++ ws, nameB z = true := fun z hz => (List.mem_append.mp hz).elim (m1.nm z) (m2.nm z)
    have hl2 : (zs ++ ws).length ≤ 1000 := by rw [List.length_append]; exact hl
    have fin : ∀ (l : Addr) (H1 : Hp), Same H H1 → H1 l = some (.tup ((zs ++ ws).map V.str)) → spFromT C CN [.ref l] H1 Q E := fun l H1 s1 hl1 => ⟨l, _, rfl, hl1, mk_names nm hl2 (q.imp s1 (fun z => List.mem_append) fun _ _ h => h)⟩
    refine ⟨_, rfl, b, ws, rfl, m2, ?_⟩
    refine ⟨rfl, _, rfl, a, C, dx, _, _, rfl, h1, M.cl, M.nN, flds_names t d, _, rfl, b, dy, _, rfl, k1, b, dy, _, _, rfl, k1, flds_names t2 d2, ?_⟩
    refine ⟨t, t2, zs.map V.str, ws.map V.str, rfl, rfl, SqT.of h2, SqT.of k2, by rw [List.length_map, List.length_map, sizeLine_eq]; omega, fun e => ?_, fun n e => ?_, fun n n2 p np => ?_⟩
    · have e2 : zs = [] := List.map_eq_nil_iff.mp e
      exact fin t2 H (Same.refl H) (by rw [e2]; exact k2)
    · have e2 : ws = [] := List.map_eq_nil_iff.mp e
      exact fin t H (Same.refl H) (by rw [e2, List.append_nil]; exact h2)
    · exact fin p _ (same_upd np) (by rw [upd_same, List.map_append])
end
end K1

namespace K1
open PySem PySem.Spec
open PyProof.Rows L2 EnT StX SmX TxS DuX ClX
theorem len_sub : ∀ {ys zs : List Str}, ys.Nodup → (∀ z ∈ ys, z ∈ zs) → ys.length ≤ zs.length
  | [], _, _, _ => Nat.zero_le _
  | y :: r, zs, nd, s => by
    have nd' := List.nodup_cons.mp nd
    have hy := s y List.mem_cons_self
    have h := len_sub (zs := zs.erase y) nd'.2 fun z hz => (List.mem_erase_of_ne fun e => nd'.1 (by rw [← e]; exact hz)).mpr (s z (List.mem_cons_of_mem _ hz))
    rw [List.length_erase_of_mem hy] at h
    have := List.length_pos_of_mem hy
    rw [List.length_cons]
    omega
theorem upd_upd {H : Hp} {d : Addr} {x y : HO} : upd (upd H d x) d y = upd H d y := by
  funext b
  by_cases h : b = d
  · rw [h, upd_same, upd_same]
  · rw [upd_ne h, upd_ne h, upd_ne h]
theorem filt_succ {zs : List Str} {i : Nat} {z : Str} {p : Str → Bool} (h : zs[i]? = some z) : (zs.take (i + 1)).filter p = (zs.take i).filter p ++ if p z = true then [z] else [] := by
  rw [List.take_add_one, h, List.filter_append]
  congr 1
  by_cases e : p z = true
  · rw [if_pos e]
    simp [e]
  · rw [if_neg e]
    simp [e]
theorem map_succ {zs : List Str} {i : Nat} {z : Str} {g : Str → V} (h : zs[i]? = some z) : (zs.take (i + 1)).map g = (zs.take i).map g ++ [g z] := by
  rw [List.take_add_one, h, List.map_append]
  rfl
theorem filt_len {zs : List Str} {p : Str → Bool} {n : Nat} (h : zs.length ≤ n) : (zs.filter p).length ≤ n := Nat.le_trans (List.length_filter_le _ _) h
section
variable {w : World} {P : Program} {base : Heap} {mg : Str → Option Value} {K : PySem.W.Frag} {C CN CM : Addr} {mc : Value}
abbrev nmSON : List Str := ["self", "other", "name"]
theorem scAndM : FnScope nmSON nmSO (defScope sAndM) := ⟨rfl, rfl, rfl, by decide +kernel, rfl, by decide +kernel, by decide +kernel⟩
theorem scSubM : FnScope nmSON nmSO (defScope sSubM) := ⟨rfl, rfl, rfl, by decide +kernel, rfl, by decide +kernel, by decide +kernel⟩
theorem ok_andM {f : Addr} {fd : FuncData} (F : Fun K "__and__" "Members.__and__" sAndM f fd) (B : Mb P w K mg base C CN CM mc) : FnOk P w K mg base (L2.CX P w) 7 f fd nmSO (spBinM C rAnd) := by
  obtain ⟨fC, hC⟩ := B.chkY
  obtain ⟨pF, gF, mF, FF⟩ := B.fromT
  obtain ⟨gH, mH, FH⟩ := B.hasM
  have M := B.M
  refine F.okX scAndM (fun vs H Q E h => ?_) (fun cdv A outer s H vs Q E hr h => ?_)
  · obtain ⟨a, b, zs, ws, rfl, _⟩ := h
    rfl
  · obtain ⟨a, b, zs, ws, rfl, m1, m2, hl, q⟩ := h
    obtain ⟨dx, t, d, h1, h2, h3⟩ := m1.at_
    obtain ⟨dy, t2, d2, k1, k2, k3⟩ := m2.at_
    refine ⟨_, pss_cons (ps_expr (pe_has hC (hr.mono (by decide)) (by rfl) (passes_call (takes_of rfl rfl rfl rfl) fun _ _ _ _ h => h) (pa_cons (pv 1) pa_nil)))
      (pss_one (ps_ret (pe_smeth (pe_glob (v := .ref C) (by rfl) M.g rfl) B.cr mF FF hr (passes_call (takes_of rfl rfl rfl rfl) fun _ _ _ _ h => h) (pa_cons (pe_callTy call_tuple_of (by rfl) B.T.tuple (by decide +kernel) (pa_cons
        (pe_lc (own := [("name", 2)]) (g := gName 2) (tt := tTest (tOp (rHasO C (spHasM C)) (tVar 2) (tVar 1))) rfl scAndM.nd (pi_tup (pe_fld (pv 0) rfl)) (blkOk_by (own := [("name", 2)]) (N := nmSON) (sc := defScope sAndM) (by decide +kernel)) (fun _ _ _ _ _ => pg_name (i := 2) scAndM.nd rfl (Or.inl rfl))
          (fun _ _ _ _ _ => pts_one (pt_cmpR (op_inX mH FH (hr.mono (by decide))) (pv 2) (pv 1) (by rfl))) (fun _ _ _ _ _ => pv 2)) pa_nil)) pa_nil)))), ?_⟩
    refine ⟨_, rfl, b, ws, rfl, m2, rfl, ?_⟩
    refine ⟨_, rfl, a, C, dx, _, _, rfl, h1, M.cl, M.nN, flds_names t d, t, rfl, ⟨_, SqT.of h2⟩, fun D nD => ?_⟩
    refine lc_tup (K := K) (a := t) (xs := zs.map V.str) (fun i H' => H' = upd H D (.lst (((zs.take i).filter fun z => decide (z ∈ ws)).map V.str))) rfl (fun i H' hi e => ?_) (fun i x H' hx e => ?_) (fun H' e => ?_)
    · subst e
      exact SqT.of (same_upd nD _ _ h2)
    · subst e
      rw [List.getElem?_map] at hx
      obtain ⟨z, hz, rfl⟩ := Option.map_eq_some_iff.mp hx
      have s1 : Same H (upd H D (.lst (((zs.take i).filter fun z => decide (z ∈ ws)).map V.str))) := same_upd nD
      refine ⟨rfl, ?_⟩
      refine ⟨_, rfl, _, rfl, b, dy, _, rfl, s1 _ _ k1, b, ws, _, rfl, m2.same s1, .inl ⟨z, rfl, by have := name_short (m1.nm z (List.mem_of_getElem? hz)); rw [sizeLine_eq]; omega⟩, _, rfl, _, rfl, ?_⟩
      have e1 : hasV ws (V.str z) = decide (z ∈ ws) := rfl
      rw [e1, filt_succ hz]
      by_cases hm : z ∈ ws
      · rw [decide_eq_true hm, if_pos rfl]
        refine iteT ⟨_, rfl, _, upd_same, ?_, ?_⟩
        · have : (((zs.take i).filter fun z => decide (z ∈ ws))).length ≤ 1000 := filt_len (by rw [List.length_take]; omega)
          rw [List.length_map, sizeLine_eq]
          omega
        · rw [upd_upd, List.map_append]
          rfl
      · rw [decide_eq_false hm, if_neg (by decide), List.append_nil]
        exact iteF rfl
    · subst e
      rw [List.length_map, List.take_length]
      have s1 : Same H (upd H D (.lst ((zs.filter fun z => decide (z ∈ ws)).map V.str))) := same_upd nD
      refine ⟨D, _, rfl, .inl ⟨SqL.of upd_same, fun l nl => ?_⟩⟩
      have s2 := same_upd (o := .tup ((zs.filter fun z => decide (z ∈ ws)).map V.str)) nl
      exact ⟨l, _, rfl, upd_same, mk_names (fun z hz => m1.nm z (List.mem_filter.mp hz).1) (filt_len (by omega)) (q.imp (s1.trans s2) (fun z => by rw [List.mem_filter, decide_eq_true_iff]) fun _ _ h => h)⟩
theorem ok_subM {f : Addr} {fd : FuncData} (F : Fun K "__sub__" "Members.__sub__" sSubM f fd) (B : Mb P w K mg base C CN CM mc) : FnOk P w K mg base (L2.CX P w) 7 f fd nmSO (spBinM C rSub) := by
  obtain ⟨fC, hC⟩ := B.chkY
  obtain ⟨pF, gF, mF, FF⟩ := B.fromT
  obtain ⟨gH, mH, FH⟩ := B.hasM
  have M := B.M
  refine F.okX scSubM (fun vs H Q E h => ?_) (fun cdv A outer s H vs Q E hr h => ?_)
  · obtain ⟨a, b, zs, ws, rfl, _⟩ := h
    rfl
  · obtain ⟨a, b, zs, ws, rfl, m1, m2, hl, q⟩ := h
    obtain ⟨dx, t, d, h1, h2, h3⟩ := m1.at_
    obtain ⟨dy, t2, d2, k1, k2, k3⟩ := m2.at_
    refine ⟨_, pss_cons (ps_expr (pe_has hC (hr.mono (by decide)) (by rfl) (passes_call (takes_of rfl rfl rfl rfl) fun _ _ _ _ h => h) (pa_cons (pv 1) pa_nil)))
      (pss_one (ps_ret (pe_smeth (pe_glob (v := .ref C) (by rfl) M.g rfl) B.cr mF FF hr (passes_call (takes_of rfl rfl rfl rfl) fun _ _ _ _ h => h) (pa_cons (pe_callTy call_tuple_of (by rfl) B.T.tuple (by decide +kernel) (pa_cons
        (pe_lc (own := [("name", 2)]) (g := gName 2) (tt := tTest (tOp (rNinO C (spHasM C)) (tVar 2) (tVar 1))) rfl scSubM.nd (pi_tup (pe_fld (pv 0) rfl)) (blkOk_by (own := [("name", 2)]) (N := nmSON) (sc := defScope sSubM) (by decide +kernel)) (fun _ _ _ _ _ => pg_name (i := 2) scSubM.nd rfl (Or.inl rfl))
          (fun _ _ _ _ _ => pts_one (pt_cmpR (op_ninX mH FH (hr.mono (by decide))) (pv 2) (pv 1) (by rfl))) (fun _ _ _ _ _ => pv 2)) pa_nil)) pa_nil)))), ?_⟩
    refine ⟨_, rfl, b, ws, rfl, m2, rfl, ?_⟩
    refine ⟨_, rfl, a, C, dx, _, _, rfl, h1, M.cl, M.nN, flds_names t d, t, rfl, ⟨_, SqT.of h2⟩, fun D nD => ?_⟩
    refine lc_tup (K := K) (a := t) (xs := zs.map V.str) (fun i H' => H' = upd H D (.lst (((zs.take i).filter fun z => !decide (z ∈ ws)).map V.str))) rfl (fun i H' hi e => ?_) (fun i x H' hx e => ?_) (fun H' e => ?_)
    · subst e
      exact SqT.of (same_upd nD _ _ h2)
    · subst e
      rw [List.getElem?_map] at hx
      obtain ⟨z, hz, rfl⟩ := Option.map_eq_some_iff.mp hx
      have s1 : Same H (upd H D (.lst (((zs.take i).filter fun z => !decide (z ∈ ws)).map V.str))) := same_upd nD
      refine ⟨rfl, ?_⟩
      refine ⟨_, rfl, _, rfl, b, dy, _, rfl, s1 _ _ k1, b, ws, _, rfl, m2.same s1, .inl ⟨z, rfl, by have := name_short (m1.nm z (List.mem_of_getElem? hz)); rw [sizeLine_eq]; omega⟩, _, rfl, _, rfl, ?_⟩
      have e1 : hasV ws (V.str z) = decide (z ∈ ws) := rfl
      rw [e1, filt_succ hz]
      by_cases hm : z ∈ ws
      · rw [decide_eq_true hm, if_neg (by decide), List.append_nil]
        exact iteF rfl
      · rw [decide_eq_false hm, Bool.not_false, if_pos rfl]
        refine iteT ⟨_, rfl, _, upd_same, ?_, ?_⟩
        · have : (((zs.take i).filter fun z => !decide (z ∈ ws))).length ≤ 1000 := filt_len (by rw [List.length_take]; omega)
          rw [List.length_map, sizeLine_eq]
          omega
        · rw [upd_upd, List.map_append]
          rfl
    · subst e
      rw [List.length_map, List.take_length]
      have s1 : Same H (upd H D (.lst ((zs.filter fun z => !decide (z ∈ ws)).map V.str))) := same_upd nD
      refine ⟨D, _, rfl, .inl ⟨SqL.of upd_same, fun l nl => ?_⟩⟩
      have s2 := same_upd (o := .tup ((zs.filter fun z => !decide (z ∈ ws)).map V.str)) nl
      exact ⟨l, _, rfl, upd_same, mk_names (fun z hz => m1.nm z (List.mem_filter.mp hz).1) (filt_len (by omega)) (q.imp (s1.trans s2) (fun z => by rw [List.mem_filter]; simp) fun _ _ h => h)⟩
/-! a sign with what is no Members -/
theorem ok_orN {f : Addr} {fd : FuncData} (F : Fun K "__or__" "Members.__or__" sOrM f fd) (B : Mb P w K mg base C CN CM mc) : FnOk P w K mg base (L2.CX P w) 7 f fd nmSO (spBadM C CM) := by
  obtain ⟨fC, hC⟩ := B.chkN
  obtain ⟨pF, gF, mF, FF⟩ := B.fromT
  obtain ⟨pN, gN, fdN, pr, GN, bN⟩ := B.prop
  have M := B.M
  refine F.okX scOrM (fun vs H Q E h => ?_) (fun cdv A outer s H vs Q E hr h => ?_)
  · obtain ⟨a, zs, v, rfl, _⟩ := h
    rfl
  · obtain ⟨a, zs, v, rfl, m1, hv, qE⟩ := h
    exact ⟨_, pss_cons (ps_expr (pe_has hC (hr.mono (by decide)) (by rfl) (passes_call (takes_of rfl rfl rfl rfl) fun _ _ _ _ h => h) (pa_cons (pv 1) pa_nil)))
      (pss_one (ps_ret (pe_smeth (pe_glob (v := .ref C) (by rfl) M.g rfl) B.cr mF FF hr (passes_call (takes_of rfl rfl rfl rfl) fun _ _ _ _ h => h) (pa_cons (pe_op op_catA (pe_fld (pv 0) rfl) (pe_prop (pv 1) M.cl pr GN (hr.mono (by decide)) bN .nil pass0 rfl)) pa_nil)))), _, rfl, v, rfl, hv, qE⟩
theorem ok_andN {f : Addr} {fd : FuncData} (F : Fun K "__and__" "Members.__and__" sAndM f fd) (B : Mb P w K mg base C CN CM mc) : FnOk P w K mg base (L2.CX P w) 7 f fd nmSO (spBadM C CM) := by
  obtain ⟨fC, hC⟩ := B.chkN
  obtain ⟨pF, gF, mF, FF⟩ := B.fromT
  obtain ⟨gH, mH, FH⟩ := B.hasM
  have M := B.M
  refine F.okX scAndM (fun vs H Q E h => ?_) (fun cdv A outer s H vs Q E hr h => ?_)
  · obtain ⟨a, zs, v, rfl, _⟩ := h
    rfl
  · obtain ⟨a, zs, v, rfl, m1, hv, qE⟩ := h
    exact ⟨_, pss_cons (ps_expr (pe_has hC (hr.mono (by decide)) (by rfl) (passes_call (takes_of rfl rfl rfl rfl) fun _ _ _ _ h => h) (pa_cons (pv 1) pa_nil)))
      (pss_one (ps_ret (pe_smeth (pe_glob (v := .ref C) (by rfl) M.g rfl) B.cr mF FF hr (passes_call (takes_of rfl rfl rfl rfl) fun _ _ _ _ h => h) (pa_cons (pe_callTy call_tuple_of (by rfl) B.T.tuple (by decide +kernel) (pa_cons
        (pe_lc (own := [("name", 2)]) (g := gName 2) (tt := tTest (tOp (rHasO C (spHasM C)) (tVar 2) (tVar 1))) rfl scAndM.nd (pi_tup (pe_fld (pv 0) rfl)) (blkOk_by (own := [("name", 2)]) (N := nmSON) (sc := defScope sAndM) (by decide +kernel)) (fun _ _ _ _ _ => pg_name (i := 2) scAndM.nd rfl (Or.inl rfl))
          (fun _ _ _ _ _ => pts_one (pt_cmpR (op_inX mH FH (hr.mono (by decide))) (pv 2) (pv 1) (by rfl))) (fun _ _ _ _ _ => pv 2)) pa_nil)) pa_nil)))), _, rfl, v, rfl, hv, qE⟩
theorem ok_subN {f : Addr} {fd : FuncData} (F : Fun K "__sub__" "Members.__sub__" sSubM f fd) (B : Mb P w K mg base C CN CM mc) : FnOk P w K mg base (L2.CX P w) 7 f fd nmSO (spBadM C CM) := by
  obtain ⟨fC, hC⟩ := B.chkN
  obtain ⟨pF, gF, mF, FF⟩ := B.fromT
  obtain ⟨gH, mH, FH⟩ := B.hasM
  have M := B.M
  refine F.okX scSubM (fun vs H Q E h => ?_) (fun cdv A outer s H vs Q E hr h => ?_)
  · obtain ⟨a, zs, v, rfl, _⟩ := h
    rfl
  · obtain ⟨a, zs, v, rfl, m1, hv, qE⟩ := h
    exact ⟨_, pss_cons (ps_expr (pe_has hC (hr.mono (by decide)) (by rfl) (passes_call (takes_of rfl rfl rfl rfl) fun _ _ _ _ h => h) (pa_cons (pv 1) pa_nil)))
      (pss_one (ps_ret (pe_smeth (pe_glob (v := .ref C) (by rfl) M.g rfl) B.cr mF FF hr (passes_call (takes_of rfl rfl rfl rfl) fun _ _ _ _ h => h) (pa_cons (pe_callTy call_tuple_of (by rfl) B.T.tuple (by decide +kernel) (pa_cons
        (pe_lc (own := [("name", 2)]) (g := gName 2) (tt := tTest (tOp (rNinO C (spHasM C)) (tVar 2) (tVar 1))) rfl scSubM.nd (pi_tup (pe_fld (pv 0) rfl)) (blkOk_by (own := [("name", 2)]) (N := nmSON) (sc := defScope sSubM) (by decide +kernel)) (fun _ _ _ _ _ => pg_name (i := 2) scSubM.nd rfl (Or.inl rfl))
          (fun _ _ _ _ _ => pts_one (pt_cmpR (op_ninX mH FH (hr.mono (by decide))) (pv 2) (pv 1) (by rfl))) (fun _ _ _ _ _ => pv 2)) pa_nil)) pa_nil)))), _, rfl, v, rfl, hv, qE⟩
end
end K1
/-! l.count(True), l a list of truths -/
namespace CnB
open PySem PySem.Spec
open PyProof.Rows L2
def tru : Value → Bool
  | .bool b => b
  | _ => false
theorem tru_vals : ∀ {bs : List Bool} {its : List Value}, Vals (bs.map V.bl) its → its.countP tru = bs.count true ∧ ∀ u ∈ its, ∃ b, u = .bool b
  | [], _, h => by
    cases h
    exact ⟨rfl, fun u z => by cases z⟩
  | b :: r, _, h => by
    cases h with
    | cons h1 h2 =>
      cases h1
      obtain ⟨e1, e2⟩ := tru_vals h2
      refine ⟨?_, fun u hu => ?_⟩
      · rw [List.countP_cons, e1, List.count_cons]
        cases b <;> rfl
      · rcases List.mem_cons.mp hu with e | e
        · exact ⟨b, e⟩
        · exact e2 u e
def rCntB (K : PySem.W.Frag) : V → List V → Hp → VK → Prop := fun x xs H Q => ∃ (p : Addr) (bs : List Bool), x = .ref p ∧ xs = [.bl true] ∧ SqL K H p (bs.map V.bl) ∧ Q (.int (bs.count true : Nat)) H
section
variable {X : Cx}
theorem mt_lcountB : MtR X "list.count" (rCntB X.K) := by
  intro pins s σ H x xs v us Q Iv rx rxs h
  obtain ⟨p, bs, rfl, rfl, hs, q⟩ := h
  cases rx
  obtain ⟨u, rfl,
      ru⟩ := rxs.one
  cases ru
  obtain ⟨its, rv, ⟨⟨cls, dd, data, sl⟩, n, ho, hc, hdn, hd⟩, hlen⟩ := Iv.list hs
  simp only at hc hd
  subst hc hd
  obtain ⟨ec, eb⟩ := tru_vals rv
  refine call_meets PySem.F.slot_list_count ⟨_, ho,
      rfl⟩ PySem.F.entry_list_count (PySem.F.args_list_count_2 _ _)
    (SeqAt.list_countAt p its.toArray n dd sl (.bool true) tru) ⟨ho, fun y hy => ?_, ?_⟩
  · obtain ⟨b, rfl⟩ := eb y (by simpa using hy)
    have z := eqAt_V (A := X.A.in1) (s := s) (y := .bl b) (x := .bl true) rfl rfl rfl rfl
    have e : eqV (.bl b) (.bl true) = b := by cases b <;> rfl
    rw [e] at z
    exact z
  · have e2 : its.toArray.toList.countP tru = bs.count true := ec
    refine ⟨.int (bs.count true : Nat), H, Iv.tok _, ⟨s.toks, ?_⟩, q⟩
    show Value.int ((its.toArray.toList.countP tru : Nat) : Int) _ = Value.int ((bs.count true : Nat) : Int) _
    rw [e2]
end
end CnB
/-! != of two lists whose items are equal one by one, by the items' own == -/
namespace NeL
open PySem PySem.SeqAt
open AutoSeq1
    (wpAny_loadPart')
open MeetsSeq MeetsSeq2
open MeetsSeq3 SeqRoads2
section
variable {w : World} {prog : Program}
variable {R : Result → Shared → Prop} {A : Around}
theorem loop3 (l b : Addr) (N : Nat) (J : Nat → Shared → Prop) (hl : GQ.ListI prog w A (fun e s' => R (.error e) s') l b N J)
    (fin : ∀ s, J N s → R (.ok (.ret (.bool false))) s) (m : Nat) :
    ∀ i : Nat, N - i = m → i ≤ N → ∀ s, J i s →
      wpAny (model prog w) A.in1 (Builtin.«list.__eq__.loop» ⟨[.ref l, .ref b, rawInt i, rawInt 3], []⟩) (GQ.FinOf prog w A R) (fun e s' => R (.error e) s') s := by
  induction m with
  | zero =>
    intro i hm hi s hj
    obtain ⟨xs, ys, n, n2, atL, atB, szX, szY, _⟩ := hl _ _ hj
    have ei : i = N := by omega
    have done : R (.ok (.ret (.bool false))) s := fin s (ei ▸ hj)
    obtain ⟨hp, g,
        d, tk, os⟩ := s
    wp_walk using wpAny_loadPart' atL, wpAny_loadPart' atB
    have no1 : xs[((i : Nat) : Int).toNat]? = none := by simp; omega
    have no2 : ys[((i : Nat) : Int).toNat]? = none := by simp; omega
    rw [no1, no2]
    wp_walk using wpAny_loadPart' atL, wpAny_loadPart' atB
    show R (.ok (.ret (.bool (xs.size != ys.size)))) _
    rw [szX, szY]
    simpa using done
  | succ m ih =>
    intro i hm hi s hj
    obtain ⟨xs, ys, n, n2, atL, atB, szX, szY, turn⟩ := hl _ _ hj
    have l1 : i < xs.size := by omega
    have l2 : i < ys.size := by omega
    have tt := turn l1 l2
    obtain ⟨hp, g,
        d, tk, os⟩ := s
    wp_walk using wpAny_loadPart' atL, wpAny_loadPart' atB
    have is1 : xs[((i : Nat) : Int).toNat]? = some xs[i] := by simp [l1]
    have is2 : ys[((i : Nat) : Int).toNat]? = some ys[i] := by simp [l2]
    have next : ((i : Int) + 1) = ((i + 1 : Nat) : Int) := by omega
    rw [is1, is2]
    refine wpAny_bind (wpAny_mono tt (fun r s2 h2 => ?_) fun _ _ x => x)
    obtain ⟨er, h2⟩ := h2
    subst er
    have go := ih (i + 1) (by omega) (by omega) s2 h2
    obtain ⟨hp2, g2,
        d2, tk2, os2⟩ := s2
    wp_walk
    rw [next]
    exact ⟨plainId_quiet plain_eq_loop
        _, codeAny_builtin entry_eq_loop (by
      rw [Around.under_plainId plain_eq_loop _]; exact go)⟩
theorem list_neG (l b : Addr) (N : Nat) (J : Nat → Shared → Prop) (hl : GQ.ListI prog w A (fun e s' => R (.error e) s') l b N J)
    (fin : ∀ s, J N s → R (.ok (.ret (.bool false))) s) {s : Shared} (hj : J 0 s) :
    wpAny (model prog w) A.in1 (Builtin.«list.__ne__» ⟨[.ref l, .ref b], []⟩) (GQ.FinOf prog w A R) (fun e s' => R (.error e) s') s := by
  obtain ⟨xs, ys, n, n2, atL, atB, szX, szY, _⟩ := hl _ _ hj
  have go := loop3 (A := A) (R := R) l b N J hl fin _ 0 rfl (Nat.zero_le _) s hj
  obtain ⟨hp, g,
      d, tk, os⟩ := s
  have sub := AutoSeq1.sub_list_list
  have same : ¬ (xs.size != ys.size) = true := by simp [szX, szY]
  wp_walk using wpAny_loadPart' atL, wpAny_loadPart' atB
  exact ⟨plainId_quiet plain_eq_loop
      _, codeAny_builtin entry_eq_loop (by
    rw [Around.under_plainId plain_eq_loop _]; exact go)⟩
end
section
variable {w : World} {prog : Program}
variable {E : Value → Shared → Prop} {A : Around} {s : Shared}
theorem rc_neG {l b : Addr} {N : Nat} {Q : Value → Shared → Prop} (hu : A.units < cLine) (J : Nat → Shared → Prop) (hl : GQ.ListI prog w A E l b N J)
    (fin : ∀ s, J N s → Q (.bool false) s) (hj : J 0 s) : wpAny (model prog w) A (richCompare .NotEq (.ref l) (.ref b)) Q E s := by
  obtain ⟨xs, ys, n, n2, atL, atB, _, _, _⟩ := hl _ _ hj
  refine wpAny_richCompare_same_room (op := .NotEq) ⟨_, atL, rfl⟩ ⟨_, atB, rfl⟩ F.slot_list_ne (GQ.call_here F.slot_list_ne ⟨_, atL, rfl⟩ F.entry_list_ne (F.args_list_ne_2 _ _) ?_) hu
  exact list_neG (R := wants (fun v s' => v ≠ .notImplemented ∧ Q v s') E) l b N J hl (fun s' q => ⟨(fun x => nomatch x), fin s' q⟩) hj
end
open PySem.Spec PyProof.Rows L2
section
variable {X : Cx} {n : Nat} {D : Eqv}
/-- x != y as an expression: the lists' items are equal -/
theorem op_neG (hD : Mon D) (h : EqG X n D) (hr : Room (n + 1) X.A) : OpR X (compareOp .NotEq) (fun x y H Q => DList D x y H ∧ ∀ H', L2.Ext H H' → Q (.bl false) H') := by
  intro pins s σ H x y v u Q Iv rx ry hq
  obtain ⟨⟨a, b, xs, ys, rfl, rfl, ha, hb, p⟩, q⟩ := hq
  cases rx
  cases ry
  have sb : Sub X (n + 1) X.A := ⟨hr, rfl⟩
  show wpAny (model X.prog X.w) X.A (richCompare .NotEq (.ref a) (.ref b)) (EP X pins σ Q) X.xe s
  refine rc_neG (N := xs.length) hr.units0 (fun _ s' => LoopI X pins σ H s') (fun i s' l => ?_) (fun s' l => ?_) ⟨H, Iv, L2.Ext.rfl'⟩
  · obtain ⟨H1, I1, e1⟩ := id l
    obtain ⟨z, its, k, r, e⟩
        := I1.hok a _ (e1 _ _ ha)
    obtain ⟨z2, its2, k2, r2,
        e2⟩ := I1.hok b _ (e1 _ _ hb)
    refine ⟨its.toArray, its2.toArray, k, k2, e, e2, by rw [List.size_toArray,
        ← r.length], by rw [List.size_toArray, ← r2.length, ← p.1], fun h1 h2 => ?_⟩
    exact turnG hD h sb p r r2 i h1 h2 s' l
  · obtain ⟨H1, I1, e1⟩ := l
    exact ⟨.bl false, H1, I1, rfl, q H1 e1⟩
end
end NeL

/-! isinstance of a caught error that has attributes -/
namespace XdI
open PySem PySem.Spec
    PySem.Calls
open PyProof.Rows PySem.W
section
variable {s : Shared} {prog : Program} {w : World}
variable {E : Value → Shared → Prop} {A : Around} {K : Frag} {x D : Addr} {ox od : Obj}
theorem cls_dict {Q : Option Value → Shared → Prop} (gA : findIn K (.ref D) "__getattribute__" = some (some (.builtin "BaseException.__getattribute__"))) (gT : findIn K (.ref D) "__getattr__" = some none) (sB : subIn K (.ref D) (.type "BaseException") = some true)
    (dC : hasDictIn K D = true) (cA : findIn K (.ref D) "__class__" = some (some (.builtin "object.__class__")))
    (sG : specialIn K (.builtin "object.__class__") "__get__" = some (some (.builtin "getset_descriptor.__get__"))) (tA : takesIn K (.builtin "object.__class__") = some true) (mO : mroIn K D (.type "object") = some true)
    (Kn : K.In s.heap) (Iv : InstAt s.heap x ox D (some od)) (h : Q (some (.ref D)) { s with toks := s.toks + 1 }) : wpAny (model prog w) A (getAttr? (.ref x) "__class__") Q E s := by
  have fO : findObj K D (some od) "__class__" = some (.bind (.builtin "getset_descriptor.__get__") (.builtin "object.__class__")) := findObj_data (by obtain ⟨cd, hc, _⟩ := any_some dC; rw [hc]; rfl) cA sG tA
  obtain ⟨hp, g, d, t, os⟩ := s
  have M0 := Iv.type (M := model prog w)
  have M1 := looks_findIn (M := model prog w) Kn gA
  have M2 := looks_findIn (M := model prog w) Kn gT
  have M3 := looks_find (M := model prog w) Kn Iv fO
  have sub : Looks (model prog w) hp (isInstance (.ref x) (.type "BaseException")) true := M0.andThen (looks_subIn Kn sB)
  have no0 : (false && onTheHeap (Value.builtin "BaseException.__getattribute__")) = false := rfl
  have no2 : (Value.builtin "BaseException.__getattribute__" == Value.builtin "object.__getattribute__") = false := by decide +kernel
  have no1 : (onTheHeap (Value.ref D) && Value.builtin "BaseException.__getattribute__" == Value.builtin "object.__getattribute__") = false := by rw [no2]; rfl
  unfold getAttr? getAttrBy?
      getAttrBy
  refine wpAny_bind (wpAny_mkText (wpAny_bind (wpAny_attempt (wpAny_holding (wpAny_bind (M0.at (wpAny_bind (M1.at ?_))))))))
  show wpAny _ _ (if (onTheHeap (Value.ref D) && Value.builtin "BaseException.__getattribute__"
      == Value.builtin "object.__getattribute__") = true then _ else _) _ _ _
  rw [no1, if_neg Bool.false_ne_true]
  unfold getAttrByItsOwn
      hookBefore
  refine wpAny_bind ?_
  rw [if_pos (show onTheHeap
      (Value.ref D) = true from rfl)]
  refine M2.at ?_
  refine wpAny_bind (wpAny_attempt
      (wpAny_holding ?_))
  unfold callGetattribute
  rw [no0, if_neg Bool.false_ne_true]
  unfold boundAndCalled
  rw [PySem.F.excAttr_ValueError.ga.bind
      (.ref x)]
  refine wpAny_bind
      (wpAny_pure ?_)
  show wpAny _ _ (call (.builtin "BaseException.__getattribute__")
      [.ref x, .str "__class__" t]) _ _ _
  refine wpAny_call (codeAny_call_builtin PySem.F.excAttr_ValueError.ga.plain
      PySem.F.entry_bexc_ga ?_)
  refine @check_slot (model prog w) _ _ ⟨hp, g, d, t + 1, os⟩ "BaseException.__getattribute__" "BaseException" "__getattribute__"
      (.ref x) [.str "__class__" t] [] _ (by decide +kernel) (by decide +kernel) sub (PySem.F.args_bexc_ga (.ref x) (.str "__class__" t)) ?_
  unfold
    Builtin.«object.__getattribute__»
  refine wpAny_bind (wpAny_of_eq (a := ((Value.ref x : Value), [Value.str
      "__class__" t])) (by first | rfl | (simp only [slotArgs]; rfl)) ?_)
  refine wpAny_bind (wpAny_pure (wpAny_bind (M0.at (wpAny_bind (M3.at ?_)))))
  show wpAny _ _ (holding [Value.builtin "object.__class__"] (call (.builtin
      "getset_descriptor.__get__") [.builtin "object.__class__", .ref x, .ref D]) >>= ret) _ _ _
  refine wpAny_bind (wpAny_holding (wpAny_call (class_get (s := ⟨hp, g, d, t + 1, os⟩) (ox := ox) (od := some od) Kn Iv mO ?_)))
  refine wpAny_pure ?_
  show wpAny _ _ (handedOut
      (.ref D)) _ _ _
  rw [handedOut_of
      (v := .ref D) rfl]
  first
    | exact wpAny_pure
        (wpAny_pure h)
    | exact wpAny_pure h
    | exact wpAny_pure (wpAny_bind
        (wpAny_pure (wpAny_pure h)))
theorem kitx_dict (gA : findIn K (.ref D) "__getattribute__" = some (some (.builtin "BaseException.__getattribute__"))) (gT : findIn K (.ref D) "__getattr__" = some none) (sB : subIn K (.ref D) (.type "BaseException") = some true) (dC : hasDictIn K D = true) (cA : findIn K (.ref D) "__class__" = some (some (.builtin "object.__class__")))
    (sG : specialIn K (.builtin "object.__class__") "__get__" = some (some (.builtin "getset_descriptor.__get__"))) (tA : takesIn K (.builtin "object.__class__") = some true) (mO : mroIn K D (.type "object") = some true) :
    KitX K (.ref x) (.ref D) (fun h
        => InstAt h x ox D (some od)) where
  ty := fun _ _ _ Iv => Iv.type
  it := fun _ _ Kn _ => by
    obtain ⟨rD, eD, _⟩ := any_some dC
    unfold clsIn at eD
    split at eD
    · rename_i c' d' cd' sl' ho
      intro A' Q' E' s' k q
      unfold isType loadHead
      exact wpAny_bind (wpAny_loadPart (k _ _ (Kn _ _ ho)) (wpAny_pure q))
    · cases eD
  ne := fun h tp dd its n sl Kn htp => by
    obtain ⟨rD, eD, _⟩ := any_some dC
    refine Bool.eq_false_iff.mpr
        fun q => ?_
    have e : D = tp := Value.ref.inj
        (beq_iff_eq.mp q)
    subst e
    unfold clsIn at eD
    split at eD
    · rename_i c' d' cd' sl' ho
      have z := (Kn _ _ ho).symm.trans htp
      cases z
    · cases eD
  ca := fun Kn Iv k => cls_dict gA gT sB dC cA sG tA mO Kn Iv k
end
end XdI
namespace XdI
open PySem PySem.Spec
open PyProof.Rows L2
/-- isinstance(e, c), e the exception that the suite holds, its attributes at dd -/
def rIsD (K : PySem.W.Frag) (D a : Addr) (d : Option Addr) : List V → Hp → VK → Prop := fun xs H Q => ∃ (c : V) (cv : Value) (b : Bool) (dd : Addr) (fs : List (Str × V)), xs = [.ref a, c] ∧ d = some dd ∧ H dd = some (.xd fs) ∧ (∀ u, RelV c u → u = cv) ∧ PySem.W.kitOne K (.ref D) cv = some b ∧ Q (.bl b) H
theorem call_isD {X : Cx} {a D : Addr} {d : Option Addr} {oe : Obj} {pn : List (Addr × Obj)} {cls : Value} (ec : cls = .ref D) (C : ExcC X.K D) (hz : Zc cls d oe) (hf : ∃ vs, oe.data = .fields vs) : CallR (X.suite a ((a, oe) :: pn)) (.builtin "isinstance") (rIsD X.K D a d) := by
  intro pins s σ H xs us Q Iv r h
  obtain ⟨c, cv, b, dd, fs, rfl, ed, hd, hcv, e, q⟩ := h
  subst ed
  subst ec
  cases r with
  | cons rx rr =>
    cases rr with
    | cons rt rr =>
      cases rr
      cases rx
      have ec := hcv _ rt
      subst ec
      obtain ⟨gotA, _⟩ := Iv.pin (a, oe) (List.mem_append.mpr (.inl List.mem_cons_self))
      obtain ⟨vs, vA⟩ := hf
      have okX : ObjOk X.prog X.w H s.heap dd (.xd fs) := Iv.hok dd _ hd
      obtain ⟨mA, hns, hr⟩ := okX
      obtain ⟨od, ho, hl⟩
          := lookIn_ns hns
      have Jv : PySem.W.InstAt s.heap a oe D (some od) := ⟨gotA, hz.1, by unfold PySem.W.notCls; rw [vA] <;> rfl, by rw [hz.2]; exact ho⟩
      exact PySem.W.kia_one (kitx_dict C.hg C.hk C.hs C.hd C.ha C.hn C.ht C.hm) Iv.kIn Jv e (fun z => nomatch z) fun tk => ⟨.bl b, H, Iv.kept (t' := tk) fun _ _ z => z, rfl, q⟩
end XdI

/-! try .. except (X1, X2, X3) as n, where the clause takes what is raised -/
namespace Tr3
open PySem PySem.Spec
open PyProof.Rows L2
theorem fly_keeps {B h h' : Heap} {l : List Env} {e : Addr} {Z : Obj → Prop} (x : HandSPX.FlyingZ B l e Z h) (k : ∀ b o, h.get? b = some o → h'.get? b = some o) : HandSPX.FlyingZ B l e Z h' := by
  obtain ⟨f1, f2, f3, oe, vs, T, oT, ts, h1, h2, hpA, hpB, h5, h6, h7, h8, h9⟩ := x
  exact ⟨fun b o q => k b o (f1 b o q), f2, f3.of_keeps fun b o q _ => ⟨o, k b o q, rfl⟩, oe, vs, T, oT, ts, k _ _ h1, h2, hpA, hpB, h5, h6, k _ _ h7, h8, h9⟩
/-- what the clause wishes of an exception of the body: slot i is n's -/
def wAs3 (K : PySem.W.Frag) (cs : List Value) (i : Nat) (ts : Addr → Value → Option Addr → TS) (D : Ends) : WX := fun cls d σ H =>
  PySem.W.exmAny K cls cs = some true ∧ ∀ a, H a = none → ts a cls d { nx := fun σ' H' => D.nx (σ'.set i none) H', rt := D.rt, bk := fun σ' H' => D.bk (σ'.set i none) H', ct := fun σ' H' => D.ct (σ'.set i none) H' } (σ.set i (some (.ref a))) H
section
variable {X : Cx} {n : Str} {x1 x2 x3 : Str} {c1 c2 c3 : Value} {i kk : Nat} {body suite : List Stmt}
variable {b₀ : Stmt} {pos pos' p1 p2 p3 tpos : Pos} {tb : WX → TS} {ts : Addr → Value → Option Addr → TS}
theorem ps_try_as3 (hs : X.stack = X.env :: X.outer) (hf : X.env.frame = some X.env.locals) (hN : X.N.Nodup) (hi : X.N[i]? = some n) (hln : X.env.kindOf n = some .local) (hc1 : Names X x1 c1) (hc2 : Names X x2 c2) (hc3 : Names X x3 c3)
    (hb : ∀ (W : WX) (pn : List (Addr × Obj)) (xe : Value → Shared → Prop), Takes
        (X.tr pn xe) W → PassesOwn (model X.prog X.w) X.A X.env xe → PSs (X.tr pn xe) body (tb W))
    (hsu : ∀ (a : Addr) (oe : Obj) (cls : Value) (d : Option Addr) (pn : List (Addr × Obj)),
        Zc cls d oe → (∃ vs, oe.data = .fields vs) → PSs (X.suite a ((a, oe) :: pn)) (b₀ :: suite) (ts a cls d)) :
    PS X (.Try body [.ExceptHandler (some (.Tuple [.Name x1 p1, .Name x2 p2, .Name x3 p3] kk tpos)) (some n) (b₀ :: suite) pos'] [] [] pos) (fun D σ H => tb (wAs3 X.K [c1, c2, c3] i ts D) D σ H) := by
  refine ⟨fun pins s σ H D Iv h => ?_⟩
  have okA := Iv.ok
  have frA : X.A.frames = some (X.env :: X.outer) := by rw [okA.frames, hs]
  have hloc : Loc X.env.scope
      n := .inl hln
  refine wpAny_Try_except ?_
  refine wpAny_mono ((hb (wAs3 X.K [c1, c2, c3] i ts D) (X.pn ++ pins) (fun e s₁ => wpAny (model X.prog X.w) X.A (noteFrame e X.env) (fun _ s₂ => wpAny (model X.prog X.w) X.A (setFlight e none) (fun _ s₃ =>
    wpAny (model X.prog X.w) X.A (handleBy e X.env [.ExceptHandler (some (.Tuple [.Name x1 p1, .Name x2 p2, .Name x3 p3] kk tpos)) (some n) (b₀ :: suite) pos']) (SP X pins D) X.xe s₃) X.xe s₂) X.xe s₁) (fun u s' xA => ?_) PassesOwn.looking).run [] s σ H D (Iv.toTry _) h) (fun f s1 hsp => ?_) (fun e s1 he => he)
  · -- the catch
    obtain ⟨a, B, sI, pins', σ', H', cls, d, rfl, J', nbA, up, skA, na, os, ag, hb1, hyes⟩ := xA
    have Jv : Inv X pins σ' H' sI := J'.ofTry okA
    have sky' : Sky B (X.env :: X.outer) a (Zc cls d) X.env.locals s'.heap := by rw [← hs]; exact skA
    show wpAny (model X.prog X.w)
        X.A (noteFrame (.ref a) X.env) _ _ _
    refine Sky.land Zc.steady frA hf sky' fun hpA flA upA => ?_
    have Jv3 : Inv X pins σ' H' { s' with heap := hpA } := Jv.landed nbA flA.1 (up.trans upA) os ag
    obtain ⟨oA, vA, eA, zA, dA⟩ := flA.there
    have notFr : ∀ {h : Heap} {o : Obj} {vs : Array Value}, h.FunFrames B (X.env :: X.outer)
        → h.get? a = some o → o.data = .fields vs → a ∉ frs (X.env :: X.outer) := fun {h o vs} ff e dd hm => by
      obtain ⟨_, o', e',
          hnf⟩ := ff.mem hm
      rw [e] at e'; cases e'
      exact hnf _ dd
    have notR := notFr flA.2.2.1 eA dA
    have notL : a ≠ X.env.locals := fun z => notR (List.mem_filterMap.mpr ⟨X.env, List.mem_cons_self, by rw [hf, z]⟩)
    have notF : a ∉ X.fs := fun hm => by
      obtain ⟨e, he, q⟩ :=
          List.mem_filterMap.mp hm
      exact notR (List.mem_filterMap.mpr ⟨e, List.mem_cons_of_mem _ he, q⟩)
    have SvA := Jv3.suite eA dA na notL notF
    refine wpAny_handleBy_cons (codeAny_handlers_test
        ?_) (by intro q; cases q)
    have LT : PySem.W.Looks (model X.prog X.w) hpA (typeOf (.ref a)) cls := fun A Q E s k q => wpAny_typeOf_ref (k _ _ eA) (by rw [zA.1]; exact q)
    have test : ∀ {x : Str} {c : Value} {np : Pos} {s1 : Shared} (hc : Names X x c) (I1 : Inv (X.suite a ((a, oA) :: (X.pn ++ pins))) [] σ' H' s1) {Q : Value → Shared → Prop} {E : Value → Shared → Prop}, Q c s1 → wpAny (model X.prog X.w) (X.A.mark (some (.ref a))) (eval (.Name x np) X.env) Q E s1 := by
      intro x c np s1 hc I1 Q E q
      obtain ⟨hg, hdbg, hm
          | ⟨hm, hv, hnn⟩⟩ := hc
      · exact ld_glob (X := X.suite a ((a, oA) :: (X.pn ++ pins))) I1 hg hm q hdbg
      · exact ld_blt (X := X.suite a ((a, oA) :: (X.pn ++ pins))) I1 hg hm hv q hnn hdbg
    refine wpAny_Tuple ?_
    refine wpAny_items_cons (test hc1 SvA ?_)
    refine wpAny_items_cons (test hc2 SvA ?_)
    refine wpAny_items_cons (test hc3 SvA ?_)
    refine wpAny_items_nil ⟨(by show 3 ≤ sizeLine; decide), ?_⟩
    have kp : ∀ q o, hpA.get? q = some o → (hpA.push { cls := .type "tuple", data := .seq [c1, c2, c3].toArray }).get? q = some o := fun _ _ z => Heap.get?_push_of_some _ z
    refine (PySem.W.exm_tup3 (Jv3.kIn.keeps kp) (LT.keeps kp) (Heap.get?_push_size hpA rfl) hb1).here ?_
    have flA := fly_keeps flA kp
    have upA := upA.trans (Heap.UpToSlots.of_keeps kp)
    refine codeAny_handlers_suite_as
        ?_
    refine HandSPX.lands_againZ flA fun hpB flB upB => ?_
    have Jv4 : Inv X pins σ' H' { s' with heap := hpB } := Jv.landed nbA flB.1 ((up.trans upA).trans upB) os ag
    obtain ⟨oB, vB, eB, zB, dB⟩ := flB.there
    have SvB := Jv4.suite eB dB na notL notF
    refine store_ok (X := X.suite a ((a, oB) :: (X.pn ++ pins))) (v := .ref a) SvB hN hi hloc rfl (fun s5 SvC => ?_) (.inr hln)
    refine wpAny_mono ((hsu a oB cls d (X.pn ++ pins) zB ⟨_, dB⟩).run [] s5 _ H' _ SvC (hyes a na)) (fun f s6 hsp => ?_) (fun _ _ z => False.elim z)
    have end_ : ∀ {σ6 : L2.St} {H6 : Hp} {Q : Shared → Prop}, Inv (X.suite a ((a, oB) :: (X.pn ++ pins))) [] σ6 H6 s6 → (∀ s7, Inv X pins (σ6.set i none) H6 s7 → Q s7) →
        wpAny (model X.prog X.w) X.A (do bindName X.env n .none; unbindBehindTheSuite X.env n pos') (fun _ s7 => Q s7) X.xe s6 := fun {σ6 H6 Q} SvD hq => gone_ok (SvD.unsuite okA) hN hi hln hq
    cases f with
    | next =>
      obtain ⟨σ6, H6, SvD, q6⟩ := hsp
      exact end_ SvD fun s7 J7 => ⟨_, _, J7, q6⟩
    | brk =>
      obtain ⟨σ6, H6, SvD, q6⟩ := hsp
      exact end_ SvD fun s7 J7 => ⟨_, _, J7, q6⟩
    | cont =>
      obtain ⟨σ6, H6, SvD, q6⟩ := hsp
      exact end_ SvD fun s7 J7 => ⟨_, _, J7, q6⟩
    | ret u =>
      obtain ⟨v6, σ6, H6, SvD, r6, q6⟩ := hsp
      exact end_ SvD fun s7 J7 => ⟨_, _, _, J7, r6, q6⟩
  · cases f with
    | next =>
      obtain ⟨σ', H', J', q⟩ := hsp
      exact wpAny_execs_nil ⟨σ', H', J'.ofTry okA, q⟩
    | brk =>
      obtain ⟨σ', H', J', q⟩ := hsp
      exact ⟨σ', H', J'.ofTry okA, q⟩
    | cont =>
      obtain ⟨σ', H', J', q⟩ := hsp
      exact ⟨σ', H', J'.ofTry okA, q⟩
    | ret u =>
      obtain ⟨v, σ', H',
          J', r, q⟩ := hsp
      exact ⟨v, σ', H', J'.ofTry okA, r, q⟩
end
end Tr3
/-! own methods that raise nothing, called in an except suite -/
namespace DuX
open PySem PySem.Spec
open PyProof.Rows L2 L2H
/-- what a def promises while an exception is handled, its object p aside -/
def FnQ (P : Program) (w : World) (K : PySem.W.Frag) (mg : Str → Option Value) (base : Heap) (k : Nat) (f : Addr) (sp : Sp) : Prop :=
  ∀ (A : Around) (outer : List Env) (s : Shared) (H : Hp) (us : List Value) (vs : List V) (Q : VK) (p : Addr × Obj), RoomH k A → PinOk outer H s p → Env0 P w K mg base A outer s H → Vals vs us → sp vs H Q E0 →
    codeAny (model P w) A (.call (.ref f) ⟨us, []⟩) (CR CX0 outer P w H s Q E0) s
section
variable {P : Program} {w : World} {K : PySem.W.Frag} {mg : Str → Option Value} {base : Heap}
theorem fnQ_of {k : Nat} {f : Addr} {name qual : Str} {st : Stmt} {fd : FuncData} {N ps : List Str} {sp : Sp} (F : Fun K name qual st f fd) (S : FnScope N ps (defScope st)) (hb : L2.Binds K fd ps [])
    (len : ∀ vs H Q E, sp vs H Q E → vs.length = ps.length)
    (body : ∀ (cdv : Value) (A : Around) (outer : List Env) (s : Shared) (H : Hp) (vs : List V) (Q : VK) (p : Addr × Obj), RoomH k (A.deeper (envOfC qual (defScope st) s.heap.objs.size f cdv)) → sp vs H Q E0 →
      ∃ t, PSs (cxH CX0 P w K mg base N qual (defScope st) f cdv A outer s H E0 p) (defBody st) t ∧ t { nx := fun _ H' => Q .non H', rt := Q } (L2.start N vs) H) : FnQ P w K mg base (k + 1) f sp := by
  intro A outer s H us vs Q p hr hpin e0 r hsp
  obtain ⟨oc, od, kV, doc, pm, an, cdv, ct, osl, rfl, lk, hcd⟩ := F.ex
  have hl := len _ _ _ _ hsp
  have hlu : us.length = ps.length := by rw [← r.length]; exact hl
  have KX : K.In s.heap := e0.mod.kin.keeps fun b o e => (e0.bs b o e).1
  have lim : s.heap.NoLimit := e0.mod.nolimit.keeps fun b o e => (e0.bs b o e).1
  have bb := hb s us KX (by rw [List.append_nil]; exact hlu)
  rw [List.append_nil] at bb
  have kinds : ∀ y ∈ ps.zip us, (defScope st).names.lookup y.1 = some .local ∨ ((defScope st).names.lookup y.1 = some .cell ∧ ((cellsFrom (s.heap.objs.size + 1) (defScope st).names []).lookup y.1).isSome = true) := fun ⟨n, v⟩ hy => by
    rcases S.par n (List.of_mem_zip hy).1 with q | q
    · exact .inl q
    · exact .inr ⟨q, PySem.W.cellsFrom_some _ _ _
          (.inl q)⟩
  refine codeAny_call_function hr.depth (KX _ _ lk) rfl S.co S.gen rfl
      (PySem.W.codeRec_of KX hcd) (bb _ _ _ _ ?_)
  refine wpAny_newFunctionEnv_cells S.kind kinds fun env he s1 x => ?_
  subst he
  refine ⟨lim.keeps
      x.toInCall.keep, codeAny_func ?_⟩
  obtain ⟨t, ht, hq⟩ := body cdv A outer s H vs Q p (hr.deeper _) hsp
  have I := inv_startH (CX := CX0) (E := E0) S hpin e0 hl r x
  refine wpAny_mono (ht.run [] s1 (L2.start N vs) H _ I hq) (fun fl s2 hs => ?_)
      fun e s2 hs => hs
  have fin : ∀ {σ' : L2.St} {H' : Hp} {v : V} {u : Value}, Inv (cxH CX0 P w K mg base N qual (defScope st) f cdv A outer s H E0 p) [] σ' H' s2 → RelV v u → Q v H' → CE outer P w H s Q u s2 :=
    fun {σ' H' v u} J rv q => ⟨v, H', J.os, J.bare, J.base,
        J.hok, rv, q⟩
  cases fl with
  | ret u =>
    obtain ⟨v, σ', H',
        J, rv, q⟩ := hs
    exact fin J rv q
  | next =>
    obtain ⟨σ', H',
        J, q⟩ := hs
    exact fin (v := V.non)
        (u := Value.none) J rfl q
  | brk =>
    obtain ⟨_, _, _,
        q⟩ := hs
    exact q.elim
  | cont =>
    obtain ⟨_, _, _,
        q⟩ := hs
    exact q.elim
end
section
variable {X : Cx} {k : Nat} {g C : Addr} {sp : Sp} {pins : List (Addr × Obj)} {σ : L2.St} {H : Hp} {s : Shared} {p : Addr × Obj}
theorem run_belowQ {A : Around} {us : List Value} {vs : List V} {Q : VK} (F : FnQ X.prog X.w X.K X.mg X.base k g sp) (hr : RoomH k A) (hf : A.frames = X.A.frames) (hp : p ∈ X.pn) (Iv : Inv X pins σ H s) (r : Vals vs us) (hyp : sp vs H Q E0) :
    wpAny (model X.prog X.w) A (call (.ref g) us) (EP X pins σ Q) X.xe s := by
  have e0 : Env0 X.prog X.w X.K X.mg X.base A X.stack s H := by
    obtain ⟨a1, a2, a3, a4, a5, a6, a7, a8⟩ := Iv.env0
    exact ⟨by rw [hf]; exact a1, a2, a3, a4, a5, a6, a7, a8⟩
  have P1 := Iv.pin p (List.mem_append_left _ hp)
  have pin : PinOk X.stack H s p := ⟨P1.1, P1.2.1, fun hm => (List.mem_cons.mp (Iv.stkSub p.1 hm)).elim P1.2.2.1 P1.2.2.2.1,
      P1.2.2.2.2⟩
  refine wpAny_call (codeAny_mono (F A X.stack s H us vs Q p hr pin e0 r hyp) fun res s1 hq => ?_)
  match res, hq with
  | .error e, hq => exact hq.elim
  | .ok (.ret u), hq => exact Iv.after hq
  | .ok .next, hq => exact False.elim hq
  | .ok .brk, hq => exact False.elim hq
  | .ok .cont, hq => exact False.elim hq
theorem roomH_in1 {k : Nat} {A : Around} (r : RoomH (k + 1) A) : RoomH k A.in1 :=
  ⟨by have := r.dp; show A.depth + 3 * k + 5 < _; omega, by have := r.un; show A.units + 1 + 16 * k + 200 < _; omega⟩
/-- len(o) there -/
theorem call_lenQ (m : OwnM X.K C "__len__" g) (F : FnQ X.prog X.w X.K X.mg X.base k g sp) (hr : RoomH (k + 1) X.A) (hp : p ∈ X.pn) :
    CallR X (.builtin "len") (fun xs H Q => ∃ a dx fs, xs = [.ref a] ∧ H a = some (.ins C dx fs) ∧ sp [.ref a] H (fun v H' => ∃ n : Nat, v = .int n ∧ n < 2 ^ 62 ∧ Q (.int n) H') E0) := by
  intro pins s σ H xs us Q Iv r hyp
  obtain ⟨a, dx, fs, rfl, atA, cont⟩ := hyp
  rw [Vals.ref1 r]
  obtain ⟨ox, od, J⟩ := inst_of Iv atA
  obtain ⟨mm, hF⟩ := Iv.fr
  refine PySem.W.len_K hF Iv.ok.mod.kin J m.at_ m.fn ?_
  refine wpAny_mono (run_belowQ F (roomH_in1 hr) rfl hp Iv (vs := [V.ref a]) (.cons rfl .nil) cont) (fun u s1 hu => ?_) fun _ _ e => e
  obtain ⟨v, H1, Iv1, rv, n, rfl, hn, q1⟩ := hu
  obtain ⟨t, rfl⟩ := rv
  exact ⟨⟨by omega, by omega⟩, .int n, H1, Iv1.tok _, ⟨_, rfl⟩, q1⟩
/-- repr(o) there -/
theorem call_reprQ (m : OwnM X.K C "__repr__" g) (F : FnQ X.prog X.w X.K X.mg X.base k g sp) (hr : RoomH (k + 1) X.A) (hp : p ∈ X.pn) :
    CallR X (.builtin "repr") (fun xs H Q => ∃ a dx fs, xs = [.ref a] ∧ H a = some (.ins C dx fs) ∧ sp [.ref a] H (fun v H' => ∃ z, v = .str z ∧ Q (.str z) H') E0) := by
  intro pins s σ H xs us Q Iv r hyp
  obtain ⟨a, dx, fs, rfl, atA, cont⟩ := hyp
  rw [Vals.ref1 r]
  obtain ⟨ox, od, J⟩ := inst_of Iv atA
  obtain ⟨mm, hF⟩ := Iv.fr
  refine PySem.W.repr_K (by have := hr.un; show X.A.units + 1 < cLine; omega) hF Iv.ok.mod.kin J m.at_ m.fn ?_
  refine wpAny_mono (run_belowQ F (roomH_in1 hr) rfl hp Iv (vs := [V.ref a]) (.cons rfl .nil) cont) (fun u s1 hu => ?_) fun _ _ e => e
  obtain ⟨v, H1, Iv1, rv, z, rfl, q1⟩ := hu
  obtain ⟨t, rfl⟩ := rv
  exact ⟨.str z, H1, Iv1, ⟨t, rfl⟩, q1⟩
end
end DuX
/-! repr of data, and of an empty dict -/
namespace RpD
open PySem PySem.Spec
open PyProof.Rows L2
def ShD (K : PySem.W.Frag) (H : Hp) (v : V) (d : PyData) : Prop := (Dp K H v d ∧ Shows d) ∨ ∃ a, v = .ref a ∧ H a = some (.dK []) ∧ d = .dict []
section
variable {X : Cx}
theorem call_reprE (hg : X.A.guards = some []) (hu : X.A.units + 100 < cLine) : CallR X (.builtin "repr") (fun xs H Q => ∃ x d, xs = [x] ∧ ShD X.K H x d ∧ Q (.str d.shown) H) := by
  intro pins s σ H xs us Q Iv r h
  obtain ⟨x, d, rfl, hd, q⟩ := h
  rcases hd with ⟨hd, S⟩ | ⟨a, rfl, hd, rfl⟩
  · exact call_reprD hg hu pins s σ H [x] us Q Iv r ⟨x, d, rfl, hd, S, q⟩
  · cases r with
    | cons r rr =>
      cases rr
      cases r
      obtain ⟨hl, hs, vs, kv, o, es, ep, ho, hx, e1, _, e2, _⟩ := Iv.hok a _ hd
      cases kv
      have e3 : es.toList = [] := by
        cases h : es.toList with
        | nil => rfl
        | cons x r =>
          rw [h] at e2
          cases e2
      have rd : Reads s.heap (.ref a) (.dict []) (a :: [] ++ []) := .dict ho hx.1 e1 (by rw [e3]; exact .nil) (by rw [e3]; exact .nil)
      have ns : sysModules ∉ (a :: [] ++ []) := fun m => by
        have e : sysModules = a := by simpa using m
        rw [← e] at hs
        simp at hs
      exact repr_of_reads' rd rfl (fun _ => ns) hg (by show X.A.units + (PyData.depth (.dict []) + 1) < cLine; have : PyData.depth (.dict []) ≤ 5 := (by decide); omega) (fun _ _ e => e) (fun h' t tk kp => ⟨.str _, H, Iv.kept kp, ⟨t, rfl⟩, q⟩) (by rw [sizeLine_eq]; decide +kernel)
theorem ShD.same {K : PySem.W.Frag} {H H' : Hp} {v : V} {d : PyData} (dp : Dp K H v d → Dp K H' v d) (s : Same H H') (h : ShD K H v d) : ShD K H' v d := by
  rcases h with ⟨a, b⟩ | ⟨a, e, h, e2⟩
  · exact .inl ⟨dp a, b⟩
  · exact .inr ⟨a, e, s _ _ h, e2⟩
end
end RpD

namespace K1
open PySem PySem.Spec
open PyProof.Rows L2 L2H EnT StX SmX TxS DuX XdI Tr3 CnB ClX
/-! ### from heap to heap, the pool and the tables aside -/
structure RX (p : Addr) (H H' : Hp) : Prop where
  pool : PoolAt H' p
  keep : ∀ b o, b ≠ p → H b = some o → (∀ ps, o ≠ .tbl ps) → H' b = some o
/-- a move: all but the pool and the tables stays, the tables are tables -/
structure Mv (p : Addr) (Tb : List (Addr × Str)) (H H' : Hp) : Prop where
  rx : RX p H H'
  tabs : LamX.Tabs Tb H'
theorem Mv.trans {p : Addr} {Tb : List (Addr × Str)} {H H1 H2 : Hp} (a : Mv p Tb H H1) (b : Mv p Tb H1 H2) : Mv p Tb H H2 := ⟨⟨b.rx.pool, fun c o n e t => b.rx.keep c o n (a.rx.keep c o n e t) t⟩, b.tabs⟩
theorem Mv.refl {p : Addr} {Tb : List (Addr × Str)} {H : Hp} (hp : PoolAt H p) (t : LamX.Tabs Tb H) : Mv p Tb H H := ⟨⟨hp, fun _ _ _ e _ => e⟩, t⟩
theorem PoolAt.same {p : Addr} {H H' : Hp} (s : Same H H') (h : PoolAt H p) : PoolAt H' p := by
  obtain ⟨a, b, c, e⟩ := h
  exact ⟨a, b, c, s _ _ e⟩
theorem Mv.same {p : Addr} {Tb : List (Addr × Str)} {H H' : Hp} (s : Same H H') (hp : PoolAt H p) (t : LamX.Tabs Tb H) : Mv p Tb H H' := ⟨⟨hp.same s, fun b o _ e _ => s b o e⟩, t.ext s⟩
theorem tabs_ext {p : Addr} {Tb : List (Addr × Str)} {H H' : Hp} (x : Ext p H H') (hp : PoolAt H p) (t : LamX.Tabs Tb H) : LamX.Tabs Tb H' := fun q hq => by
  obtain ⟨ps, h1, h2, h3⟩ := t q hq
  obtain ⟨a, b, c, e⟩ := hp
  refine ⟨ps, x.at (fun z => by rw [z, e] at h1; cases h1) h1, h2, fun pos cv hc => ?_⟩
  obtain ⟨d, e1, e2⟩ := h3 pos cv hc
  exact ⟨d, e1, x.at (fun z => by rw [z, e] at e2; unfold LamX.CodeO at e2; cases e2) e2⟩
theorem Mv.ext {p : Addr} {Tb : List (Addr × Str)} {H H' : Hp} (x : Ext p H H') (hp : PoolAt H p) (t : LamX.Tabs Tb H) : Mv p Tb H H' := ⟨⟨x.pool, fun b o n e _ => x.at n e⟩, tabs_ext x hp t⟩
theorem Mv.lam {p : Addr} {Tb : List (Addr × Str)} {H H' : Hp} (x : LamX.ExtN H H') (hp : PoolAt H p) (t : LamX.Tabs Tb H') : Mv p Tb H H' := by
  obtain ⟨a, b, c, e⟩ := hp
  exact ⟨⟨⟨a, b, c, x _ _ e (fun ps z => by cases z)⟩, fun d o _ h n => x d o h n⟩, t⟩
theorem Mv.at {p q : Addr} {Tb : List (Addr × Str)} {H H' : Hp} {o : HO} (m : Mv p Tb H H') (hp : PoolAt H p) (h : H q = some o) (n : ∀ x y z : Int, o ≠ .lst [.int x, .int y, .int z]) (nt : ∀ ps, o ≠ .tbl ps) : H' q = some o := by
  refine m.rx.keep q o (fun e => ?_) h nt
  obtain ⟨a, b, c, e2⟩ := hp
  rw [e, e2] at h
  exact n a b c (Option.some.inj h).symm
theorem strs_nopool {zs : List Str} : ∀ x y z : Int, (HO.lst (zs.map V.str)) ≠ .lst [.int x, .int y, .int z] := fun x y z e => by
  have q := HO.lst.inj e
  cases zs with
  | nil => cases q
  | cons a r => cases q
theorem Mv.strs {p q : Addr} {Tb : List (Addr × Str)} {H H' : Hp} {zs : List Str} (m : Mv p Tb H H') (hp : PoolAt H p) (h : H q = some (.lst (zs.map V.str))) : H' q = some (.lst (zs.map V.str)) := m.at hp h strs_nopool (fun _ e => by cases e)
theorem Mv.mem {C p q : Addr} {Tb : List (Addr × Str)} {H H' : Hp} {zs : List Str} (m : Mv p Tb H H') (hp : PoolAt H p) (h : MemAt C H q zs) : MemAt C H' q zs := by
  obtain ⟨⟨dx, t, d, h1, h2, h3⟩, a, b, c, e⟩ := h
  exact ⟨⟨dx, t, d, m.at hp h1 (fun _ _ _ e => by cases e) (fun _ e => by cases e), m.at hp h2 (fun _ _ _ e => by cases e) (fun _ e => by cases e), m.at hp h3 (fun _ _ _ e => by cases e) (fun _ e => by cases e)⟩, a, b, c, e⟩
theorem Mv.vok {p : Addr} {Tb : List (Addr × Str)} {H H' : Hp} {v : V} (m : Mv p Tb H H') (n : v ≠ .ref p) (h : VOk H v) : VOk H' v := by
  refine h.elim .inl fun g => .inr ?_
  have np : ∀ {a : Addr}, v = .ref a → a ≠ p := fun e z => n (by rw [e, z])
  cases g with
  | non => exact .non
  | bl b => exact .bl b
  | int i => exact .int i
  | lst e => exact .lst (m.rx.keep _ _ (np rfl) e (fun _ e => by cases e))
  | tup e => exact .tup (m.rx.keep _ _ (np rfl) e (fun _ e => by cases e))
  | dK e => exact .dK (m.rx.keep _ _ (np rfl) e (fun _ e => by cases e))
theorem refs_nopool {as : List Addr} : ∀ x y z : Int, (HO.lst (as.map V.ref)) ≠ .lst [.int x, .int y, .int z] := fun x y z e => by
  have q := HO.lst.inj e
  cases as with
  | nil => cases q
  | cons a r => cases q
theorem tabs_upd {Tb : List (Addr × Str)} {H : Hp} {t : Addr} {xs : List V} {o : HO} (h : H t = some (.lst xs)) (T : LamX.Tabs Tb H) : LamX.Tabs Tb (upd H t o) := fun q hq => by
  obtain ⟨ps, h1, h2, h3⟩ := T q hq
  refine ⟨ps, by rw [upd_ne (fun z => by rw [z, h] at h1; cases h1)]; exact h1, h2, fun pos cv hc => ?_⟩
  obtain ⟨d, e1, e2⟩ := h3 pos cv hc
  exact ⟨d, e1, by rw [upd_ne (fun z => by rw [z, h] at e2; unfold LamX.CodeO at e2; cases e2)]; exact e2⟩
/-- a promise where no text is being made around -/
def FnG (P : Program) (w : World) (K : PySem.W.Frag) (mg : Str → Option Value) (base : Heap) (CX : CXT) (k : Nat) (f : Addr) (sp : Sp) : Prop :=
  ∀ (A : Around) (outer : List Env) (s : Shared) (H : Hp) (us : List Value) (vs : List V) (Q : VK) (E : XK), A.guards = some [] → Room k A → Env0 P w K mg base A outer s H → Vals vs us → sp vs H Q E →
    codeAny (model P w) A (.call (.ref
        f) ⟨us, []⟩) (CR CX outer P w H s Q E) s
/-- the def of the law's right, its code object at c -/
structure FunC (K : PySem.W.Frag) (x qual : Str) (st : Stmt) (f c : Addr) : Prop where
  ex : ∃ (oc : Value) (od : Option Addr) (kV doc pm : Value) (an : Option Addr) (ct : Value) (osl : Array (Option Value)), K.lookup f = some ⟨oc, od, .func (PySem.W.fnOf x qual (defArgs st) (defBody st) (defScope st) .none kV doc pm an (.ref c) ct), osl⟩ ∧ PySem.W.codeIn K (.ref c) qual = true
section
variable {X : Cx} {k : Nat} {x : Str} {f : Addr} {sp : Sp}
/-- x(e, ..), where no text is being made around -/
theorem pe_callG {e : Expr} {es : List Expr} {t : TA} {p pos : Pos} (F : FnG X.prog X.w X.K X.mg X.base CX0 k f sp) (hgd : X.A.guards = some []) (hr : Room k X.A) (hg : Gl X x) (hm : X.mg x = some (.ref f)) (hk : PySem.W.keepIn X.K (.ref f) = true) (ha : PA X (e :: es) t)
    (hd : (x == ("__debug__" : Str)) = false := by decide) (hst : starEach (e :: es) X.env = (false, eval e X.env) :: starEach es X.env := by rfl) (hpl : (backTo pos (starEach es X.env)).any (·.1) = false := by rfl) :
    PE X (.Call (.Name x p) (e :: es) [] pos) (tCall sp [] E0 t) := by
  refine ⟨fun pins
      s σ H Q I h => ?_⟩
  refine wpAny_Call_Name_kw
      (ld_glob I hg hm ?_ hd)
  refine PySem.W.callWith_K (h₀ := X.base) I.ok.mod.kin hk (thn (ha.run pos pins s σ H _ I h) fun us s1 ⟨vs, H1, I1, rv, q⟩ => ⟨I1.kIn, ?_⟩) hst hpl
  have q : sp vs H1 Q E0 := by
    have q : sp (vs ++ []) H1 Q E0 := q
    rw [List.append_nil] at q
    exact q
  refine wpAny_call (codeAny_mono (F X.A X.stack s1 H1 us vs Q E0 hgd hr I1.env0 rv q) fun r s' hq => ?_)
  cases r with
  | error e => exact hq.elim
  | ok fl =>
    cases fl with
    | ret u => exact I1.after hq
    | next => exact False.elim hq
    | brk => exact False.elim hq
    | cont => exact False.elim hq
end
def tysB : List String := ["NoneType", "bool", "int", "str", "list", "tuple", "dict"]
theorem vok_tys {K : PySem.W.Frag} {H : Hp} {v : V} (h : VOk H v) : ∃ t, t ∈ tysB ∧ TyX K H v (.type t) := h.ty
def StepQ (D : Addr) (H : Hp) (out : Nat → List V) (i : Nat) : VK := fun y H4 => ∃ acc, H4 D = some (.lst acc) ∧ acc.length < sizeLine ∧ upd H4 D (.lst (acc ++ [y])) = upd H D (.lst (out (i + 1)))
theorem step_ok {D : Addr} {H : Hp} {out : Nat → List V} {i : Nat} {y : V} (hl : (out i).length < sizeLine) (e : out (i + 1) = out i ++ [y]) : StepQ D H out i y (upd H D (.lst (out i))) := ⟨_, upd_same, hl, by rw [upd_upd, e]⟩
theorem step_no {D : Addr} {H : Hp} {out : Nat → List V} {i : Nat} (e : out (i + 1) = out i) : upd H D (.lst (out i)) = upd H D (.lst (out (i + 1))) := by rw [e]
theorem lc_pure {K : PySem.W.Frag} {a : Addr} {xs : List V} {g : TG} {tt : TT} {te : TE} {vs : List Nat} {σ : L2.St} {H : Hp} {D : Addr} {Qd : Hp → Prop} (out : Nat → List V) (src : ∀ H', Same H H' → SqL K H' a xs) (nD : H D = none) (h0 : out 0 = [])
    (hs : ∀ i x, xs[i]? = some x → Same H (upd H D (.lst (out i))) → g x (wipe σ vs) (upd H D (.lst (out i))) fun σ2 H2 => wipe σ2 vs = wipe σ vs ∧ tt σ2 H2 fun b H3 => if b = true then te σ2 H3 (StepQ D H out i) else H3 = upd H D (.lst (out (i + 1))))
    (hd : ∀ H', Same H H' → H' D = some (.lst (out xs.length)) → Qd H') :
    ∃ W : Nat → Nat → Hp → Prop, (∃ m, W 0 m (upd H D (.lst []))) ∧ ∀ i m H, W i m H →
      ((Itl K a).stop i H ∧ Qd H) ∨ ((Itl K a).go i H ∧ ∃ Nx : Hp → Prop, (∀ H', Nx H' → ∃ m', m' < m ∧ W (i + 1) m' H') ∧ ∀ x H', (Itl K a).yld i H x H' → g x (wipe σ vs) H' fun σ2 H2 => wipe σ2 vs = wipe σ vs ∧ tt σ2 H2 fun b H3 =>
        if b = true then te σ2 H3 fun y H4 => ∃ acc, H4 D = some (.lst acc) ∧ acc.length < sizeLine ∧ Nx (upd H4 D (.lst (acc ++ [y]))) else Nx H3) := by
  refine lc_list (K := K) (a := a) (xs := xs) (fun i H' => H' = upd H D (.lst (out i))) (by rw [h0]) (fun i H' hi e => ?_) (fun i x H' hx e => ?_) (fun H' e => ?_)
  · subst e
    exact src _ (same_upd nD)
  · subst e
    exact hs i x hx (same_upd nD)
  · subst e
    exact hd _ (same_upd nD) upd_same
theorem str_at {zs : List Str} {i : Nat} {x : V} (h : (zs.map V.str)[i]? = some x) : ∃ z, zs[i]? = some z ∧ x = V.str z := by
  rw [List.getElem?_map] at h
  obtain ⟨z, hz, e⟩ := Option.map_eq_some_iff.mp h
  exact ⟨z, hz, e.symm⟩
/-- the texts of zs that p tells, up to the i-th -/
def outF (zs : List Str) (p : Str → Bool) (i : Nat) : List V := ((zs.take i).filter p).map V.str
def outM (zs : List Str) (e : Str → V) (i : Nat) : List V := (zs.take i).map e
theorem outF_yes {zs : List Str} {p : Str → Bool} {i : Nat} {z : Str} (h : zs[i]? = some z) (hp : p z = true) : outF zs p (i + 1) = outF zs p i ++ [V.str z] := by
  unfold outF
  rw [filt_succ h, if_pos hp, List.map_append]
  rfl
theorem outF_no {zs : List Str} {p : Str → Bool} {i : Nat} {z : Str} (h : zs[i]? = some z) (hp : p z = false) : outF zs p (i + 1) = outF zs p i := by
  unfold outF
  rw [filt_succ h, hp, if_neg (by decide), List.append_nil]
theorem outM_succ {zs : List Str} {e : Str → V} {i : Nat} {z : Str} (h : zs[i]? = some z) : outM zs e (i + 1) = outM zs e i ++ [e z] := map_succ h
theorem outF_len {zs : List Str} {p : Str → Bool} {i : Nat} (h : zs.length ≤ 1000) : (outF zs p i).length < sizeLine := by
  unfold outF
  have := List.length_filter_le p (zs.take i)
  rw [List.length_take] at this
  rw [List.length_map, sizeLine_eq]
  omega
theorem outM_len {zs : List Str} {e : Str → V} {i : Nat} (h : zs.length ≤ 1000) : (outM zs e i).length < sizeLine := by
  unfold outM
  rw [List.length_map, List.length_take, sizeLine_eq]
  omega
theorem outF_end {zs : List Str} {p : Str → Bool} {x : Nat} (h : x = zs.length) : outF zs p x = (zs.filter p).map V.str := by
  unfold outF
  rw [h, List.take_length]
theorem outM_end {zs : List Str} {e : Str → V} {x : Nat} (h : x = zs.length) : outM zs e x = zs.map e := by
  unfold outM
  rw [h, List.take_length]
theorem strs_flat (zs : List Str) : (zs.map V.str).all flatV = true := by simp [flatV]
theorem inV_mem (z : Str) : ∀ ys : List Str, inV (.str z) (ys.map V.str) = decide (z ∈ ys)
  | [] => rfl
  | y :: r => by
    have ih := inV_mem z r
    unfold inV at ih ⊢
    rw [List.map_cons, List.any_cons, ih]
    by_cases h : y = z
    · subst h
      rw [decide_eq_true List.mem_cons_self]
      simp [eqV]
    · have e : eqV (V.str y) (V.str z) = false := by
        show (y == z) = false
        exact beq_eq_false_iff_ne.mpr h
      rw [e, Bool.false_or]
      by_cases m : z ∈ r
      · rw [decide_eq_true m, decide_eq_true (List.mem_cons_of_mem _ m)]
      · rw [decide_eq_false m, decide_eq_false fun q => by
          rcases List.mem_cons.mp q with q | q
          · exact h q.symm
          · exact m q]
def rListOf (K : PySem.W.Frag) : List V → Hp → VK → Prop := fun xs H Q => ∃ p ys, xs = [.ref p] ∧ (SqL K H p ys ∨ SqT K H p ys) ∧ ∀ l, H l = none → Q (.ref l) (upd H l (.lst ys))
theorem call_listK {X : Cx} : CallR X (.type "list") (rListOf X.K) := call_list_of
def lsD (Y : List (List Str)) : List PyData := Y.map fun y => .list (strD y)
structure Lists (H : Hp) (ds : List Addr) (Y : List (List Str)) : Prop where
  len : ds.length = Y.length
  at_ : ∀ (j : Nat) (d : Addr) (y : List Str), ds[j]? = some d → Y[j]? = some y → H d = some (.lst (y.map V.str))
theorem Lists.same {H H' : Hp} {ds : List Addr} {Y : List (List Str)} (s : Same H H') (h : Lists H ds Y) : Lists H' ds Y := ⟨h.len, fun j d y a b => s _ _ (h.at_ j d y a b)⟩
theorem Lists.nil {H : Hp} : Lists H [] [] := ⟨rfl, fun j d y a => by cases a⟩
theorem Lists.snoc {H : Hp} {ds : List Addr} {Y : List (List Str)} {d : Addr} {y : List Str} (h : Lists H ds Y) (hd : H d = some (.lst (y.map V.str))) : Lists H (ds ++ [d]) (Y ++ [y]) := by
  refine ⟨by rw [List.length_append, List.length_append, h.len]; rfl, fun j d' y' a b => ?_⟩
  have l := h.len
  by_cases hj : j < ds.length
  · rw [List.getElem?_append_left hj] at a
    rw [List.getElem?_append_left (by omega)] at b
    exact h.at_ j d' y' a b
  · rw [List.getElem?_append_right (by omega)] at a
    rw [List.getElem?_append_right (by omega)] at b
    have e : j - ds.length = 0 := by
      have := (List.getElem?_eq_some_iff.mp a).1
      simp at this
      omega
    rw [e] at a
    rw [← l, e] at b
    cases a
    cases b
    exact hd
theorem Lists.dp {K : PySem.W.Frag} {H : Hp} : ∀ {ds : List Addr} {Y : List (List Str)}, Lists H ds Y → DpAll K H (ds.map V.ref) (lsD Y)
  | [], [], _ => .nil
  | [], y :: Y, h => by have := h.len; cases this
  | d :: ds, [], h => by have := h.len; cases this
  | d :: ds, y :: Y, h => .cons (.lst (SqL.of (h.at_ 0 d y rfl rfl)) (dpAll_str y)) (Lists.dp (ds := ds) (Y := Y) ⟨by have := h.len; simpa using this, fun j d' y' a b => h.at_ (j + 1) d' y' a b⟩)
theorem lsD_lay : ∀ {Y : List (List Str)}, (∀ y ∈ Y, OkS y) → PyData.canLayAll0 (lsD Y) = true
  | [], _ => by simp [lsD, PyData.canLayAll0]
  | y :: Y, h => by
    have h1 := lsD_lay (Y := Y) fun z hz => h z (List.mem_cons_of_mem _ hz)
    have h2 := strD_lay y (h y List.mem_cons_self)
    simp only [lsD] at h1
    simp [lsD, PyData.canLayAll0, PyData.canLay0, h1, h2]
theorem lsD_depth : ∀ Y : List (List Str), PyData.depthAll (lsD Y) ≤ 1
  | [] => by simp [lsD, PyData.depthAll]
  | y :: Y => by
    have h1 := lsD_depth Y
    have h2 := strD_depth y
    simp only [lsD] at h1
    simp only [lsD, List.map_cons, PyData.depthAll, PyData.depth, h2]
    omega
theorem lsD_shaped {Y : List (List Str)} (h : ∀ y ∈ Y, OkS y) : SeqAt.shaped (.list (lsD Y)) = true := by
  show (PyData.canLay0 (.list (lsD Y)) && decide (PyData.depth (.list (lsD Y)) ≤ 64)) = true
  rw [Bool.and_eq_true]
  refine ⟨by simp only [PyData.canLay0]; exact lsD_lay h, decide_eq_true ?_⟩
  simp only [PyData.depth]
  have := lsD_depth Y
  omega
theorem lsD_eqv {Y : List (List Str)} (h : ∀ y ∈ Y, OkS y) : PyData.eqv (.list (lsD Y)) (.list (lsD Y)) = true := SeqAt.eqv_refl _ (by simp only [PyData.canLay0]; exact lsD_lay h)
/-- Members at ps, of the names Y -/
structure Mems (C : Addr) (H : Hp) (ps : List Addr) (Y : List (List Str)) : Prop where
  len : ps.length = Y.length
  at_ : ∀ (j : Nat) (p : Addr) (y : List Str), ps[j]? = some p → Y[j]? = some y → MemAt C H p y
theorem Mems.same {C : Addr} {H H' : Hp} {ps : List Addr} {Y : List (List Str)} (s : Same H H') (h : Mems C H ps Y) : Mems C H' ps Y := ⟨h.len, fun j p y a b => (h.at_ j p y a b).same s⟩
theorem Mems.ok {C : Addr} {H : Hp} {ps : List Addr} {Y : List (List Str)} (h : Mems C H ps Y) : ∀ y ∈ Y, OkS y := fun y hy => by
  obtain ⟨j, hj, e⟩ := List.mem_iff_getElem.mp hy
  have l := h.len
  exact okS_names (h.at_ j (ps[j]'(by omega)) y (List.getElem?_eq_getElem _) (by rw [← e]; exact List.getElem?_eq_getElem _)).nm
theorem len_or {y zs ws : List Str} (nd : y.Nodup) (h : ∀ z, z ∈ y → z ∈ zs ∨ z ∈ ws) : y.length ≤ zs.length + ws.length := by
  have := len_sub (zs := zs ++ ws) nd fun z hz => List.mem_append.mpr (h z hz)
  rw [List.length_append] at this
  exact this
theorem pw_uniq {xs ys : List Str} (hx : xs.Pairwise NotLt) (hy : ys.Pairwise NotLt) (nx : xs.Nodup) (ny : ys.Nodup) (m : ∀ z, z ∈ xs ↔ z ∈ ys) : xs = ys :=
  List.Perm.eq_of_pairwise (le := NotLt) (fun a b _ _ p q => notLt_anti p q) hx hy ((List.perm_ext_iff_of_nodup nx ny).mpr m)
theorem lc_pureT {K : PySem.W.Frag} {a : Addr} {xs : List V} {g : TG} {tt : TT} {te : TE} {vs : List Nat} {σ : L2.St} {H : Hp} {D : Addr} {Qd : Hp → Prop} (out : Nat → List V) (src : ∀ H', Same H H' → SqT K H' a xs) (nD : H D = none) (h0 : out 0 = [])
    (hs : ∀ i x, xs[i]? = some x → Same H (upd H D (.lst (out i))) → g x (wipe σ vs) (upd H D (.lst (out i))) fun σ2 H2 => wipe σ2 vs = wipe σ vs ∧ tt σ2 H2 fun b H3 => if b = true then te σ2 H3 (StepQ D H out i) else H3 = upd H D (.lst (out (i + 1))))
    (hd : ∀ H', Same H H' → H' D = some (.lst (out xs.length)) → Qd H') :
    ∃ W : Nat → Nat → Hp → Prop, (∃ m, W 0 m (upd H D (.lst []))) ∧ ∀ i m H, W i m H →
      ((Itt K a).stop i H ∧ Qd H) ∨ ((Itt K a).go i H ∧ ∃ Nx : Hp → Prop, (∀ H', Nx H' → ∃ m', m' < m ∧ W (i + 1) m' H') ∧ ∀ x H', (Itt K a).yld i H x H' → g x (wipe σ vs) H' fun σ2 H2 => wipe σ2 vs = wipe σ vs ∧ tt σ2 H2 fun b H3 =>
        if b = true then te σ2 H3 fun y H4 => ∃ acc, H4 D = some (.lst acc) ∧ acc.length < sizeLine ∧ Nx (upd H4 D (.lst (acc ++ [y]))) else Nx H3) := by
  refine lc_tup (K := K) (a := a) (xs := xs) (fun i H' => H' = upd H D (.lst (out i))) (by rw [h0]) (fun i H' hi e => ?_) (fun i x H' hx e => ?_) (fun H' e => ?_)
  · subst e
    exact src _ (same_upd nD)
  · subst e
    exact hs i x hx (same_upd nD)
  · subst e
    exact hd _ (same_upd nD) upd_same
/-- the names of the comers, as a new list -/
theorem nm_of {K : PySem.W.Frag} {C a : Addr} {zs : List Str} {H : Hp} {te : TE} {σ : L2.St} {Q : VK} (m : MemAt C H a zs) (ht : ∀ Q' : VK, Q' (.ref a) H → te σ H Q') (q : ∀ r, H r = none → Q (.ref r) (upd H r (.lst (zs.map V.str)))) :
    tCB (rListOf K) (tCons (tProp C (getSp C "_names") [] E0 te) tNil) σ H Q := by
  obtain ⟨dx, t, d, k1, k2, k3⟩ := m.at_
  exact ht _ ⟨a, dx, _, rfl, k1, a, dx, _, _, rfl, k1, flds_names t d, t, _, rfl, .inr (SqT.of k2), q⟩
theorem pss_of {X : Cx} {b : List Stmt} {T : TS} (h : ∀ D σ H, T D σ H → ∃ t, PSs X b t ∧ t D σ H) : PSs X b T := ⟨fun pins s σ H D I hyp => by
  obtain ⟨t, ht, hq⟩ := h D σ H hyp
  exact ht.run pins s σ H D I hq⟩
def rTupOf (K : PySem.W.Frag) : List V → Hp → VK → Prop := fun xs H Q => ∃ p ys, xs = [.ref p] ∧ ((SqL K H p ys ∧ ∀ l, H l = none → Q (.ref l) (upd H l (.tup ys))) ∨ (SqT K H p ys ∧ Q (.ref p) H))
theorem call_tupK {X : Cx} : CallR X (.type "tuple") (rTupOf X.K) := call_tuple_of
/-- rows of names -/
structure Row (p a : Addr) (N : List Str) (H : Hp) : Prop where
  pool : PoolAt H p
  ne : a ≠ p
  at_ : H a = some (.lst (N.map V.str))
  len : N.length ≤ 20
  nd : N.Nodup
  nm : ∀ z ∈ N, nameB z = true
theorem Row.ext {p a : Addr} {N : List Str} {H H' : Hp} (r : Row p a N H) (x : Ext p H H') : Row p a N H' := ⟨x.pool, r.ne, x.at r.ne r.at_, r.len, r.nd, r.nm⟩
theorem MemAt.ext {C p q : Addr} {zs : List Str} {H H' : Hp} (hp : PoolAt H p) (x : Ext p H H') (m : MemAt C H q zs) : MemAt C H' q zs := by
  obtain ⟨⟨dx, t, d, h1, h2, h3⟩, a, b, c, e⟩ := m
  obtain ⟨i, j, k, hp⟩ := hp
  exact ⟨⟨dx, t, d, x.at (fun e => by rw [e, hp] at h1; cases h1) h1, x.at (fun e => by rw [e, hp] at h2; cases h2) h2, x.at (fun e => by rw [e, hp] at h3; cases h3) h3⟩, a, b, c, e⟩
theorem same_set {H H' : Hp} {d : Addr} {o : HO} (s : Same H H') (n : H d = none) : Same H (upd H' d o) := fun b x e => by
  rw [upd_ne (ne_of_none e n)]
  exact s _ _ e
theorem at0 {xs : List V} {i : Nat} {v : V} (h : xs[i]? = some v) : atI xs ((0 : Int) + (i : Nat)) = some v := by
  rw [Int.zero_add]
  exact atI_nat h
theorem lc_tupS {K : PySem.W.Frag} {a : Addr} {zs : List Str} {g : TG} {tt : TT} {te : TE} {vs : List Nat} {σ : L2.St} {H : Hp} {D : Addr} {Qd : Hp → Prop} (ha : H a = some (.tup (zs.map V.str))) (hl : zs.length ≤ 1000) (nD : H D = none)
    (hs : ∀ z H', g (.str z) (wipe σ vs) H' fun σ2 H2 => wipe σ2 vs = wipe σ vs ∧ tt σ2 H2 fun b H3 => b = true ∧ H3 = H' ∧ ∀ Q : VK, Q (.str z) H3 → te σ2 H3 Q)
    (hg : ∀ z H' (R R' : L2.St → Hp → Prop), (∀ s h, R s h → R' s h) → g (.str z) (wipe σ vs) H' R → g (.str z) (wipe σ vs) H' R')
    (ht : ∀ s h (R R' : Bool → Hp → Prop), (∀ b h', R b h' → R' b h') → tt s h R → tt s h R')
    (hd : ∀ H', Same H H' → H' D = some (.lst (zs.map V.str)) → Qd H') :
    ∃ W : Nat → Nat → Hp → Prop, (∃ m, W 0 m (upd H D (.lst []))) ∧ ∀ i m H, W i m H →
      ((Itt K a).stop i H ∧ Qd H) ∨ ((Itt K a).go i H ∧ ∃ Nx : Hp → Prop, (∀ H', Nx H' → ∃ m', m' < m ∧ W (i + 1) m' H') ∧ ∀ x H', (Itt K a).yld i H x H' → g x (wipe σ vs) H' fun σ2 H2 => wipe σ2 vs = wipe σ vs ∧ tt σ2 H2 fun b H3 =>
        if b = true then te σ2 H3 fun y H4 => ∃ acc, H4 D = some (.lst acc) ∧ acc.length < sizeLine ∧ Nx (upd H4 D (.lst (acc ++ [y]))) else Nx H3) := by
  refine lc_tup (K := K) (a := a) (xs := zs.map V.str) (fun i H' => H' = upd H D (.lst ((zs.take i).map V.str))) rfl (fun i H' hi e => ?_) (fun i x H' hx e => ?_) (fun H' e => ?_)
  · subst e
    exact SqT.of (same_upd nD _ _ ha)
  · subst e
    rw [List.getElem?_map] at hx
    obtain ⟨z, hz, rfl⟩ := Option.map_eq_some_iff.mp hx
    refine hg z _ _ _ (fun s h r => ⟨r.1, ht _ _ _ _ (fun b h' q => ?_) r.2⟩) (hs z _)
    obtain ⟨rfl, rfl, q⟩ := q
    rw [if_pos rfl]
    refine q _ ⟨_, upd_same, by rw [List.length_map, List.length_take, sizeLine_eq]; omega, ?_⟩
    rw [upd_upd, List.take_add_one, hz, List.map_append]
    rfl
  · subst e
    rw [List.length_map, List.take_length]
    exact hd _ (same_upd nD) upd_same
theorem upd_keep {H : Hp} {t b : Addr} {o1 o2 o : HO} (h : H t = some o1) (hb : H b = some o2) (n : o2 ≠ o1) : upd H t o b = some o2 := by
  rw [upd_ne (fun e => by rw [e, h] at hb; exact n (Option.some.inj hb).symm)]
  exact hb
abbrev sa : Str := Str.ofString "a"
inductive OddD (H : Hp) : V → PyData → Prop where
  | non : OddD H .non .none
  | int : OddD H (.int 0) (.int 0)
  | str : OddD H (.str sa) (.str sa)
  | tup0 {a : Addr} (e : H a = some (.tup [])) : OddD H (.ref a) (.tuple [])
  | tup1 {a : Addr} (e : H a = some (.tup [.str sa])) : OddD H (.ref a) (.tuple [.str sa])
  | lst {a : Addr} (e : H a = some (.lst [])) : OddD H (.ref a) (.list [])
  | dK {a : Addr} (e : H a = some (.dK [])) : OddD H (.ref a) (.dict [])
  | bl : OddD H (.bl true) (.bool true)
theorem OddD.keep {H H' : Hp} {v : V} {d : PyData} (h : OddD H v d) (k : ∀ a o, H a = some o → (∀ x y z : Int, o ≠ .lst [.int x, .int y, .int z]) → (∀ ps, o ≠ .tbl ps) → (∀ xs, o = .lst xs → xs = []) → H' a = some o) : OddD H' v d := by
  cases h with
  | non => exact .non
  | int => exact .int
  | str => exact .str
  | tup0 e => exact .tup0 (k _ _ e (fun _ _ _ e => by cases e) (fun _ e => by cases e) (fun _ e => by cases e))
  | tup1 e => exact .tup1 (k _ _ e (fun _ _ _ e => by cases e) (fun _ e => by cases e) (fun _ e => by cases e))
  | lst e => exact .lst (k _ _ e (fun _ _ _ e => by cases e) (fun _ e => by cases e) (fun _ e => by cases e; rfl))
  | dK e => exact .dK (k _ _ e (fun _ _ _ e => by cases e) (fun _ e => by cases e) (fun _ e => by cases e))
  | bl => exact .bl
theorem OddD.mv {p : Addr} {Tb : List (Addr × Str)} {H H' : Hp} {v : V} {d : PyData} (m : Mv p Tb H H') (hp : PoolAt H p) (h : OddD H v d) : OddD H' v d := h.keep fun a o e n nt _ => m.at hp e n nt
theorem OddD.set {t : Addr} {H : Hp} {as : List Addr} {o : HO} {v : V} {d : PyData} (ht : H t = some (.lst (as.map V.ref))) (hn : as ≠ []) (h : OddD H v d) : OddD (upd H t o) v d := h.keep fun a o e _ _ nl => upd_keep ht e fun q => by
  subst q
  have := nl _ rfl
  exact hn (List.map_eq_nil_iff.mp this)
theorem OddD.vok {H : Hp} {v : V} {d : PyData} (h : OddD H v d) : VOk H v := by
  cases h with
  | non => exact .inr .non
  | int => exact .inr (.int _)
  | str => exact .inl ⟨_, rfl, by rw [sizeLine_eq]; decide +kernel⟩
  | tup0 e => exact .inr (.tup e)
  | tup1 e => exact .inr (.tup e)
  | lst e => exact .inr (.lst e)
  | dK e => exact .inr (.dK e)
  | bl => exact .inr (.bl _)
theorem OddD.shd {K : PySem.W.Frag} {H : Hp} {v : V} {d : PyData} (h : OddD H v d) : RpD.ShD K H v d := by
  cases h with
  | non => exact .inl ⟨.non, .of rfl (by decide) (by decide)⟩
  | int => exact .inl ⟨.int _, .of (by decide) (by decide) (by decide)⟩
  | str => exact .inl ⟨.str _, .of (by decide +kernel) (by decide +kernel) (by decide +kernel)⟩
  | tup0 e => exact .inl ⟨.tup (SqT.of e) .nil, .of rfl (by decide) (by decide)⟩
  | tup1 e => exact .inl ⟨.tup (SqT.of e) (.cons (.str _) .nil), .of (by decide +kernel) (by decide +kernel) (by decide +kernel)⟩
  | lst e => exact .inl ⟨.lst (SqL.of e) .nil, .of rfl (by decide) (by decide)⟩
  | dK e => exact .inr ⟨_, rfl, e, rfl⟩
  | bl => exact .inl ⟨.bl _, .of rfl (by decide) (by decide)⟩
theorem OddD.ok {H : Hp} {v : V} {d : PyData} (h : OddD H v d) : PyData.strOk d.shown = true := by
  cases h <;> decide +kernel
theorem Lists.mv {p : Addr} {Tb : List (Addr × Str)} {H H' : Hp} {ds : List Addr} {Y : List (List Str)} (m : Mv p Tb H H') (hp : PoolAt H p) (h : Lists H ds Y) : Lists H' ds Y := ⟨h.len, fun j d y a b => m.strs hp (h.at_ j d y a b)⟩
theorem strs_refs {zs : List Str} {as : List Addr} (hn : as ≠ []) : HO.lst (zs.map V.str) ≠ HO.lst (as.map V.ref) := fun e => by
  have q := HO.lst.inj e
  cases as with
  | nil => exact hn rfl
  | cons a r =>
    cases zs with
    | nil => cases q
    | cons z s => cases q
theorem Lists.set {t : Addr} {H : Hp} {as ds : List Addr} {o : HO} {Y : List (List Str)} (ht : H t = some (.lst (as.map V.ref))) (hn : as ≠ []) (h : Lists H ds Y) : Lists (upd H t o) ds Y := ⟨h.len, fun j d y a b => upd_keep ht (h.at_ j d y a b) (strs_refs hn)⟩
/-- both are the Members of the same names -/
def SameMem (C : Addr) : Addr → Addr → Hp → Prop := fun a b H => ∃ ys, MemAt C H a ys ∧ MemAt C H b ys
theorem sameMem_mon (C : Addr) : ∀ a b H H', L2.Ext H H' → SameMem C a b H → SameMem C a b H' := fun a b H H' e h => by
  obtain ⟨ys, h1, h2⟩ := h
  exact ⟨ys, h1.same e, h2.same e⟩
theorem eq_same {P : Program} {w : World} {K : PySem.W.Frag} {mg : Str → Option Value} {base : Heap} {C g : Addr} {fd : FuncData} (F : FnOk P w K mg base CX0 3 g fd ["self", "other"] (spEqM C)) : FnOk P w K mg base CX0 3 g fd ["self", "other"] (spEq (SameMem C)) := by
  have imp : ∀ vs H Q E, spEq (SameMem C) vs H Q E → spEqM C vs H Q E := fun vs H Q E h => by
    obtain ⟨a, b, e, ⟨ys, h1, h2⟩, q⟩ := h
    refine ⟨a, ys, .ref b, e, h1, .inl ⟨b, ys, rfl, h2, ?_⟩⟩
    rw [decide_eq_true rfl]
    exact q H L2.Ext.rfl'
  exact ⟨fun vs H Q E h => F.len vs H Q E (imp vs H Q E h), fun A outer s H args us vs Q E hr e0 hb r h => F.run A outer s H args us vs Q E hr e0 hb r (imp vs H Q E h)⟩
theorem din {C a b : Addr} {ys zs : List Str} {H : Hp} (h1 : MemAt C H a ys) (h2 : MemAt C H b zs) (e : ys = zs) : DIns C (SameMem C) (.ref a) (.ref b) H := by
  subst e
  obtain ⟨dx, t, d, e1, _, _⟩ := h1.at_
  obtain ⟨dy, t2, d2, e2, _, _⟩ := h2.at_
  exact ⟨a, b, dx, dy, _, _, rfl, rfl, e1, e2, ys, h1, h2⟩
theorem MemAt.set {C a t : Addr} {H : Hp} {zs : List Str} {xs : List V} {o : HO} (h : H t = some (.lst xs)) (m : MemAt C H a zs) : MemAt C (upd H t o) a zs := by
  obtain ⟨⟨dx, t1, d, h1, h2, h3⟩, b, c, e, f⟩ := m
  exact ⟨⟨dx, t1, d, by rw [upd_ne (fun z => by rw [z, h] at h1; cases h1)]; exact h1, by rw [upd_ne (fun z => by rw [z, h] at h2; cases h2)]; exact h2, by rw [upd_ne (fun z => by rw [z, h] at h3; cases h3)]; exact h3⟩, b, c, e, f⟩
theorem mem_ty {K : PySem.W.Frag} {mg : Str → Option Value} {C b : Addr} {H : Hp} {ws : List Str} (M : MemC K mg C) (I : MemIs K C) (m : MemAt C H b ws) : TyX K H (.ref b) (.ref C) := by
  obtain ⟨dy, t2, d2, k1, _, _⟩ := m.at_
  exact .base (.ins k1 M.cl I.ha I.hn I.htk I.hm)
theorem bin_go {C a b : Addr} {zs ws : List Str} {r : Prop → Prop → Prop} {H : Hp} {Q : VK} {E : XK} (m1 : MemAt C H a zs) (m2 : MemAt C H b ws) (hl : zs.length + ws.length ≤ 1000) (q : MakesP C (fun z => r (z ∈ zs) (z ∈ ws)) H Q) : rBinO C (spBinM C r) E (.ref a) (.ref b) H Q := by
  obtain ⟨dx, t, d, h1, _, _⟩ := m1.at_
  obtain ⟨dy, t2, d2, k1, _, _⟩ := m2.at_
  exact ⟨a, dx, _, b, dy, _, rfl, rfl, h1, k1, a, b, zs, ws, rfl, m1, m2, hl, q⟩
theorem eq_go {K : PySem.W.Frag} {mg : Str → Option Value} {C a b : Addr} {zs ws : List Str} {H : Hp} {Q : VK} (M : MemC K mg C) (I : MemIs K C) (m1 : MemAt C H a zs) (m2 : MemAt C H b ws) (q : Q (.bl (decide (zs = ws))) H) : rEqO K C (spEqM C) (.ref a) (.ref b) H Q := by
  obtain ⟨dx, t, d, h1, _, _⟩ := m1.at_
  exact ⟨a, dx, _, _, rfl, h1, mem_ty M I m2, I.nfC, a, zs, .ref b, rfl, m1, .inl ⟨b, ws, rfl, m2, _, rfl, q⟩⟩
theorem ne_go {K : PySem.W.Frag} {mg : Str → Option Value} {C a b : Addr} {zs ws : List Str} {H : Hp} {Q : VK} (M : MemC K mg C) (I : MemIs K C) (m1 : MemAt C H a zs) (m2 : MemAt C H b ws) (q : Q (.bl (!decide (zs = ws))) H) : rNeO K C (spEqM C) (.ref a) (.ref b) H Q := by
  obtain ⟨dx, t, d, h1, _, _⟩ := m1.at_
  exact ⟨a, dx, _, _, rfl, h1, mem_ty M I m2, I.nfC, a, zs, .ref b, rfl, m1, .inl ⟨b, ws, rfl, m2, _, rfl, q⟩⟩
end K1

namespace K1
open PySem PySem.Spec
open PyProof.Rows L2 EnT StX SmX TxS DuX
/-! ### forms -/
inductive Fm where
  | leaf (z : Str)
  | node (s : Str) (l r : Fm)
abbrev tGiven : Str := "given"
abbrev tNone : Str := "none"
abbrev signs : List Str := ["|", "&", "-", "^"]
/-- a form on the heap -/
inductive FmAt (H : Hp) : V → Fm → Prop where
  | leaf (z : Str) : FmAt H (.str z) (.leaf z)
  | node {a : Addr} {s : Str} {vl vr : V} {l r : Fm} (h : H a = some (.tup [.str s, vl, vr])) (hl : FmAt H vl l) (hr : FmAt H vr r) : FmAt H (.ref a) (.node s l r)
/-- tuples stay -/
def TupK (H H' : Hp) : Prop := ∀ a xs, H a = some (.tup xs) → H' a = some (.tup xs)
theorem TupK.same {H H' : Hp} (s : Same H H') : TupK H H' := fun a xs h => s a _ h
theorem TupK.ext {p : Addr} {H H' : Hp} (hp : PoolAt H p) (x : K1.Ext p H H') : TupK H H' := fun a xs h => x.at (fun e => by
  obtain ⟨i, j, k, q⟩ := hp
  rw [e, q] at h
  cases h) h
theorem TupK.set {H H' : Hp} {t : Addr} {ys : List V} {o : HO} (k : TupK H H') (ht : H' t = some (.lst ys)) : TupK H (upd H' t o) := fun a xs h => by
  have h' := k a xs h
  rw [upd_ne (fun e => by rw [e, ht] at h'; cases h')]
  exact h'
theorem TupK.new {H H' : Hp} {t : Addr} {o : HO} (k : TupK H H') (ht : H t = none) : TupK H (upd H' t o) := fun a xs h => by
  rw [upd_ne (fun e => by rw [e, ht] at h; cases h)]
  exact k a xs h
theorem TupK.trans {H H1 H2 : Hp} (a : TupK H H1) (b : TupK H1 H2) : TupK H H2 := fun c xs h => b c xs (a c xs h)
theorem FmAt.keep {H H' : Hp} (k : TupK H H') {v : V} {t : Fm} (h : FmAt H v t) : FmAt H' v t := by
  induction h with
  | leaf z => exact .leaf z
  | node h _ _ ih1 ih2 => exact .node (k _ _ h) ih1 ih2
theorem FmAt.same {H H' : Hp} (s : Same H H') {v : V} {t : Fm} (h : FmAt H v t) : FmAt H' v t := h.keep (.same s)
namespace Fm
/-- the forms that are valid -/
def Ok : Fm → Prop
  | .leaf z => nameB z = true
  | .node s l r => s ∈ signs ∧ l.Ok ∧ r.Ok
def dep : Fm → Nat
  | .leaf _ => 1
  | .node _ l r => 1 + (if l.dep > r.dep then l.dep else r.dep)
def lvs : Fm → List Str
  | .leaf z => [z]
  | .node _ l r => l.lvs ++ r.lvs
def nl (t : Fm) : Nat := t.lvs.length
def size : Fm → Nat
  | .leaf _ => 1
  | .node _ l r => 1 + l.size + r.size
/-- the text; inside another one in brackets -/
def txt : Bool → Fm → Str
  | _, .leaf z => z
  | false, .node s l r => txt true l ++ (" " : Str) ++ s ++ (" " : Str) ++ txt true r
  | true, .node s l r => ("(" : Str) ++ (txt true l ++ (" " : Str) ++ s ++ (" " : Str) ++ txt true r) ++ (")" : Str)
def dat : Fm → PyData
  | .leaf z => .str z
  | .node s l r => .tuple [.str s, l.dat, r.dat]
theorem dep_pos : ∀ t : Fm, 1 ≤ t.dep
  | .leaf _ => Nat.le_refl _
  | .node _ l r => Nat.le_add_right _ _
theorem nl_pos : ∀ t : Fm, 1 ≤ t.nl
  | .leaf _ => Nat.le_refl _
  | .node _ l r => by
    have := nl_pos l
    unfold nl at this ⊢
    simp only [lvs, List.length_append]
    omega
theorem size_pos : ∀ t : Fm, 1 ≤ t.size
  | .leaf _ => Nat.le_refl _
  | .node _ l r => by simp only [size]; omega
theorem nl_node (s : Str) (l r : Fm) : (node s l r).nl = l.nl + r.nl := by
  unfold nl
  simp only [lvs, List.length_append]
theorem dep_node (s : Str) (l r : Fm) : (node s l r).dep = 1 + max l.dep r.dep := by
  simp only [dep]
  congr 1
  split <;> omega
theorem size_nl : ∀ t : Fm, t.size + 1 = 2 * t.nl
  | .leaf _ => rfl
  | .node s l r => by
    have a := size_nl l
    have b := size_nl r
    rw [nl_node]
    simp only [size]
    omega
theorem nl_dep : ∀ t : Fm, t.nl ≤ 2 ^ (t.dep - 1)
  | .leaf _ => Nat.le_refl _
  | .node s l r => by
    have a := nl_dep l
    have b := nl_dep r
    have pl := dep_pos l
    have pr := dep_pos r
    have a' : 2 ^ (l.dep - 1) ≤ 2 ^ (max l.dep r.dep - 1) := Nat.pow_le_pow_right (by decide) (by omega)
    have b' : 2 ^ (r.dep - 1) ≤ 2 ^ (max l.dep r.dep - 1) := Nat.pow_le_pow_right (by decide) (by omega)
    rw [nl_node, dep_node]
    have e : 1 + max l.dep r.dep - 1 = (max l.dep r.dep - 1) + 1 := by omega
    rw [e, Nat.pow_succ]
    omega
theorem Ok.names : ∀ {t : Fm}, t.Ok → ∀ z ∈ t.lvs, nameB z = true
  | .leaf z, h => fun y hy => by
    rw [List.mem_singleton.mp hy]
    exact h
  | .node s l r, h => fun y hy => by
    rcases List.mem_append.mp hy with e | e
    · exact h.2.1.names y e
    · exact h.2.2.names y e
end Fm
theorem sign_ok {s : Str} (h : s ∈ signs) : s.length = 1 ∧ PyData.strOk s = true := by
  simp only [signs, List.mem_cons, List.not_mem_nil, or_false] at h
  rcases h with rfl | rfl | rfl | rfl <;> decide +kernel
theorem txt_len5 : ∀ (b : Bool) (t : Fm), t.Ok → (t.txt b).length + 5 ≤ 13 * t.nl
  | b, .leaf z, h => by
    have := name_short (show nameB z = true from h)
    have e : (Fm.leaf z).txt b = z := by cases b <;> rfl
    rw [e]
    show z.length + 5 ≤ 13 * 1
    omega
  | b, .node s l r, h => by
    have a := txt_len5 true l h.2.1
    have b' := txt_len5 true r h.2.2
    have c := (sign_ok h.1).1
    have e1 : (" " : Str).length = 1 := by decide +kernel
    have e2 : ("(" : Str).length = 1 := by decide +kernel
    have e3 : (")" : Str).length = 1 := by decide +kernel
    rw [Fm.nl_node]
    cases b
    · simp only [Fm.txt]
      rw [strLen_append, strLen_append, strLen_append, strLen_append, c, e1]
      omega
    · simp only [Fm.txt]
      rw [strLen_append, strLen_append, strLen_append, strLen_append, strLen_append, strLen_append, c, e1, e2, e3]
      omega
theorem txt_len (b : Bool) (t : Fm) (h : t.Ok) : (t.txt b).length ≤ 13 * t.nl := Nat.le_trans (Nat.le_add_right _ _) (txt_len5 b t h)
theorem FmAt.dp {K : PySem.W.Frag} {H : Hp} {v : V} {t : Fm} (h : FmAt H v t) : Dp K H v t.dat := by
  induction h with
  | leaf z => exact .str z
  | node h _ _ ih1 ih2 => exact .tup (SqT.of h) (.cons (.str _) (.cons ih1 (.cons ih2 .nil)))
end K1

namespace K1
open PySem PySem.Spec
open PyProof.Rows L2 EnT StX SmX TxS DuX
/-- the names of the module of forms -/
structure Gf (K : PySem.W.Frag) (mg : Str → Option Value) (aS : Addr) : Prop where
  T : Free mg
  sg : mg "SIGNS" = some (.ref aS)
  st : ∀ H : Hp, SqT K H aS (signs.map V.str)
  gv : ∃ t, mg "GIVEN" = some (.str tGiven t)
  nn : ∃ t, mg "NONE" = some (.str tNone t)
  ml : ∃ t, mg "MOST_LEAVES" = some (.int 200 t)
  md : ∃ t, mg "MOST_DEPTH" = some (.int 20 t)
theorem name_line {z : Str} (h : nameB z = true) : z.length ≤ sizeLine := by
  have := name_short h
  rw [sizeLine_eq]
  omega
theorem FmAt.vok {H : Hp} {v : V} {t : Fm} (h : FmAt H v t) (ok : t.Ok) : VOk H v := by
  cases h with
  | leaf z => exact .inl ⟨z, rfl, name_line ok⟩
  | node h _ _ => exact .inr (.tup h)
/-! ### is_field, of a name -/
def fieldB (z : Str) : Bool := decide (z ≠ tGiven ∧ z ≠ tNone)
def spIsField : Sp := fun vs H Q _ => ∃ z : Str, vs = [.str z] ∧ nameB z = true ∧ ∀ H', Same H H' → Q (.bl (fieldB z)) H'
section
variable {w : World} {P : Program} {base : Heap} {mg : Str → Option Value} {K : PySem.W.Frag} {aS : Addr}
theorem scIsField : FnScope ["value"] ["value"] (defScope sIsField) := ⟨rfl, rfl, rfl, by decide +kernel, rfl, by decide +kernel, by decide +kernel⟩
theorem ok_isfield {f fN : Addr} {fd : FuncData} (F : Fun K "is_field" "is_field" sIsField f fd) (G : Gf K mg aS) (hN : Has P w K mg base CX0 1 "is_name" fN ["value"] spIsName) : FnOk P w K mg base CX0 2 f fd ["value"] spIsField := by
  obtain ⟨tg, hg⟩ := G.gv
  obtain ⟨tn, hn⟩ := G.nn
  refine F.ok scIsField (fun vs H Q E h => ?_) (fun cdv A outer s H vs Q E hr h => ?_)
  · obtain ⟨z, rfl, _⟩ := h
    rfl
  · obtain ⟨z, rfl, nz, q⟩ := h
    refine ⟨_, pss_one (ps_ret (pe_and (pe_has hN hr (by rfl) pass0 (pa_cons (pv 0) pa_nil)) (pe_one (pe_cmpR op_notIn_seq (pv 0) (pe_tup (pa_cons (pe_glob (v := .str tGiven) (by rfl) hg ⟨_, rfl⟩) (pa_cons (pe_glob (v := .str tNone) (by rfl) hn ⟨_, rfl⟩) pa_nil))) (by rfl))))), ?_⟩
    have e : nameV (.str z) = true := nz
    refine ⟨_, rfl, _, rfl, .inl ⟨z, rfl, name_line nz⟩, _, rfl, ?_⟩
    rw [e]
    refine iteT ⟨_, rfl, (by show 2 ≤ sizeLine; decide), fun a na => ⟨a, _, rfl, .inr (SqT.of upd_same), rfl, rfl, ?_⟩⟩
    have z2 : (!inV (.str z) [V.str tGiven, V.str tNone]) = fieldB z := by
      have := inV_mem z [tGiven, tNone]
      show (!inV (.str z) ([tGiven, tNone].map V.str)) = _
      rw [this]
      unfold fieldB
      by_cases h1 : z = tGiven <;> by_cases h2 : z = tNone <;> simp [h1, h2]
    rw [z2]
    exact q _ (same_upd na)
/-! ### is_triple, of a form -/
def isNode : Fm → Bool
  | .leaf _ => false
  | .node _ _ _ => true
def spTriple : Sp := fun vs H Q _ => ∃ (v : V) (t : Fm), vs = [v] ∧ FmAt H v t ∧ t.Ok ∧ Q (.bl (isNode t)) H
theorem scTriple : FnScope ["value"] ["value"] (defScope sTriple) := ⟨rfl, rfl, rfl, by decide +kernel, rfl, by decide +kernel, by decide +kernel⟩
theorem ok_triple {f : Addr} {fd : FuncData} (F : Fun K "is_triple" "is_triple" sTriple f fd) (G : Gf K mg aS) : FnOk P w K mg base CX0 1 f fd ["value"] spTriple := by
  have T := G.T
  refine F.ok scTriple (fun vs H Q E h => ?_) (fun cdv A outer s H vs Q E hr h => ?_)
  · obtain ⟨v, t, rfl, _⟩ := h
    rfl
  · obtain ⟨v, t, rfl, m, ok, q⟩ := h
    refine ⟨_, pss_one (ps_ret (pe_and (pe_callB call_isi (by rfl) T.isinstance (by decide +kernel) (pa_cons (pv 0) (pa_cons (pe_bltn (v := .ty "tuple") (u := .type "tuple") (by rfl) T.tuple (by decide +kernel) rfl) pa_nil)))
      (pe_and (pe_cmpR op_eq (pe_callB call_len_seq (by rfl) T.len PySem.boot_len (pa_cons (pv 0) pa_nil)) pe_int (nomark _))
      (pe_and (pe_callB call_isi (by rfl) T.isinstance (by decide +kernel) (pa_cons (pe_ix ix_tup (pv 0) pe_int (fun _ _ => rfl)) (pa_cons (pe_bltn (v := .ty "str") (u := .type "str") (by rfl) T.str (by decide +kernel) rfl) pa_nil)))
      (pe_one (pe_cmpR op_in_seq (pe_ix ix_tup (pv 0) pe_int (fun _ _ => rfl)) (pe_glob (v := .ref aS) (by rfl) G.sg rfl) (by rfl))))))), ?_⟩
    cases m with
    | leaf z => exact ⟨_, rfl, _, _, _, _, false, rfl, .ty _, .base (.str z), kit_ty (by decide +kernel), false, rfl, iteF q⟩
    | node h hl hr' =>
      rename_i a s vl vr l r
      refine ⟨_, rfl, _, _, _, _, true, rfl, .ty _, .base (.tup h), kit_ty (by decide +kernel), true, rfl, iteT ?_⟩
      refine ⟨_, rfl, a, _, rfl, .inr (SqT.of h), rfl, _, rfl, iteT ?_⟩
      refine ⟨_, rfl, a, _, _, .str s, rfl, rfl, SqT.of h, atI_nat (j := 0) rfl, ?_⟩
      refine ⟨_, _, _, _, true, rfl, .ty _, .base (.str s), kit_ty (by decide +kernel), true, rfl, iteT ?_⟩
      refine ⟨_, rfl, a, _, _, .str s, rfl, rfl, SqT.of h, atI_nat (j := 0) rfl, ?_⟩
      refine ⟨aS, _, rfl, .inr (G.st H), rfl, strs_flat _, ?_⟩
      rw [inV_mem, decide_eq_true ok.1]
      exact q
/-! ### check_leaves, check_depth, within the limits -/
def spChk (n : Int) : Sp := fun vs H Q _ => ∃ i : Int, vs = [.int i] ∧ i ≤ n ∧ Q .non H
theorem scChkL : FnScope ["leaves"] ["leaves"] (defScope sChkL) := ⟨rfl, rfl, rfl, by decide +kernel, rfl, by decide +kernel, by decide +kernel⟩
theorem scChkD : FnScope ["depth"] ["depth"] (defScope sChkD) := ⟨rfl, rfl, rfl, by decide +kernel, rfl, by decide +kernel, by decide +kernel⟩
theorem ok_chkL {f : Addr} {fd : FuncData} (F : Fun K "check_leaves" "check_leaves" sChkL f fd) (G : Gf K mg aS) : FnOk P w K mg base CX0 1 f fd ["leaves"] (spChk 200) := by
  obtain ⟨t, ht⟩ := G.ml
  refine F.ok scChkL (fun vs H Q E h => ?_) (fun cdv A outer s H vs Q E hr h => ?_)
  · obtain ⟨i, rfl, _⟩ := h
    rfl
  · obtain ⟨i, rfl, le, q⟩ := h
    refine ⟨_, pss_one (ps_if (pt_cmpR op_gt (pv 0) (pe_glob (v := .int 200) (by rfl) ht ⟨_, rfl⟩) (nomark _)) pss_never pss_nil), ?_⟩
    refine ⟨_, rfl, _, _, rfl, rfl, _, rfl, ?_⟩
    rw [decide_eq_false (by omega)]
    exact iteF q
theorem ok_chkD {f : Addr} {fd : FuncData} (F : Fun K "check_depth" "check_depth" sChkD f fd) (G : Gf K mg aS) : FnOk P w K mg base CX0 1 f fd ["depth"] (spChk 20) := by
  obtain ⟨t, ht⟩ := G.md
  refine F.ok scChkD (fun vs H Q E h => ?_) (fun cdv A outer s H vs Q E hr h => ?_)
  · obtain ⟨i, rfl, _⟩ := h
    rfl
  · obtain ⟨i, rfl, le, q⟩ := h
    refine ⟨_, pss_one (ps_if (pt_cmpR op_gt (pv 0) (pe_glob (v := .int 20) (by rfl) ht ⟨_, rfl⟩) (nomark _)) pss_never pss_nil), ?_⟩
    refine ⟨_, rfl, _, _, rfl, rfl, _, rfl, ?_⟩
    rw [decide_eq_false (by omega)]
    exact iteF q
end
end K1

namespace K1
open PySem PySem.Spec
open PyProof.Rows L2 EnT StX SmX TxS DuX
/-! ### comprehensions whose steps make objects -/
def StepG (D : Addr) (H : Hp) (out : Nat → List V) (i : Nat) : VK := fun y H4 => Same H H4 ∧ H4 D = some (.lst (out i)) ∧ (out i).length < sizeLine ∧ out (i + 1) = out i ++ [y]
theorem lc_grow {K : PySem.W.Frag} {a : Addr} {xs : List V} {g : TG} {tt : TT} {te : TE} {vs : List Nat} {σ : L2.St} {H : Hp} {D : Addr} {Qd : Hp → Prop} (out : Nat → List V) (src : ∀ H', Same H H' → SqL K H' a xs) (nD : H D = none) (h0 : out 0 = [])
    (hs : ∀ i x H', xs[i]? = some x → Same H H' → H' D = some (.lst (out i)) → g x (wipe σ vs) H' fun σ2 H2 => wipe σ2 vs = wipe σ vs ∧ tt σ2 H2 fun b H3 => if b = true then te σ2 H3 (StepG D H out i) else (Same H H3 ∧ H3 D = some (.lst (out (i + 1)))))
    (hg : ∀ x H' (R R' : L2.St → Hp → Prop), (∀ s h, R s h → R' s h) → g x (wipe σ vs) H' R → g x (wipe σ vs) H' R')
    (ht : ∀ s h (R R' : Bool → Hp → Prop), (∀ b h', R b h' → R' b h') → tt s h R → tt s h R')
    (he : ∀ s h (R R' : VK), (∀ b h', R b h' → R' b h') → te s h R → te s h R')
    (hd : ∀ H', Same H H' → H' D = some (.lst (out xs.length)) → Qd H') :
    ∃ W : Nat → Nat → Hp → Prop, (∃ m, W 0 m (upd H D (.lst []))) ∧ ∀ i m H, W i m H →
      ((Itl K a).stop i H ∧ Qd H) ∨ ((Itl K a).go i H ∧ ∃ Nx : Hp → Prop, (∀ H', Nx H' → ∃ m', m' < m ∧ W (i + 1) m' H') ∧ ∀ x H', (Itl K a).yld i H x H' → g x (wipe σ vs) H' fun σ2 H2 => wipe σ2 vs = wipe σ vs ∧ tt σ2 H2 fun b H3 =>
        if b = true then te σ2 H3 fun y H4 => ∃ acc, H4 D = some (.lst acc) ∧ acc.length < sizeLine ∧ Nx (upd H4 D (.lst (acc ++ [y]))) else Nx H3) := by
  refine lc_list (K := K) (a := a) (xs := xs) (fun i H' => Same H H' ∧ H' D = some (.lst (out i))) ⟨same_upd nD, by rw [upd_same, h0]⟩ (fun i H' hi e => src _ e.1) (fun i x H' hx e => ?_) (fun H' e => hd _ e.1 e.2)
  refine hg x H' _ _ (fun s h r => ⟨r.1, ht _ _ _ _ (fun b h' q => ?_) r.2⟩) (hs i x H' hx e.1 e.2)
  cases b with
  | false => exact q
  | true =>
    refine he _ _ _ _ (fun y h4 z => ?_) q
    obtain ⟨s4, d4, l4, o4⟩ := z
    exact ⟨_, d4, l4, same_set s4 nD, by rw [upd_same, o4]⟩
/-! ### form_leaves -/
def spLeaves (n : Nat) : Sp := fun vs H Q _ => ∃ (v : V) (t : Fm), vs = [v] ∧ FmAt H v t ∧ t.dep ≤ n ∧ t.nl ≤ 1000 ∧ ∀ (q : Addr) (H' : Hp), H q = none → Same H H' → H' q = some (.lst (t.lvs.map V.str)) → Q (.ref q) H'
section
variable {w : World} {P : Program} {base : Heap} {mg : Str → Option Value} {K : PySem.W.Frag} {aS : Addr}
theorem scLeavesF : FnScope ["form"] ["form"] (defScope sLeavesF) := ⟨rfl, rfl, rfl, by decide +kernel, rfl, by decide +kernel, by decide +kernel⟩
theorem ok_leavesF {f : Addr} {fd : FuncData} (F : Fun K "form_leaves" "form_leaves" sLeavesF f fd) (T : Free mg) (mgF : mg "form_leaves" = some (.ref f)) : ∀ n : Nat, FnOk P w K mg base CX0 (n + 1) f fd ["form"] (spLeaves (n + 1)) := by
  have bF : L2.Binds K fd ["form"] [] := F.binds (ps := ["form"]) fun _ _ _ _ _ _ us hl => match us, hl with | [_], _ => rfl
  intro n
  induction n with
  | zero =>
    refine F.ok scLeavesF (fun vs H Q E h => ?_) (fun cdv A outer s H vs Q E hr h => ?_)
    · obtain ⟨v, t, rfl, _⟩ := h
      rfl
    · obtain ⟨v, t, rfl, m, d, l, q⟩ := h
      refine ⟨_, pss_cons (ps_if (pt_val (pe_callB call_isi (by rfl) T.isinstance (by decide +kernel) (pa_cons (pv 0) (pa_cons (pe_bltn (v := .ty "str") (u := .type "str") (by rfl) T.str (by decide +kernel) rfl) pa_nil)))) (pss_one (ps_ret (pe_lst (pa_cons (pv 0) pa_nil)))) pss_nil) pss_never, ?_⟩
      cases m with
      | leaf z => exact ⟨_, rfl, _, _, _, _, true, rfl, .ty _, .base (.str z), kit_ty (by decide +kernel), true, rfl, iteT ⟨_, rfl, (by show 1 ≤ sizeLine; decide), fun p np => q p _ np (same_upd np) upd_same⟩⟩
      | node h hl hr' =>
        rename_i a s' vl vr l' r'
        have := Fm.dep_pos l'
        rw [Fm.dep_node] at d
        omega
  | succ n ih =>
    have hF : Has P w K mg base CX0 (n + 1) "form_leaves" f ["form"] (spLeaves (n + 1)) := ⟨mgF, F.kp, fd, ih, bF⟩
    refine F.ok scLeavesF (fun vs H Q E h => ?_) (fun cdv A outer s H vs Q E hr h => ?_)
    · obtain ⟨v, t, rfl, _⟩ := h
      rfl
    · obtain ⟨v, t, rfl, m, d, l, q⟩ := h
      refine ⟨_, pss_cons (ps_if (pt_val (pe_callB call_isi (by rfl) T.isinstance (by decide +kernel) (pa_cons (pv 0) (pa_cons (pe_bltn (v := .ty "str") (u := .type "str") (by rfl) T.str (by decide +kernel) rfl) pa_nil)))) (pss_one (ps_ret (pe_lst (pa_cons (pv 0) pa_nil)))) pss_nil)
        (pss_one (ps_ret (pe_op op_cat (pe_has hF hr (by rfl) pass0 (pa_cons (pe_ix ix_tup (pv 0) pe_int (fun _ _ => rfl)) pa_nil)) (pe_has hF hr (by rfl) pass0 (pa_cons (pe_ix ix_tup (pv 0) pe_int (fun _ _ => rfl)) pa_nil))))), ?_⟩
      cases m with
      | leaf z => exact ⟨_, rfl, _, _, _, _, true, rfl, .ty _, .base (.str z), kit_ty (by decide +kernel), true, rfl, iteT ⟨_, rfl, (by show 1 ≤ sizeLine; decide), fun p np => q p _ np (same_upd np) upd_same⟩⟩
      | node h hl hr' =>
        rename_i a s' vl vr l' r'
        rw [Fm.dep_node] at d
        rw [Fm.nl_node] at l
        refine ⟨_, rfl, _, _, _, _, false, rfl, .ty _, .base (.tup h), kit_ty (by decide +kernel), false, rfl, iteF ?_⟩
        refine ⟨_, rfl, a, _, _, vl, rfl, rfl, SqT.of h, atI_nat (j := 1) rfl, vl, l', rfl, hl, by omega, by omega, fun q1 H1 n1 s1 h1 => ?_⟩
        refine ⟨_, rfl, a, _, _, vr, rfl, rfl, SqT.of (s1 _ _ h), atI_nat (j := 2) rfl, vr, r', rfl, hr'.same s1, by omega, by omega, fun q2 H2 n2 s2 h2 => ?_⟩
        have e1 : (l'.lvs.map V.str).length = l'.nl := List.length_map ..
        have e2 : (r'.lvs.map V.str).length = r'.nl := List.length_map ..
        refine ⟨q1, q2, _, _, rfl, rfl, s2 _ _ h1, h2, by rw [e1, e2, sizeLine_eq]; omega, fun p np => ?_⟩
        have s12 := s1.trans s2
        refine q p _ ?_ (s12.trans (same_upd np)) (by rw [upd_same, ← List.map_append]; rfl)
        cases hh : H p with
        | none => rfl
        | some o =>
          rw [s12 _ _ hh] at np
          cases np
/-! ### form_fields -/
def spFields (n : Nat) : Sp := fun vs H Q _ => ∃ (v : V) (t : Fm), vs = [v] ∧ FmAt H v t ∧ t.Ok ∧ t.dep ≤ n ∧ t.nl ≤ 500 ∧ ∀ (q : Addr) (ys : List Str) (H' : Hp), Same H H' → H' q = some (.tup (ys.map V.str)) → sortedS ys = true → ys.Nodup → (∀ z, z ∈ ys ↔ z ∈ t.lvs ∧ fieldB z = true) → Q (.ref q) H'
abbrev nmFF : List Str := ["form", "leaves", "leaf"]
theorem scFieldsF : FnScope nmFF ["form"] (defScope sFieldsF) := ⟨rfl, rfl, rfl, by decide +kernel, rfl, by decide +kernel, by decide +kernel⟩
theorem ok_fieldsF {n : Nat} {f fL fI : Addr} {fd : FuncData} (F : Fun K "form_fields" "form_fields" sFieldsF f fd) (T : Free mg) (hL : Has P w K mg base CX0 (n + 3) "form_leaves" fL ["form"] (spLeaves (n + 3))) (hI : Has P w K mg base CX0 2 "is_field" fI ["value"] spIsField) :
    FnOk P w K mg base CX0 (n + 4) f fd ["form"] (spFields (n + 3)) := by
  refine F.ok scFieldsF (fun vs H Q E h => ?_) (fun cdv A outer s H vs Q E hr h => ?_)
  · obtain ⟨v, t, rfl, _⟩ := h
    rfl
  · obtain ⟨v, t, rfl, m, ok, d, l, q⟩ := h
    refine ⟨_, pss_cons (ps_set (i := 1) scFieldsF.nd rfl (.inl rfl) (pe_has hL hr (by rfl) pass0 (pa_cons (pv 0) pa_nil)))
      (pss_one (ps_ret (pe_callTy call_tuple_of (by rfl) T.tuple (by decide +kernel) (pa_cons (pe_sortSet rfl (by rfl) T.sorted (by rfl) T.set (pe_lc (own := [("leaf", 2)]) (g := gName 2) (tt := tTest (tCall spIsField [] E0 (tCons (tVar 2) tNil))) rfl scFieldsF.nd (pi_list (pv 1))
            (blkOk_by (own := [("leaf", 2)]) (N := nmFF) (sc := defScope sFieldsF) (by decide +kernel)) (fun _ _ _ _ _ => pg_name (i := 2) scFieldsF.nd rfl (Or.inl rfl))
            (fun _ _ _ _ _ => pts_one (pt_val (pe_has hI (hr.mono (by omega)) (by rfl) pass0 (pa_cons (pv 2) pa_nil)))) (fun _ _ _ _ _ => pv 2))) pa_nil)))), ?_⟩
    have lt : t.lvs.length ≤ 500 := l
    refine ⟨_, rfl, v, t, rfl, m, d, by omega, fun q1 H1 n1 s1 h1 => ?_⟩
    refine ⟨_, rfl, q1, rfl, ⟨_, SqL.of h1⟩, fun D1 nD => lc_grow (K := K) (a := q1) (xs := t.lvs.map V.str) (outF t.lvs fieldB) (fun H' e => SqL.of (e _ _ h1)) nD rfl (fun i x H' hx e1 e2 => ?_) (fun x H' R R' h hh => h _ _ hh) (fun s h R R' k hh => ?_) (fun s h R R' k hh => ?_) fun H2 s2 h2 => ?_⟩
    · obtain ⟨z, hz, rfl⟩ := str_at hx
      refine ⟨rfl, _, rfl, z, rfl, ok.names z (List.mem_of_getElem? hz), fun H2 s2 => ⟨_, rfl, ?_⟩⟩
      cases hf : fieldB z with
      | true => exact iteT ⟨_, rfl, e1.trans s2, s2 _ _ e2, outF_len (by omega), outF_yes hz hf⟩
      | false => exact iteF ⟨e1.trans s2, by rw [outF_no hz hf]; exact s2 _ _ e2⟩
    · obtain ⟨v', e, z, e2, nz, q⟩ := hh
      exact ⟨v', e, z, e2, nz, fun H' s' => by
        obtain ⟨k', e3, r⟩ := q H' s'
        exact ⟨k', e3, k _ _ r⟩⟩
    · obtain ⟨v', e, r⟩ := hh
      exact ⟨v', e, k _ _ r⟩
    · rw [outF_end (List.length_map ..)] at h2
      have lF := List.length_filter_le fieldB t.lvs
      refine ⟨D1, t.lvs.filter fieldB, rfl, .inl (SqL.of h2), by omega, fun ys q2 srt nd mem lys nq2 => ?_⟩
      have s3 : Same H2 (upd H2 q2 (.lst (ys.map V.str))) := same_upd nq2
      refine ⟨q2, _, rfl, .inl ⟨SqL.of upd_same, fun tp ntp => ?_⟩⟩
      have s4 := same_upd (o := .tup (ys.map V.str)) ntp
      exact q tp ys _ (((s1.trans s2).trans s3).trans s4) upd_same srt nd fun z => (mem z).trans (by rw [List.mem_filter])
end
end K1

namespace K1
open PySem PySem.Spec
open PyProof.Rows L2 EnT StX SmX TxS DuX
namespace Fm
theorem lay : ∀ {t : Fm}, t.Ok → PyData.canLay0 t.dat = true
  | .leaf z, h => by
    have := strOk_low (name_low (show nameB z = true from h))
    simp [dat, PyData.canLay0, this]
  | .node s l r, h => by
    have a := lay h.2.1
    have b := lay h.2.2
    have c := (sign_ok h.1).2
    simp [dat, PyData.canLay0, PyData.canLayAll0, a, b, c]
theorem ddep : ∀ t : Fm, PyData.depth t.dat + 1 = t.dep
  | .leaf z => rfl
  | .node s l r => by
    have a := ddep l
    have b := ddep r
    rw [dep_node]
    simp only [dat, PyData.depth, PyData.depthAll]
    omega
theorem shaped {t : Fm} (h : t.Ok) (d : t.dep ≤ 60) : SeqAt.shaped t.dat = true := by
  show (PyData.canLay0 t.dat && decide (PyData.depth t.dat ≤ 64)) = true
  rw [lay h, Bool.true_and]
  have := ddep t
  exact decide_eq_true (by omega)
theorem eqv_eq : ∀ {t u : Fm}, PyData.eqv t.dat u.dat = true → t = u
  | .leaf z, .leaf y, h => by
    simp only [dat, PyData.eqv] at h
    rw [beq_iff_eq.mp h]
  | .leaf z, .node _ _ _, h => by simp [dat, PyData.eqv] at h
  | .node _ _ _, .leaf z, h => by simp [dat, PyData.eqv] at h
  | .node s l r, .node s' l' r', h => by
    simp only [dat, PyData.eqv, PyData.eqvAll, Bool.and_eq_true, Bool.and_true] at h
    obtain ⟨h1, h2, h3⟩ := h
    rw [beq_iff_eq.mp h1, eqv_eq h2, eqv_eq h3]
theorem eqv_self {t : Fm} (h : t.Ok) : PyData.eqv t.dat t.dat = true := SeqAt.eqv_refl _ (lay h)
end Fm
/-! ### form_size -/
structure It4 where
  a : Addr
  v : V
  m : Nat
  k : Nat
  t : Fm
structure ItOk (H : Hp) (i : It4) : Prop where
  h : H i.a = some (.tup [i.v, .int i.m, .int i.k])
  f : FmAt H i.v i.t
  ok : i.t.Ok
  m1 : 1 ≤ i.m
  k1 : 1 ≤ i.k
theorem ItOk.keep {H H' : Hp} {i : It4} (k : TupK H H') (x : ItOk H i) : ItOk H' i := ⟨k _ _ x.h, x.f.keep k, x.ok, x.m1, x.k1⟩
def lsum : List It4 → Nat
  | [] => 0
  | i :: r => i.m * i.t.nl + lsum r
def lmax : List It4 → Nat
  | [] => 0
  | i :: r => max (i.k + i.t.dep - 1) (lmax r)
def lsz : List It4 → Nat
  | [] => 0
  | i :: r => i.t.size + lsz r
theorem lsum_app : ∀ (x y : List It4), lsum (x ++ y) = lsum x + lsum y
  | [], y => by simp [lsum]
  | i :: r, y => by
    have := lsum_app r y
    simp only [List.cons_append, lsum, this]
    omega
theorem lsz_app : ∀ (x y : List It4), lsz (x ++ y) = lsz x + lsz y
  | [], y => by simp [lsz]
  | i :: r, y => by
    have := lsz_app r y
    simp only [List.cons_append, lsz, this]
    omega
theorem lmax_app : ∀ (x y : List It4), lmax (x ++ y) = max (lmax x) (lmax y)
  | [], y => by simp [lmax]
  | i :: r, y => by
    have := lmax_app r y
    simp only [List.cons_append, lmax, this]
    omega
theorem lsum_len : ∀ {l : List It4}, (∀ i ∈ l, 1 ≤ i.m) → l.length ≤ lsum l
  | [], _ => Nat.le_refl _
  | i :: r, h => by
    have a := lsum_len (l := r) fun j hj => h j (List.mem_cons_of_mem _ hj)
    have b := h i List.mem_cons_self
    have c := Fm.nl_pos i.t
    have d : 1 * 1 ≤ i.m * i.t.nl := Nat.mul_le_mul b c
    simp only [List.length_cons, lsum]
    omega
def spSize : Sp := fun vs H Q _ => ∃ (v : V) (t : Fm), vs = [v] ∧ FmAt H v t ∧ t.Ok ∧ t.nl ≤ 500 ∧ t.dep ≤ 60 ∧ ∀ (q : Addr) (H' : Hp), Same H H' → H' q = some (.tup [.int t.nl, .int t.dep]) → Q (.ref q) H'
abbrev nmSz : List Str := ["value", "leaves", "depth", "parts", "part", "times", "level", "side"]
theorem scSize : FnScope nmSz ["value"] (defScope sSize) := ⟨rfl, rfl, rfl, by decide +kernel, rfl, by decide +kernel, by decide +kernel⟩
structure AtSz (T : Fm) (L : Addr) (H0 : Hp) (m : Nat) (σ : L2.St) (H : Hp) : Prop where
  ex : ∃ (its : List It4) (lv dp : Nat) (x0 x4 x5 x6 x7 : Option V), σ = [x0, some (.int lv), some (.int dp), some (.ref L), x4, x5, x6, x7] ∧ m = lsz its ∧ H L = some (.lst (its.map fun i => V.ref i.a)) ∧ (∀ i ∈ its, ItOk H i) ∧ lv + lsum its = T.nl ∧ max dp (lmax its) = T.dep ∧ Same H0 H
abbrev cxZ (P : Program) (w : World) (K : PySem.W.Frag) (mg : Str → Option Value) (base : Heap) (f : Addr) (cdv : Value) (A : Around) (outer : List Env) (s : Shared) (H : Hp) (E : XK) : Cx := (cxOf CX0 P w K mg base nmSz "form_size" (defScope sSize) f cdv A outer s H E).nox
def whB : List Stmt := match defBody sSize with
  | _ :: _ :: (.While _ b _ _) :: _ => b
  | _ => []
/-- a turn of the loop, behind the depth -/
structure AtB (R : Fm → Prop) (T : Fm) (L : Addr) (H0 : Hp) (σ : L2.St) (H : Hp) (En : Ends) : Prop where
  ex : ∃ (its : List It4) (v : V) (t : Fm) (lv dp m k M : Nat) (x0 x7 : Option V), σ = [x0, some (.int lv), some (.int dp), some (.ref L), some v, some (.int m), some (.int k), x7] ∧ H L = some (.lst (its.map fun i => V.ref i.a)) ∧ (∀ i ∈ its, ItOk H i) ∧ FmAt H v t ∧ t.Ok ∧ R t ∧ 1 ≤ m ∧ 1 ≤ k ∧ k ≤ dp ∧
    lv + (lsum its + m * t.nl) = T.nl ∧ max dp (max (lmax its) (k + t.dep - 1)) = T.dep ∧ lsz its + t.size ≤ M ∧ Same H0 H ∧ H0 L = none ∧ T.nl ≤ 500 ∧ T.dep ≤ 60 ∧ ∀ σ' H', (∃ m', m' < M ∧ AtSz T L H0 m' σ' H') → En.nx σ' H'
section
variable {w : World} {P : Program} {base : Heap} {mg : Str → Option Value} {K : PySem.W.Frag} {aS : Addr}
variable {f fN fT : Addr} {cdv : Value} {A : Around} {outer : List Env} {s : Shared} {H00 : Hp} {E : XK} {T0 : Fm} {L : Addr} {H0 : Hp}
def inIf : List Stmt → List Stmt × List Stmt
  | [.If _ a b _] => (a, b)
  | _ => ([], [])
def whI : List Stmt × List Stmt := inIf (inIf (inIf (whB.drop 2)).2).2
theorem sz_app (T : Free mg) (hr : Room 1 (A.deeper (envOfC "form_size" (defScope sSize) s.heap.objs.size f cdv))) :
    PSs (cxZ P w K mg base f cdv A outer s H00 E) whI.1 (fun En σ H => AtB (fun t => ∃ s l, t = .node s l l) T0 L H0 σ H En) := by
  refine pss_of fun En σ H hyp => ?_
  obtain ⟨its, v, t, lv, dp, m, k, M, x0, x7, eσ, hL, hi, ft, ok, rt, m1, k1, kd, e1, e2, e3, s0, nL, l5, d6, fin⟩ := hyp.ex
  refine ⟨_, pss_one (ps_expr (pe_bm PySem.F.plainAttrs_list PySem.F.slot_list_append PySem.F.type_list_append mt_append (pv 3) (pa_cons (pe_tup (pa_cons (pe_ix ix_tup (pv 4) pe_int (fun _ _ => rfl)) (pa_cons (pe_op op_add (pv 5) (pv 5)) (pa_cons (pe_op op_add (pv 6) pe_int) pa_nil)))) pa_nil))), ?_⟩
  subst eσ
  obtain ⟨s', l, rfl⟩ := rt
  cases ft with
  | node h hl hr' =>
    rename_i a vl vr
    have hlen : its.length ≤ 500 := by
      have := lsum_len (l := its) fun i hx => (hi i hx).m1
      omega
    refine ⟨_, rfl, .inl ⟨rfl, _, SqL.of hL⟩, ?_⟩
    refine ⟨_, rfl, a, _, _, vl, rfl, rfl, SqT.of h, atI_nat (j := 1) rfl, _, rfl, _, rfl, _, _, rfl, rfl, _, rfl, _, _, rfl, rfl, (by show 3 ≤ sizeLine; decide), fun p np => ?_⟩
    have s1 : Same H (upd H p (.tup [vl, .int ((m : Int) + m), .int ((k : Int) + 1)])) := same_upd np
    refine ⟨L, _, _, rfl, rfl, s1 _ _ hL, by rw [List.length_map, sizeLine_eq]; omega, ?_⟩
    have kp : TupK H (upd (upd H p (.tup [vl, .int ((m : Int) + m), .int ((k : Int) + 1)])) L (.lst (its.map (fun i => V.ref i.a) ++ [.ref p]))) := (TupK.same s1).set (s1 _ _ hL)
    have em : (m : Int) + m = ((m + m : Nat) : Int) := by omega
    have ek : (k : Int) + 1 = ((k + 1 : Nat) : Int) := by omega
    have pL : p ≠ L := fun e => by rw [e, hL] at np; cases np
    have hp : (upd (upd H p (.tup [vl, .int ((m : Int) + m), .int ((k : Int) + 1)])) L (.lst (its.map (fun i => V.ref i.a) ++ [.ref p]))) p = some (.tup [vl, .int (m + m : Nat), .int (k + 1 : Nat)]) := by
      rw [upd_ne pL, upd_same, em, ek]
    refine fin _ _ ⟨lsz (its ++ [⟨p, vl, m + m, k + 1, l⟩]), ?_, its ++ [⟨p, vl, m + m, k + 1, l⟩], lv, dp, _, _, _, _, _, rfl, rfl, by rw [upd_same, List.map_append]; rfl, fun i hx => ?_, ?_, ?_, same_set (s0.trans s1) nL⟩
    · rw [lsz_app]
      have := Fm.size_pos l
      simp only [lsz]
      simp only [Fm.size] at e3
      omega
    · rcases List.mem_append.mp hx with e | e
      · exact (hi i e).keep kp
      · rw [List.mem_singleton.mp e]
        exact ⟨hp, hl.keep kp, ok.2.1, by show 1 ≤ m + m; omega, by show 1 ≤ k + 1; omega⟩
    · rw [lsum_app]
      rw [Fm.nl_node, Nat.mul_add] at e1
      simp only [lsum, Nat.add_mul]
      omega
    · rw [lmax_app]
      rw [Fm.dep_node] at e2
      have := Fm.dep_pos l
      simp only [lmax]
      omega
theorem sz_ext (T : Free mg) (hr : Room 1 (A.deeper (envOfC "form_size" (defScope sSize) s.heap.objs.size f cdv))) :
    PSs (cxZ P w K mg base f cdv A outer s H00 E) whI.2 (fun En σ H => AtB (fun t => isNode t = true) T0 L H0 σ H En) := by
  refine pss_of fun En σ H hyp => ?_
  obtain ⟨its, v, t, lv, dp, m, k, M, x0, x7, eσ, hL, hi, ft, ok, rt, m1, k1, kd, e1, e2, e3, s0, nL, l5, d6, fin⟩ := hyp.ex
  refine ⟨_, pss_one (ps_expr (pe_bm PySem.F.plainAttrs_list PySem.F.slot_list_extend PySem.F.type_list_extend mt_extend (pv 3) (pa_cons (pe_lc (own := [("side", 7)]) (g := gName 7) (tt := tYes) (te := tTup (tCons (tVar 7) (tCons (tVar 5) (tCons (tOp (rI0 fun i j => .int (i + j)) (tVar 6) (tC (.int 1))) tNil)))) rfl scSize.nd (pi_tup (pe_slice sl_tup (pv 4) (po_some pe_int) po_none))
              (blkOk_by (own := [("side", 7)]) (N := nmSz) (sc := defScope sSize) (by decide +kernel)) (fun _ _ _ _ _ => pg_name (i := 7) scSize.nd rfl (Or.inl rfl)) (fun _ _ _ _ _ => pts_nil)
              (fun _ _ _ _ _ => pe_tup (pa_cons (pv 7) (pa_cons (pv 5) (pa_cons (pe_op op_add (pv 6) pe_int) pa_nil))))) pa_nil))), ?_⟩
  subst eσ
  cases ft with
  | leaf z => cases rt
  | node h hl hr' =>
    rename_i a s' vl vr l r
    have hlen : its.length ≤ 500 := by
      have := lsum_len (l := its) fun i hx => (hi i hx).m1
      omega
    refine ⟨_, rfl, .inl ⟨rfl, _, SqL.of hL⟩, ?_⟩
    refine ⟨_, rfl, 1, rfl, a, _, rfl, SqT.of h, (fun e => absurd e.1 (by show ¬ (HT.sIx 3 0 (some 1) = 0); decide)), fun pp npp => ?_⟩
    have s1 : Same H (upd H pp (.tup [vl, vr])) := same_upd npp
    have hpp : (upd H pp (.tup [vl, vr])) pp = some (.tup [vl, vr]) := upd_same
    refine ⟨pp, rfl, ⟨_, SqT.of upd_same⟩, fun D nD => ?_⟩
    refine lc_tup (K := K) (a := pp) (xs := [vl, vr]) (fun i H' => Same (upd H pp (.tup [vl, vr])) H' ∧ ∃ ps : List Addr, ps.length = i ∧ H' D = some (.lst (ps.map V.ref)) ∧ ∀ (j : Nat) (q : Addr) (u : V), ps[j]? = some q → ([vl, vr] : List V)[j]? = some u → H' q = some (.tup [u, .int m, .int ((k : Int) + 1)])) ?_ ?_ ?_ ?_
    · exact ⟨same_upd nD, [], rfl, upd_same, fun j q u e => by cases e⟩
    · rintro i H' _ ⟨s2, _⟩
      exact SqT.of (s2 _ _ hpp)
    · rintro i x H' hx ⟨s2, ps, lp, hD, hq⟩
      have hi2 : i < 2 := (List.getElem?_eq_some_iff.mp hx).1
      refine ⟨rfl, _, rfl, _, rfl, _, rfl, _, _, rfl, rfl, (by show 3 ≤ sizeLine; decide), fun q nq => ?_⟩
      have s3 : Same H' (upd H' q (.tup [x, .int m, .int ((k : Int) + 1)])) := same_upd nq
      have hD3 := s3 _ _ hD
      have nqD : q ≠ D := fun e => by rw [e, hD] at nq; cases nq
      refine ⟨_, hD3, by rw [List.length_map, lp, sizeLine_eq]; omega, same_set (s2.trans s3) nD, ps ++ [q], by rw [List.length_append, lp]; rfl, by rw [upd_same, List.map_append]; rfl, fun j q' u e1 e2 => ?_⟩
      by_cases hj : j < ps.length
      · rw [List.getElem?_append_left hj] at e1
        have z := hq j q' u e1 e2
        rw [upd_ne (fun e => by rw [e, hD] at z; cases z)]
        exact s3 _ _ z
      · rw [List.getElem?_append_right (by omega)] at e1
        have e : j - ps.length = 0 := by
          have := (List.getElem?_eq_some_iff.mp e1).1
          simp at this
          omega
        rw [e] at e1
        cases e1
        have ej : j = i := by omega
        rw [ej, hx] at e2
        cases e2
        rw [upd_ne nqD, upd_same]
    · rintro H' ⟨s2, ps, lp, hD, hq⟩
      obtain ⟨p1, p2, rfl⟩ : ∃ p1 p2, ps = [p1, p2] := by
        match ps, lp with
        | [p1, p2], _ => exact ⟨p1, p2, rfl⟩
      have q1 := hq 0 p1 vl rfl rfl
      have q2 := hq 1 p2 vr rfl rfl
      have s12 := s1.trans s2
      refine ⟨L, D, _, _, rfl, rfl, s12 _ _ hL, hD, by rw [List.length_map, sizeLine_eq]; show its.length + 2 ≤ _; omega, ?_⟩
      have kp : TupK H (upd H' L (.lst (its.map (fun i => V.ref i.a) ++ [V.ref p1, V.ref p2]))) := (TupK.same s12).set (s12 _ _ hL)
      have ek : (k : Int) + 1 = ((k + 1 : Nat) : Int) := by omega
      have g1 : (upd H' L (.lst (its.map (fun i => V.ref i.a) ++ [V.ref p1, V.ref p2]))) p1 = some (.tup [vl, .int m, .int (k + 1 : Nat)]) := by
        rw [upd_ne (fun e => by rw [e, s12 _ _ hL] at q1; cases q1), ← ek]
        exact q1
      have g2 : (upd H' L (.lst (its.map (fun i => V.ref i.a) ++ [V.ref p1, V.ref p2]))) p2 = some (.tup [vr, .int m, .int (k + 1 : Nat)]) := by
        rw [upd_ne (fun e => by rw [e, s12 _ _ hL] at q2; cases q2), ← ek]
        exact q2
      refine fin _ _ ⟨lsz (its ++ [⟨p1, vl, m, k + 1, l⟩, ⟨p2, vr, m, k + 1, r⟩]), ?_, its ++ [⟨p1, vl, m, k + 1, l⟩, ⟨p2, vr, m, k + 1, r⟩], lv, dp, _, _, _, _, _, rfl, rfl, by rw [upd_same, List.map_append]; rfl, fun i hx => ?_, ?_, ?_, same_set (s0.trans s12) nL⟩
      · rw [lsz_app]
        simp only [lsz]
        simp only [Fm.size] at e3
        omega
      · rcases List.mem_append.mp hx with e | e
        · exact (hi i e).keep kp
        · simp only [List.mem_cons, List.not_mem_nil, or_false] at e
          rcases e with rfl | rfl
          · exact ⟨g1, hl.keep kp, ok.2.1, m1, by show 1 ≤ k + 1; omega⟩
          · exact ⟨g2, hr'.keep kp, ok.2.2, m1, by show 1 ≤ k + 1; omega⟩
      · rw [lsum_app]
        rw [Fm.nl_node, Nat.mul_add] at e1
        simp only [lsum]
        omega
      · rw [lmax_app]
        rw [Fm.dep_node] at e2
        have := Fm.dep_pos l
        have := Fm.dep_pos r
        simp only [lmax]
        omega
theorem sz_rest (T : Free mg) (hN : Has P w K mg base CX0 1 "is_name" fN ["value"] spIsName) (hT : Has P w K mg base CX0 1 "is_triple" fT ["value"] spTriple) (hr : Room 1 (A.deeper (envOfC "form_size" (defScope sSize) s.heap.objs.size f cdv))) :
    PSs (cxZ P w K mg base f cdv A outer s H00 E) (whB.drop 2) (fun En σ H => AtB (fun _ => True) T0 L H0 σ H En) := by
  refine pss_of fun En σ H hyp => ?_
  obtain ⟨its, v, t, lv, dp, m, k, M, x0, x7, eσ, hL, hi, ft, ok, rt, m1, k1, kd, e1, e2, e3, s0, nL, l5, d6, fin⟩ := hyp.ex
  have hun := hr.un
  refine ⟨_, pss_one (ps_if (pt_val (pe_has hN hr (by rfl) pass0 (pa_cons (pv 4) pa_nil)))
          (pss_one (ps_set (i := 1) scSize.nd rfl (.inl rfl) (pe_op op_add (pv 1) (pv 5))))
          (pss_one (ps_if (pt_not (pt_val (pe_has hT hr (by rfl) pass0 (pa_cons (pv 4) pa_nil)))) pss_never
          (pss_one (ps_if (PW.pt (pw_and (pt_val (pe_has hT hr (by rfl) pass0 (pa_cons (pe_ix ix_tup (pv 4) pe_int (fun _ _ => rfl)) pa_nil))) (pw_and1 (pt_cmpR (op_eqD (by show (A.deeper (envOfC "form_size" (defScope sSize) s.heap.objs.size f cdv)).units + 64 < cLine; omega)) (pe_ix ix_tup (pv 4) pe_int (fun _ _ => rfl)) (pe_ix ix_tup (pv 4) pe_int (fun _ _ => rfl)) (nomark _)))))
            (sz_app (T0 := T0) (L := L) (H0 := H0) T hr)
            (sz_ext (T0 := T0) (L := L) (H0 := H0) T hr)))))), ?_⟩
  subst eσ
  refine ⟨_, rfl, v, rfl, ft.vok ok, _, rfl, ?_⟩
  cases ft with
  | leaf z =>
    rw [show nameV (.str z) = true from ok]
    refine iteT ⟨_, rfl, _, rfl, _, _, rfl, rfl, ?_⟩
    refine fin _ _ ⟨lsz its, ?_, its, lv + m, dp, _, _, _, _, _, rfl, rfl, hL, hi, ?_, ?_, s0⟩
    · have : (Fm.leaf z).size = 1 := rfl
      omega
    · have : m * (Fm.leaf z).nl = m := Nat.mul_one m
      omega
    · have : (Fm.leaf z).dep = 1 := rfl
      rw [this] at e2
      omega
  | node h hl hr' =>
    rename_i a s' vl vr l r
    rw [show nameV (.ref a) = false from rfl]
    refine iteF ?_
    refine ⟨_, rfl, .ref a, .node s' l r, rfl, .node h hl hr', ok, _, rfl, iteF ?_⟩
    refine ⟨_, rfl, a, _, _, vl, rfl, rfl, SqT.of h, atI_nat (j := 1) rfl, vl, l, rfl, hl, ok.2.1, _, rfl, ?_⟩
    have st : AtB (fun t => isNode t = true) T0 L H0 [x0, some (.int lv), some (.int dp), some (.ref L), some (.ref a), some (.int m), some (.int k), x7] H En := ⟨its, .ref a, .node s' l r, lv, dp, m, k, M, x0, x7, rfl, hL, hi, .node h hl hr', ok, rfl, m1, k1, kd, e1, e2, e3, s0, nL, l5, d6, fin⟩
    cases hn : isNode l with
    | false => exact iteF (iteF st)
    | true =>
      have dl : l.dep ≤ 60 ∧ r.dep ≤ 60 := by
        rw [Fm.dep_node] at e2
        omega
      refine iteT ⟨_, rfl, a, _, _, vl, rfl, rfl, SqT.of h, atI_nat (j := 1) rfl, _, rfl, a, _, _, vr, rfl, rfl, SqT.of h, atI_nat (j := 2) rfl, _, _, hl.dp, hr'.dp, Fm.shaped ok.2.1 dl.1, Fm.shaped ok.2.2 dl.2, _, rfl, ?_⟩
      cases he : PyData.eqv l.dat r.dat with
      | false => exact iteF st
      | true =>
        have er := Fm.eqv_eq he
        exact iteT ⟨its, .ref a, .node s' l r, lv, dp, m, k, M, x0, x7, rfl, hL, hi, .node h hl hr', ok, ⟨s', l, by rw [er]⟩, m1, k1, kd, e1, e2, e3, s0, nL, l5, d6, fin⟩
end
end K1

namespace K1
open PySem PySem.Spec
open PyProof.Rows L2 EnT StX SmX TxS DuX
section
variable {w : World} {P : Program} {base : Heap} {mg : Str → Option Value} {K : PySem.W.Frag} {aS : Addr}
theorem sz_any {f fN fT : Addr} {cdv : Value} {A : Around} {outer : List Env} {s : Shared} {H00 : Hp} {E : XK} (T0 : Fm) (H0 : Hp) (T : Free mg) (hN : Has P w K mg base CX0 1 "is_name" fN ["value"] spIsName) (hT : Has P w K mg base CX0 1 "is_triple" fT ["value"] spTriple) (hr : Room 1 (A.deeper (envOfC "form_size" (defScope sSize) s.heap.objs.size f cdv))) :
    PSs (cxZ P w K mg base f cdv A outer s H00 E) (whB.drop 2) (fun En σ H => ∃ L, AtB (fun _ => True) T0 L H0 σ H En) := pss_of fun En σ H h => by
  obtain ⟨L, h⟩ := h
  exact ⟨_, sz_rest (T0 := T0) (L := L) (H0 := H0) T hN hT hr, h⟩
theorem ok_size {f fN fT : Addr} {fd : FuncData} (F : Fun K "form_size" "form_size" sSize f fd) (T : Free mg) (hN : Has P w K mg base CX0 1 "is_name" fN ["value"] spIsName) (hT : Has P w K mg base CX0 1 "is_triple" fT ["value"] spTriple) : FnOk P w K mg base CX0 2 f fd ["value"] spSize := by
  refine F.ok scSize (fun vs H Q E h => ?_) (fun cdv A outer s H vs Q E hr h => ?_)
  · obtain ⟨v, t, rfl, _⟩ := h
    rfl
  · obtain ⟨v, t, rfl, mt, ok, l5, d6, q⟩ := h
    refine ⟨_, pss_cons (ps_asg2 pe_int (pg_name (i := 1) scSize.nd rfl (.inl rfl)) (pg_name (i := 2) scSize.nd rfl (.inl rfl)))
      (pss_cons (ps_set (i := 3) scSize.nd rfl (.inl rfl) (pe_lst (pa_cons (pe_tup (pa_cons (pv 0) (pa_cons pe_int (pa_cons pe_int pa_nil)))) pa_nil)))
      (pss_cons (ps_while PassesOwn.never (pt_truth (pv 3) (by intro _; rfl))
        (pss_cons (ps_asg (pe_bm0 PySem.F.plainAttrs_list PySem.F.slot_list_pop PySem.F.type_list_pop mt_pop (pv 3)) (pg_tup rfl (pgs_cons (pg_name (i := 4) scSize.nd rfl (.inl rfl)) (pgs_cons (pg_name (i := 5) scSize.nd rfl (.inr rfl)) (pgs_cons (pg_name (i := 6) scSize.nd rfl (.inr rfl)) pgs_nil)))))
        (pss_cons (ps_set (i := 2) scSize.nd rfl (.inl rfl) (pe_ifExp (pt_cmpR op_gt (pv 6) (pv 2) (nomark _)) (pv 6) (pv 2)))
        (sz_any t H T hN hT hr))))
      (pss_one (ps_ret (pe_tup (pa_cons (pv 1) (pa_cons (pv 2) pa_nil))))))), ?_⟩
    refine ⟨_, rfl, (by show 3 ≤ sizeLine; decide), fun a1 n1 => ⟨(by show 1 ≤ sizeLine; decide), fun L nL => ?_⟩⟩
    have s1 : Same H (upd H a1 (.tup [v, .int 1, .int 1])) := same_upd n1
    have h1 : (upd H a1 (.tup [v, .int 1, .int 1])) a1 = some (.tup [v, .int 1, .int 1]) := upd_same
    have nL0 : H L = none := by
      cases hh : H L with
      | none => rfl
      | some o =>
        rw [s1 _ _ hh] at nL
        cases nL
    have s2 := s1.trans (same_upd (o := .lst [.ref a1]) nL)
    have h2 := (same_upd (o := .lst [.ref a1]) nL) _ _ h1
    refine ⟨fun m σ H' => AtSz t L H m σ H', ⟨lsz [⟨a1, v, 1, 1, t⟩], [⟨a1, v, 1, 1, t⟩], 0, 0, _, _, _, _, _, rfl, rfl, upd_same, fun i hi => ?_, ?_, ?_, s2⟩, ?_⟩
    · rw [List.mem_singleton.mp hi]
      exact ⟨h2, mt.same s2, ok, Nat.le_refl _, Nat.le_refl _⟩
    · show 0 + (1 * t.nl + 0) = t.nl
      omega
    · have := Fm.dep_pos t
      show max 0 (max (1 + t.dep - 1) 0) = t.dep
      omega
    · rintro m σ1 H1 ⟨its, lv, dp, x0, x4, x5, x6, x7, rfl, rfl, hL, hi, e1, e2, s0⟩
      refine ⟨_, rfl, _, .inl ⟨_, SqL.of hL, rfl⟩, ?_⟩
      rcases List.eq_nil_or_concat its with rfl | ⟨ini, x, rfl⟩
      · refine iteF ?_
        refine ⟨_, rfl, _, rfl, (by show 2 ≤ sizeLine; decide), fun p np => ?_⟩
        have z1 : lv = t.nl := e1
        have z2 : dp = t.dep := by
          rw [← e2]
          show dp = max dp 0
          omega
        rw [z1, z2]
        exact q p _ (s0.trans (same_upd np)) upd_same
      · rw [List.concat_eq_append] at hL hi e1 e2 ⊢
        have em : ((ini ++ [x]).map fun i => V.ref i.a) = (ini.map fun i => V.ref i.a) ++ [.ref x.a] := by rw [List.map_append]; rfl
        rw [em] at hL ⊢
        have ek : (!((ini.map fun i => V.ref i.a) ++ [V.ref x.a]).isEmpty) = true := by simp
        rw [ek]
        refine iteT ⟨fun σ' H' => ∃ m', m' < lsz (ini ++ [x]) ∧ AtSz t L H m' σ' H', fun σ' H' h => h, ?_⟩
        have X := hi x (by simp)
        refine ⟨_, rfl, .inl ⟨rfl, _, SqL.of hL⟩, L, _, .ref x.a, rfl, rfl, hL, by simp, ?_⟩
        have ed : ((ini.map fun i => V.ref i.a) ++ [V.ref x.a]).dropLast = ini.map fun i => V.ref i.a := by simp
        rw [ed]
        have kp : TupK H1 (upd H1 L (.lst (ini.map fun i => V.ref i.a))) := TupK.set (H := H1) (H' := H1) (fun a xs h => h) hL
        have s3 : Same H (upd H1 L (.lst (ini.map fun i => V.ref i.a))) := same_set s0 nL0
        have X' := X.keep kp
        have hL' : (upd H1 L (.lst (ini.map fun i => V.ref i.a))) L = some (.lst (ini.map fun i => V.ref i.a)) := upd_same
        generalize upd H1 L (.lst (ini.map fun i => V.ref i.a)) = H2 at kp s3 X' hL' ⊢
        refine ⟨x.a, _, rfl, SqT.of X'.h, rfl, _, _, rfl, _, _, rfl, _, _, rfl, rfl, ?_⟩
        refine ⟨_, rfl, _, rfl, _, _, rfl, rfl, _, rfl, ?_⟩
        rw [lsum_app] at e1
        rw [lmax_app] at e2
        simp only [lsum, lmax] at e1 e2
        have D := Fm.dep_pos x.t
        have K1' := X.k1
        have key : ∀ dp' : Nat, dp' = max dp x.k → ∀ σ' : L2.St, σ' = [x0, some (.int lv), some (.int dp'), some (.ref L), some x.v, some (.int x.m), some (.int x.k), x7] → ∀ En : Ends, (∀ σ' H', (∃ m', m' < lsz (ini ++ [x]) ∧ AtSz t L H m' σ' H') → En.nx σ' H') → ∃ L', AtB (fun _ => True) t L' H σ' H2 En := fun dp' ed' σ' es En hn => ⟨L, ini, x.v, x.t, lv, dp', x.m, x.k, lsz (ini ++ [x]), _, _, es, hL', fun i hx => (hi i (by simp [hx])).keep kp, X'.f, X.ok, trivial, X.m1, X.k1, by omega, by omega, by omega, by rw [lsz_app]; simp only [lsz]; omega, s3, nL0, l5, d6, hn⟩
        by_cases hk : ((x.k : Nat) : Int) > ((dp : Nat) : Int)
        · rw [decide_eq_true hk]
          exact iteT ⟨_, rfl, key x.k (by omega) _ rfl _ fun σ' H' h => h⟩
        · rw [decide_eq_false hk]
          exact iteF ⟨_, rfl, key dp (by omega) _ rfl _ fun σ' H' h => h⟩
end
end K1

namespace K1
open PySem PySem.Spec
open PyProof.Rows L2 EnT StX SmX TxS DuX
theorem empty_app (x : Str) : Str.empty ++ x = x := by
  cases x with
  | mk c =>
    show (⟨#[] ++ c⟩ : Str) = ⟨c⟩
    simp
/-! ### texts of forms -/
def spTextF (n : Nat) : Sp := fun vs H Q _ => ∃ (v : V) (t : Fm), vs = [v] ∧ FmAt H v t ∧ t.Ok ∧ t.dep ≤ n ∧ t.nl ≤ 500 ∧ Q (.str (t.txt false)) H
def spSideF (n : Nat) : Sp := fun vs H Q _ => ∃ (v : V) (t : Fm), vs = [v] ∧ FmAt H v t ∧ t.Ok ∧ t.dep ≤ n ∧ t.nl ≤ 500 ∧ Q (.str (t.txt true)) H
abbrev nmTx : List Str := ["form", "sign", "left", "right"]
section
variable {w : World} {P : Program} {base : Heap} {mg : Str → Option Value} {K : PySem.W.Frag} {aS : Addr}
theorem scText : FnScope nmTx ["form"] (defScope sText) := ⟨rfl, rfl, rfl, by decide +kernel, rfl, by decide +kernel, by decide +kernel⟩
theorem scSide : FnScope ["form"] ["form"] (defScope sSide) := ⟨rfl, rfl, rfl, by decide +kernel, rfl, by decide +kernel, by decide +kernel⟩
theorem leaf_only {t : Fm} (h : t.dep ≤ 1) : ∃ z, t = .leaf z := by
  cases t with
  | leaf z => exact ⟨z, rfl⟩
  | node s l r =>
    have := Fm.dep_pos l
    rw [Fm.dep_node] at h
    omega
theorem ok_texts {f g : Addr} {fd gd : FuncData} (F : Fun K "form_text" "form_text" sText f fd) (G : Fun K "side_text" "side_text" sSide g gd) (T : Free mg) (mgF : mg "form_text" = some (.ref f)) (mgG : mg "side_text" = some (.ref g)) :
    ∀ n : Nat, FnOk P w K mg base CX0 (2 * n + 2) f fd ["form"] (spTextF (n + 1)) ∧ FnOk P w K mg base CX0 (2 * n + 3) g gd ["form"] (spSideF (n + 1)) := by
  have bF : L2.Binds K fd ["form"] [] := F.binds (ps := ["form"]) fun _ _ _ _ _ _ us hl => match us, hl with | [_], _ => rfl
  have bG : L2.Binds K gd ["form"] [] := G.binds (ps := ["form"]) fun _ _ _ _ _ _ us hl => match us, hl with | [_], _ => rfl
  have e1 : (" " : Str).length = 1 := by decide +kernel
  have e2 : ("(" : Str).length = 1 := by decide +kernel
  have e3 : (")" : Str).length = 1 := by decide +kernel
  intro n
  induction n with
  | zero =>
    refine ⟨?_, ?_⟩
    · refine F.ok scText (fun vs H Q E h => ?_) (fun cdv A outer s H vs Q E hr h => ?_)
      · obtain ⟨v, t, rfl, _⟩ := h
        rfl
      · obtain ⟨v, t, rfl, m, ok, d, l, q⟩ := h
        obtain ⟨z, rfl⟩ := leaf_only d
        refine ⟨_, pss_cons (ps_if (pt_val (pe_callB call_isi (by rfl) T.isinstance (by decide +kernel) (pa_cons (pv 0) (pa_cons (pe_bltn (v := .ty "str") (u := .type "str") (by rfl) T.str (by decide +kernel) rfl) pa_nil)))) (pss_one (ps_ret (pv 0))) pss_nil) pss_never, ?_⟩
        cases m
        exact ⟨_, rfl, _, _, _, _, true, rfl, .ty _, .base (.str z), kit_ty (by decide +kernel), true, rfl, iteT ⟨_, rfl, q⟩⟩
    · refine G.ok scSide (fun vs H Q E h => ?_) (fun cdv A outer s H vs Q E hr h => ?_)
      · obtain ⟨v, t, rfl, _⟩ := h
        rfl
      · obtain ⟨v, t, rfl, m, ok, d, l, q⟩ := h
        obtain ⟨z, rfl⟩ := leaf_only d
        refine ⟨_, pss_cons (ps_if (pt_val (pe_callB call_isi (by rfl) T.isinstance (by decide +kernel) (pa_cons (pv 0) (pa_cons (pe_bltn (v := .ty "str") (u := .type "str") (by rfl) T.str (by decide +kernel) rfl) pa_nil)))) (pss_one (ps_ret (pv 0))) pss_nil) pss_never, ?_⟩
        cases m
        exact ⟨_, rfl, _, _, _, _, true, rfl, .ty _, .base (.str z), kit_ty (by decide +kernel), true, rfl, iteT ⟨_, rfl, q⟩⟩
  | succ n ih =>
    obtain ⟨_, ihS⟩ := ih
    have hS : Has P w K mg base CX0 (2 * n + 3) "side_text" g ["form"] (spSideF (n + 1)) := ⟨mgG, G.kp, gd, ihS, bG⟩
    have one : FnOk P w K mg base CX0 (2 * (n + 1) + 2) f fd ["form"] (spTextF (n + 1 + 1)) := by
      refine F.ok (k := 2 * n + 3) scText (fun vs H Q E h => ?_) (fun cdv A outer s H vs Q E hr h => ?_)
      · obtain ⟨v, t, rfl, _⟩ := h
        rfl
      · obtain ⟨v, t, rfl, m, ok, d, l, q⟩ := h
        refine ⟨_, pss_cons (ps_if (pt_val (pe_callB call_isi (by rfl) T.isinstance (by decide +kernel) (pa_cons (pv 0) (pa_cons (pe_bltn (v := .ty "str") (u := .type "str") (by rfl) T.str (by decide +kernel) rfl) pa_nil)))) (pss_one (ps_ret (pv 0))) pss_nil)
          (pss_cons (ps_asg (pv 0) (pg_tup rfl (pgs_cons (pg_name (i := 1) scText.nd rfl (.inl rfl)) (pgs_cons (pg_name (i := 2) scText.nd rfl (.inl rfl)) (pgs_cons (pg_name (i := 3) scText.nd rfl (.inl rfl)) pgs_nil)))))
          (pss_one (ps_ret (pe_joined (.cons (pe_fmt (pe_has hS hr (by rfl) pass0 (pa_cons (pv 2) pa_nil))) (.cons pe_str (.cons (pe_fmt (pv 1)) (.cons pe_str (.cons (pe_fmt (pe_has hS hr (by rfl) pass0 (pa_cons (pv 3) pa_nil))) .nil))))))))), ?_⟩
        cases m with
        | leaf z => exact ⟨_, rfl, _, _, _, _, true, rfl, .ty _, .base (.str z), kit_ty (by decide +kernel), true, rfl, iteT ⟨_, rfl, q⟩⟩
        | node h hl hr' =>
          rename_i a s' vl vr l' r'
          rw [Fm.dep_node] at d
          have t1 := txt_len true l' ok.2.1
          have t2 := txt_len true r' ok.2.2
          rw [Fm.nl_node] at l
          have c1 := (sign_ok ok.1).1
          have z0 : Str.empty.length = 0 := rfl
          refine ⟨_, rfl, _, _, _, _, false, rfl, .ty _, .base (.tup h), kit_ty (by decide +kernel), false, rfl, iteF ?_⟩
          refine ⟨_, rfl, a, _, rfl, SqT.of h, rfl, _, _, rfl, _, _, rfl, _, _, rfl, rfl, ?_⟩
          refine ⟨_, rfl, vl, l', rfl, hl, ok.2.1, by omega, by omega, .inl ⟨_, rfl, by rw [sizeLine_eq]; omega, _, rfl, by rw [strLen_append, z0, sizeLine_eq]; omega, _, rfl, by rw [strLen_append, strLen_append, z0, e1, sizeLine_eq]; omega, ?_⟩⟩
          refine ⟨_, rfl, .inl ⟨_, rfl, by rw [c1, sizeLine_eq]; omega, _, rfl, by rw [strLen_append, strLen_append, strLen_append, z0, e1, c1, sizeLine_eq]; omega, _, rfl, by rw [strLen_append, strLen_append, strLen_append, strLen_append, z0, e1, c1, sizeLine_eq]; omega, ?_⟩⟩
          refine ⟨_, rfl, vr, r', rfl, hr', ok.2.2, by omega, by omega, .inl ⟨_, rfl, by rw [sizeLine_eq]; omega, _, rfl, by rw [strLen_append, strLen_append, strLen_append, strLen_append, strLen_append, z0, e1, c1, sizeLine_eq]; omega, ?_⟩⟩
          rw [empty_app]
          exact q
    refine ⟨one, ?_⟩
    have hT : Has P w K mg base CX0 (2 * (n + 1) + 2) "form_text" f ["form"] (spTextF (n + 1 + 1)) := ⟨mgF, F.kp, fd, one, bF⟩
    refine G.ok (k := 2 * (n + 1) + 2) scSide (fun vs H Q E h => ?_) (fun cdv A outer s H vs Q E hr h => ?_)
    · obtain ⟨v, t, rfl, _⟩ := h
      rfl
    · obtain ⟨v, t, rfl, m, ok, d, l, q⟩ := h
      refine ⟨_, pss_cons (ps_if (pt_val (pe_callB call_isi (by rfl) T.isinstance (by decide +kernel) (pa_cons (pv 0) (pa_cons (pe_bltn (v := .ty "str") (u := .type "str") (by rfl) T.str (by decide +kernel) rfl) pa_nil)))) (pss_one (ps_ret (pv 0))) pss_nil)
        (pss_one (ps_ret (pe_joined (.cons pe_str (.cons (pe_fmt (pe_has hT hr (by rfl) pass0 (pa_cons (pv 0) pa_nil))) (.cons pe_str .nil)))))), ?_⟩
      have tl := txt_len false t ok
      cases m with
      | leaf z => exact ⟨_, rfl, _, _, _, _, true, rfl, .ty _, .base (.str z), kit_ty (by decide +kernel), true, rfl, iteT ⟨_, rfl, q⟩⟩
      | node h hl hr' =>
        rename_i a s' vl vr l' r'
        have z0 : Str.empty.length = 0 := rfl
        refine ⟨_, rfl, _, _, _, _, false, rfl, .ty _, .base (.tup h), kit_ty (by decide +kernel), false, rfl, iteF ?_⟩
        refine ⟨_, rfl, by rw [strLen_append, z0, e2, sizeLine_eq]; omega, _, rfl, .ref a, .node s' l' r', rfl, .node h hl hr', ok, d, l, .inl ⟨_, rfl, by rw [sizeLine_eq]; omega, _, rfl, by rw [strLen_append, strLen_append, z0, e2, sizeLine_eq]; omega, _, rfl, by rw [strLen_append, strLen_append, strLen_append, z0, e2, e3, sizeLine_eq]; omega, ?_⟩⟩
        rw [empty_app]
        exact q
end
end K1

namespace K1
open PySem PySem.Spec
open PyProof.Rows L2 EnT StX SmX TxS DuX
/-! ### what is read: parts, rows of parts, the stack of rows -/
inductive Part where
  | f (t : Fm)
  | s (z : Str)
inductive PartAt (H : Hp) : V → Part → Prop where
  | f {a : Addr} {v : V} {t : Fm} (h : H a = some (.tup [v, .int (t.nl : Nat)])) (m : FmAt H v t) : PartAt H (.ref a) (.f t)
  | s (z : Str) : PartAt H (.str z) (.s z)
theorem PartAt.keep {H H' : Hp} (k : TupK H H') {v : V} {x : Part} (h : PartAt H v x) : PartAt H' v x := by
  cases h with
  | f h m => exact .f (k _ _ h) (m.keep k)
  | s z => exact .s z
inductive PartsAt (H : Hp) : List V → List Part → Prop where
  | nil : PartsAt H [] []
  | cons {v : V} {x : Part} {vs : List V} {xs : List Part} (h : PartAt H v x) (r : PartsAt H vs xs) : PartsAt H (v :: vs) (x :: xs)
theorem PartsAt.keep {H H' : Hp} (k : TupK H H') {vs : List V} {xs : List Part} (h : PartsAt H vs xs) : PartsAt H' vs xs := by
  induction h with
  | nil => exact .nil
  | cons h _ ih => exact .cons (h.keep k) ih
theorem PartsAt.len {H : Hp} {vs : List V} {xs : List Part} (h : PartsAt H vs xs) : vs.length = xs.length := by
  induction h with
  | nil => rfl
  | cons _ _ ih => rw [List.length_cons, List.length_cons, ih]
theorem PartsAt.snoc {H : Hp} {vs : List V} {xs : List Part} {v : V} {x : Part} (h : PartsAt H vs xs) (p : PartAt H v x) : PartsAt H (vs ++ [v]) (xs ++ [x]) := by
  induction h with
  | nil => exact .cons p .nil
  | cons h _ ih => exact .cons h ih
/-- an even row: nothing, or a form and a sign -/
inductive Even : List Part → Prop where
  | nil : Even []
  | two (t : Fm) (z : Str) : Even [.f t, .s z]
abbrev tOpen : Str := "("
abbrev tClose : Str := ")"
inductive Step : List (List Part) → Str → List (List Part) → Prop where
  | close (z : Str) (l r : Fm) (o : List Part) (os : List (List Part)) (h : Even o) : Step ([.f l, .s z, .f r] :: o :: os) tClose ((o ++ [.f (.node z l r)]) :: os)
  | sign (l : Fm) (z : Str) (os : List (List Part)) (h : z ∈ signs) : Step ([.f l] :: os) z ([.f l, .s z] :: os)
  | open_ (i : List Part) (os : List (List Part)) (h : Even i) : Step (i :: os) tOpen ([] :: i :: os)
  | name (i : List Part) (os : List (List Part)) (h : Even i) (z : Str) (n : nameB z = true) : Step (i :: os) z ((i ++ [.f (.leaf z)]) :: os)
inductive Runs : List (List Part) → List Str → List (List Part) → Prop where
  | nil (st : List (List Part)) : Runs st [] st
  | cons {st st1 st2 : List (List Part)} {z : Str} {ws : List Str} (h : Step st z st1) (r : Runs st1 ws st2) : Runs st (z :: ws) st2
theorem Runs.app {a b c : List (List Part)} {x y : List Str} (h : Runs a x b) (g : Runs b y c) : Runs a (x ++ y) c := by
  induction h with
  | nil st => exact g
  | cons h _ ih => exact .cons h (ih g)
/-- the words of a form's text -/
def Fm.tok : Bool → Fm → List Str
  | _, .leaf z => [z]
  | false, .node s l r => Fm.tok true l ++ (s :: Fm.tok true r)
  | true, .node s l r => tOpen :: (Fm.tok true l ++ (s :: (Fm.tok true r ++ [tClose])))
theorem runs_tok : ∀ (t : Fm) (i : List Part) (os : List (List Part)), t.Ok → Even i → Runs (i :: os) (t.tok true) ((i ++ [.f t]) :: os)
  | .leaf z, i, os, ok, e => .cons (.name i os e z ok) (.nil _)
  | .node s l r, i, os, ok, e => .cons (.open_ i os e) (Runs.app (runs_tok l [] (i :: os) ok.2.1 .nil) (.cons (.sign l s (i :: os) ok.1) (Runs.app (runs_tok r [.f l, .s s] (i :: os) ok.2.2 (.two l s)) (.cons (.close s l r i os e) (.nil _)))))
/-- what stands in the outermost row at the end -/
def Fm.outer : Fm → List Part
  | .leaf z => [.f (.leaf z)]
  | .node s l r => [.f l, .s s, .f r]
theorem runs_all (t : Fm) (ok : t.Ok) : Runs [[]] (t.tok false) [t.outer] := by
  cases t with
  | leaf z => exact .cons (.name [] [] .nil z ok) (.nil _)
  | node s l r => exact Runs.app (runs_tok l [] [] ok.2.1 .nil) (.cons (.sign l s [] ok.1) (runs_tok r [.f l, .s s] [] ok.2.2 (.two l s)))
/-! ### joined -/
def spJoined : Sp := fun vs H Q _ => ∃ (a : Addr) (xs : List V) (z : Str) (l r : Fm), vs = [.ref a] ∧ H a = some (.lst xs) ∧ PartsAt H xs [.f l, .s z, .f r] ∧ ∀ (v : V) (H' : Hp), Same H H' → PartAt H' v (.f (.node z l r)) → Q v H'
abbrev nmJo : List Str := ["parts", "left", "left_leaves", "sign", "right", "right_leaves"]
section
variable {w : World} {P : Program} {base : Heap} {mg : Str → Option Value} {K : PySem.W.Frag} {aS : Addr}
theorem scJoined : FnScope nmJo ["parts"] (defScope sJoined) := ⟨rfl, rfl, rfl, by decide +kernel, rfl, by decide +kernel, by decide +kernel⟩
theorem ok_joined {f : Addr} {fd : FuncData} (F : Fun K "joined" "joined" sJoined f fd) : FnOk P w K mg base CX0 1 f fd ["parts"] spJoined := by
  refine F.ok scJoined (fun vs H Q E h => ?_) (fun cdv A outer s H vs Q E hr h => ?_)
  · obtain ⟨a, xs, z, l, r, rfl, _⟩ := h
    rfl
  · obtain ⟨a, xs, z, l, r, rfl, ha, pa, q⟩ := h
    refine ⟨_, pss_cons (ps_asg (pv 0) (pg_unl rfl (pgs_cons (pg_tup rfl (pgs_cons (pg_name (i := 1) scJoined.nd rfl (.inl rfl)) (pgs_cons (pg_name (i := 2) scJoined.nd rfl (.inl rfl)) pgs_nil)))
        (pgs_cons (pg_name (i := 3) scJoined.nd rfl (.inl rfl)) (pgs_cons (pg_tup rfl (pgs_cons (pg_name (i := 4) scJoined.nd rfl (.inl rfl)) (pgs_cons (pg_name (i := 5) scJoined.nd rfl (.inl rfl)) pgs_nil))) pgs_nil)))))
      (pss_one (ps_ret (pe_tup (pa_cons (pe_tup (pa_cons (pv 3) (pa_cons (pv 1) (pa_cons (pv 4) pa_nil)))) (pa_cons (pe_op op_add (pv 2) (pv 5)) pa_nil))))), ?_⟩
    cases pa with
    | cons p1 r1 =>
    cases r1 with
    | cons p2 r2 =>
    cases r2 with
    | cons p3 r3 =>
    cases r3
    cases p1 with
    | f h1 m1 =>
    cases p2
    cases p3 with
    | f h3 m3 =>
    rename_i a1 v1 a3 v3
    refine ⟨_, rfl, a, _, rfl, SqL.of ha, rfl, _, _, rfl, ?_⟩
    refine ⟨a1, _, rfl, SqT.of h1, rfl, _, _, rfl, _, _, rfl, rfl, ?_⟩
    refine ⟨_, _, rfl, _, _, rfl, a3, _, rfl, SqT.of h3, rfl, _, _, rfl, _, _, rfl, rfl, rfl, ?_⟩
    refine ⟨_, rfl, _, rfl, _, rfl, (by show 3 ≤ sizeLine; decide), fun p np => ?_⟩
    refine ⟨_, rfl, _, rfl, _, _, rfl, rfl, (by show 2 ≤ sizeLine; decide), fun p2 np2 => ?_⟩
    have s1 : Same H (upd H p (.tup [.str z, v1, v3])) := same_upd np
    have hp : (upd H p (.tup [.str z, v1, v3])) p = some (.tup [.str z, v1, v3]) := upd_same
    have s2 := same_upd (o := .tup [.ref p, .int ((l.nl : Nat) + (r.nl : Nat))]) np2
    have e : ((l.nl : Nat) : Int) + (r.nl : Nat) = (((Fm.node z l r).nl : Nat) : Int) := by rw [Fm.nl_node]; omega
    refine q (.ref p2) _ (s1.trans s2) (.f (v := .ref p) ?_ (.node (s2 _ _ hp) (m1.same (s1.trans s2)) (m3.same (s1.trans s2))))
    rw [← e]
    exact upd_same
end
end K1

namespace K1
open PySem PySem.Spec
open PyProof.Rows L2 EnT StX SmX TxS DuX
/-! ### the stack on the heap, the innermost row first -/
inductive RowsAt (H0 H : Hp) (L : Addr) : List Addr → List (List Part) → Prop where
  | nil : RowsAt H0 H L [] []
  | cons {a : Addr} {as : List Addr} {vs : List V} {xs : List Part} {st : List (List Part)} (h : H a = some (.lst vs)) (p : PartsAt H vs xs) (n : H0 a = none) (ne : a ≠ L) (nd : a ∉ as) (r : RowsAt H0 H L as st) : RowsAt H0 H L (a :: as) (xs :: st)
theorem RowsAt.len {H0 H : Hp} {L : Addr} {as : List Addr} {st : List (List Part)} (h : RowsAt H0 H L as st) : as.length = st.length := by
  induction h with
  | nil => rfl
  | cons _ _ _ _ _ _ ih => rw [List.length_cons, List.length_cons, ih]
theorem RowsAt.move {H0 H H' : Hp} {L : Addr} {as : List Addr} {st : List (List Part)} (k : TupK H H') (g : ∀ a vs, a ∈ as → H a = some (.lst vs) → H' a = some (.lst vs)) (h : RowsAt H0 H L as st) : RowsAt H0 H' L as st := by
  induction h with
  | nil => exact .nil
  | cons h p n ne nd _ ih => exact .cons (g _ _ (List.mem_cons_self ..) h) (p.keep k) n ne nd (ih fun a vs m e => g a vs (List.mem_cons_of_mem _ m) e)
theorem RowsAt.same {H0 H H' : Hp} {L : Addr} {as : List Addr} {st : List (List Part)} (s : Same H H') (h : RowsAt H0 H L as st) : RowsAt H0 H' L as st := h.move (.same s) fun a vs _ e => s _ _ e
/-- a list that is none of the rows is stored into -/
theorem RowsAt.set {H0 H : Hp} {L t : Addr} {as : List Addr} {st : List (List Part)} {ys : List V} {o : HO} (ht : H t = some (.lst ys)) (n : t ∉ as) (h : RowsAt H0 H L as st) : RowsAt H0 (upd H t o) L as st :=
  h.move (TupK.set (H := H) (H' := H) (fun a xs e => e) ht) fun a vs m e => by rw [upd_ne (fun z => n (by rw [← z]; exact m))]; exact e
structure StackAt (H0 H : Hp) (L : Addr) (as : List Addr) (st : List (List Part)) : Prop where
  hL : H L = some (.lst (as.reverse.map V.ref))
  nL : H0 L = none
  rows : RowsAt H0 H L as st
theorem StackAt.same {H0 H H' : Hp} {L : Addr} {as : List Addr} {st : List (List Part)} (s : Same H H') (h : StackAt H0 H L as st) : StackAt H0 H' L as st := ⟨s _ _ h.hL, h.nL, h.rows.same s⟩
def spTake (H0 : Hp) : Sp := fun vs H Q _ => ∃ (L : Addr) (w : Str) (as : List Addr) (st st' : List (List Part)), vs = [.ref L, .str w] ∧ StackAt H0 H L as st ∧ Step st w st' ∧ Same H0 H ∧ st.length ≤ 100000 ∧ w.length ≤ sizeLine ∧
  ∀ (as' : List Addr) (H' : Hp), Same H0 H' → StackAt H0 H' L as' st' → Q (.bl true) H'
abbrev nmTk : List Str := ["opened", "word", "innermost"]
theorem last_ref {as : List Addr} {a : Addr} : atI ((a :: as).reverse.map V.ref) (-1) = some (.ref a) := by
  rw [List.reverse_cons, List.map_append]
  exact atI_last _ _
theorem last_at {as : List Addr} {a : Addr} : ((a :: as).reverse.map V.ref)[((a :: as).reverse.map V.ref).length - 1]? = some (.ref a) := by
  rw [List.reverse_cons, List.map_append]
  simp
theorem last_drop {as : List Addr} {a : Addr} : ((a :: as).reverse.map V.ref).dropLast = as.reverse.map V.ref := by
  rw [List.reverse_cons, List.map_append]
  simp
theorem even_len {i : List Part} (h : Even i) : i.length = 0 ∨ i.length = 2 := by
  cases h
  · exact .inl rfl
  · exact .inr rfl
theorem in_02 {n : Nat} : inV (.int n) [V.int 0, V.int 2] = decide (n = 0 ∨ n = 2) := by
  by_cases h0 : n = 0
  · subst h0
    rfl
  · by_cases h2 : n = 2
    · subst h2
      rfl
    · rw [decide_eq_false (by omega)]
      have a : eqV (.int 0) (.int n) = false := by
        show ((0 : Int) == (n : Int)) = false
        exact beq_eq_false_iff_ne.mpr (by omega)
      have b : eqV (.int 2) (.int n) = false := by
        show ((2 : Int) == (n : Int)) = false
        exact beq_eq_false_iff_ne.mpr (by omega)
      unfold inV
      simp [a, b]
theorem sign_no {z : Str} (h : z ∈ signs) : z ≠ tClose ∧ z ≠ tOpen := by
  simp only [signs, List.mem_cons, List.not_mem_nil, or_false] at h
  rcases h with rfl | rfl | rfl | rfl <;> decide +kernel
theorem name_no {z : Str} (h : nameB z = true) : z ≠ tClose ∧ z ≠ tOpen := ⟨fun e => by
  rw [e] at h
  revert h
  decide +kernel, fun e => by
  rw [e] at h
  revert h
  decide +kernel⟩
section
variable {w : World} {P : Program} {base : Heap} {mg : Str → Option Value} {K : PySem.W.Frag} {aS : Addr}
theorem scTake : FnScope nmTk ["opened", "word"] (defScope sTake) := ⟨rfl, rfl, rfl, by decide +kernel, rfl, by decide +kernel, by decide +kernel⟩
theorem ok_take {f fJ fN : Addr} {fd : FuncData} (H0 : Hp) (F : Fun K "take_word" "take_word" sTake f fd) (G : Gf K mg aS) (hJ : Has P w K mg base CX0 1 "joined" fJ ["parts"] spJoined) (hN : Has P w K mg base CX0 1 "is_name" fN ["value"] spIsName) : FnOk P w K mg base CX0 2 f fd ["opened", "word"] (spTake H0) := by
  have T := G.T
  refine F.ok scTake (fun vs H Q E h => ?_) (fun cdv A outer s H vs Q E hr h => ?_)
  · obtain ⟨L, z, as, st, st', rfl, _⟩ := h
    rfl
  · obtain ⟨L, z, as, st, st', rfl, sk, step, s0, ls, lz, q⟩ := h
    refine ⟨_, pss_cons (ps_set (i := 2) scTake.nd rfl (.inl rfl) (pe_ix ix_list (pv 0) (pe_un un_neg pe_int) (fun _ _ => rfl)))
      (pss_cons (ps_if (PW.pt (pw_and (pt_cmpR op_eq (pv 1) pe_str (nomark _)) (pw_and (pt_cmpR op_eq (pe_callB call_len_seq (by rfl) T.len PySem.boot_len (pa_cons (pv 2) pa_nil)) pe_int (nomark _)) (pw_and1 (pt_cmpR op_gt (pe_callB call_len_seq (by rfl) T.len PySem.boot_len (pa_cons (pv 0) pa_nil)) pe_int (nomark _))))))
          (pss_cons (ps_expr (pe_bm0 PySem.F.plainAttrs_list PySem.F.slot_list_pop PySem.F.type_list_pop mt_pop (pv 0)))
          (pss_one (ps_expr (pe_bm PySem.F.plainAttrs_list PySem.F.slot_list_append PySem.F.type_list_append mt_append (pe_ix ix_list (pv 0) (pe_un un_neg pe_int) (fun _ _ => rfl)) (pa_cons (pe_has hJ hr (by rfl) pass0 (pa_cons (pv 2) pa_nil)) pa_nil)))))
        (pss_one (ps_if (PW.pt (pw_and (pt_cmpR op_eq (pe_callB call_len_seq (by rfl) T.len PySem.boot_len (pa_cons (pv 2) pa_nil)) pe_int (nomark _)) (pw_and1 (pt_cmpR op_in_seq (pv 1) (pe_glob (v := .ref aS) (by rfl) G.sg rfl) (by rfl)))))
          (pss_one (ps_expr (pe_bm PySem.F.plainAttrs_list PySem.F.slot_list_append PySem.F.type_list_append mt_append (pv 2) (pa_cons (pv 1) pa_nil))))
        (pss_one (ps_if (PW.pt (pw_and (pt_cmpR op_in_seq (pe_callB call_len_seq (by rfl) T.len PySem.boot_len (pa_cons (pv 2) pa_nil)) (pe_tup (pa_cons pe_int (pa_cons pe_int pa_nil))) (by rfl)) (pw_and1 (pt_cmpR op_eq (pv 1) pe_str (nomark _)))))
          (pss_one (ps_expr (pe_bm PySem.F.plainAttrs_list PySem.F.slot_list_append PySem.F.type_list_append mt_append (pv 0) (pa_cons (pe_lst pa_nil) pa_nil))))
        (pss_one (ps_if (PW.pt (pw_and (pt_cmpR op_in_seq (pe_callB call_len_seq (by rfl) T.len PySem.boot_len (pa_cons (pv 2) pa_nil)) (pe_tup (pa_cons pe_int (pa_cons pe_int pa_nil))) (by rfl)) (pw_and1 (pt_val (pe_has hN hr (by rfl) pass0 (pa_cons (pv 1) pa_nil))))))
          (pss_one (ps_expr (pe_bm PySem.F.plainAttrs_list PySem.F.slot_list_append PySem.F.type_list_append mt_append (pv 2) (pa_cons (pe_tup (pa_cons (pv 1) (pa_cons pe_int pa_nil))) pa_nil))))
        pss_never)))))))
      (pss_one (ps_ret pe_bl))), ?_⟩
    have hL := sk.hL
    have nL := sk.nL
    obtain ⟨_, _, rows⟩ := sk
    cases step with
    | sign l z os hz =>
      cases rows with
      | cons ha p na ne nd r =>
        rename_i a ar vs hL
        have lv := p.len
        refine ⟨_, rfl, _, rfl, L, _, _, .ref a, rfl, rfl, SqL.of hL, last_ref, ?_⟩
        refine ⟨_, rfl, rfl, _, rfl, ?_⟩
        rw [decide_eq_false (fun e => (sign_no hz).1 (V.str.inj e))]
        refine iteF (iteF ?_)
        refine ⟨_, rfl, a, _, rfl, .inl (SqL.of ha), rfl, _, rfl, ?_⟩
        rw [decide_eq_true (by rw [lv]; rfl)]
        refine iteT ⟨_, rfl, aS, _, rfl, .inr (G.st H), rfl, strs_flat _, _, rfl, ?_⟩
        rw [inV_mem, decide_eq_true hz]
        refine iteT ⟨_, rfl, .inl ⟨rfl, _, SqL.of ha⟩, _, rfl, a, _, _, rfl, rfl, ha, by rw [lv, sizeLine_eq]; show 1 < _; decide, ?_⟩
        have aL : L ≠ a := fun e => ne e.symm
        refine q (a :: ar) _ (same_set s0 na) ⟨by rw [upd_ne aL]; exact hL, nL, .cons upd_same ((p.keep (TupK.set (H := H) (H' := H) (fun a xs e => e) ha)).snoc (.s z)) na ne nd (r.set ha nd)⟩
    | open_ i os hi =>
      cases rows with
      | cons ha p na ne nd r =>
        rename_i a ar vs hL
        have lv := p.len
        have el := even_len hi
        refine ⟨_, rfl, _, rfl, L, _, _, .ref a, rfl, rfl, SqL.of hL, last_ref, ?_⟩
        refine ⟨_, rfl, rfl, _, rfl, ?_⟩
        rw [decide_eq_false (fun e => absurd (V.str.inj e) (by decide +kernel))]
        refine iteF (iteF ?_)
        refine ⟨_, rfl, a, _, rfl, .inl (SqL.of ha), rfl, _, rfl, ?_⟩
        rw [decide_eq_false (fun e => by have := V.int.inj e; omega)]
        refine iteF (iteF ?_)
        refine ⟨_, rfl, a, _, rfl, .inl (SqL.of ha), (by show 2 ≤ sizeLine; decide), fun t nt => ?_⟩
        have s1 : Same H (upd H t (.tup [.int 0, .int 2])) := same_upd nt
        refine ⟨t, _, rfl, .inr (SqT.of upd_same), rfl, rfl, _, rfl, ?_⟩
        rw [in_02, decide_eq_true (by rw [lv]; exact el)]
        refine iteT ⟨_, rfl, rfl, _, rfl, ?_⟩
        rw [decide_eq_true rfl]
        refine iteT ?_
        generalize upd H t (.tup [.int 0, .int 2]) = H1 at s1 ⊢
        have hL1 := s1 _ _ hL
        refine ⟨_, rfl, .inl ⟨rfl, _, SqL.of hL1⟩, (by show 0 ≤ sizeLine; decide), fun b nb => ?_⟩
        have s2 : Same H1 (upd H1 b (.lst [])) := same_upd nb
        have s02 := s0.trans (s1.trans s2)
        have hL2 := s2 _ _ hL1
        have hb : (upd H1 b (.lst [])) b = some (.lst []) := upd_same
        have nb0 : H0 b = none := by
          cases hh : H0 b with
          | none => rfl
          | some o =>
            rw [s1 _ _ (s0 _ _ hh)] at nb
            cases nb
        have bL : b ≠ L := fun e => by rw [e, hL1] at nb; cases nb
        have rl := r.len
        have nbr : b ∉ a :: ar := by
          intro hm
          have rr : RowsAt H0 H1 L (a :: ar) (i :: os) := (RowsAt.cons ha p na ne nd r).same s1
          have : ∀ {as : List Addr} {st : List (List Part)}, RowsAt H0 H1 L as st → b ∈ as → False := fun h m => by
            induction h with
            | nil => cases m
            | cons h _ _ _ _ _ ih =>
              rcases List.mem_cons.mp m with e | e
              · rw [← e, nb] at h
                cases h
              · exact ih e
          exact this rr hm
        generalize upd H1 b (.lst []) = H2 at s2 s02 hL2 hb ⊢
        refine ⟨L, _, _, rfl, rfl, hL2, by rw [List.length_map, List.length_reverse, List.length_cons, rl, sizeLine_eq]; rw [List.length_cons] at ls; omega, ?_⟩
        have rr : RowsAt H0 H2 L (a :: ar) (i :: os) := (RowsAt.cons ha p na ne nd r).same (s1.trans s2)
        have nLr : L ∉ b :: a :: ar := by
          intro hm
          rcases List.mem_cons.mp hm with e | e
          · exact bL e.symm
          · have : ∀ {as : List Addr} {st : List (List Part)}, RowsAt H0 H2 L as st → L ∈ as → False := fun h m => by
              induction h with
              | nil => cases m
              | cons _ _ _ ne _ _ ih =>
                rcases List.mem_cons.mp m with e | e
                · exact ne e.symm
                · exact ih e
            exact this rr e
        refine q (b :: a :: ar) _ (same_set s02 nL) ⟨by rw [upd_same, List.reverse_cons (a := b), List.map_append]; rfl, nL, RowsAt.set hL2 nLr (.cons hb .nil nb0 bL nbr rr)⟩
    | name i os hi z nz =>
      cases rows with
      | cons ha p na ne nd r =>
        rename_i a ar vs hL
        have lv := p.len
        have el := even_len hi
        refine ⟨_, rfl, _, rfl, L, _, _, .ref a, rfl, rfl, SqL.of hL, last_ref, ?_⟩
        refine ⟨_, rfl, rfl, _, rfl, ?_⟩
        rw [decide_eq_false (fun e => (name_no nz).1 (V.str.inj e))]
        refine iteF (iteF ?_)
        refine ⟨_, rfl, a, _, rfl, .inl (SqL.of ha), rfl, _, rfl, ?_⟩
        rw [decide_eq_false (fun e => by have := V.int.inj e; omega)]
        refine iteF (iteF ?_)
        refine ⟨_, rfl, a, _, rfl, .inl (SqL.of ha), (by show 2 ≤ sizeLine; decide), fun t nt => ?_⟩
        have s1 : Same H (upd H t (.tup [.int 0, .int 2])) := same_upd nt
        refine ⟨t, _, rfl, .inr (SqT.of upd_same), rfl, rfl, _, rfl, ?_⟩
        rw [in_02, decide_eq_true (by rw [lv]; exact el)]
        refine iteT ⟨_, rfl, rfl, _, rfl, ?_⟩
        rw [decide_eq_false (fun e => (name_no nz).2 (V.str.inj e))]
        refine iteF ?_
        generalize upd H t (.tup [.int 0, .int 2]) = H1 at s1 ⊢
        refine ⟨_, rfl, a, _, rfl, .inl (SqL.of (s1 _ _ ha)), (by show 2 ≤ sizeLine; decide), fun t2 nt2 => ?_⟩
        have s2 : Same H1 (upd H1 t2 (.tup [.int 0, .int 2])) := same_upd nt2
        refine ⟨t2, _, rfl, .inr (SqT.of upd_same), rfl, rfl, _, rfl, ?_⟩
        rw [in_02, decide_eq_true (by rw [lv]; exact el)]
        refine iteT ⟨_, rfl, .str z, rfl, .inl ⟨z, rfl, lz⟩, _, rfl, ?_⟩
        rw [show nameV (.str z) = true from nz]
        refine iteT ?_
        generalize upd H1 t2 (.tup [.int 0, .int 2]) = H2 at s2 ⊢
        have s12 := s1.trans s2
        have ha2 := s12 _ _ ha
        refine ⟨_, rfl, .inl ⟨rfl, _, SqL.of ha2⟩, _, rfl, (by show 2 ≤ sizeLine; decide), fun u nu => ?_⟩
        have s3 : Same H2 (upd H2 u (.tup [.str z, .int 1])) := same_upd nu
        have hu : (upd H2 u (.tup [.str z, .int 1])) u = some (.tup [.str z, .int 1]) := upd_same
        have ha3 := s3 _ _ ha2
        have s13 := s12.trans s3
        generalize upd H2 u (.tup [.str z, .int 1]) = H3 at s3 hu ha3 s13 ⊢
        refine ⟨a, _, _, rfl, rfl, ha3, by rw [lv, sizeLine_eq]; omega, ?_⟩
        have aL : L ≠ a := fun e => ne e.symm
        have kp : TupK H3 (upd H3 a (.lst (vs ++ [.ref u]))) := TupK.set (H := H3) (H' := H3) (fun a xs e => e) ha3
        exact q (a :: ar) _ (same_set (s0.trans s13) na) ⟨by rw [upd_ne aL]; exact s13 _ _ hL, nL, .cons upd_same ((p.keep ((TupK.same s13).trans kp)).snoc (.f (t := .leaf z) (kp _ _ hu) (.leaf z))) na ne nd ((r.same s13).set ha3 nd)⟩
    | close z l r o os ho =>
      cases rows with
      | cons ha p na ne nd rr =>
        cases rr with
        | cons ha1 p1 na1 ne1 nd1 r2 =>
          rename_i a vs a1 ar vs1 hL
          have lv := p.len
          have lv1 := p1.len
          have el := even_len ho
          refine ⟨_, rfl, _, rfl, L, _, _, .ref a, rfl, rfl, SqL.of hL, last_ref, ?_⟩
          refine ⟨_, rfl, rfl, _, rfl, ?_⟩
          rw [decide_eq_true rfl]
          refine iteT ⟨_, rfl, a, _, rfl, .inl (SqL.of ha), rfl, _, rfl, ?_⟩
          rw [decide_eq_true (by rw [lv]; rfl)]
          refine iteT ⟨_, rfl, L, _, rfl, .inl (SqL.of hL), _, _, rfl, rfl, _, rfl, ?_⟩
          rw [decide_eq_true (by rw [List.length_map, List.length_reverse, List.length_cons, List.length_cons]; omega)]
          refine iteT ?_
          refine ⟨_, rfl, .inl ⟨rfl, _, SqL.of hL⟩, L, _, .ref a, rfl, rfl, hL, last_at, ?_⟩
          rw [last_drop]
          have k1 : TupK H (upd H L (.lst ((a1 :: ar).reverse.map V.ref))) := TupK.set (H := H) (H' := H) (fun a xs e => e) hL
          have s1 := same_set (o := .lst ((a1 :: ar).reverse.map V.ref)) s0 nL
          have hL1 : (upd H L (.lst ((a1 :: ar).reverse.map V.ref))) L = some (.lst ((a1 :: ar).reverse.map V.ref)) := upd_same
          have ha' : (upd H L (.lst ((a1 :: ar).reverse.map V.ref))) a = some (.lst vs) := by rw [upd_ne ne]; exact ha
          have ha1' : (upd H L (.lst ((a1 :: ar).reverse.map V.ref))) a1 = some (.lst vs1) := by rw [upd_ne ne1]; exact ha1
          have nLr : L ∉ ar := by
            intro hm
            have : ∀ {as : List Addr} {st : List (List Part)}, RowsAt H0 H L as st → L ∈ as → False := fun h m => by
              induction h with
              | nil => cases m
              | cons _ _ _ ne _ _ ih =>
                rcases List.mem_cons.mp m with e | e
                · exact ne e.symm
                · exact ih e
            exact this r2 hm
          have r2' := RowsAt.set (o := .lst ((a1 :: ar).reverse.map V.ref)) hL nLr r2
          have p' := p.keep k1
          have p1' := p1.keep k1
          generalize upd H L (.lst ((a1 :: ar).reverse.map V.ref)) = H1 at k1 s1 hL1 ha' ha1' r2' p' p1' ⊢
          refine ⟨_, rfl, _, rfl, L, _, _, .ref a1, rfl, rfl, SqL.of hL1, last_ref, .inl ⟨rfl, _, SqL.of ha1'⟩, ?_⟩
          refine ⟨_, rfl, a, vs, z, l, r, rfl, ha', p', fun v H2 s2 pv => ?_⟩
          have ha2 := s2 _ _ ha1'
          refine ⟨a1, _, _, rfl, rfl, ha2, by rw [lv1, sizeLine_eq]; omega, ?_⟩
          have aL : L ≠ a1 := fun e => ne1 e.symm
          have kp : TupK H2 (upd H2 a1 (.lst (vs1 ++ [v]))) := TupK.set (H := H2) (H' := H2) (fun a xs e => e) ha2
          exact q (a1 :: ar) _ (same_set (s1.trans s2) na1) ⟨by rw [upd_ne aL]; exact s2 _ _ hL1, nL, .cons upd_same ((p1'.keep ((TupK.same s2).trans kp)).snoc (pv.keep kp)) na1 ne1 nd1 ((r2'.same s2).set ha2 nd1)⟩
end
end K1

namespace K1
open PySem PySem.Spec
open PyProof.Rows L2 EnT StX SmX TxS DuX TL PySem.StrLaws
/-! ### the text of a form, cut into words -/
def rep1 (c : Nat) (z l : List Nat) : List Nat := l.flatMap fun d => if d = c then z else [d]
theorem repl_one (c : Nat) (z : List Nat) : ∀ l : List Nat, replL [c] z l = rep1 c z l
  | [] => replL_nil
  | d :: r => by
    by_cases h : d = c
    · subst h
      rw [replL_hit (by simp) rfl]
      show z ++ replL [d] z r = _
      rw [repl_one d z r]
      simp [rep1]
    · rw [replL_miss (by simp [h]), repl_one c z r]
      simp [rep1, h]
def spc (l : List Nat) : List Nat := l.flatMap fun d => if d = 40 then [40, 32] else if d = 41 then [32, 41] else [d]
theorem spc_app (x y : List Nat) : spc (x ++ y) = spc x ++ spc y := List.flatMap_append
theorem two_reps (l : List Nat) : rep1 41 [32, 41] (rep1 40 [40, 32] l) = spc l := by
  unfold rep1 spc
  rw [List.flatMap_assoc]
  congr 1
  funext d
  by_cases h : d = 40
  · simp [h]
  · by_cases g : d = 41 <;> simp [h, g]
abbrev twoSpc (x : Str) : Str := Txt.replace (Txt.replace x tOpen ("( " : Str)) tClose (" )" : Str)
theorem tl_open : tl tOpen = [40] := by decide +kernel
theorem tl_close : tl tClose = [41] := by decide +kernel
theorem tl_twoSpc (x : Str) : tl (twoSpc x) = spc (tl x) := by
  have a := replace_list (x := x) (y := tOpen) (z := ("( " : Str)) (by decide +kernel)
  have b := replace_list (x := Txt.replace x tOpen ("( " : Str)) (y := tClose) (z := (" )" : Str)) (by decide +kernel)
  have e1 : tOpen.cps.toList = [40] := tl_open
  have e2 : tClose.cps.toList = [41] := tl_close
  have e3 : ("( " : Str).cps.toList = [40, 32] := by decide +kernel
  have e4 : (" )" : Str).cps.toList = [32, 41] := by decide +kernel
  show (twoSpc x).cps.toList = _
  rw [b, a, e1, e2, e3, e4, repl_one, repl_one, two_reps]
/-- no bracket, no space -/
def Bare (l : List Nat) : Prop := ∀ c ∈ l, c ≠ 32 ∧ c ≠ 40 ∧ c ≠ 41
theorem spc_bare : ∀ {l : List Nat}, Bare l → spc l = l
  | [], _ => rfl
  | d :: r, h => by
    have a := h d List.mem_cons_self
    have b := spc_bare (l := r) fun c hc => h c (List.mem_cons_of_mem _ hc)
    show (if d = 40 then [40, 32] else if d = 41 then [32, 41] else [d]) ++ spc r = d :: r
    rw [if_neg a.2.1, if_neg a.2.2, b]
    rfl
theorem name_bare {z : Str} (h : nameB z = true) : Bare (tl z) := by
  unfold nameB at h
  split at h
  · cases h
  split at h
  · cases h
  split at h
  · cases h
  · rename_i h3
    intro c hc
    have e : Txt.isalnum z = true := by
      cases q : Txt.isalnum z with
      | true => rfl
      | false => exact absurd q h3
    unfold Txt.isalnum at e
    rw [Bool.and_eq_true] at e
    have e2 := e.2
    rw [← Array.all_toList] at e2
    have e3 : Unicode.isAlnum c = true := (List.all_eq_true.mp e2) c hc
    have no : ∀ d ∈ [32, 40, 41], Unicode.isAlnum d = false := by decide +kernel
    refine ⟨fun x => ?_, fun x => ?_, fun x => ?_⟩
    · rw [x, no 32 (by simp)] at e3
      cases e3
    · rw [x, no 40 (by simp)] at e3
      cases e3
    · rw [x, no 41 (by simp)] at e3
      cases e3
theorem sign_bare {z : Str} (h : z ∈ signs) : Bare (tl z) := by
  have all : ∀ z ∈ signs, (tl z).all (fun c => decide (c ≠ 32 ∧ c ≠ 40 ∧ c ≠ 41)) = true := by decide +kernel
  intro c hc
  exact of_decide_eq_true (List.all_eq_true.mp (all z h) c hc)
theorem joinL_app (S : List Nat) : ∀ {x y : List (List Nat)}, x ≠ [] → y ≠ [] → joinL S (x ++ y) = joinL S x ++ (S ++ joinL S y)
  | [], _, h, _ => absurd rfl h
  | [p], [], _, h => absurd rfl h
  | [p], q :: r, _, _ => rfl
  | p :: q :: r, y, _, hy => by
    have ih := joinL_app S (x := q :: r) (y := y) (by simp) hy
    show p ++ (S ++ joinL S ((q :: r) ++ y)) = (p ++ (S ++ joinL S (q :: r))) ++ (S ++ joinL S y)
    rw [ih]
    simp [List.append_assoc]
theorem joinL_cons (S p : List Nat) {y : List (List Nat)} (hy : y ≠ []) : joinL S (p :: y) = p ++ (S ++ joinL S y) := joinL_app S (x := [p]) (by simp) hy
theorem tok_ne : ∀ (b : Bool) (t : Fm), t.tok b ≠ []
  | _, .leaf z => by cases ‹Bool› <;> simp [Fm.tok]
  | false, .node s l r => by simp [Fm.tok]
  | true, .node s l r => by simp [Fm.tok]
theorem map_ne {l : List Str} (h : l ≠ []) : l.map tl ≠ [] := fun e => h (List.map_eq_nil_iff.mp e)
theorem tok_text : ∀ (b : Bool) (t : Fm), t.Ok → spc (tl (t.txt b)) = joinL [32] ((t.tok b).map tl)
  | b, .leaf z, h => by
    have e : (Fm.leaf z).txt b = z := by cases b <;> rfl
    have e2 : (Fm.leaf z).tok b = [z] := by cases b <;> rfl
    rw [e, e2, spc_bare (name_bare h)]
    rfl
  | b, .node s l r, h => by
    have il := tok_text true l h.2.1
    have ir := tok_text true r h.2.2
    have e1 : tl (" " : Str) = [32] := by decide +kernel
    have e5 : spc [32] = [32] := rfl
    have nl := map_ne (tok_ne true l)
    have nr := map_ne (tok_ne true r)
    have sb := spc_bare (sign_bare h.1)
    cases b
    · simp only [Fm.txt, Fm.tok]
      rw [tl_append, tl_append, tl_append, tl_append, spc_app, spc_app, spc_app, spc_app, e1, e5, il, ir, sb, List.map_append, List.map_cons, joinL_app _ nl (by simp), joinL_cons _ _ nr]
      simp only [List.append_assoc]
    · simp only [Fm.txt, Fm.tok]
      rw [tl_append, tl_append, tl_append, tl_append, tl_append, tl_append, spc_app, spc_app, spc_app, spc_app, spc_app, spc_app, e1, e5, il, ir, sb, List.map_cons, List.map_append, List.map_cons, List.map_append, joinL_cons _ _ (by simp [nl]), joinL_app _ nl (by simp), joinL_cons _ _ (by simp), joinL_app _ nr (by simp)]
      have e6 : spc (tl ("(" : Str)) = [40, 32] := by decide +kernel
      have e7 : spc (tl (")" : Str)) = [32, 41] := by decide +kernel
      rw [e6, e7, tl_open]
      show _ = [40] ++ ([32] ++ (joinL [32] (List.map tl (Fm.tok true l)) ++ ([32] ++ (tl s ++ ([32] ++ (joinL [32] (List.map tl (Fm.tok true r)) ++ ([32] ++ joinL [32] [tl tClose])))))))
      show _ = [40] ++ ([32] ++ (joinL [32] (List.map tl (Fm.tok true l)) ++ ([32] ++ (tl s ++ ([32] ++ (joinL [32] (List.map tl (Fm.tok true r)) ++ ([32] ++ tl tClose)))))))
      rw [tl_close]
      simp only [List.append_assoc, List.cons_append, List.nil_append]
theorem tok_bare : ∀ (b : Bool) (t : Fm), t.Ok → ∀ z ∈ t.tok b, 32 ∉ tl z ∧ z.length ≤ 8
  | b, .leaf y, h => fun z hz => by
    have e2 : (Fm.leaf y).tok b = [y] := by cases b <;> rfl
    rw [e2] at hz
    rw [List.mem_singleton.mp hz]
    exact ⟨fun m => (name_bare h 32 m).1 rfl, name_short h⟩
  | b, .node s l r, h => fun z hz => by
    have c1 := (sign_ok h.1).1
    have sg : 32 ∉ tl s ∧ s.length ≤ 8 := ⟨fun m => (sign_bare h.1 32 m).1 rfl, by omega⟩
    have op : 32 ∉ tl tOpen ∧ tOpen.length ≤ 8 := by decide +kernel
    have cl : 32 ∉ tl tClose ∧ tClose.length ≤ 8 := by decide +kernel
    have il := tok_bare true l h.2.1
    have ir := tok_bare true r h.2.2
    cases b
    · simp only [Fm.tok, List.mem_append, List.mem_cons] at hz
      rcases hz with e | rfl | e
      · exact il z e
      · exact sg
      · exact ir z e
    · simp only [Fm.tok, List.mem_append, List.mem_cons, List.not_mem_nil, or_false] at hz
      rcases hz with rfl | e | rfl | e | rfl
      · exact op
      · exact il z e
      · exact sg
      · exact ir z e
      · exact cl
theorem words_of (t : Fm) (h : t.Ok) : Txt.split (twoSpc (t.txt false)) (" " : Str) = t.tok false := by
  have e1 : tl (" " : Str) = [32] := by decide +kernel
  have e : twoSpc (t.txt false) = Txt.join (" " : Str) (t.tok false) := by
    have a : tl (twoSpc (t.txt false)) = tl (Txt.join (" " : Str) (t.tok false)) := by
      rw [tl_twoSpc, tok_text false t h, join_eq, tl_join, e1]
    rw [← mk_tl (twoSpc (t.txt false)), ← mk_tl (Txt.join (" " : Str) (t.tok false)), a]
  rw [e]
  exact split_join e1 (by decide +kernel) (tok_ne false t) fun p hp => (tok_bare false t h p hp).1
theorem tok_len : ∀ (b : Bool) (t : Fm), (t.tok b).length + 3 ≤ 4 * t.nl
  | b, .leaf y => by
    have e2 : (Fm.leaf y).tok b = [y] := by cases b <;> rfl
    rw [e2]
    show 1 + 3 ≤ 4 * 1
    omega
  | b, .node s l r => by
    have a := tok_len true l
    have c := tok_len true r
    rw [Fm.nl_node]
    cases b
    · simp only [Fm.tok, List.length_append, List.length_cons]
      omega
    · simp only [Fm.tok, List.length_append, List.length_cons, List.length_nil]
      omega
end K1

/-! defs that want a token out -/
namespace TkX
open PySem PySem.Spec PyProof.Rows L2 SmX ClX
structure FnT (P : Program) (w : World) (K : PySem.W.Frag) (mg : Str → Option Value) (base : Heap) (k : Nat) (f : Addr) (fd : FuncData) (ps : List Str) (sp : Sp) : Prop where
  len : ∀ vs H Q E, sp vs H Q E → vs.length = ps.length
  run : ∀ (A : Around) (outer : List Env) (s : Shared) (H : Hp) (args : Args) (us : List Value) (vs : List V) (Q : VK) (E : XK), 1 ≤ s.toks → Room k A → Env0 P w K mg base A outer s H → BindsTo s fd args (ps.zip us) → Vals vs us → sp vs H Q E →
    codeAny (model P w) A (.call (.ref f) args) (CR CX0 outer P w H s Q E) s
section
variable {P : Program} {w : World} {K : PySem.W.Frag} {mg : Str → Option Value} {base : Heap}
theorem fnT_of {k : Nat} {f : Addr} {name qual : Str} {st : Stmt} {fd : FuncData} {N ps : List Str} {sp : Sp} (F : Fun K name qual st f fd) (S : FnScope N ps (defScope st)) (len : ∀ vs H Q E, sp vs H Q E → vs.length = ps.length)
    (body : ∀ (cdv : Value) (A : Around) (outer : List Env) (s : Shared) (H : Hp) (vs : List V) (Q : VK) (E : XK), Room k (A.deeper (envOfC qual (defScope st) s.heap.objs.size f cdv)) → sp vs H Q E →
      ∃ t, PSsT (cxOf CX0 P w K mg base N qual (defScope st) f cdv A outer s H E).nox (defBody st) t ∧ t { nx := fun _ H' => Q .non H', rt := Q } (L2.start N vs) H) : FnT P w K mg base (k + 1) f fd ps sp := by
  refine ⟨len, fun A outer s H args us vs Q E h1 hr e0 hb r hsp => ?_⟩
  obtain ⟨oc, od, kV, doc, pm, an, cdv, ct, osl, rfl, lk, hcd⟩ := F.ex
  have hl := len _ _ _ _ hsp
  have inK : K.In s.heap := e0.mod.kin.keeps fun b o e => (e0.bs b o e).1
  have noL : s.heap.NoLimit := e0.mod.nolimit.keeps fun b o e => (e0.bs b o e).1
  have kinds : ∀ y ∈ ps.zip us, (defScope st).names.lookup y.1 = some .local ∨ ((defScope st).names.lookup y.1 = some .cell ∧ ((cellsFrom (s.heap.objs.size + 1) (defScope st).names []).lookup y.1).isSome = true) := fun ⟨n, v⟩ hy => by
    rcases S.par n (List.of_mem_zip hy).1 with q | q
    · exact .inl q
    · exact .inr ⟨q, PySem.W.cellsFrom_some _ _ _
          (.inl q)⟩
  refine codeAny_call_function hr.depth (inK _ _ lk) rfl S.co S.gen rfl
      (PySem.W.codeRec_of inK hcd) (hb _ _ _ _ ?_)
  refine wpAny_mono (PySem.wpAny_toks_of h1 (wpAny_newFunctionEnv_cells (Q := fun env s1 => env = envOfC qual (defScope st) s.heap.objs.size f cdv ∧ InCallC s s.heap.objs.size (bindL (envOfC qual (defScope st) s.heap.objs.size f cdv).kindOf (ps.zip us) fun _ => none) (cellsFrom (s.heap.objs.size + 1) (defScope st).names []) (bindC (envOfC qual (defScope st) s.heap.objs.size f cdv).kindOf (ps.zip us) fun _ => none) s1) S.kind kinds fun env he s1 x => ⟨he, by subst he; exact x⟩)) (fun env s1 hz => ?_) fun _ _ z => z.2
  obtain ⟨t1, rfl, x⟩ := hz
  refine ⟨noL.keeps
      x.toInCall.keep, codeAny_func ?_⟩
  obtain ⟨t, ht, hq⟩ := body cdv A outer s H vs Q E (hr.deeper _) hsp
  have I := (inv_start (CX := CX0) (E := E) S hr.hd e0 hl r x).wish fun _ _ => False
  refine wpAny_mono (ht [] s1 (L2.start N vs) H _ t1 I hq) (fun fl s2 hs => ?_) fun e s2 hs => False.elim hs
  have hs := hs.unwish
  have fin : ∀ {σ' : L2.St} {H' : Hp} {v : V} {u : Value}, Inv (cxOf CX0 P w K mg base N qual (defScope st) f cdv A outer s H E) [] σ' H' s2 → RelV v u → Q v H' → CE outer P w H s Q u s2 :=
    fun {σ' H' v u} J rv q => ⟨v, H', J.os, J.bare, J.base,
        J.hok, rv, q⟩
  cases fl with
  | ret u =>
    obtain ⟨v, σ', H',
        J, rv, q⟩ := hs
    exact fin J rv q
  | next =>
    obtain ⟨σ', H',
        J, q⟩ := hs
    exact fin (v := V.non)
        (u := Value.none) J rfl q
  | brk =>
    obtain ⟨_, _, _,
        q⟩ := hs
    exact q.elim
  | cont =>
    obtain ⟨_, _, _,
        q⟩ := hs
    exact q.elim
end
/-- x(e, ..), a token being out -/
structure HasT (P : Program) (w : World) (K : PySem.W.Frag) (mg : Str → Option Value) (base : Heap) (k : Nat) (x : Str) (f : Addr) (ps : List Str) (sp : Sp) : Prop where
  gm : mg x = some (.ref f)
  kp : PySem.W.keepIn K (.ref f) = true
  ex : ∃ fd, FnT P w K mg base k f fd ps sp ∧ L2.Binds K fd ps []
section
variable {X : Cx} {k : Nat} {x : Str} {f C p g : Addr} {ps : List Str} {sp : Sp} {o e : Expr} {es : List Expr} {te to : TE} {ta t : TA} {E : XK} {mc : Value} {m : Str} {pos apos : Pos}
theorem after_run {pins : List (Addr × Obj)} {σ : L2.St} {H : Hp} {s : Shared} {Q : VK} (I : Inv X pins σ H s) {r : Result} {s' : Shared} : CR CX0 X.stack X.prog X.w H s Q E0 r s' →
    (match r with | .ok (.ret v) => EP X pins σ Q v s' | .ok _ => False | .error e => X.xe e s') := by
  intro hq
  cases r with
  | error e => exact hq.elim
  | ok fl =>
    cases fl with
    | ret u => exact I.after hq
    | next => exact False.elim hq
    | brk => exact False.elim hq
    | cont => exact False.elim hq
theorem pet_has {pn : Pos} (F : HasT X.prog X.w X.K X.mg X.base k x f ps sp) (hr : Room k X.A) (hg : Gl X x) (ha : PA X (e :: es) t)
    (hd : (x == ("__debug__" : Str)) = false := by decide) (hst : starEach (e :: es) X.env = (false, eval e X.env) :: starEach es X.env := by rfl) (hpl : (backTo pos (starEach es X.env)).any (·.1) = false := by rfl) :
    PET X (.Call (.Name x pn) (e :: es) [] pos) (tCall sp [] E0 t) := by
  obtain ⟨gm, kp, fd, F, hb⟩ := F
  intro pins s σ H Q h1 I h
  refine wpAny_Call_Name_kw
      (ld_glob I hg gm ?_ hd)
  refine PySem.W.callWith_K (h₀ := X.base) I.ok.mod.kin kp (wpAny_mono (PySem.wpAny_toks_of h1 (ha.run pos pins s σ H _ I h)) (fun us s1 q => ?_) fun _ _ z => z.2) hst hpl
  obtain ⟨t1, vs, H1, I1, rv, q⟩ := q
  refine ⟨I1.kIn, ?_⟩
  have q : sp vs H1 Q E0 := by
    have q : sp (vs ++ []) H1 Q E0 := q
    rw [List.append_nil] at q
    exact q
  have hl : us.length = ps.length := by rw [← rv.length]; exact F.len _ _ _ _ q
  have bb := hb s1 us I1.kIn (by rw [List.append_nil]; exact hl)
  rw [List.append_nil] at bb
  exact wpAny_call (codeAny_mono (F.run X.A X.stack s1 H1 ⟨us, []⟩ us vs Q E0 t1 hr I1.env0 bb rv q) fun r s' hq => after_run I1 hq)
theorem pst_set {i : Nat} {pos' : Pos} (hN : X.N.Nodup) (hi : X.N[i]? = some x) (hx : Loc X.env.scope x) (he : PET X e te) (hs : swapsWith e (some (.Name x pos')) pos.line X.env = pure false := by rfl) (hf : X.fn x = true ∨ X.env.scope.names.lookup x = some .local := by first | exact .inl rfl | exact .inr rfl | assumption) :
    PST X (.Assign [.Name x pos'] e pos) (tAsg te (gName i)) := by
  intro pins s σ H D h1 I h
  refine wpAny_Assign_Name (thn (he pins s σ H _ h1 I h) fun v s1 ⟨y, H1, I1, r1, q1⟩ => ?_) hs
  exact store_ok I1 hN hi hx r1 (fun s2 I2 => ⟨_, H1, I2, q1⟩) hf
theorem pet_m1 {id : String} {name : Str} {r : V → List V → Hp → VK → Prop} (slot : Slot "str" name id) (ty : typeOf (.builtin id) = pure (.type "method_descriptor")) (rule : MtR X id r) (ho : PET X o to) (he : PE X e te)
    (hs : starEach [e] X.env = [(false, eval e X.env)] := by rfl) (hbase : attributeBase o name X.env (eval o X.env) = eval o X.env := by rfl) (hline : (apos.endLine == pos.line) = true := by rfl) :
    PET X (.Call (.Attribute o name apos) [e] [] pos) (tM1 r to te) := by
  intro pins s σ H Q h1 I h
  refine PySem.Call_method1 hbase hs hline (thn (ho pins s σ H _ h1 I h) fun v s1 ⟨x, H1, I1, r1, q1⟩ => ?_)
  obtain ⟨⟨a, rfl⟩, q1⟩ := q1
  obtain ⟨t, rfl⟩ := _root_.id r1
  refine ⟨"str", _, F.plainAttrs_str, slot, ty, typeIs_str _ _ _, (fun _ e => nomatch e), Calls.callWith_builtin rfl (Calls.evalArgs_plain (Calls.spliced_cons ?_))⟩
  exact thn (he.run pins s1 σ H1 _ I1 q1) fun u s2 ⟨y, H2, I2, r2, q2⟩ => Calls.spliced_nil (rule pins s2 σ H2 _ [y] _ [u] Q I2 r1 (.cons r2 .nil) q2)
theorem getsm_tok {pl : Sem Bool} {pins : List (Addr × Obj)} {σ : L2.St} {H : Hp} {s : Shared} {A : Around} {E' : Value → Shared → Prop} {Q : Value × List Value → Shared → Prop} (Iv : Inv X pins σ H s) (r : CRead X.K C mc) (k : SMet X.K C mc m p g) (hyp : ∀ s', 1 ≤ s'.toks → Inv X pins σ H s' → Q (.ref g, []) s') : wpAny (model X.prog X.w) A (getMethod (.ref C) m pl) Q E' s := by
  obtain ⟨rest, hp⟩ := k.rc
  refine PySem.W.method_cls Iv.kIn r.ga (PySem.W.cls_bind Iv.kIn r.rd k.at_ ?_)
  exact wpAny_call (PySem.W.sm_get (s := { s with toks := s.toks + 1 }) Iv.kIn hp (PySem.W.handed_on rfl (hyp _ (Nat.le_add_left 1 _) (Iv.tok _))))
/-- C.m(e, ..) of a static method that wants a token out -/
theorem pe_smT {fd : FuncData} {pl : Sem Bool} (he : PE X o to) (r : CRead X.K C mc) (c : SMet X.K C mc m p g) (F : FnT X.prog X.w X.K X.mg X.base k g fd ps sp) (hb : L2.Binds X.K fd ps []) (hr : Room k X.A) (ha : PA X (e :: es) t)
    (hst : starEach (e :: es) X.env = (false, eval e X.env) :: starEach es
        X.env := by rfl) (hpl : (backTo pos (starEach es X.env)).any (·.1) = false := by rfl)
    (ht : eval (.Call (.Attribute o
        m apos) (e :: es) [] pos) X.env = (do
      let ov ← eval o X.env
      standAt apos.atName
      let (f, first) ← holding
          [ov] (getMethod ov m pl)
      callWith pos f first (backTo pos (starEach (e :: es)
          X.env)) (backToKw pos (keywordEach [] X.env))) := by rfl) :
    PE X (.Call (.Attribute o m apos) (e :: es) [] pos) (tSMeth C sp E0 to t) := by
  refine ⟨fun pins s σ H Q Iv hyp => ?_⟩
  refine PySem.W.methodCall_KW (pl := pl) (thn (he.run pins s σ H _ Iv hyp) fun usV st1 ⟨x, H1, Iv1, relX, ex, cont⟩ => ?_) ht
  subst ex
  obtain rfl : usV = Value.ref C := relX
  refine getsm_tok Iv1 r c fun st2 t2 Iv2 => ?_
  refine PySem.W.callWith_K (h₀ := X.base) Iv.ok.mod.kin c.kp (wpAny_mono (PySem.wpAny_toks_of t2 (ha.run pos pins st2 σ H1 _ Iv2 cont)) (fun us s1 q => ?_) fun _ _ z => z.2) hst hpl
  obtain ⟨t3, vs, H2, I3, rv, q⟩ := q
  refine ⟨I3.kIn, ?_⟩
  have hl : us.length = ps.length := by rw [← rv.length]; exact F.len _ _ _ _ q
  have bb := hb s1 us I3.kIn (by rw [List.append_nil]; exact hl)
  rw [List.append_nil] at bb
  exact wpAny_call (codeAny_mono (F.run X.A X.stack s1 H2 ⟨us, []⟩ us vs Q E0 t3 hr I3.env0 bb rv q) fun r s' hq => after_run I3 hq)
end
end TkX

namespace K1
open PySem PySem.Spec
open PyProof.Rows L2 EnT StX SmX TxS DuX
/-! ### read_counted -/
def spTakeX : Sp := fun vs H Q E => ∃ H0, spTake H0 vs H Q E
def spReadC : Sp := fun vs H Q _ => ∃ t : Fm, vs = [.str (t.txt false)] ∧ t.Ok ∧ t.nl ≤ 1400 ∧ ∀ (v : V) (H' : Hp), Same H H' → PartAt H' v (.f t) → Q v H'
abbrev nmRc : List Str := ["text", "words", "opened", "word", "outermost"]
theorem step_len {a b : List (List Part)} {z : Str} (h : Step a z b) : b.length ≤ a.length + 1 := by
  cases h <;> simp only [List.length_cons] <;> omega
section
variable {w : World} {P : Program} {base : Heap} {mg : Str → Option Value} {K : PySem.W.Frag} {aS : Addr}
theorem ok_takeX {f fJ fN : Addr} {fd : FuncData} (F : Fun K "take_word" "take_word" sTake f fd) (G : Gf K mg aS) (hJ : Has P w K mg base CX0 1 "joined" fJ ["parts"] spJoined) (hN : Has P w K mg base CX0 1 "is_name" fN ["value"] spIsName) : FnOk P w K mg base CX0 2 f fd ["opened", "word"] spTakeX :=
  ⟨fun vs H Q E ⟨H0, h⟩ => (ok_take H0 F G hJ hN).len vs H Q E h, fun A outer s H args us vs Q E hr e0 hb r ⟨H0, h⟩ => (ok_take H0 F G hJ hN).run A outer s H args us vs Q E hr e0 hb r h⟩
theorem scRc : FnScope nmRc ["text"] (defScope sReadC) := ⟨rfl, rfl, rfl, by decide +kernel, rfl, by decide +kernel, by decide +kernel⟩
theorem ok_readC {f fT fJ : Addr} {fd : FuncData} (F : Fun K "read_counted" "read_counted" sReadC f fd) (T : Free mg) (hT : Has P w K mg base CX0 2 "take_word" fT ["opened", "word"] spTakeX) (hJ : Has P w K mg base CX0 1 "joined" fJ ["parts"] spJoined) :
    TkX.FnT P w K mg base 3 f fd ["text"] spReadC := by
  refine TkX.fnT_of F scRc (fun vs H Q E h => ?_) (fun cdv A outer s H vs Q E hr h => ?_)
  · obtain ⟨t, rfl, _⟩ := h
    rfl
  · obtain ⟨t, rfl, ok, l, q⟩ := h
    refine ⟨_, psst_cons (PST.of (ps_if (pt_not (pt_val (pe_callB call_isi (by rfl) T.isinstance (by decide +kernel) (pa_cons (pv 0) (pa_cons (pe_bltn (v := .ty "str") (u := .type "str") (by rfl) T.str (by decide +kernel) rfl) pa_nil))))) pss_never pss_nil))
      (psst_cons (TkX.pst_set (i := 1) scRc.nd rfl (.inl rfl) (TkX.pet_m1 PySem.F.slot_str_split PySem.F.type_str_split mt_split (CwR.pet_replT (CwR.pet_replC (pv 0))) pe_str))
      (PSsT.of (pss_cons (ps_set (i := 2) scRc.nd rfl (.inl rfl) (pe_lst (pa_cons (pe_lst pa_nil) pa_nil)))
      (pss_cons (ps_for PassesOwn.never rfl (pi_list (pv 1)) (pg_name (i := 3) scRc.nd rfl (.inl rfl))
          (pss_one (ps_if (pt_not (pt_val (pe_has hT hr (by rfl) pass0 (pa_cons (pv 2) (pa_cons (pv 3) pa_nil))))) pss_never pss_nil)))
      (pss_cons (ps_set (i := 4) scRc.nd rfl (.inl rfl) (pe_ix ix_list (pv 2) pe_int (fun _ _ => rfl)))
      (pss_cons (ps_if (pt_cmpR op_eq (pe_callB call_len_seq (by rfl) T.len PySem.boot_len (pa_cons (pv 4) pa_nil)) pe_int (nomark _)) (pss_one (ps_ret (pe_has hJ (hr.mono (by decide)) (by rfl) pass0 (pa_cons (pv 4) pa_nil)))) pss_nil)
      (pss_cons (ps_if (PW.pt (pw_and (pt_cmpR op_eq (pe_callB call_len_seq (by rfl) T.len PySem.boot_len (pa_cons (pv 4) pa_nil)) pe_int (nomark _)) (pw_and1 (pt_val (pe_callB call_isi (by rfl) T.isinstance (by decide +kernel) (pa_cons (pe_ix ix_tup (pe_ix ix_list (pv 4) pe_int (fun _ _ => rfl)) pe_int (fun _ _ => rfl)) (pa_cons (pe_bltn (v := .ty "str") (u := .type "str") (by rfl) T.str (by decide +kernel) rfl) pa_nil)))))))
          (pss_one (ps_ret (pe_ix ix_list (pv 4) pe_int (fun _ _ => rfl)))) pss_nil) pss_never))))))), ?_⟩
    refine ⟨_, rfl, _, _, _, _, true, rfl, .ty _, .base (.str _), kit_ty (by decide +kernel), true, rfl, iteF ?_⟩
    have l1 := txt_len false t ok
    have z1 : ("( " : Str).length = 2 := by decide +kernel
    have z2 : (" )" : Str).length = 2 := by decide +kernel
    have l2 := TK.replace_len (t.txt false) ("(" : Str) ("( " : Str)
    have l3 := TK.replace_len (Txt.replace (t.txt false) ("(" : Str) ("( " : Str)) (")" : Str) (" )" : Str)
    have sl : sizeLine = 16777216 := by decide
    rw [z1] at l2
    rw [z2] at l3
    refine ⟨_, rfl, _, rfl, (by rw [z1]; omega), _, rfl, (by rw [z2]; omega), ⟨_, rfl⟩, _, _, rfl, rfl, by decide +kernel, (by omega), fun W nW => ?_⟩
    have wo := words_of t ok
    have hW : (upd H W (.lst ((Txt.split (twoSpc (t.txt false)) (" " : Str)).map V.str))) W = some (.lst ((t.tok false).map V.str)) := by rw [wo]; exact upd_same
    have s1 : Same H (upd H W (.lst ((Txt.split (twoSpc (t.txt false)) (" " : Str)).map V.str))) := same_upd nW
    generalize (upd H W (.lst ((Txt.split (twoSpc (t.txt false)) (" " : Str)).map V.str))) = H1 at hW s1
    refine ⟨(by show 0 ≤ sizeLine; decide), fun R nR => ⟨(by show 1 ≤ sizeLine; decide), fun L nL => ?_⟩⟩
    have nRL : R ≠ L := fun e => by
      rw [← e, upd_same] at nL
      cases nL
    have nL1 : H1 L = none := by
      rw [upd_ne (Ne.symm nRL)] at nL
      exact nL
    have s2 : Same H1 (upd (upd H1 R (.lst [])) L (.lst [.ref R])) := (same_upd nR).trans (same_upd nL)
    have sk : StackAt H1 (upd (upd H1 R (.lst [])) L (.lst [.ref R])) L [R] [[]] := ⟨upd_same, nL1, .cons (by rw [upd_ne nRL]; exact upd_same) .nil nR nRL (by simp) .nil⟩
    generalize (upd (upd H1 R (.lst [])) L (.lst [.ref R])) = H3 at s2 sk ⊢
    have run := runs_all t ok
    have tl4 := tok_len false t
    refine ⟨_, rfl, W, rfl, ⟨_, SqL.of (s2 _ _ hW)⟩, for_list (xs := (t.tok false).map V.str) (K := K) (a := W) (fun i σ H' => Same H1 H' ∧ ∃ (as : List Addr) (st : List (List Part)) (y3 : Option V), σ = [some (.str (t.txt false)), some (.ref W), some (.ref L), y3, none] ∧ StackAt H1 H' L as st ∧ st.length ≤ i + 1 ∧ Runs st ((t.tok false).drop i) [t.outer]) ⟨s2, _, _, _, rfl, sk, Nat.le_refl _, run⟩ ?_ ?_ ?_⟩
    · rintro i σ H' hi ⟨s3, _⟩
      exact SqL.of (s3 _ _ hW)
    · rintro i x σ H' hx ⟨s3, as, st, y3, rfl, k3, ll, rr⟩
      rw [List.getElem?_map] at hx
      obtain ⟨z, hz, rfl⟩ := Option.map_eq_some_iff.mp hx
      obtain ⟨hi, ez⟩ := List.getElem?_eq_some_iff.mp hz
      rw [List.drop_eq_getElem_cons hi, ez] at rr
      cases rr with
      | cons stp rr =>
      have hl8 := (tok_bare false t ok z (List.mem_of_getElem? hz)).2
      refine ⟨_, rfl, _, rfl, H1, L, z, as, st, _, rfl, k3, stp, s3, (by omega), (by omega), fun as' H4 s4 k4 => ?_⟩
      refine ⟨true, rfl, iteF ?_⟩
      have := step_len stp
      exact ⟨s4, as', _, _, rfl, k4, by omega, rr⟩
    · rintro σ H4 ⟨s4, as, st, y3, rfl, k4, ll, rr⟩
      rw [List.drop_eq_nil_of_le (by rw [List.length_map]; exact Nat.le_refl _)] at rr
      cases rr
      obtain ⟨hL, nL', rows⟩ := k4
      cases rows with
      | cons ha pa na ne nd r =>
      cases r
      rename_i a vs
      refine ⟨_, rfl, L, _, _, .ref a, rfl, rfl, SqL.of hL, rfl, ?_⟩
      have s5 := s1.trans s4
      have lv := pa.len
      cases t with
      | leaf z =>
        cases pa with
        | cons p1 r1 =>
        cases r1
        cases p1 with
        | f hb m =>
        rename_i b v
        cases m
        refine ⟨_, rfl, a, _, rfl, .inl (SqL.of ha), rfl, _, rfl, iteF ?_⟩
        refine ⟨_, rfl, a, _, rfl, .inl (SqL.of ha), rfl, _, rfl, iteT ?_⟩
        refine ⟨_, rfl, a, _, _, .ref b, rfl, rfl, SqL.of ha, rfl, b, _, _, .str z, rfl, rfl, SqT.of hb, rfl, _, _, _, _, true, rfl, .ty _, .base (.str _), kit_ty (by decide +kernel), true, rfl, iteT ?_⟩
        exact ⟨_, rfl, a, _, _, .ref b, rfl, rfl, SqL.of ha, rfl, q _ _ s5 (.f hb (.leaf z))⟩
      | node z l r =>
        refine ⟨_, rfl, a, _, rfl, .inl (SqL.of ha), rfl, _, rfl, ?_⟩
        rw [decide_eq_true (by rw [lv]; rfl)]
        exact iteT ⟨_, rfl, a, _, z, _, r, rfl, ha, pa, fun v H' s p => q v H' (s5.trans s) p⟩
end
end K1

namespace K1
open PySem PySem.Spec
open PyProof.Rows L2 EnT StX SmX TxS DuX
/-! ### expressions -/
def eflds (v : V) (t : Fm) (fl : Addr) : List (Str × V) := putF "_has_given" (.bl (decide (tGiven ∈ t.lvs))) (putF "_fields" (.ref fl) (putF "_depth" (.int (t.dep : Nat)) (putF "_leaves" (.int (t.nl : Nat)) (putF "_form" v []))))
theorem ef_form (v : V) (t : Fm) (fl : Addr) : (eflds v t fl).lookup ("_form" : Str) = some v := by
  unfold eflds
  rw [lookup_putF, if_neg (by decide +kernel), lookup_putF, if_neg (by decide +kernel), lookup_putF, if_neg (by decide +kernel), lookup_putF, if_neg (by decide +kernel), lookup_putF, if_pos rfl]
theorem ef_leaves (v : V) (t : Fm) (fl : Addr) : (eflds v t fl).lookup ("_leaves" : Str) = some (.int (t.nl : Nat)) := by
  unfold eflds
  rw [lookup_putF, if_neg (by decide +kernel), lookup_putF, if_neg (by decide +kernel), lookup_putF, if_neg (by decide +kernel), lookup_putF, if_pos rfl]
theorem ef_depth (v : V) (t : Fm) (fl : Addr) : (eflds v t fl).lookup ("_depth" : Str) = some (.int (t.dep : Nat)) := by
  unfold eflds
  rw [lookup_putF, if_neg (by decide +kernel), lookup_putF, if_neg (by decide +kernel), lookup_putF, if_pos rfl]
theorem ef_fields (v : V) (t : Fm) (fl : Addr) : (eflds v t fl).lookup ("_fields" : Str) = some (.ref fl) := by
  unfold eflds
  rw [lookup_putF, if_neg (by decide +kernel), lookup_putF, if_pos rfl]
theorem ef_given (v : V) (t : Fm) (fl : Addr) : (eflds v t fl).lookup ("_has_given" : Str) = some (.bl (decide (tGiven ∈ t.lvs))) := by
  unfold eflds
  rw [lookup_putF, if_pos rfl]
structure ExpC (K : PySem.W.Frag) (mg : Str → Option Value) (C : Addr) : Prop where
  g : mg "Expression" = some (.ref C)
  cl : Cls K C
  nF : NoAttr K C "_form"
  nL : NoAttr K C "_leaves"
  nD : NoAttr K C "_depth"
  nS : NoAttr K C "_fields"
  nG : NoAttr K C "_has_given"
structure ExpAt (C : Addr) (H : Hp) (p : Addr) (t : Fm) : Prop where
  at_ : ∃ (dx : Addr) (v : V) (fl : Addr) (ys : List Str), H p = some (.ins C dx (eflds v t fl)) ∧ FmAt H v t ∧ H fl = some (.tup (ys.map V.str)) ∧ sortedS ys = true ∧ ys.Nodup ∧ ∀ z, z ∈ ys ↔ z ∈ t.lvs ∧ fieldB z = true
  ok : t.Ok
  d : t.dep ≤ 20
  n : t.nl ≤ 200
theorem ExpAt.same {C p : Addr} {H H' : Hp} {t : Fm} (s : Same H H') (m : ExpAt C H p t) : ExpAt C H' p t := by
  obtain ⟨⟨dx, v, fl, ys, h1, h2, h3, h4⟩, a, b, c⟩ := m
  exact ⟨⟨dx, v, fl, ys, s _ _ h1, h2.same s, s _ _ h3, h4⟩, a, b, c⟩
theorem ExpAt.set {C p a : Addr} {H : Hp} {t : Fm} {xs : List V} {o : HO} (h : H a = some (.lst xs)) (m : ExpAt C H p t) : ExpAt C (upd H a o) p t := by
  obtain ⟨⟨dx, v, fl, ys, h1, h2, h3, h4⟩, b, c, d⟩ := m
  exact ⟨⟨dx, v, fl, ys, by rw [upd_ne (fun z => by rw [z, h] at h1; cases h1)]; exact h1, h2.keep (TupK.set (H := H) (H' := H) (fun _ _ e => e) h), by rw [upd_ne (fun z => by rw [z, h] at h3; cases h3)]; exact h3, h4⟩, b, c, d⟩
/-- what Expression(..) gives -/
def spInitE (C : Addr) : Sp := fun vs H Q _ => ∃ (p dx : Addr) (v : V) (t : Fm), vs = [.ref p, v] ∧ H p = some (.ins C dx []) ∧ FmAt H v t ∧ t.Ok ∧ t.dep ≤ 20 ∧ t.nl ≤ 200 ∧ ∀ H', (∀ x o, x ≠ p → H x = some o → H' x = some o) → ExpAt C H' p t → Q .non H'
abbrev nmIE : List Str := ["self", "form", "size", "leaves", "depth"]
section
variable {w : World} {P : Program} {base : Heap} {mg : Str → Option Value} {K : PySem.W.Frag} {aS C : Addr}
theorem scIE : FnScope nmIE ["self", "form"] (defScope sInitE) := ⟨rfl, rfl, rfl, by decide +kernel, rfl, by decide +kernel, by decide +kernel⟩
theorem ok_initE {f f1 f2 f3 f4 f5 : Addr} {fd : FuncData} (F : Fun K "__init__" "Expression.__init__" sInitE f fd) (G : Gf K mg aS) (M : ExpC K mg C) (hS : Has P w K mg base CX0 2 "form_size" f1 ["value"] spSize)
    (hL : Has P w K mg base CX0 1 "check_leaves" f2 ["leaves"] (spChk 200)) (hD : Has P w K mg base CX0 1 "check_depth" f3 ["depth"] (spChk 20)) (hF : Has P w K mg base CX0 21 "form_fields" f4 ["form"] (spFields 20)) (hV : Has P w K mg base CX0 20 "form_leaves" f5 ["form"] (spLeaves 20)) :
    FnOk P w K mg base CX0 22 f fd ["self", "form"] (spInitE C) := by
  obtain ⟨tg, hg⟩ := G.gv
  refine F.ok scIE (fun vs H Q E h => ?_) (fun cdv A outer s H vs Q E hr h => ?_)
  · obtain ⟨p, dx, v, t, rfl, _⟩ := h
    rfl
  · obtain ⟨p, dx, v, t, rfl, hp, hm, ok, hd, nl, q⟩ := h
    refine ⟨_, pss_cons (ps_set (i := 2) scIE.nd rfl (.inl rfl) (pe_has hS (hr.mono (by decide)) (by rfl) pass0 (pa_cons (pv 1) pa_nil)))
      (pss_cons (ps_if (pt_cmp (pc_isN (pv 2))) pss_never pss_nil)
      (pss_cons (ps_asg (pv 2) (pg_tup rfl (pgs_cons (pg_name (i := 3) scIE.nd rfl (.inl rfl)) (pgs_cons (pg_name (i := 4) scIE.nd rfl (.inl rfl)) pgs_nil))))
      (pss_cons (ps_expr (pe_has hL (hr.mono (by decide)) (by rfl) pass0 (pa_cons (pv 3) pa_nil)))
      (pss_cons (ps_expr (pe_has hD (hr.mono (by decide)) (by rfl) pass0 (pa_cons (pv 4) pa_nil)))
      (pss_cons (ps_fld (pv 0) (pv 1) rfl) (pss_cons (ps_fld (pv 0) (pv 3) rfl) (pss_cons (ps_fld (pv 0) (pv 4) rfl)
      (pss_cons (ps_fld (pv 0) (pe_has hF hr (by rfl) pass0 (pa_cons (pv 1) pa_nil)) rfl)
      (pss_one (ps_fld (pv 0) (pe_cmpR op_in_seq (pe_glob (v := .str tGiven) (by rfl) hg ⟨_, rfl⟩) (pe_has hV (hr.mono (by decide)) (by rfl) pass0 (pa_cons (pv 1) pa_nil)) (by rfl)) rfl)))))))))), ?_⟩
    refine ⟨_, rfl, v, t, rfl, hm, ok, by omega, by omega, fun a H1 s1 ha => ?_⟩
    refine ⟨_, rfl, false, rfl, iteF ?_⟩
    refine ⟨_, rfl, a, _, rfl, SqT.of ha, rfl, _, _, rfl, _, _, rfl, rfl, ?_⟩
    refine ⟨_, rfl, _, rfl, by omega, ?_⟩
    refine ⟨_, rfl, _, rfl, by omega, ?_⟩
    have hp1 := s1 _ _ hp
    have hm1 := hm.same s1
    have pt : ∀ {fs : List (Str × V)} {H2 : Hp} {o : HO}, H2 p = some (.ins C dx fs) → TupK H2 (upd H2 p o) := fun {fs H2 o} e a xs h => by rw [upd_ne (fun z => by rw [z, e] at h; cases h)]; exact h
    refine ⟨_, rfl, _, rfl, p, C, dx, [], rfl, hp1, M.cl, M.nF, (by show 0 < 1000; decide), ?_⟩
    refine ⟨_, rfl, _, rfl, p, C, dx, _, rfl, upd_same, M.cl, M.nL, (by rw [show (putF "_form" v []).length = 1 from rfl]; decide), ?_⟩
    rw [upd_upd]
    refine ⟨_, rfl, _, rfl, p, C, dx, _, rfl, upd_same, M.cl, M.nD, (by rw [show (putF "_leaves" (V.int (t.nl : Nat)) (putF "_form" v [])).length = 2 from rfl]; decide), ?_⟩
    rw [upd_upd]
    refine ⟨_, rfl, v, t, rfl, hm1.keep (pt hp1), ok, hd, by omega, fun fl ys H2 s2 hf so nd iff => ?_⟩
    have hp2 := s2 _ _ (upd_same (H := H1) (a := p) (o := .ins C dx (putF "_depth" (V.int (t.dep : Nat)) (putF "_leaves" (V.int (t.nl : Nat)) (putF "_form" v [])))))
    have hm2 := (hm1.keep (pt hp1 (o := .ins C dx (putF "_depth" (V.int (t.dep : Nat)) (putF "_leaves" (V.int (t.nl : Nat)) (putF "_form" v [])))))).same s2
    refine ⟨_, rfl, p, C, dx, _, rfl, hp2, M.cl, M.nS, (by rw [show (putF "_depth" (V.int (t.dep : Nat)) (putF "_leaves" (V.int (t.nl : Nat)) (putF "_form" v []))).length = 3 from rfl]; decide), ?_⟩
    refine ⟨_, rfl, v, t, rfl, hm2.keep (pt hp2), hd, by omega, fun l H3 nl' s3 hl => ?_⟩
    have hp3 := s3 _ _ (upd_same (H := H2) (a := p) (o := .ins C dx (putF "_fields" (V.ref fl) (putF "_depth" (V.int (t.dep : Nat)) (putF "_leaves" (V.int (t.nl : Nat)) (putF "_form" v []))))))
    have hm3 := (hm2.keep (pt hp2 (o := .ins C dx (putF "_fields" (V.ref fl) (putF "_depth" (V.int (t.dep : Nat)) (putF "_leaves" (V.int (t.nl : Nat)) (putF "_form" v []))))))).same s3
    have hf3 := s3 _ _ (pt hp2 (o := .ins C dx (putF "_fields" (V.ref fl) (putF "_depth" (V.int (t.dep : Nat)) (putF "_leaves" (V.int (t.nl : Nat)) (putF "_form" v []))))) _ _ hf)
    refine ⟨l, _, rfl, .inl (SqL.of hl), rfl, strs_flat _, ?_⟩
    rw [inV_mem]
    refine ⟨_, rfl, p, C, dx, _, rfl, hp3, M.cl, M.nG, (by rw [show (putF "_fields" (V.ref fl) (putF "_depth" (V.int (t.dep : Nat)) (putF "_leaves" (V.int (t.nl : Nat)) (putF "_form" v [])))).length = 4 from rfl]; decide), ?_⟩
    refine q _ (fun x o n e => ?_) ⟨⟨dx, v, fl, ys, upd_same, hm3.keep (pt hp3), pt hp3 _ _ hf3, so, nd, iff⟩, ok, hd, nl⟩
    rw [upd_ne n]
    refine s3 _ _ ?_
    rw [upd_ne n]
    refine s2 _ _ ?_
    rw [upd_ne n]
    exact s1 _ _ e
end
end K1

namespace K1
open PySem PySem.Spec
open PyProof.Rows L2 EnT StX SmX TxS DuX
/-! ### what an expression tells -/
/-- e.x, a property that hands a field on -/
structure Pp (P : Program) (w : World) (K : PySem.W.Frag) (mg : Str → Option Value) (base : Heap) (C : Addr) (x y : Str) : Prop where
  cl : Cls K C
  ex : ∃ p g fd, PropOf K C x p g ∧ FnOk P w K mg base CX0 1 g fd ["self"] (getSp C y) ∧ L2.Binds K fd ["self"] []
section
variable {X : Cx} {C : Addr} {x y : Str} {e : Expr} {pos : Pos} {ta : TE}
theorem pe_pp (h : Pp X.prog X.w X.K X.mg X.base C x y) (he : PE X e ta) (hr : Room 2 X.A) (hab : attributeBase e x X.env (eval e X.env) = eval e X.env) : PE X (.Attribute e x pos) (tProp C (getSp C y) [] E0 ta) := by
  obtain ⟨c, p, g, fd, pr, G, b⟩ := h
  exact pe_prop he c pr G hr b .nil pass0 hab
end
/-- what is asked of a class for isinstance -/
structure IsC (K : PySem.W.Frag) (C : Addr) : Prop where
  yes : PySem.W.kitOne K (.ref C) (.ref C) = some true
  no : ∀ t ∈ baseTys, PySem.W.kitOne K (.type t) (.ref C) = some false
  hm : PySem.W.mroIn K C (.type "object") = some true
  htk : PySem.W.takesIn K (.builtin "object.__class__") = some true
  hn : PySem.W.specialIn K (.builtin "object.__class__") "__get__" = some (some (.builtin "getset_descriptor.__get__"))
  ha : PySem.W.findIn K (.ref C) "__class__" = some (some (.builtin "object.__class__"))
/-- a value that is none of the class at C -/
def NotC (K : PySem.W.Frag) (C : Addr) (H : Hp) (v : V) : Prop := ∃ t, TyX K H v t ∧ PySem.W.kitOne K t (.ref C) = some false
theorem VOk.notC {K : PySem.W.Frag} {C : Addr} {H : Hp} {v : V} (I : IsC K C) (h : VOk H v) : NotC K C H v := by
  obtain ⟨t, ht, tx⟩ := h.ty (K := K)
  exact ⟨_, tx, I.no t ht⟩
theorem exp_ty {K : PySem.W.Frag} {mg : Str → Option Value} {C b : Addr} {H : Hp} {t : Fm} (M : ExpC K mg C) (I : IsC K C) (m : ExpAt C H b t) : TyX K H (.ref b) (.ref C) := by
  obtain ⟨dy, v, fl, ys, k1, _⟩ := m.at_
  exact .base (.ins k1 M.cl I.ha I.hn I.htk I.hm)
def expText (t : Fm) : Str := Str.empty ++ ("Expression(" : Str) ++ (toString (t.nl : Int) : Str) ++ (" leaves)" : Str)
def spStrE (C : Addr) : Sp := fun vs H Q _ => ∃ (a : Addr) (t : Fm), vs = [.ref a] ∧ ExpAt C H a t ∧ Q (.str (t.txt false)) H
def spReprE (C : Addr) : Sp := fun vs H Q _ => ∃ (a : Addr) (t : Fm), vs = [.ref a] ∧ ExpAt C H a t ∧ Q (.str (expText t)) H
def spEqE (K : PySem.W.Frag) (C : Addr) : Sp := fun vs H Q _ => ∃ (a : Addr) (t : Fm) (y : V), vs = [.ref a, y] ∧ ExpAt C H a t ∧ ((∃ (b : Addr) (u : Fm), y = .ref b ∧ ExpAt C H b u ∧ Q (.bl (PyData.eqv t.dat u.dat)) H) ∨ (NotC K C H y ∧ Q (.bl false) H))
section
variable {w : World} {P : Program} {base : Heap} {mg : Str → Option Value} {K : PySem.W.Frag} {aS C : Addr}
theorem scFormP : FnScope ["self"] ["self"] (defScope sFormP) := ⟨rfl, rfl, rfl, by decide +kernel, rfl, by decide +kernel, by decide +kernel⟩
theorem scLeavesP : FnScope ["self"] ["self"] (defScope sLeavesP) := ⟨rfl, rfl, rfl, by decide +kernel, rfl, by decide +kernel, by decide +kernel⟩
theorem scDepthP : FnScope ["self"] ["self"] (defScope sDepthP) := ⟨rfl, rfl, rfl, by decide +kernel, rfl, by decide +kernel, by decide +kernel⟩
theorem scFieldsP : FnScope ["self"] ["self"] (defScope sFieldsP) := ⟨rfl, rfl, rfl, by decide +kernel, rfl, by decide +kernel, by decide +kernel⟩
theorem scGivenP : FnScope ["self"] ["self"] (defScope sGivenP) := ⟨rfl, rfl, rfl, by decide +kernel, rfl, by decide +kernel, by decide +kernel⟩
theorem scStrE : FnScope ["self"] ["self"] (defScope sStrE) := ⟨rfl, rfl, rfl, by decide +kernel, rfl, by decide +kernel, by decide +kernel⟩
theorem scReprE : FnScope ["self"] ["self"] (defScope sReprE) := ⟨rfl, rfl, rfl, by decide +kernel, rfl, by decide +kernel, by decide +kernel⟩
theorem scEqE : FnScope ["self", "other"] ["self", "other"] (defScope sEqE) := ⟨rfl, rfl, rfl, by decide +kernel, rfl, by decide +kernel, by decide +kernel⟩
theorem ok_formP {f : Addr} {fd : FuncData} (F : Fun K "form" "Expression.form" sFormP f fd) (M : ExpC K mg C) : FnOk P w K mg base CX0 1 f fd ["self"] (getSp C "_form") := by
  refine F.ok scFormP (fun vs H Q E h => ?_) (fun cdv A outer s H vs Q E hr h => ?_)
  · obtain ⟨a, dx, fs, v, rfl, _⟩ := h
    rfl
  · obtain ⟨a, dx, fs, v, rfl, ha, l, q⟩ := h
    exact ⟨_, pss_one (ps_ret (pe_fld (pv 0) rfl)), _, rfl, a, C, dx, fs, v, rfl, ha, M.cl, M.nF, l, q⟩
theorem ok_leavesP {f : Addr} {fd : FuncData} (F : Fun K "leaves" "Expression.leaves" sLeavesP f fd) (M : ExpC K mg C) : FnOk P w K mg base CX0 1 f fd ["self"] (getSp C "_leaves") := by
  refine F.ok scLeavesP (fun vs H Q E h => ?_) (fun cdv A outer s H vs Q E hr h => ?_)
  · obtain ⟨a, dx, fs, v, rfl, _⟩ := h
    rfl
  · obtain ⟨a, dx, fs, v, rfl, ha, l, q⟩ := h
    exact ⟨_, pss_one (ps_ret (pe_fld (pv 0) rfl)), _, rfl, a, C, dx, fs, v, rfl, ha, M.cl, M.nL, l, q⟩
theorem ok_depthP {f : Addr} {fd : FuncData} (F : Fun K "depth" "Expression.depth" sDepthP f fd) (M : ExpC K mg C) : FnOk P w K mg base CX0 1 f fd ["self"] (getSp C "_depth") := by
  refine F.ok scDepthP (fun vs H Q E h => ?_) (fun cdv A outer s H vs Q E hr h => ?_)
  · obtain ⟨a, dx, fs, v, rfl, _⟩ := h
    rfl
  · obtain ⟨a, dx, fs, v, rfl, ha, l, q⟩ := h
    exact ⟨_, pss_one (ps_ret (pe_fld (pv 0) rfl)), _, rfl, a, C, dx, fs, v, rfl, ha, M.cl, M.nD, l, q⟩
theorem ok_fieldsP {f : Addr} {fd : FuncData} (F : Fun K "fields" "Expression.fields" sFieldsP f fd) (M : ExpC K mg C) : FnOk P w K mg base CX0 1 f fd ["self"] (getSp C "_fields") := by
  refine F.ok scFieldsP (fun vs H Q E h => ?_) (fun cdv A outer s H vs Q E hr h => ?_)
  · obtain ⟨a, dx, fs, v, rfl, _⟩ := h
    rfl
  · obtain ⟨a, dx, fs, v, rfl, ha, l, q⟩ := h
    exact ⟨_, pss_one (ps_ret (pe_fld (pv 0) rfl)), _, rfl, a, C, dx, fs, v, rfl, ha, M.cl, M.nS, l, q⟩
theorem ok_strE {f f1 : Addr} {fd : FuncData} (F : Fun K "__str__" "Expression.__str__" sStrE f fd) (T : Free mg) (M : ExpC K mg C) (hT : Has P w K mg base CX0 40 "form_text" f1 ["form"] (spTextF 20)) : FnOk P w K mg base CX0 41 f fd ["self"] (spStrE C) := by
  refine F.ok scStrE (fun vs H Q E h => ?_) (fun cdv A outer s H vs Q E hr h => ?_)
  · obtain ⟨a, t, rfl, _⟩ := h
    rfl
  · obtain ⟨a, t, rfl, m, q⟩ := h
    obtain ⟨dx, v, fl, ys, h1, h2, _⟩ := m.at_
    have nl := m.n
    exact ⟨_, pss_one (ps_ret (pe_callTy SkE.call_str_str (by rfl) T.str (by decide +kernel) (pa_cons (pe_has hT hr (by rfl) pass0 (pa_cons (pe_fld (pv 0) rfl) pa_nil)) pa_nil))), _, rfl, a, C, dx, _, _, rfl, h1, M.cl, M.nF, ef_form v t fl, v, t, rfl, h2, m.ok, m.d, by omega, _, rfl, q⟩
theorem ok_reprE {f : Addr} {fd : FuncData} (F : Fun K "__repr__" "Expression.__repr__" sReprE f fd) (M : ExpC K mg C) : FnOk P w K mg base CX0 1 f fd ["self"] (spReprE C) := by
  refine F.ok scReprE (fun vs H Q E h => ?_) (fun cdv A outer s H vs Q E hr h => ?_)
  · obtain ⟨a, t, rfl, _⟩ := h
    rfl
  · obtain ⟨a, t, rfl, m, q⟩ := h
    obtain ⟨dx, v, fl, ys, h1, h2, _⟩ := m.at_
    have nl := m.n
    have f1 : (toString (t.nl : Int) : Str).length ≤ 5 := RpD.shown_int (by omega)
    have e0 : (Str.empty ++ ("Expression(" : Str)).length = 11 := by decide +kernel
    have e1 : ((" leaves)" : Str)).length = 8 := by decide +kernel
    refine ⟨_, pss_one (ps_ret (pe_joined (.cons pe_str (.cons (pe_fmt (pe_fld (pv 0) rfl)) (.cons pe_str .nil))))), ?_⟩
    refine ⟨_, rfl, by rw [e0, sizeLine_eq]; decide, _, rfl, a, C, dx, _, _, rfl, h1, M.cl, M.nL, ef_leaves v t fl, .inr ⟨_, rfl, RpD.log_small (i := (t.nl : Nat)) (by omega), ?_⟩⟩
    exact ⟨_, rfl, by rw [strLen_append, e0, sizeLine_eq]; omega, _, rfl, by rw [strLen_append, strLen_append, e0, e1, sizeLine_eq]; omega, q⟩
theorem ok_eqE {f : Addr} {fd : FuncData} (F : Fun K "__eq__" "Expression.__eq__" sEqE f fd) (T : Free mg) (M : ExpC K mg C) (I : IsC K C) (pF : Pp P w K mg base C "form" "_form") : FnOk P w K mg base CX0 3 f fd ["self", "other"] (spEqE K C) := by
  refine F.ok scEqE (fun vs H Q E h => ?_) (fun cdv A outer s H vs Q E hr h => ?_)
  · obtain ⟨a, t, y, rfl, _⟩ := h
    rfl
  · obtain ⟨a, t, y, rfl, m, h⟩ := h
    obtain ⟨dx, v, fl, ys, h1, h2, _⟩ := m.at_
    refine ⟨_, pss_one (ps_ret (pe_and (pe_callB call_isi (by rfl) T.isinstance (by decide +kernel) (pa_cons (pv 1) (pa_cons (pe_glob (v := .ref C) (by rfl) M.g rfl) pa_nil))) (pe_one (pe_cmpR (op_eqD (by have := hr.un; have e : (A.deeper (envOfC "Expression.__eq__" (defScope sEqE) s.heap.objs.size f cdv)).units = A.units + 3 := rfl; show A.units + 3 + 64 < cLine; omega)) (pe_fld (pv 0) rfl) (pe_pp pF (pv 1) hr rfl) (nomark _))))), ?_⟩
    rcases h with ⟨b, u, rfl, m2, q⟩ | ⟨⟨ty, tx, kt⟩, q⟩
    · obtain ⟨dx2, v2, fl2, ys2, k1, k2, _⟩ := m2.at_
      refine ⟨_, rfl, _, _, _, _, true, rfl, .own C, exp_ty M I m2, I.yes, true, rfl, ?_⟩
      refine iteT ⟨_, rfl, a, C, dx, _, _, rfl, h1, M.cl, M.nF, ef_form v t fl, _, rfl, b, dx2, _, rfl, k1, b, dx2, _, _, rfl, k1, ef_form v2 u fl2, ?_⟩
      have d1 := m.d
      have d2 := m2.d
      exact ⟨t.dat, u.dat, h2.dp, k2.dp, Fm.shaped m.ok (by omega), Fm.shaped m2.ok (by omega), q⟩
    · refine ⟨_, rfl, _, _, _, _, false, rfl, .own C, tx, kt, false, rfl, ?_⟩
      exact iteF q
end
def MakesE (C : Addr) (t : Fm) (H : Hp) (Q : VK) : Prop := ∀ (p : Addr) (H' : Hp), H p = none → Same H H' → ExpAt C H' p t → Q (.ref p) H'
theorem makeE_go {C : Addr} {H : Hp} {v : V} {t : Fm} {Q : VK} {E : XK} (hm : FmAt H v t) (ok : t.Ok) (hd : t.dep ≤ 20) (hn : t.nl ≤ 200) (q : MakesE C t H Q) : ∀ x dx, H x = none → H dx = none → dx ≠ x → spInitE C [.ref x, v] (upd (upd H dx (.own x)) x (.ins C dx [])) (fun v H2 => v = .non ∧ Q (.ref x) H2) E := by
  intro x dx nx nd ne
  have s1 : Same H (upd H dx (.own x)) := same_upd nd
  have nx1 : (upd H dx (.own x)) x = none := by rw [upd_ne (Ne.symm ne)]; exact nx
  have s2 : Same (upd H dx (.own x)) (upd (upd H dx (.own x)) x (.ins C dx [])) := same_upd nx1
  refine ⟨x, dx, v, t, rfl, upd_same, hm.same (s1.trans s2), ok, hd, hn, fun H' k e => ⟨rfl, q x H' nx (fun b o hb => k b o (fun z => ?_) ((s1.trans s2) b o hb)) e⟩⟩
  rw [z, nx] at hb
  cases hb
end K1

namespace TkX
open PySem PySem.Spec PyProof.Rows L2 SmX ClX
/-- C.m(k = e, ..) of a static method that wants a token out -/
theorem pe_smKT {X : Cx} {k : Nat} {C p g : Addr} {mc : Value} {sp : Sp} {o : Expr} {m : Str} {pos apos : Pos} {to : TE} {tk : TA} {pl : Sem Bool} {fd : FuncData} {ps ks : List Str} {kws : List Keyword} {gg : List Value → List Value → List Value} {gV : List V → List V → List V} (he : PE X o to) (r : CRead X.K C mc) (c : SMet X.K C mc m p g)
    (F : FnT X.prog X.w X.K X.mg X.base k g fd ps sp) (hb : KBn X.K fd ps 0 ks gg gV) (hr : Room k X.A) (hkw : PK X kws tk)
    (hks : (backToKw pos (keywordEach kws X.env)).filterMap (·.1) = ks := by rfl) (hall : (backToKw pos (keywordEach kws X.env)).all (·.1.isSome) = true := by rfl)
    (hpl : ((backTo pos (starEach [] X.env)).any (·.1) || (backToKw pos (keywordEach kws X.env)).any (·.1.isNone)) = false := by rfl)
    (ht : eval (.Call (.Attribute o m apos) [] kws pos) X.env = (do
      let ov ← eval o X.env
      standAt apos.atName
      let (f, first) ← holding
          [ov] (getMethod ov m pl)
      callWith pos f first (backTo pos (starEach [] X.env)) (backToKw pos (keywordEach kws X.env))) := by rfl) :
    PE X (.Call (.Attribute o m apos) [] kws pos) (tSMethK C ks.length sp gV E0 to tk) := by
  refine ⟨fun pins s σ H Q Iv hyp => ?_⟩
  refine PySem.W.methodCall_KW (pl := pl) (thn (he.run pins s σ H _ Iv hyp) fun usV st1 ⟨x, H1, Iv1, relX, ex, cont⟩ => ?_) ht
  subst ex
  obtain rfl : usV = Value.ref C := relX
  refine getsm_tok Iv1 r c fun st2 t2 Iv2 => ?_
  refine PySem.W.callWith_KW0 (h₀ := X.base) Iv.ok.mod.kin c.kp hall ?_ hpl
  refine wpAny_mono (PySem.wpAny_toks_of t2 (hkw.run pos pins st2 σ H1 _ Iv2 cont)) (fun ws s1 q => ?_) fun _ _ z => z.2
  obtain ⟨t3, zs, H2, I3, rz, l2, q2⟩ := q
  refine ⟨I3.kIn, ?_⟩
  rw [hks]
  exact wpAny_call (codeAny_mono (F.run X.A X.stack s1 H2 ⟨[], ks.zip ws⟩ (gg [] ws) (gV [] zs) Q E0 t3 hr I3.env0 (hb.to s1 [] ws I3.kIn rfl (rz.length.symm.trans l2)) (hb.rel .nil rz) q2) fun r s' hq => after_run I3 hq)
end TkX
namespace K1
open PySem PySem.Spec
open PyProof.Rows L2 EnT StX SmX TxS DuX
/-! ### Expression.read -/
def spReadE (C : Addr) : Sp := fun vs H Q _ => ∃ t : Fm, vs = [.str (t.txt false)] ∧ t.Ok ∧ t.dep ≤ 20 ∧ t.nl ≤ 200 ∧ MakesE C t H Q
abbrev nmRE : List Str := ["text", "counted", "form", "leaves"]
section
variable {w : World} {P : Program} {base : Heap} {mg : Str → Option Value} {K : PySem.W.Frag} {aS C fI : Addr}
theorem scRE : FnScope nmRE ["text"] (defScope sReadE) := ⟨rfl, rfl, rfl, by decide +kernel, rfl, by decide +kernel, by decide +kernel⟩
theorem ok_readE {f f1 f2 : Addr} {fd : FuncData} (F : Fun K "read" "Expression.read" sReadE f fd) (M : ExpC K mg C) (MK : Mk K C fI) (FI : FnR P w K mg base CX0 22 fI (spInitE C)) (hR : TkX.HasT P w K mg base 3 "read_counted" f1 ["text"] spReadC)
    (hL : Has P w K mg base CX0 1 "check_leaves" f2 ["leaves"] (spChk 200)) : TkX.FnT P w K mg base 24 f fd ["text"] (spReadE C) := by
  refine TkX.fnT_of F scRE (fun vs H Q E h => ?_) (fun cdv A outer s H vs Q E hr h => ?_)
  · obtain ⟨t, rfl, _⟩ := h
    rfl
  · obtain ⟨t, rfl, ok, hd, nl, q⟩ := h
    refine ⟨_, psst_cons (TkX.pst_set (i := 1) scRE.nd rfl (.inl rfl) (TkX.pet_has hR (hr.mono (by decide)) (by rfl) (pa_cons (pv 0) pa_nil)))
      (PSsT.of (pss_cons (ps_if (pt_cmp (pc_isN (pv 1))) pss_never pss_nil)
      (pss_cons (ps_asg (pv 1) (pg_tup rfl (pgs_cons (pg_name (i := 2) scRE.nd rfl (.inl rfl)) (pgs_cons (pg_name (i := 3) scRE.nd rfl (.inl rfl)) pgs_nil))))
      (pss_cons (ps_expr (pe_has hL (hr.mono (by decide)) (by rfl) pass0 (pa_cons (pv 3) pa_nil)))
      (pss_one (ps_ret (pe_makeR MK FI hr (by rfl) M.g pass0 (pa_cons (pv 2) pa_nil)))))))), ?_⟩
    refine ⟨_, rfl, t, rfl, ok, by omega, fun v H1 s1 pt => ?_⟩
    cases pt with
    | f ha hm =>
    rename_i a v
    refine ⟨_, rfl, false, rfl, iteF ?_⟩
    refine ⟨_, rfl, a, _, rfl, SqT.of ha, rfl, _, _, rfl, _, _, rfl, rfl, ?_⟩
    refine ⟨_, rfl, _, rfl, by omega, ?_⟩
    refine ⟨_, rfl, makeE_go hm ok hd nl fun p H' np s2 m => q p H' ?_ (s1.trans s2) m⟩
    cases e : H p with
    | none => rfl
    | some o =>
      rw [s1 _ _ e] at np
      cases np
end
end K1

namespace K1
open PySem PySem.Spec
open PyProof.Rows L2 EnT StX SmX TxS DuX
/-! ### the signs -/
def spChkE (C : Addr) : Sp := fun vs H Q _ => ∃ (b : Addr) (t : Fm), vs = [.ref b] ∧ ExpAt C H b t ∧ Q .non H
def spSign (C : Addr) : Sp := fun vs H Q _ => ∃ (z : Str) (a b : Addr) (t u : Fm), vs = [.str z, .ref a, .ref b] ∧ z ∈ signs ∧ ExpAt C H a t ∧ ExpAt C H b u ∧ t.dep ≤ 19 ∧ u.dep ≤ 19 ∧ t.nl ≤ 100 ∧ u.nl ≤ 100 ∧ MakesE C (.node z t u) H Q
def spOp (C : Addr) (z : Str) : Sp := fun vs H Q _ => ∃ (a b : Addr) (t u : Fm), vs = [.ref a, .ref b] ∧ ExpAt C H a t ∧ ExpAt C H b u ∧ t.dep ≤ 19 ∧ u.dep ≤ 19 ∧ t.nl ≤ 100 ∧ u.nl ≤ 100 ∧ MakesE C (.node z t u) H Q
theorem MakesE.after {C : Addr} {t : Fm} {H H1 : Hp} {Q : VK} (s : Same H H1) (q : MakesE C t H Q) : MakesE C t H1 Q := fun p H' np s2 m => q p H' (by
  cases e : H p with
  | none => rfl
  | some o =>
    rw [s _ _ e] at np
    cases np) (s.trans s2) m
section
variable {w : World} {P : Program} {base : Heap} {mg : Str → Option Value} {K : PySem.W.Frag} {aS C fI : Addr}
theorem scChkE : FnScope ["value"] ["value"] (defScope sChkE) := ⟨rfl, rfl, rfl, by decide +kernel, rfl, by decide +kernel, by decide +kernel⟩
theorem scSign : FnScope ["sign", "one", "other"] ["sign", "one", "other"] (defScope sSign) := ⟨rfl, rfl, rfl, by decide +kernel, rfl, by decide +kernel, by decide +kernel⟩
theorem scOrE : FnScope ["self", "other"] ["self", "other"] (defScope sOrE) := ⟨rfl, rfl, rfl, by decide +kernel, rfl, by decide +kernel, by decide +kernel⟩
theorem scAndE : FnScope ["self", "other"] ["self", "other"] (defScope sAndE) := ⟨rfl, rfl, rfl, by decide +kernel, rfl, by decide +kernel, by decide +kernel⟩
theorem scSubE : FnScope ["self", "other"] ["self", "other"] (defScope sSubE) := ⟨rfl, rfl, rfl, by decide +kernel, rfl, by decide +kernel, by decide +kernel⟩
theorem scXorE : FnScope ["self", "other"] ["self", "other"] (defScope sXorE) := ⟨rfl, rfl, rfl, by decide +kernel, rfl, by decide +kernel, by decide +kernel⟩
theorem ok_chkE {f : Addr} {fd : FuncData} (F : Fun K "check_expression" "check_expression" sChkE f fd) (T : Free mg) (M : ExpC K mg C) (I : IsC K C) : FnOk P w K mg base CX0 1 f fd ["value"] (spChkE C) := by
  refine F.ok scChkE (fun vs H Q E h => ?_) (fun cdv A outer s H vs Q E hr h => ?_)
  · obtain ⟨b, t, rfl, _⟩ := h
    rfl
  · obtain ⟨b, t, rfl, m, q⟩ := h
    refine ⟨_, pss_one (ps_if (pt_not (pt_val (pe_callB call_isi (by rfl) T.isinstance (by decide +kernel) (pa_cons (pv 0) (pa_cons (pe_glob (v := .ref C) (by rfl) M.g rfl) pa_nil))))) pss_never pss_nil), ?_⟩
    exact ⟨_, rfl, _, _, _, _, true, rfl, .own C, exp_ty M I m, I.yes, true, rfl, iteF q⟩
theorem ok_sign {f f1 : Addr} {fd : FuncData} (F : Fun K "with_sign" "with_sign" sSign f fd) (M : ExpC K mg C) (MK : Mk K C fI) (FI : FnR P w K mg base CX0 22 fI (spInitE C)) (hC : Has P w K mg base CX0 1 "check_expression" f1 ["value"] (spChkE C)) (pF : Pp P w K mg base C "form" "_form") :
    FnOk P w K mg base CX0 24 f fd ["sign", "one", "other"] (spSign C) := by
  refine F.ok scSign (fun vs H Q E h => ?_) (fun cdv A outer s H vs Q E hr h => ?_)
  · obtain ⟨z, a, b, t, u, rfl, _⟩ := h
    rfl
  · obtain ⟨z, a, b, t, u, rfl, hz, m1, m2, d1, d2, l1, l2, q⟩ := h
    obtain ⟨dx1, v1, fl1, ys1, h1, h2, _⟩ := m1.at_
    obtain ⟨dx2, v2, fl2, ys2, k1, k2, _⟩ := m2.at_
    refine ⟨_, pss_cons (ps_expr (pe_has hC (hr.mono (by decide)) (by rfl) pass0 (pa_cons (pv 2) pa_nil)))
      (pss_one (ps_ret (pe_makeR MK FI hr (by rfl) M.g pass0 (pa_cons (pe_tup (pa_cons (pv 0) (pa_cons (pe_pp pF (pv 1) (hr.mono (by decide)) rfl) (pa_cons (pe_pp pF (pv 2) (hr.mono (by decide)) rfl) pa_nil)))) pa_nil)))), ?_⟩
    refine ⟨_, rfl, b, u, rfl, m2, ?_⟩
    refine ⟨_, rfl, _, rfl, a, dx1, _, rfl, h1, a, dx1, _, _, rfl, h1, ef_form v1 t fl1, _, rfl, b, dx2, _, rfl, k1, b, dx2, _, _, rfl, k1, ef_form v2 u fl2, (by show 3 ≤ sizeLine; decide), fun p np => ?_⟩
    have s1 : Same H (upd H p (.tup [.str z, v1, v2])) := same_upd np
    have dd : (Fm.node z t u).dep ≤ 20 := by rw [Fm.dep_node]; omega
    exact makeE_go (.node upd_same (h2.same s1) (k2.same s1)) ⟨hz, m1.ok, m2.ok⟩ dd (by rw [Fm.nl_node]; omega) (q.after s1)
theorem ok_orE {f f1 : Addr} {fd : FuncData} (F : Fun K "__or__" "Expression.__or__" sOrE f fd) (hS : Has P w K mg base CX0 24 "with_sign" f1 ["sign", "one", "other"] (spSign C)) : FnOk P w K mg base CX0 25 f fd ["self", "other"] (spOp C "|") := by
  refine F.ok scOrE (fun vs H Q E h => ?_) (fun cdv A outer s H vs Q E hr h => ?_)
  · obtain ⟨a, b, t, u, rfl, _⟩ := h
    rfl
  · obtain ⟨a, b, t, u, rfl, m1, m2, d1, d2, l1, l2, q⟩ := h
    exact ⟨_, pss_one (ps_ret (pe_has hS hr (by rfl) pass0 (pa_cons pe_str (pa_cons (pv 0) (pa_cons (pv 1) pa_nil))))), _, rfl, _, rfl, "|", a, b, t, u, rfl, by decide +kernel, m1, m2, d1, d2, l1, l2, q⟩
theorem ok_andE {f f1 : Addr} {fd : FuncData} (F : Fun K "__and__" "Expression.__and__" sAndE f fd) (hS : Has P w K mg base CX0 24 "with_sign" f1 ["sign", "one", "other"] (spSign C)) : FnOk P w K mg base CX0 25 f fd ["self", "other"] (spOp C "&") := by
  refine F.ok scAndE (fun vs H Q E h => ?_) (fun cdv A outer s H vs Q E hr h => ?_)
  · obtain ⟨a, b, t, u, rfl, _⟩ := h
    rfl
  · obtain ⟨a, b, t, u, rfl, m1, m2, d1, d2, l1, l2, q⟩ := h
    exact ⟨_, pss_one (ps_ret (pe_has hS hr (by rfl) pass0 (pa_cons pe_str (pa_cons (pv 0) (pa_cons (pv 1) pa_nil))))), _, rfl, _, rfl, "&", a, b, t, u, rfl, by decide +kernel, m1, m2, d1, d2, l1, l2, q⟩
theorem ok_subE {f f1 : Addr} {fd : FuncData} (F : Fun K "__sub__" "Expression.__sub__" sSubE f fd) (hS : Has P w K mg base CX0 24 "with_sign" f1 ["sign", "one", "other"] (spSign C)) : FnOk P w K mg base CX0 25 f fd ["self", "other"] (spOp C "-") := by
  refine F.ok scSubE (fun vs H Q E h => ?_) (fun cdv A outer s H vs Q E hr h => ?_)
  · obtain ⟨a, b, t, u, rfl, _⟩ := h
    rfl
  · obtain ⟨a, b, t, u, rfl, m1, m2, d1, d2, l1, l2, q⟩ := h
    exact ⟨_, pss_one (ps_ret (pe_has hS hr (by rfl) pass0 (pa_cons pe_str (pa_cons (pv 0) (pa_cons (pv 1) pa_nil))))), _, rfl, _, rfl, "-", a, b, t, u, rfl, by decide +kernel, m1, m2, d1, d2, l1, l2, q⟩
theorem ok_xorE {f f1 : Addr} {fd : FuncData} (F : Fun K "__xor__" "Expression.__xor__" sXorE f fd) (hS : Has P w K mg base CX0 24 "with_sign" f1 ["sign", "one", "other"] (spSign C)) : FnOk P w K mg base CX0 25 f fd ["self", "other"] (spOp C "^") := by
  refine F.ok scXorE (fun vs H Q E h => ?_) (fun cdv A outer s H vs Q E hr h => ?_)
  · obtain ⟨a, b, t, u, rfl, _⟩ := h
    rfl
  · obtain ⟨a, b, t, u, rfl, m1, m2, d1, d2, l1, l2, q⟩ := h
    exact ⟨_, pss_one (ps_ret (pe_has hS hr (by rfl) pass0 (pa_cons pe_str (pa_cons (pv 0) (pa_cons (pv 1) pa_nil))))), _, rfl, _, rfl, "^", a, b, t, u, rfl, by decide +kernel, m1, m2, d1, d2, l1, l2, q⟩
end
end K1

namespace K1
open PySem PySem.Spec
open PyProof.Rows L2 EnT StX SmX TxS DuX
/-! ### facts -/
def ffl (a b : Addr) : List (Str × V) := putF "_right" (.ref b) (putF "_left" (.ref a) [])
theorem ff_left (a b : Addr) : (ffl a b).lookup ("_left" : Str) = some (.ref a) := by
  unfold ffl
  rw [lookup_putF, if_neg (by decide +kernel), lookup_putF, if_pos rfl]
theorem ff_right (a b : Addr) : (ffl a b).lookup ("_right" : Str) = some (.ref b) := by
  unfold ffl
  rw [lookup_putF, if_pos rfl]
structure FacC (K : PySem.W.Frag) (mg : Str → Option Value) (D : Addr) : Prop where
  g : mg "Fact" = some (.ref D)
  cl : Cls K D
  nL : NoAttr K D "_left"
  nR : NoAttr K D "_right"
/-- the fact of the two expressions at a and b -/
structure FacAt (C D : Addr) (H : Hp) (p a b : Addr) (t u : Fm) : Prop where
  at_ : ∃ dx, H p = some (.ins D dx (ffl a b))
  l : ExpAt C H a t
  r : ExpAt C H b u
theorem FacAt.same {C D p a b : Addr} {H H' : Hp} {t u : Fm} (s : Same H H') (m : FacAt C D H p a b t u) : FacAt C D H' p a b t u := by
  obtain ⟨⟨dx, h⟩, l, r⟩ := m
  exact ⟨⟨dx, s _ _ h⟩, l.same s, r.same s⟩
theorem fac_ty {K : PySem.W.Frag} {mg : Str → Option Value} {C D p a b : Addr} {H : Hp} {t u : Fm} (M : FacC K mg D) (I : IsC K D) (m : FacAt C D H p a b t u) : TyX K H (.ref p) (.ref D) := by
  obtain ⟨dy, k1⟩ := m.at_
  exact .base (.ins k1 M.cl I.ha I.hn I.htk I.hm)
def MakesF (C D a b : Addr) (t u : Fm) (H : Hp) (Q : VK) : Prop := ∀ (p : Addr) (H' : Hp), H p = none → Same H H' → FacAt C D H' p a b t u → Q (.ref p) H'
def spInitF (C D : Addr) : Sp := fun vs H Q _ => ∃ (p a b dx : Addr) (t u : Fm), vs = [.ref p, .ref a, .ref b] ∧ H p = some (.ins D dx []) ∧ p ≠ a ∧ p ≠ b ∧ ExpAt C H a t ∧ ExpAt C H b u ∧ ∀ H', (∀ x o, x ≠ p → H x = some o → H' x = some o) → FacAt C D H' p a b t u → Q .non H'
theorem makeF_go {C D a b : Addr} {H : Hp} {t u : Fm} {Q : VK} {E : XK} (m1 : ExpAt C H a t) (m2 : ExpAt C H b u) (q : MakesF C D a b t u H Q) : ∀ x dx, H x = none → H dx = none → dx ≠ x → spInitF C D [.ref x, .ref a, .ref b] (upd (upd H dx (.own x)) x (.ins D dx [])) (fun v H2 => v = .non ∧ Q (.ref x) H2) E := by
  intro x dx nx nd ne
  have s1 : Same H (upd H dx (.own x)) := same_upd nd
  have nx1 : (upd H dx (.own x)) x = none := by rw [upd_ne (Ne.symm ne)]; exact nx
  have s2 : Same (upd H dx (.own x)) (upd (upd H dx (.own x)) x (.ins D dx [])) := same_upd nx1
  have no : ∀ {b : Addr} {o : HO}, H b = some o → x ≠ b := fun h z => by
    rw [← z, nx] at h
    cases h
  obtain ⟨_, _, _, _, h1, _⟩ := m1.at_
  obtain ⟨_, _, _, _, h2, _⟩ := m2.at_
  refine ⟨x, a, b, dx, t, u, rfl, upd_same, no h1, no h2, m1.same (s1.trans s2), m2.same (s1.trans s2), fun H' k e => ⟨rfl, q x H' nx (fun b o hb => k b o (fun z => no hb z.symm) ((s1.trans s2) b o hb)) e⟩⟩
theorem ExpAt.upd_ins {C D p a dx : Addr} {H : Hp} {t : Fm} {fs : List (Str × V)} {o : HO} (h : H p = some (.ins D dx fs)) (n : p ≠ a) (m : ExpAt C H a t) : ExpAt C (upd H p o) a t := by
  obtain ⟨⟨dx', v, fl, ys, h1, h2, h3, h4⟩, b, c, d⟩ := m
  exact ⟨⟨dx', v, fl, ys, by rw [upd_ne (Ne.symm n)]; exact h1, h2.keep (fun c xs e => by rw [upd_ne (fun z => by rw [z, h] at e; cases e)]; exact e), by rw [upd_ne (fun z => by rw [z, h] at h3; cases h3)]; exact h3, h4⟩, b, c, d⟩
def spWithin (C D : Addr) : Sp := fun vs H Q _ => ∃ (a b : Addr) (t u : Fm), vs = [.ref a, .ref b] ∧ ExpAt C H a t ∧ ExpAt C H b u ∧ MakesF C D a b t u H Q
def spFormF (C D : Addr) : Sp := fun vs H Q _ => ∃ (p a b : Addr) (t u : Fm), vs = [.ref p] ∧ FacAt C D H p a b t u ∧ ∀ (q : Addr) (v1 v2 : V) (H' : Hp), Same H H' → H' q = some (.tup [v1, v2]) → FmAt H' v1 t → FmAt H' v2 u → Q (.ref q) H'
def spEqF (C D : Addr) : Sp := fun vs H Q _ => ∃ (p q a b c d : Addr) (t u t' u' : Fm), vs = [.ref p, .ref q] ∧ FacAt C D H p a b t u ∧ FacAt C D H q c d t' u' ∧ Q (.bl (PyData.eqv t.dat t'.dat && PyData.eqv u.dat u'.dat)) H
section
variable {w : World} {P : Program} {base : Heap} {mg : Str → Option Value} {K : PySem.W.Frag} {aS C D fI : Addr}
theorem scIF : FnScope ["self", "left", "right"] ["self", "left", "right"] (defScope sInitF) := ⟨rfl, rfl, rfl, by decide +kernel, rfl, by decide +kernel, by decide +kernel⟩
theorem scWithin : FnScope ["self", "other"] ["self", "other"] (defScope sWithin) := ⟨rfl, rfl, rfl, by decide +kernel, rfl, by decide +kernel, by decide +kernel⟩
theorem scLeftP : FnScope ["self"] ["self"] (defScope sLeftP) := ⟨rfl, rfl, rfl, by decide +kernel, rfl, by decide +kernel, by decide +kernel⟩
theorem scRightP : FnScope ["self"] ["self"] (defScope sRightP) := ⟨rfl, rfl, rfl, by decide +kernel, rfl, by decide +kernel, by decide +kernel⟩
theorem scFormF : FnScope ["self"] ["self"] (defScope sFormF) := ⟨rfl, rfl, rfl, by decide +kernel, rfl, by decide +kernel, by decide +kernel⟩
theorem scEqF : FnScope ["self", "other"] ["self", "other"] (defScope sEqF) := ⟨rfl, rfl, rfl, by decide +kernel, rfl, by decide +kernel, by decide +kernel⟩
theorem ok_initF {f f1 : Addr} {fd : FuncData} (F : Fun K "__init__" "Fact.__init__" sInitF f fd) (M : FacC K mg D) (hC : Has P w K mg base CX0 1 "check_expression" f1 ["value"] (spChkE C)) : FnOk P w K mg base CX0 2 f fd ["self", "left", "right"] (spInitF C D) := by
  refine F.ok scIF (fun vs H Q E h => ?_) (fun cdv A outer s H vs Q E hr h => ?_)
  · obtain ⟨p, a, b, dx, t, u, rfl, _⟩ := h
    rfl
  · obtain ⟨p, a, b, dx, t, u, rfl, hp, n1, n2, m1, m2, q⟩ := h
    refine ⟨_, pss_cons (ps_expr (pe_has hC hr (by rfl) pass0 (pa_cons (pv 1) pa_nil)))
      (pss_cons (ps_expr (pe_has hC hr (by rfl) pass0 (pa_cons (pv 2) pa_nil)))
      (pss_cons (ps_fld (pv 0) (pv 1) rfl) (pss_one (ps_fld (pv 0) (pv 2) rfl)))), ?_⟩
    refine ⟨_, rfl, a, t, rfl, m1, _, rfl, b, u, rfl, m2, ?_⟩
    refine ⟨_, rfl, _, rfl, p, D, dx, [], rfl, hp, M.cl, M.nL, (by show 0 < 1000; decide), ?_⟩
    refine ⟨_, rfl, _, rfl, p, D, dx, _, rfl, upd_same, M.cl, M.nR, (by rw [show (putF "_left" (V.ref a) []).length = 1 from rfl]; decide), ?_⟩
    rw [upd_upd]
    exact q _ (fun x o n e => by rw [upd_ne n]; exact e) ⟨⟨dx, upd_same⟩, m1.upd_ins hp n1, m2.upd_ins hp n2⟩
theorem ok_within {f : Addr} {fd : FuncData} (F : Fun K "within" "Expression.within" sWithin f fd) (M : FacC K mg D) (MK : Mk K D fI) (FI : FnR P w K mg base CX0 2 fI (spInitF C D)) : FnOk P w K mg base CX0 4 f fd ["self", "other"] (spWithin C D) := by
  refine F.ok scWithin (fun vs H Q E h => ?_) (fun cdv A outer s H vs Q E hr h => ?_)
  · obtain ⟨a, b, t, u, rfl, _⟩ := h
    rfl
  · obtain ⟨a, b, t, u, rfl, m1, m2, q⟩ := h
    exact ⟨_, pss_one (ps_ret (pe_makeR MK FI hr (by rfl) M.g pass0 (pa_cons (pv 0) (pa_cons (pv 1) pa_nil)))), _, rfl, _, rfl, makeF_go m1 m2 q⟩
theorem ok_leftP {f : Addr} {fd : FuncData} (F : Fun K "left" "Fact.left" sLeftP f fd) (M : FacC K mg D) : FnOk P w K mg base CX0 1 f fd ["self"] (getSp D "_left") := by
  refine F.ok scLeftP (fun vs H Q E h => ?_) (fun cdv A outer s H vs Q E hr h => ?_)
  · obtain ⟨a, dx, fs, v, rfl, _⟩ := h
    rfl
  · obtain ⟨a, dx, fs, v, rfl, ha, l, q⟩ := h
    exact ⟨_, pss_one (ps_ret (pe_fld (pv 0) rfl)), _, rfl, a, D, dx, fs, v, rfl, ha, M.cl, M.nL, l, q⟩
theorem ok_rightP {f : Addr} {fd : FuncData} (F : Fun K "right" "Fact.right" sRightP f fd) (M : FacC K mg D) : FnOk P w K mg base CX0 1 f fd ["self"] (getSp D "_right") := by
  refine F.ok scRightP (fun vs H Q E h => ?_) (fun cdv A outer s H vs Q E hr h => ?_)
  · obtain ⟨a, dx, fs, v, rfl, _⟩ := h
    rfl
  · obtain ⟨a, dx, fs, v, rfl, ha, l, q⟩ := h
    exact ⟨_, pss_one (ps_ret (pe_fld (pv 0) rfl)), _, rfl, a, D, dx, fs, v, rfl, ha, M.cl, M.nR, l, q⟩
theorem ok_formF {f : Addr} {fd : FuncData} (F : Fun K "form" "Fact.form" sFormF f fd) (M : FacC K mg D) (pF : Pp P w K mg base C "form" "_form") : FnOk P w K mg base CX0 3 f fd ["self"] (spFormF C D) := by
  refine F.ok scFormF (fun vs H Q E h => ?_) (fun cdv A outer s H vs Q E hr h => ?_)
  · obtain ⟨p, a, b, t, u, rfl, _⟩ := h
    rfl
  · obtain ⟨p, a, b, t, u, rfl, m, q⟩ := h
    obtain ⟨dx, h⟩ := m.at_
    obtain ⟨dx1, v1, fl1, ys1, h1, h2, _⟩ := m.l.at_
    obtain ⟨dx2, v2, fl2, ys2, k1, k2, _⟩ := m.r.at_
    refine ⟨_, pss_one (ps_ret (pe_tup (pa_cons (pe_pp pF (pe_fld (pv 0) rfl) hr rfl) (pa_cons (pe_pp pF (pe_fld (pv 0) rfl) hr rfl) pa_nil)))), ?_⟩
    refine ⟨_, rfl, p, D, dx, _, _, rfl, h, M.cl, M.nL, ff_left a b, a, dx1, _, rfl, h1, a, dx1, _, _, rfl, h1, ef_form v1 t fl1, ?_⟩
    refine ⟨_, rfl, p, D, dx, _, _, rfl, h, M.cl, M.nR, ff_right a b, b, dx2, _, rfl, k1, b, dx2, _, _, rfl, k1, ef_form v2 u fl2, (by show 2 ≤ sizeLine; decide), fun r nr => ?_⟩
    have s1 : Same H (upd H r (.tup [v1, v2])) := same_upd nr
    exact q r v1 v2 _ s1 upd_same (h2.same s1) (k2.same s1)
theorem ok_eqF {f gE : Addr} {fd : FuncData} (F : Fun K "__eq__" "Fact.__eq__" sEqF f fd) (T : Free mg) (ME : ExpC K mg C) (IE : IsC K C) (M : FacC K mg D) (I : IsC K D) (nf : PySem.W.notFirst K C (.ref C) = true) (mE : OwnM K C "__eq__" gE) (FE : FnR P w K mg base CX0 3 gE (spEqE K C))
    (pL : Pp P w K mg base D "left" "_left") (pR : Pp P w K mg base D "right" "_right") : FnOk P w K mg base CX0 4 f fd ["self", "other"] (spEqF C D) := by
  refine F.ok scEqF (fun vs H Q E h => ?_) (fun cdv A outer s H vs Q E hr h => ?_)
  · obtain ⟨p, q, a, b, c, d, t, u, t', u', rfl, _⟩ := h
    rfl
  · obtain ⟨p, q, a, b, c, d, t, u, t', u', rfl, m, m', qq⟩ := h
    obtain ⟨dx, h⟩ := m.at_
    obtain ⟨dy, k⟩ := m'.at_
    obtain ⟨dx1, v1, fl1, ys1, h1, _⟩ := m.l.at_
    obtain ⟨dx2, v2, fl2, ys2, h2, _⟩ := m.r.at_
    refine ⟨_, pss_one (ps_ret (pe_and (pe_callB call_isi (by rfl) T.isinstance (by decide +kernel) (pa_cons (pv 1) (pa_cons (pe_glob (v := .ref D) (by rfl) M.g rfl) pa_nil)))
      (pe_and (pe_cmpR (op_eqX mE FE hr) (pe_fld (pv 0) rfl) (pe_pp pL (pv 1) (hr.mono (by decide)) rfl) (nomark _)) (pe_one (pe_cmpR (op_eqX mE FE hr) (pe_fld (pv 0) rfl) (pe_pp pR (pv 1) (hr.mono (by decide)) rfl) (nomark _)))))), ?_⟩
    refine ⟨_, rfl, _, _, _, _, true, rfl, .own D, fac_ty M I m', I.yes, true, rfl, iteT ?_⟩
    refine ⟨_, rfl, p, D, dx, _, _, rfl, h, M.cl, M.nL, ff_left a b, _, rfl, q, dy, _, rfl, k, q, dy, _, _, rfl, k, ff_left c d, a, dx1, _, _, rfl, h1, exp_ty ME IE m'.l, nf, a, t, _, rfl, m.l, .inl ⟨c, t', rfl, m'.l, _, rfl, ?_⟩⟩
    refine ⟨_, rfl, ?_⟩
    cases e1 : PyData.eqv t.dat t'.dat with
    | false =>
      rw [e1] at qq
      exact iteF qq
    | true =>
      rw [e1] at qq
      refine iteT ⟨_, rfl, p, D, dx, _, _, rfl, h, M.cl, M.nR, ff_right a b, _, rfl, q, dy, _, rfl, k, q, dy, _, _, rfl, k, ff_right c d, b, dx2, _, _, rfl, h2, exp_ty ME IE m'.r, nf, b, u, _, rfl, m.r, .inl ⟨d, u', rfl, m'.r, _, rfl, qq⟩⟩
end
end K1

namespace K1
open PySem PySem.Spec
open PyProof.Rows L2 EnT StX SmX TxS DuX
/-! ### the law: one expression -/
section
variable {w : World} {P : Program} {base : Heap} {mg : Str → Option Value} {K : PySem.W.Frag}
theorem fnG_of {k : Nat} {x : Str} {st : Stmt} {f c : Addr} {N ps : List Str} {sp : Sp} (F : FunC K x x st f c) (S : FnScope N ps (defScope st)) (B : ∀ (kV doc pm : Value) (an : Option Addr) (ct : Value), L2.Binds K (PySem.W.fnOf x x (defArgs st) (defBody st) (defScope st) .none kV doc pm an (.ref c) ct) ps [])
    (len : ∀ vs H Q E, sp vs H Q E → vs.length = ps.length)
    (body : ∀ (A : Around) (outer : List Env) (s : Shared) (H : Hp) (vs : List V) (Q : VK) (E : XK), A.guards = some [] → Room k (A.deeper (envOfC x (defScope st) s.heap.objs.size f (.ref c))) → sp vs H Q E →
      ∃ t, PSs (cxOf CX0 P w K mg base N x (defScope st) f (.ref c) A outer s H E).nox (defBody st) t ∧ t { nx := fun _ H' => Q .non H', rt := Q } (L2.start N vs) H) : FnG P w K mg base CX0 (k + 1) f sp := by
  intro A outer s H us vs Q E hgd hr e0 r h
  obtain ⟨oc, od, kV, doc, pm, an, ct, osl, lk, hcd⟩ := F.ex
  have hl := len _ _ _ _ h
  refine LamX.run_ofS (N := N) (ps := ps) (us := us) (vs := vs) lk hcd S hr e0 ?_ r hl fun hr' => ?_
  · have hlu : us.length = ps.length := by rw [← r.length]; exact hl
    have z := B kV doc pm an ct s us (e0.mod.kin.keeps fun b o e => (e0.bs b o e).1) (by rw [List.append_nil]; exact hlu)
    rw [List.append_nil] at z
    exact z
  · obtain ⟨t, ht, hq⟩ := body A outer s H vs Q E hgd hr' h
    exact ⟨t, ht.nox, hq⟩
end
theorem plain_low {z : Str} (h : ∀ c ∈ z.cps.toList, c < 128) : RpD.plainD (.str z) = true := by
  show (z.cps.toList.all fun c => decide (c < 16 ^ 8)) = true
  refine List.all_eq_true.mpr fun c hc => decide_eq_true ?_
  have := h c hc
  omega
theorem sign_low {z : Str} (h : z ∈ signs) : ∀ c ∈ z.cps.toList, c < 128 := by
  simp only [signs, List.mem_cons, List.not_mem_nil, or_false] at h
  rcases h with rfl | rfl | rfl | rfl <;> decide +kernel
theorem Fm.plain : ∀ {t : Fm}, t.Ok → RpD.plainD t.dat = true ∧ RpD.wide t.dat + 30 ≤ 130 * t.nl
  | .leaf z, h => by
    have hl := name_short (show nameB z = true from h)
    refine ⟨plain_low (name_low h), ?_⟩
    show 10 * z.length + 2 + 30 ≤ 130 * 1
    omega
  | .node s l r, h => by
    obtain ⟨p1, w1⟩ := Fm.plain h.2.1
    obtain ⟨p2, w2⟩ := Fm.plain h.2.2
    have sl := (sign_ok h.1).1
    refine ⟨?_, ?_⟩
    · show (RpD.plainD (.str s) && (RpD.plainD l.dat && (RpD.plainD r.dat && true))) = true
      rw [plain_low (sign_low h.1), p1, p2]
      rfl
    · rw [Fm.nl_node]
      show (10 * s.length + 2) + 2 + (RpD.wide l.dat + 2 + (RpD.wide r.dat + 2 + 0)) + 3 + 30 ≤ _
      omega
theorem plain_strs : ∀ {zs : List Str}, (∀ z ∈ zs, nameB z = true) → RpD.plainAll (strD zs) = true ∧ RpD.wideAll (strD zs) ≤ 90 * zs.length
  | [], _ => ⟨rfl, Nat.le_refl _⟩
  | z :: r, h => by
    obtain ⟨a, b⟩ := plain_strs (zs := r) fun y hy => h y (List.mem_cons_of_mem _ hy)
    have hz := h z List.mem_cons_self
    have hl := name_short hz
    refine ⟨?_, ?_⟩
    · show (RpD.plainD (.str z) && RpD.plainAll (strD r)) = true
      rw [plain_low (name_low hz), a]
      rfl
    · show 10 * z.length + 2 + 2 + RpD.wideAll (strD r) ≤ 90 * (r.length + 1)
      omega
end K1

namespace K1
open PySem PySem.Spec
open PyProof.Rows L2 L2H EnT StX SmX TxS DuX XdI Tr3 CnB ClX
theorem low_app {x y : Str} (hx : ∀ c ∈ x.cps.toList, c < 128) (hy : ∀ c ∈ y.cps.toList, c < 128) : ∀ c ∈ (x ++ y).cps.toList, c < 128 := by
  intro c hc
  have e : (x ++ y).cps.toList = x.cps.toList ++ y.cps.toList := TL.tl_append x y
  rw [e] at hc
  rcases List.mem_append.mp hc with q | q
  · exact hx c q
  · exact hy c q
theorem txt_low : ∀ (b : Bool) {t : Fm}, t.Ok → ∀ c ∈ (t.txt b).cps.toList, c < 128
  | b, .leaf z, h => by
    have e : (Fm.leaf z).txt b = z := by cases b <;> rfl
    rw [e]
    exact name_low h
  | b, .node s l r, h => by
    have a := txt_low true h.2.1
    have d := txt_low true h.2.2
    have g := sign_low h.1
    have sp : ∀ c ∈ (" " : Str).cps.toList, c < 128 := by decide +kernel
    have op : ∀ c ∈ ("(" : Str).cps.toList, c < 128 := by decide +kernel
    have cl : ∀ c ∈ (")" : Str).cps.toList, c < 128 := by decide +kernel
    have m := low_app (low_app (low_app (low_app a sp) g) sp) d
    cases b
    · exact m
    · exact low_app (low_app op m) cl
theorem eqv_dec {t u : Fm} (h : t.Ok) : (PyData.eqv t.dat u.dat = true ∧ t = u) ∨ (PyData.eqv t.dat u.dat = false ∧ t ≠ u) := by
  cases e : PyData.eqv t.dat u.dat with
  | true => exact .inl ⟨rfl, Fm.eqv_eq e⟩
  | false =>
    refine .inr ⟨rfl, fun q => ?_⟩
    rw [← q, Fm.eqv_self h] at e
    cases e
theorem ef_within (v : V) (t : Fm) (fl : Addr) : (eflds v t fl).lookup ("within" : Str) = none := by
  unfold eflds
  rw [lookup_putF, if_neg (by decide +kernel), lookup_putF, if_neg (by decide +kernel), lookup_putF, if_neg (by decide +kernel), lookup_putF, if_neg (by decide +kernel), lookup_putF, if_neg (by decide +kernel)]
  rfl
theorem quote_low (x : Str) : reprQuote x = 39 ∨ reprQuote x = 34 := by
  unfold reprQuote
  split
  · exact .inr rfl
  · exact .inl rfl
theorem char_low : ∀ c : _root_.Fin 128, (∀ y ∈ PySem.Builtin.Str.reprChar 39 c.val, y < 128) ∧ ∀ y ∈ PySem.Builtin.Str.reprChar 34 c.val, y < 128 := by decide +kernel
theorem fold_low {q : Nat} (hq : q = 39 ∨ q = 34) : ∀ (l : List Nat) (acc : Array Nat), (∀ c ∈ l, c < 128) → (∀ c ∈ acc.toList, c < 128) → ∀ c ∈ (l.foldl (fun out c => out ++ (PySem.Builtin.Str.reprChar q c).toArray) acc).toList, c < 128
  | [], acc, _, ha => ha
  | c :: r, acc, hl, ha => by
    rw [List.foldl_cons]
    refine fold_low hq r _ (fun x hx => hl x (List.mem_cons_of_mem _ hx)) fun x hx => ?_
    rw [Array.toList_append, List.mem_append] at hx
    rcases hx with hx | hx
    · exact ha x hx
    · have hc := hl c List.mem_cons_self
      have k := char_low ⟨c, hc⟩
      rcases hq with rfl | rfl
      · exact k.1 x (by simpa using hx)
      · exact k.2 x (by simpa using hx)
theorem repr_ok {z : Str} (h : nameB z = true) : PyData.strOk (PyData.str z).shown = true := by
  have hz := name_low h
  refine strOk_low fun c hc => ?_
  have e : (PyData.str z).shown = reprText z := rfl
  rw [e] at hc
  unfold reprText at hc
  have q := quote_low z
  have q128 : reprQuote z < 128 := by rcases q with e | e <;> rw [e] <;> decide
  simp only [Array.toList_push, List.mem_append, List.mem_singleton] at hc
  rcases hc with hc | hc
  · rw [← Array.foldl_toList] at hc
    exact fold_low q _ _ hz (fun c hc => by
      have : c = reprQuote z := by simpa using hc
      rw [this]
      exact q128) c hc
  · rw [hc]
    exact q128
theorem tupS_shaped {ys : List Str} (h : OkS ys) : SeqAt.shaped (.tuple (strD ys)) = true := by
  show (PyData.canLay0 (.tuple (strD ys)) && decide (PyData.depth (.tuple (strD ys)) ≤ 64)) = true
  rw [Bool.and_eq_true]
  refine ⟨by simp only [PyData.canLay0]; exact strD_lay ys h, decide_eq_true ?_⟩
  simp only [PyData.depth]
  have := strD_depth ys
  omega
theorem lstS_shaped {ys : List Str} (h : OkS ys) : SeqAt.shaped (.list (strD ys)) = true := by
  show (PyData.canLay0 (.list (strD ys)) && decide (PyData.depth (.list (strD ys)) ≤ 64)) = true
  rw [Bool.and_eq_true]
  refine ⟨by simp only [PyData.canLay0]; exact strD_lay ys h, decide_eq_true ?_⟩
  simp only [PyData.depth]
  have := strD_depth ys
  omega
theorem lstS_eqv {ys : List Str} (h : OkS ys) : PyData.eqv (.list (strD ys)) (.list (strD ys)) = true := SeqAt.eqv_refl _ (by simp only [PyData.canLay0]; exact strD_lay ys h)
end K1

/-! == of a dict and a text, of a dict and a tuple -/
namespace DqE
open PySem PySem.SeqAt PySem.MeetsSeq PySem.Calls PyProof.Rows PySem.Spec
open PySem.AutoSeq1 (wpAny_loadPart')
section
variable {prog : Program} {w : World} {A : Around} {E : Value → Shared → Prop} {s : Shared}
theorem dict_no {T : String} {a : Addr} {b : Value} (ha : s.TypeIs (.ref a) "dict") (hb : s.TypeIs b T) (hs : isSubtype (.type T) (.type "dict") = pure false) {Q : Value → Shared → Prop} (q : Q .notImplemented s) :
    wpAny (model prog w) A (call (.builtin "dict.__eq__") [.ref a, b]) Q E s := by
  refine wpAny_call_entry PySem.F.slot_dict_eq ha PySem.F.entry_dict_eq ?_ (PySem.F.args_dict_eq_2 _ _)
  show wpAny _ _ (Builtin.Dict.dictSlotArgs "__eq__" ⟨[.ref a, b], []⟩ >>= _) _ _ s
  refine wpAny_bind ?_
  unfold Builtin.Dict.dictSlotArgs
  refine wpAny_bind (wpAny_notOrdered_dict ha ?_)
  show wpAny _ _ (pure (Value.ref a, b)) _ _ s
  refine wpAny_pure ?_
  refine wpAny_bind (wpAny_isInstance hb hs ?_)
  simp only [Bool.not_false, if_true]
  exact wpAny_bind (wpAny_rule (wpAny_pure ⟨_, rfl, q⟩))
theorem str_no (b : Str) (u : Tok) (l : Addr) (c : Value) (es : Array DictEntry) (n : Nat) (dd : Option Addr) (sl : Array (Option Value)) :
    Meets (Builtin.«str.__eq__» ⟨[.str b u, .ref l], []⟩) (fun _ R s => s.heap.get? l = some { cls := c, dict := dd, data := .dict es n, slots := sl } ∧ R (.ok (.ret .notImplemented)) s) :=
  .of_wp fun prog w A R s h => by obtain ⟨hp, g, d, tk, os⟩ := s; obtain ⟨hl, h⟩ := h; wp_walk using wpAny_loadPart' hl, wpAny_load hl; exact ⟨_, rfl, h⟩
theorem tuple_no (l b : Addr) (items : Array Value) (es : Array DictEntry) (n n2 : Nat) (dd dd2 : Option Addr) (sl sl2 : Array (Option Value)) :
    Meets (Builtin.«tuple.__eq__» ⟨[.ref l, .ref b], []⟩) (fun _ R s => s.heap.get? l = some { cls := .type "tuple", dict := dd, data := .seq items n, slots := sl } ∧ s.heap.get? b = some { cls := .type "dict", dict := dd2, data := .dict es n2, slots := sl2 } ∧ R (.ok (.ret .notImplemented)) s) :=
  .of_wp fun prog w A R s h => by obtain ⟨hp, g, d, tk, os⟩ := s; obtain ⟨hl, hb, h⟩ := h; have f1 := PySem.F.sub_dict_tuple; wp_walk using wpAny_loadPart' hl, wpAny_loadPart' hb; exact ⟨_, rfl, h⟩
/-- the object at l is a dict -/
def IsD (h : Heap) (l : Addr) : Prop := ∃ (es : Array DictEntry) (n : Nat) (dd : Option Addr) (sl : Array (Option Value)), h.get? l = some { cls := .type "dict", dict := dd, data := .dict es n, slots := sl }
theorem rc_dict_str {l : Addr} (b : Str) (u : Tok) (hl : IsD s.heap l) (hu : A.units < cLine) : RcAt A s (.ref l) (.str b u) false := fun prog w E Q h => by
  obtain ⟨es, n, dd, sl, ho⟩ := hl
  exact rc_eq_decline_or (k := false) ⟨_, ho, rfl⟩ (typeIs_str s b u) (by decide) PySem.F.sub_str_dict PySem.F.slot_dict_eq PySem.F.slot_str_eq_refl
    (fun _ hq => dict_no ⟨_, ho, rfl⟩ (typeIs_str s b u) PySem.F.sub_str_dict hq)
    (fun _ hq => call_meets PySem.F.slot_str_eq_refl (typeIs_str s b u) PySem.F.entry_str_eq (PySem.F.args_str_eq_2 _ _) (str_no b u l (.type "dict") es n dd sl) ⟨ho, hq⟩)
    (fun _ hq => wpAny_of_eq (rfl : isSame (.ref l) (.str b u) = pure false) hq) (.inr hu) h
theorem eq_dict_str {l : Addr} (b : Str) (u : Tok) (hl : IsD s.heap l) (hu : A.units < cLine) : EqAt A s (.ref l) (.str b u) false := fun prog w E Q h => by
  unfold eqBool
  refine wpAny_holding ?_
  refine wpAny_ite_split (fun hab => absurd (eq_of_beq hab) nofun) (fun _ => ?_)
  exact wpAny_bind (rc_dict_str b u hl hu prog w E _ (wpAny_truthy_bool h))
theorem rc_str_dict {l : Addr} (b : Str) (u : Tok) (hl : IsD s.heap l) (hu : A.units < cLine) : RcAt A s (.str b u) (.ref l) false := fun prog w E Q h => by
  obtain ⟨es, n, dd, sl, ho⟩ := hl
  exact rc_eq_decline_or (k := false) (typeIs_str s b u) ⟨_, ho, rfl⟩ (by decide) PySem.F.sub_dict_str PySem.F.slot_str_eq PySem.F.slot_dict_eq_refl
    (fun _ hq => call_meets PySem.F.slot_str_eq (typeIs_str s b u) PySem.F.entry_str_eq (PySem.F.args_str_eq_2 _ _) (str_no b u l (.type "dict") es n dd sl) ⟨ho, hq⟩)
    (fun _ hq => dict_no ⟨_, ho, rfl⟩ (typeIs_str s b u) PySem.F.sub_str_dict hq)
    (fun _ hq => wpAny_of_eq (rfl : isSame (.str b u) (.ref l) = pure false) hq) (.inr hu) h
theorem eq_str_dict {l : Addr} (b : Str) (u : Tok) (hl : IsD s.heap l) (hu : A.units < cLine) : EqAt A s (.str b u) (.ref l) false := fun prog w E Q h => by
  unfold eqBool
  refine wpAny_holding ?_
  refine wpAny_ite_split (fun hab => absurd (eq_of_beq hab) nofun) (fun _ => ?_)
  exact wpAny_bind (rc_str_dict b u hl hu prog w E _ (wpAny_truthy_bool h))
theorem ne_dt {l b : Addr} {items : Array Value} (hl : IsD s.heap l) (hb : s.heap.IsTuple b items) : l ≠ b := fun e => by
  subst e
  obtain ⟨es, n, dd, sl, ho⟩ := hl
  obtain ⟨o2, ho2, hc2, _⟩ := hb
  rw [ho] at ho2
  cases ho2
  exact absurd hc2 (by simp)
theorem rc_dict_tuple {l b : Addr} {items : Array Value} (hl : IsD s.heap l) (hb : s.heap.IsTuple b items) (hu : A.units < cLine) : RcAt A s (.ref l) (.ref b) false := fun prog w E Q h => by
  have hne := ne_dt hl hb
  obtain ⟨es, n, dd, sl, ho⟩ := hl
  obtain ⟨⟨cls2, dd2, data2, sl2⟩, ho2, hc2, n2, hd2⟩ := id hb
  simp only at hc2 hd2
  subst hc2 hd2
  exact rc_eq_decline_or (k := false) ⟨_, ho, rfl⟩ ⟨_, ho2, rfl⟩ (by decide) PySem.F.sub_tuple_dict PySem.F.slot_dict_eq PySem.F.slot_tuple_eq_refl
    (fun _ hq => dict_no (T := "tuple") (b := .ref b) ⟨_, ho, rfl⟩ ⟨_, ho2, rfl⟩ PySem.F.sub_tuple_dict hq)
    (fun _ hq => call_meets PySem.F.slot_tuple_eq_refl ⟨_, ho2, rfl⟩ PySem.F.entry_tuple_eq (PySem.F.args_tuple_eq_2 _ _) (tuple_no b l items es n2 n dd2 dd sl2 sl) ⟨ho2, ho, hq⟩)
    (fun _ hq => wpAny_isSame_ref_other hne ho ho2 (by simp) hq) (.inr hu) h
theorem rc_tuple_dict {l b : Addr} {items : Array Value} (hl : IsD s.heap l) (hb : s.heap.IsTuple b items) (hu : A.units < cLine) : RcAt A s (.ref b) (.ref l) false := fun prog w E Q h => by
  have hne := ne_dt hl hb
  obtain ⟨es, n, dd, sl, ho⟩ := hl
  obtain ⟨⟨cls2, dd2, data2, sl2⟩, ho2, hc2, n2, hd2⟩ := id hb
  simp only at hc2 hd2
  subst hc2 hd2
  exact rc_eq_decline_or (k := false) ⟨_, ho2, rfl⟩ ⟨_, ho, rfl⟩ (by decide) PySem.F.sub_dict_tuple PySem.F.slot_tuple_eq PySem.F.slot_dict_eq_refl
    (fun _ hq => call_meets PySem.F.slot_tuple_eq ⟨_, ho2, rfl⟩ PySem.F.entry_tuple_eq (PySem.F.args_tuple_eq_2 _ _) (tuple_no b l items es n2 n dd2 dd sl2 sl) ⟨ho2, ho, hq⟩)
    (fun _ hq => dict_no (T := "tuple") (b := .ref b) ⟨_, ho, rfl⟩ ⟨_, ho2, rfl⟩ PySem.F.sub_tuple_dict hq)
    (fun _ hq => wpAny_isSame_ref_other' hne.symm ho2 ho (by simp) hq) (.inr hu) h
end
end DqE

namespace K1
open PySem PySem.Spec
open PyProof.Rows L2 EnT StX SmX TxS DuX ClX
/-! ### what is no form -/
abbrev badStrs : List Str := ["", "A", "9a", "abcdefghi", "a b"]
abbrev badTups : List (List Str) := [[], ["|"], ["|", "a"], ["+", "a", "b"], ["|", "a", "b", "c"], ["a", "|", "b"]]
abbrev badLst : List Str := ["|", "a", "b"]
inductive BdAt (H : Hp) : V → PyData → Prop where
  | non : BdAt H .non .none
  | bl : BdAt H (.bl true) (.bool true)
  | int : BdAt H (.int 0) (.int 0)
  | str (z : Str) (h : z ∈ badStrs) : BdAt H (.str z) (.str z)
  | tup (a : Addr) (zs : List Str) (h : zs ∈ badTups) (e : H a = some (.tup (zs.map V.str))) : BdAt H (.ref a) (.tuple (strD zs))
  | lst (a : Addr) (e : H a = some (.lst (badLst.map V.str))) : BdAt H (.ref a) (.list (strD badLst))
  | tupN (a : Addr) (e : H a = some (.tup [.non, .str "a", .str "b"])) : BdAt H (.ref a) (.tuple [.none, .str "a", .str "b"])
  | dK (a : Addr) (e : H a = some (.dK [])) : BdAt H (.ref a) (.dict [])
/-- what stays in a move -/
def Stays (H H' : Hp) : Prop := ∀ a o, H a = some o → (∀ x y z : Int, o ≠ .lst [.int x, .int y, .int z]) → (∀ ps, o ≠ .tbl ps) → (∀ as : List Addr, as ≠ [] → o ≠ .lst (as.map V.ref)) → H' a = some o
theorem Stays.same {H H' : Hp} (s : Same H H') : Stays H H' := fun a o e _ _ _ => s a o e
theorem Stays.mv {p : Addr} {Tb : List (Addr × Str)} {H H' : Hp} (m : Mv p Tb H H') (hp : PoolAt H p) : Stays H H' := fun a o e n nt _ => m.at hp e n nt
theorem Stays.set {t : Addr} {H : Hp} {as : List Addr} {o : HO} (ht : H t = some (.lst (as.map V.ref))) (hn : as ≠ []) : Stays H (upd H t o) := fun a o' e _ _ n => upd_keep ht e (n as hn)
theorem Stays.ext {p : Addr} {H H' : Hp} (x : Ext p H H') (hp : PoolAt H p) : Stays H H' := fun a o e n _ _ => x.at (fun z => by
  obtain ⟨i, j, k, q⟩ := hp
  rw [z, q] at e
  exact n i j k (Option.some.inj e).symm) e
theorem BdAt.keep {H H' : Hp} {v : V} {d : PyData} (k : Stays H H') (h : BdAt H v d) : BdAt H' v d := by
  cases h with
  | non => exact .non
  | bl => exact .bl
  | int => exact .int
  | str z h => exact .str z h
  | tup a zs h e => exact .tup a zs h (k _ _ e (fun _ _ _ e => by cases e) (fun _ e => by cases e) (fun _ _ e => by cases e))
  | lst a e => exact .lst a (k _ _ e (fun _ _ _ e => by cases e) (fun _ e => by cases e) (fun as n => strs_refs n))
  | tupN a e => exact .tupN a (k _ _ e (fun _ _ _ e => by cases e) (fun _ e => by cases e) (fun _ _ e => by cases e))
  | dK a e => exact .dK a (k _ _ e (fun _ _ _ e => by cases e) (fun _ e => by cases e) (fun _ _ e => by cases e))
theorem BdAt.vok {H : Hp} {v : V} {d : PyData} (h : BdAt H v d) : VOk H v := by
  have hl : ∀ z ∈ badStrs, z.length ≤ 100 := by decide +kernel
  cases h with
  | non => exact .inr .non
  | bl => exact .inr (.bl _)
  | int => exact .inr (.int _)
  | str z h => exact .inl ⟨z, rfl, by have := hl z h; rw [sizeLine_eq]; omega⟩
  | tup a zs h e => exact .inr (.tup e)
  | lst a e => exact .inr (.lst e)
  | tupN a e => exact .inr (.tup e)
  | dK a e => exact .inr (.dK e)
theorem bad_names : ∀ z ∈ badStrs, nameB z = false := by decide +kernel
theorem BdAt.noname {H : Hp} {v : V} {d : PyData} (h : BdAt H v d) : nameV v = false := by
  cases h with
  | str z h => exact bad_names z h
  | _ => rfl
/-- a form with one thing spoilt -/
inductive Sf where
  | bad (d : PyData)
  | nl (s : Str) (x : Sf) (r : Fm)
  | nr (s : Str) (l : Fm) (x : Sf)
namespace Sf
def dat : Sf → PyData
  | .bad d => d
  | .nl s x r => .tuple [.str s, x.dat, r.dat]
  | .nr s l x => .tuple [.str s, l.dat, x.dat]
def num : Sf → Nat
  | .bad _ => 1
  | .nl _ x r => x.num + r.nl
  | .nr _ l x => l.nl + x.num
def dep : Sf → Nat
  | .bad _ => 2
  | .nl _ x r => 1 + max x.dep r.dep
  | .nr _ l x => 1 + max l.dep x.dep
def size : Sf → Nat
  | .bad _ => 1
  | .nl _ x r => 1 + x.size + r.size
  | .nr _ l x => 1 + l.size + x.size
end Sf
inductive SfAt (H : Hp) : V → Sf → Prop where
  | bad {v : V} {d : PyData} (h : BdAt H v d) : SfAt H v (.bad d)
  | nl {a : Addr} {s : Str} {vx vr : V} {x : Sf} {r : Fm} (h : H a = some (.tup [.str s, vx, vr])) (hs : s ∈ signs) (hx : SfAt H vx x) (hr : FmAt H vr r) (ok : r.Ok) : SfAt H (.ref a) (.nl s x r)
  | nr {a : Addr} {s : Str} {vl vx : V} {l : Fm} {x : Sf} (h : H a = some (.tup [.str s, vl, vx])) (hs : s ∈ signs) (hl : FmAt H vl l) (ok : l.Ok) (hx : SfAt H vx x) : SfAt H (.ref a) (.nr s l x)
theorem stays_tup {H H' : Hp} (k : Stays H H') : TupK H H' := fun a xs e => k a _ e (fun _ _ _ e => by cases e) (fun _ e => by cases e) (fun _ _ e => by cases e)
theorem SfAt.keep {H H' : Hp} {v : V} {x : Sf} (k : Stays H H') (h : SfAt H v x) : SfAt H' v x := by
  have t := stays_tup k
  induction h with
  | bad h => exact .bad (h.keep k)
  | nl h hs _ hr ok ih => exact .nl (t _ _ h) hs ih (hr.keep t) ok
  | nr h hs hl ok _ ih => exact .nr (t _ _ h) hs (hl.keep t) ok ih
theorem SfAt.vok {H : Hp} {v : V} {x : Sf} (h : SfAt H v x) : VOk H v := by
  cases h with
  | bad h => exact h.vok
  | nl h _ _ _ _ => exact .inr (.tup h)
  | nr h _ _ _ _ => exact .inr (.tup h)
theorem bd_not_fm {H : Hp} {v : V} {d : PyData} {t : Fm} (h : BdAt H v d) (m : FmAt H v t) (ok : t.Ok) : False := by
  cases m with
  | leaf z =>
    cases h with
    | str z h =>
      have := bad_names z h
      rw [show nameB z = true from ok] at this
      cases this
  | node e hl hr =>
    rename_i a s vl vr l r
    cases h with
    | tup a zs h e2 =>
      rw [e] at e2
      have hz := HO.tup.inj (Option.some.inj e2)
      have all : ∀ zs ∈ badTups, zs.length ≠ 3 ∨ ∀ z, zs[0]? = some z → z ∉ signs := by decide +kernel
      rcases all zs h with q | q
      · have := congrArg List.length hz
        rw [List.length_map] at this
        exact q this.symm
      · have h0 : (zs.map V.str)[0]? = some (.str s) := by rw [← hz]; rfl
        rw [List.getElem?_map] at h0
        obtain ⟨y, hy, ey⟩ := Option.map_eq_some_iff.mp h0
        cases ey
        exact q _ hy ok.1
    | lst a e2 => rw [e] at e2; cases e2
    | tupN a e2 => rw [e] at e2; cases e2
    | dK a e2 => rw [e] at e2; cases e2
theorem sf_not_fm {H : Hp} {v : V} {x : Sf} {t : Fm} (h : SfAt H v x) (m : FmAt H v t) (ok : t.Ok) : False := by
  induction h generalizing t with
  | bad h => exact bd_not_fm h m ok
  | nl h hs _ hr ok2 ih =>
    cases m with
    | node e hl hr2 =>
      rw [h] at e
      cases e
      exact ih hl ok.2.1
  | nr h hs hl ok2 _ ih =>
    cases m with
    | node e hl2 hr =>
      rw [h] at e
      cases e
      exact ih hr ok.2.2
/-! ### equal to no form -/
theorem eqv_str_ne {x y : Str} (h : x ≠ y) : PyData.eqv (.str x) (.str y) = false := by
  simp only [PyData.eqv]
  exact beq_eq_false_iff_ne.mpr h
theorem eqv_tup (xs ys : List PyData) : PyData.eqv (.tuple xs) (.tuple ys) = PyData.eqvAll xs ys := by simp only [PyData.eqv]
theorem eqv_head {x y : PyData} {xs ys : List PyData} (h : PyData.eqv x y = false) : PyData.eqvAll (x :: xs) (y :: ys) = false := by
  simp only [PyData.eqvAll, h, Bool.false_and]
theorem bd_ne {H : Hp} {v : V} {d : PyData} {t : Fm} (h : BdAt H v d) (ok : t.Ok) : PyData.eqv d t.dat = false ∧ PyData.eqv t.dat d = false := by
  cases t with
  | leaf z =>
    cases h with
    | str y h =>
      have ne : y ≠ z := fun e => by
        have := bad_names y h
        rw [e, show nameB z = true from ok] at this
        cases this
      exact ⟨eqv_str_ne ne, eqv_str_ne (Ne.symm ne)⟩
    | _ => constructor <;> simp [Fm.dat, PyData.eqv]
  | node s l r =>
    have sg : ∀ s ∈ signs, s ≠ "+" ∧ s ≠ "a" := by decide +kernel
    obtain ⟨n1, n2⟩ := sg s ok.1
    cases h with
    | tup a zs h e =>
      have all : ∀ zs ∈ badTups, (strD zs).length ≠ 3 ∨ zs.head? = some "+" ∨ zs.head? = some "a" := by decide +kernel
      show PyData.eqv (.tuple (strD zs)) (.tuple [.str s, l.dat, r.dat]) = false ∧ PyData.eqv (.tuple [.str s, l.dat, r.dat]) (.tuple (strD zs)) = false
      rw [eqv_tup, eqv_tup]
      rcases all zs h with q | q
      · exact ⟨SeqAt.eqvAll_other_length q, SeqAt.eqvAll_other_length (Ne.symm q)⟩
      · cases zs with
        | nil => rcases q with q | q <;> cases q
        | cons y ys =>
          have ne : y ≠ s := fun e => by
            rw [e] at q
            rcases q with q | q
            · exact n1 (Option.some.inj q)
            · exact n2 (Option.some.inj q)
          exact ⟨eqv_head (eqv_str_ne ne), eqv_head (eqv_str_ne (Ne.symm ne))⟩
    | tupN a e =>
      show PyData.eqv (.tuple [.none, .str "a", .str "b"]) (.tuple [.str s, l.dat, r.dat]) = false ∧ PyData.eqv (.tuple [.str s, l.dat, r.dat]) (.tuple [.none, .str "a", .str "b"]) = false
      rw [eqv_tup, eqv_tup]
      exact ⟨eqv_head (by simp only [PyData.eqv]), eqv_head (by simp only [PyData.eqv])⟩
    | lst a e => constructor <;> simp only [Fm.dat, PyData.eqv]
    | dK a e => constructor <;> simp only [Fm.dat, PyData.eqv]
    | non => constructor <;> simp only [Fm.dat, PyData.eqv]
    | bl => constructor <;> simp only [Fm.dat, PyData.eqv]
    | int => constructor <;> simp only [Fm.dat, PyData.eqv]
    | str y h => constructor <;> simp only [Fm.dat, PyData.eqv]
end K1

namespace K1
open PySem PySem.Spec
open PyProof.Rows L2 EnT StX SmX TxS DuX ClX
/-! ### what is no form, compared and shown -/
theorem eq_of_rc {A : Around} {s : Shared} {u v : Value} (ne : u ≠ v) (nf : ∀ b t, u ≠ .float b t) (h : SeqAt.RcAt A s u v false) : SeqAt.EqAt A s u v false := fun prog w E Q q => by
  unfold eqBool
  refine wpAny_holding ?_
  refine wpAny_ite_split (fun hab => absurd (eq_of_beq hab) ne) (fun _ => ?_)
  cases u with
  | float b t => exact absurd rfl (nf b t)
  | _ => exact wpAny_bind (h prog w E _ (wpAny_truthy_bool q))
theorem sf_nofl {H : Hp} {v : V} {x : Sf} {u : Value} (h : SfAt H v x) (r : RelV v u) : ∀ b t, u ≠ .float b t := fun b t e => by
  subst e
  cases h with
  | bad h =>
    cases h with
    | str z _ => obtain ⟨_, e⟩ := r; cases e
    | int => obtain ⟨_, e⟩ := r; cases e
    | _ => cases r
  | nl _ _ _ _ _ => cases r
  | nr _ _ _ _ _ => cases r
theorem fm_nofl {H : Hp} {v : V} {x : Fm} {u : Value} (h : FmAt H v x) (r : RelV v u) : ∀ b t, u ≠ .float b t := fun b t e => by
  subst e
  cases h with
  | leaf z => obtain ⟨_, e⟩ := r; cases e
  | node _ _ _ => cases r
theorem relV_str {v : V} {z : Str} {t : Tok} (h : RelV v (.str z t)) : v = .str z := by
  cases v with
  | str x =>
    obtain ⟨t', e⟩ := h
    cases e
    rfl
  | non => cases h
  | bl b => cases h
  | int i => obtain ⟨_, e⟩ := h; cases e
  | byt b => obtain ⟨_, e⟩ := h; cases e
  | flt b => obtain ⟨_, e⟩ := h; cases e
  | ref a => cases h
  | ty n => cases h
theorem relV_ref {v : V} {a : Addr} (h : RelV v (.ref a)) : v = .ref a := by
  cases v with
  | str x => obtain ⟨t', e⟩ := h; cases e
  | non => cases h
  | bl b => cases h
  | int i => obtain ⟨_, e⟩ := h; cases e
  | byt b => obtain ⟨_, e⟩ := h; cases e
  | flt b => obtain ⟨_, e⟩ := h; cases e
  | ref a => cases h; rfl
  | ty n => cases h
theorem val_ne {H : Hp} {v w : V} {x : Sf} {t : Fm} {u u' : Value} (h : SfAt H v x) (m : FmAt H w t) (ok : t.Ok) (r : RelV v u) (r' : RelV w u') : u ≠ u' := fun e => by
  subst e
  have e : v = w := by
    cases m with
    | leaf z =>
      obtain ⟨k, rfl⟩ := id r'
      exact relV_str r
    | node _ _ _ =>
      cases r'
      exact relV_ref r
  subst e
  exact sf_not_fm h m ok
section
variable {X : Cx} {pins : List (Addr × Obj)} {σ : L2.St} {H : Hp} {s : Shared}
theorem fm_reads (I : Inv X pins σ H s) {v : V} {t : Fm} (m : FmAt H v t) : ∀ {u : Value}, RelV v u → Reads s.heap u t.dat [] := by
  induction m with
  | leaf z =>
    intro u r
    obtain ⟨k, rfl⟩ := id r
    exact .str z k
  | node h _ _ ih1 ih2 =>
    intro u r
    cases r
    obtain ⟨its, rv, ⟨o, ho, hc, n, hd⟩, _⟩ := I.tuple (SqT.of h)
    refine .tuple ho hc hd ?_
    cases rv with
    | cons r0 rv =>
    cases rv with
    | cons r1 rv =>
    cases rv with
    | cons r2 rv =>
    cases rv
    obtain ⟨k, rfl⟩ := id r0
    exact .cons (.str _ k) (.cons (ih1 r1) (.cons (ih2 r2) .nil))
theorem bd_dp {K : PySem.W.Frag} {v : V} {d : PyData} (h : BdAt H v d) : Dp K H v d ∨ ∃ a, v = .ref a ∧ H a = some (.dK []) ∧ d = .dict [] := by
  cases h with
  | non => exact .inl .non
  | bl => exact .inl (.bl _)
  | int => exact .inl (.int _)
  | str z h => exact .inl (.str z)
  | tup a zs h e => exact .inl (.tup (SqT.of e) (dpAll_str zs))
  | lst a e => exact .inl (.lst (SqL.of e) (dpAll_str badLst))
  | tupN a e => exact .inl (.tup (SqT.of e) (.cons .non (.cons (.str _) (.cons (.str _) .nil))))
  | dK a e => exact .inr ⟨a, rfl, e, rfl⟩
theorem dict_at (I : Inv X pins σ H s) {a : Addr} (h : H a = some (.dK [])) : DqE.IsD s.heap a ∧ Reads s.heap (.ref a) (.dict []) [a] ∧ sysModules ∉ [a] := by
  obtain ⟨hl, hs, vs, kv, o, es, ep, ho, hx, e1, _, e2, _⟩ := I.hok a _ h
  cases kv
  have e3 : es.toList = [] := by
    cases h : es.toList with
    | nil => rfl
    | cons x r =>
      rw [h] at e2
      cases e2
  have rd : Reads s.heap (.ref a) (.dict []) (a :: [] ++ []) := .dict ho hx.1 e1 (by rw [e3]; exact .nil) (by rw [e3]; exact .nil)
  refine ⟨?_, rd, fun m => ?_⟩
  · obtain ⟨cls, dd, data, sl⟩ := o
    have hc : cls = .type "dict" := hx.1
    have hd : data = .dict es ep := e1
    subst hc hd
    exact ⟨es, ep, dd, sl, ho⟩
  · have e : sysModules = a := by simpa using m
    rw [← e] at hs
    simp at hs
theorem strD_plain : ∀ zs : List Str, PyData.plainAll (strD zs) = true
  | [] => rfl
  | z :: r => by
    show (PyData.plain (.str z) && PyData.plainAll (strD r)) = true
    rw [strD_plain r]
    rfl
theorem bd_plain {v : V} {d : PyData} (h : BdAt H v d) : (d.plain = true ∧ d.depth ≤ 1 ∧ d.hasDict = false) ∨ d = .dict [] := by
  have all : ∀ zs ∈ badTups, (PyData.tuple (strD zs)).depth ≤ 1 ∧ (PyData.tuple (strD zs)).hasDict = false := by decide +kernel
  cases h with
  | tup a zs h e => exact .inl ⟨strD_plain zs, (all zs h).1, (all zs h).2⟩
  | lst a e => exact .inl ⟨rfl, by decide +kernel, by decide +kernel⟩
  | tupN a e => exact .inl ⟨rfl, by decide +kernel, by decide +kernel⟩
  | dK a e => exact .inr rfl
  | non => exact .inl ⟨rfl, by decide +kernel, rfl⟩
  | bl => exact .inl ⟨rfl, by decide +kernel, rfl⟩
  | int => exact .inl ⟨rfl, by decide +kernel, rfl⟩
  | str z h => exact .inl ⟨rfl, (by show 0 ≤ 1; decide), rfl⟩
theorem rc_bd (I : Inv X pins σ H s) {v w : V} {d : PyData} {t : Fm} {u u' : Value} {A : Around} (h : BdAt H v d) (m : FmAt H w t) (ok : t.Ok) (r : RelV v u) (r' : RelV w u') (hu : A.units + 2 < cLine) : SeqAt.RcAt A s u u' false ∧ SeqAt.RcAt A s u' u false := by
  have rm := fm_reads I m r'
  rcases bd_plain h with ⟨pl, dp, _⟩ | e
  · rcases bd_dp (K := X.K) h with q | ⟨a, _, _, e⟩
    · obtain ⟨as, rd⟩ := Dp.reads I d v u q r
      obtain ⟨e1, e2⟩ := bd_ne h ok
      have pt := PyData.plain_of_canLay0 _ (Fm.lay ok)
      have a1 := SeqAt.rcAt_plain (A := A) rd rm pl pt (by have := Nat.min_le_left d.depth t.dat.depth; omega)
      have a2 := SeqAt.rcAt_plain (A := A) rm rd pt pl (by have := Nat.min_le_right t.dat.depth d.depth; omega)
      rw [e1] at a1
      rw [e2] at a2
      exact ⟨a1, a2⟩
    · rw [e] at pl
      cases pl
  · subst e
    cases h with
    | dK a e =>
      cases r
      obtain ⟨hd, _⟩ := dict_at I e
      cases m with
      | leaf z =>
        obtain ⟨k, rfl⟩ := id r'
        exact ⟨DqE.rc_dict_str z k hd (by omega), DqE.rc_str_dict z k hd (by omega)⟩
      | node e2 _ _ =>
        cases r'
        obtain ⟨its, _, tp, _⟩ := I.tuple (SqT.of e2)
        exact ⟨DqE.rc_dict_tuple hd tp (by omega), DqE.rc_tuple_dict hd tp (by omega)⟩
def e3 (a b c : Bool) : Nat → Bool
  | 0 => a
  | 1 => b
  | _ => c
theorem all3 {a b c : Bool} (h : b = false ∨ c = false) {x y : Array Value} (hx : x.size = 3) (hy : y.size = 3) : ((List.range (min x.size y.size)).all (e3 a b c) && x.size == y.size) = false := by
  rw [hx, hy]
  show ((a && (b && (c && true))) && true) = false
  rcases h with rfl | rfl
  · cases a <;> rfl
  · cases a <;> cases b <;> rfl
theorem rc_tup3 {A : Around} {l b : Addr} {x0 x1 x2 y0 y1 y2 : Value} {p q r : Bool} (hl : s.heap.IsTuple l [x0, x1, x2].toArray) (hb : s.heap.IsTuple b [y0, y1, y2].toArray) (hu : A.units < cLine)
    (h0 : SeqAt.EqAt A.in1 s x0 y0 p) (h1 : SeqAt.EqAt A.in1 s x1 y1 q) (h2 : SeqAt.EqAt A.in1 s x2 y2 r) (f : q = false ∨ r = false) : SeqAt.RcAt A s (.ref l) (.ref b) false := by
  have z := SeqAt.RcAt.tuples (A := A) (e := e3 p q r) hl hb hu fun j j1 j2 => by
    match j, j1 with
    | 0, _ => exact h0
    | 1, _ => exact h1
    | 2, _ => exact h2
    | n + 3, j1 => exact absurd j1 (by simp)
  rw [all3 f rfl rfl] at z
  exact z
theorem rc_sf (I : Inv X pins σ H s) {v : V} {x : Sf} (h : SfAt H v x) : ∀ {w : V} {t : Fm} {u u' : Value} {A : Around}, FmAt H w t → t.Ok → RelV v u → RelV w u' → A.units + x.dep < cLine → SeqAt.RcAt A s u u' false ∧ SeqAt.RcAt A s u' u false := by
  induction h with
  | bad h =>
    intro w t u u' A m ok r r' hu
    exact rc_bd I h m ok r r' hu
  | nl h hs hx hr ok2 ih =>
    rename_i a sg vx vr x rF
    intro w t u u' A m ok r r' hu
    cases r
    simp only [Sf.dep] at hu
    obtain ⟨its, rv, tp, _⟩ := I.tuple (SqT.of h)
    cases m with
    | leaf z =>
      obtain ⟨k, rfl⟩ := id r'
      exact ⟨SeqAt.RcAt.tuple_str z k tp (by omega), SeqAt.RcAt.str_tuple z k tp (by omega)⟩
    | node e hl2 hr2 =>
      cases r'
      obtain ⟨its2, rv2, tp2, _⟩ := I.tuple (SqT.of e)
      cases rv with
      | cons r0 rv =>
      cases rv with
      | cons r1 rv =>
      cases rv with
      | cons r2 rv =>
      cases rv
      cases rv2 with
      | cons q0 rv2 =>
      cases rv2 with
      | cons q1 rv2 =>
      cases rv2 with
      | cons q2 rv2 =>
      cases rv2
      obtain ⟨k0, rfl⟩ := id r0
      obtain ⟨k1, rfl⟩ := id q0
      have i1 := ih (A := A.in1) hl2 ok.2.1 r1 q1 (by show A.units + 1 + x.dep < cLine; omega)
      have ne := val_ne hx hl2 ok.2.1 r1 q1
      have p1 := PyData.plain_of_canLay0 _ (Fm.lay ok2)
      have p2 := PyData.plain_of_canLay0 _ (Fm.lay ok.2.2)
      have d1 := Fm.ddep rF
      refine ⟨rc_tup3 tp tp2 (by omega) (SeqAt.EqAt.str_str _ _ _ _) (eq_of_rc ne (sf_nofl hx r1) i1.1) (SeqAt.eqAt_plain _ _ _ _ _ _ _ _ (fm_reads I hr r2) (fm_reads I hr2 q2) p1 p2 ?_) (.inl rfl),
        rc_tup3 tp2 tp (by omega) (SeqAt.EqAt.str_str _ _ _ _) (eq_of_rc ne.symm (fm_nofl hl2 q1) i1.2) (SeqAt.eqAt_plain _ _ _ _ _ _ _ _ (fm_reads I hr2 q2) (fm_reads I hr r2) p2 p1 ?_) (.inl rfl)⟩
      · show A.units + 1 + min _ _ < cLine
        omega
      · show A.units + 1 + min _ _ < cLine
        omega
  | nr h hs hl ok2 hx ih =>
    rename_i a sg vl vx l2 x
    intro w t u u' A m ok r r' hu
    cases r
    simp only [Sf.dep] at hu
    obtain ⟨its, rv, tp, _⟩ := I.tuple (SqT.of h)
    cases m with
    | leaf z =>
      obtain ⟨k, rfl⟩ := id r'
      exact ⟨SeqAt.RcAt.tuple_str z k tp (by omega), SeqAt.RcAt.str_tuple z k tp (by omega)⟩
    | node e hl2 hr2 =>
      cases r'
      obtain ⟨its2, rv2, tp2, _⟩ := I.tuple (SqT.of e)
      cases rv with
      | cons r0 rv =>
      cases rv with
      | cons r1 rv =>
      cases rv with
      | cons r2 rv =>
      cases rv
      cases rv2 with
      | cons q0 rv2 =>
      cases rv2 with
      | cons q1 rv2 =>
      cases rv2 with
      | cons q2 rv2 =>
      cases rv2
      obtain ⟨k0, rfl⟩ := id r0
      obtain ⟨k1, rfl⟩ := id q0
      have i1 := ih (A := A.in1) hr2 ok.2.2 r2 q2 (by show A.units + 1 + x.dep < cLine; omega)
      have ne := val_ne hx hr2 ok.2.2 r2 q2
      have p1 := PyData.plain_of_canLay0 _ (Fm.lay ok2)
      have p2 := PyData.plain_of_canLay0 _ (Fm.lay ok.2.1)
      have d1 := Fm.ddep l2
      refine ⟨rc_tup3 tp tp2 (by omega) (SeqAt.EqAt.str_str _ _ _ _) (SeqAt.eqAt_plain _ _ _ _ _ _ _ _ (fm_reads I hl r1) (fm_reads I hl2 q1) p1 p2 ?_) (eq_of_rc ne (sf_nofl hx r2) i1.1) (.inr rfl),
        rc_tup3 tp2 tp (by omega) (SeqAt.EqAt.str_str _ _ _ _) (SeqAt.eqAt_plain _ _ _ _ _ _ _ _ (fm_reads I hl2 q1) (fm_reads I hl r1) p2 p1 ?_) (eq_of_rc ne.symm (fm_nofl hr2 q2) i1.2) (.inr rfl)⟩
      · show A.units + 1 + min _ _ < cLine
        omega
      · show A.units + 1 + min _ _ < cLine
        omega
/-- x == y, one of the two a form, the other one spoilt -/
def rEqS : R2 := fun x y H Q => (∃ a t, ((SfAt H x a ∧ FmAt H y t) ∨ (FmAt H x t ∧ SfAt H y a)) ∧ t.Ok ∧ a.dep ≤ 60) ∧ Q (.bl false) H
theorem op_eqS (hu : X.A.units + 64 < cLine) : OpR X (compareOp .Eq) rEqS := by
  intro pins s σ H x y v u Q I rx ry h
  obtain ⟨⟨a, t, h, ok, hd⟩, q⟩ := h
  rcases h with ⟨h, m⟩ | ⟨m, h⟩
  · exact (rc_sf I (A := X.A) h m ok rx ry (by omega)).1 _ _ _ _ ⟨.bl _, H, I, rfl, q⟩
  · exact (rc_sf I (A := X.A) h m ok ry rx (by omega)).2 _ _ _ _ ⟨.bl _, H, I, rfl, q⟩
end
end K1

namespace K1
open PySem PySem.Spec
open PyProof.Rows L2 L2H EnT StX SmX TxS DuX XdI Tr3 CnB ClX
/-! ### the texts of what is no form -/
def Lw (x : Str) : Prop := ∀ c ∈ x.cps.toList, c < 128
theorem Lw.app {x y : Str} (a : Lw x) (b : Lw y) : Lw (x ++ y) := low_app a b
theorem Lw.ok {x : Str} (a : Lw x) : PyData.strOk x = true := strOk_low a
theorem low_repr {z : Str} (hz : Lw z) : Lw (PyData.str z).shown := by
  intro c hc
  have e : (PyData.str z).shown = reprText z := rfl
  rw [e] at hc
  unfold reprText at hc
  have q := quote_low z
  have q128 : reprQuote z < 128 := by rcases q with e | e <;> rw [e] <;> decide
  simp only [Array.toList_push, List.mem_append, List.mem_singleton] at hc
  rcases hc with hc | hc
  · rw [← Array.foldl_toList] at hc
    exact fold_low q _ _ hz (fun c hc => by
      have : c = reprQuote z := by simpa using hc
      rw [this]
      exact q128) c hc
  · rw [hc]
    exact q128
theorem low_join {y : Str} (hy : Lw y) : ∀ ts : List Str, (∀ t ∈ ts, Lw t) → Lw (Str.join y ts)
  | [], _ => fun c hc => by
    have : c ∈ ([] : List Nat) := hc
    cases this
  | [x], h => h x List.mem_cons_self
  | x :: z :: r, h => by
    have ih := low_join hy (z :: r) fun t ht => h t (List.mem_cons_of_mem _ ht)
    show Lw (x ++ y ++ Str.join y (z :: r))
    exact ((h x List.mem_cons_self).app hy).app ih
theorem low_tup {ts : List Str} (h : ∀ t ∈ ts, Lw t) : Lw (tupleText ts) := by
  have l1 : Lw ("(" : Str) := by unfold Lw; decide +kernel
  have l2 : Lw (", " : Str) := by unfold Lw; decide +kernel
  have l3 : Lw ((",)" : String) : Str) := by unfold Lw; decide +kernel
  have l4 : Lw ((")" : String) : Str) := by unfold Lw; decide +kernel
  unfold tupleText
  refine (l1.app (low_join l2 ts h)).app ?_
  split
  · exact l3
  · exact l4
theorem sign_lowT {s : Str} (h : s ∈ signs) : Lw (PyData.str s).shown ∧ (PyData.str s).shown.length = 3 := by
  have all : ∀ s ∈ signs, Lw (PyData.str s).shown ∧ (PyData.str s).shown.length = 3 := by unfold Lw; decide +kernel
  exact all s h
theorem tup3_len {a b c : PyData} : (PyData.tuple [a, b, c]).shown.length ≤ a.shown.length + b.shown.length + c.shown.length + 9 := by
  have h := tupleText_len_le [a.shown, b.shown, c.shown]
  simp only [List.map_cons, List.map_nil, List.sum_cons, List.sum_nil, List.length_cons, List.length_nil] at h
  show (tupleText [a.shown, b.shown, c.shown]).length ≤ _
  omega
theorem fm_shown : ∀ {t : Fm}, t.Ok → Lw t.dat.shown ∧ t.dat.shown.length + 30 ≤ 130 * t.nl ∧ t.dat.showable = true ∧ t.dat.hasDict = false := fun {t} ok => by
  obtain ⟨p, w⟩ := Fm.plain ok
  obtain ⟨l, sh, hd⟩ := RpD.shown_le _ p
  refine ⟨?_, by omega, sh, hd⟩
  clear p w l sh hd
  induction t with
  | leaf z => exact low_repr (name_low ok)
  | node s l r il ir =>
    refine low_tup (ts := [(PyData.str s).shown, l.dat.shown, r.dat.shown]) fun t ht => ?_
    simp only [List.mem_cons, List.not_mem_nil, or_false] at ht
    rcases ht with rfl | rfl | rfl
    · exact (sign_lowT ok.1).1
    · exact il ok.2.1
    · exact ir ok.2.2
theorem bd_shown {H : Hp} {v : V} {d : PyData} (h : BdAt H v d) : Lw d.shown ∧ d.shown.length ≤ 60 ∧ d.showable = true := by
  have a1 : ∀ z ∈ badStrs, Lw (PyData.str z).shown ∧ (PyData.str z).shown.length ≤ 60 := by unfold Lw; decide +kernel
  have a2 : ∀ zs ∈ badTups, Lw (PyData.tuple (strD zs)).shown ∧ (PyData.tuple (strD zs)).shown.length ≤ 60 ∧ (PyData.tuple (strD zs)).showable = true := by unfold Lw; decide +kernel
  cases h with
  | str z h => exact ⟨(a1 z h).1, (a1 z h).2, rfl⟩
  | tup a zs h e => exact a2 zs h
  | lst a e => unfold Lw; decide +kernel
  | tupN a e => unfold Lw; decide +kernel
  | dK a e => unfold Lw; decide +kernel
  | non => unfold Lw; decide +kernel
  | bl => unfold Lw; decide +kernel
  | int => unfold Lw; decide +kernel
theorem sf_shown {H : Hp} {v : V} {x : Sf} (h : SfAt H v x) : Lw x.dat.shown ∧ x.dat.shown.length + 30 ≤ 130 * x.num ∧ x.dat.showable = true := by
  induction h with
  | bad h =>
    rename_i v d
    obtain ⟨a, b, c⟩ := bd_shown h
    exact ⟨a, by show d.shown.length + 30 ≤ 130 * 1; omega, c⟩
  | nl h hs hx hr ok ih =>
    rename_i a s vx vr x r
    obtain ⟨l1, w1⟩ := sign_lowT hs
    obtain ⟨a1, a2, a3⟩ := ih
    obtain ⟨b1, b2, b3, _⟩ := fm_shown ok
    refine ⟨low_tup (ts := [(PyData.str s).shown, x.dat.shown, r.dat.shown]) fun t ht => ?_, ?_, ?_⟩
    · simp only [List.mem_cons, List.not_mem_nil, or_false] at ht
      rcases ht with rfl | rfl | rfl <;> assumption
    · have := tup3_len (a := .str s) (b := x.dat) (c := r.dat)
      show (PyData.tuple [.str s, x.dat, r.dat]).shown.length + 30 ≤ 130 * (x.num + r.nl)
      omega
    · show (true && (x.dat.showable && (r.dat.showable && true))) = true
      rw [a3, b3]
      rfl
  | nr h hs hl ok hx ih =>
    rename_i a s vl vx l x
    obtain ⟨l1, w1⟩ := sign_lowT hs
    obtain ⟨a1, a2, a3⟩ := ih
    obtain ⟨b1, b2, b3, _⟩ := fm_shown ok
    refine ⟨low_tup (ts := [(PyData.str s).shown, l.dat.shown, x.dat.shown]) fun t ht => ?_, ?_, ?_⟩
    · simp only [List.mem_cons, List.not_mem_nil, or_false] at ht
      rcases ht with rfl | rfl | rfl <;> assumption
    · have := tup3_len (a := .str s) (b := l.dat) (c := x.dat)
      show (PyData.tuple [.str s, l.dat, x.dat]).shown.length + 30 ≤ 130 * (l.nl + x.num)
      omega
    · show (true && (l.dat.showable && (x.dat.showable && true))) = true
      rw [a3, b3]
      rfl
theorem sf_depth {H : Hp} {v : V} {x : Sf} (h : SfAt H v x) : x.dat.depth + 1 ≤ x.dep := by
  induction h with
  | bad h =>
    show _ + 1 ≤ 2
    rcases bd_plain h with ⟨_, q, _⟩ | e
    · simp only [Sf.dat]
      omega
    · simp only [Sf.dat, e]
      decide +kernel
  | nl h hs hx hr ok ih =>
    rename_i a s vx vr x r
    have := Fm.ddep r
    simp only [Sf.dat, Sf.dep, PyData.depth, PyData.depthAll]
    omega
  | nr h hs hl ok hx ih =>
    rename_i a s vl vx l x
    have := Fm.ddep l
    simp only [Sf.dat, Sf.dep, PyData.depth, PyData.depthAll]
    omega
section
variable {X : Cx} {pins : List (Addr × Obj)} {σ : L2.St} {H : Hp} {s : Shared}
theorem sf_reads (I : Inv X pins σ H s) {v : V} {x : Sf} (h : SfAt H v x) : ∀ {u : Value}, RelV v u → ∃ as, Reads s.heap u x.dat as ∧ (x.dat.hasDict = true → sysModules ∉ as) := by
  induction h with
  | bad h =>
    intro u r
    rcases bd_dp (K := X.K) h with q | ⟨a, rfl, e, rfl⟩
    · obtain ⟨as, rd⟩ := Dp.reads I _ _ u q r
      refine ⟨as, rd, fun e => ?_⟩
      rcases bd_plain h with ⟨_, _, n⟩ | e2
      · rw [show (Sf.bad _).dat.hasDict = _ from n] at e
        cases e
      · subst e2
        cases q
    · cases r
      obtain ⟨_, rd, n⟩ := dict_at I e
      exact ⟨_, rd, fun _ => n⟩
  | nl h hs hx hr ok ih =>
    rename_i a sg vx vr x r'
    intro u r
    cases r
    obtain ⟨its, rv, ⟨o, ho, hc, n, hd⟩, _⟩ := I.tuple (SqT.of h)
    cases rv with
    | cons r0 rv =>
    cases rv with
    | cons r1 rv =>
    cases rv with
    | cons r2 rv =>
    cases rv
    obtain ⟨k, rfl⟩ := id r0
    obtain ⟨as, rd, nn⟩ := ih r1
    have z : ReadsAll s.heap _ [.str sg, x.dat, r'.dat] ([] ++ (as ++ ([] ++ []))) := .cons (.str _ k) (.cons rd (.cons (fm_reads I hr r2) .nil))
    have e : [] ++ (as ++ ([] ++ [])) = as := by simp
    rw [e] at z
    refine ⟨as, .tuple ho hc hd z, fun q => nn ?_⟩
    have q : (false || (x.dat.hasDict || (r'.dat.hasDict || false))) = true := q
    rw [(fm_shown ok).2.2.2] at q
    simpa using q
  | nr h hs hl ok hx ih =>
    rename_i a sg vl vx l x
    intro u r
    cases r
    obtain ⟨its, rv, ⟨o, ho, hc, n, hd⟩, _⟩ := I.tuple (SqT.of h)
    cases rv with
    | cons r0 rv =>
    cases rv with
    | cons r1 rv =>
    cases rv with
    | cons r2 rv =>
    cases rv
    obtain ⟨k, rfl⟩ := id r0
    obtain ⟨as, rd, nn⟩ := ih r2
    have z : ReadsAll s.heap _ [.str sg, l.dat, x.dat] ([] ++ ([] ++ (as ++ []))) := .cons (.str _ k) (.cons (fm_reads I hl r1) (.cons rd .nil))
    have e : [] ++ ([] ++ (as ++ [])) = as := by simp
    rw [e] at z
    refine ⟨as, .tuple ho hc hd z, fun q => nn ?_⟩
    have q : (false || (l.dat.hasDict || (x.dat.hasDict || false))) = true := q
    rw [(fm_shown ok).2.2.2] at q
    simpa using q
theorem call_reprSf (hg : X.A.guards = some []) (hu : X.A.units + 100 < cLine) : CallR X (.builtin "repr") (fun xs H Q => ∃ v x, xs = [v] ∧ SfAt H v x ∧ x.dep ≤ 20 ∧ x.num ≤ 1000 ∧ Q (.str x.dat.shown) H) := by
  intro pins s σ H xs us Q Iv r h
  obtain ⟨v, x, rfl, hx, hd, hn, q⟩ := h
  obtain ⟨_, len, sh⟩ := sf_shown hx
  have dp := sf_depth hx
  cases r with
  | cons r rr =>
    cases rr
    rename_i u
    obtain ⟨as, rd, nn⟩ := sf_reads Iv hx r
    have go : ∀ {a : Addr}, u = .ref a → wpAny (model X.prog X.w) X.A (call (.builtin "repr") [u]) (EP X pins σ Q) X.xe s := fun {a} e => by
      subst e
      exact repr_of_reads' rd sh nn hg (by omega) (fun _ _ e => e) (fun h' t tk kp => ⟨.str x.dat.shown, H, Iv.kept kp, ⟨t, rfl⟩, q⟩) (by rw [sizeLine_eq]; omega)
    cases hx with
    | bad h =>
      cases h with
      | non =>
        cases r
        exact P.repr_of_none ⟨.str _, H, Iv.tok _, ⟨_, rfl⟩, q⟩
      | bl =>
        cases r
        exact P.repr_of_bool ⟨.str _, H, Iv.tok _, ⟨_, rfl⟩, q⟩
      | int =>
        obtain ⟨t, rfl⟩ := r
        exact P.repr_of_int (by decide) ⟨.str _, H, Iv.tok _, ⟨_, rfl⟩, q⟩
      | str z h =>
        obtain ⟨t, rfl⟩ := r
        exact P.repr_of_str ⟨.str _, H, Iv.tok _, ⟨_, rfl⟩, q⟩ (by have : (reprText z).length + 30 ≤ 130 * 1 := len; rw [sizeLine_eq]; omega)
      | tup a zs h e => cases r; exact go rfl
      | lst a e => cases r; exact go rfl
      | tupN a e => cases r; exact go rfl
      | dK a e => cases r; exact go rfl
    | nl h _ _ _ _ => cases r; exact go rfl
    | nr h _ _ _ _ => cases r; exact go rfl
end
end K1

namespace K1
open PySem PySem.Spec
open PyProof.Rows L2 EnT StX SmX TxS DuX ClX
/-! ### the line of a fact, and where it parts -/
abbrev tLe : Str := " <= "
def facText (t u : Fm) : Str := t.txt false ++ tLe ++ u.txt false
theorem nolt_name {z : Str} (h : nameB z = true) : 60 ∉ TL.tl z := by
  unfold nameB at h
  split at h
  · cases h
  split at h
  · cases h
  split at h
  · cases h
  · rename_i h3
    have e : Txt.isalnum z = true := by
      cases q : Txt.isalnum z with
      | true => rfl
      | false => exact absurd q h3
    have e : (decide (z.length > 0) && z.cps.all Unicode.isAlnum) = true := e
    rw [Bool.and_eq_true, ← Array.all_toList] at e
    intro m
    have a := (List.all_eq_true.mp e.2) 60 m
    have b : Unicode.isAlnum 60 = false := by decide +kernel
    rw [b] at a
    cases a
theorem nolt_sign {s : Str} (h : s ∈ signs) : 60 ∉ TL.tl s := by
  simp only [signs, List.mem_cons, List.not_mem_nil, or_false] at h
  rcases h with rfl | rfl | rfl | rfl <;> decide +kernel
theorem nolt_app {x y : Str} (hx : 60 ∉ TL.tl x) (hy : 60 ∉ TL.tl y) : 60 ∉ TL.tl (x ++ y) := fun h => by
  rw [TL.tl_append] at h
  rcases List.mem_append.mp h with q | q
  · exact hx q
  · exact hy q
theorem nolt_txt : ∀ (b : Bool) {t : Fm}, t.Ok → 60 ∉ TL.tl (t.txt b)
  | b, .leaf z, h => by
    have e : (Fm.leaf z).txt b = z := by cases b <;> rfl
    rw [e]
    exact nolt_name h
  | b, .node s l r, h => by
    have a := nolt_txt true h.2.1
    have d := nolt_txt true h.2.2
    have g := nolt_sign h.1
    have sp : 60 ∉ TL.tl (" " : Str) := by decide +kernel
    have op : 60 ∉ TL.tl ("(" : Str) := by decide +kernel
    have cl : 60 ∉ TL.tl (")" : Str) := by decide +kernel
    have m := nolt_app (nolt_app (nolt_app (nolt_app a sp) g) sp) d
    cases b
    · exact m
    · exact nolt_app (nolt_app op m) cl
theorem par_le {p q : List Nat} (h : 60 ∉ p) : TL.par [32, 60, 61, 32] [] (p ++ ([32, 60, 61, 32] ++ q)) = some (p, q) := by
  refine TL.par_part (by simp) fun i hi => ?_
  cases e : TL.pre [32, 60, 61, 32] ((p ++ ([32, 60, 61, 32] ++ q)).drop i) with
  | false => rfl
  | true =>
    exfalso
    have e2 : ((p ++ ([32, 60, 61, 32] ++ q)).drop i).take 4 = [32, 60, 61, 32] := beq_iff_eq.mp e
    have e3 : (((p ++ ([32, 60, 61, 32] ++ q)).drop i).take 4)[1]? = some 60 := by rw [e2]; rfl
    rw [List.getElem?_take, if_pos (by decide), List.getElem?_drop] at e3
    by_cases hk : i + 1 < p.length
    · rw [List.getElem?_append_left hk] at e3
      exact h (List.mem_of_getElem? e3)
    · have ei : i + 1 = p.length := by omega
      rw [ei, List.getElem?_append_right (Nat.le_refl _), Nat.sub_self] at e3
      cases e3
theorem part_le {a b : Str} (h : 60 ∉ TL.tl a) : Txt.partition (a ++ tLe ++ b) tLe = (a, tLe, b) := by
  have et : TL.tl tLe = [32, 60, 61, 32] := by decide +kernel
  rw [TL.partition_par _ tLe (by rw [et]; simp), TL.tl_append, TL.tl_append, List.append_assoc, et, par_le h]
end K1

namespace K1
open PySem PySem.Spec
open PyProof.Rows L2 L2H EnT StX SmX TxS DuX ClX XdI Tr3 CnB
/-- {o}, o an own object with __str__ -/
def tFmtO (C : Addr) (sp : Sp) (te : TE) : TE := fun σ H Q => te σ H fun x H1 => ∃ (a dx : Addr) (fs : List (Str × V)), x = .ref a ∧ H1 a = some (.ins C dx fs) ∧ sp [.ref a] H1 (fun v H' => ∃ z, v = .str z ∧ Q (.str z) H') E0
/-- what is asked of a class for {o} -/
structure FmtC (K : PySem.W.Frag) (C : Addr) : Prop where
  fm : PySem.W.findIn K (.ref C) "__format__" = some (some (.builtin "object.__format__"))
  hm : PySem.W.mroIn K C (.type "object") = some true
theorem pe_fmtO {X : Cx} {k : Nat} {g C : Addr} {sp : Sp} {e : Expr} {te : TE} {pos : Pos} (c : FmtC X.K C) (m : OwnM X.K C "__str__" g) (F : FnR X.prog X.w X.K X.mg X.base CX0 k g sp) (hr : Room (k + 1) X.A) (he : PE X e te) : PE X (.FormattedValue e (-1) none pos) (tFmtO C sp te) := by
  refine ⟨fun pins s σ H Q I h => ?_⟩
  refine wpAny_FormattedValue_plain (thn (he.run pins s σ H _ I h) fun v s1 hv => ?_)
  obtain ⟨x, H1, I1, r1, a, dx, fs, rfl, atA, cont⟩ := hv
  cases r1
  obtain ⟨ox, od, J⟩ := inst_of I1 atA
  refine PySem.W.kfo_fieldS hr.in1.units0 I1.kIn J c.fm c.hm m.at_ m.fn ?_
  refine wpAny_mono (run_below F hr.in1 rfl pass0 (I1.tok _) (vs := [V.ref a]) (.cons rfl .nil) cont) (fun u s2 hu => ?_) fun _ _ e => e
  obtain ⟨v, H2, I2, rv, z, rfl, q1⟩ := hu
  obtain ⟨t, rfl⟩ := rv
  exact ⟨.str z, H2, I2, ⟨t, rfl⟩, q1⟩
def facRepr (t u : Fm) : Str := ("Fact(" : Str) ++ t.txt false ++ tLe ++ u.txt false ++ (")" : Str)
def spReprF (C D : Addr) : Sp := fun vs H Q _ => ∃ (p a b : Addr) (t u : Fm), vs = [.ref p] ∧ FacAt C D H p a b t u ∧ Q (.str (facRepr t u)) H
section
variable {w : World} {P : Program} {base : Heap} {mg : Str → Option Value} {K : PySem.W.Frag} {aS C D fI : Addr}
theorem scReprF : FnScope ["self"] ["self"] (defScope sReprF) := ⟨rfl, rfl, rfl, by decide +kernel, rfl, by decide +kernel, by decide +kernel⟩
theorem ok_reprF {f g : Addr} {fd : FuncData} (F : Fun K "__repr__" "Fact.__repr__" sReprF f fd) (M : FacC K mg D) (c : FmtC K C) (m : OwnM K C "__str__" g) (FS : FnR P w K mg base CX0 41 g (spStrE C)) : FnOk P w K mg base CX0 43 f fd ["self"] (spReprF C D) := by
  refine F.ok scReprF (fun vs H Q E h => ?_) (fun cdv A outer s H vs Q E hr h => ?_)
  · obtain ⟨p, a, b, t, u, rfl, _⟩ := h
    rfl
  · obtain ⟨p, a, b, t, u, rfl, mF, q⟩ := h
    obtain ⟨dx, h⟩ := mF.at_
    obtain ⟨dx1, v1, fl1, ys1, h1, _⟩ := mF.l.at_
    obtain ⟨dx2, v2, fl2, ys2, h2, _⟩ := mF.r.at_
    have l1 := txt_len false t mF.l.ok
    have l2 := txt_len false u mF.r.ok
    have n1 := mF.l.n
    have n2 := mF.r.n
    have e0 : tLe.length = 4 := by decide +kernel
    have e1 : ("Fact(" : Str).length = 5 := by decide +kernel
    have e2 : (")" : Str).length = 1 := by decide +kernel
    refine ⟨_, pss_one (ps_ret (pe_joined (.cons pe_str (.cons (pe_fmtO c m FS hr (pe_fld (pv 0) rfl)) (.cons pe_str (.cons (pe_fmtO c m FS hr (pe_fld (pv 0) rfl)) (.cons pe_str .nil))))))), ?_⟩
    refine ⟨_, rfl, by rw [empty_app, sizeLine_eq]; show ("Fact(" : Str).length ≤ _; omega, ?_⟩
    refine ⟨_, rfl, p, D, dx, _, _, rfl, h, M.cl, M.nL, ff_left a b, a, dx1, _, rfl, h1, a, t, rfl, mF.l, _, rfl, ?_⟩
    refine ⟨_, rfl, by rw [empty_app, strLen_append, sizeLine_eq]; show ("Fact(" : Str).length + _ ≤ _; omega, _, rfl, by rw [empty_app, strLen_append, strLen_append, sizeLine_eq]; show ("Fact(" : Str).length + _ + tLe.length ≤ _; omega, ?_⟩
    refine ⟨_, rfl, p, D, dx, _, _, rfl, h, M.cl, M.nR, ff_right a b, b, dx2, _, rfl, h2, b, u, rfl, mF.r, _, rfl, ?_⟩
    refine ⟨_, rfl, by rw [empty_app, strLen_append, strLen_append, strLen_append, sizeLine_eq]; show ("Fact(" : Str).length + _ + tLe.length + _ ≤ _; omega, _, rfl, by rw [empty_app, strLen_append, strLen_append, strLen_append, strLen_append, sizeLine_eq]; show ("Fact(" : Str).length + _ + tLe.length + _ + (")" : Str).length ≤ _; omega, ?_⟩
    show Q (.str (Str.empty ++ _ ++ _ ++ _ ++ _ ++ _)) H
    rw [empty_app]
    exact q
end
end K1

namespace K1
open PySem PySem.Spec
open PyProof.Rows L2 EnT StX SmX TxS DuX XdI Tr3 CnB ClX
/-- isinstance(e, c) in a suite, whatever the class -/
def rIsX (K : PySem.W.Frag) (a : Addr) (cls : Value) (d : Option Addr) : List V → Hp → VK → Prop := fun xs H Q => ∃ D, cls = .ref D ∧ ExcC K D ∧ rIsD K D a d xs H Q
/-- the same of an exception without attributes -/
def rIsN (K : PySem.W.Frag) (a : Addr) (cls : Value) (d : Option Addr) : List V → Hp → VK → Prop := fun xs H Q => ∃ D, cls = .ref D ∧ ExcC K D ∧ d = none ∧ rIsE K D a xs H Q
theorem call_isN {X : Cx} {a : Addr} {d : Option Addr} {oe : Obj} {pn : List (Addr × Obj)} {cls : Value} (hz : Zc cls d oe) (hf : ∃ vs, oe.data = .fields vs) : CallR (X.suite a ((a, oe) :: pn)) (.builtin "isinstance") (rIsN X.K a cls d) := by
  intro pins s σ
      H xs us Q I r h
  obtain ⟨D, rfl, C, rfl, h⟩ := h
  exact call_isE C hz hf pins s σ H xs us Q I r h
theorem call_isX {X : Cx} {a : Addr} {d : Option Addr} {oe : Obj} {pn : List (Addr × Obj)} {cls : Value} (hz : Zc cls d oe) (hf : ∃ vs, oe.data = .fields vs) : CallR (X.suite a ((a, oe) :: pn)) (.builtin "isinstance") (rIsX X.K a cls d) := by
  intro pins s σ
      H xs us Q I r h
  obtain ⟨D, ec, C, h⟩ := h
  exact call_isD ec C hz hf pins s σ H xs us Q I r h
/-- what is asked of an error's class, its base the b-th one -/
structure ErrF (K : PySem.W.Frag) (S1 S2 S3 D : Addr) (b : Nat) : Prop where
  ec : ExcC K D
  k1 : PySem.W.kitOne K (.ref D) (.ref S1) = some (decide (b = 0))
  k2 : PySem.W.kitOne K (.ref D) (.ref S2) = some (decide (b = 1))
  k3 : PySem.W.kitOne K (.ref D) (.ref S3) = some (decide (b = 2))
  kV : PySem.W.kitOne K (.ref D) (.type "ValueError") = some (decide (b = 0))
  kL : PySem.W.kitOne K (.ref D) (.type "LookupError") = some (decide (b = 1))
  kA : PySem.W.kitOne K (.ref D) (.type "ArithmeticError") = some (decide (b = 2))
  kx : PySem.W.exmAny K (.ref D) [.ref S1, .ref S2, .ref S3] = some true
  xf : XfC K D
/-- repr(x), x told by SV -/
def rSV (SV : Hp → V → Str → Prop) : List V → Hp → VK → Prop := fun xs H Q => ∃ x txt, xs = [x] ∧ SV H x txt ∧ Q (.str txt) H
structure ErrK (K : PySem.W.Frag) (mg : Str → Option Value) (S1 S2 S3 C1 C2 C3 C4 C5 : Addr) : Prop where
  g1 : mg "SetError" = some (.ref S1)
  g2 : mg "StateError" = some (.ref S2)
  g3 : mg "LimitError" = some (.ref S3)
  gV : mg "ValueError" = none
  gL : mg "LookupError" = none
  gA : mg "ArithmeticError" = none
  m1 : mg "InvalidForm" = some (.ref C1)
  e1 : ErrF K S1 S2 S3 C1 0
  i1 : PySem.W.findIn K (.ref C1) "value" = some none
  k1_1 : PySem.W.kitOne K (.ref C1) (.ref C1) = some true
  k1_2 : PySem.W.kitOne K (.ref C1) (.ref C2) = some false
  k1_3 : PySem.W.kitOne K (.ref C1) (.ref C3) = some false
  k1_4 : PySem.W.kitOne K (.ref C1) (.ref C4) = some false
  k1_5 : PySem.W.kitOne K (.ref C1) (.ref C5) = some false
  m2 : mg "InvalidText" = some (.ref C2)
  e2 : ErrF K S1 S2 S3 C2 0
  i2 : PySem.W.findIn K (.ref C2) "value" = some none
  k2_1 : PySem.W.kitOne K (.ref C2) (.ref C1) = some false
  k2_2 : PySem.W.kitOne K (.ref C2) (.ref C2) = some true
  k2_3 : PySem.W.kitOne K (.ref C2) (.ref C3) = some false
  k2_4 : PySem.W.kitOne K (.ref C2) (.ref C4) = some false
  k2_5 : PySem.W.kitOne K (.ref C2) (.ref C5) = some false
  m3 : mg "TooManyLeaves" = some (.ref C3)
  e3 : ErrF K S1 S2 S3 C3 2
  i3 : PySem.W.findIn K (.ref C3) "limit" = some none
  k3_1 : PySem.W.kitOne K (.ref C3) (.ref C1) = some false
  k3_2 : PySem.W.kitOne K (.ref C3) (.ref C2) = some false
  k3_3 : PySem.W.kitOne K (.ref C3) (.ref C3) = some true
  k3_4 : PySem.W.kitOne K (.ref C3) (.ref C4) = some false
  k3_5 : PySem.W.kitOne K (.ref C3) (.ref C5) = some false
  m4 : mg "TooManyLevels" = some (.ref C4)
  e4 : ErrF K S1 S2 S3 C4 2
  i4 : PySem.W.findIn K (.ref C4) "limit" = some none
  k4_1 : PySem.W.kitOne K (.ref C4) (.ref C1) = some false
  k4_2 : PySem.W.kitOne K (.ref C4) (.ref C2) = some false
  k4_3 : PySem.W.kitOne K (.ref C4) (.ref C3) = some false
  k4_4 : PySem.W.kitOne K (.ref C4) (.ref C4) = some true
  k4_5 : PySem.W.kitOne K (.ref C4) (.ref C5) = some false
  m5 : mg "NotAnExpression" = some (.ref C5)
  e5 : ErrF K S1 S2 S3 C5 0
  i5 : PySem.W.findIn K (.ref C5) "value" = some none
  k5_1 : PySem.W.kitOne K (.ref C5) (.ref C1) = some false
  k5_2 : PySem.W.kitOne K (.ref C5) (.ref C2) = some false
  k5_3 : PySem.W.kitOne K (.ref C5) (.ref C3) = some false
  k5_4 : PySem.W.kitOne K (.ref C5) (.ref C4) = some false
  k5_5 : PySem.W.kitOne K (.ref C5) (.ref C5) = some true
theorem same_free {H H' : Hp} {p : Addr} (s : Same H H') (n : H' p = none) : H p = none := by
  cases hh : H p with
  | none => rfl
  | some o =>
    rw [s _ _ hh] at n
    cases n
theorem grow_keep {H : Hp} {p : Addr} {xs ys : List V} : ∀ b o, b ≠ p → H b = some o → upd (upd H p (.lst xs)) p (.lst (xs ++ ys)) b = some o := fun b o n e => by
  rw [upd_ne n, upd_ne n]
  exact e
/-- ahead of the n-th truth are none -/
theorem first_at {bs : List Bool} {n m : Nat} {z : V} (h : ((bs.take n).all fun b => !b) = true) (hm : m < n) (hz : (bs.map V.bl)[m]? = some z) : eqV z (.bl true) = false := by
  rw [List.getElem?_map] at hz
  obtain ⟨b, hb, rfl⟩ := Option.map_eq_some_iff.mp hz
  have hb2 : b ∈ bs.take n := by
    obtain ⟨l, e⟩ := List.getElem?_eq_some_iff.mp hb
    exact List.mem_iff_getElem.mpr ⟨m, by rw [List.length_take]; omega, by rw [List.getElem_take]; exact e⟩
  have h2 := (List.all_eq_true.mp h) b hb2
  cases b with
  | true => cases h2
  | false => rfl
abbrev nmCaught : List Str := ["_law_ask", "_law_told", "e", "_law_sides", "_law_base", "_law_sorts", "_law_at"]
theorem scCaught : FnScope nmCaught ["_law_ask"] (defScope sCaught) := ⟨rfl, rfl, rfl, by decide +kernel, rfl, by decide +kernel, by decide +kernel⟩
/-- what is told of an error, its attributes at dd; SV tells a value's text -/
def Told (SV : Hp → V → Str → Prop) (C1 C2 C3 C4 C5 : Addr) (Q : VK) : XK := fun cls d H => (∃ (dd : Addr) (v : V) (txt nm : Str), d = some dd ∧ SV H v txt ∧ ((cls = .ref C1 ∧ nm = "InvalidForm" ∧ H dd = some (.xd [("value", v)])) ∨ (cls = .ref C2 ∧ nm = "InvalidText" ∧ H dd = some (.xd [("value", v)])) ∨ (cls = .ref C3 ∧ nm = "TooManyLeaves" ∧ H dd = some (.xd [("limit", v)])) ∨ (cls = .ref C4 ∧ nm = "TooManyLevels" ∧ H dd = some (.xd [("limit", v)])) ∨ (cls = .ref C5 ∧ nm = "NotAnExpression" ∧ H dd = some (.xd [("value", v)]))) ∧
    ∀ (p : Addr) (H' : Hp), H p = none → Same H H' → H' p = some (.lst [.str nm, .str txt]) → Q (.ref p) H') ∨
  ∃ nm : Str, d = none ∧ (False) ∧ ∀ (p : Addr) (H' : Hp), H p = none → Same H H' → H' p = some (.lst [.str nm]) → Q (.ref p) H'
/-- the reading of _law_caught(lambda: ..), where the lambda raises -/
def TTc (SV : Hp → V → Str → Prop) (C1 C2 C3 C4 C5 : Addr) : (XK → Hp → VK → Prop) → Hp → VK → Prop := fun tl H Q => ∀ Q', tl (Told SV C1 C2 C3 C4 C5 Q) H Q'
section
variable {X : Cx}
abbrev cxK (X : Cx) (g : Addr) (cdg : Value) (s : Shared) (H : Hp) : Cx := (cxOf C8.CX0 X.prog X.w X.K X.mg X.base nmCaught "_law_caught" (defScope sCaught) g cdg X.A X.stack s H C8.E0).nox
abbrev suiteOf : List Stmt := match defBody sCaught with
  | (.Try _ [.ExceptHandler _ _ su _] _ _ _) :: _ => su
  | _ => []
mutual
theorem dp_same {K : PySem.W.Frag} {H H' : Hp} (s : Same H H') : ∀ {v : V} {d : PyData}, Dp K H v d → Dp K H' v d
  | _, _, .non => .non
  | _, _, .bl b => .bl b
  | _, _, .int i => .int i
  | _, _, .str x => .str x
  | _, _, .lst h r => .lst (s.seq h) (dpAll_same s r)
  | _, _, .tup h r => .tup (sameT s h) (dpAll_same s r)
theorem dpAll_same {K : PySem.W.Frag} {H H' : Hp} (s : Same H H') : ∀ {vs : List V} {ds : List PyData}, DpAll K H vs ds → DpAll K H' vs ds
  | _, _, .nil => .nil
  | _, _, .cons h r => .cons (dp_same s h) (dpAll_same s r)
end
/-- the suite: an error that Told knows -/
def tCau (SV : Hp → V → Str → Prop) (C1 C2 C3 C4 C5 a : Addr) (cls : Value) (d : Option Addr) : TS := fun D σ H => (∃ σ' : L2.St, σ = σ'.set 2 (some (.ref a))) ∧ Told SV C1 C2 C3 C4 C5 D.rt cls d H
theorem suite_ok {g S1 S2 S3 C1 C2 C3 C4 C5 : Addr} {cdg : Value} {s : Shared} {H0 : Hp} (hgd : X.A.guards = some []) (hu : X.A.units + 300 < cLine) (T : Free X.mg) (EK : ErrK X.K X.mg S1 S2 S3 C1 C2 C3 C4 C5) {SV : Hp → V → Str → Prop} (hS : ∀ H H' v x, Same H H' → SV H v x → SV H' v x)
    {a : Addr} {oe : Obj} {cls : Value} {d : Option Addr} {pn : List (Addr × Obj)} (hz : Zc cls d oe) (hf : ∃ vs, oe.data = .fields vs) (hR : CallR ((cxK X g cdg s H0).suite a ((a, oe) :: pn)) (.builtin "repr") (rSV SV)) :
    PSs ((cxK X g cdg s H0).suite a ((a, oe) :: pn)) suiteOf (tCau SV C1 C2 C3 C4 C5 a cls d) := by
  refine ⟨fun pins s' σ H D I h => ?_⟩
  obtain ⟨⟨σ', eσ⟩, hT⟩ := h
  have hl : σ.length = 7 := I.len
  have hl' : σ'.length = 7 := by rw [eσ, List.length_set] at hl; exact hl
  obtain ⟨x0, x1, x2, x3, x4, x5, x6, e'⟩ : ∃ x0 x1 x2 x3 x4 x5 x6, σ' = [x0, x1, x2, x3, x4, x5, x6] := by
    match σ', hl' with
    | [x0, x1, x2, x3, x4, x5, x6], _ => exact ⟨x0, x1, x2, x3, x4, x5, x6, rfl⟩
  subst e'
  have eσ : σ = [x0, x1, some (.ref a), x3, x4, x5, x6] := eσ
  subst eσ
  obtain ⟨t, ht, hq⟩ : ∃ t, PSs ((cxK X g cdg s H0).suite a ((a, oe) :: pn)) suiteOf t ∧ t D [x0, x1, some (.ref a), x3, x4, x5, x6] H := by
    rcases hT with ⟨dd, v, txt, nm, rfl, hsd, (⟨rfl, rfl, hd⟩ | ⟨rfl, rfl, hd⟩ | ⟨rfl, rfl, hd⟩ | ⟨rfl, rfl, hd⟩ | ⟨rfl, rfl, hd⟩), q⟩ | ⟨nm, rfl, (⟨⟩), q⟩
    · have eC := EK.e1.ec
      have k1 : PySem.W.kitOne X.K (.ref C1) (.ref S1) = some true := EK.e1.k1
      have k2 : PySem.W.kitOne X.K (.ref C1) (.ref S2) = some false := EK.e1.k2
      have k3 : PySem.W.kitOne X.K (.ref C1) (.ref S3) = some false := EK.e1.k3
      have kV : PySem.W.kitOne X.K (.ref C1) (.type "ValueError") = some true := EK.e1.kV
      have kL : PySem.W.kitOne X.K (.ref C1) (.type "LookupError") = some false := EK.e1.kL
      have kA : PySem.W.kitOne X.K (.ref C1) (.type "ArithmeticError") = some false := EK.e1.kA
      refine ⟨_, pss_cons (ps_set (i := 3) scCaught.nd rfl (.inl rfl) (pe_lst (pa_cons (pe_callB (call_isX (X := cxK X g cdg s H0) (a := a) (pn := pn) hz hf) (by rfl) T.isinstance (by decide +kernel) (pa_cons (pv 2) (pa_cons (pe_glob (v := .ref S1) (by rfl) EK.g1 rfl) pa_nil))) (pa_cons (pe_callB (call_isX (X := cxK X g cdg s H0) (a := a) (pn := pn) hz hf) (by rfl) T.isinstance (by decide +kernel) (pa_cons (pv 2) (pa_cons (pe_glob (v := .ref S2) (by rfl) EK.g2 rfl) pa_nil))) (pa_cons (pe_callB (call_isX (X := cxK X g cdg s H0) (a := a) (pn := pn) hz hf) (by rfl) T.isinstance (by decide +kernel) (pa_cons (pv 2) (pa_cons (pe_glob (v := .ref S3) (by rfl) EK.g3 rfl) pa_nil))) pa_nil)))))
          (pss_cons (ps_set (i := 4) scCaught.nd rfl (.inl rfl) (pe_lst (pa_cons (pe_callB (call_isX (X := cxK X g cdg s H0) (a := a) (pn := pn) hz hf) (by rfl) T.isinstance (by decide +kernel) (pa_cons (pv 2) (pa_cons (pe_bltn (v := .ty "ValueError") (u := .type "ValueError") (by rfl) EK.gV (by decide +kernel) rfl) pa_nil))) (pa_cons (pe_callB (call_isX (X := cxK X g cdg s H0) (a := a) (pn := pn) hz hf) (by rfl) T.isinstance (by decide +kernel) (pa_cons (pv 2) (pa_cons (pe_bltn (v := .ty "LookupError") (u := .type "LookupError") (by rfl) EK.gL (by decide +kernel) rfl) pa_nil))) pa_nil))))
          (pss_cons (ps_expr (pe_bm PySem.F.plainAttrs_list PySem.F.slot_list_append PySem.F.type_list_append mt_append (pv 4) (pa_cons (pe_callB (call_isX (X := cxK X g cdg s H0) (a := a) (pn := pn) hz hf) (by rfl) T.isinstance (by decide +kernel) (pa_cons (pv 2) (pa_cons (pe_bltn (v := .ty "ArithmeticError") (u := .type "ArithmeticError") (by rfl) EK.gA (by decide +kernel) rfl) pa_nil))) pa_nil)))
          (pss_cons (ps_set (i := 5) scCaught.nd rfl (.inl rfl) (pe_lst (pa_cons (pe_callB (call_isX (X := cxK X g cdg s H0) (a := a) (pn := pn) hz hf) (by rfl) T.isinstance (by decide +kernel) (pa_cons (pv 2) (pa_cons (pe_glob (v := .ref C1) (by rfl) EK.m1 rfl) pa_nil))) pa_nil)))
          (pss_cons (ps_expr (pe_bm PySem.F.plainAttrs_list PySem.F.slot_list_append PySem.F.type_list_append mt_append (pv 5) (pa_cons (pe_callB (call_isX (X := cxK X g cdg s H0) (a := a) (pn := pn) hz hf) (by rfl) T.isinstance (by decide +kernel) (pa_cons (pv 2) (pa_cons (pe_glob (v := .ref C2) (by rfl) EK.m2 rfl) pa_nil))) pa_nil)))
          (pss_cons (ps_expr (pe_bm PySem.F.plainAttrs_list PySem.F.slot_list_append PySem.F.type_list_append mt_append (pv 5) (pa_cons (pe_callB (call_isX (X := cxK X g cdg s H0) (a := a) (pn := pn) hz hf) (by rfl) T.isinstance (by decide +kernel) (pa_cons (pv 2) (pa_cons (pe_glob (v := .ref C3) (by rfl) EK.m3 rfl) pa_nil))) pa_nil)))
          (pss_cons (ps_expr (pe_bm PySem.F.plainAttrs_list PySem.F.slot_list_append PySem.F.type_list_append mt_append (pv 5) (pa_cons (pe_callB (call_isX (X := cxK X g cdg s H0) (a := a) (pn := pn) hz hf) (by rfl) T.isinstance (by decide +kernel) (pa_cons (pv 2) (pa_cons (pe_glob (v := .ref C4) (by rfl) EK.m4 rfl) pa_nil))) pa_nil)))
          (pss_cons (ps_expr (pe_bm PySem.F.plainAttrs_list PySem.F.slot_list_append PySem.F.type_list_append mt_append (pv 5) (pa_cons (pe_callB (call_isX (X := cxK X g cdg s H0) (a := a) (pn := pn) hz hf) (by rfl) T.isinstance (by decide +kernel) (pa_cons (pv 2) (pa_cons (pe_glob (v := .ref C5) (by rfl) EK.m5 rfl) pa_nil))) pa_nil)))
          (pss_cons (ps_if (PW.pt (pw_or (pt_cmpR op_ne (pe_bm PySem.F.plainAttrs_list PySem.F.slot_list_count PySem.F.type_list_count mt_lcountB (pv 5) (pa_cons pe_bl pa_nil)) pe_int (nomark _)) (pw_or (pt_cmpR (op_neD (by show X.A.units + 3 + 64 < cLine; omega)) (pv 3) (pv 4) (nomark _)) (pw_or1 (pt_cmpR op_ne (pe_bm PySem.F.plainAttrs_list PySem.F.slot_list_count PySem.F.type_list_count mt_lcountB (pv 3) (pa_cons pe_bl pa_nil)) pe_int (nomark _)))))) (pss_one (ps_ret (pe_lst (pa_cons pe_str pa_nil)))) pss_nil)
          (pss_cons (ps_set (i := 6) scCaught.nd rfl (.inl rfl) (pe_bm PySem.F.plainAttrs_list PySem.F.slot_list_index PySem.F.type_list_index mt_index (pv 5) (pa_cons pe_bl pa_nil)))
          (pss_cons (ps_if (pt_cmpR op_ne (pe_bm PySem.F.plainAttrs_list PySem.F.slot_list_index PySem.F.type_list_index mt_index (pv 3) (pa_cons pe_bl pa_nil)) (pe_ix ix_list (pe_lst (pa_cons pe_int (pa_cons pe_int (pa_cons pe_int (pa_cons pe_int (pa_cons pe_int pa_nil)))))) (pv 6) (fun _ _ => rfl)) (nomark _)) (pss_one (ps_ret (pe_lst (pa_cons pe_str pa_nil)))) pss_nil)
          (pss_cons (ps_if (pt_cmpR op_eq (pv 6) pe_int (nomark _)) (pss_one (ps_ret (pe_lst (pa_cons pe_str (pa_cons (pe_callB hR (by rfl) T.repr (by decide +kernel) (pa_cons (pe_xf EK.e1.xf EK.i1 hz hf (pv 2)) pa_nil)) pa_nil))))) pss_nil)
          (pss_cons (ps_if (pt_cmpR op_eq (pv 6) pe_int (nomark _)) (pss_one (ps_ret (pe_lst (pa_cons pe_str (pa_cons (pe_callB hR (by rfl) T.repr (by decide +kernel) (pa_cons (pe_xf EK.e2.xf EK.i2 hz hf (pv 2)) pa_nil)) pa_nil))))) pss_nil)
          (pss_cons (ps_if (pt_cmpR op_eq (pv 6) pe_int (nomark _)) (pss_one (ps_ret (pe_lst (pa_cons pe_str (pa_cons (pe_callB hR (by rfl) T.repr (by decide +kernel) (pa_cons (pe_xf EK.e3.xf EK.i3 hz hf (pv 2)) pa_nil)) pa_nil))))) pss_nil)
          (pss_cons (ps_if (pt_cmpR op_eq (pv 6) pe_int (nomark _)) (pss_one (ps_ret (pe_lst (pa_cons pe_str (pa_cons (pe_callB hR (by rfl) T.repr (by decide +kernel) (pa_cons (pe_xf EK.e4.xf EK.i4 hz hf (pv 2)) pa_nil)) pa_nil))))) pss_nil)
          (pss_one (ps_if (pt_cmpR op_eq (pv 6) pe_int (nomark _)) (pss_one (ps_ret (pe_lst (pa_cons pe_str (pa_cons (pe_callB hR (by rfl) T.repr (by decide +kernel) (pa_cons (pe_xf EK.e5.xf EK.i5 hz hf (pv 2)) pa_nil)) pa_nil))))) pss_nil)))))))))))))))), ?_⟩
      refine ⟨_, rfl, C1, rfl, eC, _, _, _, dd, _, rfl, rfl, hd, (fun u h => h), k1, _, rfl, C1, rfl, eC, _, _, _, dd, _, rfl, rfl, hd, (fun u h => h), k2, _, rfl, C1, rfl, eC, _, _, _, dd, _, rfl, rfl, hd, (fun u h => h), k3, (by show 3 ≤ sizeLine; decide), fun p3 n3 => ?_⟩
      have s3 : Same H (upd H p3 (.lst [.bl true, .bl false, .bl false])) := same_upd n3
      generalize e3 : upd H p3 (.lst [.bl true, .bl false, .bl false]) = H3 at s3 ⊢
      have h3 : H3 p3 = some (.lst [.bl true, .bl false, .bl false]) := by rw [← e3]; exact upd_same
      clear e3
      have hd3 := s3 _ _ hd
      refine ⟨_, rfl, C1, rfl, eC, _, _, _, dd, _, rfl, rfl, hd3, (fun u h => h), kV, _, rfl, C1, rfl, eC, _, _, _, dd, _, rfl, rfl, hd3, (fun u h => h), kL, (by show 2 ≤ sizeLine; decide), fun p4 n4 => ?_⟩
      have hd4 : upd H3 p4 (.lst [.bl true, .bl false]) dd = some (.xd _) := same_upd n4 _ _ hd3
      refine ⟨_, rfl, .inl ⟨rfl, _, SqL.of upd_same⟩, _, rfl, C1, rfl, eC, _, _, _, dd, _, rfl, rfl, hd4, (fun u h => h), kA, p4, _, _, rfl, rfl, upd_same, (by show 2 < sizeLine; decide), ?_⟩
      have f4 : H p4 = none := same_free s3 n4
      have s4 := grow_keep (H := H3) (p := p4) (xs := [.bl true, .bl false]) (ys := [.bl false])
      generalize e4 : upd (upd H3 p4 (.lst [.bl true, .bl false])) p4 (.lst ([.bl true, .bl false] ++ [.bl false])) = H4 at s4 ⊢
      have h4 : H4 p4 = some (.lst [.bl true, .bl false, .bl false]) := by rw [← e4]; exact upd_same
      clear e4
      have t4 : Same H H4 := fun b o e => s4 b o (ne_of_none e f4) (s3 _ _ e)
      have h43 : H4 p3 = some (.lst [.bl true, .bl false, .bl false]) := s4 _ _ (ne_of_none h3 n4) h3
      have hd5 := t4 _ _ hd
      refine ⟨_, rfl, C1, rfl, eC, _, _, _, dd, _, rfl, rfl, hd5, (fun u h => h), EK.k1_1, (by show 1 ≤ sizeLine; decide), fun p5 n5 => ?_⟩
      have f5 : H p5 = none := same_free t4 n5
      have s5_0 : ∀ b o, b ≠ p5 → H4 b = some o → upd H4 p5 (.lst [.bl true]) b = some o := fun b o n e => by rw [upd_ne n]; exact e
      generalize e5 : upd H4 p5 (.lst [.bl true]) = H5_0 at s5_0 ⊢
      have h5_0 : H5_0 p5 = some (.lst [.bl true]) := by rw [← e5]; exact upd_same
      clear e5
      have hdx1 := s5_0 _ _ (ne_of_none hd5 n5) hd5
      refine ⟨_, rfl, .inl ⟨rfl, _, SqL.of h5_0⟩, _, rfl, C1, rfl, eC, _, _, _, dd, _, rfl, rfl, hdx1, (fun u h => h), EK.k1_2, p5, _, _, rfl, rfl, h5_0, (by show 1 < sizeLine; decide), ?_⟩
      have s5_1 : ∀ b o, b ≠ p5 → H4 b = some o → upd H5_0 p5 (.lst ([.bl true] ++ [.bl false])) b = some o := fun b o n e => by rw [upd_ne n]; exact s5_0 b o n e
      generalize e5 : upd H5_0 p5 (.lst ([.bl true] ++ [.bl false])) = H5_1 at s5_1 ⊢
      have h5_1 : H5_1 p5 = some (.lst [.bl true, .bl false]) := by rw [← e5]; exact upd_same
      clear e5
      have hdx2 := s5_1 _ _ (ne_of_none hd5 n5) hd5
      refine ⟨_, rfl, .inl ⟨rfl, _, SqL.of h5_1⟩, _, rfl, C1, rfl, eC, _, _, _, dd, _, rfl, rfl, hdx2, (fun u h => h), EK.k1_3, p5, _, _, rfl, rfl, h5_1, (by show 2 < sizeLine; decide), ?_⟩
      have s5_2 : ∀ b o, b ≠ p5 → H4 b = some o → upd H5_1 p5 (.lst ([.bl true, .bl false] ++ [.bl false])) b = some o := fun b o n e => by rw [upd_ne n]; exact s5_1 b o n e
      generalize e5 : upd H5_1 p5 (.lst ([.bl true, .bl false] ++ [.bl false])) = H5_2 at s5_2 ⊢
      have h5_2 : H5_2 p5 = some (.lst [.bl true, .bl false, .bl false]) := by rw [← e5]; exact upd_same
      clear e5
      have hdx3 := s5_2 _ _ (ne_of_none hd5 n5) hd5
      refine ⟨_, rfl, .inl ⟨rfl, _, SqL.of h5_2⟩, _, rfl, C1, rfl, eC, _, _, _, dd, _, rfl, rfl, hdx3, (fun u h => h), EK.k1_4, p5, _, _, rfl, rfl, h5_2, (by show 3 < sizeLine; decide), ?_⟩
      have s5_3 : ∀ b o, b ≠ p5 → H4 b = some o → upd H5_2 p5 (.lst ([.bl true, .bl false, .bl false] ++ [.bl false])) b = some o := fun b o n e => by rw [upd_ne n]; exact s5_2 b o n e
      generalize e5 : upd H5_2 p5 (.lst ([.bl true, .bl false, .bl false] ++ [.bl false])) = H5_3 at s5_3 ⊢
      have h5_3 : H5_3 p5 = some (.lst [.bl true, .bl false, .bl false, .bl false]) := by rw [← e5]; exact upd_same
      clear e5
      have hdx4 := s5_3 _ _ (ne_of_none hd5 n5) hd5
      refine ⟨_, rfl, .inl ⟨rfl, _, SqL.of h5_3⟩, _, rfl, C1, rfl, eC, _, _, _, dd, _, rfl, rfl, hdx4, (fun u h => h), EK.k1_5, p5, _, _, rfl, rfl, h5_3, (by show 4 < sizeLine; decide), ?_⟩
      have s5_4 : ∀ b o, b ≠ p5 → H4 b = some o → upd H5_3 p5 (.lst ([.bl true, .bl false, .bl false, .bl false] ++ [.bl false])) b = some o := fun b o n e => by rw [upd_ne n]; exact s5_3 b o n e
      generalize e5 : upd H5_3 p5 (.lst ([.bl true, .bl false, .bl false, .bl false] ++ [.bl false])) = H5_4 at s5_4 ⊢
      have h5_4 : H5_4 p5 = some (.lst [.bl true, .bl false, .bl false, .bl false, .bl false]) := by rw [← e5]; exact upd_same
      clear e5
      have t5 : Same H H5_4 := fun b o e => s5_4 b o (ne_of_none e f5) (t4 _ _ e)
      have h53 : H5_4 p3 = some (.lst [.bl true, .bl false, .bl false]) := s5_4 _ _ (ne_of_none h43 n5) h43
      have h54 : H5_4 p4 = some (.lst [.bl true, .bl false, .bl false]) := s5_4 _ _ (ne_of_none h4 n5) h4
      have dp : ∀ {p : Addr}, H5_4 p = some (.lst [.bl true, .bl false, .bl false]) → Dp X.K H5_4 (.ref p) (.list [.bool true, .bool false, .bool false]) := fun e => .lst (SqL.of e) (.cons (.bl _) (.cons (.bl _) (.cons (.bl _) .nil)))
      refine ⟨_, rfl, .inl ⟨rfl, _, SqL.of h5_4⟩, p5, [true, false, false, false, false], rfl, rfl, SqL.of h5_4, rfl, _, rfl, ?_⟩
      refine iteF ?_
      refine ⟨_, rfl, _, rfl, _, _, dp h53, dp h54, by decide +kernel, by decide +kernel, _, rfl, ?_⟩
      refine iteF ?_
      refine ⟨_, rfl, .inl ⟨rfl, _, SqL.of h53⟩, p3, [true, false, false], rfl, rfl, SqL.of h53, rfl, _, rfl, ?_⟩
      refine iteF ?_
      refine ⟨_, rfl, .inl ⟨rfl, _, SqL.of h5_4⟩, p5, _, _, 0, .bl true, rfl, rfl, SqL.of h5_4, rfl, rfl, rfl, rfl, (fun m z hm => absurd hm (Nat.not_lt_zero m)), ?_⟩
      refine ⟨_, rfl, .inl ⟨rfl, _, SqL.of h53⟩, p3, _, _, 0, .bl true, rfl, rfl, SqL.of h53, rfl, rfl, rfl, rfl, (fun m z hm => absurd hm (Nat.not_lt_zero m)), (by show 5 ≤ sizeLine; decide), fun p7 n7 => ?_⟩
      have s7 : Same H5_4 (upd H5_4 p7 (.lst [.int 0, .int 0, .int 2, .int 2, .int 0])) := same_upd n7
      refine ⟨_, rfl, p7, _, _, .int 0, rfl, rfl, SqL.of upd_same, atI_nat (j := 0) rfl, rfl, _, rfl, ?_⟩
      generalize upd H5_4 p7 (.lst [.int 0, .int 0, .int 2, .int 2, .int 0]) = H7 at s7 ⊢
      have t7 : Same H H7 := t5.trans s7
      refine iteF ?_
      refine ⟨_, rfl, rfl, _, rfl, ?_⟩
      refine iteT ?_
      refine ⟨_, rfl, rfl, rfl, dd, _, v, rfl, t7 _ _ hd, rfl, v, txt, rfl, hS _ _ _ _ t7 hsd, (by show 2 ≤ sizeLine; decide), fun p n => ?_⟩
      exact q p _ (same_free t7 n) (t7.trans (same_upd n)) upd_same
    · have eC := EK.e2.ec
      have k1 : PySem.W.kitOne X.K (.ref C2) (.ref S1) = some true := EK.e2.k1
      have k2 : PySem.W.kitOne X.K (.ref C2) (.ref S2) = some false := EK.e2.k2
      have k3 : PySem.W.kitOne X.K (.ref C2) (.ref S3) = some false := EK.e2.k3
      have kV : PySem.W.kitOne X.K (.ref C2) (.type "ValueError") = some true := EK.e2.kV
      have kL : PySem.W.kitOne X.K (.ref C2) (.type "LookupError") = some false := EK.e2.kL
      have kA : PySem.W.kitOne X.K (.ref C2) (.type "ArithmeticError") = some false := EK.e2.kA
      refine ⟨_, pss_cons (ps_set (i := 3) scCaught.nd rfl (.inl rfl) (pe_lst (pa_cons (pe_callB (call_isX (X := cxK X g cdg s H0) (a := a) (pn := pn) hz hf) (by rfl) T.isinstance (by decide +kernel) (pa_cons (pv 2) (pa_cons (pe_glob (v := .ref S1) (by rfl) EK.g1 rfl) pa_nil))) (pa_cons (pe_callB (call_isX (X := cxK X g cdg s H0) (a := a) (pn := pn) hz hf) (by rfl) T.isinstance (by decide +kernel) (pa_cons (pv 2) (pa_cons (pe_glob (v := .ref S2) (by rfl) EK.g2 rfl) pa_nil))) (pa_cons (pe_callB (call_isX (X := cxK X g cdg s H0) (a := a) (pn := pn) hz hf) (by rfl) T.isinstance (by decide +kernel) (pa_cons (pv 2) (pa_cons (pe_glob (v := .ref S3) (by rfl) EK.g3 rfl) pa_nil))) pa_nil)))))
          (pss_cons (ps_set (i := 4) scCaught.nd rfl (.inl rfl) (pe_lst (pa_cons (pe_callB (call_isX (X := cxK X g cdg s H0) (a := a) (pn := pn) hz hf) (by rfl) T.isinstance (by decide +kernel) (pa_cons (pv 2) (pa_cons (pe_bltn (v := .ty "ValueError") (u := .type "ValueError") (by rfl) EK.gV (by decide +kernel) rfl) pa_nil))) (pa_cons (pe_callB (call_isX (X := cxK X g cdg s H0) (a := a) (pn := pn) hz hf) (by rfl) T.isinstance (by decide +kernel) (pa_cons (pv 2) (pa_cons (pe_bltn (v := .ty "LookupError") (u := .type "LookupError") (by rfl) EK.gL (by decide +kernel) rfl) pa_nil))) pa_nil))))
          (pss_cons (ps_expr (pe_bm PySem.F.plainAttrs_list PySem.F.slot_list_append PySem.F.type_list_append mt_append (pv 4) (pa_cons (pe_callB (call_isX (X := cxK X g cdg s H0) (a := a) (pn := pn) hz hf) (by rfl) T.isinstance (by decide +kernel) (pa_cons (pv 2) (pa_cons (pe_bltn (v := .ty "ArithmeticError") (u := .type "ArithmeticError") (by rfl) EK.gA (by decide +kernel) rfl) pa_nil))) pa_nil)))
          (pss_cons (ps_set (i := 5) scCaught.nd rfl (.inl rfl) (pe_lst (pa_cons (pe_callB (call_isX (X := cxK X g cdg s H0) (a := a) (pn := pn) hz hf) (by rfl) T.isinstance (by decide +kernel) (pa_cons (pv 2) (pa_cons (pe_glob (v := .ref C1) (by rfl) EK.m1 rfl) pa_nil))) pa_nil)))
          (pss_cons (ps_expr (pe_bm PySem.F.plainAttrs_list PySem.F.slot_list_append PySem.F.type_list_append mt_append (pv 5) (pa_cons (pe_callB (call_isX (X := cxK X g cdg s H0) (a := a) (pn := pn) hz hf) (by rfl) T.isinstance (by decide +kernel) (pa_cons (pv 2) (pa_cons (pe_glob (v := .ref C2) (by rfl) EK.m2 rfl) pa_nil))) pa_nil)))
          (pss_cons (ps_expr (pe_bm PySem.F.plainAttrs_list PySem.F.slot_list_append PySem.F.type_list_append mt_append (pv 5) (pa_cons (pe_callB (call_isX (X := cxK X g cdg s H0) (a := a) (pn := pn) hz hf) (by rfl) T.isinstance (by decide +kernel) (pa_cons (pv 2) (pa_cons (pe_glob (v := .ref C3) (by rfl) EK.m3 rfl) pa_nil))) pa_nil)))
          (pss_cons (ps_expr (pe_bm PySem.F.plainAttrs_list PySem.F.slot_list_append PySem.F.type_list_append mt_append (pv 5) (pa_cons (pe_callB (call_isX (X := cxK X g cdg s H0) (a := a) (pn := pn) hz hf) (by rfl) T.isinstance (by decide +kernel) (pa_cons (pv 2) (pa_cons (pe_glob (v := .ref C4) (by rfl) EK.m4 rfl) pa_nil))) pa_nil)))
          (pss_cons (ps_expr (pe_bm PySem.F.plainAttrs_list PySem.F.slot_list_append PySem.F.type_list_append mt_append (pv 5) (pa_cons (pe_callB (call_isX (X := cxK X g cdg s H0) (a := a) (pn := pn) hz hf) (by rfl) T.isinstance (by decide +kernel) (pa_cons (pv 2) (pa_cons (pe_glob (v := .ref C5) (by rfl) EK.m5 rfl) pa_nil))) pa_nil)))
          (pss_cons (ps_if (PW.pt (pw_or (pt_cmpR op_ne (pe_bm PySem.F.plainAttrs_list PySem.F.slot_list_count PySem.F.type_list_count mt_lcountB (pv 5) (pa_cons pe_bl pa_nil)) pe_int (nomark _)) (pw_or (pt_cmpR (op_neD (by show X.A.units + 3 + 64 < cLine; omega)) (pv 3) (pv 4) (nomark _)) (pw_or1 (pt_cmpR op_ne (pe_bm PySem.F.plainAttrs_list PySem.F.slot_list_count PySem.F.type_list_count mt_lcountB (pv 3) (pa_cons pe_bl pa_nil)) pe_int (nomark _)))))) (pss_one (ps_ret (pe_lst (pa_cons pe_str pa_nil)))) pss_nil)
          (pss_cons (ps_set (i := 6) scCaught.nd rfl (.inl rfl) (pe_bm PySem.F.plainAttrs_list PySem.F.slot_list_index PySem.F.type_list_index mt_index (pv 5) (pa_cons pe_bl pa_nil)))
          (pss_cons (ps_if (pt_cmpR op_ne (pe_bm PySem.F.plainAttrs_list PySem.F.slot_list_index PySem.F.type_list_index mt_index (pv 3) (pa_cons pe_bl pa_nil)) (pe_ix ix_list (pe_lst (pa_cons pe_int (pa_cons pe_int (pa_cons pe_int (pa_cons pe_int (pa_cons pe_int pa_nil)))))) (pv 6) (fun _ _ => rfl)) (nomark _)) (pss_one (ps_ret (pe_lst (pa_cons pe_str pa_nil)))) pss_nil)
          (pss_cons (ps_if (pt_cmpR op_eq (pv 6) pe_int (nomark _)) (pss_one (ps_ret (pe_lst (pa_cons pe_str (pa_cons (pe_callB hR (by rfl) T.repr (by decide +kernel) (pa_cons (pe_xf EK.e1.xf EK.i1 hz hf (pv 2)) pa_nil)) pa_nil))))) pss_nil)
          (pss_cons (ps_if (pt_cmpR op_eq (pv 6) pe_int (nomark _)) (pss_one (ps_ret (pe_lst (pa_cons pe_str (pa_cons (pe_callB hR (by rfl) T.repr (by decide +kernel) (pa_cons (pe_xf EK.e2.xf EK.i2 hz hf (pv 2)) pa_nil)) pa_nil))))) pss_nil)
          (pss_cons (ps_if (pt_cmpR op_eq (pv 6) pe_int (nomark _)) (pss_one (ps_ret (pe_lst (pa_cons pe_str (pa_cons (pe_callB hR (by rfl) T.repr (by decide +kernel) (pa_cons (pe_xf EK.e3.xf EK.i3 hz hf (pv 2)) pa_nil)) pa_nil))))) pss_nil)
          (pss_cons (ps_if (pt_cmpR op_eq (pv 6) pe_int (nomark _)) (pss_one (ps_ret (pe_lst (pa_cons pe_str (pa_cons (pe_callB hR (by rfl) T.repr (by decide +kernel) (pa_cons (pe_xf EK.e4.xf EK.i4 hz hf (pv 2)) pa_nil)) pa_nil))))) pss_nil)
          (pss_one (ps_if (pt_cmpR op_eq (pv 6) pe_int (nomark _)) (pss_one (ps_ret (pe_lst (pa_cons pe_str (pa_cons (pe_callB hR (by rfl) T.repr (by decide +kernel) (pa_cons (pe_xf EK.e5.xf EK.i5 hz hf (pv 2)) pa_nil)) pa_nil))))) pss_nil)))))))))))))))), ?_⟩
      refine ⟨_, rfl, C2, rfl, eC, _, _, _, dd, _, rfl, rfl, hd, (fun u h => h), k1, _, rfl, C2, rfl, eC, _, _, _, dd, _, rfl, rfl, hd, (fun u h => h), k2, _, rfl, C2, rfl, eC, _, _, _, dd, _, rfl, rfl, hd, (fun u h => h), k3, (by show 3 ≤ sizeLine; decide), fun p3 n3 => ?_⟩
      have s3 : Same H (upd H p3 (.lst [.bl true, .bl false, .bl false])) := same_upd n3
      generalize e3 : upd H p3 (.lst [.bl true, .bl false, .bl false]) = H3 at s3 ⊢
      have h3 : H3 p3 = some (.lst [.bl true, .bl false, .bl false]) := by rw [← e3]; exact upd_same
      clear e3
      have hd3 := s3 _ _ hd
      refine ⟨_, rfl, C2, rfl, eC, _, _, _, dd, _, rfl, rfl, hd3, (fun u h => h), kV, _, rfl, C2, rfl, eC, _, _, _, dd, _, rfl, rfl, hd3, (fun u h => h), kL, (by show 2 ≤ sizeLine; decide), fun p4 n4 => ?_⟩
      have hd4 : upd H3 p4 (.lst [.bl true, .bl false]) dd = some (.xd _) := same_upd n4 _ _ hd3
      refine ⟨_, rfl, .inl ⟨rfl, _, SqL.of upd_same⟩, _, rfl, C2, rfl, eC, _, _, _, dd, _, rfl, rfl, hd4, (fun u h => h), kA, p4, _, _, rfl, rfl, upd_same, (by show 2 < sizeLine; decide), ?_⟩
      have f4 : H p4 = none := same_free s3 n4
      have s4 := grow_keep (H := H3) (p := p4) (xs := [.bl true, .bl false]) (ys := [.bl false])
      generalize e4 : upd (upd H3 p4 (.lst [.bl true, .bl false])) p4 (.lst ([.bl true, .bl false] ++ [.bl false])) = H4 at s4 ⊢
      have h4 : H4 p4 = some (.lst [.bl true, .bl false, .bl false]) := by rw [← e4]; exact upd_same
      clear e4
      have t4 : Same H H4 := fun b o e => s4 b o (ne_of_none e f4) (s3 _ _ e)
      have h43 : H4 p3 = some (.lst [.bl true, .bl false, .bl false]) := s4 _ _ (ne_of_none h3 n4) h3
      have hd5 := t4 _ _ hd
      refine ⟨_, rfl, C2, rfl, eC, _, _, _, dd, _, rfl, rfl, hd5, (fun u h => h), EK.k2_1, (by show 1 ≤ sizeLine; decide), fun p5 n5 => ?_⟩
      have f5 : H p5 = none := same_free t4 n5
      have s5_0 : ∀ b o, b ≠ p5 → H4 b = some o → upd H4 p5 (.lst [.bl false]) b = some o := fun b o n e => by rw [upd_ne n]; exact e
      generalize e5 : upd H4 p5 (.lst [.bl false]) = H5_0 at s5_0 ⊢
      have h5_0 : H5_0 p5 = some (.lst [.bl false]) := by rw [← e5]; exact upd_same
      clear e5
      have hdx1 := s5_0 _ _ (ne_of_none hd5 n5) hd5
      refine ⟨_, rfl, .inl ⟨rfl, _, SqL.of h5_0⟩, _, rfl, C2, rfl, eC, _, _, _, dd, _, rfl, rfl, hdx1, (fun u h => h), EK.k2_2, p5, _, _, rfl, rfl, h5_0, (by show 1 < sizeLine; decide), ?_⟩
      have s5_1 : ∀ b o, b ≠ p5 → H4 b = some o → upd H5_0 p5 (.lst ([.bl false] ++ [.bl true])) b = some o := fun b o n e => by rw [upd_ne n]; exact s5_0 b o n e
      generalize e5 : upd H5_0 p5 (.lst ([.bl false] ++ [.bl true])) = H5_1 at s5_1 ⊢
      have h5_1 : H5_1 p5 = some (.lst [.bl false, .bl true]) := by rw [← e5]; exact upd_same
      clear e5
      have hdx2 := s5_1 _ _ (ne_of_none hd5 n5) hd5
      refine ⟨_, rfl, .inl ⟨rfl, _, SqL.of h5_1⟩, _, rfl, C2, rfl, eC, _, _, _, dd, _, rfl, rfl, hdx2, (fun u h => h), EK.k2_3, p5, _, _, rfl, rfl, h5_1, (by show 2 < sizeLine; decide), ?_⟩
      have s5_2 : ∀ b o, b ≠ p5 → H4 b = some o → upd H5_1 p5 (.lst ([.bl false, .bl true] ++ [.bl false])) b = some o := fun b o n e => by rw [upd_ne n]; exact s5_1 b o n e
      generalize e5 : upd H5_1 p5 (.lst ([.bl false, .bl true] ++ [.bl false])) = H5_2 at s5_2 ⊢
      have h5_2 : H5_2 p5 = some (.lst [.bl false, .bl true, .bl false]) := by rw [← e5]; exact upd_same
      clear e5
      have hdx3 := s5_2 _ _ (ne_of_none hd5 n5) hd5
      refine ⟨_, rfl, .inl ⟨rfl, _, SqL.of h5_2⟩, _, rfl, C2, rfl, eC, _, _, _, dd, _, rfl, rfl, hdx3, (fun u h => h), EK.k2_4, p5, _, _, rfl, rfl, h5_2, (by show 3 < sizeLine; decide), ?_⟩
      have s5_3 : ∀ b o, b ≠ p5 → H4 b = some o → upd H5_2 p5 (.lst ([.bl false, .bl true, .bl false] ++ [.bl false])) b = some o := fun b o n e => by rw [upd_ne n]; exact s5_2 b o n e
      generalize e5 : upd H5_2 p5 (.lst ([.bl false, .bl true, .bl false] ++ [.bl false])) = H5_3 at s5_3 ⊢
      have h5_3 : H5_3 p5 = some (.lst [.bl false, .bl true, .bl false, .bl false]) := by rw [← e5]; exact upd_same
      clear e5
      have hdx4 := s5_3 _ _ (ne_of_none hd5 n5) hd5
      refine ⟨_, rfl, .inl ⟨rfl, _, SqL.of h5_3⟩, _, rfl, C2, rfl, eC, _, _, _, dd, _, rfl, rfl, hdx4, (fun u h => h), EK.k2_5, p5, _, _, rfl, rfl, h5_3, (by show 4 < sizeLine; decide), ?_⟩
      have s5_4 : ∀ b o, b ≠ p5 → H4 b = some o → upd H5_3 p5 (.lst ([.bl false, .bl true, .bl false, .bl false] ++ [.bl false])) b = some o := fun b o n e => by rw [upd_ne n]; exact s5_3 b o n e
      generalize e5 : upd H5_3 p5 (.lst ([.bl false, .bl true, .bl false, .bl false] ++ [.bl false])) = H5_4 at s5_4 ⊢
      have h5_4 : H5_4 p5 = some (.lst [.bl false, .bl true, .bl false, .bl false, .bl false]) := by rw [← e5]; exact upd_same
      clear e5
      have t5 : Same H H5_4 := fun b o e => s5_4 b o (ne_of_none e f5) (t4 _ _ e)
      have h53 : H5_4 p3 = some (.lst [.bl true, .bl false, .bl false]) := s5_4 _ _ (ne_of_none h43 n5) h43
      have h54 : H5_4 p4 = some (.lst [.bl true, .bl false, .bl false]) := s5_4 _ _ (ne_of_none h4 n5) h4
      have dp : ∀ {p : Addr}, H5_4 p = some (.lst [.bl true, .bl false, .bl false]) → Dp X.K H5_4 (.ref p) (.list [.bool true, .bool false, .bool false]) := fun e => .lst (SqL.of e) (.cons (.bl _) (.cons (.bl _) (.cons (.bl _) .nil)))
      refine ⟨_, rfl, .inl ⟨rfl, _, SqL.of h5_4⟩, p5, [false, true, false, false, false], rfl, rfl, SqL.of h5_4, rfl, _, rfl, ?_⟩
      refine iteF ?_
      refine ⟨_, rfl, _, rfl, _, _, dp h53, dp h54, by decide +kernel, by decide +kernel, _, rfl, ?_⟩
      refine iteF ?_
      refine ⟨_, rfl, .inl ⟨rfl, _, SqL.of h53⟩, p3, [true, false, false], rfl, rfl, SqL.of h53, rfl, _, rfl, ?_⟩
      refine iteF ?_
      refine ⟨_, rfl, .inl ⟨rfl, _, SqL.of h5_4⟩, p5, _, _, 1, .bl true, rfl, rfl, SqL.of h5_4, rfl, rfl, rfl, rfl, (fun m z hm hz => first_at (bs := [false, true, false, false, false]) (n := 1) (by decide) hm hz), ?_⟩
      refine ⟨_, rfl, .inl ⟨rfl, _, SqL.of h53⟩, p3, _, _, 0, .bl true, rfl, rfl, SqL.of h53, rfl, rfl, rfl, rfl, (fun m z hm => absurd hm (Nat.not_lt_zero m)), (by show 5 ≤ sizeLine; decide), fun p7 n7 => ?_⟩
      have s7 : Same H5_4 (upd H5_4 p7 (.lst [.int 0, .int 0, .int 2, .int 2, .int 0])) := same_upd n7
      refine ⟨_, rfl, p7, _, _, .int 0, rfl, rfl, SqL.of upd_same, atI_nat (j := 1) rfl, rfl, _, rfl, ?_⟩
      generalize upd H5_4 p7 (.lst [.int 0, .int 0, .int 2, .int 2, .int 0]) = H7 at s7 ⊢
      have t7 : Same H H7 := t5.trans s7
      refine iteF ?_
      refine ⟨_, rfl, rfl, _, rfl, ?_⟩
      refine iteF ?_
      refine ⟨_, rfl, rfl, _, rfl, ?_⟩
      refine iteT ?_
      refine ⟨_, rfl, rfl, rfl, dd, _, v, rfl, t7 _ _ hd, rfl, v, txt, rfl, hS _ _ _ _ t7 hsd, (by show 2 ≤ sizeLine; decide), fun p n => ?_⟩
      exact q p _ (same_free t7 n) (t7.trans (same_upd n)) upd_same
    · have eC := EK.e3.ec
      have k1 : PySem.W.kitOne X.K (.ref C3) (.ref S1) = some false := EK.e3.k1
      have k2 : PySem.W.kitOne X.K (.ref C3) (.ref S2) = some false := EK.e3.k2
      have k3 : PySem.W.kitOne X.K (.ref C3) (.ref S3) = some true := EK.e3.k3
      have kV : PySem.W.kitOne X.K (.ref C3) (.type "ValueError") = some false := EK.e3.kV
      have kL : PySem.W.kitOne X.K (.ref C3) (.type "LookupError") = some false := EK.e3.kL
      have kA : PySem.W.kitOne X.K (.ref C3) (.type "ArithmeticError") = some true := EK.e3.kA
      refine ⟨_, pss_cons (ps_set (i := 3) scCaught.nd rfl (.inl rfl) (pe_lst (pa_cons (pe_callB (call_isX (X := cxK X g cdg s H0) (a := a) (pn := pn) hz hf) (by rfl) T.isinstance (by decide +kernel) (pa_cons (pv 2) (pa_cons (pe_glob (v := .ref S1) (by rfl) EK.g1 rfl) pa_nil))) (pa_cons (pe_callB (call_isX (X := cxK X g cdg s H0) (a := a) (pn := pn) hz hf) (by rfl) T.isinstance (by decide +kernel) (pa_cons (pv 2) (pa_cons (pe_glob (v := .ref S2) (by rfl) EK.g2 rfl) pa_nil))) (pa_cons (pe_callB (call_isX (X := cxK X g cdg s H0) (a := a) (pn := pn) hz hf) (by rfl) T.isinstance (by decide +kernel) (pa_cons (pv 2) (pa_cons (pe_glob (v := .ref S3) (by rfl) EK.g3 rfl) pa_nil))) pa_nil)))))
          (pss_cons (ps_set (i := 4) scCaught.nd rfl (.inl rfl) (pe_lst (pa_cons (pe_callB (call_isX (X := cxK X g cdg s H0) (a := a) (pn := pn) hz hf) (by rfl) T.isinstance (by decide +kernel) (pa_cons (pv 2) (pa_cons (pe_bltn (v := .ty "ValueError") (u := .type "ValueError") (by rfl) EK.gV (by decide +kernel) rfl) pa_nil))) (pa_cons (pe_callB (call_isX (X := cxK X g cdg s H0) (a := a) (pn := pn) hz hf) (by rfl) T.isinstance (by decide +kernel) (pa_cons (pv 2) (pa_cons (pe_bltn (v := .ty "LookupError") (u := .type "LookupError") (by rfl) EK.gL (by decide +kernel) rfl) pa_nil))) pa_nil))))
          (pss_cons (ps_expr (pe_bm PySem.F.plainAttrs_list PySem.F.slot_list_append PySem.F.type_list_append mt_append (pv 4) (pa_cons (pe_callB (call_isX (X := cxK X g cdg s H0) (a := a) (pn := pn) hz hf) (by rfl) T.isinstance (by decide +kernel) (pa_cons (pv 2) (pa_cons (pe_bltn (v := .ty "ArithmeticError") (u := .type "ArithmeticError") (by rfl) EK.gA (by decide +kernel) rfl) pa_nil))) pa_nil)))
          (pss_cons (ps_set (i := 5) scCaught.nd rfl (.inl rfl) (pe_lst (pa_cons (pe_callB (call_isX (X := cxK X g cdg s H0) (a := a) (pn := pn) hz hf) (by rfl) T.isinstance (by decide +kernel) (pa_cons (pv 2) (pa_cons (pe_glob (v := .ref C1) (by rfl) EK.m1 rfl) pa_nil))) pa_nil)))
          (pss_cons (ps_expr (pe_bm PySem.F.plainAttrs_list PySem.F.slot_list_append PySem.F.type_list_append mt_append (pv 5) (pa_cons (pe_callB (call_isX (X := cxK X g cdg s H0) (a := a) (pn := pn) hz hf) (by rfl) T.isinstance (by decide +kernel) (pa_cons (pv 2) (pa_cons (pe_glob (v := .ref C2) (by rfl) EK.m2 rfl) pa_nil))) pa_nil)))
          (pss_cons (ps_expr (pe_bm PySem.F.plainAttrs_list PySem.F.slot_list_append PySem.F.type_list_append mt_append (pv 5) (pa_cons (pe_callB (call_isX (X := cxK X g cdg s H0) (a := a) (pn := pn) hz hf) (by rfl) T.isinstance (by decide +kernel) (pa_cons (pv 2) (pa_cons (pe_glob (v := .ref C3) (by rfl) EK.m3 rfl) pa_nil))) pa_nil)))
          (pss_cons (ps_expr (pe_bm PySem.F.plainAttrs_list PySem.F.slot_list_append PySem.F.type_list_append mt_append (pv 5) (pa_cons (pe_callB (call_isX (X := cxK X g cdg s H0) (a := a) (pn := pn) hz hf) (by rfl) T.isinstance (by decide +kernel) (pa_cons (pv 2) (pa_cons (pe_glob (v := .ref C4) (by rfl) EK.m4 rfl) pa_nil))) pa_nil)))
          (pss_cons (ps_expr (pe_bm PySem.F.plainAttrs_list PySem.F.slot_list_append PySem.F.type_list_append mt_append (pv 5) (pa_cons (pe_callB (call_isX (X := cxK X g cdg s H0) (a := a) (pn := pn) hz hf) (by rfl) T.isinstance (by decide +kernel) (pa_cons (pv 2) (pa_cons (pe_glob (v := .ref C5) (by rfl) EK.m5 rfl) pa_nil))) pa_nil)))
          (pss_cons (ps_if (PW.pt (pw_or (pt_cmpR op_ne (pe_bm PySem.F.plainAttrs_list PySem.F.slot_list_count PySem.F.type_list_count mt_lcountB (pv 5) (pa_cons pe_bl pa_nil)) pe_int (nomark _)) (pw_or (pt_cmpR (op_neD (by show X.A.units + 3 + 64 < cLine; omega)) (pv 3) (pv 4) (nomark _)) (pw_or1 (pt_cmpR op_ne (pe_bm PySem.F.plainAttrs_list PySem.F.slot_list_count PySem.F.type_list_count mt_lcountB (pv 3) (pa_cons pe_bl pa_nil)) pe_int (nomark _)))))) (pss_one (ps_ret (pe_lst (pa_cons pe_str pa_nil)))) pss_nil)
          (pss_cons (ps_set (i := 6) scCaught.nd rfl (.inl rfl) (pe_bm PySem.F.plainAttrs_list PySem.F.slot_list_index PySem.F.type_list_index mt_index (pv 5) (pa_cons pe_bl pa_nil)))
          (pss_cons (ps_if (pt_cmpR op_ne (pe_bm PySem.F.plainAttrs_list PySem.F.slot_list_index PySem.F.type_list_index mt_index (pv 3) (pa_cons pe_bl pa_nil)) (pe_ix ix_list (pe_lst (pa_cons pe_int (pa_cons pe_int (pa_cons pe_int (pa_cons pe_int (pa_cons pe_int pa_nil)))))) (pv 6) (fun _ _ => rfl)) (nomark _)) (pss_one (ps_ret (pe_lst (pa_cons pe_str pa_nil)))) pss_nil)
          (pss_cons (ps_if (pt_cmpR op_eq (pv 6) pe_int (nomark _)) (pss_one (ps_ret (pe_lst (pa_cons pe_str (pa_cons (pe_callB hR (by rfl) T.repr (by decide +kernel) (pa_cons (pe_xf EK.e1.xf EK.i1 hz hf (pv 2)) pa_nil)) pa_nil))))) pss_nil)
          (pss_cons (ps_if (pt_cmpR op_eq (pv 6) pe_int (nomark _)) (pss_one (ps_ret (pe_lst (pa_cons pe_str (pa_cons (pe_callB hR (by rfl) T.repr (by decide +kernel) (pa_cons (pe_xf EK.e2.xf EK.i2 hz hf (pv 2)) pa_nil)) pa_nil))))) pss_nil)
          (pss_cons (ps_if (pt_cmpR op_eq (pv 6) pe_int (nomark _)) (pss_one (ps_ret (pe_lst (pa_cons pe_str (pa_cons (pe_callB hR (by rfl) T.repr (by decide +kernel) (pa_cons (pe_xf EK.e3.xf EK.i3 hz hf (pv 2)) pa_nil)) pa_nil))))) pss_nil)
          (pss_cons (ps_if (pt_cmpR op_eq (pv 6) pe_int (nomark _)) (pss_one (ps_ret (pe_lst (pa_cons pe_str (pa_cons (pe_callB hR (by rfl) T.repr (by decide +kernel) (pa_cons (pe_xf EK.e4.xf EK.i4 hz hf (pv 2)) pa_nil)) pa_nil))))) pss_nil)
          (pss_one (ps_if (pt_cmpR op_eq (pv 6) pe_int (nomark _)) (pss_one (ps_ret (pe_lst (pa_cons pe_str (pa_cons (pe_callB hR (by rfl) T.repr (by decide +kernel) (pa_cons (pe_xf EK.e5.xf EK.i5 hz hf (pv 2)) pa_nil)) pa_nil))))) pss_nil)))))))))))))))), ?_⟩
      refine ⟨_, rfl, C3, rfl, eC, _, _, _, dd, _, rfl, rfl, hd, (fun u h => h), k1, _, rfl, C3, rfl, eC, _, _, _, dd, _, rfl, rfl, hd, (fun u h => h), k2, _, rfl, C3, rfl, eC, _, _, _, dd, _, rfl, rfl, hd, (fun u h => h), k3, (by show 3 ≤ sizeLine; decide), fun p3 n3 => ?_⟩
      have s3 : Same H (upd H p3 (.lst [.bl false, .bl false, .bl true])) := same_upd n3
      generalize e3 : upd H p3 (.lst [.bl false, .bl false, .bl true]) = H3 at s3 ⊢
      have h3 : H3 p3 = some (.lst [.bl false, .bl false, .bl true]) := by rw [← e3]; exact upd_same
      clear e3
      have hd3 := s3 _ _ hd
      refine ⟨_, rfl, C3, rfl, eC, _, _, _, dd, _, rfl, rfl, hd3, (fun u h => h), kV, _, rfl, C3, rfl, eC, _, _, _, dd, _, rfl, rfl, hd3, (fun u h => h), kL, (by show 2 ≤ sizeLine; decide), fun p4 n4 => ?_⟩
      have hd4 : upd H3 p4 (.lst [.bl false, .bl false]) dd = some (.xd _) := same_upd n4 _ _ hd3
      refine ⟨_, rfl, .inl ⟨rfl, _, SqL.of upd_same⟩, _, rfl, C3, rfl, eC, _, _, _, dd, _, rfl, rfl, hd4, (fun u h => h), kA, p4, _, _, rfl, rfl, upd_same, (by show 2 < sizeLine; decide), ?_⟩
      have f4 : H p4 = none := same_free s3 n4
      have s4 := grow_keep (H := H3) (p := p4) (xs := [.bl false, .bl false]) (ys := [.bl true])
      generalize e4 : upd (upd H3 p4 (.lst [.bl false, .bl false])) p4 (.lst ([.bl false, .bl false] ++ [.bl true])) = H4 at s4 ⊢
      have h4 : H4 p4 = some (.lst [.bl false, .bl false, .bl true]) := by rw [← e4]; exact upd_same
      clear e4
      have t4 : Same H H4 := fun b o e => s4 b o (ne_of_none e f4) (s3 _ _ e)
      have h43 : H4 p3 = some (.lst [.bl false, .bl false, .bl true]) := s4 _ _ (ne_of_none h3 n4) h3
      have hd5 := t4 _ _ hd
      refine ⟨_, rfl, C3, rfl, eC, _, _, _, dd, _, rfl, rfl, hd5, (fun u h => h), EK.k3_1, (by show 1 ≤ sizeLine; decide), fun p5 n5 => ?_⟩
      have f5 : H p5 = none := same_free t4 n5
      have s5_0 : ∀ b o, b ≠ p5 → H4 b = some o → upd H4 p5 (.lst [.bl false]) b = some o := fun b o n e => by rw [upd_ne n]; exact e
      generalize e5 : upd H4 p5 (.lst [.bl false]) = H5_0 at s5_0 ⊢
      have h5_0 : H5_0 p5 = some (.lst [.bl false]) := by rw [← e5]; exact upd_same
      clear e5
      have hdx1 := s5_0 _ _ (ne_of_none hd5 n5) hd5
      refine ⟨_, rfl, .inl ⟨rfl, _, SqL.of h5_0⟩, _, rfl, C3, rfl, eC, _, _, _, dd, _, rfl, rfl, hdx1, (fun u h => h), EK.k3_2, p5, _, _, rfl, rfl, h5_0, (by show 1 < sizeLine; decide), ?_⟩
      have s5_1 : ∀ b o, b ≠ p5 → H4 b = some o → upd H5_0 p5 (.lst ([.bl false] ++ [.bl false])) b = some o := fun b o n e => by rw [upd_ne n]; exact s5_0 b o n e
      generalize e5 : upd H5_0 p5 (.lst ([.bl false] ++ [.bl false])) = H5_1 at s5_1 ⊢
      have h5_1 : H5_1 p5 = some (.lst [.bl false, .bl false]) := by rw [← e5]; exact upd_same
      clear e5
      have hdx2 := s5_1 _ _ (ne_of_none hd5 n5) hd5
      refine ⟨_, rfl, .inl ⟨rfl, _, SqL.of h5_1⟩, _, rfl, C3, rfl, eC, _, _, _, dd, _, rfl, rfl, hdx2, (fun u h => h), EK.k3_3, p5, _, _, rfl, rfl, h5_1, (by show 2 < sizeLine; decide), ?_⟩
      have s5_2 : ∀ b o, b ≠ p5 → H4 b = some o → upd H5_1 p5 (.lst ([.bl false, .bl false] ++ [.bl true])) b = some o := fun b o n e => by rw [upd_ne n]; exact s5_1 b o n e
      generalize e5 : upd H5_1 p5 (.lst ([.bl false, .bl false] ++ [.bl true])) = H5_2 at s5_2 ⊢
      have h5_2 : H5_2 p5 = some (.lst [.bl false, .bl false, .bl true]) := by rw [← e5]; exact upd_same
      clear e5
      have hdx3 := s5_2 _ _ (ne_of_none hd5 n5) hd5
      refine ⟨_, rfl, .inl ⟨rfl, _, SqL.of h5_2⟩, _, rfl, C3, rfl, eC, _, _, _, dd, _, rfl, rfl, hdx3, (fun u h => h), EK.k3_4, p5, _, _, rfl, rfl, h5_2, (by show 3 < sizeLine; decide), ?_⟩
      have s5_3 : ∀ b o, b ≠ p5 → H4 b = some o → upd H5_2 p5 (.lst ([.bl false, .bl false, .bl true] ++ [.bl false])) b = some o := fun b o n e => by rw [upd_ne n]; exact s5_2 b o n e
      generalize e5 : upd H5_2 p5 (.lst ([.bl false, .bl false, .bl true] ++ [.bl false])) = H5_3 at s5_3 ⊢
      have h5_3 : H5_3 p5 = some (.lst [.bl false, .bl false, .bl true, .bl false]) := by rw [← e5]; exact upd_same
      clear e5
      have hdx4 := s5_3 _ _ (ne_of_none hd5 n5) hd5
      refine ⟨_, rfl, .inl ⟨rfl, _, SqL.of h5_3⟩, _, rfl, C3, rfl, eC, _, _, _, dd, _, rfl, rfl, hdx4, (fun u h => h), EK.k3_5, p5, _, _, rfl, rfl, h5_3, (by show 4 < sizeLine; decide), ?_⟩
      have s5_4 : ∀ b o, b ≠ p5 → H4 b = some o → upd H5_3 p5 (.lst ([.bl false, .bl false, .bl true, .bl false] ++ [.bl false])) b = some o := fun b o n e => by rw [upd_ne n]; exact s5_3 b o n e
      generalize e5 : upd H5_3 p5 (.lst ([.bl false, .bl false, .bl true, .bl false] ++ [.bl false])) = H5_4 at s5_4 ⊢
      have h5_4 : H5_4 p5 = some (.lst [.bl false, .bl false, .bl true, .bl false, .bl false]) := by rw [← e5]; exact upd_same
      clear e5
      have t5 : Same H H5_4 := fun b o e => s5_4 b o (ne_of_none e f5) (t4 _ _ e)
      have h53 : H5_4 p3 = some (.lst [.bl false, .bl false, .bl true]) := s5_4 _ _ (ne_of_none h43 n5) h43
      have h54 : H5_4 p4 = some (.lst [.bl false, .bl false, .bl true]) := s5_4 _ _ (ne_of_none h4 n5) h4
      have dp : ∀ {p : Addr}, H5_4 p = some (.lst [.bl false, .bl false, .bl true]) → Dp X.K H5_4 (.ref p) (.list [.bool false, .bool false, .bool true]) := fun e => .lst (SqL.of e) (.cons (.bl _) (.cons (.bl _) (.cons (.bl _) .nil)))
      refine ⟨_, rfl, .inl ⟨rfl, _, SqL.of h5_4⟩, p5, [false, false, true, false, false], rfl, rfl, SqL.of h5_4, rfl, _, rfl, ?_⟩
      refine iteF ?_
      refine ⟨_, rfl, _, rfl, _, _, dp h53, dp h54, by decide +kernel, by decide +kernel, _, rfl, ?_⟩
      refine iteF ?_
      refine ⟨_, rfl, .inl ⟨rfl, _, SqL.of h53⟩, p3, [false, false, true], rfl, rfl, SqL.of h53, rfl, _, rfl, ?_⟩
      refine iteF ?_
      refine ⟨_, rfl, .inl ⟨rfl, _, SqL.of h5_4⟩, p5, _, _, 2, .bl true, rfl, rfl, SqL.of h5_4, rfl, rfl, rfl, rfl, (fun m z hm hz => first_at (bs := [false, false, true, false, false]) (n := 2) (by decide) hm hz), ?_⟩
      refine ⟨_, rfl, .inl ⟨rfl, _, SqL.of h53⟩, p3, _, _, 2, .bl true, rfl, rfl, SqL.of h53, rfl, rfl, rfl, rfl, (fun m z hm hz => first_at (bs := [false, false, true]) (n := 2) (by decide) hm hz), (by show 5 ≤ sizeLine; decide), fun p7 n7 => ?_⟩
      have s7 : Same H5_4 (upd H5_4 p7 (.lst [.int 0, .int 0, .int 2, .int 2, .int 0])) := same_upd n7
      refine ⟨_, rfl, p7, _, _, .int 2, rfl, rfl, SqL.of upd_same, atI_nat (j := 2) rfl, rfl, _, rfl, ?_⟩
      generalize upd H5_4 p7 (.lst [.int 0, .int 0, .int 2, .int 2, .int 0]) = H7 at s7 ⊢
      have t7 : Same H H7 := t5.trans s7
      refine iteF ?_
      refine ⟨_, rfl, rfl, _, rfl, ?_⟩
      refine iteF ?_
      refine ⟨_, rfl, rfl, _, rfl, ?_⟩
      refine iteF ?_
      refine ⟨_, rfl, rfl, _, rfl, ?_⟩
      refine iteT ?_
      refine ⟨_, rfl, rfl, rfl, dd, _, v, rfl, t7 _ _ hd, rfl, v, txt, rfl, hS _ _ _ _ t7 hsd, (by show 2 ≤ sizeLine; decide), fun p n => ?_⟩
      exact q p _ (same_free t7 n) (t7.trans (same_upd n)) upd_same
    · have eC := EK.e4.ec
      have k1 : PySem.W.kitOne X.K (.ref C4) (.ref S1) = some false := EK.e4.k1
      have k2 : PySem.W.kitOne X.K (.ref C4) (.ref S2) = some false := EK.e4.k2
      have k3 : PySem.W.kitOne X.K (.ref C4) (.ref S3) = some true := EK.e4.k3
      have kV : PySem.W.kitOne X.K (.ref C4) (.type "ValueError") = some false := EK.e4.kV
      have kL : PySem.W.kitOne X.K (.ref C4) (.type "LookupError") = some false := EK.e4.kL
      have kA : PySem.W.kitOne X.K (.ref C4) (.type "ArithmeticError") = some true := EK.e4.kA
      refine ⟨_, pss_cons (ps_set (i := 3) scCaught.nd rfl (.inl rfl) (pe_lst (pa_cons (pe_callB (call_isX (X := cxK X g cdg s H0) (a := a) (pn := pn) hz hf) (by rfl) T.isinstance (by decide +kernel) (pa_cons (pv 2) (pa_cons (pe_glob (v := .ref S1) (by rfl) EK.g1 rfl) pa_nil))) (pa_cons (pe_callB (call_isX (X := cxK X g cdg s H0) (a := a) (pn := pn) hz hf) (by rfl) T.isinstance (by decide +kernel) (pa_cons (pv 2) (pa_cons (pe_glob (v := .ref S2) (by rfl) EK.g2 rfl) pa_nil))) (pa_cons (pe_callB (call_isX (X := cxK X g cdg s H0) (a := a) (pn := pn) hz hf) (by rfl) T.isinstance (by decide +kernel) (pa_cons (pv 2) (pa_cons (pe_glob (v := .ref S3) (by rfl) EK.g3 rfl) pa_nil))) pa_nil)))))
          (pss_cons (ps_set (i := 4) scCaught.nd rfl (.inl rfl) (pe_lst (pa_cons (pe_callB (call_isX (X := cxK X g cdg s H0) (a := a) (pn := pn) hz hf) (by rfl) T.isinstance (by decide +kernel) (pa_cons (pv 2) (pa_cons (pe_bltn (v := .ty "ValueError") (u := .type "ValueError") (by rfl) EK.gV (by decide +kernel) rfl) pa_nil))) (pa_cons (pe_callB (call_isX (X := cxK X g cdg s H0) (a := a) (pn := pn) hz hf) (by rfl) T.isinstance (by decide +kernel) (pa_cons (pv 2) (pa_cons (pe_bltn (v := .ty "LookupError") (u := .type "LookupError") (by rfl) EK.gL (by decide +kernel) rfl) pa_nil))) pa_nil))))
          (pss_cons (ps_expr (pe_bm PySem.F.plainAttrs_list PySem.F.slot_list_append PySem.F.type_list_append mt_append (pv 4) (pa_cons (pe_callB (call_isX (X := cxK X g cdg s H0) (a := a) (pn := pn) hz hf) (by rfl) T.isinstance (by decide +kernel) (pa_cons (pv 2) (pa_cons (pe_bltn (v := .ty "ArithmeticError") (u := .type "ArithmeticError") (by rfl) EK.gA (by decide +kernel) rfl) pa_nil))) pa_nil)))
          (pss_cons (ps_set (i := 5) scCaught.nd rfl (.inl rfl) (pe_lst (pa_cons (pe_callB (call_isX (X := cxK X g cdg s H0) (a := a) (pn := pn) hz hf) (by rfl) T.isinstance (by decide +kernel) (pa_cons (pv 2) (pa_cons (pe_glob (v := .ref C1) (by rfl) EK.m1 rfl) pa_nil))) pa_nil)))
          (pss_cons (ps_expr (pe_bm PySem.F.plainAttrs_list PySem.F.slot_list_append PySem.F.type_list_append mt_append (pv 5) (pa_cons (pe_callB (call_isX (X := cxK X g cdg s H0) (a := a) (pn := pn) hz hf) (by rfl) T.isinstance (by decide +kernel) (pa_cons (pv 2) (pa_cons (pe_glob (v := .ref C2) (by rfl) EK.m2 rfl) pa_nil))) pa_nil)))
          (pss_cons (ps_expr (pe_bm PySem.F.plainAttrs_list PySem.F.slot_list_append PySem.F.type_list_append mt_append (pv 5) (pa_cons (pe_callB (call_isX (X := cxK X g cdg s H0) (a := a) (pn := pn) hz hf) (by rfl) T.isinstance (by decide +kernel) (pa_cons (pv 2) (pa_cons (pe_glob (v := .ref C3) (by rfl) EK.m3 rfl) pa_nil))) pa_nil)))
          (pss_cons (ps_expr (pe_bm PySem.F.plainAttrs_list PySem.F.slot_list_append PySem.F.type_list_append mt_append (pv 5) (pa_cons (pe_callB (call_isX (X := cxK X g cdg s H0) (a := a) (pn := pn) hz hf) (by rfl) T.isinstance (by decide +kernel) (pa_cons (pv 2) (pa_cons (pe_glob (v := .ref C4) (by rfl) EK.m4 rfl) pa_nil))) pa_nil)))
          (pss_cons (ps_expr (pe_bm PySem.F.plainAttrs_list PySem.F.slot_list_append PySem.F.type_list_append mt_append (pv 5) (pa_cons (pe_callB (call_isX (X := cxK X g cdg s H0) (a := a) (pn := pn) hz hf) (by rfl) T.isinstance (by decide +kernel) (pa_cons (pv 2) (pa_cons (pe_glob (v := .ref C5) (by rfl) EK.m5 rfl) pa_nil))) pa_nil)))
          (pss_cons (ps_if (PW.pt (pw_or (pt_cmpR op_ne (pe_bm PySem.F.plainAttrs_list PySem.F.slot_list_count PySem.F.type_list_count mt_lcountB (pv 5) (pa_cons pe_bl pa_nil)) pe_int (nomark _)) (pw_or (pt_cmpR (op_neD (by show X.A.units + 3 + 64 < cLine; omega)) (pv 3) (pv 4) (nomark _)) (pw_or1 (pt_cmpR op_ne (pe_bm PySem.F.plainAttrs_list PySem.F.slot_list_count PySem.F.type_list_count mt_lcountB (pv 3) (pa_cons pe_bl pa_nil)) pe_int (nomark _)))))) (pss_one (ps_ret (pe_lst (pa_cons pe_str pa_nil)))) pss_nil)
          (pss_cons (ps_set (i := 6) scCaught.nd rfl (.inl rfl) (pe_bm PySem.F.plainAttrs_list PySem.F.slot_list_index PySem.F.type_list_index mt_index (pv 5) (pa_cons pe_bl pa_nil)))
          (pss_cons (ps_if (pt_cmpR op_ne (pe_bm PySem.F.plainAttrs_list PySem.F.slot_list_index PySem.F.type_list_index mt_index (pv 3) (pa_cons pe_bl pa_nil)) (pe_ix ix_list (pe_lst (pa_cons pe_int (pa_cons pe_int (pa_cons pe_int (pa_cons pe_int (pa_cons pe_int pa_nil)))))) (pv 6) (fun _ _ => rfl)) (nomark _)) (pss_one (ps_ret (pe_lst (pa_cons pe_str pa_nil)))) pss_nil)
          (pss_cons (ps_if (pt_cmpR op_eq (pv 6) pe_int (nomark _)) (pss_one (ps_ret (pe_lst (pa_cons pe_str (pa_cons (pe_callB hR (by rfl) T.repr (by decide +kernel) (pa_cons (pe_xf EK.e1.xf EK.i1 hz hf (pv 2)) pa_nil)) pa_nil))))) pss_nil)
          (pss_cons (ps_if (pt_cmpR op_eq (pv 6) pe_int (nomark _)) (pss_one (ps_ret (pe_lst (pa_cons pe_str (pa_cons (pe_callB hR (by rfl) T.repr (by decide +kernel) (pa_cons (pe_xf EK.e2.xf EK.i2 hz hf (pv 2)) pa_nil)) pa_nil))))) pss_nil)
          (pss_cons (ps_if (pt_cmpR op_eq (pv 6) pe_int (nomark _)) (pss_one (ps_ret (pe_lst (pa_cons pe_str (pa_cons (pe_callB hR (by rfl) T.repr (by decide +kernel) (pa_cons (pe_xf EK.e3.xf EK.i3 hz hf (pv 2)) pa_nil)) pa_nil))))) pss_nil)
          (pss_cons (ps_if (pt_cmpR op_eq (pv 6) pe_int (nomark _)) (pss_one (ps_ret (pe_lst (pa_cons pe_str (pa_cons (pe_callB hR (by rfl) T.repr (by decide +kernel) (pa_cons (pe_xf EK.e4.xf EK.i4 hz hf (pv 2)) pa_nil)) pa_nil))))) pss_nil)
          (pss_one (ps_if (pt_cmpR op_eq (pv 6) pe_int (nomark _)) (pss_one (ps_ret (pe_lst (pa_cons pe_str (pa_cons (pe_callB hR (by rfl) T.repr (by decide +kernel) (pa_cons (pe_xf EK.e5.xf EK.i5 hz hf (pv 2)) pa_nil)) pa_nil))))) pss_nil)))))))))))))))), ?_⟩
      refine ⟨_, rfl, C4, rfl, eC, _, _, _, dd, _, rfl, rfl, hd, (fun u h => h), k1, _, rfl, C4, rfl, eC, _, _, _, dd, _, rfl, rfl, hd, (fun u h => h), k2, _, rfl, C4, rfl, eC, _, _, _, dd, _, rfl, rfl, hd, (fun u h => h), k3, (by show 3 ≤ sizeLine; decide), fun p3 n3 => ?_⟩
      have s3 : Same H (upd H p3 (.lst [.bl false, .bl false, .bl true])) := same_upd n3
      generalize e3 : upd H p3 (.lst [.bl false, .bl false, .bl true]) = H3 at s3 ⊢
      have h3 : H3 p3 = some (.lst [.bl false, .bl false, .bl true]) := by rw [← e3]; exact upd_same
      clear e3
      have hd3 := s3 _ _ hd
      refine ⟨_, rfl, C4, rfl, eC, _, _, _, dd, _, rfl, rfl, hd3, (fun u h => h), kV, _, rfl, C4, rfl, eC, _, _, _, dd, _, rfl, rfl, hd3, (fun u h => h), kL, (by show 2 ≤ sizeLine; decide), fun p4 n4 => ?_⟩
      have hd4 : upd H3 p4 (.lst [.bl false, .bl false]) dd = some (.xd _) := same_upd n4 _ _ hd3
      refine ⟨_, rfl, .inl ⟨rfl, _, SqL.of upd_same⟩, _, rfl, C4, rfl, eC, _, _, _, dd, _, rfl, rfl, hd4, (fun u h => h), kA, p4, _, _, rfl, rfl, upd_same, (by show 2 < sizeLine; decide), ?_⟩
      have f4 : H p4 = none := same_free s3 n4
      have s4 := grow_keep (H := H3) (p := p4) (xs := [.bl false, .bl false]) (ys := [.bl true])
      generalize e4 : upd (upd H3 p4 (.lst [.bl false, .bl false])) p4 (.lst ([.bl false, .bl false] ++ [.bl true])) = H4 at s4 ⊢
      have h4 : H4 p4 = some (.lst [.bl false, .bl false, .bl true]) := by rw [← e4]; exact upd_same
      clear e4
      have t4 : Same H H4 := fun b o e => s4 b o (ne_of_none e f4) (s3 _ _ e)
      have h43 : H4 p3 = some (.lst [.bl false, .bl false, .bl true]) := s4 _ _ (ne_of_none h3 n4) h3
      have hd5 := t4 _ _ hd
      refine ⟨_, rfl, C4, rfl, eC, _, _, _, dd, _, rfl, rfl, hd5, (fun u h => h), EK.k4_1, (by show 1 ≤ sizeLine; decide), fun p5 n5 => ?_⟩
      have f5 : H p5 = none := same_free t4 n5
      have s5_0 : ∀ b o, b ≠ p5 → H4 b = some o → upd H4 p5 (.lst [.bl false]) b = some o := fun b o n e => by rw [upd_ne n]; exact e
      generalize e5 : upd H4 p5 (.lst [.bl false]) = H5_0 at s5_0 ⊢
      have h5_0 : H5_0 p5 = some (.lst [.bl false]) := by rw [← e5]; exact upd_same
      clear e5
      have hdx1 := s5_0 _ _ (ne_of_none hd5 n5) hd5
      refine ⟨_, rfl, .inl ⟨rfl, _, SqL.of h5_0⟩, _, rfl, C4, rfl, eC, _, _, _, dd, _, rfl, rfl, hdx1, (fun u h => h), EK.k4_2, p5, _, _, rfl, rfl, h5_0, (by show 1 < sizeLine; decide), ?_⟩
      have s5_1 : ∀ b o, b ≠ p5 → H4 b = some o → upd H5_0 p5 (.lst ([.bl false] ++ [.bl false])) b = some o := fun b o n e => by rw [upd_ne n]; exact s5_0 b o n e
      generalize e5 : upd H5_0 p5 (.lst ([.bl false] ++ [.bl false])) = H5_1 at s5_1 ⊢
      have h5_1 : H5_1 p5 = some (.lst [.bl false, .bl false]) := by rw [← e5]; exact upd_same
      clear e5
      have hdx2 := s5_1 _ _ (ne_of_none hd5 n5) hd5
      refine ⟨_, rfl, .inl ⟨rfl, _, SqL.of h5_1⟩, _, rfl, C4, rfl, eC, _, _, _, dd, _, rfl, rfl, hdx2, (fun u h => h), EK.k4_3, p5, _, _, rfl, rfl, h5_1, (by show 2 < sizeLine; decide), ?_⟩
      have s5_2 : ∀ b o, b ≠ p5 → H4 b = some o → upd H5_1 p5 (.lst ([.bl false, .bl false] ++ [.bl false])) b = some o := fun b o n e => by rw [upd_ne n]; exact s5_1 b o n e
      generalize e5 : upd H5_1 p5 (.lst ([.bl false, .bl false] ++ [.bl false])) = H5_2 at s5_2 ⊢
      have h5_2 : H5_2 p5 = some (.lst [.bl false, .bl false, .bl false]) := by rw [← e5]; exact upd_same
      clear e5
      have hdx3 := s5_2 _ _ (ne_of_none hd5 n5) hd5
      refine ⟨_, rfl, .inl ⟨rfl, _, SqL.of h5_2⟩, _, rfl, C4, rfl, eC, _, _, _, dd, _, rfl, rfl, hdx3, (fun u h => h), EK.k4_4, p5, _, _, rfl, rfl, h5_2, (by show 3 < sizeLine; decide), ?_⟩
      have s5_3 : ∀ b o, b ≠ p5 → H4 b = some o → upd H5_2 p5 (.lst ([.bl false, .bl false, .bl false] ++ [.bl true])) b = some o := fun b o n e => by rw [upd_ne n]; exact s5_2 b o n e
      generalize e5 : upd H5_2 p5 (.lst ([.bl false, .bl false, .bl false] ++ [.bl true])) = H5_3 at s5_3 ⊢
      have h5_3 : H5_3 p5 = some (.lst [.bl false, .bl false, .bl false, .bl true]) := by rw [← e5]; exact upd_same
      clear e5
      have hdx4 := s5_3 _ _ (ne_of_none hd5 n5) hd5
      refine ⟨_, rfl, .inl ⟨rfl, _, SqL.of h5_3⟩, _, rfl, C4, rfl, eC, _, _, _, dd, _, rfl, rfl, hdx4, (fun u h => h), EK.k4_5, p5, _, _, rfl, rfl, h5_3, (by show 4 < sizeLine; decide), ?_⟩
      have s5_4 : ∀ b o, b ≠ p5 → H4 b = some o → upd H5_3 p5 (.lst ([.bl false, .bl false, .bl false, .bl true] ++ [.bl false])) b = some o := fun b o n e => by rw [upd_ne n]; exact s5_3 b o n e
      generalize e5 : upd H5_3 p5 (.lst ([.bl false, .bl false, .bl false, .bl true] ++ [.bl false])) = H5_4 at s5_4 ⊢
      have h5_4 : H5_4 p5 = some (.lst [.bl false, .bl false, .bl false, .bl true, .bl false]) := by rw [← e5]; exact upd_same
      clear e5
      have t5 : Same H H5_4 := fun b o e => s5_4 b o (ne_of_none e f5) (t4 _ _ e)
      have h53 : H5_4 p3 = some (.lst [.bl false, .bl false, .bl true]) := s5_4 _ _ (ne_of_none h43 n5) h43
      have h54 : H5_4 p4 = some (.lst [.bl false, .bl false, .bl true]) := s5_4 _ _ (ne_of_none h4 n5) h4
      have dp : ∀ {p : Addr}, H5_4 p = some (.lst [.bl false, .bl false, .bl true]) → Dp X.K H5_4 (.ref p) (.list [.bool false, .bool false, .bool true]) := fun e => .lst (SqL.of e) (.cons (.bl _) (.cons (.bl _) (.cons (.bl _) .nil)))
      refine ⟨_, rfl, .inl ⟨rfl, _, SqL.of h5_4⟩, p5, [false, false, false, true, false], rfl, rfl, SqL.of h5_4, rfl, _, rfl, ?_⟩
      refine iteF ?_
      refine ⟨_, rfl, _, rfl, _, _, dp h53, dp h54, by decide +kernel, by decide +kernel, _, rfl, ?_⟩
      refine iteF ?_
      refine ⟨_, rfl, .inl ⟨rfl, _, SqL.of h53⟩, p3, [false, false, true], rfl, rfl, SqL.of h53, rfl, _, rfl, ?_⟩
      refine iteF ?_
      refine ⟨_, rfl, .inl ⟨rfl, _, SqL.of h5_4⟩, p5, _, _, 3, .bl true, rfl, rfl, SqL.of h5_4, rfl, rfl, rfl, rfl, (fun m z hm hz => first_at (bs := [false, false, false, true, false]) (n := 3) (by decide) hm hz), ?_⟩
      refine ⟨_, rfl, .inl ⟨rfl, _, SqL.of h53⟩, p3, _, _, 2, .bl true, rfl, rfl, SqL.of h53, rfl, rfl, rfl, rfl, (fun m z hm hz => first_at (bs := [false, false, true]) (n := 2) (by decide) hm hz), (by show 5 ≤ sizeLine; decide), fun p7 n7 => ?_⟩
      have s7 : Same H5_4 (upd H5_4 p7 (.lst [.int 0, .int 0, .int 2, .int 2, .int 0])) := same_upd n7
      refine ⟨_, rfl, p7, _, _, .int 2, rfl, rfl, SqL.of upd_same, atI_nat (j := 3) rfl, rfl, _, rfl, ?_⟩
      generalize upd H5_4 p7 (.lst [.int 0, .int 0, .int 2, .int 2, .int 0]) = H7 at s7 ⊢
      have t7 : Same H H7 := t5.trans s7
      refine iteF ?_
      refine ⟨_, rfl, rfl, _, rfl, ?_⟩
      refine iteF ?_
      refine ⟨_, rfl, rfl, _, rfl, ?_⟩
      refine iteF ?_
      refine ⟨_, rfl, rfl, _, rfl, ?_⟩
      refine iteF ?_
      refine ⟨_, rfl, rfl, _, rfl, ?_⟩
      refine iteT ?_
      refine ⟨_, rfl, rfl, rfl, dd, _, v, rfl, t7 _ _ hd, rfl, v, txt, rfl, hS _ _ _ _ t7 hsd, (by show 2 ≤ sizeLine; decide), fun p n => ?_⟩
      exact q p _ (same_free t7 n) (t7.trans (same_upd n)) upd_same
    · have eC := EK.e5.ec
      have k1 : PySem.W.kitOne X.K (.ref C5) (.ref S1) = some true := EK.e5.k1
      have k2 : PySem.W.kitOne X.K (.ref C5) (.ref S2) = some false := EK.e5.k2
      have k3 : PySem.W.kitOne X.K (.ref C5) (.ref S3) = some false := EK.e5.k3
      have kV : PySem.W.kitOne X.K (.ref C5) (.type "ValueError") = some true := EK.e5.kV
      have kL : PySem.W.kitOne X.K (.ref C5) (.type "LookupError") = some false := EK.e5.kL
      have kA : PySem.W.kitOne X.K (.ref C5) (.type "ArithmeticError") = some false := EK.e5.kA
      refine ⟨_, pss_cons (ps_set (i := 3) scCaught.nd rfl (.inl rfl) (pe_lst (pa_cons (pe_callB (call_isX (X := cxK X g cdg s H0) (a := a) (pn := pn) hz hf) (by rfl) T.isinstance (by decide +kernel) (pa_cons (pv 2) (pa_cons (pe_glob (v := .ref S1) (by rfl) EK.g1 rfl) pa_nil))) (pa_cons (pe_callB (call_isX (X := cxK X g cdg s H0) (a := a) (pn := pn) hz hf) (by rfl) T.isinstance (by decide +kernel) (pa_cons (pv 2) (pa_cons (pe_glob (v := .ref S2) (by rfl) EK.g2 rfl) pa_nil))) (pa_cons (pe_callB (call_isX (X := cxK X g cdg s H0) (a := a) (pn := pn) hz hf) (by rfl) T.isinstance (by decide +kernel) (pa_cons (pv 2) (pa_cons (pe_glob (v := .ref S3) (by rfl) EK.g3 rfl) pa_nil))) pa_nil)))))
          (pss_cons (ps_set (i := 4) scCaught.nd rfl (.inl rfl) (pe_lst (pa_cons (pe_callB (call_isX (X := cxK X g cdg s H0) (a := a) (pn := pn) hz hf) (by rfl) T.isinstance (by decide +kernel) (pa_cons (pv 2) (pa_cons (pe_bltn (v := .ty "ValueError") (u := .type "ValueError") (by rfl) EK.gV (by decide +kernel) rfl) pa_nil))) (pa_cons (pe_callB (call_isX (X := cxK X g cdg s H0) (a := a) (pn := pn) hz hf) (by rfl) T.isinstance (by decide +kernel) (pa_cons (pv 2) (pa_cons (pe_bltn (v := .ty "LookupError") (u := .type "LookupError") (by rfl) EK.gL (by decide +kernel) rfl) pa_nil))) pa_nil))))
          (pss_cons (ps_expr (pe_bm PySem.F.plainAttrs_list PySem.F.slot_list_append PySem.F.type_list_append mt_append (pv 4) (pa_cons (pe_callB (call_isX (X := cxK X g cdg s H0) (a := a) (pn := pn) hz hf) (by rfl) T.isinstance (by decide +kernel) (pa_cons (pv 2) (pa_cons (pe_bltn (v := .ty "ArithmeticError") (u := .type "ArithmeticError") (by rfl) EK.gA (by decide +kernel) rfl) pa_nil))) pa_nil)))
          (pss_cons (ps_set (i := 5) scCaught.nd rfl (.inl rfl) (pe_lst (pa_cons (pe_callB (call_isX (X := cxK X g cdg s H0) (a := a) (pn := pn) hz hf) (by rfl) T.isinstance (by decide +kernel) (pa_cons (pv 2) (pa_cons (pe_glob (v := .ref C1) (by rfl) EK.m1 rfl) pa_nil))) pa_nil)))
          (pss_cons (ps_expr (pe_bm PySem.F.plainAttrs_list PySem.F.slot_list_append PySem.F.type_list_append mt_append (pv 5) (pa_cons (pe_callB (call_isX (X := cxK X g cdg s H0) (a := a) (pn := pn) hz hf) (by rfl) T.isinstance (by decide +kernel) (pa_cons (pv 2) (pa_cons (pe_glob (v := .ref C2) (by rfl) EK.m2 rfl) pa_nil))) pa_nil)))
          (pss_cons (ps_expr (pe_bm PySem.F.plainAttrs_list PySem.F.slot_list_append PySem.F.type_list_append mt_append (pv 5) (pa_cons (pe_callB (call_isX (X := cxK X g cdg s H0) (a := a) (pn := pn) hz hf) (by rfl) T.isinstance (by decide +kernel) (pa_cons (pv 2) (pa_cons (pe_glob (v := .ref C3) (by rfl) EK.m3 rfl) pa_nil))) pa_nil)))
          (pss_cons (ps_expr (pe_bm PySem.F.plainAttrs_list PySem.F.slot_list_append PySem.F.type_list_append mt_append (pv 5) (pa_cons (pe_callB (call_isX (X := cxK X g cdg s H0) (a := a) (pn := pn) hz hf) (by rfl) T.isinstance (by decide +kernel) (pa_cons (pv 2) (pa_cons (pe_glob (v := .ref C4) (by rfl) EK.m4 rfl) pa_nil))) pa_nil)))
          (pss_cons (ps_expr (pe_bm PySem.F.plainAttrs_list PySem.F.slot_list_append PySem.F.type_list_append mt_append (pv 5) (pa_cons (pe_callB (call_isX (X := cxK X g cdg s H0) (a := a) (pn := pn) hz hf) (by rfl) T.isinstance (by decide +kernel) (pa_cons (pv 2) (pa_cons (pe_glob (v := .ref C5) (by rfl) EK.m5 rfl) pa_nil))) pa_nil)))
          (pss_cons (ps_if (PW.pt (pw_or (pt_cmpR op_ne (pe_bm PySem.F.plainAttrs_list PySem.F.slot_list_count PySem.F.type_list_count mt_lcountB (pv 5) (pa_cons pe_bl pa_nil)) pe_int (nomark _)) (pw_or (pt_cmpR (op_neD (by show X.A.units + 3 + 64 < cLine; omega)) (pv 3) (pv 4) (nomark _)) (pw_or1 (pt_cmpR op_ne (pe_bm PySem.F.plainAttrs_list PySem.F.slot_list_count PySem.F.type_list_count mt_lcountB (pv 3) (pa_cons pe_bl pa_nil)) pe_int (nomark _)))))) (pss_one (ps_ret (pe_lst (pa_cons pe_str pa_nil)))) pss_nil)
          (pss_cons (ps_set (i := 6) scCaught.nd rfl (.inl rfl) (pe_bm PySem.F.plainAttrs_list PySem.F.slot_list_index PySem.F.type_list_index mt_index (pv 5) (pa_cons pe_bl pa_nil)))
          (pss_cons (ps_if (pt_cmpR op_ne (pe_bm PySem.F.plainAttrs_list PySem.F.slot_list_index PySem.F.type_list_index mt_index (pv 3) (pa_cons pe_bl pa_nil)) (pe_ix ix_list (pe_lst (pa_cons pe_int (pa_cons pe_int (pa_cons pe_int (pa_cons pe_int (pa_cons pe_int pa_nil)))))) (pv 6) (fun _ _ => rfl)) (nomark _)) (pss_one (ps_ret (pe_lst (pa_cons pe_str pa_nil)))) pss_nil)
          (pss_cons (ps_if (pt_cmpR op_eq (pv 6) pe_int (nomark _)) (pss_one (ps_ret (pe_lst (pa_cons pe_str (pa_cons (pe_callB hR (by rfl) T.repr (by decide +kernel) (pa_cons (pe_xf EK.e1.xf EK.i1 hz hf (pv 2)) pa_nil)) pa_nil))))) pss_nil)
          (pss_cons (ps_if (pt_cmpR op_eq (pv 6) pe_int (nomark _)) (pss_one (ps_ret (pe_lst (pa_cons pe_str (pa_cons (pe_callB hR (by rfl) T.repr (by decide +kernel) (pa_cons (pe_xf EK.e2.xf EK.i2 hz hf (pv 2)) pa_nil)) pa_nil))))) pss_nil)
          (pss_cons (ps_if (pt_cmpR op_eq (pv 6) pe_int (nomark _)) (pss_one (ps_ret (pe_lst (pa_cons pe_str (pa_cons (pe_callB hR (by rfl) T.repr (by decide +kernel) (pa_cons (pe_xf EK.e3.xf EK.i3 hz hf (pv 2)) pa_nil)) pa_nil))))) pss_nil)
          (pss_cons (ps_if (pt_cmpR op_eq (pv 6) pe_int (nomark _)) (pss_one (ps_ret (pe_lst (pa_cons pe_str (pa_cons (pe_callB hR (by rfl) T.repr (by decide +kernel) (pa_cons (pe_xf EK.e4.xf EK.i4 hz hf (pv 2)) pa_nil)) pa_nil))))) pss_nil)
          (pss_one (ps_if (pt_cmpR op_eq (pv 6) pe_int (nomark _)) (pss_one (ps_ret (pe_lst (pa_cons pe_str (pa_cons (pe_callB hR (by rfl) T.repr (by decide +kernel) (pa_cons (pe_xf EK.e5.xf EK.i5 hz hf (pv 2)) pa_nil)) pa_nil))))) pss_nil)))))))))))))))), ?_⟩
      refine ⟨_, rfl, C5, rfl, eC, _, _, _, dd, _, rfl, rfl, hd, (fun u h => h), k1, _, rfl, C5, rfl, eC, _, _, _, dd, _, rfl, rfl, hd, (fun u h => h), k2, _, rfl, C5, rfl, eC, _, _, _, dd, _, rfl, rfl, hd, (fun u h => h), k3, (by show 3 ≤ sizeLine; decide), fun p3 n3 => ?_⟩
      have s3 : Same H (upd H p3 (.lst [.bl true, .bl false, .bl false])) := same_upd n3
      generalize e3 : upd H p3 (.lst [.bl true, .bl false, .bl false]) = H3 at s3 ⊢
      have h3 : H3 p3 = some (.lst [.bl true, .bl false, .bl false]) := by rw [← e3]; exact upd_same
      clear e3
      have hd3 := s3 _ _ hd
      refine ⟨_, rfl, C5, rfl, eC, _, _, _, dd, _, rfl, rfl, hd3, (fun u h => h), kV, _, rfl, C5, rfl, eC, _, _, _, dd, _, rfl, rfl, hd3, (fun u h => h), kL, (by show 2 ≤ sizeLine; decide), fun p4 n4 => ?_⟩
      have hd4 : upd H3 p4 (.lst [.bl true, .bl false]) dd = some (.xd _) := same_upd n4 _ _ hd3
      refine ⟨_, rfl, .inl ⟨rfl, _, SqL.of upd_same⟩, _, rfl, C5, rfl, eC, _, _, _, dd, _, rfl, rfl, hd4, (fun u h => h), kA, p4, _, _, rfl, rfl, upd_same, (by show 2 < sizeLine; decide), ?_⟩
      have f4 : H p4 = none := same_free s3 n4
      have s4 := grow_keep (H := H3) (p := p4) (xs := [.bl true, .bl false]) (ys := [.bl false])
      generalize e4 : upd (upd H3 p4 (.lst [.bl true, .bl false])) p4 (.lst ([.bl true, .bl false] ++ [.bl false])) = H4 at s4 ⊢
      have h4 : H4 p4 = some (.lst [.bl true, .bl false, .bl false]) := by rw [← e4]; exact upd_same
      clear e4
      have t4 : Same H H4 := fun b o e => s4 b o (ne_of_none e f4) (s3 _ _ e)
      have h43 : H4 p3 = some (.lst [.bl true, .bl false, .bl false]) := s4 _ _ (ne_of_none h3 n4) h3
      have hd5 := t4 _ _ hd
      refine ⟨_, rfl, C5, rfl, eC, _, _, _, dd, _, rfl, rfl, hd5, (fun u h => h), EK.k5_1, (by show 1 ≤ sizeLine; decide), fun p5 n5 => ?_⟩
      have f5 : H p5 = none := same_free t4 n5
      have s5_0 : ∀ b o, b ≠ p5 → H4 b = some o → upd H4 p5 (.lst [.bl false]) b = some o := fun b o n e => by rw [upd_ne n]; exact e
      generalize e5 : upd H4 p5 (.lst [.bl false]) = H5_0 at s5_0 ⊢
      have h5_0 : H5_0 p5 = some (.lst [.bl false]) := by rw [← e5]; exact upd_same
      clear e5
      have hdx1 := s5_0 _ _ (ne_of_none hd5 n5) hd5
      refine ⟨_, rfl, .inl ⟨rfl, _, SqL.of h5_0⟩, _, rfl, C5, rfl, eC, _, _, _, dd, _, rfl, rfl, hdx1, (fun u h => h), EK.k5_2, p5, _, _, rfl, rfl, h5_0, (by show 1 < sizeLine; decide), ?_⟩
      have s5_1 : ∀ b o, b ≠ p5 → H4 b = some o → upd H5_0 p5 (.lst ([.bl false] ++ [.bl false])) b = some o := fun b o n e => by rw [upd_ne n]; exact s5_0 b o n e
      generalize e5 : upd H5_0 p5 (.lst ([.bl false] ++ [.bl false])) = H5_1 at s5_1 ⊢
      have h5_1 : H5_1 p5 = some (.lst [.bl false, .bl false]) := by rw [← e5]; exact upd_same
      clear e5
      have hdx2 := s5_1 _ _ (ne_of_none hd5 n5) hd5
      refine ⟨_, rfl, .inl ⟨rfl, _, SqL.of h5_1⟩, _, rfl, C5, rfl, eC, _, _, _, dd, _, rfl, rfl, hdx2, (fun u h => h), EK.k5_3, p5, _, _, rfl, rfl, h5_1, (by show 2 < sizeLine; decide), ?_⟩
      have s5_2 : ∀ b o, b ≠ p5 → H4 b = some o → upd H5_1 p5 (.lst ([.bl false, .bl false] ++ [.bl false])) b = some o := fun b o n e => by rw [upd_ne n]; exact s5_1 b o n e
      generalize e5 : upd H5_1 p5 (.lst ([.bl false, .bl false] ++ [.bl false])) = H5_2 at s5_2 ⊢
      have h5_2 : H5_2 p5 = some (.lst [.bl false, .bl false, .bl false]) := by rw [← e5]; exact upd_same
      clear e5
      have hdx3 := s5_2 _ _ (ne_of_none hd5 n5) hd5
      refine ⟨_, rfl, .inl ⟨rfl, _, SqL.of h5_2⟩, _, rfl, C5, rfl, eC, _, _, _, dd, _, rfl, rfl, hdx3, (fun u h => h), EK.k5_4, p5, _, _, rfl, rfl, h5_2, (by show 3 < sizeLine; decide), ?_⟩
      have s5_3 : ∀ b o, b ≠ p5 → H4 b = some o → upd H5_2 p5 (.lst ([.bl false, .bl false, .bl false] ++ [.bl false])) b = some o := fun b o n e => by rw [upd_ne n]; exact s5_2 b o n e
      generalize e5 : upd H5_2 p5 (.lst ([.bl false, .bl false, .bl false] ++ [.bl false])) = H5_3 at s5_3 ⊢
      have h5_3 : H5_3 p5 = some (.lst [.bl false, .bl false, .bl false, .bl false]) := by rw [← e5]; exact upd_same
      clear e5
      have hdx4 := s5_3 _ _ (ne_of_none hd5 n5) hd5
      refine ⟨_, rfl, .inl ⟨rfl, _, SqL.of h5_3⟩, _, rfl, C5, rfl, eC, _, _, _, dd, _, rfl, rfl, hdx4, (fun u h => h), EK.k5_5, p5, _, _, rfl, rfl, h5_3, (by show 4 < sizeLine; decide), ?_⟩
      have s5_4 : ∀ b o, b ≠ p5 → H4 b = some o → upd H5_3 p5 (.lst ([.bl false, .bl false, .bl false, .bl false] ++ [.bl true])) b = some o := fun b o n e => by rw [upd_ne n]; exact s5_3 b o n e
      generalize e5 : upd H5_3 p5 (.lst ([.bl false, .bl false, .bl false, .bl false] ++ [.bl true])) = H5_4 at s5_4 ⊢
      have h5_4 : H5_4 p5 = some (.lst [.bl false, .bl false, .bl false, .bl false, .bl true]) := by rw [← e5]; exact upd_same
      clear e5
      have t5 : Same H H5_4 := fun b o e => s5_4 b o (ne_of_none e f5) (t4 _ _ e)
      have h53 : H5_4 p3 = some (.lst [.bl true, .bl false, .bl false]) := s5_4 _ _ (ne_of_none h43 n5) h43
      have h54 : H5_4 p4 = some (.lst [.bl true, .bl false, .bl false]) := s5_4 _ _ (ne_of_none h4 n5) h4
      have dp : ∀ {p : Addr}, H5_4 p = some (.lst [.bl true, .bl false, .bl false]) → Dp X.K H5_4 (.ref p) (.list [.bool true, .bool false, .bool false]) := fun e => .lst (SqL.of e) (.cons (.bl _) (.cons (.bl _) (.cons (.bl _) .nil)))
      refine ⟨_, rfl, .inl ⟨rfl, _, SqL.of h5_4⟩, p5, [false, false, false, false, true], rfl, rfl, SqL.of h5_4, rfl, _, rfl, ?_⟩
      refine iteF ?_
      refine ⟨_, rfl, _, rfl, _, _, dp h53, dp h54, by decide +kernel, by decide +kernel, _, rfl, ?_⟩
      refine iteF ?_
      refine ⟨_, rfl, .inl ⟨rfl, _, SqL.of h53⟩, p3, [true, false, false], rfl, rfl, SqL.of h53, rfl, _, rfl, ?_⟩
      refine iteF ?_
      refine ⟨_, rfl, .inl ⟨rfl, _, SqL.of h5_4⟩, p5, _, _, 4, .bl true, rfl, rfl, SqL.of h5_4, rfl, rfl, rfl, rfl, (fun m z hm hz => first_at (bs := [false, false, false, false, true]) (n := 4) (by decide) hm hz), ?_⟩
      refine ⟨_, rfl, .inl ⟨rfl, _, SqL.of h53⟩, p3, _, _, 0, .bl true, rfl, rfl, SqL.of h53, rfl, rfl, rfl, rfl, (fun m z hm => absurd hm (Nat.not_lt_zero m)), (by show 5 ≤ sizeLine; decide), fun p7 n7 => ?_⟩
      have s7 : Same H5_4 (upd H5_4 p7 (.lst [.int 0, .int 0, .int 2, .int 2, .int 0])) := same_upd n7
      refine ⟨_, rfl, p7, _, _, .int 0, rfl, rfl, SqL.of upd_same, atI_nat (j := 4) rfl, rfl, _, rfl, ?_⟩
      generalize upd H5_4 p7 (.lst [.int 0, .int 0, .int 2, .int 2, .int 0]) = H7 at s7 ⊢
      have t7 : Same H H7 := t5.trans s7
      refine iteF ?_
      refine ⟨_, rfl, rfl, _, rfl, ?_⟩
      refine iteF ?_
      refine ⟨_, rfl, rfl, _, rfl, ?_⟩
      refine iteF ?_
      refine ⟨_, rfl, rfl, _, rfl, ?_⟩
      refine iteF ?_
      refine ⟨_, rfl, rfl, _, rfl, ?_⟩
      refine iteF ?_
      refine ⟨_, rfl, rfl, _, rfl, ?_⟩
      refine iteT ?_
      refine ⟨_, rfl, rfl, rfl, dd, _, v, rfl, t7 _ _ hd, rfl, v, txt, rfl, hS _ _ _ _ t7 hsd, (by show 2 ≤ sizeLine; decide), fun p n => ?_⟩
      exact q p _ (same_free t7 n) (t7.trans (same_upd n)) upd_same
  exact ht.run pins s' _ H D I hq
theorem caught_gives {g S1 S2 S3 C1 C2 C3 C4 C5 : Addr} {cdg : Value} {q : Str} (hgd : X.A.guards = some []) (hu : X.A.units + 300 < cLine) (T : Free X.mg) (EK : ErrK X.K X.mg S1 S2 S3 C1 C2 C3 C4 C5) {SV : Hp → V → Str → Prop} (hS : ∀ H H' v x, Same H H' → SV H v x → SV H' v x)
    (hR : ∀ (s : Shared) (H : Hp) (a : Addr) (oe : Obj) (pn : List (Addr × Obj)), CallR ((cxK X g cdg s H).suite a ((a, oe) :: pn)) (.builtin "repr") (rSV SV)) :
    LamX.GivesTo X nmCaught "_law_caught" (defScope sCaught) g cdg (defBody sCaught) "_law_ask" q (TTc SV C1 C2 C3 C4 C5) := by
  intro f c' s H Q tl act hc h
  refine ⟨_, pss_cons (ps_try_as3 (X := cxK X g cdg s H) (i := 2) (c1 := .ref S1) (c2 := .ref S2) (c3 := .ref S3)
      (tb := fun W D σ H => ∃ Ech : XK, (∀ cls d σ' H', Ech cls d H' → W cls d σ' H') ∧ σ[0]? = some (some (.ref f)) ∧ H c' = some (LamX.CodeO c' q) ∧ ∀ Q', tl Ech H Q')
      (ts := fun a cls d => tCau SV C1 C2 C3 C4 C5 a cls d)
      rfl rfl scCaught.nd rfl rfl ⟨by rfl, by decide, .inl EK.g1⟩ ⟨by rfl, by decide, .inl EK.g2⟩ ⟨by rfl, by decide, .inl EK.g3⟩ (fun W pn xe tk _ => ⟨fun pins s' σ H' D I h' => ?_⟩)
      (fun a oe cls d pn hz hf => suite_ok hgd hu T EK hS hz hf (hR s H a oe pn)))
    (pss_one (ps_ret (pe_lst (pa_cons pe_str (pa_cons (pe_callB (RpD.call_reprD (by exact hgd) (by show X.A.units + 3 + 100 < cLine; omega)) (by rfl) T.repr (by decide +kernel) (pa_cons (pv 1) pa_nil)) pa_nil))))), ?_⟩
  · obtain ⟨Ech, hW, h1, h2, h3⟩ := id h'
    exact (pss_one (ps_set (i := 1) scCaught.nd rfl (.inl rfl) (act W pn xe Ech _ _ tk hW))).run pins s' σ H' D I ⟨h1, h2, h3 _⟩
  · refine ⟨Told SV C1 C2 C3 C4 C5 Q, fun cls d σ' H' told => ?_, rfl, hc, h⟩
    have told2 := told
    rcases told2 with ⟨dd, v, txt, nm, rfl, hsd, (⟨rfl, rfl, hd⟩ | ⟨rfl, rfl, hd⟩ | ⟨rfl, rfl, hd⟩ | ⟨rfl, rfl, hd⟩ | ⟨rfl, rfl, hd⟩), q⟩ | ⟨nm, rfl, (⟨⟩), q⟩
    · exact ⟨EK.e1.kx, fun a na => ⟨⟨_, rfl⟩, told⟩⟩
    · exact ⟨EK.e2.kx, fun a na => ⟨⟨_, rfl⟩, told⟩⟩
    · exact ⟨EK.e3.kx, fun a na => ⟨⟨_, rfl⟩, told⟩⟩
    · exact ⟨EK.e4.kx, fun a na => ⟨⟨_, rfl⟩, told⟩⟩
    · exact ⟨EK.e5.kx, fun a na => ⟨⟨_, rfl⟩, told⟩⟩
end
end K1

namespace K1
open PySem PySem.Spec
open PyProof.Rows L2 L2H EnT StX SmX TxS DuX XdI Tr3 CnB ClX
/-! ### a fact shown where an exception is handled; the texts of values -/
def spTextQ : Sp := fun vs H Q _ => ∃ z : Str, vs = [.str z] ∧ Q (.str z) H
def spStrQ (C : Addr) : Sp := fun vs H Q _ => ∃ (a : Addr) (z : Str), vs = [.ref a] ∧ ExpAt C H a (.leaf z) ∧ Q (.str z) H
def spReprQ (C D : Addr) : Sp := fun vs H Q _ => ∃ (p a b : Addr) (z y : Str), vs = [.ref p] ∧ FacAt C D H p a b (.leaf z) (.leaf y) ∧ Q (.str (facRepr (.leaf z) (.leaf y))) H
section
variable {X : Cx} {k : Nat} {x : Str} {f g C : Addr} {sp : Sp} {p : Addr × Obj}
/-- x(e, ..) where an exception is handled -/
theorem pe_callQ {e : Expr} {es : List Expr} {t : TA} {q pos : Pos} (F : FnQ X.prog X.w X.K X.mg X.base k f sp) (hr : RoomH k X.A) (hp : p ∈ X.pn) (hg : Gl X x) (hm : X.mg x = some (.ref f)) (hk : PySem.W.keepIn X.K (.ref f) = true) (ha : PA X (e :: es) t)
    (hd : (x == ("__debug__" : Str)) = false := by decide) (hst : starEach (e :: es) X.env = (false, eval e X.env) :: starEach es X.env := by rfl) (hpl : (backTo pos (starEach es X.env)).any (·.1) = false := by rfl) :
    PE X (.Call (.Name x q) (e :: es) [] pos) (tCall sp [] E0 t) := by
  refine ⟨fun pins s σ H Q I h => ?_⟩
  refine wpAny_Call_Name_kw (ld_glob I hg hm ?_ hd)
  refine PySem.W.callWith_K (h₀ := X.base) I.ok.mod.kin hk (thn (ha.run pos pins s σ H _ I h) fun us s1 ⟨vs, H1, I1, rv, q⟩ => ⟨I1.kIn, ?_⟩) hst hpl
  have q : sp vs H1 Q E0 := by
    have q : sp (vs ++ []) H1 Q E0 := q
    rw [List.append_nil] at q
    exact q
  exact run_belowQ F hr rfl hp I1 rv q
theorem pe_fmtQ {e : Expr} {te : TE} {pos : Pos} (c : FmtC X.K C) (m : OwnM X.K C "__str__" g) (F : FnQ X.prog X.w X.K X.mg X.base k g sp) (hr : RoomH (k + 1) X.A) (hp : p ∈ X.pn) (he : PE X e te) : PE X (.FormattedValue e (-1) none pos) (tFmtO C sp te) := by
  refine ⟨fun pins s σ H Q I h => ?_⟩
  refine wpAny_FormattedValue_plain (thn (he.run pins s σ H _ I h) fun v s1 hv => ?_)
  obtain ⟨x, H1, I1, r1, a, dx, fs, rfl, atA, cont⟩ := hv
  cases r1
  obtain ⟨ox, od, J⟩ := inst_of I1 atA
  refine PySem.W.kfo_fieldS (by have := hr.un; show X.A.units + 1 < cLine; omega) I1.kIn J c.fm c.hm m.at_ m.fn ?_
  refine wpAny_mono (run_belowQ F (roomH_in1 hr) rfl hp (I1.tok _) (vs := [V.ref a]) (.cons rfl .nil) cont) (fun u s2 hu => ?_) fun _ _ e => e
  obtain ⟨v, H2, I2, rv, z, rfl, q1⟩ := hu
  obtain ⟨t, rfl⟩ := rv
  exact ⟨.str z, H2, I2, ⟨t, rfl⟩, q1⟩
end
section
variable {w : World} {P : Program} {base : Heap} {mg : Str → Option Value} {K : PySem.W.Frag} {C D CN CM CA CC : Addr} {mc : Value}
theorem ok_textQ {f : Addr} {fd : FuncData} (F : Fun K "form_text" "form_text" sText f fd) (T : Free mg) : FnQ P w K mg base 1 f spTextQ := by
  refine fnQ_of F scText (F.binds (ps := ["form"]) fun _ _ _ _ _ _ us hl => match us, hl with | [_], _ => rfl) (fun vs H Q E h => ?_) fun cdv A outer s H vs Q p hr h => ?_
  · obtain ⟨z, rfl, _⟩ := h
    rfl
  · obtain ⟨z, rfl, q⟩ := h
    refine ⟨_, pss_cons (ps_if (pt_val (pe_callB call_isi (by rfl) T.isinstance (by decide +kernel) (pa_cons (pv 0) (pa_cons (pe_bltn (v := .ty "str") (u := .type "str") (by rfl) T.str (by decide +kernel) rfl) pa_nil)))) (pss_one (ps_ret (pv 0))) pss_nil) pss_never, ?_⟩
    exact ⟨_, rfl, _, _, _, _, true, rfl, .ty _, .base (.str z), kit_ty (by decide +kernel), true, rfl, iteT ⟨_, rfl, q⟩⟩
theorem ok_strQ {f f1 : Addr} {fd : FuncData} (F : Fun K "__str__" "Expression.__str__" sStrE f fd) (T : Free mg) (M : ExpC K mg C) (mgT : mg "form_text" = some (.ref f1)) (kT : PySem.W.keepIn K (.ref f1) = true) (hT : FnQ P w K mg base 1 f1 spTextQ) : FnQ P w K mg base 2 f (spStrQ C) := by
  refine fnQ_of F scStrE (F.binds (ps := ["self"]) fun _ _ _ _ _ _ us hl => match us, hl with | [_], _ => rfl) (fun vs H Q E h => ?_) fun cdv A outer s H vs Q p hr h => ?_
  · obtain ⟨a, z, rfl, _⟩ := h
    rfl
  · obtain ⟨a, z, rfl, m, q⟩ := h
    obtain ⟨dx, v, fl, ys, h1, h2, _⟩ := m.at_
    cases h2
    exact ⟨_, pss_one (ps_ret (pe_callTy SkE.call_str_str (by rfl) T.str (by decide +kernel) (pa_cons (pe_callQ (p := p) hT hr (by exact List.mem_cons_self) (by rfl) mgT kT (pa_cons (pe_fld (pv 0) rfl) pa_nil)) pa_nil))), _, rfl, a, C, dx, _, _, rfl, h1, M.cl, M.nF, ef_form _ _ fl, z, rfl, _, rfl, q⟩
theorem ok_reprQF {f g : Addr} {fd : FuncData} (F : Fun K "__repr__" "Fact.__repr__" sReprF f fd) (M : FacC K mg D) (c : FmtC K C) (m : OwnM K C "__str__" g) (FS : FnQ P w K mg base 2 g (spStrQ C)) : FnQ P w K mg base 4 f (spReprQ C D) := by
  refine fnQ_of F scReprF (F.binds (ps := ["self"]) fun _ _ _ _ _ _ us hl => match us, hl with | [_], _ => rfl) (fun vs H Q E h => ?_) fun cdv A outer s H vs Q pp hr h => ?_
  · obtain ⟨p, a, b, z, y, rfl, _⟩ := h
    rfl
  · obtain ⟨p, a, b, z, y, rfl, mF, q⟩ := h
    obtain ⟨dx, h⟩ := mF.at_
    obtain ⟨dx1, v1, fl1, ys1, h1, _⟩ := mF.l.at_
    obtain ⟨dx2, v2, fl2, ys2, h2, _⟩ := mF.r.at_
    have l1 := name_short (show nameB z = true from mF.l.ok)
    have l2 := name_short (show nameB y = true from mF.r.ok)
    have e0 : tLe.length = 4 := by decide +kernel
    have e1 : ("Fact(" : Str).length = 5 := by decide +kernel
    have e2 : (")" : Str).length = 1 := by decide +kernel
    refine ⟨_, pss_one (ps_ret (pe_joined (.cons pe_str (.cons (pe_fmtQ (p := pp) c m FS hr (by exact List.mem_cons_self) (pe_fld (pv 0) rfl)) (.cons pe_str (.cons (pe_fmtQ (p := pp) c m FS hr (by exact List.mem_cons_self) (pe_fld (pv 0) rfl)) (.cons pe_str .nil))))))), ?_⟩
    refine ⟨_, rfl, by rw [empty_app, sizeLine_eq]; show ("Fact(" : Str).length ≤ _; omega, ?_⟩
    refine ⟨_, rfl, p, D, dx, _, _, rfl, h, M.cl, M.nL, ff_left a b, a, dx1, _, rfl, h1, a, z, rfl, mF.l, _, rfl, ?_⟩
    refine ⟨_, rfl, by rw [empty_app, strLen_append, sizeLine_eq]; show ("Fact(" : Str).length + _ ≤ _; omega, _, rfl, by rw [empty_app, strLen_append, strLen_append, sizeLine_eq]; show ("Fact(" : Str).length + _ + tLe.length ≤ _; omega, ?_⟩
    refine ⟨_, rfl, p, D, dx, _, _, rfl, h, M.cl, M.nR, ff_right a b, b, dx2, _, rfl, h2, b, y, rfl, mF.r, _, rfl, ?_⟩
    refine ⟨_, rfl, by rw [empty_app, strLen_append, strLen_append, strLen_append, sizeLine_eq]; show ("Fact(" : Str).length + _ + tLe.length + _ ≤ _; omega, _, rfl, by rw [empty_app, strLen_append, strLen_append, strLen_append, strLen_append, sizeLine_eq]; show ("Fact(" : Str).length + _ + tLe.length + _ + (")" : Str).length ≤ _; omega, ?_⟩
    show Q (.str (Str.empty ++ _ ++ _ ++ _ ++ _ ++ _)) H
    rw [empty_app]
    exact q
end
/-- a value's text -/
inductive SV (K : PySem.W.Frag) (CE D : Addr) (H : Hp) : V → Str → Prop where
  | dat {v : V} {d : PyData} (h : RpD.ShD K H v d) : SV K CE D H v d.shown
  | sf {v : V} {x : Sf} (h : SfAt H v x) (hd : x.dep ≤ 20) (hn : x.num ≤ 1000) : SV K CE D H v x.dat.shown
  | fac {p a b : Addr} {z y : Str} (h : FacAt CE D H p a b (.leaf z) (.leaf y)) : SV K CE D H (.ref p) (facRepr (.leaf z) (.leaf y))
theorem SV.same {K : PySem.W.Frag} {CE D : Addr} {H H' : Hp} {v : V} {x : Str} (s : Same H H') (h : SV K CE D H v x) : SV K CE D H' v x := by
  cases h with
  | dat h => exact .dat (h.same (dp_same s) s)
  | sf h hd hn => exact .sf (h.keep (.same s)) hd hn
  | fac h => exact .fac (h.same s)
/-- a fact's text, also where an exception is handled -/
structure Rp (P : Program) (w : World) (K : PySem.W.Frag) (mg : Str → Option Value) (base : Heap) (CE D : Addr) : Prop where
  fac : ∃ g, OwnM K D "__repr__" g ∧ FnR P w K mg base CX0 43 g (spReprF CE D) ∧ FnQ P w K mg base 4 g (spReprQ CE D)
section
variable {X : Cx} {CE D : Addr} {p : Addr × Obj}
theorem call_reprV (R : Rp X.prog X.w X.K X.mg X.base CE D) (hg : X.A.guards = some []) (hr : Room 44 X.A) : CallR X (.builtin "repr") (rSV (SV X.K CE D)) := by
  intro pins s σ H xs us Q Iv r h
  obtain ⟨x, txt, rfl, sv, q⟩ := h
  have hun := hr.un
  cases sv with
  | dat h => exact RpD.call_reprE hg (by omega) pins s σ H _ us Q Iv r ⟨x, _, rfl, h, q⟩
  | sf h hd hn => exact call_reprSf hg (by omega) pins s σ H _ us Q Iv r ⟨x, _, rfl, h, hd, hn, q⟩
  | fac m =>
    obtain ⟨g, mg, F, _⟩ := R.fac
    obtain ⟨dx, h1⟩ := m.at_
    exact call_reprO mg F hr pass0 pins s σ H _ us Q Iv r ⟨_, dx, _, rfl, h1, _, _, _, _, _, rfl, m, _, rfl, q⟩
theorem call_reprH (R : Rp X.prog X.w X.K X.mg X.base CE D) (hg : X.A.guards = some []) (hr : RoomH 5 X.A) (hp : p ∈ X.pn) : CallR X (.builtin "repr") (rSV (SV X.K CE D)) := by
  intro pins s σ H xs us Q Iv r h
  obtain ⟨x, txt, rfl, sv, q⟩ := h
  have hun := hr.un
  cases sv with
  | dat h => exact RpD.call_reprE hg (by omega) pins s σ H _ us Q Iv r ⟨x, _, rfl, h, q⟩
  | sf h hd hn => exact call_reprSf hg (by omega) pins s σ H _ us Q Iv r ⟨x, _, rfl, h, hd, hn, q⟩
  | fac m =>
    obtain ⟨g, mg, _, F⟩ := R.fac
    obtain ⟨dx, h1⟩ := m.at_
    exact call_reprQ mg F hr hp pins s σ H _ us Q Iv r ⟨_, dx, _, rfl, h1, _, _, _, _, _, rfl, m, _, rfl, q⟩
end
end K1

namespace K1
open PySem PySem.Spec
open PyProof.Rows L2 EnT StX SmX TxS DuX ClX
/-! ### form_size of what is no form -/
theorem fnOr {P : Program} {w : World} {K : PySem.W.Frag} {mg : Str → Option Value} {base : Heap} {CX : CXT} {k : Nat} {f : Addr} {fd : FuncData} {ps : List Str} {sp sp' : Sp} (a : FnOk P w K mg base CX k f fd ps sp) (b : FnOk P w K mg base CX k f fd ps sp') : FnOk P w K mg base CX k f fd ps (fun vs H Q E => sp vs H Q E ∨ sp' vs H Q E) :=
  ⟨fun vs H Q E h => h.elim (a.len vs H Q E) (b.len vs H Q E), fun A outer s H args us vs Q E hr e0 hb r h => h.elim (a.run A outer s H args us vs Q E hr e0 hb r) (b.run A outer s H args us vs Q E hr e0 hb r)⟩
structure Kp (H H' : Hp) : Prop where
  t : TupK H H'
  l : ∀ a, H a = some (.lst (badLst.map V.str)) → H' a = some (.lst (badLst.map V.str))
  d : ∀ a, H a = some (.dK []) → H' a = some (.dK [])
theorem Kp.same {H H' : Hp} (s : Same H H') : Kp H H' := ⟨.same s, fun a e => s _ _ e, fun a e => s _ _ e⟩
theorem Kp.trans {H H1 H2 : Hp} (a : Kp H H1) (b : Kp H1 H2) : Kp H H2 := ⟨a.t.trans b.t, fun x e => b.l _ (a.l _ e), fun x e => b.d _ (a.d _ e)⟩
theorem Kp.set {H : Hp} {t : Addr} {as : List Addr} {o : HO} (ht : H t = some (.lst (as.map V.ref))) : Kp H (upd H t o) := by
  refine ⟨fun a xs e => upd_keep ht e (fun z => by cases z), fun a e => upd_keep ht e (fun z => ?_), fun a e => upd_keep ht e (fun z => by cases z)⟩
  cases as with
  | nil => cases HO.lst.inj z
  | cons x r => cases HO.lst.inj z
theorem BdAt.kp {H H' : Hp} {v : V} {d : PyData} (k : Kp H H') (h : BdAt H v d) : BdAt H' v d := by
  cases h with
  | non => exact .non
  | bl => exact .bl
  | int => exact .int
  | str z h => exact .str z h
  | tup a zs h e => exact .tup a zs h (k.t _ _ e)
  | lst a e => exact .lst a (k.l _ e)
  | tupN a e => exact .tupN a (k.t _ _ e)
  | dK a e => exact .dK a (k.d _ e)
theorem SfAt.kp {H H' : Hp} {v : V} {x : Sf} (k : Kp H H') (h : SfAt H v x) : SfAt H' v x := by
  induction h with
  | bad h => exact .bad (h.kp k)
  | nl h hs _ hr ok ih => exact .nl (k.t _ _ h) hs ih (hr.keep k.t) ok
  | nr h hs hl ok _ ih => exact .nr (k.t _ _ h) hs (hl.keep k.t) ok ih
/-! ### is_triple -/
def spTripleB : Sp := fun vs H Q _ => ∃ (v : V) (d : PyData), vs = [v] ∧ BdAt H v d ∧ Q (.bl false) H
def spTripleN : Sp := fun vs H Q _ => ∃ (a : Addr) (s : Str) (v1 v2 : V), vs = [.ref a] ∧ H a = some (.tup [.str s, v1, v2]) ∧ s ∈ signs ∧ Q (.bl true) H
def spT3 : Sp := fun vs H Q E => spTriple vs H Q E ∨ spTripleB vs H Q E ∨ spTripleN vs H Q E
section
variable {w : World} {P : Program} {base : Heap} {mg : Str → Option Value} {K : PySem.W.Frag} {aS : Addr}
theorem badtup_is {zs : List Str} (h : zs ∈ badTups) : (zs.map V.str).length ≠ 3 ∨ ∃ z x y, zs = [z, x, y] ∧ z ∉ signs := by
  simp only [badTups, List.mem_cons, List.not_mem_nil, or_false] at h
  rcases h with rfl | rfl | rfl | rfl | rfl | rfl
  · exact .inl (by decide)
  · exact .inl (by decide)
  · exact .inl (by decide)
  · exact .inr ⟨_, _, _, rfl, by decide +kernel⟩
  · exact .inl (by decide)
  · exact .inr ⟨_, _, _, rfl, by decide +kernel⟩
theorem ok_tripleB {f : Addr} {fd : FuncData} (F : Fun K "is_triple" "is_triple" sTriple f fd) (G : Gf K mg aS) : FnOk P w K mg base CX0 1 f fd ["value"] spTripleB := by
  have T := G.T
  refine F.ok scTriple (fun vs H Q E h => ?_) (fun cdv A outer s H vs Q E hr h => ?_)
  · obtain ⟨v, t, rfl, _⟩ := h
    rfl
  · obtain ⟨v, d, rfl, m, q⟩ := h
    refine ⟨_, pss_one (ps_ret (pe_and (pe_callB call_isi (by rfl) T.isinstance (by decide +kernel) (pa_cons (pv 0) (pa_cons (pe_bltn (v := .ty "tuple") (u := .type "tuple") (by rfl) T.tuple (by decide +kernel) rfl) pa_nil)))
      (pe_and (pe_cmpR op_eq (pe_callB call_len_seq (by rfl) T.len PySem.boot_len (pa_cons (pv 0) pa_nil)) pe_int (nomark _))
      (pe_and (pe_callB call_isi (by rfl) T.isinstance (by decide +kernel) (pa_cons (pe_ix ix_tup (pv 0) pe_int (fun _ _ => rfl)) (pa_cons (pe_bltn (v := .ty "str") (u := .type "str") (by rfl) T.str (by decide +kernel) rfl) pa_nil)))
      (pe_one (pe_cmpR op_in_seq (pe_ix ix_tup (pv 0) pe_int (fun _ _ => rfl)) (pe_glob (v := .ref aS) (by rfl) G.sg rfl) (by rfl))))))), ?_⟩
    cases m with
    | non => exact ⟨_, rfl, _, _, _, _, false, rfl, .ty _, .base .non, kit_ty (by decide +kernel), false, rfl, iteF q⟩
    | bl => exact ⟨_, rfl, _, _, _, _, false, rfl, .ty _, .base (.bl _), kit_ty (by decide +kernel), false, rfl, iteF q⟩
    | int => exact ⟨_, rfl, _, _, _, _, false, rfl, .ty _, .base (.int _), kit_ty (by decide +kernel), false, rfl, iteF q⟩
    | str z h => exact ⟨_, rfl, _, _, _, _, false, rfl, .ty _, .base (.str z), kit_ty (by decide +kernel), false, rfl, iteF q⟩
    | lst a e => exact ⟨_, rfl, _, _, _, _, false, rfl, .ty _, .base (.lst e), kit_ty (by decide +kernel), false, rfl, iteF q⟩
    | dK a e => exact ⟨_, rfl, _, _, _, _, false, rfl, .ty _, .base (.dK e), kit_ty (by decide +kernel), false, rfl, iteF q⟩
    | tup a zs hz e =>
      refine ⟨_, rfl, _, _, _, _, true, rfl, .ty _, .base (.tup e), kit_ty (by decide +kernel), true, rfl, iteT ?_⟩
      refine ⟨_, rfl, a, _, rfl, .inr (SqT.of e), rfl, _, rfl, ?_⟩
      rcases badtup_is hz with h3 | ⟨z, x, y, rfl, ns⟩
      · rw [decide_eq_false (fun q => h3 (by have := V.int.inj q; omega))]
        exact iteF q
      · refine iteT ?_
        refine ⟨_, rfl, a, _, _, .str z, rfl, rfl, SqT.of e, atI_nat (j := 0) rfl, ?_⟩
        refine ⟨_, _, _, _, true, rfl, .ty _, .base (.str z), kit_ty (by decide +kernel), true, rfl, iteT ?_⟩
        refine ⟨_, rfl, a, _, _, .str z, rfl, rfl, SqT.of e, atI_nat (j := 0) rfl, ?_⟩
        refine ⟨aS, _, rfl, .inr (G.st H), rfl, strs_flat _, ?_⟩
        rw [inV_mem, decide_eq_false ns]
        exact q
    | tupN a e =>
      refine ⟨_, rfl, _, _, _, _, true, rfl, .ty _, .base (.tup e), kit_ty (by decide +kernel), true, rfl, iteT ?_⟩
      refine ⟨_, rfl, a, _, rfl, .inr (SqT.of e), rfl, _, rfl, iteT ?_⟩
      refine ⟨_, rfl, a, _, _, .non, rfl, rfl, SqT.of e, atI_nat (j := 0) rfl, ?_⟩
      exact ⟨_, _, _, _, false, rfl, .ty _, .base .non, kit_ty (by decide +kernel), false, rfl, iteF q⟩
theorem ok_tripleN {f : Addr} {fd : FuncData} (F : Fun K "is_triple" "is_triple" sTriple f fd) (G : Gf K mg aS) : FnOk P w K mg base CX0 1 f fd ["value"] spTripleN := by
  have T := G.T
  refine F.ok scTriple (fun vs H Q E h => ?_) (fun cdv A outer s H vs Q E hr h => ?_)
  · obtain ⟨a, _, _, _, rfl, _⟩ := h
    rfl
  · obtain ⟨a, s, v1, v2, rfl, h, hs, q⟩ := h
    refine ⟨_, pss_one (ps_ret (pe_and (pe_callB call_isi (by rfl) T.isinstance (by decide +kernel) (pa_cons (pv 0) (pa_cons (pe_bltn (v := .ty "tuple") (u := .type "tuple") (by rfl) T.tuple (by decide +kernel) rfl) pa_nil)))
      (pe_and (pe_cmpR op_eq (pe_callB call_len_seq (by rfl) T.len PySem.boot_len (pa_cons (pv 0) pa_nil)) pe_int (nomark _))
      (pe_and (pe_callB call_isi (by rfl) T.isinstance (by decide +kernel) (pa_cons (pe_ix ix_tup (pv 0) pe_int (fun _ _ => rfl)) (pa_cons (pe_bltn (v := .ty "str") (u := .type "str") (by rfl) T.str (by decide +kernel) rfl) pa_nil)))
      (pe_one (pe_cmpR op_in_seq (pe_ix ix_tup (pv 0) pe_int (fun _ _ => rfl)) (pe_glob (v := .ref aS) (by rfl) G.sg rfl) (by rfl))))))), ?_⟩
    refine ⟨_, rfl, _, _, _, _, true, rfl, .ty _, .base (.tup h), kit_ty (by decide +kernel), true, rfl, iteT ?_⟩
    refine ⟨_, rfl, a, _, rfl, .inr (SqT.of h), rfl, _, rfl, iteT ?_⟩
    refine ⟨_, rfl, a, _, _, .str s, rfl, rfl, SqT.of h, atI_nat (j := 0) rfl, ?_⟩
    refine ⟨_, _, _, _, true, rfl, .ty _, .base (.str s), kit_ty (by decide +kernel), true, rfl, iteT ?_⟩
    refine ⟨_, rfl, a, _, _, .str s, rfl, rfl, SqT.of h, atI_nat (j := 0) rfl, ?_⟩
    refine ⟨aS, _, rfl, .inr (G.st H), rfl, strs_flat _, ?_⟩
    rw [inV_mem, decide_eq_true hs]
    exact q
theorem ok_t3 {f : Addr} {fd : FuncData} (F : Fun K "is_triple" "is_triple" sTriple f fd) (G : Gf K mg aS) : FnOk P w K mg base CX0 1 f fd ["value"] spT3 := fnOr (ok_triple F G) (fnOr (ok_tripleB F G) (ok_tripleN F G))
end
/-! ### the stack of parts -/
abbrev Gp := Fm ⊕ Sf
def GAt (H : Hp) (v : V) : Gp → Prop
  | .inl t => FmAt H v t ∧ t.Ok ∧ t.dep ≤ 60
  | .inr x => SfAt H v x ∧ x.dep ≤ 60
def gsz : Gp → Nat
  | .inl t => t.size
  | .inr x => x.size
theorem GAt.kp {H H' : Hp} {v : V} : ∀ {g : Gp}, Kp H H' → GAt H v g → GAt H' v g
  | .inl t, k, h => ⟨h.1.keep k.t, h.2⟩
  | .inr x, k, h => ⟨h.1.kp k, h.2⟩
structure It6 where
  a : Addr
  v : V
  m : Int
  k : Int
  g : Gp
structure I6 (H : Hp) (i : It6) : Prop where
  h : H i.a = some (.tup [i.v, .int i.m, .int i.k])
  f : GAt H i.v i.g
theorem I6.kp {H H' : Hp} {i : It6} (k : Kp H H') (x : I6 H i) : I6 H' i := ⟨k.t _ _ x.h, x.f.kp k⟩
def gsum : List It6 → Nat
  | [] => 0
  | i :: r => gsz i.g + gsum r
theorem gsum_app : ∀ (x y : List It6), gsum (x ++ y) = gsum x + gsum y
  | [], y => by simp [gsum]
  | i :: r, y => by
    have := gsum_app r y
    simp only [List.cons_append, gsum, this]
    omega
theorem gsz_pos : ∀ g : Gp, 1 ≤ gsz g
  | .inl t => t.size_pos
  | .inr (.bad _) => Nat.le_refl _
  | .inr (.nl _ _ _) => by simp only [gsz, Sf.size]; omega
  | .inr (.nr _ _ _) => by simp only [gsz, Sf.size]; omega
theorem gsum_len : ∀ l : List It6, l.length ≤ gsum l
  | [] => Nat.le_refl _
  | i :: r => by
    have a := gsum_len r
    have b := gsz_pos i.g
    simp only [List.length_cons, gsum]
    omega
def isB : Gp → Prop
  | .inl _ => False
  | .inr _ => True
def hasB (l : List It6) : Prop := ∃ i ∈ l, isB i.g
end K1

namespace K1
open PySem PySem.Spec
open PyProof.Rows L2 EnT StX SmX TxS DuX ClX
theorem Kp.set6 {H : Hp} {t : Addr} {its : List It6} {o : HO} (ht : H t = some (.lst (its.map fun i => V.ref i.a))) : Kp H (upd H t o) :=
  Kp.set (as := its.map fun i => i.a) (by rw [List.map_map]; exact ht)
structure AtS (L : Addr) (H0 : Hp) (m : Nat) (σ : L2.St) (H : Hp) : Prop where
  ex : ∃ (its : List It6) (lv dp : Int) (x0 x4 x5 x6 x7 : Option V), σ = [x0, some (.int lv), some (.int dp), some (.ref L), x4, x5, x6, x7] ∧ m = gsum its ∧ gsum its ≤ 2000 ∧ H L = some (.lst (its.map fun i => V.ref i.a)) ∧ (∀ i ∈ its, I6 H i) ∧ hasB its ∧ Same H0 H
/-- what all places within a turn share -/
structure TurnN (L : Addr) (H0 : Hp) (its : List It6) (M : Nat) (H : Hp) (En : Ends) : Prop where
  hL : H L = some (.lst (its.map fun i => V.ref i.a))
  hi : ∀ i ∈ its, I6 H i
  s0 : Same H0 H
  nL : H0 L = none
  M2 : M ≤ 2000
  nx : ∀ σ' H', (∃ m', m' < M ∧ AtS L H0 m' σ' H') → En.nx σ' H'
  rt : ∀ H', Same H0 H' → En.rt .non H'
/-- a node is taken apart: both its sides, or one for both -/
structure AtNd (one : Bool) (L : Addr) (H0 : Hp) (σ : L2.St) (H : Hp) (En : Ends) : Prop where
  ex : ∃ (its : List It6) (a : Addr) (s : Str) (vl vr : V) (gl gr : Gp) (lv dp m k : Int) (M : Nat) (x0 x7 : Option V), σ = [x0, some (.int lv), some (.int dp), some (.ref L), some (.ref a), some (.int m), some (.int k), x7] ∧ TurnN L H0 its M H En ∧
    H a = some (.tup [.str s, vl, vr]) ∧ GAt H vl gl ∧ GAt H vr gr ∧ gsum its + gsz gl + gsz gr < M ∧ (hasB its ∨ (one = false ∧ (isB gl ∨ isB gr)))
structure AtN (L : Addr) (H0 : Hp) (σ : L2.St) (H : Hp) (En : Ends) : Prop where
  ex : ∃ (its : List It6) (v : V) (g : Gp) (lv dp m k : Int) (M : Nat) (x0 x7 : Option V), σ = [x0, some (.int lv), some (.int dp), some (.ref L), some v, some (.int m), some (.int k), x7] ∧ TurnN L H0 its M H En ∧ GAt H v g ∧ gsum its + gsz g ≤ M ∧ (hasB its ∨ isB g)
def rEqX (K : PySem.W.Frag) : R2 := fun x y H Q => rEqD K x y H Q ∨ rEqS x y H Q
theorem op_eqX5 {X : Cx} (hu : X.A.units + 64 < cLine) : OpR X (compareOp .Eq) (rEqX X.K) := fun pins s σ H x y v u Q I rx ry h => h.elim (op_eqD hu pins s σ H x y v u Q I rx ry) (op_eqS hu pins s σ H x y v u Q I rx ry)
def spSizeNo : Sp := fun vs H Q _ => ∃ (v : V) (x : Sf), vs = [v] ∧ SfAt H v x ∧ x.size ≤ 2000 ∧ x.dep ≤ 60 ∧ ∀ H', Same H H' → Q .non H'
section
variable {w : World} {P : Program} {base : Heap} {mg : Str → Option Value} {K : PySem.W.Frag} {aS : Addr}
variable {f fN fT : Addr} {cdv : Value} {A : Around} {outer : List Env} {s : Shared} {H00 : Hp} {E : XK} {L : Addr} {H0 : Hp}
theorem sn_app (T : Free mg) (hr : Room 1 (A.deeper (envOfC "form_size" (defScope sSize) s.heap.objs.size f cdv))) :
    PSs (cxZ P w K mg base f cdv A outer s H00 E) whI.1 (fun En σ H => AtNd true L H0 σ H En) := by
  refine pss_of fun En σ H hyp => ?_
  obtain ⟨its, a, sg, vl, vr, gl, gr, lv, dp, m, k, M, x0, x7, eσ, tn, h, g1, g2, lt, hb⟩ := hyp.ex
  refine ⟨_, pss_one (ps_expr (pe_bm PySem.F.plainAttrs_list PySem.F.slot_list_append PySem.F.type_list_append mt_append (pv 3) (pa_cons (pe_tup (pa_cons (pe_ix ix_tup (pv 4) pe_int (fun _ _ => rfl)) (pa_cons (pe_op op_add (pv 5) (pv 5)) (pa_cons (pe_op op_add (pv 6) pe_int) pa_nil)))) pa_nil))), ?_⟩
  subst eσ
  have hL := tn.hL
  have M2 := tn.M2
  have gl1 := gsum_len its
  have gp := gsz_pos gr
  refine ⟨_, rfl, .inl ⟨rfl, _, SqL.of hL⟩, ?_⟩
  refine ⟨_, rfl, a, _, _, vl, rfl, rfl, SqT.of h, atI_nat (j := 1) rfl, _, rfl, _, rfl, _, _, rfl, rfl, _, rfl, _, _, rfl, rfl, (by show 3 ≤ sizeLine; decide), fun p np => ?_⟩
  have s1 : Same H (upd H p (.tup [vl, .int (m + m), .int (k + 1)])) := same_upd np
  refine ⟨L, _, _, rfl, rfl, s1 _ _ hL, by rw [List.length_map, sizeLine_eq]; omega, ?_⟩
  have kp : Kp H (upd (upd H p (.tup [vl, .int (m + m), .int (k + 1)])) L (.lst (its.map (fun i => V.ref i.a) ++ [.ref p]))) := (Kp.same s1).trans (Kp.set6 (s1 _ _ hL))
  have pL : p ≠ L := fun e => by rw [e, hL] at np; cases np
  have hp : (upd (upd H p (.tup [vl, .int (m + m), .int (k + 1)])) L (.lst (its.map (fun i => V.ref i.a) ++ [.ref p]))) p = some (.tup [vl, .int (m + m), .int (k + 1)]) := by
    rw [upd_ne pL, upd_same]
  have hb' : hasB its := by
    rcases hb with q | q
    · exact q
    · cases q.1
  obtain ⟨j, hj, ib⟩ := hb'
  have es : gsum (its ++ [⟨p, vl, m + m, k + 1, gl⟩]) = gsum its + gsz gl := by rw [gsum_app]; rfl
  refine tn.nx _ _ ⟨gsum (its ++ [⟨p, vl, m + m, k + 1, gl⟩]), by omega, its ++ [⟨p, vl, m + m, k + 1, gl⟩], lv, dp, _, _, _, _, _, rfl, rfl, by omega, by rw [upd_same, List.map_append]; rfl, fun i hx => ?_, ⟨j, List.mem_append_left _ hj, ib⟩, same_set (tn.s0.trans s1) tn.nL⟩
  rcases List.mem_append.mp hx with e | e
  · exact (tn.hi i e).kp kp
  · rw [List.mem_singleton.mp e]
    exact ⟨hp, g1.kp kp⟩
theorem sn_ext (T : Free mg) (hr : Room 1 (A.deeper (envOfC "form_size" (defScope sSize) s.heap.objs.size f cdv))) :
    PSs (cxZ P w K mg base f cdv A outer s H00 E) whI.2 (fun En σ H => AtNd false L H0 σ H En) := by
  refine pss_of fun En σ H hyp => ?_
  obtain ⟨its, a, sg, vl, vr, gl, gr, lv, dp, m, k, M, x0, x7, eσ, tn, h, g1, g2, lt, hb⟩ := hyp.ex
  refine ⟨_, pss_one (ps_expr (pe_bm PySem.F.plainAttrs_list PySem.F.slot_list_extend PySem.F.type_list_extend mt_extend (pv 3) (pa_cons (pe_lc (own := [("side", 7)]) (g := gName 7) (tt := tYes) (te := tTup (tCons (tVar 7) (tCons (tVar 5) (tCons (tOp (rI0 fun i j => .int (i + j)) (tVar 6) (tC (.int 1))) tNil)))) rfl scSize.nd (pi_tup (pe_slice sl_tup (pv 4) (po_some pe_int) po_none))
              (blkOk_by (own := [("side", 7)]) (N := nmSz) (sc := defScope sSize) (by decide +kernel)) (fun _ _ _ _ _ => pg_name (i := 7) scSize.nd rfl (Or.inl rfl)) (fun _ _ _ _ _ => pts_nil)
              (fun _ _ _ _ _ => pe_tup (pa_cons (pv 7) (pa_cons (pv 5) (pa_cons (pe_op op_add (pv 6) pe_int) pa_nil))))) pa_nil))), ?_⟩
  subst eσ
  have hL := tn.hL
  have M2 := tn.M2
  have gl1 := gsum_len its
  refine ⟨_, rfl, .inl ⟨rfl, _, SqL.of hL⟩, ?_⟩
  refine ⟨_, rfl, 1, rfl, a, _, rfl, SqT.of h, (fun e => absurd e.1 (by show ¬ (HT.sIx 3 0 (some 1) = 0); decide)), fun pp npp => ?_⟩
  have s1 : Same H (upd H pp (.tup [vl, vr])) := same_upd npp
  have hpp : (upd H pp (.tup [vl, vr])) pp = some (.tup [vl, vr]) := upd_same
  refine ⟨pp, rfl, ⟨_, SqT.of upd_same⟩, fun D nD => ?_⟩
  refine lc_tup (K := K) (a := pp) (xs := [vl, vr]) (fun i H' => Same (upd H pp (.tup [vl, vr])) H' ∧ ∃ ps : List Addr, ps.length = i ∧ H' D = some (.lst (ps.map V.ref)) ∧ ∀ (j : Nat) (q : Addr) (u : V), ps[j]? = some q → ([vl, vr] : List V)[j]? = some u → H' q = some (.tup [u, .int m, .int (k + 1)])) ?_ ?_ ?_ ?_
  · exact ⟨same_upd nD, [], rfl, upd_same, fun j q u e => by cases e⟩
  · rintro i H' _ ⟨s2, _⟩
    exact SqT.of (s2 _ _ hpp)
  · rintro i x H' hx ⟨s2, ps, lp, hD, hq⟩
    have hi2 : i < 2 := (List.getElem?_eq_some_iff.mp hx).1
    refine ⟨rfl, _, rfl, _, rfl, _, rfl, _, _, rfl, rfl, (by show 3 ≤ sizeLine; decide), fun q nq => ?_⟩
    have s3 : Same H' (upd H' q (.tup [x, .int m, .int (k + 1)])) := same_upd nq
    have hD3 := s3 _ _ hD
    have nqD : q ≠ D := fun e => by rw [e, hD] at nq; cases nq
    refine ⟨_, hD3, by rw [List.length_map, lp, sizeLine_eq]; omega, same_set (s2.trans s3) nD, ps ++ [q], by rw [List.length_append, lp]; rfl, by rw [upd_same, List.map_append]; rfl, fun j q' u e1 e2 => ?_⟩
    by_cases hj : j < ps.length
    · rw [List.getElem?_append_left hj] at e1
      have z := hq j q' u e1 e2
      rw [upd_ne (fun e => by rw [e, hD] at z; cases z)]
      exact s3 _ _ z
    · rw [List.getElem?_append_right (by omega)] at e1
      have e : j - ps.length = 0 := by
        have := (List.getElem?_eq_some_iff.mp e1).1
        simp at this
        omega
      rw [e] at e1
      cases e1
      have ej : j = i := by omega
      rw [ej, hx] at e2
      cases e2
      rw [upd_ne nqD, upd_same]
  · rintro H' ⟨s2, ps, lp, hD, hq⟩
    obtain ⟨p1, p2, rfl⟩ : ∃ p1 p2, ps = [p1, p2] := by
      match ps, lp with
      | [p1, p2], _ => exact ⟨p1, p2, rfl⟩
    have q1 := hq 0 p1 vl rfl rfl
    have q2 := hq 1 p2 vr rfl rfl
    have s12 := s1.trans s2
    refine ⟨L, D, _, _, rfl, rfl, s12 _ _ hL, hD, by rw [List.length_map, sizeLine_eq]; show its.length + 2 ≤ _; omega, ?_⟩
    have kp : Kp H (upd H' L (.lst (its.map (fun i => V.ref i.a) ++ [V.ref p1, V.ref p2]))) := (Kp.same s12).trans (Kp.set6 (s12 _ _ hL))
    have c1 : (upd H' L (.lst (its.map (fun i => V.ref i.a) ++ [V.ref p1, V.ref p2]))) p1 = some (.tup [vl, .int m, .int (k + 1)]) := by
      rw [upd_ne (fun e => by rw [e, s12 _ _ hL] at q1; cases q1)]
      exact q1
    have c2 : (upd H' L (.lst (its.map (fun i => V.ref i.a) ++ [V.ref p1, V.ref p2]))) p2 = some (.tup [vr, .int m, .int (k + 1)]) := by
      rw [upd_ne (fun e => by rw [e, s12 _ _ hL] at q2; cases q2)]
      exact q2
    have es : gsum (its ++ [⟨p1, vl, m, k + 1, gl⟩, ⟨p2, vr, m, k + 1, gr⟩]) = gsum its + (gsz gl + (gsz gr + 0)) := by rw [gsum_app]; rfl
    refine tn.nx _ _ ⟨gsum (its ++ [⟨p1, vl, m, k + 1, gl⟩, ⟨p2, vr, m, k + 1, gr⟩]), by omega, its ++ [⟨p1, vl, m, k + 1, gl⟩, ⟨p2, vr, m, k + 1, gr⟩], lv, dp, _, _, _, _, _, rfl, rfl, by omega, by rw [upd_same, List.map_append]; rfl, fun i hx => ?_, ?_, same_set (tn.s0.trans s12) tn.nL⟩
    · rcases List.mem_append.mp hx with e | e
      · exact (tn.hi i e).kp kp
      · simp only [List.mem_cons, List.not_mem_nil, or_false] at e
        rcases e with rfl | rfl
        · exact ⟨c1, g1.kp kp⟩
        · exact ⟨c2, g2.kp kp⟩
    · rcases hb with ⟨j, hj, ib⟩ | ⟨_, ib | ib⟩
      · exact ⟨j, List.mem_append_left _ hj, ib⟩
      · exact ⟨_, List.mem_append_right _ List.mem_cons_self, ib⟩
      · exact ⟨_, List.mem_append_right _ (List.mem_cons_of_mem _ List.mem_cons_self), ib⟩
theorem noB {its : List It6} {t : Fm} (h : hasB its ∨ isB (.inl t)) : hasB its := h.elim id fun q => q.elim
theorem sn_rest (T : Free mg) (hN : Has P w K mg base CX0 1 "is_name" fN ["value"] spIsName) (hT : Has P w K mg base CX0 1 "is_triple" fT ["value"] spT3) (hr : Room 1 (A.deeper (envOfC "form_size" (defScope sSize) s.heap.objs.size f cdv))) :
    PSs (cxZ P w K mg base f cdv A outer s H00 E) (whB.drop 2) (fun En σ H => AtN L H0 σ H En) := by
  refine pss_of fun En σ H hyp => ?_
  obtain ⟨its, v, g, lv, dp, m, k, M, x0, x7, eσ, tn, hg, lt, hb⟩ := hyp.ex
  have hun := hr.un
  refine ⟨_, pss_one (ps_if (pt_val (pe_has hN hr (by rfl) pass0 (pa_cons (pv 4) pa_nil)))
          (pss_one (ps_set (i := 1) scSize.nd rfl (.inl rfl) (pe_op op_add (pv 1) (pv 5))))
          (pss_one (ps_if (pt_not (pt_val (pe_has hT hr (by rfl) pass0 (pa_cons (pv 4) pa_nil)))) (pss_one (ps_ret pe_non))
          (pss_one (ps_if (PW.pt (pw_and (pt_val (pe_has hT hr (by rfl) pass0 (pa_cons (pe_ix ix_tup (pv 4) pe_int (fun _ _ => rfl)) pa_nil))) (pw_and1 (pt_cmpR (op_eqX5 (by show (A.deeper (envOfC "form_size" (defScope sSize) s.heap.objs.size f cdv)).units + 64 < cLine; omega)) (pe_ix ix_tup (pv 4) pe_int (fun _ _ => rfl)) (pe_ix ix_tup (pv 4) pe_int (fun _ _ => rfl)) (nomark _)))))
            (sn_app (L := L) (H0 := H0) T hr)
            (sn_ext (L := L) (H0 := H0) T hr)))))), ?_⟩
  subst eσ
  have M2 := tn.M2
  cases g with
  | inl t =>
    obtain ⟨ft, ok, d60⟩ := hg
    refine ⟨_, rfl, v, rfl, ft.vok ok, _, rfl, ?_⟩
    cases ft with
    | leaf z =>
      rw [show nameV (.str z) = true from ok]
      refine iteT ⟨_, rfl, _, rfl, _, _, rfl, rfl, ?_⟩
      have : gsz (.inl (Fm.leaf z)) = 1 := rfl
      exact tn.nx _ _ ⟨gsum its, by omega, its, lv + m, dp, _, _, _, _, _, rfl, rfl, by omega, tn.hL, tn.hi, noB hb, tn.s0⟩
    | node h hl hr' =>
      rename_i a s' vl vr l r
      rw [show nameV (.ref a) = false from rfl]
      refine iteF ?_
      refine ⟨_, rfl, .inl ⟨.ref a, .node s' l r, rfl, .node h hl hr', ok, _, rfl, iteF ?_⟩⟩
      refine ⟨_, rfl, a, _, _, vl, rfl, rfl, SqT.of h, atI_nat (j := 1) rfl, .inl ⟨vl, l, rfl, hl, ok.2.1, _, rfl, ?_⟩⟩
      have dl : l.dep ≤ 60 ∧ r.dep ≤ 60 := by
        rw [Fm.dep_node] at d60
        omega
      have gz : gsz (.inl (Fm.node s' l r)) = 1 + l.size + r.size := rfl
      have st : ∀ one, AtNd one L H0 [x0, some (.int lv), some (.int dp), some (.ref L), some (.ref a), some (.int m), some (.int k), x7] H En := fun one => ⟨its, a, s', vl, vr, .inl l, .inl r, lv, dp, m, k, M, x0, x7, rfl, tn, h, ⟨hl, ok.2.1, dl.1⟩, ⟨hr', ok.2.2, dl.2⟩, by show gsum its + l.size + r.size < M; omega, .inl (noB hb)⟩
      cases hn : isNode l with
      | false => exact iteF (iteF (st _))
      | true =>
        refine iteT ⟨_, rfl, a, _, _, vl, rfl, rfl, SqT.of h, atI_nat (j := 1) rfl, _, rfl, a, _, _, vr, rfl, rfl, SqT.of h, atI_nat (j := 2) rfl, .inl ⟨_, _, hl.dp, hr'.dp, Fm.shaped ok.2.1 dl.1, Fm.shaped ok.2.2 dl.2, _, rfl, ?_⟩⟩
        cases he : PyData.eqv l.dat r.dat with
        | false => exact iteF (st _)
        | true => exact iteT (st _)
  | inr x =>
    obtain ⟨fx, d60⟩ := hg
    refine ⟨_, rfl, v, rfl, fx.vok, _, rfl, ?_⟩
    cases fx with
    | bad h =>
      rw [h.noname]
      exact iteF ⟨_, rfl, .inr (.inl ⟨v, _, rfl, h, _, rfl, iteT (tn.rt _ tn.s0)⟩)⟩
    | nl h hs hx hr2 ok =>
      rename_i a s' vx vr x r
      rw [show nameV (.ref a) = false from rfl]
      refine iteF ?_
      refine ⟨_, rfl, .inr (.inr ⟨a, s', _, _, rfl, h, hs, _, rfl, iteF ?_⟩)⟩
      simp only [Sf.dep] at d60
      have gz : gsz (.inr (Sf.nl s' x r)) = 1 + x.size + r.size := rfl
      have st : AtNd false L H0 [x0, some (.int lv), some (.int dp), some (.ref L), some (.ref a), some (.int m), some (.int k), x7] H En := ⟨its, a, s', vx, vr, .inr x, .inl r, lv, dp, m, k, M, x0, x7, rfl, tn, h, ⟨hx, by omega⟩, ⟨hr2, ok, by omega⟩, by show gsum its + x.size + r.size < M; omega, .inr ⟨rfl, .inl trivial⟩⟩
      have hx0 := hx
      have dx : x.dep ≤ 60 := by omega
      cases hx with
      | bad hb' => exact ⟨_, rfl, a, _, _, vx, rfl, rfl, SqT.of h, atI_nat (j := 1) rfl, .inr (.inl ⟨vx, _, rfl, hb', _, rfl, iteF (iteF st)⟩)⟩
      | nl hA sA _ _ _ =>
        refine ⟨_, rfl, a, _, _, _, rfl, rfl, SqT.of h, atI_nat (j := 1) rfl, .inr (.inr ⟨_, _, _, _, rfl, hA, sA, _, rfl, ?_⟩)⟩
        refine iteT ⟨_, rfl, a, _, _, _, rfl, rfl, SqT.of h, atI_nat (j := 1) rfl, _, rfl, a, _, _, vr, rfl, rfl, SqT.of h, atI_nat (j := 2) rfl, .inr ⟨⟨_, r, .inl ⟨hx0, hr2⟩, ok, dx⟩, _, rfl, iteF st⟩⟩
      | nr hA sA _ _ _ =>
        refine ⟨_, rfl, a, _, _, _, rfl, rfl, SqT.of h, atI_nat (j := 1) rfl, .inr (.inr ⟨_, _, _, _, rfl, hA, sA, _, rfl, ?_⟩)⟩
        refine iteT ⟨_, rfl, a, _, _, _, rfl, rfl, SqT.of h, atI_nat (j := 1) rfl, _, rfl, a, _, _, vr, rfl, rfl, SqT.of h, atI_nat (j := 2) rfl, .inr ⟨⟨_, r, .inl ⟨hx0, hr2⟩, ok, dx⟩, _, rfl, iteF st⟩⟩
    | nr h hs hl ok hx =>
      rename_i a s' vl vx l x
      rw [show nameV (.ref a) = false from rfl]
      refine iteF ?_
      refine ⟨_, rfl, .inr (.inr ⟨a, s', _, _, rfl, h, hs, _, rfl, iteF ?_⟩)⟩
      simp only [Sf.dep] at d60
      have gz : gsz (.inr (Sf.nr s' l x)) = 1 + l.size + x.size := rfl
      have st : AtNd false L H0 [x0, some (.int lv), some (.int dp), some (.ref L), some (.ref a), some (.int m), some (.int k), x7] H En := ⟨its, a, s', vl, vx, .inl l, .inr x, lv, dp, m, k, M, x0, x7, rfl, tn, h, ⟨hl, ok, by omega⟩, ⟨hx, by omega⟩, by show gsum its + l.size + x.size < M; omega, .inr ⟨rfl, .inr trivial⟩⟩
      refine ⟨_, rfl, a, _, _, vl, rfl, rfl, SqT.of h, atI_nat (j := 1) rfl, .inl ⟨vl, l, rfl, hl, ok, _, rfl, ?_⟩⟩
      cases hn : isNode l with
      | false => exact iteF (iteF st)
      | true => exact iteT ⟨_, rfl, a, _, _, vl, rfl, rfl, SqT.of h, atI_nat (j := 1) rfl, _, rfl, a, _, _, vx, rfl, rfl, SqT.of h, atI_nat (j := 2) rfl, .inr ⟨⟨x, l, .inr ⟨hl, hx⟩, ok, by omega⟩, _, rfl, iteF st⟩⟩
theorem sn_any (H0 : Hp) (T : Free mg) (hN : Has P w K mg base CX0 1 "is_name" fN ["value"] spIsName) (hT : Has P w K mg base CX0 1 "is_triple" fT ["value"] spT3) (hr : Room 1 (A.deeper (envOfC "form_size" (defScope sSize) s.heap.objs.size f cdv))) :
    PSs (cxZ P w K mg base f cdv A outer s H00 E) (whB.drop 2) (fun En σ H => ∃ L, AtN L H0 σ H En) := pss_of fun En σ H h => by
  obtain ⟨L, h⟩ := h
  exact ⟨_, sn_rest (L := L) (H0 := H0) T hN hT hr, h⟩
end
end K1

namespace K1
open PySem PySem.Spec
open PyProof.Rows L2 EnT StX SmX TxS DuX ClX
section
variable {w : World} {P : Program} {base : Heap} {mg : Str → Option Value} {K : PySem.W.Frag} {aS : Addr}
theorem ok_sizeNo {f fN fT : Addr} {fd : FuncData} (F : Fun K "form_size" "form_size" sSize f fd) (T : Free mg) (hN : Has P w K mg base CX0 1 "is_name" fN ["value"] spIsName) (hT : Has P w K mg base CX0 1 "is_triple" fT ["value"] spT3) : FnOk P w K mg base CX0 2 f fd ["value"] spSizeNo := by
  refine F.ok scSize (fun vs H Q E h => ?_) (fun cdv A outer s H vs Q E hr h => ?_)
  · obtain ⟨v, t, rfl, _⟩ := h
    rfl
  · obtain ⟨v, x, rfl, mt, l5, d6, q⟩ := h
    refine ⟨_, pss_cons (ps_asg2 pe_int (pg_name (i := 1) scSize.nd rfl (.inl rfl)) (pg_name (i := 2) scSize.nd rfl (.inl rfl)))
      (pss_cons (ps_set (i := 3) scSize.nd rfl (.inl rfl) (pe_lst (pa_cons (pe_tup (pa_cons (pv 0) (pa_cons pe_int (pa_cons pe_int pa_nil)))) pa_nil)))
      (pss_cons (ps_while PassesOwn.never (pt_truth (pv 3) (by intro _; rfl))
        (pss_cons (ps_asg (pe_bm0 PySem.F.plainAttrs_list PySem.F.slot_list_pop PySem.F.type_list_pop mt_pop (pv 3)) (pg_tup rfl (pgs_cons (pg_name (i := 4) scSize.nd rfl (.inl rfl)) (pgs_cons (pg_name (i := 5) scSize.nd rfl (.inr rfl)) (pgs_cons (pg_name (i := 6) scSize.nd rfl (.inr rfl)) pgs_nil)))))
        (pss_cons (ps_set (i := 2) scSize.nd rfl (.inl rfl) (pe_ifExp (pt_cmpR op_gt (pv 6) (pv 2) (nomark _)) (pv 6) (pv 2)))
        (sn_any H T hN hT hr))))
      pss_never)), ?_⟩
    refine ⟨_, rfl, (by show 3 ≤ sizeLine; decide), fun a1 n1 => ⟨(by show 1 ≤ sizeLine; decide), fun L nL => ?_⟩⟩
    have s1 : Same H (upd H a1 (.tup [v, .int 1, .int 1])) := same_upd n1
    have h1 : (upd H a1 (.tup [v, .int 1, .int 1])) a1 = some (.tup [v, .int 1, .int 1]) := upd_same
    have nL0 : H L = none := by
      cases hh : H L with
      | none => rfl
      | some o =>
        rw [s1 _ _ hh] at nL
        cases nL
    have s2 := s1.trans (same_upd (o := .lst [.ref a1]) nL)
    have h2 := (same_upd (o := .lst [.ref a1]) nL) _ _ h1
    refine ⟨fun m σ H' => AtS L H m σ H', ⟨gsum [⟨a1, v, 1, 1, .inr x⟩], [⟨a1, v, 1, 1, .inr x⟩], 0, 0, _, _, _, _, _, rfl, rfl, by show x.size + 0 ≤ 2000; omega, upd_same, fun i hi => ?_, ⟨_, List.mem_cons_self, trivial⟩, s2⟩, ?_⟩
    · rw [List.mem_singleton.mp hi]
      exact ⟨h2, mt.kp (.same s2), d6⟩
    · rintro m σ1 H1 ⟨its, lv, dp, x0, x4, x5, x6, x7, rfl, rfl, e3, hL, hi, hb, s0⟩
      refine ⟨_, rfl, _, .inl ⟨_, SqL.of hL, rfl⟩, ?_⟩
      rcases List.eq_nil_or_concat its with rfl | ⟨ini, y, rfl⟩
      · obtain ⟨j, hj, _⟩ := hb
        cases hj
      · rw [List.concat_eq_append] at hL hi e3 hb ⊢
        have em : ((ini ++ [y]).map fun i => V.ref i.a) = (ini.map fun i => V.ref i.a) ++ [.ref y.a] := by rw [List.map_append]; rfl
        rw [em] at hL ⊢
        have ek : (!((ini.map fun i => V.ref i.a) ++ [V.ref y.a]).isEmpty) = true := by simp
        rw [ek]
        refine iteT ⟨fun σ' H' => ∃ m', m' < gsum (ini ++ [y]) ∧ AtS L H m' σ' H', fun σ' H' h => h, ?_⟩
        have X := hi y (by simp)
        refine ⟨_, rfl, .inl ⟨rfl, _, SqL.of hL⟩, L, _, .ref y.a, rfl, rfl, hL, by simp, ?_⟩
        have ed : ((ini.map fun i => V.ref i.a) ++ [V.ref y.a]).dropLast = ini.map fun i => V.ref i.a := by simp
        rw [ed]
        have kp : Kp H1 (upd H1 L (.lst (ini.map fun i => V.ref i.a))) := Kp.set6 (its := ini ++ [y]) (by rw [em]; exact hL)
        have s3 : Same H (upd H1 L (.lst (ini.map fun i => V.ref i.a))) := same_set s0 nL0
        have X' := X.kp kp
        have hL' : (upd H1 L (.lst (ini.map fun i => V.ref i.a))) L = some (.lst (ini.map fun i => V.ref i.a)) := upd_same
        generalize upd H1 L (.lst (ini.map fun i => V.ref i.a)) = H2 at kp s3 X' hL' ⊢
        refine ⟨y.a, _, rfl, SqT.of X'.h, rfl, _, _, rfl, _, _, rfl, _, _, rfl, rfl, ?_⟩
        refine ⟨_, rfl, _, rfl, _, _, rfl, rfl, _, rfl, ?_⟩
        have es : gsum (ini ++ [y]) = gsum ini + (gsz y.g + 0) := by rw [gsum_app]; rfl
        have key : ∀ dp' : Int, ∀ σ' : L2.St, σ' = [x0, some (.int lv), some (.int dp'), some (.ref L), some y.v, some (.int y.m), some (.int y.k), x7] → ∀ En : Ends, (∀ σ' H', (∃ m', m' < gsum (ini ++ [y]) ∧ AtS L H m' σ' H') → En.nx σ' H') → (∀ H', Same H H' → En.rt .non H') → ∃ L', AtN L' H σ' H2 En := fun dp' σ' es' En hn hq => ⟨L, ini, y.v, y.g, lv, dp', y.m, y.k, gsum (ini ++ [y]), _, _, es', ⟨hL', fun i hx => (hi i (by simp [hx])).kp kp, s3, nL0, e3, hn, hq⟩, X'.f, by omega, by
          obtain ⟨j, hj, ib⟩ := hb
          rcases List.mem_append.mp hj with q | q
          · exact .inl ⟨j, q, ib⟩
          · rw [List.mem_singleton.mp q] at ib
            exact .inr ib⟩
        by_cases hk : y.k > dp
        · rw [decide_eq_true hk]
          exact iteT ⟨_, rfl, key y.k _ rfl _ (fun σ' H' h => h) fun H' s' => q H' s'⟩
        · rw [decide_eq_false hk]
          exact iteF ⟨_, rfl, key dp _ rfl _ (fun σ' H' h => h) fun H' s' => q H' s'⟩
end
end K1

namespace K1
open PySem PySem.Spec
open PyProof.Rows L2
/-! ### own errors over ArithmeticError, with one attribute -/
abbrev bmA : List Value := [.type "ArithmeticError", .type "Exception", .type "BaseException", .type "object"]
structure OexA (K : PySem.W.Frag) (C : Addr) : Prop where
  ini : PySem.W.excInitIn K C bmA "ArithmeticError.__new__" = true
  ov : PySem.W.excOver K C bmA = true
  hd : PySem.W.hasDictIn K C = true
  sa : PySem.W.findIn K (.ref C) "__setattr__" = some (some (.builtin "object.__setattr__"))
  exC : PySem.W.subIn K (.ref C) (.type "BaseException") = some true
  tyC : PySem.W.typeIn K (.ref C) = some (.type "type")
  kC : PySem.W.keepIn
      K (.ref C) = true
abbrev exB (C t1 : Addr) (dd : Option Addr) : Obj := { cls := .ref C, dict := dd, data := .fields #[.ref t1, .none, .none, .none, .bool false, .none] }
theorem osa_A {P : Program} {w : World} {A : Around} {R : Result → Shared → Prop} {hp : Heap} {g : Array GenState} {d : Drawn} {t : Nat} {os : OsState} {K : PySem.W.Frag} {C a t1 : Addr} {f : Str} {tk : Tok} {u : Value}
    (T : OexA K C) (X : K.In hp) (ho : hp.get? a = some (exB C t1 none)) (ht : PySem.W.takerIn K C f = some none)
    (q : ∀ h' tk' dx, (∀ c v, c ≠ a → hp.get? c = some v → h'.get? c = some v) → hp.objs.size ≤ dx → dx ≠ a → h'.get? a = some (exB C t1 (some dx)) → h'.Ns1 dx (fun z => if z = f then some u else none) → R (.ok (.ret .none)) ⟨h', g, d, tk', os⟩) :
    codeAny (model P w) A (.call (.builtin "object.__setattr__") ⟨[.ref a, .str f tk, u], []⟩) R ⟨hp, g, d, t, os⟩ := by
  refine PySem.W.osa_openX (od := none) (s := ⟨hp, g, d, t, os⟩) PySem.F.store_ArithmeticError X ⟨ho, rfl, rfl, trivial⟩ T.ov ht fun b => ?_
  obtain ⟨cd, hc, hd'⟩ := PySem.W.any_some T.hd
  have hxs : a ≠ hp.objs.size := Nat.ne_of_lt (Heap.lt_size ho)
  refine wpAny_bind (wpAny_pure (wpAny_bind (PySem.W.instanceDict_exc (s := ⟨hp, g, d, t, os⟩) (t := t1) (c2 := .none) ho (PySem.W.looks_clsIn X hc) hd' ?_)))
  show wpAny _ _ (Builtin.ObjectAttr.storeInDict hp.objs.size (.str f tk) f u) _ _ _
  refine PySem.HandSPX.store_in_new ?_ fun h' tk' hn' hs => ?_
  · have z1 := (Heap.get?_update_ne _ _ _ (fun o => { o with dict := some hp.objs.size }) (Ne.symm hxs)).trans (Heap.get?_push_at (h := hp) (a := hp.objs.size) (o := PySem.W.dictOf [] 0) rfl rfl)
    exact ⟨_, #[], _, z1, rfl, fun c hc => absurd hc (by simp), fun _ => rfl⟩
  · refine q h' tk' hp.objs.size (fun c v hc hv => ?_) (Nat.le_refl _) (Ne.symm hxs) ?_ hn'
    · refine (hs.2 c (Nat.ne_of_lt (Heap.lt_size hv))).trans ?_
      refine (Heap.get?_update_ne _ _ _ _ hc).trans ?_
      exact Heap.get?_push_of_some _ hv
    · refine (hs.2 a hxs).trans ?_
      exact Heap.get?_update_self _ (Heap.get?_push_of_some _ ho) rfl
section
variable {X : Cx} {pins : List (Addr × Obj)} {σ : L2.St} {H : Hp} {s : Shared} {a C : Addr} {f : Str} {y : V} {u : Value} {Q : Unit → Shared → Prop} {E : Value → Shared → Prop} {A : Around}
/-- self.f = y, the first one -/
theorem ost_newA (T : OexA X.K C) (I : Inv X pins σ H s) (e : H a = some (exo a C none)) (hno : PySem.W.findIn X.K (.ref C) f = some none) (ry : RelV y u)
    (q : ∀ dx s', H dx = none → dx ≠ a → Inv X pins σ (upd (upd H dx (exd dx [(f, y)])) a (exo a C (some dx))) s' → Q () s') : wpAny (model X.prog X.w) A (setAttr (.ref a) f u) Q E s := by
  obtain ⟨t1, ho⟩ := exo_at I.hok e
  obtain ⟨hp, g, d, t, os⟩ := s
  have tk0 : PySem.W.takerIn X.K C f = some none := by
    unfold PySem.W.takerIn
    rw [hno]
    rfl
  refine PySem.W.set_plain I.kIn (ox := exB C t1 none) (od := none) ⟨ho, rfl, rfl, trivial⟩ T.sa ?_
  refine osa_A T I.kIn ho tk0 fun h' tk' dx k dn dne hx hn => ?_
  have n1 : H dx = none := I.hok.fresh dn
  have n2 : ∀ {c : Addr} {v : Obj}, hp.get? c = some v → c ≠ dx := fun {c v} z => by
    refine Nat.ne_of_lt (Nat.lt_of_lt_of_le ?_ dn)
    exact Heap.lt_size z
  have n3 : ∀ {c : Addr}, H c = none → c ≠ a := fun {c} n z => by
    rw [z, e] at n
    cases n
  have U : Un X.fs [] H (upd (upd H dx (exd dx [(f, y)])) a (exo a C (some dx))) hp h' := by
    refine ⟨fun c v z n _ _ => k c v (n3 n) z, fun c v z n _ _ => ⟨v.slots, k c v (n3 n) z⟩, fun c v z n _ => ?_, fun c v z _ => ?_, fun c xs z => ?_, fun c v w z => ?_, fun c ps z => ⟨#[], ?_⟩⟩
    · rw [upd_ne (n3 n), upd_ne (n2 z)]
      exact n
    · by_cases ec : c = a
      · exact ⟨_, by rw [ec]; exact hx⟩
      · exact ⟨v, k c v ec z⟩
    · rw [upd_ne (at_ne e z exo_tup), upd_ne (ne_of_none z n1)]
      exact z
    · rw [upd_ne (at_ne e z exo_frz), upd_ne (ne_of_none z n1)]
      exact z
    · rw [upd_ne (at_ne e z exo_tbl), upd_ne (ne_of_none z n1), z]
      simp
  refine q dx _ n1 dne (I.un (t' := tk') U fun c v z => ?_)
  by_cases ec : c = a
  · subst ec
    rw [upd_same] at z
    cases z
    exact exo_ok hx
  rw [upd_ne ec] at z
  by_cases ed : c = dx
  · subst ed
    rw [upd_same] at z
    cases z
    exact exd_ok hn (relO_put (fs := []) ry fun _ => True.intro)
  rw [upd_ne ed] at z
  refine (I.hok c v z).stay (fun b w hb zb => k b w ?_ zb) (fun b hb => ?_) (fun b xs hb => ?_)
  · rcases hb with hb | hb
    · rw [hb]
      exact ec
    · exact at_ne e hb exo_own
  · rw [upd_ne (at_ne e hb exo_own), upd_ne (ne_of_none hb n1)]
    exact hb
  · rw [upd_ne (at_ne e hb exo_tup), upd_ne (ne_of_none hb n1)]
    exact hb
end
def tOstA (K : PySem.W.Frag) (f : Str) (to te : TE) : TS := fun D σ H => te σ H fun y H1 => to σ H1 fun x H2 => ∃ a C : Addr, x = .ref a ∧ OexA K C ∧ PySem.W.findIn K (.ref C) f = some none ∧ H2 a = some (exo a C none) ∧ ∀ dx, H2 dx = none → dx ≠ a → D.nx σ (upd (upd H2 dx (exd dx [(f, y)])) a (exo a C (some dx)))
section
variable {X : Cx} {o e : Expr} {es : List Expr} {to te : TE} {ta : TA} {f : Str} {p p' p1 p2 pos : Pos}
theorem ps_ostA (ho : PE X o to) (he : PE X e te) (hs : swapsWith e (some (.Attribute o f p')) pos.line X.env = pure false := by rfl) : PS X (.Assign [.Attribute o f p'] e pos) (tOstA X.K f to te) := by
  refine ⟨fun pins s σ H D I h => ?_⟩
  refine plainObj_wpAny_Assign_Attribute (thn (he.run pins s σ H _ I h) fun v s1 ⟨y, H1, I1, ry, q1⟩ => thn (ho.run pins s1 σ H1 _ I1 q1) fun u s2 ⟨x, H2, I2, rx, a, C, ex, T, hno, ea, q⟩ => ?_) hs
  subst ex
  obtain rfl : u = Value.ref a := rx
  exact ost_newA T I2 ea hno ry fun dx s' n ne J => ⟨σ, _, J, q dx n ne⟩
/-- C(e, ..) that is raised -/
theorem pmk_oexA {CX : CXT} {x : Str} {C fI : Addr} {k : Nat} {fd : FuncData} {ps : List Str} {sp : Sp} {ds : List Value} {dvs : List V} (T : OexA X.K C) (iC : PySem.W.findIn X.K (.ref C) "__init__" = some (some (.ref fI))) (tI : PySem.W.typeIn X.K (.ref fI) = some (.type "function"))
    (F1 : FnOk X.prog X.w X.K X.mg X.base CX k fI fd ps sp) (hr : Room (k + 1) X.A) (hb : Binds X.K fd ps ds) (hd : Vals dvs ds) (hx : Passes CX X (fun _ _ _ => False)) (hg : Gl X x) (hm : X.mg x = some (.ref C)) (ha : PA X (e :: es) ta)
    (hdb : (x == ("__debug__" : Str)) = false := by decide) (he : starEach (e :: es) X.env = (false, eval e X.env) :: starEach es X.env := by rfl) (hpl : (backTo pos (starEach es X.env)).any (·.1) = false := by rfl) :
    PMk X (.Call (.Name x p) (e :: es) [] pos) (tMkO C sp dvs ta) := by
  intro pins s σ H Q I h
  refine wpAny_Call_Name_kw (ld_glob I hg hm ?_ hdb)
  refine PySem.W.callWith_K (h₀ := X.base) I.ok.mod.kin T.kC (thn (ha.run pos pins s σ H _ I h) fun us s1 ⟨vs, H1, I1, rv, hz, q1⟩ => ⟨I1.kIn, ?_⟩) he hpl
  show wpAny _ _ (call (.ref C) us) _ _ _
  obtain ⟨hp, g, dr, tk, os⟩ := s1
  obtain ⟨nm, N, qn, bs, bm, hdct, sn, sub, ab, col, dd, k0, k1, k2, k3, k5, hC, hbm⟩ := PySem.W.excInit_of I1.kIn T.ini
  have sz : hp.objs.size ≤ hp.objs.size + 1 := Nat.le_succ _
  have hq := q1 (hp.objs.size + 1) (I1.hok.fresh sz)
  have kp : ∀ c v, hp.get? c = some v → ((hp.push (PySem.W.kdv_tup us)).push (PySem.HandSPX.excO C hp.objs.size)).get? c = some v := fun c v z => by
    refine Heap.get?_push_of_some _ ?_
    exact Heap.get?_push_of_some _ z
  have there : ((hp.push (PySem.W.kdv_tup us)).push (PySem.HandSPX.excO C hp.objs.size)).get? (hp.objs.size + 1) = some (PySem.HandSPX.excO C hp.objs.size) := by
    heap_get
  have J2 : Inv X pins σ (upd H1 (hp.objs.size + 1) (exo (hp.objs.size + 1) C none)) ⟨(hp.push (PySem.W.kdv_tup us)).push (PySem.HandSPX.excO C hp.objs.size), g, dr, tk, os⟩ := by
    exact I1.laid (t' := tk) (a := hp.objs.size + 1) (o := exo (hp.objs.size + 1) C none) kp sz (exo_ok there)
  have rv2 : Vals (V.ref (hp.objs.size + 1) :: (vs ++ dvs)) (Value.ref (hp.objs.size + 1) :: (us ++ ds)) := by
    exact .cons rfl (rv.append hd)
  have lps : (Value.ref (hp.objs.size + 1) :: us ++ ds).length = ps.length := by
    have z := rv2.length
    rw [F1.len _ _ _ _ hq] at z
    exact z.symm
  have lus : us.length ≤ sizeLine := by
    have := Paired.length rv
    rw [sizeLine_eq]
    omega
  refine wpAny_call (PySem.HandSPX.call_own PySem.F.excBase_ArithmeticError hbm hC (PySem.W.looks_findIn I1.kIn iC) (fun self => PySem.W.bind_fn I1.kIn self tI) lus (codeAny_mono (F1.run _ X.stack _ _ ⟨Value.ref (hp.objs.size + 1) :: us, []⟩ (Value.ref (hp.objs.size + 1) :: (us ++ ds)) _ _ (fun _ _ _ => False) (hr.make C us []) (J2.env0.make C us []) (hb _ (Value.ref (hp.objs.size + 1) :: us) J2.kIn lps) rv2 hq) fun r s' hq' => ?_))
  cases r with
  | error er => exact hx pins σ _ _ er s' J2 hq'
  | ok fl =>
    cases fl with
    | ret u =>
      obtain ⟨v, H2, os2, bare2, un2, hok2, rv', ev, d, fs, ea, ed, hd1, q2⟩ := hq'
      subst ev
      obtain ⟨h2, g2, d2, t2, os'⟩ := s'
      exact ⟨rv', mk_end (raises_own T.exC T.tyC) I1 sz kp un2 hok2 os2 bare2 ea ed hd1 q2⟩
    | next => exact False.elim hq'
    | brk => exact False.elim hq'
    | cont => exact False.elim hq'
end
/-- what is asked of such a class -/
structure ErrA (K : PySem.W.Frag) (mg : Str → Option Value) (x f : Str) (C fI : Addr) : Prop where
  g : mg x = some (.ref C)
  ox : OexA K C
  no : PySem.W.findIn K (.ref C) f = some none
  ini : PySem.W.findIn K (.ref C) "__init__" = some (some (.ref fI))
  ty : PySem.W.typeIn K (.ref fI) = some (.type "function")
end K1

namespace K1
open PySem PySem.Spec
open PyProof.Rows L2 EnT StX SmX TxS DuX ClX
/-! ### the errors, and what is checked -/
theorem rz_err {C : Addr} {f : Str} {v : V} {H : Hp} {Q : XK} (q : ErrAt C f v H Q) : [v].length ≤ 1000 ∧ ∀ a, H a = none → spErr C f (.ref a :: ([v] ++ [])) (upd H a (exo a C none))
    (fun v H2 => v = .non ∧ ∃ (d : Addr) (fs : List (Str × V)), H2 a = some (exo a C (some d)) ∧ H2 d = some (exd d fs) ∧ H d = none ∧ Q (.ref C) (some d) (upd (del H2 a) d (.xd fs))) (fun _ _ _ => False) := by
  refine ⟨(by show 1 ≤ 1000; decide), fun x nx => ⟨x, _, rfl, upd_same, fun d nd ne => ⟨rfl, d, [(f, v)], upd_same, ?_, ?_, ?_⟩⟩⟩
  · rw [upd_ne ne, upd_same]
  · rw [upd_ne ne] at nd
    exact nd
  · rw [raise_heap nx ne]
    rw [upd_ne ne] at nd
    exact q d H (Same.refl H) nd
/-- an error of a class, its maker known -/
structure Er5 (K : PySem.W.Frag) (mg : Str → Option Value) (CF CT CL CD CN : Addr) : Prop where
  f : ∃ fI fd, ErrC K mg "InvalidForm" "value" CF fI ∧ Fun K "__init__" "InvalidForm.__init__" s_InvalidForm___init__ fI fd
  t : ∃ fI fd, ErrC K mg "InvalidText" "value" CT fI ∧ Fun K "__init__" "InvalidText.__init__" sErrText fI fd
  l : ∃ fI fd, ErrA K mg "TooManyLeaves" "limit" CL fI ∧ Fun K "__init__" "TooManyLeaves.__init__" s_TooManyLeaves___init__ fI fd
  d : ∃ fI fd, ErrA K mg "TooManyLevels" "limit" CD fI ∧ Fun K "__init__" "TooManyLevels.__init__" s_TooManyLevels___init__ fI fd
  n : ∃ fI fd, ErrC K mg "NotAnExpression" "value" CN fI ∧ Fun K "__init__" "NotAnExpression.__init__" s_NotAnExpression___init__ fI fd
def spLim (n : Int) (C : Addr) : Sp := fun vs H Q E => ∃ i : Int, vs = [.int i] ∧ ((i ≤ n ∧ Q .non H) ∨ (n < i ∧ ErrAt C "limit" (.int n) H E))
/-- none of the class at C, in later heaps too -/
def NotP (K : PySem.W.Frag) (C : Addr) (H : Hp) (v : V) : Prop := ∀ H', Same H H' → NotC K C H' v
theorem NotP.same {K : PySem.W.Frag} {C : Addr} {H H' : Hp} {v : V} (s : Same H H') (h : NotP K C H v) : NotP K C H' v := fun H2 s2 => h H2 (s.trans s2)
theorem NotP.here {K : PySem.W.Frag} {C : Addr} {H : Hp} {v : V} (h : NotP K C H v) : NotC K C H v := h H (Same.refl H)
theorem VOk.notP {K : PySem.W.Frag} {C : Addr} {H : Hp} {v : V} (I : IsC K C) (h : VOk H v) : NotP K C H v := fun H' s => (h.same s).notC I
theorem FacAt.notP {K : PySem.W.Frag} {mg : Str → Option Value} {C D p a b : Addr} {H : Hp} {t u : Fm} (M : FacC K mg D) (I : IsC K D) (n : PySem.W.kitOne K (.ref D) (.ref C) = some false) (m : FacAt C D H p a b t u) : NotP K C H (.ref p) := fun H' s => ⟨_, fac_ty M I (m.same s), n⟩
def spChkX (K : PySem.W.Frag) (C CN : Addr) : Sp := fun vs H Q E => ∃ x : V, vs = [x] ∧ ((∃ (b : Addr) (t : Fm), x = .ref b ∧ ExpAt C H b t ∧ Q .non H) ∨ (NotP K C H x ∧ ErrAt CN "value" x H E))
section
variable {w : World} {P : Program} {base : Heap} {mg : Str → Option Value} {K : PySem.W.Frag} {C CF CT CL CD CN aS : Addr}
theorem scEF : FnScope ["self", "value"] ["self", "value"] (defScope s_InvalidForm___init__) := ⟨rfl, rfl, rfl, by decide +kernel, rfl, by decide +kernel, by decide +kernel⟩
theorem ok_eF {f C fI : Addr} {fd : FuncData} (F : Fun K "__init__" "InvalidForm.__init__" s_InvalidForm___init__ f fd) (T : ErrC K mg "InvalidForm" "value" C fI) : FnOk P w K mg base CX0 1 f fd ["self", "value"] (spErr C "value") := by
  refine F.ok scEF (fun vs H Q E h => ?_) (fun cdv A outer s H vs Q E hr h => ?_)
  · obtain ⟨a, v, rfl, _⟩ := h
    rfl
  · obtain ⟨a, v, rfl, ha, q⟩ := h
    exact ⟨_, pss_one (ps_ost (pv 0) (pv 1)), _, rfl, _, rfl, a, C, rfl, T.ox, T.no, .inl ⟨ha, fun d nd ne => q d nd ne⟩⟩
theorem scET : FnScope ["self", "value"] ["self", "value"] (defScope sErrText) := ⟨rfl, rfl, rfl, by decide +kernel, rfl, by decide +kernel, by decide +kernel⟩
theorem ok_eT {f C fI : Addr} {fd : FuncData} (F : Fun K "__init__" "InvalidText.__init__" sErrText f fd) (T : ErrC K mg "InvalidText" "value" C fI) : FnOk P w K mg base CX0 1 f fd ["self", "value"] (spErr C "value") := by
  refine F.ok scET (fun vs H Q E h => ?_) (fun cdv A outer s H vs Q E hr h => ?_)
  · obtain ⟨a, v, rfl, _⟩ := h
    rfl
  · obtain ⟨a, v, rfl, ha, q⟩ := h
    exact ⟨_, pss_one (ps_ost (pv 0) (pv 1)), _, rfl, _, rfl, a, C, rfl, T.ox, T.no, .inl ⟨ha, fun d nd ne => q d nd ne⟩⟩
theorem scEN : FnScope ["self", "value"] ["self", "value"] (defScope s_NotAnExpression___init__) := ⟨rfl, rfl, rfl, by decide +kernel, rfl, by decide +kernel, by decide +kernel⟩
theorem ok_eN {f C fI : Addr} {fd : FuncData} (F : Fun K "__init__" "NotAnExpression.__init__" s_NotAnExpression___init__ f fd) (T : ErrC K mg "NotAnExpression" "value" C fI) : FnOk P w K mg base CX0 1 f fd ["self", "value"] (spErr C "value") := by
  refine F.ok scEN (fun vs H Q E h => ?_) (fun cdv A outer s H vs Q E hr h => ?_)
  · obtain ⟨a, v, rfl, _⟩ := h
    rfl
  · obtain ⟨a, v, rfl, ha, q⟩ := h
    exact ⟨_, pss_one (ps_ost (pv 0) (pv 1)), _, rfl, _, rfl, a, C, rfl, T.ox, T.no, .inl ⟨ha, fun d nd ne => q d nd ne⟩⟩
theorem scEL : FnScope ["self", "limit"] ["self", "limit"] (defScope s_TooManyLeaves___init__) := ⟨rfl, rfl, rfl, by decide +kernel, rfl, by decide +kernel, by decide +kernel⟩
theorem ok_eL {f C fI : Addr} {fd : FuncData} (F : Fun K "__init__" "TooManyLeaves.__init__" s_TooManyLeaves___init__ f fd) (T : ErrA K mg "TooManyLeaves" "limit" C fI) : FnOk P w K mg base CX0 1 f fd ["self", "limit"] (spErr C "limit") := by
  refine F.ok scEL (fun vs H Q E h => ?_) (fun cdv A outer s H vs Q E hr h => ?_)
  · obtain ⟨a, v, rfl, _⟩ := h
    rfl
  · obtain ⟨a, v, rfl, ha, q⟩ := h
    exact ⟨_, pss_one (ps_ostA (pv 0) (pv 1)), _, rfl, _, rfl, a, C, rfl, T.ox, T.no, ha, fun d nd ne => q d nd ne⟩
theorem scED : FnScope ["self", "limit"] ["self", "limit"] (defScope s_TooManyLevels___init__) := ⟨rfl, rfl, rfl, by decide +kernel, rfl, by decide +kernel, by decide +kernel⟩
theorem ok_eD {f C fI : Addr} {fd : FuncData} (F : Fun K "__init__" "TooManyLevels.__init__" s_TooManyLevels___init__ f fd) (T : ErrA K mg "TooManyLevels" "limit" C fI) : FnOk P w K mg base CX0 1 f fd ["self", "limit"] (spErr C "limit") := by
  refine F.ok scED (fun vs H Q E h => ?_) (fun cdv A outer s H vs Q E hr h => ?_)
  · obtain ⟨a, v, rfl, _⟩ := h
    rfl
  · obtain ⟨a, v, rfl, ha, q⟩ := h
    exact ⟨_, pss_one (ps_ostA (pv 0) (pv 1)), _, rfl, _, rfl, a, C, rfl, T.ox, T.no, ha, fun d nd ne => q d nd ne⟩
theorem ok_limL {f : Addr} {fd : FuncData} (F : Fun K "check_leaves" "check_leaves" sChkL f fd) (G : Gf K mg aS) (R : Er5 K mg CF CT CL CD CN) : FnOk P w K mg base (L2.CX P w) 3 f fd ["leaves"] (spLim 200 CL) := by
  obtain ⟨t, ht⟩ := G.ml
  obtain ⟨fE, fdE, ET, FE⟩ := R.l
  have bE : Binds K fdE ["self", "limit"] [] := FE.binds (ps := ["self", "limit"]) fun _ _ _ _ _ _ us hl => match us, hl with | [_, _], _ => rfl
  have GE : FnOk P w K mg base CX0 1 fE fdE ["self", "limit"] (spErr CL "limit") := ok_eL FE ET
  refine F.okX scChkL (fun vs H Q E h => ?_) (fun cdv A outer s H vs Q E hr h => ?_)
  · obtain ⟨i, rfl, _⟩ := h
    rfl
  · obtain ⟨i, rfl, h⟩ := h
    refine ⟨_, pss_one (ps_if (pt_cmpR op_gt (pv 0) (pe_glob (v := .int 200) (by rfl) ht ⟨_, rfl⟩) (nomark _))
      (pss_one (ps_raise rfl (takes_of rfl rfl rfl rfl) (pmk_oexA ET.ox ET.ini ET.ty GE (hr.mono (by decide)) bE .nil pass0 rfl ET.g (pa_cons (pe_glob (v := .int 200) (by rfl) ht ⟨_, rfl⟩) pa_nil)))) pss_nil), ?_⟩
    refine ⟨_, rfl, _, _, rfl, rfl, _, rfl, ?_⟩
    rcases h with ⟨le, q⟩ | ⟨lt, q⟩
    · rw [decide_eq_false (by omega)]
      exact iteF q
    · rw [decide_eq_true (by omega)]
      exact iteT (rz_err q)
theorem ok_limD {f : Addr} {fd : FuncData} (F : Fun K "check_depth" "check_depth" sChkD f fd) (G : Gf K mg aS) (R : Er5 K mg CF CT CL CD CN) : FnOk P w K mg base (L2.CX P w) 3 f fd ["depth"] (spLim 20 CD) := by
  obtain ⟨t, ht⟩ := G.md
  obtain ⟨fE, fdE, ET, FE⟩ := R.d
  have bE : Binds K fdE ["self", "limit"] [] := FE.binds (ps := ["self", "limit"]) fun _ _ _ _ _ _ us hl => match us, hl with | [_, _], _ => rfl
  have GE : FnOk P w K mg base CX0 1 fE fdE ["self", "limit"] (spErr CD "limit") := ok_eD FE ET
  refine F.okX scChkD (fun vs H Q E h => ?_) (fun cdv A outer s H vs Q E hr h => ?_)
  · obtain ⟨i, rfl, _⟩ := h
    rfl
  · obtain ⟨i, rfl, h⟩ := h
    refine ⟨_, pss_one (ps_if (pt_cmpR op_gt (pv 0) (pe_glob (v := .int 20) (by rfl) ht ⟨_, rfl⟩) (nomark _))
      (pss_one (ps_raise rfl (takes_of rfl rfl rfl rfl) (pmk_oexA ET.ox ET.ini ET.ty GE (hr.mono (by decide)) bE .nil pass0 rfl ET.g (pa_cons (pe_glob (v := .int 20) (by rfl) ht ⟨_, rfl⟩) pa_nil)))) pss_nil), ?_⟩
    refine ⟨_, rfl, _, _, rfl, rfl, _, rfl, ?_⟩
    rcases h with ⟨le, q⟩ | ⟨lt, q⟩
    · rw [decide_eq_false (by omega)]
      exact iteF q
    · rw [decide_eq_true (by omega)]
      exact iteT (rz_err q)
theorem ok_chkX {f : Addr} {fd : FuncData} (F : Fun K "check_expression" "check_expression" sChkE f fd) (T : Free mg) (M : ExpC K mg C) (I : IsC K C) (R : Er5 K mg CF CT CL CD CN) : FnOk P w K mg base (L2.CX P w) 3 f fd ["value"] (spChkX K C CN) := by
  obtain ⟨fE, fdE, EN, FE⟩ := R.n
  have bE : Binds K fdE ["self", "value"] [] := FE.binds (ps := ["self", "value"]) fun _ _ _ _ _ _ us hl => match us, hl with | [_, _], _ => rfl
  have GE : FnOk P w K mg base CX0 1 fE fdE ["self", "value"] (spErr CN "value") := ok_eN FE EN
  refine F.okX scChkE (fun vs H Q E h => ?_) (fun cdv A outer s H vs Q E hr h => ?_)
  · obtain ⟨x, rfl, _⟩ := h
    rfl
  · obtain ⟨x, rfl, h⟩ := h
    refine ⟨_, pss_one (ps_if (pt_not (pt_val (pe_callB call_isi (by rfl) T.isinstance (by decide +kernel) (pa_cons (pv 0) (pa_cons (pe_glob (v := .ref C) (by rfl) M.g rfl) pa_nil)))))
        (pss_one (ps_raise rfl (takes_of rfl rfl rfl rfl) (pmk_oex EN.ox EN.ini EN.ty GE (hr.mono (by decide)) bE .nil pass0 rfl EN.g (pa_cons (pv 0) pa_nil)))) pss_nil), ?_⟩
    rcases h with ⟨b, t, rfl, m, q⟩ | ⟨np, qE⟩
    · exact ⟨_, rfl, _, _, _, _, true, rfl, .own C, exp_ty M I m, I.yes, true, rfl, iteF q⟩
    · obtain ⟨ty, tx, no⟩ := np.here
      exact ⟨_, rfl, _, _, _, _, false, rfl, .own C, tx, no, false, rfl, iteT ⟨_, rfl, rz_err qE⟩⟩
end
end K1

namespace K1
open PySem PySem.Spec
open PyProof.Rows L2 EnT StX SmX TxS DuX ClX
/-! ### Expression and Fact, refused -/
def spSizeX : Sp := fun vs H Q E => spSize vs H Q E ∨ spSizeNo vs H Q E
/-- the limit that a form goes beyond -/
def LimE (CL CD : Addr) (t : Fm) (H : Hp) (E : XK) : Prop := (200 < t.nl ∧ ErrAt CL "limit" (.int 200) H E) ∨ (t.nl ≤ 200 ∧ 20 < t.dep ∧ ErrAt CD "limit" (.int 20) H E)
theorem LimE.same {CL CD : Addr} {t : Fm} {H H' : Hp} {E : XK} (s : Same H H') (h : LimE CL CD t H E) : LimE CL CD t H' E := h.imp (fun h => ⟨h.1, h.2.same s⟩) fun h => ⟨h.1, h.2.1, h.2.2.same s⟩
/-- a value that Expression refuses -/
def MkX (CF CL CD : Addr) (v : V) (H : Hp) (E : XK) : Prop := (∃ t, FmAt H v t ∧ t.Ok ∧ t.nl ≤ 500 ∧ t.dep ≤ 60 ∧ LimE CL CD t H E) ∨ (∃ x, SfAt H v x ∧ x.size ≤ 2000 ∧ x.dep ≤ 60 ∧ ErrAt CF "value" v H E)
theorem MkX.same {CF CL CD : Addr} {v : V} {H H' : Hp} {E : XK} (s : Same H H') (h : MkX CF CL CD v H E) : MkX CF CL CD v H' E := by
  rcases h with ⟨t, a, b, c, d, e⟩ | ⟨x, a, b, c, d⟩
  · exact .inl ⟨t, a.same s, b, c, d, e.same s⟩
  · exact .inr ⟨x, a.keep (.same s), b, c, d.same s⟩
def spInitX (CF CL CD : Addr) : Sp := fun vs H _ E => ∃ (p : Addr) (v : V), vs = [.ref p, v] ∧ MkX CF CL CD v H E
theorem mkX_go {C CF CL CD : Addr} {v : V} {H : Hp} {E : XK} {R : VK} (h : MkX CF CL CD v H E) {x dx : Addr} (nx : H x = none) (nd : H dx = none) (ne : dx ≠ x) : spInitX CF CL CD [.ref x, v] (upd (upd H dx (.own x)) x (.ins C dx [])) R E := by
  have s1 : Same H (upd H dx (.own x)) := same_upd nd
  have nx1 : (upd H dx (.own x)) x = none := by rw [upd_ne (Ne.symm ne)]; exact nx
  have s2 : Same (upd H dx (.own x)) (upd (upd H dx (.own x)) x (.ins C dx [])) := same_upd nx1
  exact ⟨x, v, rfl, h.same (s1.trans s2)⟩
def spSignX (K : PySem.W.Frag) (C CL CD CN : Addr) : Sp := fun vs H _ E => ∃ (z : Str) (a : Addr) (y : V) (t : Fm), vs = [.str z, .ref a, y] ∧ z ∈ signs ∧ ExpAt C H a t ∧ ((NotP K C H y ∧ ErrAt CN "value" y H E) ∨ (∃ b u, y = .ref b ∧ ExpAt C H b u ∧ LimE CL CD (.node z t u) H E))
def spOpX (K : PySem.W.Frag) (C CL CD CN : Addr) (z : Str) : Sp := fun vs H _ E => ∃ (a : Addr) (y : V) (t : Fm), vs = [.ref a, y] ∧ ExpAt C H a t ∧ ((NotP K C H y ∧ ErrAt CN "value" y H E) ∨ (∃ b u, y = .ref b ∧ ExpAt C H b u ∧ LimE CL CD (.node z t u) H E))
/-- sides that Fact refuses -/
def MkF (K : PySem.W.Frag) (C CN : Addr) (x y : V) (H : Hp) (E : XK) : Prop := (NotP K C H x ∧ ErrAt CN "value" x H E) ∨ (∃ a t, x = .ref a ∧ ExpAt C H a t ∧ NotP K C H y ∧ ErrAt CN "value" y H E)
theorem MkF.same {K : PySem.W.Frag} {C CN : Addr} {x y : V} {H H' : Hp} {E : XK} (s : Same H H') (h : MkF K C CN x y H E) : MkF K C CN x y H' E := by
  rcases h with ⟨a, b⟩ | ⟨a, t, e, m, n, q⟩
  · exact .inl ⟨a.same s, b.same s⟩
  · exact .inr ⟨a, t, e, m.same s, n.same s, q.same s⟩
def spInitFX (K : PySem.W.Frag) (C CN : Addr) : Sp := fun vs H _ E => ∃ (p : Addr) (x y : V), vs = [.ref p, x, y] ∧ MkF K C CN x y H E
theorem mkF_go {K : PySem.W.Frag} {C D CN : Addr} {v y : V} {H : Hp} {E : XK} {R : VK} (h : MkF K C CN v y H E) {x dx : Addr} (nx : H x = none) (nd : H dx = none) (ne : dx ≠ x) : spInitFX K C CN [.ref x, v, y] (upd (upd H dx (.own x)) x (.ins D dx [])) R E := by
  have s1 : Same H (upd H dx (.own x)) := same_upd nd
  have nx1 : (upd H dx (.own x)) x = none := by rw [upd_ne (Ne.symm ne)]; exact nx
  have s2 : Same (upd H dx (.own x)) (upd (upd H dx (.own x)) x (.ins D dx [])) := same_upd nx1
  exact ⟨x, v, y, rfl, h.same (s1.trans s2)⟩
def spWithinX (K : PySem.W.Frag) (C CN : Addr) : Sp := fun vs H _ E => ∃ (x y : V), vs = [x, y] ∧ MkF K C CN x y H E
section
variable {w : World} {P : Program} {base : Heap} {mg : Str → Option Value} {K : PySem.W.Frag} {C D CF CT CL CD CN aS fI fF : Addr}
theorem ok_initX {f f1 f2 f3 : Addr} {fd : FuncData} (F : Fun K "__init__" "Expression.__init__" sInitE f fd) (R : Er5 K mg CF CT CL CD CN) (hS : Has P w K mg base CX0 2 "form_size" f1 ["value"] spSizeX)
    (hL : Has P w K mg base (L2.CX P w) 3 "check_leaves" f2 ["leaves"] (spLim 200 CL)) (hD : Has P w K mg base (L2.CX P w) 3 "check_depth" f3 ["depth"] (spLim 20 CD)) : FnOk P w K mg base (L2.CX P w) 5 f fd ["self", "form"] (spInitX CF CL CD) := by
  obtain ⟨fE, fdE, EN, FE⟩ := R.f
  have bE : Binds K fdE ["self", "value"] [] := FE.binds (ps := ["self", "value"]) fun _ _ _ _ _ _ us hl => match us, hl with | [_, _], _ => rfl
  have GE : FnOk P w K mg base CX0 1 fE fdE ["self", "value"] (spErr CF "value") := ok_eF FE EN
  refine F.okX scIE (fun vs H Q E h => ?_) (fun cdv A outer s H vs Q E hr h => ?_)
  · obtain ⟨p, v, rfl, _⟩ := h
    rfl
  · obtain ⟨p, v, rfl, h⟩ := h
    refine ⟨_, pss_cons (ps_set (i := 2) scIE.nd rfl (.inl rfl) (pe_has hS (hr.mono (by decide)) (by rfl) pass0 (pa_cons (pv 1) pa_nil)))
      (pss_cons (ps_if (pt_cmp (pc_isN (pv 2))) (pss_one (ps_raise rfl (takes_of rfl rfl rfl rfl) (pmk_oex EN.ox EN.ini EN.ty GE (hr.mono (by decide)) bE .nil pass0 rfl EN.g (pa_cons (pv 1) pa_nil)))) pss_nil)
      (pss_cons (ps_asg (pv 2) (pg_tup rfl (pgs_cons (pg_name (i := 3) scIE.nd rfl (.inl rfl)) (pgs_cons (pg_name (i := 4) scIE.nd rfl (.inl rfl)) pgs_nil))))
      (pss_cons (ps_expr (pe_has hL (hr.mono (by decide)) (by rfl) (passes_call (takes_of rfl rfl rfl rfl) fun _ _ _ _ h => h) (pa_cons (pv 3) pa_nil)))
      (pss_cons (ps_expr (pe_has hD (hr.mono (by decide)) (by rfl) (passes_call (takes_of rfl rfl rfl rfl) fun _ _ _ _ h => h) (pa_cons (pv 4) pa_nil)))
      pss_never)))), ?_⟩
    rcases h with ⟨t, hm, ok, n5, d6, hl⟩ | ⟨x, hx, n2, d6, qE⟩
    · refine ⟨_, rfl, .inl ⟨v, t, rfl, hm, ok, n5, d6, fun a H1 s1 ha => ?_⟩⟩
      refine ⟨_, rfl, false, rfl, iteF ?_⟩
      refine ⟨_, rfl, a, _, rfl, SqT.of ha, rfl, _, _, rfl, _, _, rfl, rfl, ?_⟩
      rcases hl with ⟨n, qE⟩ | ⟨n, d, qE⟩
      · exact ⟨_, rfl, _, rfl, .inr ⟨by omega, qE.same s1⟩⟩
      · exact ⟨_, rfl, _, rfl, .inl ⟨by omega, _, rfl, _, rfl, .inr ⟨by omega, qE.same s1⟩⟩⟩
    · refine ⟨_, rfl, .inr ⟨v, x, rfl, hx, n2, d6, fun H1 s1 => ?_⟩⟩
      exact ⟨_, rfl, true, rfl, iteT ⟨_, rfl, rz_err (qE.same s1)⟩⟩
theorem ok_signX {f f1 : Addr} {fd : FuncData} (F : Fun K "with_sign" "with_sign" sSign f fd) (M : ExpC K mg C) (MK : Mk K C fI) (FI : FnR P w K mg base (L2.CX P w) 5 fI (spInitX CF CL CD)) (hC : Has P w K mg base (L2.CX P w) 3 "check_expression" f1 ["value"] (spChkX K C CN)) (pF : Pp P w K mg base C "form" "_form") :
    FnOk P w K mg base (L2.CX P w) 7 f fd ["sign", "one", "other"] (spSignX K C CL CD CN) := by
  refine F.okX scSign (fun vs H Q E h => ?_) (fun cdv A outer s H vs Q E hr h => ?_)
  · obtain ⟨z, a, y, t, rfl, _⟩ := h
    rfl
  · obtain ⟨z, a, y, t, rfl, hz, m1, h⟩ := h
    refine ⟨_, pss_cons (ps_expr (pe_has hC (hr.mono (by decide)) (by rfl) (passes_call (takes_of rfl rfl rfl rfl) fun _ _ _ _ h => h) (pa_cons (pv 2) pa_nil)))
      (pss_one (ps_ret (pe_makeR MK FI hr (by rfl) M.g (passes_call (takes_of rfl rfl rfl rfl) fun _ _ _ _ h => h) (pa_cons (pe_tup (pa_cons (pv 0) (pa_cons (pe_pp pF (pv 1) (hr.mono (by decide)) rfl) (pa_cons (pe_pp pF (pv 2) (hr.mono (by decide)) rfl) pa_nil)))) pa_nil)))), ?_⟩
    rcases h with ⟨np, qE⟩ | ⟨b, u, rfl, m2, hl⟩
    · exact ⟨_, rfl, _, rfl, .inr ⟨np, qE⟩⟩
    · obtain ⟨dx1, v1, fl1, ys1, h1, h2, _⟩ := m1.at_
      obtain ⟨dx2, v2, fl2, ys2, k1, k2, _⟩ := m2.at_
      have n1 := m1.n
      have n2 := m2.n
      have d1 := m1.d
      have d2 := m2.d
      refine ⟨_, rfl, _, rfl, .inl ⟨b, u, rfl, m2, ?_⟩⟩
      refine ⟨_, rfl, _, rfl, a, dx1, _, rfl, h1, a, dx1, _, _, rfl, h1, ef_form v1 t fl1, _, rfl, b, dx2, _, rfl, k1, b, dx2, _, _, rfl, k1, ef_form v2 u fl2, (by show 3 ≤ sizeLine; decide), fun p np => ?_⟩
      have s1 : Same H (upd H p (.tup [.str z, v1, v2])) := same_upd np
      have hmk : MkX CF CL CD (.ref p) (upd H p (.tup [.str z, v1, v2])) E := .inl ⟨.node z t u, .node upd_same (h2.same s1) (k2.same s1), ⟨hz, m1.ok, m2.ok⟩, by rw [Fm.nl_node]; omega, by rw [Fm.dep_node]; omega, hl.same s1⟩
      exact fun x dx nx nd ne => mkX_go hmk nx nd ne
theorem ok_orX {f f1 : Addr} {fd : FuncData} (F : Fun K "__or__" "Expression.__or__" sOrE f fd) (hS : Has P w K mg base (L2.CX P w) 7 "with_sign" f1 ["sign", "one", "other"] (spSignX K C CL CD CN)) : FnOk P w K mg base (L2.CX P w) 8 f fd ["self", "other"] (spOpX K C CL CD CN "|") := by
  refine F.okX scOrE (fun vs H Q E h => ?_) (fun cdv A outer s H vs Q E hr h => ?_)
  · obtain ⟨a, y, t, rfl, _⟩ := h
    rfl
  · obtain ⟨a, y, t, rfl, m, h⟩ := h
    exact ⟨_, pss_one (ps_ret (pe_has hS hr (by rfl) (passes_call (takes_of rfl rfl rfl rfl) fun _ _ _ _ h => h) (pa_cons pe_str (pa_cons (pv 0) (pa_cons (pv 1) pa_nil))))), _, rfl, _, rfl, "|", a, y, t, rfl, by decide +kernel, m, h⟩
theorem ok_andX {f f1 : Addr} {fd : FuncData} (F : Fun K "__and__" "Expression.__and__" sAndE f fd) (hS : Has P w K mg base (L2.CX P w) 7 "with_sign" f1 ["sign", "one", "other"] (spSignX K C CL CD CN)) : FnOk P w K mg base (L2.CX P w) 8 f fd ["self", "other"] (spOpX K C CL CD CN "&") := by
  refine F.okX scAndE (fun vs H Q E h => ?_) (fun cdv A outer s H vs Q E hr h => ?_)
  · obtain ⟨a, y, t, rfl, _⟩ := h
    rfl
  · obtain ⟨a, y, t, rfl, m, h⟩ := h
    exact ⟨_, pss_one (ps_ret (pe_has hS hr (by rfl) (passes_call (takes_of rfl rfl rfl rfl) fun _ _ _ _ h => h) (pa_cons pe_str (pa_cons (pv 0) (pa_cons (pv 1) pa_nil))))), _, rfl, _, rfl, "&", a, y, t, rfl, by decide +kernel, m, h⟩
theorem ok_subX {f f1 : Addr} {fd : FuncData} (F : Fun K "__sub__" "Expression.__sub__" sSubE f fd) (hS : Has P w K mg base (L2.CX P w) 7 "with_sign" f1 ["sign", "one", "other"] (spSignX K C CL CD CN)) : FnOk P w K mg base (L2.CX P w) 8 f fd ["self", "other"] (spOpX K C CL CD CN "-") := by
  refine F.okX scSubE (fun vs H Q E h => ?_) (fun cdv A outer s H vs Q E hr h => ?_)
  · obtain ⟨a, y, t, rfl, _⟩ := h
    rfl
  · obtain ⟨a, y, t, rfl, m, h⟩ := h
    exact ⟨_, pss_one (ps_ret (pe_has hS hr (by rfl) (passes_call (takes_of rfl rfl rfl rfl) fun _ _ _ _ h => h) (pa_cons pe_str (pa_cons (pv 0) (pa_cons (pv 1) pa_nil))))), _, rfl, _, rfl, "-", a, y, t, rfl, by decide +kernel, m, h⟩
theorem ok_xorX {f f1 : Addr} {fd : FuncData} (F : Fun K "__xor__" "Expression.__xor__" sXorE f fd) (hS : Has P w K mg base (L2.CX P w) 7 "with_sign" f1 ["sign", "one", "other"] (spSignX K C CL CD CN)) : FnOk P w K mg base (L2.CX P w) 8 f fd ["self", "other"] (spOpX K C CL CD CN "^") := by
  refine F.okX scXorE (fun vs H Q E h => ?_) (fun cdv A outer s H vs Q E hr h => ?_)
  · obtain ⟨a, y, t, rfl, _⟩ := h
    rfl
  · obtain ⟨a, y, t, rfl, m, h⟩ := h
    exact ⟨_, pss_one (ps_ret (pe_has hS hr (by rfl) (passes_call (takes_of rfl rfl rfl rfl) fun _ _ _ _ h => h) (pa_cons pe_str (pa_cons (pv 0) (pa_cons (pv 1) pa_nil))))), _, rfl, _, rfl, "^", a, y, t, rfl, by decide +kernel, m, h⟩
theorem ok_initFX {f f1 : Addr} {fd : FuncData} (F : Fun K "__init__" "Fact.__init__" sInitF f fd) (hC : Has P w K mg base (L2.CX P w) 3 "check_expression" f1 ["value"] (spChkX K C CN)) : FnOk P w K mg base (L2.CX P w) 4 f fd ["self", "left", "right"] (spInitFX K C CN) := by
  refine F.okX scIF (fun vs H Q E h => ?_) (fun cdv A outer s H vs Q E hr h => ?_)
  · obtain ⟨p, x, y, rfl, _⟩ := h
    rfl
  · obtain ⟨p, x, y, rfl, h⟩ := h
    refine ⟨_, pss_cons (ps_expr (pe_has hC hr (by rfl) (passes_call (takes_of rfl rfl rfl rfl) fun _ _ _ _ h => h) (pa_cons (pv 1) pa_nil)))
      (pss_cons (ps_expr (pe_has hC hr (by rfl) (passes_call (takes_of rfl rfl rfl rfl) fun _ _ _ _ h => h) (pa_cons (pv 2) pa_nil)))
      pss_never), ?_⟩
    rcases h with ⟨np, qE⟩ | ⟨a, t, rfl, m, np, qE⟩
    · exact ⟨_, rfl, _, rfl, .inr ⟨np, qE⟩⟩
    · exact ⟨_, rfl, _, rfl, .inl ⟨a, t, rfl, m, _, rfl, _, rfl, .inr ⟨np, qE⟩⟩⟩
theorem ok_withinX {f : Addr} {fd : FuncData} (F : Fun K "within" "Expression.within" sWithin f fd) (M : FacC K mg D) (MK : Mk K D fF) (FF : FnR P w K mg base (L2.CX P w) 4 fF (spInitFX K C CN)) : FnOk P w K mg base (L2.CX P w) 6 f fd ["self", "other"] (spWithinX K C CN) := by
  refine F.okX scWithin (fun vs H Q E h => ?_) (fun cdv A outer s H vs Q E hr h => ?_)
  · obtain ⟨x, y, rfl, _⟩ := h
    rfl
  · obtain ⟨x, y, rfl, h⟩ := h
    exact ⟨_, pss_one (ps_ret (pe_makeR MK FF hr (by rfl) M.g (passes_call (takes_of rfl rfl rfl rfl) fun _ _ _ _ h => h) (pa_cons (pv 0) (pa_cons (pv 1) pa_nil)))), _, rfl, _, rfl, fun x dx nx nd ne => mkF_go h nx nd ne⟩
end
end K1

namespace K1
open PySem PySem.Spec
open PyProof.Rows L2 EnT StX SmX TxS DuX ClX
/-! ### words that can't stand where they stand -/
structure Stuck (n : Nat) (more : Prop) (w : Str) : Prop where
  c : ¬ (w = tClose ∧ n = 3 ∧ more)
  s : ¬ (n = 1 ∧ w ∈ signs)
  o : ¬ ((n = 0 ∨ n = 2) ∧ w = tOpen)
  n : ¬ ((n = 0 ∨ n = 2) ∧ nameB w = true)
def spTakeNo (H0 : Hp) : Sp := fun vs H Q _ => ∃ (L : Addr) (w : Str) (as : List Addr) (i : List Part) (os : List (List Part)), vs = [.ref L, .str w] ∧ StackAt H0 H L as (i :: os) ∧ Stuck i.length (os ≠ []) w ∧ os.length ≤ 100000 ∧ w.length ≤ sizeLine ∧ ∀ (H' : Hp), Same H H' → Q (.bl false) H'
def elsOf : List Stmt → List Stmt
  | [.If _ _ e _] => e
  | _ => []
def tkE : Nat → List Stmt
  | 0 => ((defBody sTake).drop 1).take 1
  | n + 1 => elsOf (tkE n)
structure AtTk (σ : L2.St) (H : Hp) (En : Ends) : Prop where
  ex : ∃ (L a : Addr) (z : Str) (vs : List V) (more : Prop), σ = [some (.ref L), some (.str z), some (.ref a)] ∧ H a = some (.lst vs) ∧ Stuck vs.length more z ∧ z.length ≤ sizeLine ∧ ∀ H', Same H H' → En.rt (.bl false) H'
section
variable {w : World} {P : Program} {base : Heap} {mg : Str → Option Value} {K : PySem.W.Frag} {aS : Addr}
variable {f fJ fN : Addr} {cdv : Value} {A : Around} {outer : List Env} {s : Shared} {H00 : Hp} {E : XK}
abbrev cxT (P : Program) (w : World) (K : PySem.W.Frag) (mg : Str → Option Value) (base : Heap) (f : Addr) (cdv : Value) (A : Around) (outer : List Env) (s : Shared) (H : Hp) (E : XK) : Cx := (cxOf CX0 P w K mg base nmTk "take_word" (defScope sTake) f cdv A outer s H E).nox
theorem tk3 (G : Gf K mg aS) (hN : Has P w K mg base CX0 1 "is_name" fN ["value"] spIsName) (hr : Room 1 (A.deeper (envOfC "take_word" (defScope sTake) s.heap.objs.size f cdv))) :
    PSs (cxT P w K mg base f cdv A outer s H00 E) (tkE 3) (fun En σ H => AtTk σ H En) := by
  have T := G.T
  refine pss_of fun En σ H hyp => ?_
  obtain ⟨L, a, z, vs, more, eσ, ha, st, lz, q⟩ := hyp.ex
  refine ⟨_, pss_one (ps_if (PW.pt (pw_and (pt_cmpR op_in_seq (pe_callB call_len_seq (by rfl) T.len PySem.boot_len (pa_cons (pv 2) pa_nil)) (pe_tup (pa_cons pe_int (pa_cons pe_int pa_nil))) (by rfl)) (pw_and1 (pt_val (pe_has hN hr (by rfl) pass0 (pa_cons (pv 1) pa_nil)))))) pss_never (pss_one (ps_ret pe_bl))), ?_⟩
  subst eσ
  refine ⟨_, rfl, a, _, rfl, .inl (SqL.of ha), (by show 2 ≤ sizeLine; decide), fun t nt => ?_⟩
  have s1 : Same H (upd H t (.tup [.int 0, .int 2])) := same_upd nt
  refine ⟨t, _, rfl, .inr (SqT.of upd_same), rfl, rfl, _, rfl, ?_⟩
  rw [in_02]
  by_cases h : vs.length = 0 ∨ vs.length = 2
  · rw [decide_eq_true h]
    refine iteT ⟨_, rfl, .str z, rfl, .inl ⟨z, rfl, lz⟩, _, rfl, ?_⟩
    have nz : nameV (.str z) = false := by
      cases e : nameB z with
      | true => exact absurd ⟨h, e⟩ st.n
      | false => exact e
    rw [nz]
    exact iteF (q _ s1)
  · rw [decide_eq_false h]
    exact iteF (iteF (q _ s1))
theorem tk2 (G : Gf K mg aS) (hN : Has P w K mg base CX0 1 "is_name" fN ["value"] spIsName) (hr : Room 1 (A.deeper (envOfC "take_word" (defScope sTake) s.heap.objs.size f cdv))) :
    PSs (cxT P w K mg base f cdv A outer s H00 E) (tkE 2) (fun En σ H => AtTk σ H En) := by
  have T := G.T
  refine pss_of fun En σ H hyp => ?_
  obtain ⟨L, a, z, vs, more, eσ, ha, st, lz, q⟩ := hyp.ex
  refine ⟨_, pss_one (ps_if (PW.pt (pw_and (pt_cmpR op_in_seq (pe_callB call_len_seq (by rfl) T.len PySem.boot_len (pa_cons (pv 2) pa_nil)) (pe_tup (pa_cons pe_int (pa_cons pe_int pa_nil))) (by rfl)) (pw_and1 (pt_cmpR op_eq (pv 1) pe_str (nomark _))))) pss_never (tk3 G hN hr)), ?_⟩
  subst eσ
  refine ⟨_, rfl, a, _, rfl, .inl (SqL.of ha), (by show 2 ≤ sizeLine; decide), fun t nt => ?_⟩
  have s1 : Same H (upd H t (.tup [.int 0, .int 2])) := same_upd nt
  refine ⟨t, _, rfl, .inr (SqT.of upd_same), rfl, rfl, _, rfl, ?_⟩
  rw [in_02]
  have nx : AtTk [some (.ref L), some (.str z), some (.ref a)] (upd H t (.tup [.int 0, .int 2])) En := ⟨L, a, z, vs, more, rfl, s1 _ _ ha, st, lz, fun H' s' => q H' (s1.trans s')⟩
  by_cases h : vs.length = 0 ∨ vs.length = 2
  · rw [decide_eq_true h]
    refine iteT ⟨_, rfl, rfl, _, rfl, ?_⟩
    rw [decide_eq_false (fun e => st.o ⟨h, V.str.inj e⟩)]
    exact iteF nx
  · rw [decide_eq_false h]
    exact iteF (iteF nx)
theorem tk1 (G : Gf K mg aS) (hN : Has P w K mg base CX0 1 "is_name" fN ["value"] spIsName) (hr : Room 1 (A.deeper (envOfC "take_word" (defScope sTake) s.heap.objs.size f cdv))) :
    PSs (cxT P w K mg base f cdv A outer s H00 E) (tkE 1) (fun En σ H => AtTk σ H En) := by
  have T := G.T
  refine pss_of fun En σ H hyp => ?_
  obtain ⟨L, a, z, vs, more, eσ, ha, st, lz, q⟩ := hyp.ex
  refine ⟨_, pss_one (ps_if (PW.pt (pw_and (pt_cmpR op_eq (pe_callB call_len_seq (by rfl) T.len PySem.boot_len (pa_cons (pv 2) pa_nil)) pe_int (nomark _)) (pw_and1 (pt_cmpR op_in_seq (pv 1) (pe_glob (v := .ref aS) (by rfl) G.sg rfl) (by rfl))))) pss_never (tk2 G hN hr)), ?_⟩
  subst eσ
  refine ⟨_, rfl, a, _, rfl, .inl (SqL.of ha), rfl, _, rfl, ?_⟩
  have nx : AtTk [some (.ref L), some (.str z), some (.ref a)] H En := ⟨L, a, z, vs, more, rfl, ha, st, lz, q⟩
  by_cases h : vs.length = 1
  · rw [decide_eq_true (by rw [h]; rfl)]
    refine iteT ⟨_, rfl, aS, _, rfl, .inr (G.st H), rfl, strs_flat _, _, rfl, ?_⟩
    rw [inV_mem, decide_eq_false (fun e => st.s ⟨h, e⟩)]
    exact iteF nx
  · rw [decide_eq_false (fun e => by have := V.int.inj e; omega)]
    exact iteF (iteF nx)
theorem ok_takeNo {fd : FuncData} (H0 : Hp) (F : Fun K "take_word" "take_word" sTake f fd) (G : Gf K mg aS) (hN : Has P w K mg base CX0 1 "is_name" fN ["value"] spIsName) : FnOk P w K mg base CX0 2 f fd ["opened", "word"] (spTakeNo H0) := by
  have T := G.T
  refine F.ok scTake (fun vs H Q E h => ?_) (fun cdv A outer s H vs Q E hr h => ?_)
  · obtain ⟨L, z, as, i, os, rfl, _⟩ := h
    rfl
  · obtain ⟨L, z, as, i, os, rfl, sk, st, ls, lz, q⟩ := h
    refine ⟨_, pss_cons (ps_set (i := 2) scTake.nd rfl (.inl rfl) (pe_ix ix_list (pv 0) (pe_un un_neg pe_int) (fun _ _ => rfl)))
      (pss_cons (ps_if (PW.pt (pw_and (pt_cmpR op_eq (pv 1) pe_str (nomark _)) (pw_and (pt_cmpR op_eq (pe_callB call_len_seq (by rfl) T.len PySem.boot_len (pa_cons (pv 2) pa_nil)) pe_int (nomark _)) (pw_and1 (pt_cmpR op_gt (pe_callB call_len_seq (by rfl) T.len PySem.boot_len (pa_cons (pv 0) pa_nil)) pe_int (nomark _))))))
          pss_never (tk1 G hN hr)) (pss_one (ps_ret pe_bl))), ?_⟩
    obtain ⟨hL, nL, rows⟩ := sk
    cases rows with
    | cons ha p na ne nd r =>
      rename_i a ar vs
      have lv := p.len
      have rl := r.len
      refine ⟨_, rfl, _, rfl, L, _, _, .ref a, rfl, rfl, SqL.of hL, last_ref, ?_⟩
      refine ⟨_, rfl, rfl, _, rfl, ?_⟩
      rw [← lv] at st
      have nx : AtTk [some (.ref L), some (.str z), some (.ref a)] H { nx := fun σ H' => tRet (tC (.bl true)) { nx := fun _ H' => Q .non H', rt := Q } σ H', rt := Q } := ⟨L, a, z, vs, _, rfl, ha, st, lz, q⟩
      by_cases hc : z = tClose
      · rw [decide_eq_true (congrArg V.str hc)]
        refine iteT ⟨_, rfl, a, _, rfl, .inl (SqL.of ha), rfl, _, rfl, ?_⟩
        by_cases h3 : vs.length = 3
        · rw [decide_eq_true (by rw [h3]; rfl)]
          refine iteT ⟨_, rfl, L, _, rfl, .inl (SqL.of hL), _, _, rfl, rfl, _, rfl, ?_⟩
          have e0 : os = [] := by
            cases os with
            | nil => rfl
            | cons x y => exact absurd ⟨hc, h3, by simp⟩ st.c
          have e1 : ar.length = 0 := by rw [rl, e0]; rfl
          rw [decide_eq_false (by rw [List.length_map, List.length_reverse, List.length_cons, e1]; decide)]
          exact iteF nx
        · rw [decide_eq_false (fun e => by have := V.int.inj e; omega)]
          exact iteF (iteF nx)
      · rw [decide_eq_false (fun e => hc (V.str.inj e))]
        exact iteF (iteF nx)
end
end K1

namespace K1
open PySem PySem.Spec
open PyProof.Rows L2 EnT StX SmX TxS DuX ClX
/-! ### texts that are no forms -/
def EndBad (st : List (List Part)) : Prop := ∃ (as : List (List Part)) (o : List Part), st = as ++ [o] ∧ o.length ≠ 3 ∧ (o.length = 1 → ∃ z l r, o = [.f (.node z l r)])
inductive BadRun : List (List Part) → List Str → Prop where
  | stuck {i : List Part} {os : List (List Part)} {z : Str} {ws : List Str} (h : Stuck i.length (os ≠ []) z) : BadRun (i :: os) (z :: ws)
  | step {st st1 : List (List Part)} {z : Str} {ws : List Str} (h : Step st z st1) (r : BadRun st1 ws) : BadRun st (z :: ws)
  | end_ {st : List (List Part)} (h : EndBad st) : BadRun st []
theorem BadRun.after {st st1 : List (List Part)} {x y : List Str} (h : Runs st x st1) (r : BadRun st1 y) : BadRun st (x ++ y) := by
  induction h with
  | nil st => exact r
  | cons h _ ih => exact .step h (ih r)
def spTakeB : Sp := fun vs H Q E => spTakeX vs H Q E ∨ ∃ H0, spTakeNo H0 vs H Q E
def spReadNo : Sp := fun vs H Q _ => ∃ (x : Str), vs = [.str x] ∧ x.length ≤ 100000 ∧ (∀ z ∈ Txt.split (twoSpc x) (" " : Str), z.length ≤ sizeLine) ∧ (Txt.split (twoSpc x) (" " : Str)).length ≤ 90000 ∧ BadRun [[]] (Txt.split (twoSpc x) (" " : Str)) ∧ ∀ H', Same H H' → Q .non H'
section
variable {w : World} {P : Program} {base : Heap} {mg : Str → Option Value} {K : PySem.W.Frag} {aS : Addr}
theorem ok_takeB {f fJ fN : Addr} {fd : FuncData} (F : Fun K "take_word" "take_word" sTake f fd) (G : Gf K mg aS) (hJ : Has P w K mg base CX0 1 "joined" fJ ["parts"] spJoined) (hN : Has P w K mg base CX0 1 "is_name" fN ["value"] spIsName) : FnOk P w K mg base CX0 2 f fd ["opened", "word"] spTakeB :=
  ⟨fun vs H Q E h => h.elim (fun ⟨H0, h⟩ => (ok_take H0 F G hJ hN).len vs H Q E h) fun ⟨H0, h⟩ => (ok_takeNo H0 F G hN).len vs H Q E h,
   fun A outer s H args us vs Q E hr e0 hb r h => h.elim (fun ⟨H0, h⟩ => (ok_take H0 F G hJ hN).run A outer s H args us vs Q E hr e0 hb r h) fun ⟨H0, h⟩ => (ok_takeNo H0 F G hN).run A outer s H args us vs Q E hr e0 hb r h⟩
theorem ok_readNo {f fT fJ : Addr} {fd : FuncData} (F : Fun K "read_counted" "read_counted" sReadC f fd) (T : Free mg) (hT : Has P w K mg base CX0 2 "take_word" fT ["opened", "word"] spTakeB) :
    TkX.FnT P w K mg base 3 f fd ["text"] spReadNo := by
  refine TkX.fnT_of F scRc (fun vs H Q E h => ?_) (fun cdv A outer s H vs Q E hr h => ?_)
  · obtain ⟨t, rfl, _⟩ := h
    rfl
  · obtain ⟨x, rfl, l1, lz, lw, bad, q⟩ := h
    refine ⟨_, psst_cons (PST.of (ps_if (pt_not (pt_val (pe_callB call_isi (by rfl) T.isinstance (by decide +kernel) (pa_cons (pv 0) (pa_cons (pe_bltn (v := .ty "str") (u := .type "str") (by rfl) T.str (by decide +kernel) rfl) pa_nil))))) pss_never pss_nil))
      (psst_cons (TkX.pst_set (i := 1) scRc.nd rfl (.inl rfl) (TkX.pet_m1 PySem.F.slot_str_split PySem.F.type_str_split mt_split (CwR.pet_replT (CwR.pet_replC (pv 0))) pe_str))
      (PSsT.of (pss_cons (ps_set (i := 2) scRc.nd rfl (.inl rfl) (pe_lst (pa_cons (pe_lst pa_nil) pa_nil)))
      (pss_cons (ps_for PassesOwn.never rfl (pi_list (pv 1)) (pg_name (i := 3) scRc.nd rfl (.inl rfl))
          (pss_one (ps_if (pt_not (pt_val (pe_has hT hr (by rfl) pass0 (pa_cons (pv 2) (pa_cons (pv 3) pa_nil))))) (pss_one (ps_ret pe_non)) pss_nil)))
      (pss_cons (ps_set (i := 4) scRc.nd rfl (.inl rfl) (pe_ix ix_list (pv 2) pe_int (fun _ _ => rfl)))
      (pss_cons (ps_if (pt_cmpR op_eq (pe_callB call_len_seq (by rfl) T.len PySem.boot_len (pa_cons (pv 4) pa_nil)) pe_int (nomark _)) pss_never pss_nil)
      (pss_cons (ps_if (PW.pt (pw_and (pt_cmpR op_eq (pe_callB call_len_seq (by rfl) T.len PySem.boot_len (pa_cons (pv 4) pa_nil)) pe_int (nomark _)) (pw_and1 (pt_val (pe_callB call_isi (by rfl) T.isinstance (by decide +kernel) (pa_cons (pe_ix ix_tup (pe_ix ix_list (pv 4) pe_int (fun _ _ => rfl)) pe_int (fun _ _ => rfl)) (pa_cons (pe_bltn (v := .ty "str") (u := .type "str") (by rfl) T.str (by decide +kernel) rfl) pa_nil)))))))
          pss_never pss_nil) (pss_one (ps_ret pe_non))))))))), ?_⟩
    refine ⟨_, rfl, _, _, _, _, true, rfl, .ty _, .base (.str _), kit_ty (by decide +kernel), true, rfl, iteF ?_⟩
    have z1 : ("( " : Str).length = 2 := by decide +kernel
    have z2 : (" )" : Str).length = 2 := by decide +kernel
    have l2 := TK.replace_len x ("(" : Str) ("( " : Str)
    have l3 := TK.replace_len (Txt.replace x ("(" : Str) ("( " : Str)) (")" : Str) (" )" : Str)
    have sl : sizeLine = 16777216 := by decide
    rw [z1] at l2
    rw [z2] at l3
    refine ⟨_, rfl, _, rfl, (by rw [z1]; omega), _, rfl, (by rw [z2]; omega), ⟨_, rfl⟩, _, _, rfl, rfl, by decide +kernel, (by omega), fun W nW => ?_⟩
    have hW : (upd H W (.lst ((Txt.split (twoSpc x) (" " : Str)).map V.str))) W = some (.lst ((Txt.split (twoSpc x) (" " : Str)).map V.str)) := upd_same
    have s1 : Same H (upd H W (.lst ((Txt.split (twoSpc x) (" " : Str)).map V.str))) := same_upd nW
    generalize (upd H W (.lst ((Txt.split (twoSpc x) (" " : Str)).map V.str))) = H1 at hW s1
    generalize Txt.split (twoSpc x) (" " : Str) = ws at hW lz lw bad
    refine ⟨(by show 0 ≤ sizeLine; decide), fun R nR => ⟨(by show 1 ≤ sizeLine; decide), fun L nL => ?_⟩⟩
    have nRL : R ≠ L := fun e => by
      rw [← e, upd_same] at nL
      cases nL
    have nL1 : H1 L = none := by
      rw [upd_ne (Ne.symm nRL)] at nL
      exact nL
    have s2 : Same H1 (upd (upd H1 R (.lst [])) L (.lst [.ref R])) := (same_upd nR).trans (same_upd nL)
    have sk : StackAt H1 (upd (upd H1 R (.lst [])) L (.lst [.ref R])) L [R] [[]] := ⟨upd_same, nL1, .cons (by rw [upd_ne nRL]; exact upd_same) .nil nR nRL (by simp) .nil⟩
    generalize (upd (upd H1 R (.lst [])) L (.lst [.ref R])) = H3 at s2 sk ⊢
    refine ⟨_, rfl, W, rfl, ⟨_, SqL.of (s2 _ _ hW)⟩, for_list (xs := ws.map V.str) (K := K) (a := W) (fun i σ H' => Same H1 H' ∧ ∃ (as : List Addr) (st : List (List Part)) (y3 : Option V), σ = [some (.str x), some (.ref W), some (.ref L), y3, none] ∧ StackAt H1 H' L as st ∧ st.length ≤ i + 1 ∧ BadRun st (ws.drop i)) ⟨s2, _, _, _, rfl, sk, Nat.le_refl _, bad⟩ ?_ ?_ ?_⟩
    · rintro i σ H' hi ⟨s3, _⟩
      exact SqL.of (s3 _ _ hW)
    · rintro i y σ H' hx ⟨s3, as, st, y3, rfl, k3, ll, rr⟩
      rw [List.getElem?_map] at hx
      obtain ⟨z, hz, rfl⟩ := Option.map_eq_some_iff.mp hx
      obtain ⟨hi, ez⟩ := List.getElem?_eq_some_iff.mp hz
      rw [List.drop_eq_getElem_cons hi, ez] at rr
      have hl8 := lz z (List.mem_of_getElem? hz)
      cases rr with
      | stuck h =>
        rename_i i' os
        refine ⟨_, rfl, _, rfl, .inr ⟨H1, L, z, as, i', os, rfl, k3, h, by rw [List.length_cons] at ll; omega, hl8, fun H4 s4 => ?_⟩⟩
        exact ⟨false, rfl, iteT (q H4 (s1.trans (s3.trans s4)))⟩
      | step stp rr =>
        refine ⟨_, rfl, _, rfl, .inl ⟨H1, L, z, as, st, _, rfl, k3, stp, s3, (by omega), hl8, fun as' H4 s4 k4 => ?_⟩⟩
        refine ⟨true, rfl, iteF ?_⟩
        have := step_len stp
        exact ⟨s4, as', _, _, rfl, k4, by omega, rr⟩
    · rintro σ H4 ⟨s4, as, st, y3, rfl, k4, ll, rr⟩
      rw [List.drop_eq_nil_of_le (by rw [List.length_map]; exact Nat.le_refl _)] at rr
      cases rr with
      | end_ hb =>
      obtain ⟨bs, o, rfl, n3, n1⟩ := hb
      obtain ⟨hL, nL', rows⟩ := k4
      have s5 := s1.trans s4
      -- the outermost row
      have key : ∀ {as : List Addr} {bs : List (List Part)}, RowsAt H1 H4 L as (bs ++ [o]) → ∃ (as' : List Addr) (a : Addr) (vs : List V), as = as' ++ [a] ∧ H4 a = some (.lst vs) ∧ PartsAt H4 vs o := fun {as bs} r => by
        induction bs generalizing as with
        | nil =>
          cases r with
          | cons ha p _ _ _ r =>
            cases r
            exact ⟨[], _, _, rfl, ha, p⟩
        | cons b bs ih =>
          cases r with
          | cons ha p _ _ _ r =>
            obtain ⟨as', a, vs, e, h1, h2⟩ := ih r
            exact ⟨_ :: as', a, vs, by rw [e]; rfl, h1, h2⟩
      obtain ⟨as', a, vs, rfl, ha, pa⟩ := key rows
      have e0 : atI ((as' ++ [a]).reverse.map V.ref) 0 = some (.ref a) := atI_nat (j := 0) (by simp)
      refine ⟨_, rfl, L, _, _, .ref a, rfl, rfl, SqL.of hL, e0, ?_⟩
      have lv := pa.len
      refine ⟨_, rfl, a, _, rfl, .inl (SqL.of ha), rfl, _, rfl, ?_⟩
      rw [decide_eq_false (fun e => by have := V.int.inj e; omega)]
      refine iteF ?_
      refine ⟨_, rfl, a, _, rfl, .inl (SqL.of ha), rfl, _, rfl, ?_⟩
      by_cases h1 : vs.length = 1
      · obtain ⟨z, l, r, rfl⟩ := n1 (by omega)
        rw [decide_eq_true (by rw [h1]; rfl)]
        refine iteT ?_
        cases pa with
        | cons p1 r1 =>
        cases r1
        cases p1 with
        | f hb m =>
        rename_i b v
        cases m with
        | node hq _ _ =>
        refine ⟨_, rfl, a, _, _, .ref b, rfl, rfl, SqL.of ha, rfl, b, _, _, _, rfl, rfl, SqT.of hb, rfl, _, _, _, _, false, rfl, .ty _, .base (.tup hq), kit_ty (by decide +kernel), false, rfl, iteF ?_⟩
        exact q _ s5
      · rw [decide_eq_false (fun e => by have := V.int.inj e; omega)]
        exact iteF (iteF (q _ s5))
end
end K1

namespace K1
open PySem PySem.Spec
open PyProof.Rows L2 EnT StX SmX TxS DuX ClX TL
/-! ### the bad lines made of a line -/
theorem words_are {x : Str} {ps : List Str} (hn : ps ≠ []) (hb : ∀ z ∈ ps, 32 ∉ tl z) (e : spc (tl x) = joinL [32] (ps.map tl)) : Txt.split (twoSpc x) (" " : Str) = ps := by
  have e1 : tl (" " : Str) = [32] := by decide +kernel
  have e : twoSpc x = Txt.join (" " : Str) ps := by
    have a : tl (twoSpc x) = tl (Txt.join (" " : Str) ps) := by
      rw [tl_twoSpc, e, join_eq, tl_join, e1]
    rw [← mk_tl (twoSpc x), ← mk_tl (Txt.join (" " : Str) ps), a]
  rw [e]
  exact split_join e1 (by decide +kernel) hn hb
/-- a line and words behind it -/
theorem words_behind {t : Fm} {x : Str} {ps : List Str} (ok : t.Ok) (hn : ps ≠ []) (hb : ∀ z ∈ ps, 32 ∉ tl z) (e : spc (tl x) = 32 :: joinL [32] (ps.map tl)) : Txt.split (twoSpc (t.txt false ++ x)) (" " : Str) = t.tok false ++ ps := by
  refine words_are (by simp [tok_ne]) (fun z hz => ?_) ?_
  · rcases List.mem_append.mp hz with h | h
    · exact (tok_bare false t ok z h).1
    · exact hb z h
  · rw [tl_append, spc_app, tok_text false t ok, e, List.map_append, joinL_app [32] (map_ne (tok_ne false t)) (map_ne hn)]
    rfl
/-- words ahead of a line -/
theorem words_ahead {t : Fm} {x : Str} {ps : List Str} (ok : t.Ok) (hn : ps ≠ []) (hb : ∀ z ∈ ps, 32 ∉ tl z) (e : spc (tl x) = joinL [32] (ps.map tl) ++ [32]) : Txt.split (twoSpc (x ++ t.txt false)) (" " : Str) = ps ++ t.tok false := by
  refine words_are (by simp [tok_ne]) (fun z hz => ?_) ?_
  · rcases List.mem_append.mp hz with h | h
    · exact hb z h
    · exact (tok_bare false t ok z h).1
  · rw [tl_append, spc_app, tok_text false t ok, e, List.map_append, joinL_app [32] (map_ne hn) (map_ne (tok_ne false t))]
    simp
/-- the outermost row behind a line -/
theorem outer_len (t : Fm) : t.outer.length = 1 ∨ t.outer.length = 3 := by
  cases t with
  | leaf z => exact .inl rfl
  | node s l r => exact .inr rfl
/-- a word that can't stand behind a line -/
theorem bad_behind {t : Fm} {z : Str} {ws : List Str} (ok : t.Ok) (h : z ∉ signs ∨ 3 = t.outer.length) : BadRun [[]] (t.tok false ++ (z :: ws)) := by
  refine BadRun.after (runs_all t ok) (.stuck ⟨fun e => e.2.2 rfl, fun e => ?_, fun e => ?_, fun e => ?_⟩)
  · rcases h with h | h
    · exact h e.2
    · have := e.1
      omega
  · have := outer_len t
    have := e.1
    omega
  · have := outer_len t
    have := e.1
    omega
end K1

namespace K1
open PySem PySem.Spec
open PyProof.Rows L2 EnT StX SmX TxS DuX ClX TL
/-! ### each bad line -/
theorem runs_in : ∀ (t : Fm) (os : List (List Part)), t.Ok → Runs ([] :: os) (t.tok false) (t.outer :: os)
  | .leaf z, os, ok => .cons (.name [] os .nil z ok) (.nil _)
  | .node s l r, os, ok => Runs.app (runs_tok l [] os ok.2.1 .nil) (.cons (.sign l s os ok.1) (runs_tok r [.f l, .s s] os ok.2.2 (.two l s)))
theorem no_sign {z : Str} (h : z ∉ signs) {n : Nat} {more : Prop} (c : z ≠ tClose ∨ n ≠ 3) (o : z ≠ tOpen ∨ (n ≠ 0 ∧ n ≠ 2)) (m : nameB z = false ∨ (n ≠ 0 ∧ n ≠ 2)) : Stuck n more z := by
  refine ⟨fun e => ?_, fun e => h e.2, fun e => ?_, fun e => ?_⟩
  · rcases c with c | c
    · exact c e.1
    · exact c e.2.1
  · rcases o with o | o
    · exact o e.2
    · rcases e.1 with q | q
      · exact o.1 q
      · exact o.2 q
  · rcases m with m | m
    · rw [m] at e
      cases e.2
    · rcases e.1 with q | q
      · exact m.1 q
      · exact m.2 q
theorem bad_first {z : Str} {ws : List Str} (h : z ≠ tOpen) (n : nameB z = false) : BadRun [[]] (z :: ws) :=
  .stuck ⟨fun e => e.2.2 rfl, (fun e => by cases e.1), fun e => h e.2, (fun e => by rw [n] at e; cases e.2)⟩
theorem bad_brackets (t : Fm) (ok : t.Ok) : BadRun [[]] (tOpen :: (t.tok false ++ [tClose])) := by
  refine .step (.open_ [] [] .nil) (BadRun.after (runs_in t [[]] ok) ?_)
  cases t with
  | leaf z => exact .stuck (no_sign (by decide +kernel) (.inr (by show 1 ≠ 3; decide)) (.inl (by decide +kernel)) (.inl (by decide +kernel)))
  | node z l r => exact .step (.close z l r [] [] .nil) (.end_ ⟨[], [.f (.node z l r)], rfl, by show 1 ≠ 3; decide, fun _ => ⟨_, _, _, rfl⟩⟩)
theorem bad_open (t : Fm) (ok : t.Ok) : BadRun [[]] (tOpen :: t.tok false) := by
  have h := BadRun.after (runs_in t [[]] ok) (.end_ (st := [t.outer, []]) ⟨[t.outer], [], rfl, by show 0 ≠ 3; decide, fun e => by cases e⟩)
  rw [List.append_nil] at h
  exact .step (.open_ [] [] .nil) h
theorem bad_sign (t : Fm) (ok : t.Ok) {z : Str} (hz : z ∈ signs) : BadRun [[]] (t.tok false ++ [z]) := by
  cases t with
  | node s l r => exact bad_behind ok (.inr rfl)
  | leaf y => exact BadRun.after (runs_all (.leaf y) ok) (.step (.sign (.leaf y) z [] hz) (.end_ ⟨[], _, rfl, by show 2 ≠ 3; decide, fun e => by cases e⟩))
theorem bad_sign2 (t : Fm) (ok : t.Ok) {z y : Str} {ws : List Str} (hz : z ∈ signs) (h1 : y ∉ signs) (h2 : y ≠ tOpen) (h3 : nameB y = false) : BadRun [[]] (t.tok false ++ (z :: y :: ws)) := by
  cases t with
  | node s l r => exact bad_behind ok (.inr rfl)
  | leaf x => exact BadRun.after (runs_all (.leaf x) ok) (.step (.sign (.leaf x) z [] hz) (.stuck (no_sign h1 (.inr (by show 2 ≠ 3; decide)) (.inl h2) (.inl h3))))
/-- line | () -/
theorem bad_empty (t : Fm) (ok : t.Ok) {z : Str} (hz : z ∈ signs) : BadRun [[]] (t.tok false ++ [z, tOpen, tClose]) := by
  cases t with
  | node s l r => exact bad_behind ok (.inr rfl)
  | leaf x => exact BadRun.after (runs_all (.leaf x) ok) (.step (.sign (.leaf x) z [] hz) (.step (.open_ _ [] (.two _ _)) (.stuck (no_sign (by decide +kernel) (.inr (by show 0 ≠ 3; decide)) (.inl (by decide +kernel)) (.inl (by decide +kernel))))))
end K1

namespace K1
open PySem PySem.Spec
open PyProof.Rows L2 EnT StX SmX TxS DuX ClX TL
/-! ### texts that are none -/
structure BadTx (x : Str) : Prop where
  l : x.length ≤ 50000
  w : ∀ z ∈ Txt.split (twoSpc x) (" " : Str), z.length ≤ sizeLine
  n : (Txt.split (twoSpc x) (" " : Str)).length ≤ 90000
  r : BadRun [[]] (Txt.split (twoSpc x) (" " : Str))
def Wd (ps : List Str) : Prop := ∀ z ∈ ps, 32 ∉ tl z ∧ z.length ≤ 100
theorem Wd.app {x y : List Str} (a : Wd x) (b : Wd y) : Wd (x ++ y) := fun z h => (List.mem_append.mp h).elim (a z) (b z)
theorem wd_tok (b : Bool) {t : Fm} (ok : t.Ok) : Wd (t.tok b) := fun z h => by
  have := tok_bare b t ok z h
  exact ⟨this.1, by omega⟩
theorem badTx {x : Str} {ps : List Str} (l : x.length ≤ 50000) (hn : ps ≠ []) (hb : Wd ps) (hl : ps.length ≤ 90000) (e : spc (tl x) = joinL [32] (ps.map tl)) (r : BadRun [[]] ps) : BadTx x := by
  have hs := words_are hn (fun z h => (hb z h).1) e
  refine ⟨l, ?_, ?_, ?_⟩ <;> rw [hs]
  · intro z h
    have := (hb z h).2
    rw [sizeLine_eq]
    omega
  · exact hl
  · exact r
/-- a text that is none, and can be shown, and has no sign of facts -/
structure LineBad (x : Str) : Prop where
  b : BadTx x
  low : Lw x
  lt : 60 ∉ tl x
theorem Lw.txt {t : Fm} (ok : t.Ok) : Lw (t.txt false) := txt_low false ok
section
variable {t : Fm} {y : Str} {ex : List Str}
theorem lb_behind (ok : t.Ok) (n : t.nl ≤ 1000) (hn : ex ≠ []) (hb : Wd ex) (le : ex.length ≤ 100) (ly : y.length ≤ 100) (lo : Lw y) (nl : 60 ∉ tl y) (e : spc (tl y) = 32 :: joinL [32] (ex.map tl)) (r : BadRun [[]] (t.tok false ++ ex)) : LineBad (t.txt false ++ y) := by
  have l1 := txt_len false t ok
  have l2 := tok_len false t
  refine ⟨badTx (ps := t.tok false ++ ex) ?_ (by simp [tok_ne]) ((wd_tok false ok).app hb) ?_ ?_ r, (Lw.txt ok).app lo, nolt_app (nolt_txt false ok) nl⟩
  · rw [strLen_append]
    omega
  · rw [List.length_append]
    omega
  · rw [tl_append, spc_app, tok_text false t ok, e, List.map_append, joinL_app [32] (map_ne (tok_ne false t)) (map_ne hn)]
    rfl
theorem lb_ahead (ok : t.Ok) (n : t.nl ≤ 1000) (hn : ex ≠ []) (hb : Wd ex) (le : ex.length ≤ 100) (ly : y.length ≤ 100) (lo : Lw y) (nl : 60 ∉ tl y) (e : spc (tl y) = joinL [32] (ex.map tl) ++ [32]) (r : BadRun [[]] (ex ++ t.tok false)) : LineBad (y ++ t.txt false) := by
  have l1 := txt_len false t ok
  have l2 := tok_len false t
  refine ⟨badTx (ps := ex ++ t.tok false) ?_ (by simp [tok_ne]) (hb.app (wd_tok false ok)) ?_ ?_ r, lo.app (Lw.txt ok), nolt_app nl (nolt_txt false ok)⟩
  · rw [strLen_append]
    omega
  · rw [List.length_append]
    omega
  · rw [tl_append, spc_app, tok_text false t ok, e, List.map_append, joinL_app [32] (map_ne hn) (map_ne (tok_ne false t))]
    simp
theorem lb_both (ok : t.Ok) (n : t.nl ≤ 1000) : LineBad (("(" : Str) ++ t.txt false ++ (")" : Str)) := by
  have l1 := txt_len false t ok
  have l2 := tok_len false t
  have e1 : ("(" : Str).length = 1 := by decide +kernel
  have e2 : (")" : Str).length = 1 := by decide +kernel
  have wO : Wd [tOpen] := by unfold Wd; decide +kernel
  have wC : Wd [tClose] := by unfold Wd; decide +kernel
  have lO : Lw ("(" : Str) := by unfold Lw; decide +kernel
  have lC : Lw (")" : Str) := by unfold Lw; decide +kernel
  refine ⟨badTx (ps := [tOpen] ++ (t.tok false ++ [tClose])) ?_ (by simp) (wO.app ((wd_tok false ok).app wC)) ?_ ?_ (bad_brackets t ok), (lO.app (Lw.txt ok)).app lC, nolt_app (nolt_app (by decide +kernel) (nolt_txt false ok)) (by decide +kernel)⟩
  · rw [strLen_append, strLen_append]
    omega
  · simp only [List.length_append, List.length_cons, List.length_nil]
    omega
  · have s1 : spc (tl ("(" : Str)) = [40, 32] := by decide +kernel
    have s2 : spc (tl (")" : Str)) = [32, 41] := by decide +kernel
    rw [tl_append, tl_append, spc_app, spc_app, s1, s2, tok_text false t ok, List.map_append, List.map_append, joinL_app [32] (by simp) (by simp [tok_ne]), joinL_app [32] (map_ne (tok_ne false t)) (by simp)]
    show [40, 32] ++ joinL [32] ((t.tok false).map tl) ++ [32, 41] = tl tOpen ++ ([32] ++ (joinL [32] ((t.tok false).map tl) ++ ([32] ++ tl tClose)))
    rw [tl_open, tl_close]
    simp
theorem lb_const {x : Str} {ps : List Str} (l : x.length ≤ 100) (hn : ps ≠ []) (hb : Wd ps) (hl : ps.length ≤ 100) (e : spc (tl x) = joinL [32] (ps.map tl)) (lo : Lw x) (nl : 60 ∉ tl x) (r : BadRun [[]] ps) : LineBad x :=
  ⟨badTx (by omega) hn hb (by omega) e r, lo, nl⟩
end
theorem bad_empty2 (t : Fm) (ok : t.Ok) {z : Str} (hz : z ∈ signs) : BadRun [[]] (t.tok false ++ [z, tOpen, "", tClose]) := by
  cases t with
  | node s l r => exact bad_behind ok (.inr rfl)
  | leaf x => exact BadRun.after (runs_all (.leaf x) ok) (.step (.sign (.leaf x) z [] hz) (.step (.open_ _ [] (.two _ _)) (.stuck (no_sign (by decide +kernel) (.inl (by decide +kernel)) (.inl (by decide +kernel)) (.inl (by decide +kernel))))))
abbrev fA : Fm := .leaf "a"
abbrev fAB : Fm := .node "|" (.leaf "a") (.leaf "b")
theorem ok_fAB : fAB.Ok := ⟨by decide +kernel, by show nameB "a" = true; decide +kernel, by show nameB "b" = true; decide +kernel⟩
theorem ok_fA : fA.Ok := by show nameB "a" = true; decide +kernel
/-- the texts that are none, made of a line -/
def badTexts (x : Str) : List Str := ["", " ", x ++ (" " : Str), (" " : Str) ++ x, ("(" : Str) ++ x ++ (")" : Str), x ++ (" |" : Str), ("| " : Str) ++ x, x ++ (" | A" : Str), x ++ (" + a" : Str), x ++ ("  | a" : Str), ("(" : Str) ++ x, x ++ (")" : Str), "a|b", "( a | b) | c", "(a | b ) | c", "a | b | c", "((a | b)) | c", "(a) | b", "a\n", "a | (b)", "()", x ++ (" | ()" : Str), x ++ (" a" : Str), "(a | b)(a | b)"]
theorem bar_sign : ("|" : Str) ∈ signs := by decide +kernel
theorem c1 : LineBad "" := lb_const (ps := [""]) (by decide +kernel) (by simp) (by unfold Wd; decide +kernel) (by decide) (by decide +kernel) (by unfold Lw; decide +kernel) (by decide +kernel) (bad_first (by decide +kernel) (by decide +kernel))
theorem c2 : LineBad " " := lb_const (ps := ["", ""]) (by decide +kernel) (by simp) (by unfold Wd; decide +kernel) (by decide) (by decide +kernel) (by unfold Lw; decide +kernel) (by decide +kernel) (bad_first (by decide +kernel) (by decide +kernel))
theorem c3 : LineBad "a|b" := lb_const (ps := ["a|b"]) (by decide +kernel) (by simp) (by unfold Wd; decide +kernel) (by decide) (by decide +kernel) (by unfold Lw; decide +kernel) (by decide +kernel) (bad_first (by decide +kernel) (by decide +kernel))
theorem c4 : LineBad "( a | b) | c" := lb_const (ps := ["(", "", "a", "|", "b", ")", "|", "c"]) (by decide +kernel) (by simp) (by unfold Wd; decide +kernel) (by decide) (by decide +kernel) (by unfold Lw; decide +kernel) (by decide +kernel) (.step (.open_ [] [] .nil) (.stuck (no_sign (by decide +kernel) (.inl (by decide +kernel)) (.inl (by decide +kernel)) (.inl (by decide +kernel)))))
theorem c5 : LineBad "(a | b ) | c" := lb_const (ps := ["(", "a", "|", "b", "", ")", "|", "c"]) (by decide +kernel) (by simp) (by unfold Wd; decide +kernel) (by decide) (by decide +kernel) (by unfold Lw; decide +kernel) (by decide +kernel)
  (.step (.open_ [] [] .nil) (BadRun.after (y := ["", ")", "|", "c"]) (runs_in fAB [[]] ok_fAB) (.stuck (no_sign (by decide +kernel) (.inl (by decide +kernel)) (.inl (by decide +kernel)) (.inl (by decide +kernel))))))
theorem c6 : LineBad "a | b | c" := lb_const (ps := fAB.tok false ++ (["|", "c"] : List Str)) (by decide +kernel) (by simp [tok_ne]) (by unfold Wd; decide +kernel) (by decide) (by decide +kernel) (by unfold Lw; decide +kernel) (by decide +kernel) (bad_behind ok_fAB (.inr rfl))
theorem c7 : LineBad "((a | b)) | c" := lb_const (ps := ["(", "(", "a", "|", "b", ")", ")", "|", "c"]) (by decide +kernel) (by simp) (by unfold Wd; decide +kernel) (by decide) (by decide +kernel) (by unfold Lw; decide +kernel) (by decide +kernel)
  (.step (.open_ [] [] .nil) (BadRun.after (x := fAB.tok true) (y := [")", "|", "c"]) (runs_tok fAB [] [[]] ok_fAB .nil) (.stuck (no_sign (by decide +kernel) (.inr (by decide)) (.inl (by decide +kernel)) (.inl (by decide +kernel))))))
theorem c8 : LineBad "(a) | b" := lb_const (ps := ["(", "a", ")", "|", "b"]) (by decide +kernel) (by simp) (by unfold Wd; decide +kernel) (by decide) (by decide +kernel) (by unfold Lw; decide +kernel) (by decide +kernel)
  (.step (.open_ [] [] .nil) (.step (.name [] [[]] .nil "a" (by decide +kernel)) (.stuck (no_sign (by decide +kernel) (.inr (by decide)) (.inl (by decide +kernel)) (.inl (by decide +kernel))))))
theorem c9 : LineBad "a\n" := lb_const (ps := ["a\n"]) (by decide +kernel) (by simp) (by unfold Wd; decide +kernel) (by decide) (by decide +kernel) (by unfold Lw; decide +kernel) (by decide +kernel) (bad_first (by decide +kernel) (by decide +kernel))
theorem c10 : LineBad "a | (b)" := lb_const (ps := ["a", "|", "(", "b", ")"]) (by decide +kernel) (by simp) (by unfold Wd; decide +kernel) (by decide) (by decide +kernel) (by unfold Lw; decide +kernel) (by decide +kernel)
  (.step (.name [] [] .nil "a" (by decide +kernel)) (.step (.sign (.leaf "a") "|" [] bar_sign) (.step (.open_ _ [] (.two _ _)) (.step (.name [] _ .nil "b" (by decide +kernel)) (.stuck (no_sign (by decide +kernel) (.inr (by decide)) (.inl (by decide +kernel)) (.inl (by decide +kernel))))))))
theorem c11 : LineBad "()" := lb_const (ps := ["(", "", ")"]) (by decide +kernel) (by simp) (by unfold Wd; decide +kernel) (by decide) (by decide +kernel) (by unfold Lw; decide +kernel) (by decide +kernel)
  (.step (.open_ [] [] .nil) (.stuck (no_sign (by decide +kernel) (.inl (by decide +kernel)) (.inl (by decide +kernel)) (.inl (by decide +kernel)))))
theorem c12 : LineBad "(a | b)(a | b)" := lb_const (ps := ["(", "a", "|", "b", ")(", "a", "|", "b", ")"]) (by decide +kernel) (by simp) (by unfold Wd; decide +kernel) (by decide) (by decide +kernel) (by unfold Lw; decide +kernel) (by decide +kernel)
  (.step (.open_ [] [] .nil) (BadRun.after (y := [")(", "a", "|", "b", ")"]) (runs_in fAB [[]] ok_fAB) (.stuck (no_sign (by decide +kernel) (.inl (by decide +kernel)) (.inl (by decide +kernel)) (.inl (by decide +kernel))))))
theorem bad_texts {t : Fm} (ok : t.Ok) (n : t.nl ≤ 1000) : ∀ x ∈ badTexts (t.txt false), LineBad x := by
  have B : ∀ {y : Str} {ex : List Str}, ex ≠ [] → Wd ex → ex.length ≤ 100 → y.length ≤ 100 → Lw y → 60 ∉ tl y → spc (tl y) = 32 :: joinL [32] (ex.map tl) → BadRun [[]] (t.tok false ++ ex) → LineBad (t.txt false ++ y) := fun a b c d e f g h => lb_behind ok n a b c d e f g h
  have A : ∀ {y : Str} {ex : List Str}, ex ≠ [] → Wd ex → ex.length ≤ 100 → y.length ≤ 100 → Lw y → 60 ∉ tl y → spc (tl y) = joinL [32] (ex.map tl) ++ [32] → BadRun [[]] (ex ++ t.tok false) → LineBad (y ++ t.txt false) := fun a b c d e f g h => lb_ahead ok n a b c d e f g h
  intro x hx
  simp only [badTexts, List.mem_cons, List.not_mem_nil, or_false] at hx
  rcases hx with rfl | rfl | rfl | rfl | rfl | rfl | rfl | rfl | rfl | rfl | rfl | rfl | rfl | rfl | rfl | rfl | rfl | rfl | rfl | rfl | rfl | rfl | rfl | rfl
  · exact c1
  · exact c2
  · exact B (ex := [""]) (by simp) (by unfold Wd; decide +kernel) (by decide) (by decide +kernel) (by unfold Lw; decide +kernel) (by decide +kernel) (by decide +kernel) (bad_behind ok (.inl (by decide +kernel)))
  · exact A (ex := [""]) (by simp) (by unfold Wd; decide +kernel) (by decide) (by decide +kernel) (by unfold Lw; decide +kernel) (by decide +kernel) (by decide +kernel) (bad_first (by decide +kernel) (by decide +kernel))
  · exact lb_both ok n
  · exact B (ex := ["|"]) (by simp) (by unfold Wd; decide +kernel) (by decide) (by decide +kernel) (by unfold Lw; decide +kernel) (by decide +kernel) (by decide +kernel) (bad_sign t ok bar_sign)
  · exact A (ex := ["|"]) (by simp) (by unfold Wd; decide +kernel) (by decide) (by decide +kernel) (by unfold Lw; decide +kernel) (by decide +kernel) (by decide +kernel) (bad_first (by decide +kernel) (by decide +kernel))
  · exact B (ex := ["|", "A"]) (by simp) (by unfold Wd; decide +kernel) (by decide) (by decide +kernel) (by unfold Lw; decide +kernel) (by decide +kernel) (by decide +kernel) (bad_sign2 t ok bar_sign (by decide +kernel) (by decide +kernel) (by decide +kernel))
  · exact B (ex := ["+", "a"]) (by simp) (by unfold Wd; decide +kernel) (by decide) (by decide +kernel) (by unfold Lw; decide +kernel) (by decide +kernel) (by decide +kernel) (bad_behind ok (.inl (by decide +kernel)))
  · exact B (ex := ["", "|", "a"]) (by simp) (by unfold Wd; decide +kernel) (by decide) (by decide +kernel) (by unfold Lw; decide +kernel) (by decide +kernel) (by decide +kernel) (bad_behind ok (.inl (by decide +kernel)))
  · exact A (ex := [tOpen]) (by simp) (by unfold Wd; decide +kernel) (by decide) (by decide +kernel) (by unfold Lw; decide +kernel) (by decide +kernel) (by decide +kernel) (bad_open t ok)
  · exact B (ex := [tClose]) (by simp) (by unfold Wd; decide +kernel) (by decide) (by decide +kernel) (by unfold Lw; decide +kernel) (by decide +kernel) (by decide +kernel) (bad_behind ok (.inl (by decide +kernel)))
  · exact c3
  · exact c4
  · exact c5
  · exact c6
  · exact c7
  · exact c8
  · exact c9
  · exact c10
  · exact c11
  · exact B (ex := ["|", tOpen, "", tClose]) (by simp) (by unfold Wd; decide +kernel) (by decide) (by decide +kernel) (by unfold Lw; decide +kernel) (by decide +kernel) (by decide +kernel) (bad_empty2 t ok bar_sign)
  · exact B (ex := ["a"]) (by simp) (by unfold Wd; decide +kernel) (by decide) (by decide +kernel) (by unfold Lw; decide +kernel) (by decide +kernel) (by decide +kernel) (bad_behind ok (.inl (by decide +kernel)))
  · exact c12
theorem par_free60 : ∀ (acc p : List Nat), 60 ∉ p → par [32, 60, 61, 32] acc p = none
  | _, [], _ => rfl
  | acc, c :: r, h => by
    have hp : pre [32, 60, 61, 32] (c :: r) = false := by
      cases e : pre [32, 60, 61, 32] (c :: r) with
      | false => rfl
      | true =>
        exfalso
        have e2 : (c :: r).take 4 = [32, 60, 61, 32] := beq_iff_eq.mp e
        exact h (List.mem_of_mem_take (by rw [e2]; simp : 60 ∈ (c :: r).take 4))
    show (if pre [32, 60, 61, 32] (c :: r) = true then _ else par [32, 60, 61, 32] (acc ++ [c]) r) = none
    rw [if_neg (by rw [hp]; exact Bool.false_ne_true)]
    exact par_free60 _ r fun m => h (List.mem_cons_of_mem _ m)
theorem part_no {x : Str} (h : 60 ∉ tl x) : Txt.partition x tLe = (x, ("" : Str), ("" : Str)) := by
  have et : tl tLe = [32, 60, 61, 32] := by decide +kernel
  rw [partition_par _ tLe (by rw [et]; simp), et, par_free60 [] _ h]
  rfl
end K1

namespace TkX
open PySem PySem.Spec PyProof.Rows L2 SmX ClX
/-- a, b = x, y with plain local names, a token being out -/
theorem pst_par {X : Cx} {pos : Pos} {i j : Nat} {x y : Str} {a b : Expr} {ta : TA} {px py pt : Pos} {kt k2 pt2} (hc : X.calm = true) (hN : X.N.Nodup) (hi : X.N[i]? = some x) (hj : X.N[j]? = some y) (hij : i ≠ j)
    (hx : X.env.scope.names.lookup x = some .local) (hy : X.env.scope.names.lookup y = some .local) (ha : PAT X [a, b] ta)
    (hw : swappedStores [.Tuple [.Name x px, .Name y py] kt pt] (.Tuple [a, b] k2 pt2) X.env = pure (some [x, y]))
    (hs : swapsWithSole [.Tuple [.Name x px, .Name y py] kt pt] (.Tuple [a, b] k2 pt2) pos.line X.env = pure false := by rfl) :
    PST X (.Assign [.Tuple [.Name x px, .Name y py] kt pt] (.Tuple [a, b] k2 pt2) pos) (tPar i j ta) := by
  intro pins s σ H D h0 I h
  rw [exec_Assign_arm]
  refine wpAny_bind (wpAny_standAt ?_)
  rw [hs]
  refine wpAny_bind
      (wpAny_pure ?_)
  rw [if_neg (by decide)]
  refine wpAny_bind (Tuple_ (thn (ha _ pins s σ H _ h0 I h) fun us s1 ⟨vs, H1, I1, r1, q1⟩ => ?_))
  obtain ⟨v, w, e1, q1⟩ := q1
  subst e1
  obtain ⟨u1, u2, rfl, rv, rw'⟩ : ∃ u1 u2, us = [u1, u2] ∧ RelV v u1 ∧ RelV w u2 := by
    cases r1 with
    | cons p q =>
      cases q with
      | cons p' q' =>
        cases q'
        exact ⟨_, _, rfl, p, p'⟩
  refine wpAny_newObj_type ?_ (by show 2 ≤ sizeLine; decide)
  have I2 : Inv X pins σ H1 { s1 with heap := s1.heap.push { cls := .type "tuple", data := .seq [u1, u2].toArray } } := I1.kept (t' := s1.toks) fun _ _ e => Heap.get?_push_of_some _ e
  rw [hw]
  refine wpAny_bind
      (wpAny_pure ?_)
  show wpAny (model X.prog X.w) X.A (do rule "assign.swapped-stores"; let its ← unpackItems (.ref s1.heap.objs.size) 2 none; assignInOrder [fun v => bindName X.env y v, fun v => bindName X.env x v] its.reverse; pure Flow.next) _ _ _
  refine wpAny_bind (wpAny_rule (wpAny_bind (unpackItems_tuple (items := #[u1, u2]) (I.ok.hd hc) (IsTup.new s1.heap _) fun h2 hx2 => ?_)))
  have I3 := I2.kept (h' := h2) (t' := s1.toks) fun b o e => hx2 b o (Nat.ne_of_lt (Heap.lt_size e)) e
  show wpAny _ _ (assignInOrder [fun v => bindName X.env y v, fun v => bindName X.env x v] [u2, u1] >>= fun _ => pure Flow.next) _ _ _
  refine wpAny_bind (assignInOrder_cons (wpAny_bindName (store_ok I3 hN hj (.inl hy) rw' (fun s2 I4 => ?_) (.inr hy))))
  refine assignInOrder_cons (wpAny_bindName (store_ok I4 hN hi (.inl hx) rv (fun s3 I5 => assignInOrder_nil
      (wpAny_pure ?_)) (.inr hx)))
  rw [List.set_comm _ _ (Ne.symm hij)] at I5
  exact ⟨_, H1, I5, q1⟩
end TkX
namespace K1
open PySem PySem.Spec
open PyProof.Rows L2 EnT StX SmX TxS DuX ClX
/-! ### the readers, refused -/
theorem fnTOr {P : Program} {w : World} {K : PySem.W.Frag} {mg : Str → Option Value} {base : Heap} {k : Nat} {f : Addr} {fd : FuncData} {ps : List Str} {sp sp' : Sp} (a : TkX.FnT P w K mg base k f fd ps sp) (b : TkX.FnT P w K mg base k f fd ps sp') : TkX.FnT P w K mg base k f fd ps (fun vs H Q E => sp vs H Q E ∨ sp' vs H Q E) :=
  ⟨fun vs H Q E h => h.elim (a.len vs H Q E) (b.len vs H Q E), fun A outer s H args us vs Q E h1 hr e0 hb r h => h.elim (a.run A outer s H args us vs Q E h1 hr e0 hb r) (b.run A outer s H args us vs Q E h1 hr e0 hb r)⟩
/-- a def without cells, whatever it raises, a token being out -/
theorem fnokT {CX : CXT} {P : Program} {w : World} {K : PySem.W.Frag} {mg : Str → Option Value} {base : Heap} {k : Nat} {f : Addr} {name qual : Str} {st : Stmt} {fd : FuncData} {N ps : List Str} {sp : Sp} (F : Fun K name qual st f fd) (S : FnScope N ps (defScope st)) (hnc : ∀ y ∈ (defScope st).names, y.2 ≠ .cell) (hps : 1 ≤ ps.length) (len : ∀ vs H Q E, sp vs H Q E → vs.length = ps.length)
    (body : ∀ (cdv : Value) (A : Around) (outer : List Env) (s : Shared) (H : Hp) (vs : List V) (Q : VK) (E : XK), Room k (A.deeper (envOfC qual (defScope st) s.heap.objs.size f cdv)) → sp vs H Q E →
      ∃ t, PSsT (cxOf CX P w K mg base N qual (defScope st) f cdv A outer s H E) (defBody st) t ∧ t { nx := fun _ H' => Q .non H', rt := Q } (L2.start N vs) H) : FnOk P w K mg base CX (k + 1) f fd ps sp := by
  obtain ⟨oc, od, kV, doc, pm, an, cdv, ct, osl, rfl, lk, hcd⟩ := F.ex
  exact fn_ofT lk hcd S hnc hps len fun A outer s H vs Q E hr h => body cdv A outer s H vs Q E hr h
def spReadOdd : Sp := fun vs H Q _ => ∃ v, vs = [v] ∧ NoStr H v ∧ Q .non H
def spReadR : Sp := fun vs H Q E => spReadC vs H Q E ∨ spReadNo vs H Q E ∨ spReadOdd vs H Q E
/-- what no reader of forms reads -/
def NoRead (H : Hp) (v : V) : Prop := NoStr H v ∨ ∃ x, v = .str x ∧ BadTx x
def spReadEX (CT CL CD : Addr) : Sp := fun vs H _ E => ∃ v, vs = [v] ∧ ((NoRead H v ∧ ErrAt CT "value" v H E) ∨ (∃ t : Fm, v = .str (t.txt false) ∧ t.Ok ∧ t.nl ≤ 1400 ∧ ((200 < t.nl ∧ ErrAt CL "limit" (.int 200) H E) ∨ (t.nl ≤ 200 ∧ t.dep ≤ 60 ∧ 20 < t.dep ∧ ErrAt CD "limit" (.int 20) H E))))
theorem read_no {H : Hp} {v : V} {Q : VK} {E : XK} (h : NoRead H v) (q : ∀ H', Same H H' → Q .non H') : spReadR [v] H Q E := by
  rcases h with h | ⟨x, rfl, b⟩
  · exact .inr (.inr ⟨v, rfl, h, q H (Same.refl H)⟩)
  · exact .inr (.inl ⟨x, rfl, by have := b.l; omega, b.w, b.n, b.r, q⟩)
def MakesFE (C D : Addr) (t u : Fm) (H : Hp) (Q : VK) : Prop := ∀ (p a b : Addr) (H' : Hp), Same H H' → FacAt C D H' p a b t u → Q (.ref p) H'
/-- good sides -/
def Sd (t : Fm) : Prop := t.Ok ∧ t.dep ≤ 20 ∧ t.nl ≤ 200
def spReadF (C D : Addr) : Sp := fun vs H Q _ => ∃ t u : Fm, vs = [.str (facText t u)] ∧ Sd t ∧ Sd u ∧ MakesFE C D t u H Q
/-- a text that no fact has: none, without the sign, or with a wrong right side -/
def NoFact (H : Hp) (v : V) : Prop := NoStr H v ∨ (∃ x, v = .str x ∧ LineBad x) ∨ ∃ (t : Fm) (y : Str), v = .str (t.txt false ++ tLe ++ y) ∧ t.Ok ∧ t.nl ≤ 500 ∧ BadTx y ∧ y.length ≤ 1000
def spReadFX (CT CL CD : Addr) : Sp := fun vs H _ E => ∃ v, vs = [v] ∧ ((NoFact H v ∧ ErrAt CT "value" v H E) ∨
  (∃ t u : Fm, v = .str (facText t u) ∧ t.Ok ∧ u.Ok ∧ t.nl ≤ 200 ∧ u.nl ≤ 1400 ∧ ((200 < u.nl ∧ ErrAt CL "limit" (.int 200) H E) ∨ (t.dep ≤ 20 ∧ u.nl ≤ 200 ∧ u.dep ≤ 60 ∧ 20 < u.dep ∧ ErrAt CD "limit" (.int 20) H E))))
abbrev nmRF : List Str := ["text", "left_text", "_", "right_text", "left", "right"]
theorem makeE_at {C x dx : Addr} {H : Hp} {v : V} {t : Fm} {R : VK} {E : XK} (hm : FmAt H v t) (ok : t.Ok) (hd : t.dep ≤ 20) (hn : t.nl ≤ 200) (nx : H x = none) (nd : H dx = none) (ne : dx ≠ x) (q : ∀ H', Same H H' → ExpAt C H' x t → R .non H') : spInitE C [.ref x, v] (upd (upd H dx (.own x)) x (.ins C dx [])) R E := by
  have s1 : Same H (upd H dx (.own x)) := same_upd nd
  have nx1 : (upd H dx (.own x)) x = none := by rw [upd_ne (Ne.symm ne)]; exact nx
  have s2 : Same (upd H dx (.own x)) (upd (upd H dx (.own x)) x (.ins C dx [])) := same_upd nx1
  refine ⟨x, dx, v, t, rfl, upd_same, hm.same (s1.trans s2), ok, hd, hn, fun H' k e => q H' (fun b o hb => k b o (fun z => ?_) ((s1.trans s2) b o hb)) e⟩
  rw [z, nx] at hb
  cases hb
theorem makeF_at {C D a b x dx : Addr} {H : Hp} {t u : Fm} {R : VK} {E : XK} (m1 : ExpAt C H a t) (m2 : ExpAt C H b u) (nx : H x = none) (nd : H dx = none) (ne : dx ≠ x) (q : ∀ H', Same H H' → FacAt C D H' x a b t u → R .non H') : spInitF C D [.ref x, .ref a, .ref b] (upd (upd H dx (.own x)) x (.ins D dx [])) R E := by
  have s1 : Same H (upd H dx (.own x)) := same_upd nd
  have nx1 : (upd H dx (.own x)) x = none := by rw [upd_ne (Ne.symm ne)]; exact nx
  have s2 : Same (upd H dx (.own x)) (upd (upd H dx (.own x)) x (.ins D dx [])) := same_upd nx1
  have no : ∀ {b : Addr} {o : HO}, H b = some o → x ≠ b := fun h z => by
    rw [← z, nx] at h
    cases h
  obtain ⟨_, _, _, _, h1, _⟩ := m1.at_
  obtain ⟨_, _, _, _, h2, _⟩ := m2.at_
  exact ⟨x, a, b, dx, t, u, rfl, upd_same, no h1, no h2, m1.same (s1.trans s2), m2.same (s1.trans s2), fun H' k e => q H' (fun b o hb => k b o (fun z => no hb z.symm) ((s1.trans s2) b o hb)) e⟩
section
variable {w : World} {P : Program} {base : Heap} {mg : Str → Option Value} {K : PySem.W.Frag} {C D CF CT CL CD CN aS fI fF : Addr}
theorem ok_readOdd {f : Addr} {fd : FuncData} (F : Fun K "read_counted" "read_counted" sReadC f fd) (T : Free mg) : TkX.FnT P w K mg base 3 f fd ["text"] spReadOdd := by
  refine TkX.fnT_of F scRc (fun vs H Q E h => ?_) (fun cdv A outer s H vs Q E hr h => ?_)
  · obtain ⟨t, rfl, _⟩ := h
    rfl
  · obtain ⟨v, rfl, ns, q⟩ := h
    refine ⟨_, psst_cons (PST.of (ps_if (pt_not (pt_val (pe_callB call_isi (by rfl) T.isinstance (by decide +kernel) (pa_cons (pv 0) (pa_cons (pe_bltn (v := .ty "str") (u := .type "str") (by rfl) T.str (by decide +kernel) rfl) pa_nil))))) (pss_one (ps_ret pe_non)) pss_nil)) (PSsT.of pss_never), ?_⟩
    obtain ⟨t, tx, no⟩ := ns.ty (K := K)
    exact ⟨_, rfl, _, _, _, _, false, rfl, .ty _, tx, no, false, rfl, iteT q⟩
theorem ok_readEX {f f1 f2 : Addr} {fd : FuncData} (F : Fun K "read" "Expression.read" sReadE f fd) (M : ExpC K mg C) (R : Er5 K mg CF CT CL CD CN) (MK : Mk K C fI) (FI : FnR P w K mg base (L2.CX P w) 5 fI (spInitX CF CL CD)) (hR : TkX.HasT P w K mg base 3 "read_counted" f1 ["text"] spReadR)
    (hL : Has P w K mg base (L2.CX P w) 3 "check_leaves" f2 ["leaves"] (spLim 200 CL)) : FnOk P w K mg base (L2.CX P w) 7 f fd ["text"] (spReadEX CT CL CD) := by
  obtain ⟨fE, fdE, EN, FE⟩ := R.t
  have bE : Binds K fdE ["self", "value"] [] := FE.binds (ps := ["self", "value"]) fun _ _ _ _ _ _ us hl => match us, hl with | [_, _], _ => rfl
  have GE : FnOk P w K mg base CX0 1 fE fdE ["self", "value"] (spErr CT "value") := ok_eT FE EN
  refine fnokT F scRE (by decide +kernel) (by decide) (fun vs H Q E h => ?_) (fun cdv A outer s H vs Q E hr h => ?_)
  · obtain ⟨v, rfl, _⟩ := h
    rfl
  · obtain ⟨v, rfl, h⟩ := h
    refine ⟨_, psst_cons (TkX.pst_set (i := 1) scRE.nd rfl (.inl rfl) (TkX.pet_has hR (hr.mono (by decide)) (by rfl) (pa_cons (pv 0) pa_nil)))
      (PSsT.of (pss_cons (ps_if (pt_cmp (pc_isN (pv 1))) (pss_one (ps_raise rfl (takes_of rfl rfl rfl rfl) (pmk_oex EN.ox EN.ini EN.ty GE (hr.mono (by decide)) bE .nil pass0 rfl EN.g (pa_cons (pv 0) pa_nil)))) pss_nil)
      (pss_cons (ps_asg (pv 1) (pg_tup rfl (pgs_cons (pg_name (i := 2) scRE.nd rfl (.inl rfl)) (pgs_cons (pg_name (i := 3) scRE.nd rfl (.inl rfl)) pgs_nil))))
      (pss_cons (ps_expr (pe_has hL (hr.mono (by decide)) (by rfl) (passes_call (takes_of rfl rfl rfl rfl) fun _ _ _ _ h => h) (pa_cons (pv 3) pa_nil)))
      (pss_one (ps_ret (pe_makeR MK FI hr (by rfl) M.g (passes_call (takes_of rfl rfl rfl rfl) fun _ _ _ _ h => h) (pa_cons (pv 2) pa_nil)))))))), ?_⟩
    rcases h with ⟨no, qE⟩ | ⟨t, rfl, ok, n, h⟩
    · refine ⟨_, rfl, read_no no fun H1 s1 => ?_⟩
      exact ⟨_, rfl, true, rfl, iteT ⟨_, rfl, rz_err (qE.same s1)⟩⟩
    · refine ⟨_, rfl, .inl ⟨t, rfl, ok, n, fun v H1 s1 pt => ?_⟩⟩
      cases pt with
      | f ha hm =>
      rename_i a v
      refine ⟨_, rfl, false, rfl, iteF ?_⟩
      refine ⟨_, rfl, a, _, rfl, SqT.of ha, rfl, _, _, rfl, _, _, rfl, rfl, ?_⟩
      rcases h with ⟨l, qE⟩ | ⟨l, d6, d, qE⟩
      · exact ⟨_, rfl, _, rfl, .inr ⟨by omega, qE.same s1⟩⟩
      · refine ⟨_, rfl, _, rfl, .inl ⟨by omega, ?_⟩⟩
        have hmk : MkX CF CL CD v H1 E := .inl ⟨t, hm, ok, by omega, d6, .inr ⟨l, d, qE.same s1⟩⟩
        exact ⟨_, rfl, fun x dx nx nd ne => mkX_go hmk nx nd ne⟩
theorem scRF : FnScope nmRF ["text"] (defScope sReadF) := ⟨rfl, rfl, rfl, by decide +kernel, rfl, by decide +kernel, by decide +kernel⟩
theorem ok_readF {f f1 f2 : Addr} {fd : FuncData} (F : Fun K "read" "Fact.read" sReadF f fd) (T : Free mg) (M : ExpC K mg C) (MK : Mk K C fI) (FI : FnR P w K mg base CX0 22 fI (spInitE C)) (MF : FacC K mg D) (MKF : Mk K D fF) (FF : FnR P w K mg base CX0 2 fF (spInitF C D))
    (hR : TkX.HasT P w K mg base 3 "read_counted" f1 ["text"] spReadR) (hL : Has P w K mg base CX0 1 "check_leaves" f2 ["leaves"] (spChk 200)) : FnOk P w K mg base CX0 26 f fd ["text"] (spReadF C D) := by
  refine fnokT F scRF (by decide +kernel) (by decide) (fun vs H Q E h => ?_) (fun cdv A outer s H vs Q E hr h => ?_)
  · obtain ⟨t, u, rfl, _⟩ := h
    rfl
  · obtain ⟨t, u, rfl, ⟨ok1, d1, n1⟩, ⟨ok2, d2, n2⟩, q⟩ := h
    refine ⟨_, psst_cons (PST.of (ps_if (pt_not (pt_val (pe_callB call_isi (by rfl) T.isinstance (by decide +kernel) (pa_cons (pv 0) (pa_cons (pe_bltn (v := .ty "str") (u := .type "str") (by rfl) T.str (by decide +kernel) rfl) pa_nil))))) pss_never pss_nil))
      (psst_cons (PST.of (ps_asg (pe_partition (pv 0) pe_str) (pg_tup rfl (pgs_cons (pg_name (i := 1) scRF.nd rfl (.inl rfl)) (pgs_cons (pg_name (i := 2) scRF.nd rfl (.inl rfl)) (pgs_cons (pg_name (i := 3) scRF.nd rfl (.inl rfl)) pgs_nil))))))
      (psst_cons (TkX.pst_par (i := 4) (j := 5) rfl scRF.nd rfl rfl (by decide) rfl rfl (pat_cons (TkX.pet_has hR (hr.mono (by decide)) (by rfl) (pa_cons (pv 1) pa_nil)) (pat_cons (TkX.pet_has hR (hr.mono (by decide)) (by rfl) (pa_cons (pv 3) pa_nil)) pat_nil)) (by rfl))
      (PSsT.of (pss_cons (ps_if (PW.pt (pw_or (pt_cmp (pc_isN (pv 4))) (pw_or1 (pt_cmp (pc_isN (pv 5)))))) pss_never pss_nil)
      (pss_cons (ps_expr (pe_has hL (hr.mono (by decide)) (by rfl) pass0 (pa_cons (pe_ix ix_tup (pv 4) pe_int (fun _ _ => rfl)) pa_nil)))
      (pss_cons (ps_expr (pe_has hL (hr.mono (by decide)) (by rfl) pass0 (pa_cons (pe_ix ix_tup (pv 5) pe_int (fun _ _ => rfl)) pa_nil)))
      (pss_one (ps_ret (pe_makeR MKF FF (hr.mono (by decide)) (by rfl) MF.g pass0 (pa_cons (pe_makeR MK FI (hr.mono (by decide)) (by rfl) M.g pass0 (pa_cons (pe_ix ix_tup (pv 4) pe_int (fun _ _ => rfl)) pa_nil)) (pa_cons (pe_makeR MK FI (hr.mono (by decide)) (by rfl) M.g pass0 (pa_cons (pe_ix ix_tup (pv 5) pe_int (fun _ _ => rfl)) pa_nil)) pa_nil))))))))))), ?_⟩
    have l1 := txt_len false t ok1
    have l2 := txt_len false u ok2
    have e0 : tLe.length = 4 := by decide +kernel
    refine ⟨_, rfl, _, _, _, _, true, rfl, .ty _, .base (.str _), kit_ty (by decide +kernel), true, rfl, iteF ?_⟩
    refine ⟨_, rfl, ⟨_, rfl⟩, _, _, rfl, rfl, (by decide +kernel), ?_, fun p np => ?_⟩
    · unfold facText
      rw [strLen_append, strLen_append, sizeLine_eq]
      show _ + tLe.length + _ ≤ _
      omega
    have ep := part_le (b := u.txt false) (nolt_txt false ok1)
    have ep : Txt.partition (facText t u) " <= " = (t.txt false, tLe, u.txt false) := ep
    rw [ep]
    have s1 : Same H (upd H p (.tup [.str (t.txt false), .str tLe, .str (u.txt false)])) := same_upd np
    have hp : (upd H p (.tup [.str (t.txt false), .str tLe, .str (u.txt false)])) p = some (.tup [.str (t.txt false), .str tLe, .str (u.txt false)]) := upd_same
    generalize (upd H p (.tup [.str (t.txt false), .str tLe, .str (u.txt false)])) = H1 at s1 hp ⊢
    refine ⟨p, _, rfl, SqT.of hp, rfl, _, _, rfl, _, _, rfl, _, _, rfl, rfl, ?_⟩
    refine ⟨_, rfl, .inl ⟨t, rfl, ok1, by omega, fun v1 H2 s2 p1 => ?_⟩⟩
    refine ⟨_, rfl, .inl ⟨u, rfl, ok2, by omega, fun v2 H3 s3 p2 => ?_⟩⟩
    cases p1 with
    | f ha1 hm1 =>
    rename_i a1 w1
    cases p2 with
    | f ha2 hm2 =>
    rename_i a2 w2
    refine ⟨_, _, rfl, ?_⟩
    refine ⟨_, rfl, false, rfl, iteF ⟨_, rfl, false, rfl, iteF ?_⟩⟩
    have ha1 := s3 _ _ ha1
    have hm1 := hm1.same s3
    refine ⟨_, rfl, a1, _, _, .int (t.nl : Nat), rfl, rfl, SqT.of ha1, atI_nat (j := 1) rfl, _, rfl, by omega, ?_⟩
    refine ⟨_, rfl, a2, _, _, .int (u.nl : Nat), rfl, rfl, SqT.of ha2, atI_nat (j := 1) rfl, _, rfl, by omega, ?_⟩
    refine ⟨_, rfl, a1, _, _, w1, rfl, rfl, SqT.of ha1, atI_nat (j := 0) rfl, ?_⟩
    refine fun a xa na nxa nea => makeE_at hm1 ok1 d1 n1 na nxa nea fun H4 s4 m1 => ⟨rfl, ?_⟩
    refine ⟨_, rfl, a2, _, _, w2, rfl, rfl, SqT.of (s4 _ _ ha2), atI_nat (j := 0) rfl, ?_⟩
    refine fun b xb nb nxb neb => makeE_at (hm2.same s4) ok2 d2 n2 nb nxb neb fun H5 s5 m2 => ⟨rfl, ?_⟩
    refine fun r xr nr nxr ner => makeF_at (m1.same s5) m2 nr nxr ner fun H6 s6 mF => ⟨rfl, ?_⟩
    exact q r a b H6 (s1.trans (s2.trans (s3.trans (s4.trans (s5.trans s6))))) mF
end
end K1

namespace K1
open PySem PySem.Spec
open PyProof.Rows L2 EnT StX SmX TxS DuX ClX
section
variable {w : World} {P : Program} {base : Heap} {mg : Str → Option Value} {K : PySem.W.Frag} {C D CF CT CL CD CN aS fI fF : Addr}
theorem ok_readFX {f f1 f2 : Addr} {fd : FuncData} (F : Fun K "read" "Fact.read" sReadF f fd) (T : Free mg) (R : Er5 K mg CF CT CL CD CN) (M : ExpC K mg C) (MK : Mk K C fI) (FI : FnR P w K mg base CX0 22 fI (spInitE C)) (FX : FnR P w K mg base (L2.CX P w) 5 fI (spInitX CF CL CD)) (MF : FacC K mg D) (MKF : Mk K D fF) (FF : FnR P w K mg base CX0 2 fF (spInitF C D))
    (hR : TkX.HasT P w K mg base 3 "read_counted" f1 ["text"] spReadR) (hL : Has P w K mg base (L2.CX P w) 3 "check_leaves" f2 ["leaves"] (spLim 200 CL)) : FnOk P w K mg base (L2.CX P w) 26 f fd ["text"] (spReadFX CT CL CD) := by
  obtain ⟨fE, fdE, EN, FE⟩ := R.t
  have bE : Binds K fdE ["self", "value"] [] := FE.binds (ps := ["self", "value"]) fun _ _ _ _ _ _ us hl => match us, hl with | [_, _], _ => rfl
  have GE : FnOk P w K mg base CX0 1 fE fdE ["self", "value"] (spErr CT "value") := ok_eT FE EN
  refine fnokT F scRF (by decide +kernel) (by decide) (fun vs H Q E h => ?_) (fun cdv A outer s H vs Q E hr h => ?_)
  · obtain ⟨v, rfl, _⟩ := h
    rfl
  · obtain ⟨v, rfl, h⟩ := h
    refine ⟨_, psst_cons (PST.of (ps_if (pt_not (pt_val (pe_callB call_isi (by rfl) T.isinstance (by decide +kernel) (pa_cons (pv 0) (pa_cons (pe_bltn (v := .ty "str") (u := .type "str") (by rfl) T.str (by decide +kernel) rfl) pa_nil))))) (pss_one (ps_raise rfl (takes_of rfl rfl rfl rfl) (pmk_oex EN.ox EN.ini EN.ty GE (hr.mono (by decide)) bE .nil pass0 rfl EN.g (pa_cons (pv 0) pa_nil)))) pss_nil))
      (psst_cons (PST.of (ps_asg (pe_partition (pv 0) pe_str) (pg_tup rfl (pgs_cons (pg_name (i := 1) scRF.nd rfl (.inl rfl)) (pgs_cons (pg_name (i := 2) scRF.nd rfl (.inl rfl)) (pgs_cons (pg_name (i := 3) scRF.nd rfl (.inl rfl)) pgs_nil))))))
      (psst_cons (TkX.pst_par (i := 4) (j := 5) rfl scRF.nd rfl rfl (by decide) rfl rfl (pat_cons (TkX.pet_has hR (hr.mono (by decide)) (by rfl) (pa_cons (pv 1) pa_nil)) (pat_cons (TkX.pet_has hR (hr.mono (by decide)) (by rfl) (pa_cons (pv 3) pa_nil)) pat_nil)) (by rfl))
      (PSsT.of (pss_cons (ps_if (PW.pt (pw_or (pt_cmp (pc_isN (pv 4))) (pw_or1 (pt_cmp (pc_isN (pv 5)))))) (pss_one (ps_raise rfl (takes_of rfl rfl rfl rfl) (pmk_oex EN.ox EN.ini EN.ty GE (hr.mono (by decide)) bE .nil pass0 rfl EN.g (pa_cons (pv 0) pa_nil)))) pss_nil)
      (pss_cons (ps_expr (pe_has hL (hr.mono (by decide)) (by rfl) (passes_call (takes_of rfl rfl rfl rfl) fun _ _ _ _ h => h) (pa_cons (pe_ix ix_tup (pv 4) pe_int (fun _ _ => rfl)) pa_nil)))
      (pss_cons (ps_expr (pe_has hL (hr.mono (by decide)) (by rfl) (passes_call (takes_of rfl rfl rfl rfl) fun _ _ _ _ h => h) (pa_cons (pe_ix ix_tup (pv 5) pe_int (fun _ _ => rfl)) pa_nil)))
      (pss_one (ps_ret (pe_makeR MKF FF (hr.mono (by decide)) (by rfl) MF.g pass0 (pa_cons (pe_makeR MK FI (hr.mono (by decide)) (by rfl) M.g pass0 (pa_cons (pe_ix ix_tup (pv 4) pe_int (fun _ _ => rfl)) pa_nil)) (pa_cons (pe_makeR MK FX (hr.mono (by decide)) (by rfl) M.g (passes_call (takes_of rfl rfl rfl rfl) fun _ _ _ _ h => h) (pa_cons (pe_ix ix_tup (pv 5) pe_int (fun _ _ => rfl)) pa_nil)) pa_nil))))))))))), ?_⟩
    have e0 : tLe.length = 4 := by decide +kernel
    rcases h with ⟨no, qE⟩ | ⟨t, u, rfl, ok1, ok2, n1, n2, h⟩
    · rcases no with ns | ⟨x, rfl, lb⟩ | ⟨t, y, rfl, ok, n5, by_, ly⟩
      · obtain ⟨tv, tx, nk⟩ := ns.ty (K := K)
        exact ⟨_, rfl, _, _, _, _, false, rfl, .ty _, tx, nk, false, rfl, iteT ⟨_, rfl, rz_err qE⟩⟩
      · have lx := lb.b.l
        refine ⟨_, rfl, _, _, _, _, true, rfl, .ty _, .base (.str _), kit_ty (by decide +kernel), true, rfl, iteF ?_⟩
        refine ⟨_, rfl, ⟨_, rfl⟩, _, _, rfl, rfl, (by decide +kernel), (by rw [sizeLine_eq]; omega), fun p np => ?_⟩
        have ep : Txt.partition x " <= " = (x, ("" : Str), ("" : Str)) := part_no lb.lt
        rw [ep]
        have s1 : Same H (upd H p (.tup [.str x, .str "", .str ""])) := same_upd np
        have hp : (upd H p (.tup [.str x, .str "", .str ""])) p = some (.tup [.str x, .str "", .str ""]) := upd_same
        generalize (upd H p (.tup [.str x, .str "", .str ""])) = H1 at s1 hp ⊢
        refine ⟨p, _, rfl, SqT.of hp, rfl, _, _, rfl, _, _, rfl, _, _, rfl, rfl, ?_⟩
        refine ⟨_, rfl, read_no (.inr ⟨x, rfl, lb.b⟩) fun H2 s2 => ?_⟩
        refine ⟨_, rfl, read_no (.inr ⟨"", rfl, c1.b⟩) fun H3 s3 => ?_⟩
        refine ⟨_, _, rfl, ?_⟩
        exact ⟨_, rfl, true, rfl, iteT (iteT ⟨_, rfl, rz_err (qE.same (s1.trans (s2.trans s3)))⟩)⟩
      · have l1 := txt_len false t ok
        have l2 := by_.l
        refine ⟨_, rfl, _, _, _, _, true, rfl, .ty _, .base (.str _), kit_ty (by decide +kernel), true, rfl, iteF ?_⟩
        refine ⟨_, rfl, ⟨_, rfl⟩, _, _, rfl, rfl, (by decide +kernel), ?_, fun p np => ?_⟩
        · rw [strLen_append, strLen_append, sizeLine_eq]
          show _ + tLe.length + _ ≤ _
          omega
        have ep : Txt.partition (t.txt false ++ tLe ++ y) " <= " = (t.txt false, tLe, y) := part_le (nolt_txt false ok)
        rw [ep]
        have s1 : Same H (upd H p (.tup [.str (t.txt false), .str tLe, .str y])) := same_upd np
        have hp : (upd H p (.tup [.str (t.txt false), .str tLe, .str y])) p = some (.tup [.str (t.txt false), .str tLe, .str y]) := upd_same
        generalize (upd H p (.tup [.str (t.txt false), .str tLe, .str y])) = H1 at s1 hp ⊢
        refine ⟨p, _, rfl, SqT.of hp, rfl, _, _, rfl, _, _, rfl, _, _, rfl, rfl, ?_⟩
        refine ⟨_, rfl, .inl ⟨t, rfl, ok, by omega, fun v1 H2 s2 p1 => ?_⟩⟩
        refine ⟨_, rfl, read_no (.inr ⟨y, rfl, by_⟩) fun H3 s3 => ?_⟩
        cases p1 with
        | f ha1 hm1 =>
        refine ⟨_, _, rfl, ?_⟩
        exact ⟨_, rfl, false, rfl, iteF ⟨_, rfl, true, rfl, iteT ⟨_, rfl, rz_err (qE.same (s1.trans (s2.trans s3)))⟩⟩⟩
    · have l1 := txt_len false t ok1
      have l2 := txt_len false u ok2
      refine ⟨_, rfl, _, _, _, _, true, rfl, .ty _, .base (.str _), kit_ty (by decide +kernel), true, rfl, iteF ?_⟩
      refine ⟨_, rfl, ⟨_, rfl⟩, _, _, rfl, rfl, (by decide +kernel), ?_, fun p np => ?_⟩
      · unfold facText
        rw [strLen_append, strLen_append, sizeLine_eq]
        show _ + tLe.length + _ ≤ _
        omega
      have ep := part_le (b := u.txt false) (nolt_txt false ok1)
      have ep : Txt.partition (facText t u) " <= " = (t.txt false, tLe, u.txt false) := ep
      rw [ep]
      have s1 : Same H (upd H p (.tup [.str (t.txt false), .str tLe, .str (u.txt false)])) := same_upd np
      have hp : (upd H p (.tup [.str (t.txt false), .str tLe, .str (u.txt false)])) p = some (.tup [.str (t.txt false), .str tLe, .str (u.txt false)]) := upd_same
      generalize (upd H p (.tup [.str (t.txt false), .str tLe, .str (u.txt false)])) = H1 at s1 hp ⊢
      refine ⟨p, _, rfl, SqT.of hp, rfl, _, _, rfl, _, _, rfl, _, _, rfl, rfl, ?_⟩
      refine ⟨_, rfl, .inl ⟨t, rfl, ok1, by omega, fun v1 H2 s2 p1 => ?_⟩⟩
      refine ⟨_, rfl, .inl ⟨u, rfl, ok2, by omega, fun v2 H3 s3 p2 => ?_⟩⟩
      cases p1 with
      | f ha1 hm1 =>
      rename_i a1 w1
      cases p2 with
      | f ha2 hm2 =>
      rename_i a2 w2
      refine ⟨_, _, rfl, ?_⟩
      refine ⟨_, rfl, false, rfl, iteF ⟨_, rfl, false, rfl, iteF ?_⟩⟩
      have ha1 := s3 _ _ ha1
      have hm1 := hm1.same s3
      have s13 := s1.trans (s2.trans s3)
      refine ⟨_, rfl, a1, _, _, .int (t.nl : Nat), rfl, rfl, SqT.of ha1, atI_nat (j := 1) rfl, _, rfl, .inl ⟨by omega, ?_⟩⟩
      rcases h with ⟨l, qE⟩ | ⟨d1, n2', d6, d, qE⟩
      · exact ⟨_, rfl, a2, _, _, .int (u.nl : Nat), rfl, rfl, SqT.of ha2, atI_nat (j := 1) rfl, _, rfl, .inr ⟨by omega, qE.same s13⟩⟩
      · refine ⟨_, rfl, a2, _, _, .int (u.nl : Nat), rfl, rfl, SqT.of ha2, atI_nat (j := 1) rfl, _, rfl, .inl ⟨by omega, ?_⟩⟩
        refine ⟨_, rfl, a1, _, _, w1, rfl, rfl, SqT.of ha1, atI_nat (j := 0) rfl, ?_⟩
        refine fun a xa na nxa nea => makeE_at hm1 ok1 d1 n1 na nxa nea fun H4 s4 m1 => ⟨rfl, ?_⟩
        refine ⟨_, rfl, a2, _, _, w2, rfl, rfl, SqT.of (s4 _ _ ha2), atI_nat (j := 0) rfl, ?_⟩
        have hmk : MkX CF CL CD w2 H4 E := .inl ⟨u, hm2.same s4, ok2, by omega, d6, .inr ⟨n2', d, qE.same (s13.trans s4)⟩⟩
        exact fun x dx nx nd ne => mkX_go hmk nx nd ne
end
end K1

namespace K1
open PySem PySem.Spec
open PyProof.Rows L2 EnT StX SmX TxS DuX ClX
/-! ### broad and tall forms -/
def bro : Nat → Nat → Fm
  | 0, _ => .leaf "a"
  | k + 1, n => if n = 1 then .leaf "a" else .node "|" (bro k (n / 2)) (bro k (n - n / 2))
theorem bro_is : ∀ (k n : Nat), 1 ≤ n → n ≤ 2 ^ k → (bro k n).Ok ∧ (bro k n).nl = n ∧ (bro k n).dep ≤ k + 1
  | 0, n, h1, h2 => by
    have e : n = 1 := by
      have : (2 : Nat) ^ 0 = 1 := rfl
      omega
    subst e
    exact ⟨ok_fA, rfl, Nat.le_refl _⟩
  | k + 1, n, h1, h2 => by
    by_cases h : n = 1
    · subst h
      have e : bro (k + 1) 1 = .leaf "a" := if_pos rfl
      rw [e]
      exact ⟨ok_fA, rfl, by show 1 ≤ k + 1 + 1; omega⟩
    · have e : bro (k + 1) n = .node "|" (bro k (n / 2)) (bro k (n - n / 2)) := if_neg h
      rw [Nat.pow_succ] at h2
      obtain ⟨a1, a2, a3⟩ := bro_is k (n / 2) (by omega) (by omega)
      obtain ⟨b1, b2, b3⟩ := bro_is k (n - n / 2) (by omega) (by omega)
      rw [e]
      refine ⟨⟨bar_sign, a1, b1⟩, ?_, ?_⟩
      · rw [Fm.nl_node, a2, b2]
        omega
      · rw [Fm.dep_node]
        omega
def tal : Nat → Fm
  | 0 => .leaf "a"
  | k + 1 => if k % 2 = 0 then .node "-" (tal k) (.leaf "b") else .node "&" (.leaf "b") (tal k)
theorem ok_fB : (Fm.leaf "b").Ok := by show nameB "b" = true; decide +kernel
theorem tal_even {k : Nat} (h : k % 2 = 0) : tal (k + 1) = .node "-" (tal k) (.leaf "b") := if_pos h
theorem tal_odd {k : Nat} (h : ¬ k % 2 = 0) : tal (k + 1) = .node "&" (.leaf "b") (tal k) := if_neg h
theorem tal_is : ∀ k : Nat, (tal k).Ok ∧ (tal k).nl = k + 1 ∧ (tal k).dep = k + 1
  | 0 => ⟨ok_fA, rfl, rfl⟩
  | k + 1 => by
    obtain ⟨a, b, c⟩ := tal_is k
    have s1 : ("-" : Str) ∈ signs := by decide +kernel
    have s2 : ("&" : Str) ∈ signs := by decide +kernel
    have l1 : (Fm.leaf "b").nl = 1 := rfl
    have d1 : (Fm.leaf "b").dep = 1 := rfl
    by_cases h : k % 2 = 0
    · rw [tal_even h]
      refine ⟨⟨s1, a, ok_fB⟩, ?_, ?_⟩
      · rw [Fm.nl_node, b, l1]
      · rw [Fm.dep_node, c, d1]
        omega
    · rw [tal_odd h]
      refine ⟨⟨s2, ok_fB, a⟩, ?_, ?_⟩
      · rw [Fm.nl_node, b, l1]
        omega
      · rw [Fm.dep_node, c, d1]
        omega
/-- the side of a line in the next one -/
theorem tal_side (k : Nat) : (tal k).txt true = if k = 0 then (tal k).txt false else ("(" : Str) ++ (tal k).txt false ++ (")" : Str) := by
  cases k with
  | zero => rfl
  | succ k =>
    rw [if_neg (Nat.succ_ne_zero k)]
    by_cases h : k % 2 = 0
    · rw [tal_even h]
      rfl
    · rw [tal_odd h]
      rfl
theorem tal_next (k : Nat) : (tal (k + 1)).txt false = if k % 2 = 0 then (tal k).txt true ++ (" - b" : Str) else ("b & " : Str) ++ (tal k).txt true := by
  have e : ∀ x y : Str, TL.tl x = TL.tl y → x = y := fun x y h => by rw [← TL.mk_tl x, ← TL.mk_tl y, h]
  by_cases h : k % 2 = 0
  · rw [tal_even h, if_pos h]
    refine e _ _ ?_
    show TL.tl ((tal k).txt true ++ (" " : Str) ++ ("-" : Str) ++ (" " : Str) ++ ("b" : Str)) = _
    simp only [TL.tl_append, List.append_assoc]
    rw [show TL.tl (" - b" : Str) = TL.tl (" " : Str) ++ (TL.tl ("-" : Str) ++ (TL.tl (" " : Str) ++ TL.tl ("b" : Str))) from by decide +kernel]
  · rw [tal_odd h, if_neg h]
    refine e _ _ ?_
    show TL.tl (("b" : Str) ++ (" " : Str) ++ ("&" : Str) ++ (" " : Str) ++ (tal k).txt true) = _
    simp only [TL.tl_append]
    rw [show TL.tl ("b & " : Str) = TL.tl ("b" : Str) ++ TL.tl (" " : Str) ++ TL.tl ("&" : Str) ++ TL.tl (" " : Str) from by decide +kernel]
end K1

namespace K1
open PySem PySem.Spec
open PyProof.Rows L2 EnT StX SmX TxS DuX ClX
def spBroad (k : Nat) : Sp := fun vs H Q _ => ∃ n : Nat, vs = [.int n] ∧ 1 ≤ n ∧ n ≤ 2 ^ k ∧ n ≤ 1000 ∧ ∀ (v : V) (H' : Hp), Same H H' → FmAt H' v (bro k n) → Q v H'
def spTall : Sp := fun vs H Q _ => ∃ n : Nat, vs = [.int n] ∧ 1 ≤ n ∧ n ≤ 2000 ∧ ∀ (v : V) (H' : Hp), Same H H' → FmAt H' v (tal (n - 1)) → Q v H'
def spTallL : Sp := fun vs H Q _ => ∃ n : Nat, vs = [.int n] ∧ 1 ≤ n ∧ n ≤ 2000 ∧ Q (.str ((tal (n - 1)).txt false)) H
abbrev nmTa : List Str := ["_law_levels", "_law_made", "_law_turn"]
abbrev nmTL : List Str := ["_law_levels", "_law_line", "_law_turn", "_law_side"]
section
variable {w : World} {P : Program} {base : Heap} {mg : Str → Option Value} {K : PySem.W.Frag}
theorem scBroad : FnScope ["_law_leaves"] ["_law_leaves"] (defScope s_L_broad) := ⟨rfl, rfl, rfl, by decide +kernel, rfl, by decide +kernel, by decide +kernel⟩
theorem scTall : FnScope nmTa ["_law_levels"] (defScope s_L_tall) := ⟨rfl, rfl, rfl, by decide +kernel, rfl, by decide +kernel, by decide +kernel⟩
theorem scTallL : FnScope nmTL ["_law_levels"] (defScope s_L_tall_line) := ⟨rfl, rfl, rfl, by decide +kernel, rfl, by decide +kernel, by decide +kernel⟩
theorem ok_broad {f : Addr} {fd : FuncData} (F : Fun K "_law_broad" "_law_broad" s_L_broad f fd) (mgF : mg "_law_broad" = some (.ref f)) : ∀ k : Nat, FnOk P w K mg base CX0 (k + 1) f fd ["_law_leaves"] (spBroad k) := by
  have bF : L2.Binds K fd ["_law_leaves"] [] := F.binds (ps := ["_law_leaves"]) fun _ _ _ _ _ _ us hl => match us, hl with | [_], _ => rfl
  intro k
  induction k with
  | zero =>
    refine F.ok scBroad (fun vs H Q E h => ?_) (fun cdv A outer s H vs Q E hr h => ?_)
    · obtain ⟨n, rfl, _⟩ := h
      rfl
    · obtain ⟨n, rfl, h1, h2, h3, q⟩ := h
      refine ⟨_, pss_cons (ps_if (pt_cmpR op_eq (pv 0) pe_int (nomark _)) (pss_one (ps_ret pe_str)) pss_nil) pss_never, ?_⟩
      have e : n = 1 := by
        have : (2 : Nat) ^ 0 = 1 := rfl
        omega
      subst e
      exact ⟨_, rfl, rfl, _, rfl, iteT (q _ H (Same.refl H) (.leaf _))⟩
  | succ k ih =>
    have hF : Has P w K mg base CX0 (k + 1) "_law_broad" f ["_law_leaves"] (spBroad k) := ⟨mgF, F.kp, fd, ih, bF⟩
    refine F.ok scBroad (fun vs H Q E h => ?_) (fun cdv A outer s H vs Q E hr h => ?_)
    · obtain ⟨n, rfl, _⟩ := h
      rfl
    · obtain ⟨n, rfl, h1, h2, h3, q⟩ := h
      refine ⟨_, pss_cons (ps_if (pt_cmpR op_eq (pv 0) pe_int (nomark _)) (pss_one (ps_ret pe_str)) pss_nil)
        (pss_one (ps_ret (pe_tup (pa_cons pe_str (pa_cons (pe_has hF hr (by rfl) pass0 (pa_cons (pe_op op_fdiv (pv 0) pe_int) pa_nil)) (pa_cons (pe_has hF hr (by rfl) pass0 (pa_cons (pe_op op_sub (pv 0) (pe_op op_fdiv (pv 0) pe_int)) pa_nil)) pa_nil)))))), ?_⟩
      refine ⟨_, rfl, rfl, _, rfl, ?_⟩
      by_cases e : n = 1
      · subst e
        exact iteT (q _ H (Same.refl H) (.leaf _))
      · rw [decide_eq_false (fun z => e (by have := V.int.inj z; omega))]
        refine iteF ?_
        rw [Nat.pow_succ] at h2
        have eb : bro (k + 1) n = .node "|" (bro k (n / 2)) (bro k (n - n / 2)) := if_neg e
        rw [eb] at q
        have e1 : ((n : Nat) : Int) / 2 = ((n / 2 : Nat) : Int) := by omega
        have e2 : ((n : Nat) : Int) - ((n : Nat) : Int) / 2 = ((n - n / 2 : Nat) : Int) := by omega
        refine ⟨_, rfl, _, _, rfl, rfl, ⟨by decide, by decide⟩, n / 2, by rw [← e1]; rfl, by omega, by omega, by omega, fun v1 H1 s1 m1 => ?_⟩
        refine ⟨_, rfl, _, rfl, _, _, rfl, rfl, ⟨by decide, by decide⟩, _, _, rfl, rfl, n - n / 2, by rw [← e2]; rfl, by omega, by omega, by omega, fun v2 H2 s2 m2 => ?_⟩
        refine ⟨(by show 3 ≤ sizeLine; decide), fun p np => ?_⟩
        have s3 : Same H2 (upd H2 p (.tup [.str "|", v1, v2])) := same_upd np
        exact q _ _ (s1.trans (s2.trans s3)) (.node upd_same (m1.same (s2.trans s3)) (m2.same s3))
theorem turn_even (i : Nat) : decide (V.int ((0 + (i : Int)) % 2) = V.int 0) = decide (i % 2 = 0) := by
  by_cases h : i % 2 = 0
  · rw [decide_eq_true h]
    exact decide_eq_true (congrArg V.int (by omega))
  · rw [decide_eq_false h]
    exact decide_eq_false fun e => h (by have := V.int.inj e; omega)
theorem ok_tall {f : Addr} {fd : FuncData} (F : Fun K "_law_tall" "_law_tall" s_L_tall f fd) (T : Free mg) : FnOk P w K mg base CX0 1 f fd ["_law_levels"] spTall := by
  refine F.ok scTall (fun vs H Q E h => ?_) (fun cdv A outer s H vs Q E hr h => ?_)
  · obtain ⟨n, rfl, _⟩ := h
    rfl
  · obtain ⟨n, rfl, h1, h2, q⟩ := h
    refine ⟨_, pss_cons (ps_set (i := 1) scTall.nd rfl (.inl rfl) pe_str)
      (pss_cons (ps_for PassesOwn.never rfl (pi_range1 rfl T.range (pa_cons (pe_op op_sub (pv 0) pe_int) pa_nil)) (pg_name (i := 2) scTall.nd rfl (.inl rfl))
        (pss_one (ps_set (i := 1) scTall.nd rfl (.inl rfl) (pe_ifExp (pt_cmpR op_eq (pe_op op_mod (pe_callTy call_int1 (by rfl) T.int (by decide +kernel) (pa_cons (pv 2) pa_nil)) pe_int) pe_int (nomark _))
          (pe_tup (pa_cons pe_str (pa_cons (pv 1) (pa_cons pe_str pa_nil)))) (pe_tup (pa_cons pe_str (pa_cons pe_str (pa_cons (pv 1) pa_nil))))))))
      (pss_one (ps_ret (pv 1)))), ?_⟩
    have e1 : ((n : Nat) : Int) - 1 = ((n - 1 : Nat) : Int) := by omega
    refine ⟨_, rfl, _, _, rfl, rfl, ((n - 1 : Nat) : Int), by rw [← e1], by omega, by omega, ?_⟩
    refine for_range (lo := 0) (n := ((n - 1 : Nat) : Int).toNat) (fun i σ H' => Same H H' ∧ ∃ (v : V) (o2 : Option V), σ = [some (.int n), some v, o2] ∧ FmAt H' v (tal i)) ⟨Same.refl H, _, _, rfl, .leaf _⟩ ?_ ?_
    · rintro i σ H1 hi ⟨s1, v, o2, rfl, m⟩
      refine ⟨_, rfl, .inl ⟨_, rfl, _, _, rfl, rfl, (by show (0 : Int) < 2; decide), rfl, _, rfl, ?_⟩⟩
      rw [turn_even]
      by_cases h : i % 2 = 0
      · rw [decide_eq_true h]
        refine iteT ⟨_, rfl, (by show 3 ≤ sizeLine; decide), fun p np => ?_⟩
        have s2 : Same H1 (upd H1 p (.tup [.str "-", v, .str "b"])) := same_upd np
        refine ⟨s1.trans s2, .ref p, _, rfl, ?_⟩
        rw [tal_even h]
        exact .node upd_same (m.same s2) (.leaf _)
      · rw [decide_eq_false h]
        refine iteF ⟨_, rfl, (by show 3 ≤ sizeLine; decide), fun p np => ?_⟩
        have s2 : Same H1 (upd H1 p (.tup [.str "&", .str "b", v])) := same_upd np
        refine ⟨s1.trans s2, .ref p, _, rfl, ?_⟩
        rw [tal_odd h]
        exact .node upd_same (.leaf _) (m.same s2)
    · rintro σ H1 ⟨s1, v, o2, rfl, m⟩
      have e : ((n - 1 : Nat) : Int).toNat = n - 1 := by omega
      rw [e] at m
      exact ⟨_, rfl, q v H1 s1 m⟩
theorem ok_tallL {f : Addr} {fd : FuncData} (F : Fun K "_law_tall_line" "_law_tall_line" s_L_tall_line f fd) (T : Free mg) : FnOk P w K mg base CX0 1 f fd ["_law_levels"] spTallL := by
  refine F.ok scTallL (fun vs H Q E h => ?_) (fun cdv A outer s H vs Q E hr h => ?_)
  · obtain ⟨n, rfl, _⟩ := h
    rfl
  · obtain ⟨n, rfl, h1, h2, q⟩ := h
    refine ⟨_, pss_cons (ps_set (i := 1) scTallL.nd rfl (.inl rfl) pe_str)
      (pss_cons (ps_for PassesOwn.never rfl (pi_range1 rfl T.range (pa_cons (pe_op op_sub (pv 0) pe_int) pa_nil)) (pg_name (i := 2) scTallL.nd rfl (.inl rfl))
        (pss_cons (ps_set (i := 3) scTallL.nd rfl (.inl rfl) (pe_ifExp (pt_cmpR op_eq (pv 2) pe_int (nomark _)) (pv 1) (pe_op op_add_str (pe_op op_add_str pe_str (pv 1)) pe_str)))
        (pss_one (ps_set (i := 1) scTallL.nd rfl (.inl rfl) (pe_ifExp (pt_cmpR op_eq (pe_op op_mod (pe_callTy call_int1 (by rfl) T.int (by decide +kernel) (pa_cons (pv 2) pa_nil)) pe_int) pe_int (nomark _))
          (pe_op op_add_str (pv 3) pe_str) (pe_op op_add_str pe_str (pv 3)))))))
      (pss_one (ps_ret (pv 1)))), ?_⟩
    have e1 : ((n : Nat) : Int) - 1 = ((n - 1 : Nat) : Int) := by omega
    refine ⟨_, rfl, _, _, rfl, rfl, ((n - 1 : Nat) : Int), by rw [← e1], by omega, by omega, ?_⟩
    refine for_range (lo := 0) (n := ((n - 1 : Nat) : Int).toNat) (fun i σ H' => H' = H ∧ ∃ (o2 o3 : Option V), σ = [some (.int n), some (.str ((tal i).txt false)), o2, o3]) ⟨rfl, _, _, rfl⟩ ?_ ?_
    · rintro i σ H1 hi ⟨rfl, o2, o3, rfl⟩
      obtain ⟨ok, nl, _⟩ := tal_is i
      have l1 := txt_len false (tal i) ok
      have l2 := txt_len true (tal i) ok
      have eA : ("(" : Str).length = 1 := by decide +kernel
      have eB : (")" : Str).length = 1 := by decide +kernel
      have eC : (" - b" : Str).length = 4 := by decide +kernel
      have eD : ("b & " : Str).length = 4 := by decide +kernel
      have sl : sizeLine = 16777216 := sizeLine_eq
      refine ⟨_, rfl, rfl, _, rfl, ?_⟩
      have key : ∀ R : V → Hp → Prop, R (.str ((tal i).txt true)) H1 → (if decide (V.int (0 + (i : Int)) = V.int 0) = true then tVar 1 [some (.int n), some (.str ((tal i).txt false)), some (.int (0 + (i : Int))), o3] H1 R else tOp (fun x y H Q => ∃ i j, x = .str i ∧ y = .str j ∧ i.length + j.length ≤ sizeLine ∧ Q (.str (i ++ j)) H) (tOp (fun x y H Q => ∃ i j, x = .str i ∧ y = .str j ∧ i.length + j.length ≤ sizeLine ∧ Q (.str (i ++ j)) H) (tC (.str "(")) (tVar 1)) (tC (.str ")")) [some (.int n), some (.str ((tal i).txt false)), some (.int (0 + (i : Int))), o3] H1 R) := fun R hR => by
        rw [tal_side] at hR
        by_cases h : i = 0
        · rw [if_pos h] at hR
          rw [decide_eq_true (by rw [h]; rfl)]
          exact iteT ⟨_, rfl, hR⟩
        · rw [if_neg h] at hR
          rw [decide_eq_false (fun e => h (by have := V.int.inj e; omega))]
          refine iteF ⟨_, rfl, _, _, rfl, rfl, by omega, _, _, rfl, rfl, by rw [strLen_append]; omega, hR⟩
      refine key _ ?_
      refine ⟨_, rfl, .inl ⟨_, rfl, _, _, rfl, rfl, (by show (0 : Int) < 2; decide), rfl, _, rfl, ?_⟩⟩
      rw [turn_even]
      have en := tal_next i
      by_cases h : i % 2 = 0
      · rw [if_pos h] at en
        rw [decide_eq_true h]
        exact iteT ⟨_, rfl, _, _, rfl, rfl, by omega, rfl, _, _, by rw [en]; rfl⟩
      · rw [if_neg h] at en
        rw [decide_eq_false h]
        exact iteF ⟨_, rfl, _, _, rfl, rfl, by omega, rfl, _, _, by rw [en]; rfl⟩
    · rintro σ H1 ⟨rfl, o2, o3, rfl⟩
      have e : ((n - 1 : Nat) : Int).toNat = n - 1 := by omega
      rw [e]
      exact ⟨_, rfl, q⟩
end
end K1

namespace K1
open PySem PySem.Spec
open PyProof.Rows L2 EnT StX SmX TxS DuX ClX
/-! ### a text that is none -/
/-- a value that is no text, or a text that is none -/
def OddL (H : Hp) (v : V) : Prop := v = .non ∨ v = .int 5 ∨ (∃ a, v = .ref a ∧ H a = some (.tup [.str "a"])) ∨ ∃ x, v = .str x ∧ LineBad x
def spBadLine : Sp := fun vs H Q _ => ∃ (p : Addr) (t : Fm), vs = [.ref p, .str (t.txt false)] ∧ PoolAt H p ∧ t.Ok ∧ t.nl ≤ 100 ∧ ∀ (v : V) (H' : Hp), K1.Ext p H H' → OddL H' v → Q v H'
abbrev nmBL : List Str := ["_law_pool_here", "_law_line", "_law_bad"]
def bl27 (ta : Addr) (x : Str) : List V := [.non, .int 5, .ref ta] ++ (badTexts x).map V.str
section
variable {w : World} {P : Program} {base : Heap} {mg : Str → Option Value} {K : PySem.W.Frag}
theorem scBL : FnScope nmBL ["_law_pool_here", "_law_line"] (defScope s_L_bad_line) := ⟨rfl, rfl, rfl, by decide +kernel, rfl, by decide +kernel, by decide +kernel⟩
theorem ok_badLine {f fD : Addr} {fd : FuncData} (F : Fun K "_law_bad_line" "_law_bad_line" s_L_bad_line f fd) (T : Free mg) (hD : Has P w K mg base CX0 1 "_law_draw" fD ["_law_pool_here", "_law_many"] spDraw) : FnOk P w K mg base CX0 2 f fd ["_law_pool_here", "_law_line"] spBadLine := by
  refine F.ok scBL (fun vs H Q E h => ?_) (fun cdv A outer s H vs Q E hr h => ?_)
  · obtain ⟨p, t, rfl, _⟩ := h
    rfl
  · obtain ⟨p, t, rfl, hp, ok, nl, q⟩ := h
    refine ⟨_, pss_cons (ps_set (i := 2) scBL.nd rfl (.inl rfl) (pe_lst (pa_cons pe_non (pa_cons pe_int (pa_cons (pe_tup (pa_cons pe_str pa_nil)) (pa_cons pe_str (pa_cons pe_str (pa_cons (pe_op op_add_str (pv 1) pe_str) (pa_cons (pe_op op_add_str pe_str (pv 1)) (pa_cons (pe_op op_add_str (pe_op op_add_str pe_str (pv 1)) pe_str)
        (pa_cons (pe_op op_add_str (pv 1) pe_str) (pa_cons (pe_op op_add_str pe_str (pv 1)) (pa_cons (pe_op op_add_str (pv 1) pe_str) pa_nil)))))))))))))
      (pss_cons (ps_set (i := 2) scBL.nd rfl (.inl rfl) (pe_op op_cat (pv 2) (pe_lst (pa_cons (pe_op op_add_str (pv 1) pe_str) (pa_cons (pe_op op_add_str (pv 1) pe_str) (pa_cons (pe_op op_add_str pe_str (pv 1)) (pa_cons (pe_op op_add_str (pv 1) pe_str) (pa_cons pe_str (pa_cons pe_str (pa_cons pe_str pa_nil))))))))))
      (pss_cons (ps_expr (pe_bm PySem.F.plainAttrs_list PySem.F.slot_list_append PySem.F.type_list_append mt_append (pv 2) (pa_cons pe_str pa_nil)))
      (pss_cons (ps_set (i := 2) scBL.nd rfl (.inl rfl) (pe_op op_cat (pv 2) (pe_lst (pa_cons pe_str (pa_cons pe_str (pa_cons pe_str (pa_cons pe_str (pa_cons pe_str (pa_cons (pe_op op_add_str (pv 1) pe_str) (pa_cons (pe_op op_add_str (pv 1) pe_str) (pa_cons pe_str pa_nil)))))))))))
      (pss_one (ps_ret (pe_ix ix_list (pv 2) (pe_has hD hr (by rfl) pass0 (pa_cons (pv 0) (pa_cons (pe_callB call_len_seq (by rfl) T.len PySem.boot_len (pa_cons (pv 2) pa_nil)) pa_nil))) (fun _ _ => rfl))))))), ?_⟩
    have lx := txt_len false t ok
    have eok := bad_texts ok (show t.nl ≤ 1000 by omega)
    generalize hx : t.txt false = x at lx eok ⊢
    have sl : sizeLine = 16777216 := sizeLine_eq
    have a1 : (" " : Str).length = 1 := by decide +kernel
    have a2 : ("(" : Str).length = 1 := by decide +kernel
    have a3 : (")" : Str).length = 1 := by decide +kernel
    have a4 : (" |" : Str).length = 2 := by decide +kernel
    have a5 : ("| " : Str).length = 2 := by decide +kernel
    have a6 : (" | A" : Str).length = 4 := by decide +kernel
    have a7 : (" + a" : Str).length = 4 := by decide +kernel
    have a8 : ("  | a" : Str).length = 5 := by decide +kernel
    have a9 : (" | ()" : Str).length = 5 := by decide +kernel
    have a10 : (" a" : Str).length = 2 := by decide +kernel
    refine ⟨(by show 1 ≤ sizeLine; decide), fun ta nta => ?_⟩
    refine ⟨_, rfl, _, _, rfl, rfl, by omega, _, rfl, _, _, rfl, rfl, by omega, _, rfl, _, _, rfl, rfl, by omega, _, _, rfl, rfl, by rw [strLen_append]; omega, _, rfl, _, _, rfl, rfl, by omega, _, rfl, _, _, rfl, rfl, by omega, _, rfl, _, _, rfl, rfl, by omega, (by show 11 ≤ sizeLine; decide), fun L1 nL1 => ?_⟩
    have s1 := same_upd (o := .tup [.str "a"]) nta
    have g1 : (upd H ta (.tup [.str "a"])) ta = some (.tup [.str "a"]) := upd_same
    generalize upd H ta (.tup [.str "a"]) = H1 at s1 g1 nL1 ⊢
    have s2 := same_upd (o := .lst [.non, .int 5, .ref ta, .str "", .str " ", .str (x ++ (" " : Str)), .str ((" " : Str) ++ x), .str (("(" : Str) ++ x ++ (")" : Str)), .str (x ++ (" |" : Str)), .str (("| " : Str) ++ x), .str (x ++ (" | A" : Str))]) nL1
    have g2 : (upd H1 L1 (.lst [.non, .int 5, .ref ta, .str "", .str " ", .str (x ++ (" " : Str)), .str ((" " : Str) ++ x), .str (("(" : Str) ++ x ++ (")" : Str)), .str (x ++ (" |" : Str)), .str (("| " : Str) ++ x), .str (x ++ (" | A" : Str))])) L1 = some _ := upd_same
    generalize upd H1 L1 (.lst [.non, .int 5, .ref ta, .str "", .str " ", .str (x ++ (" " : Str)), .str ((" " : Str) ++ x), .str (("(" : Str) ++ x ++ (")" : Str)), .str (x ++ (" |" : Str)), .str (("| " : Str) ++ x), .str (x ++ (" | A" : Str))]) = H2 at s2 g2 ⊢
    refine ⟨_, rfl, _, rfl, _, _, rfl, rfl, by omega, _, rfl, _, _, rfl, rfl, by omega, _, rfl, _, _, rfl, rfl, by omega, _, rfl, _, _, rfl, rfl, by omega, (by show 7 ≤ sizeLine; decide), fun M nM => ?_⟩
    have s3 := same_upd (o := .lst [.str (x ++ (" + a" : Str)), .str (x ++ ("  | a" : Str)), .str (("(" : Str) ++ x), .str (x ++ (")" : Str)), .str "a|b", .str "( a | b) | c", .str "(a | b ) | c"]) nM
    refine ⟨L1, M, _, _, rfl, rfl, s3 _ _ g2, upd_same, (by show 11 + 7 ≤ sizeLine; decide), fun L3 nL3 => ?_⟩
    generalize upd H2 M (.lst [.str (x ++ (" + a" : Str)), .str (x ++ ("  | a" : Str)), .str (("(" : Str) ++ x), .str (x ++ (")" : Str)), .str "a|b", .str "( a | b) | c", .str "(a | b ) | c"]) = H3 at s3 nL3 ⊢
    have hb : ∃ zs : List V, zs = [.non, .int 5, .ref ta, .str "", .str " ", .str (x ++ (" " : Str)), .str ((" " : Str) ++ x), .str (("(" : Str) ++ x ++ (")" : Str)), .str (x ++ (" |" : Str)), .str (("| " : Str) ++ x), .str (x ++ (" | A" : Str))] ++ [.str (x ++ (" + a" : Str)), .str (x ++ ("  | a" : Str)), .str (("(" : Str) ++ x), .str (x ++ (")" : Str)), .str "a|b", .str "( a | b) | c", .str "(a | b ) | c"] := ⟨_, rfl⟩
    obtain ⟨zs, ez⟩ := hb
    have lz : zs.length = 18 := by rw [ez]; rfl
    rw [← ez]
    have s4 := same_upd (o := .lst zs) nL3
    have g4 : (upd H3 L3 (.lst zs)) L3 = some (.lst zs) := upd_same
    have n3 : H L3 = none := same_free (s1.trans (s2.trans s3)) nL3
    generalize upd H3 L3 (.lst zs) = H4 at s4 g4 ⊢
    refine ⟨_, rfl, .inl ⟨rfl, _, SqL.of g4⟩, L3, _, _, rfl, rfl, g4, by rw [lz]; decide, ?_⟩
    have k5 : ∀ b o, b ≠ L3 → H4 b = some o → upd H4 L3 (.lst (zs ++ [.str "a | b | c"])) b = some o := fun b o n e => by rw [upd_ne n]; exact e
    have g5 : (upd H4 L3 (.lst (zs ++ [.str "a | b | c"]))) L3 = some (.lst (zs ++ [.str "a | b | c"])) := upd_same
    generalize upd H4 L3 (.lst (zs ++ [.str "a | b | c"])) = H5 at k5 g5 ⊢
    have s5 : Same H H5 := fun b o e => k5 b o (ne_of_none e n3) (s4 _ _ (s3 _ _ (s2 _ _ (s1 _ _ e))))
    have t5 : H5 ta = some (.tup [.str "a"]) := k5 _ _ (ne_of_none (s3 _ _ (s2 _ _ g1)) nL3) (s4 _ _ (s3 _ _ (s2 _ _ g1)))
    refine ⟨_, rfl, _, rfl, _, _, rfl, rfl, by omega, _, rfl, _, _, rfl, rfl, by omega, (by show 8 ≤ sizeLine; decide), fun N nN => ?_⟩
    have s6 := same_upd (o := .lst [.str "((a | b)) | c", .str "(a) | b", .str "a\n", .str "a | (b)", .str "()", .str (x ++ (" | ()" : Str)), .str (x ++ (" a" : Str)), .str "(a | b)(a | b)"]) nN
    refine ⟨L3, N, _, _, rfl, rfl, s6 _ _ g5, upd_same, by rw [List.length_append, lz]; show 18 + 1 + 8 ≤ sizeLine; decide, fun L4 nL4 => ?_⟩
    generalize upd H5 N (.lst [.str "((a | b)) | c", .str "(a) | b", .str "a\n", .str "a | (b)", .str "()", .str (x ++ (" | ()" : Str)), .str (x ++ (" a" : Str)), .str "(a | b)(a | b)"]) = H6 at s6 nL4 ⊢
    have e27 : zs ++ [V.str "a | b | c"] ++ [V.str "((a | b)) | c", .str "(a) | b", .str "a\n", .str "a | (b)", .str "()", .str (x ++ (" | ()" : Str)), .str (x ++ (" a" : Str)), .str "(a | b)(a | b)"] = bl27 ta x := by rw [ez]; rfl
    rw [e27]
    have s7 := same_upd (o := .lst (bl27 ta x)) nL4
    have g7 : (upd H6 L4 (.lst (bl27 ta x))) L4 = some (.lst (bl27 ta x)) := upd_same
    generalize upd H6 L4 (.lst (bl27 ta x)) = H7 at s7 g7 ⊢
    have s57 := s5.trans (s6.trans s7)
    have t7 := s7 _ _ (s6 _ _ t5)
    have x7 : K1.Ext p H H7 := (Ext.refl hp).same s57
    have L4p : L4 ≠ p := fun e => by
      obtain ⟨i, j, k, ep⟩ := hp
      rw [e, s57 _ _ ep] at g7
      cases Option.some.inj g7
    have l27 : (bl27 ta x).length = 27 := rfl
    refine ⟨_, rfl, _, rfl, _, rfl, L4, _, rfl, .inl (SqL.of g7), ?_⟩
    rw [l27]
    refine ⟨p, _, rfl, x7.pool, by omega, by omega, fun i H8 x8 i0 i1 => ?_⟩
    have ei : ((i.toNat : Nat) : Int) = i := by omega
    have hi : i.toNat < (bl27 ta x).length := by rw [l27]; omega
    refine ⟨L4, _, i, (bl27 ta x)[i.toNat], rfl, rfl, SqL.of (x8.at L4p g7), ?_, ?_⟩
    · have z := atI_nat (xs := bl27 ta x) (j := i.toNat) (List.getElem?_eq_getElem hi)
      rw [ei] at z
      exact z
    · refine q _ H8 (x7.trans x8) ?_
      have hm : (bl27 ta x)[i.toNat] ∈ bl27 ta x := List.getElem_mem hi
      generalize (bl27 ta x)[i.toNat] = y at hm
      rcases List.mem_append.mp hm with hm | hm
      · simp only [List.mem_cons, List.not_mem_nil, or_false] at hm
        rcases hm with rfl | rfl | rfl
        · exact .inl rfl
        · exact .inr (.inl rfl)
        · refine .inr (.inr (.inl ⟨ta, rfl, x8.at (fun e => ?_) t7⟩))
          obtain ⟨i, j, k, ep⟩ := x7.pool
          rw [e, ep] at t7
          cases t7
      · obtain ⟨z, hz, rfl⟩ := List.mem_map.mp hm
        exact .inr (.inr (.inr ⟨z, rfl, eok z hz⟩))
end
end K1

namespace K1
open PySem PySem.Spec
open PyProof.Rows L2 EnT StX SmX TxS DuX ClX
/-! ### a form with one thing spoilt -/
def spSpoilt (n : Nat) : Sp := fun vs H Q _ => ∃ (p : Addr) (v : V) (t : Fm), vs = [.ref p, v] ∧ PoolAt H p ∧ FmAt H v t ∧ t.Ok ∧ t.dep ≤ n ∧ ∀ (u : V) (x : Sf) (H' : Hp), K1.Ext p H H' → SfAt H' u x → x.num ≤ t.nl → x.dep ≤ t.dep + 1 → x.size ≤ t.size → Q u H'
abbrev nmSp : List Str := ["_law_pool_here", "_law_shape", "_law_way", "_law_side", "_law_inner", "_law_bad"]
structure AtSp (p : Addr) (σ : L2.St) (H : Hp) (En : Ends) : Prop where
  ex : ∃ (x1 x2 x3 x4 x5 : Option V), σ = [some (.ref p), x1, x2, x3, x4, x5] ∧ PoolAt H p ∧ ∀ (u : V) (d : PyData) (H' : Hp), K1.Ext p H H' → BdAt H' u d → En.rt u H'
section
variable {w : World} {P : Program} {base : Heap} {mg : Str → Option Value} {K : PySem.W.Frag}
variable {f fD p : Addr} {cdv : Value} {A : Around} {outer : List Env} {s : Shared} {H00 : Hp} {E : XK}
theorem scSp : FnScope nmSp ["_law_pool_here", "_law_shape"] (defScope s_L_spoilt) := ⟨rfl, rfl, rfl, by decide +kernel, rfl, by decide +kernel, by decide +kernel⟩
theorem sp_leaf (T : Free mg) (hD : Has P w K mg base CX0 1 "_law_draw" fD ["_law_pool_here", "_law_many"] spDraw) (hr : Room 1 (A.deeper (envOfC "_law_spoilt" (defScope s_L_spoilt) s.heap.objs.size f cdv))) :
    PSs (cxOf CX0 P w K mg base nmSp "_law_spoilt" (defScope s_L_spoilt) f cdv A outer s H00 E).nox ((defBody s_L_spoilt).drop 2) (fun En σ H => AtSp p σ H En) := by
  refine pss_of fun En σ H hyp => ?_
  obtain ⟨x1, x2, x3, x4, x5, eσ, hp, q⟩ := hyp.ex
  refine ⟨_, pss_cons (ps_set (i := 5) scSp.nd rfl (.inl rfl) (pe_lst (pa_cons pe_non (pa_cons pe_bl (pa_cons pe_int (pa_cons pe_str (pa_cons pe_str (pa_cons pe_str (pa_cons pe_str (pa_cons pe_str (pa_cons (pe_tup pa_nil) (pa_cons (pe_tup (pa_cons pe_str pa_nil)) (pa_cons (pe_tup (pa_cons pe_str (pa_cons pe_str pa_nil))) (pa_cons (pe_lst (pa_cons pe_str (pa_cons pe_str (pa_cons pe_str pa_nil))))
        (pa_cons (pe_tup (pa_cons pe_str (pa_cons pe_str (pa_cons pe_str pa_nil)))) pa_nil)))))))))))))))
    (pss_cons (ps_set (i := 5) scSp.nd rfl (.inl rfl) (pe_op op_cat (pv 5) (pe_lst (pa_cons (pe_tup (pa_cons pe_str (pa_cons pe_str (pa_cons pe_str (pa_cons pe_str pa_nil))))) (pa_cons (pe_tup (pa_cons pe_str (pa_cons pe_str (pa_cons pe_str pa_nil)))) (pa_cons (pe_tup (pa_cons pe_non (pa_cons pe_str (pa_cons pe_str pa_nil)))) (pa_cons pe_dnewK pa_nil)))))))
    (pss_one (ps_ret (pe_ix ix_list (pv 5) (pe_has hD hr (by rfl) pass0 (pa_cons (pv 0) (pa_cons (pe_callB call_len_seq (by rfl) T.len PySem.boot_len (pa_cons (pv 5) pa_nil)) pa_nil))) (fun _ _ => rfl))))), ?_⟩
  subst eσ
  refine ⟨(by decide), fun t1 n1 => ⟨(by decide), fun t2 n2 => ⟨(by decide), fun t3 n3 => ⟨(by decide), fun l1 m1 => ⟨(by decide), fun t4 n4 => ⟨(by show 13 ≤ sizeLine; decide), fun L1 nL1 => ?_⟩⟩⟩⟩⟩⟩
  have s1 := same_upd (o := .tup []) n1
  have g1 : (upd H t1 (.tup [])) t1 = some (.tup (([] : List Str).map V.str)) := upd_same
  generalize upd H t1 (.tup []) = H1 at s1 g1 n2 n3 m1 n4 nL1 ⊢
  have s2 := same_upd (o := .tup [.str "|"]) n2
  have g2 : (upd H1 t2 (.tup [.str "|"])) t2 = some (.tup ((["|"] : List Str).map V.str)) := upd_same
  generalize upd H1 t2 (.tup [.str "|"]) = H2 at s2 g2 n3 m1 n4 nL1 ⊢
  have s3 := same_upd (o := .tup [.str "|", .str "a"]) n3
  have g3 : (upd H2 t3 (.tup [.str "|", .str "a"])) t3 = some (.tup ((["|", "a"] : List Str).map V.str)) := upd_same
  generalize upd H2 t3 (.tup [.str "|", .str "a"]) = H3 at s3 g3 m1 n4 nL1 ⊢
  have s4 := same_upd (o := .lst [.str "|", .str "a", .str "b"]) m1
  have g4 : (upd H3 l1 (.lst [.str "|", .str "a", .str "b"])) l1 = some (.lst (badLst.map V.str)) := upd_same
  generalize upd H3 l1 (.lst [.str "|", .str "a", .str "b"]) = H4 at s4 g4 n4 nL1 ⊢
  have s5 := same_upd (o := .tup [.str "+", .str "a", .str "b"]) n4
  have g5 : (upd H4 t4 (.tup [.str "+", .str "a", .str "b"])) t4 = some (.tup ((["+", "a", "b"] : List Str).map V.str)) := upd_same
  generalize upd H4 t4 (.tup [.str "+", .str "a", .str "b"]) = H5 at s5 g5 nL1 ⊢
  have g4 := s5 _ _ g4
  have g3 := s5 _ _ (s4 _ _ g3)
  have g2 := s5 _ _ (s4 _ _ (s3 _ _ g2))
  have g1 := s5 _ _ (s4 _ _ (s3 _ _ (s2 _ _ g1)))
  have sA := s1.trans (s2.trans (s3.trans (s4.trans s5)))
  clear s1 s2 s3 s4 s5
  have s6 := same_upd (o := .lst [.non, .bl true, .int 0, .str "", .str "A", .str "9a", .str "abcdefghi", .str "a b", .ref t1, .ref t2, .ref t3, .ref l1, .ref t4]) nL1
  have gL : (upd H5 L1 (.lst [.non, .bl true, .int 0, .str "", .str "A", .str "9a", .str "abcdefghi", .str "a b", .ref t1, .ref t2, .ref t3, .ref l1, .ref t4])) L1 = some _ := upd_same
  generalize upd H5 L1 (.lst [.non, .bl true, .int 0, .str "", .str "A", .str "9a", .str "abcdefghi", .str "a b", .ref t1, .ref t2, .ref t3, .ref l1, .ref t4]) = H6 at s6 gL ⊢
  refine ⟨_, rfl, (by decide), fun t5 n5 => ⟨(by decide), fun t6 n6 => ⟨(by decide), fun t7 n7 => fun d1 m2 => ⟨(by show 4 ≤ sizeLine; decide), fun M nM => ?_⟩⟩⟩⟩
  have r1 := same_upd (o := .tup [.str "|", .str "a", .str "b", .str "c"]) n5
  have g6 : (upd H6 t5 (.tup [.str "|", .str "a", .str "b", .str "c"])) t5 = some (.tup ((["|", "a", "b", "c"] : List Str).map V.str)) := upd_same
  generalize upd H6 t5 (.tup [.str "|", .str "a", .str "b", .str "c"]) = H7 at r1 g6 n6 n7 m2 nM ⊢
  have r2 := same_upd (o := .tup [.str "a", .str "|", .str "b"]) n6
  have g7 : (upd H7 t6 (.tup [.str "a", .str "|", .str "b"])) t6 = some (.tup ((["a", "|", "b"] : List Str).map V.str)) := upd_same
  generalize upd H7 t6 (.tup [.str "a", .str "|", .str "b"]) = H8 at r2 g7 n7 m2 nM ⊢
  have r3 := same_upd (o := .tup [.non, .str "a", .str "b"]) n7
  have g8 : (upd H8 t7 (.tup [.non, .str "a", .str "b"])) t7 = some (.tup [.non, .str "a", .str "b"]) := upd_same
  generalize upd H8 t7 (.tup [.non, .str "a", .str "b"]) = H9 at r3 g8 m2 nM ⊢
  have r4 := same_upd (o := .dK []) m2
  have g9 : (upd H9 d1 (.dK [])) d1 = some (.dK []) := upd_same
  generalize upd H9 d1 (.dK []) = Ha at r4 g9 nM ⊢
  have r5 := same_upd (o := .lst [.ref t5, .ref t6, .ref t7, .ref d1]) nM
  have r15 := r1.trans (r2.trans (r3.trans (r4.trans r5)))
  refine ⟨L1, M, _, _, rfl, rfl, r15 _ _ gL, upd_same, (by show 13 + 4 ≤ sizeLine; decide), fun L2' nL2 => ?_⟩
  generalize upd Ha M (.lst [.ref t5, .ref t6, .ref t7, .ref d1]) = Hb at r5 r15 nL2 ⊢
  have g9 := r5 _ _ g9
  have g8 := r5 _ _ (r4 _ _ g8)
  have g7 := r5 _ _ (r4 _ _ (r3 _ _ g7))
  have g6 := r5 _ _ (r4 _ _ (r3 _ _ (r2 _ _ g6)))
  have s6b := s6.trans r15
  clear r1 r2 r3 r4 r5
  obtain ⟨zs, ez⟩ : ∃ zs : List V, zs = [.non, .bl true, .int 0, .str "", .str "A", .str "9a", .str "abcdefghi", .str "a b", .ref t1, .ref t2, .ref t3, .ref l1, .ref t4] ++ [.ref t5, .ref t6, .ref t7, .ref d1] := ⟨_, rfl⟩
  rw [← ez]
  have s7 := same_upd (o := .lst zs) nL2
  have gz : (upd Hb L2' (.lst zs)) L2' = some (.lst zs) := upd_same
  generalize upd Hb L2' (.lst zs) = Hc at s7 gz ⊢
  have lz : zs.length = 17 := by rw [ez]; rfl
  have sC := sA.trans (s6b.trans s7)
  have x7 : K1.Ext p H Hc := (Ext.refl hp).same sC
  have all : ∀ (j : Nat) (y : V), zs[j]? = some y → ∃ d, BdAt Hc y d := fun j y hy => by
    rw [ez] at hy
    match j, hy with
    | 0, hy => cases hy; exact ⟨_, .non⟩
    | 1, hy => cases hy; exact ⟨_, .bl⟩
    | 2, hy => cases hy; exact ⟨_, .int⟩
    | 3, hy => cases hy; exact ⟨_, .str _ (by decide +kernel)⟩
    | 4, hy => cases hy; exact ⟨_, .str _ (by decide +kernel)⟩
    | 5, hy => cases hy; exact ⟨_, .str _ (by decide +kernel)⟩
    | 6, hy => cases hy; exact ⟨_, .str _ (by decide +kernel)⟩
    | 7, hy => cases hy; exact ⟨_, .str _ (by decide +kernel)⟩
    | 8, hy => cases hy; exact ⟨_, .tup _ _ (by decide +kernel) (s7 _ _ (s6b _ _ g1))⟩
    | 9, hy => cases hy; exact ⟨_, .tup _ _ (by decide +kernel) (s7 _ _ (s6b _ _ g2))⟩
    | 10, hy => cases hy; exact ⟨_, .tup _ _ (by decide +kernel) (s7 _ _ (s6b _ _ g3))⟩
    | 11, hy => cases hy; exact ⟨_, .lst _ (s7 _ _ (s6b _ _ g4))⟩
    | 12, hy => cases hy; exact ⟨_, .tup _ _ (by decide +kernel) (s7 _ _ (s6b _ _ g5))⟩
    | 13, hy => cases hy; exact ⟨_, .tup _ _ (by decide +kernel) (s7 _ _ g6)⟩
    | 14, hy => cases hy; exact ⟨_, .tup _ _ (by decide +kernel) (s7 _ _ g7)⟩
    | 15, hy => cases hy; exact ⟨_, .tupN _ (s7 _ _ g8)⟩
    | 16, hy => cases hy; exact ⟨_, .dK _ (s7 _ _ g9)⟩
    | n + 17, hy => cases hy
  have Lp : L2' ≠ p := fun e => by
    obtain ⟨i, j, k, ep⟩ := x7.pool
    rw [e, ep] at gz
    have := congrArg List.length (HO.lst.inj (Option.some.inj gz))
    rw [lz] at this
    cases this
  refine ⟨_, rfl, _, rfl, _, rfl, L2', _, rfl, .inl (SqL.of gz), ?_⟩
  rw [lz]
  refine ⟨p, _, rfl, x7.pool, by omega, by omega, fun i Hd x8 i0 i1 => ?_⟩
  have ei : ((i.toNat : Nat) : Int) = i := by omega
  have hi : i.toNat < zs.length := by rw [lz]; omega
  obtain ⟨y, hy⟩ : ∃ y, zs[i.toNat]? = some y := ⟨_, List.getElem?_eq_getElem hi⟩
  refine ⟨L2', _, i, y, rfl, rfl, SqL.of (x8.at Lp gz), ?_, ?_⟩
  · have z := atI_nat (xs := zs) (j := i.toNat) hy
    rw [ei] at z
    exact z
  · obtain ⟨d, hd⟩ := all _ _ hy
    exact q y d Hd (x7.trans x8) (hd.keep (.ext x8 x7.pool))
end
end K1

namespace K1
open PySem PySem.Spec
open PyProof.Rows L2 EnT StX SmX TxS DuX ClX
section
variable {w : World} {P : Program} {base : Heap} {mg : Str → Option Value} {K : PySem.W.Frag}
theorem ok_spoilt {f fD : Addr} {fd : FuncData} (F : Fun K "_law_spoilt" "_law_spoilt" s_L_spoilt f fd) (T : Free mg) (mgF : mg "_law_spoilt" = some (.ref f)) (hD : Has P w K mg base CX0 1 "_law_draw" fD ["_law_pool_here", "_law_many"] spDraw) :
    ∀ n : Nat, FnOk P w K mg base CX0 (n + 2) f fd ["_law_pool_here", "_law_shape"] (spSpoilt (n + 1)) := by
  have bF : L2.Binds K fd ["_law_pool_here", "_law_shape"] [] := F.binds (ps := ["_law_pool_here", "_law_shape"]) fun _ _ _ _ _ _ us hl => match us, hl with | [_, _], _ => rfl
  intro n
  induction n with
  | zero =>
    refine F.ok scSp (fun vs H Q E h => ?_) (fun cdv A outer s H vs Q E hr h => ?_)
    · obtain ⟨p, v, t, rfl, _⟩ := h
      rfl
    · obtain ⟨p, v, t, rfl, hp, m, ok, dn, q⟩ := h
      refine ⟨_, pss_cons (ps_par (i := 2) (j := 3) rfl scSp.nd rfl rfl (by decide) rfl rfl (pa_cons (pe_has hD hr (by rfl) pass0 (pa_cons (pv 0) (pa_cons pe_int pa_nil))) (pa_cons (pe_op op_add pe_int (pe_has hD hr (by rfl) pass0 (pa_cons (pv 0) (pa_cons pe_int pa_nil)))) pa_nil)) (by rfl))
        (pss_cons (ps_if (PW.pt (pw_and (pt_cmpR op_gt (pv 2) pe_int (nomark _)) (pw_and1 (pt_not (pt_val (pe_callB call_isi (by rfl) T.isinstance (by decide +kernel) (pa_cons (pv 1) (pa_cons (pe_bltn (v := .ty "str") (u := .type "str") (by rfl) T.str (by decide +kernel) rfl) pa_nil))))))))
          pss_never pss_nil)
        (sp_leaf (p := p) T hD hr)), ?_⟩
      obtain ⟨z, rfl⟩ := leaf_only dn
      cases m
      refine ⟨_, rfl, p, 3, rfl, hp, by decide, by decide, fun i H1 x1 i0 i1 => ?_⟩
      refine ⟨_, rfl, p, 2, rfl, x1.pool, by decide, by decide, fun j H2 x2 j0 j1 => ⟨_, _, rfl, rfl, _, _, rfl, ?_⟩⟩
      have x12 := x1.trans x2
      have st : AtSp p [some (.ref p), some (.str z), some (.int i), some (.int (1 + j)), none, none] H2 { nx := fun _ H' => Q .non H', rt := Q } := ⟨_, _, _, _, _, rfl, x2.pool, fun u d H' x' hd => q u (.bad d) H' (x12.trans x') (.bad hd) (by show 1 ≤ 1; decide) (by show 2 ≤ 1 + 1; decide) (by show 1 ≤ 1; decide)⟩
      refine ⟨_, rfl, _, _, rfl, rfl, _, rfl, ?_⟩
      by_cases hi : i > 0
      · rw [decide_eq_true hi]
        exact iteT ⟨_, rfl, _, _, _, _, true, rfl, .ty _, .base (.str z), kit_ty (by decide +kernel), true, rfl, iteF st⟩
      · rw [decide_eq_false hi]
        exact iteF (iteF st)
  | succ n ih =>
    have hF : Has P w K mg base CX0 (n + 2) "_law_spoilt" f ["_law_pool_here", "_law_shape"] (spSpoilt (n + 1)) := ⟨mgF, F.kp, fd, ih, bF⟩
    refine F.ok scSp (fun vs H Q E h => ?_) (fun cdv A outer s H vs Q E hr h => ?_)
    · obtain ⟨p, v, t, rfl, _⟩ := h
      rfl
    · obtain ⟨p, v, t, rfl, hp, m, ok, dn, q⟩ := h
      refine ⟨_, pss_cons (ps_par (i := 2) (j := 3) rfl scSp.nd rfl rfl (by decide) rfl rfl (pa_cons (pe_has hD (hr.mono (by omega)) (by rfl) pass0 (pa_cons (pv 0) (pa_cons pe_int pa_nil))) (pa_cons (pe_op op_add pe_int (pe_has hD (hr.mono (by omega)) (by rfl) pass0 (pa_cons (pv 0) (pa_cons pe_int pa_nil)))) pa_nil)) (by rfl))
        (pss_cons (ps_if (PW.pt (pw_and (pt_cmpR op_gt (pv 2) pe_int (nomark _)) (pw_and1 (pt_not (pt_val (pe_callB call_isi (by rfl) T.isinstance (by decide +kernel) (pa_cons (pv 1) (pa_cons (pe_bltn (v := .ty "str") (u := .type "str") (by rfl) T.str (by decide +kernel) rfl) pa_nil))))))))
          (pss_cons (ps_set (i := 4) scSp.nd rfl (.inl rfl) (pe_has hF hr (by rfl) pass0 (pa_cons (pv 0) (pa_cons (pe_ix ix_tup (pv 1) (pv 3) (fun _ _ => rfl)) pa_nil))))
          (pss_one (ps_ret (pe_ifExp (pt_cmpR op_eq (pv 3) pe_int (nomark _)) (pe_tup (pa_cons (pe_ix ix_tup (pv 1) pe_int (fun _ _ => rfl)) (pa_cons (pv 4) (pa_cons (pe_ix ix_tup (pv 1) pe_int (fun _ _ => rfl)) pa_nil)))) (pe_tup (pa_cons (pe_ix ix_tup (pv 1) pe_int (fun _ _ => rfl)) (pa_cons (pe_ix ix_tup (pv 1) pe_int (fun _ _ => rfl)) (pa_cons (pv 4) pa_nil)))))))) pss_nil)
        (sp_leaf (p := p) T hD (hr.mono (by omega)))), ?_⟩
      have tp := Fm.dep_pos t
      have np := Fm.nl_pos t
      have zp := Fm.size_pos t
      refine ⟨_, rfl, p, 3, rfl, hp, by decide, by decide, fun i H1 x1 i0 i1 => ?_⟩
      refine ⟨_, rfl, p, 2, rfl, x1.pool, by decide, by decide, fun j H2 x2 j0 j1 => ⟨_, _, rfl, rfl, _, _, rfl, ?_⟩⟩
      have x12 := x1.trans x2
      have st : AtSp p [some (.ref p), some v, some (.int i), some (.int (1 + j)), none, none] H2 { nx := fun _ H' => Q .non H', rt := Q } := ⟨_, _, _, _, _, rfl, x2.pool, fun u d H' x' hd => q u (.bad d) H' (x12.trans x') (.bad hd) (by show 1 ≤ _; omega) (by show 2 ≤ _; omega) (by show 1 ≤ _; omega)⟩
      refine ⟨_, rfl, _, _, rfl, rfl, _, rfl, ?_⟩
      by_cases hi : i > 0
      · rw [decide_eq_true hi]
        cases m with
        | leaf z => exact iteT ⟨_, rfl, _, _, _, _, true, rfl, .ty _, .base (.str z), kit_ty (by decide +kernel), true, rfl, iteF st⟩
        | node h hl hr' =>
          rename_i a sg vl vr l r
          have tk : TupK H H2 := .ext hp x12
          have h2 := tk _ _ h
          have hl2 := hl.keep tk
          have hr2 := hr'.keep tk
          rw [Fm.dep_node] at dn
          refine iteT ⟨_, rfl, _, _, _, _, false, rfl, .ty _, .base (.tup h2), kit_ty (by decide +kernel), false, rfl, iteT ?_⟩
          have fin : ∀ H3, K1.Ext p H2 H3 → H3 a = some (.tup [.str sg, vl, vr]) ∧ FmAt H3 vl l ∧ FmAt H3 vr r := fun H3 x3 => by
            have k3 : TupK H2 H3 := .ext x2.pool x3
            exact ⟨k3 _ _ h2, hl2.keep k3, hr2.keep k3⟩
          by_cases hj : j = 0
          · subst hj
            refine ⟨_, rfl, _, rfl, _, rfl, a, _, 1, vl, rfl, rfl, SqT.of h2, atI_nat (j := 1) rfl, p, vl, l, rfl, x2.pool, hl2, ok.2.1, by omega, fun u x H3 x3 hx nx dx zx => ?_⟩
            obtain ⟨h3, hl3, hr3⟩ := fin H3 x3
            refine ⟨_, rfl, rfl, _, rfl, iteT ?_⟩
            refine ⟨_, rfl, a, _, _, .str sg, rfl, rfl, SqT.of h3, atI_nat (j := 0) rfl, _, rfl, _, rfl, a, _, _, vr, rfl, rfl, SqT.of h3, atI_nat (j := 2) rfl, (by show 3 ≤ sizeLine; decide), fun b nb => ?_⟩
            have s4 : Same H3 (upd H3 b (.tup [.str sg, u, vr])) := same_upd nb
            refine q (.ref b) (.nl sg x r) _ ((x12.trans x3).same s4) (.nl upd_same ok.1 (hx.keep (.same s4)) (hr3.same s4) ok.2.2) ?_ ?_ ?_
            · rw [Fm.nl_node]
              simp only [Sf.num]
              omega
            · rw [Fm.dep_node]
              simp only [Sf.dep]
              omega
            · simp only [Sf.size, Fm.size]
              omega
          · have hj1 : j = 1 := by omega
            subst hj1
            refine ⟨_, rfl, _, rfl, _, rfl, a, _, 2, vr, rfl, rfl, SqT.of h2, atI_nat (j := 2) rfl, p, vr, r, rfl, x2.pool, hr2, ok.2.2, by omega, fun u x H3 x3 hx nx dx zx => ?_⟩
            obtain ⟨h3, hl3, hr3⟩ := fin H3 x3
            refine ⟨_, rfl, rfl, _, rfl, iteF ?_⟩
            refine ⟨_, rfl, a, _, _, .str sg, rfl, rfl, SqT.of h3, atI_nat (j := 0) rfl, _, rfl, a, _, _, vl, rfl, rfl, SqT.of h3, atI_nat (j := 1) rfl, _, rfl, (by show 3 ≤ sizeLine; decide), fun b nb => ?_⟩
            have s4 : Same H3 (upd H3 b (.tup [.str sg, vl, u])) := same_upd nb
            refine q (.ref b) (.nr sg l x) _ ((x12.trans x3).same s4) (.nr upd_same ok.1 (hl3.same s4) ok.2.1 (hx.keep (.same s4))) ?_ ?_ ?_
            · rw [Fm.nl_node]
              simp only [Sf.num]
              omega
            · rw [Fm.dep_node]
              simp only [Sf.dep]
              omega
            · simp only [Sf.size, Fm.size]
              omega
      · rw [decide_eq_false hi]
        exact iteF (iteF st)
end
end K1

namespace K1
open PySem PySem.Spec
open PyProof.Rows L2 EnT StX SmX TxS DuX ClX
def spFormL (n : Nat) : Sp := fun vs H Q _ => ∃ (p a : Addr) (N : List Str) (d : Nat), vs = [.ref p, .ref a, .int d] ∧ PoolAt H p ∧ a ≠ p ∧ H a = some (.lst (N.map V.str)) ∧ 0 < N.length ∧ N.length < 1000 ∧ (∀ z ∈ N, nameB z = true) ∧ d ≤ n ∧
  ∀ (v : V) (t : Fm) (H' : Hp), K1.Ext p H H' → FmAt H' v t → t.Ok → t.dep ≤ d + 1 → (∀ z ∈ t.lvs, z ∈ N) → Q v H'
abbrev nmFo : List Str := ["_law_pool_here", "_law_words", "_law_deep", "_law_sign"]
section
variable {w : World} {P : Program} {base : Heap} {mg : Str → Option Value} {K : PySem.W.Frag}
theorem scForm : FnScope nmFo ["_law_pool_here", "_law_words", "_law_deep"] (defScope sForm) := ⟨rfl, rfl, rfl, by decide +kernel, rfl, by decide +kernel, by decide +kernel⟩
def foB : List Stmt := match defBody sForm with
  | (.If _ b _ _) :: _ => b
  | _ => []
structure AtFo (p a : Addr) (N : List Str) (σ : L2.St) (H : Hp) (En : Ends) : Prop where
  ex : ∃ (x2 x3 : Option V), σ = [some (.ref p), some (.ref a), x2, x3] ∧ PoolAt H p ∧ a ≠ p ∧ H a = some (.lst (N.map V.str)) ∧ 0 < N.length ∧ N.length < 1000 ∧ (∀ z ∈ N, nameB z = true) ∧ ∀ z H', K1.Ext p H H' → z ∈ N → En.rt (.str z) H'
theorem fo_leaf {f fD p a : Addr} {N : List Str} {cdv : Value} {A : Around} {outer : List Env} {s : Shared} {H00 : Hp} {E : XK} (T : Free mg) (hD : Has P w K mg base CX0 1 "_law_draw" fD ["_law_pool_here", "_law_many"] spDraw) (hr : Room 1 (A.deeper (envOfC "_law_form" (defScope sForm) s.heap.objs.size f cdv))) :
    PSs (cxOf CX0 P w K mg base nmFo "_law_form" (defScope sForm) f cdv A outer s H00 E).nox foB (fun En σ H => AtFo p a N σ H En) := by
  refine pss_of fun En σ H hyp => ?_
  obtain ⟨x2, x3, eσ, hp, ap, ha, n0, n1, nm, q⟩ := hyp.ex
  refine ⟨_, pss_one (ps_ret (pe_ix ix_list (pv 1) (pe_has hD hr (by rfl) pass0 (pa_cons (pv 0) (pa_cons (pe_callB call_len_seq (by rfl) T.len PySem.boot_len (pa_cons (pv 1) pa_nil)) pa_nil))) (fun _ _ => rfl))), ?_⟩
  subst eσ
  refine ⟨_, rfl, _, rfl, _, rfl, a, _, rfl, .inl (SqL.of ha), ?_⟩
  rw [List.length_map]
  refine ⟨p, _, rfl, hp, by omega, by omega, fun i H1 x1 i0 i1 => ?_⟩
  have ei : ((i.toNat : Nat) : Int) = i := by omega
  have hi : i.toNat < N.length := by omega
  refine ⟨a, _, i, .str (N[i.toNat]), rfl, rfl, SqL.of (x1.at ap ha), ?_, ?_⟩
  · have z := atI_nat (xs := N.map V.str) (j := i.toNat) (by rw [List.getElem?_map, List.getElem?_eq_getElem hi]; rfl)
    rw [ei] at z
    exact z
  · exact q _ H1 x1 (List.getElem_mem hi)
/-- a form that is drawn -/
theorem ok_form {f fD : Addr} {fd : FuncData} (F : Fun K "_law_form" "_law_form" sForm f fd) (T : Free mg) (mgF : mg "_law_form" = some (.ref f)) (hD : Has P w K mg base CX0 1 "_law_draw" fD ["_law_pool_here", "_law_many"] spDraw) :
    ∀ n : Nat, FnOk P w K mg base CX0 (n + 2) f fd ["_law_pool_here", "_law_words", "_law_deep"] (spFormL n) := by
  have bF : L2.Binds K fd ["_law_pool_here", "_law_words", "_law_deep"] [] := F.binds (ps := ["_law_pool_here", "_law_words", "_law_deep"]) fun _ _ _ _ _ _ us hl => match us, hl with | [_, _, _], _ => rfl
  intro n
  induction n with
  | zero =>
    refine F.ok scForm (fun vs H Q E h => ?_) (fun cdv A outer s H vs Q E hr h => ?_)
    · obtain ⟨p, a, N, d, rfl, _⟩ := h
      rfl
    · obtain ⟨p, a, N, d, rfl, hp, ap, ha, n0, n1, nm, dn, q⟩ := h
      refine ⟨_, pss_cons (ps_if (PW.pt (pw_or (pt_cmpR op_eq (pv 2) pe_int (nomark _)) (pw_or1 (pt_cmpR op_eq (pe_has hD hr (by rfl) pass0 (pa_cons (pv 0) (pa_cons pe_int pa_nil))) pe_int (nomark _)))))
        (fo_leaf (p := p) (a := a) (N := N) T hD hr) pss_nil) pss_never, ?_⟩
      have d0 : d = 0 := by omega
      subst d0
      refine ⟨_, rfl, rfl, _, rfl, iteT (iteT ?_)⟩
      exact ⟨_, _, rfl, hp, ap, ha, n0, n1, nm, fun z H1 x1 nz => q _ _ H1 x1 (.leaf z) (nm z nz) (by show 1 ≤ 0 + 1; omega) (fun y hy => by rw [show y = z from by simpa [Fm.lvs] using hy]; exact nz)⟩
  | succ n ih =>
    have hF : Has P w K mg base CX0 (n + 2) "_law_form" f ["_law_pool_here", "_law_words", "_law_deep"] (spFormL n) := ⟨mgF, F.kp, fd, ih, bF⟩
    refine F.ok scForm (fun vs H Q E h => ?_) (fun cdv A outer s H vs Q E hr h => ?_)
    · obtain ⟨p, a, N, d, rfl, _⟩ := h
      rfl
    · obtain ⟨p, a, N, d, rfl, hp, ap, ha, n0, n1, nm, dn, q⟩ := h
      refine ⟨_, pss_cons (ps_if (PW.pt (pw_or (pt_cmpR op_eq (pv 2) pe_int (nomark _)) (pw_or1 (pt_cmpR op_eq (pe_has hD (hr.mono (by omega)) (by rfl) pass0 (pa_cons (pv 0) (pa_cons pe_int pa_nil))) pe_int (nomark _)))))
        (fo_leaf (p := p) (a := a) (N := N) T hD (hr.mono (by omega))) pss_nil)
        (pss_cons (ps_set (i := 3) scForm.nd rfl (.inl rfl) (pe_ix ix_list (pe_lst (pa_cons pe_str (pa_cons pe_str (pa_cons pe_str (pa_cons pe_str pa_nil))))) (pe_has hD (hr.mono (by omega)) (by rfl) pass0 (pa_cons (pv 0) (pa_cons pe_int pa_nil))) (fun _ _ => rfl)))
        (pss_one (ps_ret (pe_tup (pa_cons (pv 3) (pa_cons (pe_has hF hr (by rfl) pass0 (pa_cons (pv 0) (pa_cons (pv 1) (pa_cons (pe_op op_sub (pv 2) pe_int) pa_nil)))) (pa_cons (pe_has hF hr (by rfl) pass0 (pa_cons (pv 0) (pa_cons (pv 1) (pa_cons (pe_op op_sub (pv 2) pe_int) pa_nil)))) pa_nil))))))), ?_⟩
      have leaf : ∀ H1, K1.Ext p H H1 → ∀ z H2, K1.Ext p H1 H2 → z ∈ N → Q (.str z) H2 := fun H1 x1 z H2 x2 nz => q _ _ H2 (x1.trans x2) (.leaf z) (nm z nz) (by show 1 ≤ d + 1; omega) (fun y hy => by rw [show y = z from by simpa [Fm.lvs] using hy]; exact nz)
      by_cases hd : d = 0
      · subst hd
        refine ⟨_, rfl, rfl, _, rfl, iteT (iteT ?_)⟩
        exact ⟨_, _, rfl, hp, ap, ha, n0, n1, nm, leaf H (.refl hp)⟩
      · refine ⟨_, rfl, rfl, _, rfl, ?_⟩
        rw [decide_eq_false (fun e => hd (by have := V.int.inj e; omega))]
        refine iteF ?_
        refine ⟨_, rfl, p, 3, rfl, hp, by decide, by decide, fun i H1 x1 i0 i1 => ⟨rfl, _, rfl, ?_⟩⟩
        refine ite2 (fun _ => ?_) (fun _ => ?_)
        · exact ⟨_, _, rfl, x1.pool, ap, x1.at ap ha, n0, n1, nm, leaf H1 x1⟩
        · refine ⟨(by show 4 ≤ sizeLine; decide), fun S nS => ?_⟩
          have Sp : S ≠ p := x1.pool.ne nS
          have x2 : K1.Ext p H (upd H1 S (.lst (signs.map V.str))) := x1.same (same_upd nS)
          refine ⟨_, rfl, p, 4, rfl, x2.pool, by decide, by decide, fun j H2 x3 j0 j1 => ?_⟩
          have hS : H2 S = some (.lst (signs.map V.str)) := x3.at Sp upd_same
          have x23 := x2.trans x3
          have ej : ((j.toNat : Nat) : Int) = j := by omega
          have hj : j.toNat < signs.length := by show j.toNat < 4; omega
          refine ⟨S, _, j, .str (signs[j.toNat]), rfl, rfl, SqL.of hS, ?_, ?_⟩
          · have z := atI_nat (xs := signs.map V.str) (j := j.toNat) (by rw [List.getElem?_map, List.getElem?_eq_getElem hj]; rfl)
            rw [ej] at z
            exact z
          have es : ((d - 1 : Nat) : Int) = (d : Int) - 1 := by omega
          refine ⟨_, rfl, _, rfl, _, rfl, _, rfl, _, _, rfl, rfl, ?_⟩
          refine ⟨p, a, N, d - 1, by rw [es]; rfl, x23.pool, ap, x23.at ap ha, n0, n1, nm, by omega, fun v1 t1 H3 x4 m1 ok1 d1 i1 => ?_⟩
          have x34 := x23.trans x4
          refine ⟨_, rfl, _, rfl, _, rfl, _, _, rfl, rfl, ?_⟩
          refine ⟨p, a, N, d - 1, by rw [es]; rfl, x34.pool, ap, x34.at ap ha, n0, n1, nm, by omega, fun v2 t2 H4 x5 m2 ok2 d2 i2 => ?_⟩
          have x45 := x34.trans x5
          refine ⟨(by show 3 ≤ sizeLine; decide), fun r nr => ?_⟩
          have s6 := same_upd (o := .tup [.str (signs[j.toNat]), v1, v2]) nr
          refine q (.ref r) (.node (signs[j.toNat]) t1 t2) _ (x45.same s6) (.node upd_same ((m1.keep (.ext x34.pool x5)).same s6) (m2.same s6)) ⟨List.getElem_mem hj, ok1, ok2⟩ ?_ ?_
          · rw [Fm.dep_node]
            omega
          · intro z hz
            rcases List.mem_append.mp hz with h | h
            · exact i1 z h
            · exact i2 z h
end
end K1

namespace K1
open PySem PySem.Spec
open PyProof.Rows L2 L2H EnT StX SmX TxS DuX XdI Tr3 CnB ClX
/-! ### the asks -/
abbrev tysO : List String := ["NoneType", "int", "str", "tuple"]
/-- a sign of Expression, refused -/
structure Op5 (P : Program) (w : World) (K : PySem.W.Frag) (mg : Str → Option Value) (base : Heap) (CE D CL CD CN : Addr) (op : Operator) (z : Str) : Prop where
  sf : PySem.W.selfFirst K CE = true
  r : PySem.W.findIn K (.ref CE) (dunderR op.info.2) = some none
  t : ∀ t ∈ tysO, OthT K CE op.info.2 t
  c : OthN K CE D op.info.2
  ex : ∃ g, OwnM K CE (PySem.dunder op.info.2) g ∧ FnR P w K mg base (L2.CX P w) 8 g (spOpX K CE CL CD CN z)
/-- what is known of the program -/
structure W5 (P : Program) (w : World) (K : PySem.W.Frag) (mg : Str → Option Value) (base : Heap) (CE D CF CT CL CD CN S1 S2 S3 : Addr) (mcE mcF : Value) : Prop where
  T : Free mg
  EK : ErrK K mg S1 S2 S3 CF CT CL CD CN
  rp : Rp P w K mg base CE D
  M : ExpC K mg CE
  MF : FacC K mg D
  I : IsC K CE
  IF : IsC K D
  nD : PySem.W.kitOne K (.ref D) (.ref CE) = some false
  mkE : ∃ fI, Mk K CE fI ∧ FnR P w K mg base CX0 22 fI (spInitE CE) ∧ FnR P w K mg base (L2.CX P w) 5 fI (spInitX CF CL CD)
  mkF : ∃ fF, Mk K D fF ∧ FnR P w K mg base (L2.CX P w) 4 fF (spInitFX K CE CN)
  rE : CRead K CE mcE
  rdE : ∃ p g, SMet K CE mcE "read" p g ∧ FnR P w K mg base (L2.CX P w) 7 g (spReadEX CT CL CD)
  rF : CRead K D mcF
  rdF : ∃ p g, SMet K D mcF "read" p g ∧ FnR P w K mg base CX0 26 g (spReadF CE D) ∧ FnR P w K mg base (L2.CX P w) 26 g (spReadFX CT CL CD)
  o1 : Op5 P w K mg base CE D CL CD CN .BitOr "|"
  o2 : Op5 P w K mg base CE D CL CD CN .BitAnd "&"
  o3 : Op5 P w K mg base CE D CL CD CN .Sub "-"
  o4 : Op5 P w K mg base CE D CL CD CN .BitXor "^"
  wi : ∃ g fd, Meth K CE "within" g ∧ FnOk P w K mg base (L2.CX P w) 6 g fd ["self", "other"] (spWithinX K CE CN) ∧ L2.Binds K fd ["self", "other"] []
  str : ∃ g, OwnM K CE "__str__" g ∧ FnR P w K mg base CX0 41 g (spStrE CE)
  pL : Pp P w K mg base CE "leaves" "_leaves"
  pD : Pp P w K mg base CE "depth" "_depth"
  hB : ∃ f, Has P w K mg base CX0 9 "_law_broad" f ["_law_leaves"] (spBroad 8)
  hT : ∃ f, Has P w K mg base CX0 1 "_law_tall" f ["_law_levels"] spTall
  hL : ∃ f, Has P w K mg base CX0 1 "_law_tall_line" f ["_law_levels"] spTallL
/-- what is known of the ask that catches, and of the lambdas' code -/
structure Asks5 (K : PySem.W.Frag) (mg : Str → Option Value) (base : Heap) (c Pt : Addr) : Prop where
  ex : ∃ g fd, mg "_law_caught" = some (.ref g) ∧ Fun K "_law_caught" "_law_caught" sCaught g fd
  tb : LamX.TabB base mg c Pt
section
variable {X : Cx} {CE D CF CT CL CD CN S1 S2 S3 : Addr} {mcE mcF : Value} {c Pt : Addr} {q : Str} {Tb : List (Addr × Str)}
theorem pe_ask5 (W : W5 X.prog X.w X.K X.mg X.base CE D CF CT CL CD CN S1 S2 S3 mcE mcF) (AK : Asks5 X.K X.mg X.base c Pt) (hgd : X.A.guards = some []) (hr : Room 45 X.A) (hcode : X.env.code = .ref c) (hgl : Gl X "_law_caught") (hq : X.env.qual ++ "<lambda>" = q) (hm : (Pt, q) ∈ Tb) (hu : ∀ p ∈ Tb, p.1 = Pt → p.2 = q) {params : Arguments} {body : Expr} {scope : Scope} {t : XK → TE} {np lpos pos : Pos}
    (L : LamX.LamS X.env.scope scope)
    (hbody : ∀ (A' : Around) (outer' : List Env) (s' : Shared) (H' : Hp) (E : XK) (f' c' : Addr), Room 43 (A'.deeper (LamX.lamEnv X scope s'.heap.objs.size f' c')) → PE (LamX.lamCx X A' outer' s' H' E scope f' c') body (t E))
    (hdef : defaultsOf params X.env = ([], []) := by rfl)
    (hbind : ∀ (q : Str) (cl : List (Str × Addr)) (pm cv ctv : Value), bindArgs (PySem.W.kla_fn "<lambda>" q params body scope cl pm cv ctv) ⟨[], []⟩ = pure [] := by intros; rfl) :
    PE X (.Call (.Name "_law_caught" np) [.Lambda params body scope lpos] [] pos) (LamX.tLam Tb (TTc (SV X.K CE D) CF CT CL CD CN) t) := by
  obtain ⟨g, fd, mgC, FC⟩ := AK.ex
  obtain ⟨oc, od, kV, doc, pm, an, cdv', ct, osl, efd, lk, hcd⟩ := FC.ex
  subst efd
  have hun := hr.un
  have hdp := hr.dp
  have bC : L2.Binds X.K (PySem.W.fnOf "_law_caught" "_law_caught" (defArgs sCaught) (defBody sCaught) (defScope sCaught) .none kV doc pm an cdv' ct) ["_law_ask"] [] := FC.binds (ps := ["_law_ask"]) fun _ _ _ _ _ _ us hl => match us, hl with | [_], _ => rfl
  subst hq
  exact LamX.pe_lamcall (X := X) (T := Tb) (TT := TTc (SV X.K CE D) CF CT CL CD CN) (k := 43) (Ng := nmCaught) (a := "_law_ask") (c := c) (P := Pt) hgl mgC FC.kp lk hcd bC scCaught (by rfl) (.inl rfl)
    (caught_gives (X := X) (by exact hgd) (by omega) W.T W.EK (fun H H' v x s h => h.same s)
      (fun s' H' a oe pn => call_reprH (p := (a, oe)) W.rp (by exact hgd) ⟨by
        show X.A.depth + 1 + 3 * 5 + 5 < recursionLimit
        omega, by
        show X.A.units + 3 + 16 * 5 + 200 < cLine
        omega⟩ (by exact List.mem_cons_self)))
    AK.tb hcode hm hu hr L hdef hbind hbody
end
/-- the five errors' names and attributes -/
def Nm5 (CF CT CL CD CN C : Addr) (nm attr : Str) : Prop := (C = CF ∧ nm = "InvalidForm" ∧ attr = "value") ∨ (C = CT ∧ nm = "InvalidText" ∧ attr = "value") ∨ (C = CL ∧ nm = "TooManyLeaves" ∧ attr = "limit") ∨ (C = CD ∧ nm = "TooManyLevels" ∧ attr = "limit") ∨ (C = CN ∧ nm = "NotAnExpression" ∧ attr = "value")
/-- what an ask tells of an error -/
theorem ask_err5 {K : PySem.W.Frag} {CE D CF CT CL CD CN : Addr} {Tb : List (Addr × Str)} {p : Addr} {t : XK → TE} {σ : L2.St} {H : Hp} {Q : VK} {v : V} {x nm attr : Str} {C : Addr} (hp : PoolAt H p) (hT : LamX.Tabs Tb H) (hs : ∀ H', Mv p Tb H H' → SV K CE D H' v x)
    (hc : Nm5 CF CT CL CD CN C nm attr) (ht : ∀ (H1 : Hp) (Q' : VK) (E : XK), Mv p Tb H H1 → ErrAt C attr v H1 E → t E σ H1 Q')
    (q : ∀ (r : Addr) (H' : Hp), Mv p Tb H H' → H' r = some (.lst ([nm, x].map V.str)) → Q (.ref r) H') :
    LamX.tLam Tb (TTc (SV K CE D) CF CT CL CD CN) t σ H Q := by
  refine ⟨hT, fun H1 eN T1 Q' => ?_⟩
  have m1 : Mv p Tb H H1 := .lam eN hp T1
  refine ht H1 _ _ m1 fun e H2 s2 ne => ?_
  have m2 : Mv p Tb H (upd H2 e (.xd [(attr, v)])) := m1.trans (.same (s2.trans (same_upd ne)) m1.rx.pool m1.tabs)
  refine .inl ⟨e, v, x, nm, rfl, hs _ m2, ?_, fun r H3 nr s3 hr => q r H3 (m2.trans (.same s3 m2.rx.pool m2.tabs)) hr⟩
  rcases hc with ⟨rfl, rfl, rfl⟩ | ⟨rfl, rfl, rfl⟩ | ⟨rfl, rfl, rfl⟩ | ⟨rfl, rfl, rfl⟩ | ⟨rfl, rfl, rfl⟩
  · exact .inl ⟨rfl, rfl, upd_same⟩
  · exact .inr (.inl ⟨rfl, rfl, upd_same⟩)
  · exact .inr (.inr (.inl ⟨rfl, rfl, upd_same⟩))
  · exact .inr (.inr (.inr (.inl ⟨rfl, rfl, upd_same⟩)))
  · exact .inr (.inr (.inr (.inr ⟨rfl, rfl, upd_same⟩)))
/-- a sign with whatever stands at its right -/
def rB5 (K : PySem.W.Frag) (CE D CL CD CN : Addr) (z : Str) (E : XK) : R2 := fun x y H Q => rBinT K CE tysO (spOpX K CE CL CD CN z) E x y H Q ∨ rBinD K CE D (spOpX K CE CL CD CN z) E x y H Q ∨ rBinO CE (spOpX K CE CL CD CN z) E x y H Q
theorem op_b5 {X : Cx} {CE D CL CD CN : Addr} {op : Operator} {z : Str} {E : XK} (O : Op5 X.prog X.w X.K X.mg X.base CE D CL CD CN op z) (hr : Room 8 X.A) (hx : Passes (L2.CX X.prog X.w) X E) : OpR X (binaryOp op) (rB5 X.K CE D CL CD CN z E) := by
  obtain ⟨g, m, F⟩ := O.ex
  intro pins s σ H x y v u Q Iv rx ry h
  rcases h with h | h | h
  · exact op_binT m O.sf O.r O.t F hr hx pins s σ H x y v u Q Iv rx ry h
  · exact op_binN m O.sf O.r O.c F hr hx pins s σ H x y v u Q Iv rx ry h
  · exact op_binO m O.sf F hr hx pins s σ H x y v u Q Iv rx ry h
/-- both are expressions, together too large -/
theorem b5_lim {K : PySem.W.Frag} {CE D CL CD CN a b : Addr} {z : Str} {t u : Fm} {H : Hp} {Q : VK} {E : XK} (m1 : ExpAt CE H a t) (m2 : ExpAt CE H b u) (q : LimE CL CD (.node z t u) H E) : rB5 K CE D CL CD CN z E (.ref a) (.ref b) H Q := by
  obtain ⟨dx, v, fl, ys, h1, _⟩ := m1.at_
  obtain ⟨dy, v', fl', ys', h2, _⟩ := m2.at_
  exact .inr (.inr ⟨a, dx, _, b, dy, _, rfl, rfl, h1, h2, a, .ref b, t, rfl, m1, .inr ⟨b, u, rfl, m2, q⟩⟩)
end K1

namespace K1
open PySem PySem.Spec
open PyProof.Rows L2 L2H EnT StX SmX TxS DuX XdI Tr3 CnB ClX
/-! ### at the limits and beyond: the asks -/
abbrev nmLi : List Str := ["_law_wide", "_law_tall_here", "_law_broad_here", "_law_deep", "_law_told", "_law_leaves", "_law_levels"]
theorem scLi : FnScope nmLi ["_law_wide", "_law_tall_here"] (defScope s_L_limits_right) := ⟨rfl, rfl, rfl, by decide +kernel, rfl, by decide +kernel, by decide +kernel⟩
abbrev cxL (P : Program) (w : World) (K : PySem.W.Frag) (mg : Str → Option Value) (base : Heap) (f : Addr) (cdv : Value) (A : Around) (outer : List Env) (s : Shared) (H : Hp) : Cx := (cxOf CX0 P w K mg base nmLi "_law_limits_right" (defScope s_L_limits_right) f cdv A outer s H E0).nox
def liRest (i : Nat) : List Stmt := (defBody s_L_limits_right).drop i
def lamL : Str := (envOfC "_law_limits_right" (defScope s_L_limits_right) 0 0 .none).qual ++ "<lambda>"
def lamR : Str := (envOfC "_law_right" (defScope sRight) 0 0 .none).qual ++ "<lambda>"
abbrev Tb5 (PL PR : Addr) : List (Addr × Str) := [(PL, lamL), (PR, lamR)]
theorem tb_L {PL PR : Addr} (h : PL ≠ PR) : ∀ p ∈ Tb5 PL PR, p.1 = PL → p.2 = lamL := fun p hp e => by
  simp only [List.mem_cons, List.not_mem_nil, or_false] at hp
  rcases hp with rfl | rfl
  · rfl
  · exact absurd e.symm h
theorem tb_R {PL PR : Addr} (h : PL ≠ PR) : ∀ p ∈ Tb5 PL PR, p.1 = PR → p.2 = lamR := fun p hp e => by
  simp only [List.mem_cons, List.not_mem_nil, or_false] at hp
  rcases hp with rfl | rfl
  · exact absurd e h
  · rfl
abbrev yL : List Str := ["TooManyLeaves", "200"]
abbrev yD : List Str := ["TooManyLevels", "20"]
abbrev YYL : List (List Str) := [yL, yD, yL, yD, yL, yD, yL, yL, yD, yL]
theorem Mv.upd5 {p t : Addr} {Tb : List (Addr × Str)} {HS H : Hp} {as : List Addr} {o : HO} (m : Mv p Tb HS H) (n : HS t = none) (ht : H t = some (.lst (as.map V.ref))) : Mv p Tb HS (upd H t o) := by
  refine ⟨⟨?_, fun b o' nb e nt => ?_⟩, tabs_upd ht m.tabs⟩
  · obtain ⟨x, y, z, e⟩ := m.rx.pool
    exact ⟨x, y, z, upd_keep ht e fun q => refs_nopool x y z q.symm⟩
  · rw [upd_ne (fun k => by rw [k, n] at e; cases e)]
    exact m.rx.keep b o' nb e nt
/-- what ends well -/
def Fin5 (p : Addr) (Tb : List (Addr × Str)) (H : Hp) (D : Ends) : Prop := ∀ H', Mv p Tb H H' → D.rt (.bl true) H'
/-- before the n-th ask -/
structure AtLi (p PL PR : Addr) (n : Nat) (σ : L2.St) (H : Hp) (En : Ends) : Prop where
  ex : ∃ (tl : Addr) (as : List Addr) (HS : Hp) (x0 x1 x2 x3 x5 x6 : Option V), σ = [x0, x1, x2, x3, some (.ref tl), x5, x6] ∧ PoolAt H p ∧ LamX.Tabs (Tb5 PL PR) H ∧ H tl = some (.lst (as.map V.ref)) ∧ 1 ≤ n ∧ n ≤ 10 ∧ Lists H as (YYL.take n) ∧ Mv p (Tb5 PL PR) HS H ∧ HS tl = none ∧ Fin5 p (Tb5 PL PR) HS En
theorem sv200 {K : PySem.W.Frag} {CE D : Addr} {H : Hp} : SV K CE D H (.int 200) "200" := by
  have e : (PyData.int 200).shown = ("200" : Str) := by decide +kernel
  rw [← e]
  exact .dat (.inl ⟨.int _, .of rfl (by decide) (by decide)⟩)
theorem sv20 {K : PySem.W.Frag} {CE D : Addr} {H : Hp} : SV K CE D H (.int 20) "20" := by
  have e : (PyData.int 20).shown = ("20" : Str) := by decide +kernel
  rw [← e]
  exact .dat (.inl ⟨.int _, .of rfl (by decide) (by decide)⟩)
section
variable {K : PySem.W.Frag} {CE D CF CT CL CD CN PL PR p : Addr} {t : XK → TE} {σ : L2.St} {H : Hp} {Q : VK}
theorem ask_L (hp : PoolAt H p) (hT : LamX.Tabs (Tb5 PL PR) H) (ht : ∀ (H1 : Hp) (Q' : VK) (E : XK), ErrAt CL "limit" (.int 200) H1 E → t E σ H1 Q')
    (q : ∀ (r : Addr) (H' : Hp), Mv p (Tb5 PL PR) H H' → H' r = some (.lst (yL.map V.str)) → Q (.ref r) H') : LamX.tLam (Tb5 PL PR) (TTc (SV K CE D) CF CT CL CD CN) t σ H Q :=
  ask_err5 hp hT (v := .int 200) (x := "200") (fun _ _ => sv200) (.inr (.inr (.inl ⟨rfl, rfl, rfl⟩))) (fun H1 Q' E _ e => ht H1 Q' E e) q
theorem ask_D (hp : PoolAt H p) (hT : LamX.Tabs (Tb5 PL PR) H) (ht : ∀ (H1 : Hp) (Q' : VK) (E : XK), ErrAt CD "limit" (.int 20) H1 E → t E σ H1 Q')
    (q : ∀ (r : Addr) (H' : Hp), Mv p (Tb5 PL PR) H H' → H' r = some (.lst (yD.map V.str)) → Q (.ref r) H') : LamX.tLam (Tb5 PL PR) (TTc (SV K CE D) CF CT CL CD CN) t σ H Q :=
  ask_err5 hp hT (v := .int 20) (x := "20") (fun _ _ => sv20) (.inr (.inr (.inr (.inl ⟨rfl, rfl, rfl⟩)))) (fun H1 Q' E _ e => ht H1 Q' E e) q
end
theorem b200 : (bro 8 200).Ok ∧ (bro 8 200).nl = 200 ∧ (bro 8 200).dep ≤ 9 := bro_is 8 200 (by decide) (by decide)
theorem b201 : (bro 8 201).Ok ∧ (bro 8 201).nl = 201 ∧ (bro 8 201).dep ≤ 9 := bro_is 8 201 (by decide) (by decide)
section
variable {w : World} {P : Program} {base : Heap} {mg : Str → Option Value} {K : PySem.W.Frag} {CE D CF CT CL CD CN S1 S2 S3 : Addr} {mcE mcF : Value}
variable {f c PL PR : Addr} {A : Around} {outer : List Env} {s : Shared} {H0 : Hp} {p : Addr}
/-- an ask that appends what it is told -/
theorem li_seg {n : Nat} {t : XK → TE} {params : Arguments} {body : Expr} {scope : Scope} {np lpos pos : Pos} {rest : List Stmt} {p1 p2 p3 p4 : Pos} (hn : n + 1 ≤ 10) (he : PE (cxL P w K mg base f (.ref c) A outer s H0) (.Call (.Name "_law_caught" np) [.Lambda params body scope lpos] [] pos) (LamX.tLam (Tb5 PL PR) (TTc (SV K CE D) CF CT CL CD CN) t))
    (hrest : PSs (cxL P w K mg base f (.ref c) A outer s H0) rest (fun En σ H => AtLi p PL PR (n + 1) σ H En))
    (told : ∀ (σ : L2.St) (H : Hp) (Q : VK) (y : List Str), YYL[n]? = some y → PoolAt H p → LamX.Tabs (Tb5 PL PR) H → (∀ (r : Addr) (H' : Hp), Mv p (Tb5 PL PR) H H' → H' r = some (.lst (y.map V.str)) → Q (.ref r) H') →
      LamX.tLam (Tb5 PL PR) (TTc (SV K CE D) CF CT CL CD CN) t σ H Q)
    (hline : (p2.endLine == p3.line) = true := by rfl) :
    PSs (cxL P w K mg base f (.ref c) A outer s H0) (.Expr (.Call (.Attribute (.Name "_law_told" p1) "append" p2) [(.Call (.Name "_law_caught" np) [.Lambda params body scope lpos] [] pos)] [] p3) p4 :: rest) (fun En σ H => AtLi p PL PR n σ H En) := by
  refine pss_of fun En σ H hyp => ?_
  obtain ⟨tl, as, HS, x0, x1, x2, x3, x5, x6, eσ, hp, hT, ht, h1, h3, ll, mS, nS, fin⟩ := hyp.ex
  refine ⟨_, pss_cons (ps_expr (pe_bm PySem.F.plainAttrs_list PySem.F.slot_list_append PySem.F.type_list_append mt_append (pv 4) (pa_cons he pa_nil) (hline := hline))) hrest, ?_⟩
  subst eσ
  have hl : as.length = n := by
    rw [ll.len, List.length_take]
    show min n 10 = n
    omega
  obtain ⟨y, hy⟩ : ∃ y, YYL[n]? = some y := ⟨YYL[n]'(by show n < 10; omega), List.getElem?_eq_getElem _⟩
  refine ⟨_, rfl, .inl ⟨rfl, _, SqL.of ht⟩, told _ H _ y hy hp hT fun r H3 m3 hr => ?_⟩
  have t3 : H3 tl = some (.lst (as.map V.ref)) := m3.at hp ht refs_nopool (fun _ e => by cases e)
  have hne : as ≠ [] := fun e => by rw [e] at hl; simp at hl; omega
  refine ⟨tl, _, _, rfl, rfl, t3, by rw [List.length_map, hl, sizeLine_eq]; omega, ?_⟩
  have m4 := (mS.trans m3).upd5 (o := .lst (as.map V.ref ++ [V.ref r])) nS t3
  refine ⟨tl, as ++ [r], HS, _, _, _, _, _, _, rfl, m4.rx.pool, m4.tabs, by rw [upd_same, List.map_append]; rfl, by omega, hn, ?_, m4, nS, fin⟩
  rw [List.take_add_one, hy]
  exact ((ll.mv m3 hp).set t3 hne).snoc (upd_keep t3 hr (strs_refs hne))
end
end K1

namespace K1
open PySem PySem.Spec
open PyProof.Rows L2 L2H EnT StX SmX TxS DuX ClX XdI Tr3 CnB
section
variable {w : World} {P : Program} {base : Heap} {mg : Str → Option Value} {K : PySem.W.Frag} {CE D CF CT CL CD CN S1 S2 S3 : Addr} {mcE mcF : Value}
variable {f c PL PR : Addr} {A : Around} {outer : List Env} {s : Shared} {H0 : Hp} {p : Addr}
theorem li11 (W : W5 P w K mg base CE D CF CT CL CD CN S1 S2 S3 mcE mcF) (AK : Asks5 K mg base c PL) (hne : PL ≠ PR) (hgd : A.guards = some []) (hr : Room 45 (A.deeper (envOfC "_law_limits_right" (defScope s_L_limits_right) s.heap.objs.size f (.ref c))))
    (h12 : PSs (cxL P w K mg base f (.ref c) A outer s H0) (liRest 12) (fun En σ H => AtLi p PL PR 10 σ H En)) :
    PSs (cxL P w K mg base f (.ref c) A outer s H0) (liRest 11) (fun En σ H => AtLi p PL PR 9 σ H En) := by
  obtain ⟨fB, hB⟩ := W.hB
  obtain ⟨fT, hT⟩ := W.hT
  obtain ⟨fL, hL⟩ := W.hL
  obtain ⟨fI, MK, FI, FX⟩ := W.mkE
  obtain ⟨pE, gE, sE, FE⟩ := W.rdE
  obtain ⟨pF, gF, sF, _, FFX⟩ := W.rdF
  refine li_seg (by decide) (pe_ask5 (X := cxL P w K mg base f (.ref c) A outer s H0) W AK (by exact hgd) (by exact hr) rfl (by rfl) (q := lamL) rfl List.mem_cons_self (tb_L hne) (t := fun E => tOp (rB5 K CE D CL CD CN "&" E) (tMakeR CE (spInitE CE) E0 (tCons (tCall (spBroad 8) [] E0 (tCons (tC (.int 200)) tNil)) tNil)) (tMakeR CE (spInitE CE) E0 (tCons (tCall spTall [] E0 (tCons (tC (.int 20)) tNil)) tNil))) (LamX.lamS_by (sc := defScope s_L_limits_right) (by decide +kernel))
    (fun A' outer' s' H' E f' c' hr' => ?he)) h12 ?_
  case he =>
    exact pe_op (op_b5 W.o2 (hr'.mono (by decide)) (passes_call (takes_of rfl rfl rfl rfl) fun _ _ _ _ h => h)) (pe_makeR MK FI (hr'.mono (by decide)) (by rfl) W.M.g pass0 (pa_cons (pe_has hB (hr'.mono (by decide)) (by rfl) pass0 (pa_cons pe_int pa_nil)) pa_nil)) (pe_makeR MK FI (hr'.mono (by decide)) (by rfl) W.M.g pass0 (pa_cons (pe_has hT (hr'.mono (by decide)) (by rfl) pass0 (pa_cons pe_int pa_nil)) pa_nil))
  intro σ H Q y hy hp hTb q
  cases hy
  refine ask_L hp hTb (fun H1 Q' E eE => ?_) q
  obtain ⟨ok, nl, dp⟩ := b200
  obtain ⟨ok', nl', dp'⟩ := tal_is 19
  refine ⟨200, rfl, by decide, by decide, by decide, fun v H2 s2 m2 => ?_⟩
  refine fun a xa na nxa nea => makeE_at m2 ok (by omega) (by omega) na nxa nea fun H3 s3 e1 => ⟨rfl, ?_⟩
  refine ⟨20, rfl, by decide, by decide, fun u H4 s4 m4 => ?_⟩
  refine fun b xb nb nxb neb => makeE_at m4 ok' (by show (tal 19).dep ≤ 20; omega) (by show (tal 19).nl ≤ 200; omega) nb nxb neb fun H5 s5 e2 => ⟨rfl, ?_⟩
  have e3 : tal (20 - 1) = tal 19 := rfl
  exact b5_lim ((e1.same s4).same s5) e2 (.inl ⟨by rw [Fm.nl_node, e3, nl', nl]; decide, eE.same (s2.trans (s3.trans (s4.trans s5)))⟩)
theorem li10 (W : W5 P w K mg base CE D CF CT CL CD CN S1 S2 S3 mcE mcF) (AK : Asks5 K mg base c PL) (hne : PL ≠ PR) (hgd : A.guards = some []) (hr : Room 45 (A.deeper (envOfC "_law_limits_right" (defScope s_L_limits_right) s.heap.objs.size f (.ref c))))
    (h12 : PSs (cxL P w K mg base f (.ref c) A outer s H0) (liRest 12) (fun En σ H => AtLi p PL PR 10 σ H En)) :
    PSs (cxL P w K mg base f (.ref c) A outer s H0) (liRest 10) (fun En σ H => AtLi p PL PR 8 σ H En) := by
  obtain ⟨fB, hB⟩ := W.hB
  obtain ⟨fT, hT⟩ := W.hT
  obtain ⟨fL, hL⟩ := W.hL
  obtain ⟨fI, MK, FI, FX⟩ := W.mkE
  obtain ⟨pE, gE, sE, FE⟩ := W.rdE
  obtain ⟨pF, gF, sF, _, FFX⟩ := W.rdF
  refine li_seg (by decide) (pe_ask5 (X := cxL P w K mg base f (.ref c) A outer s H0) W AK (by exact hgd) (by exact hr) rfl (by rfl) (q := lamL) rfl List.mem_cons_self (tb_L hne) (t := fun E => tOp (rB5 K CE D CL CD CN "^" E) (tMakeR CE (spInitE CE) E0 (tCons (tC (.str "a")) tNil)) (tMakeR CE (spInitE CE) E0 (tCons (tCall spTall [] E0 (tCons (tC (.int 20)) tNil)) tNil))) (LamX.lamS_by (sc := defScope s_L_limits_right) (by decide +kernel))
    (fun A' outer' s' H' E f' c' hr' => ?he)) (li11 (p := p) W AK hne hgd hr h12) ?_
  case he =>
    exact pe_op (op_b5 W.o4 (hr'.mono (by decide)) (passes_call (takes_of rfl rfl rfl rfl) fun _ _ _ _ h => h)) (pe_makeR MK FI (hr'.mono (by decide)) (by rfl) W.M.g pass0 (pa_cons pe_str pa_nil)) (pe_makeR MK FI (hr'.mono (by decide)) (by rfl) W.M.g pass0 (pa_cons (pe_has hT (hr'.mono (by decide)) (by rfl) pass0 (pa_cons pe_int pa_nil)) pa_nil))
  intro σ H Q y hy hp hTb q
  cases hy
  refine ask_D hp hTb (fun H1 Q' E eE => ?_) q
  obtain ⟨ok', nl', dp'⟩ := tal_is 19
  refine fun a xa na nxa nea => makeE_at (.leaf _) ok_fA (by decide) (by decide) na nxa nea fun H2 s2 e1 => ⟨rfl, ?_⟩
  refine ⟨20, rfl, by decide, by decide, fun v H3 s3 m3 => ?_⟩
  refine fun b xb nb nxb neb => makeE_at m3 ok' (by show (tal 19).dep ≤ 20; omega) (by show (tal 19).nl ≤ 200; omega) nb nxb neb fun H4 s4 e2 => ⟨rfl, ?_⟩
  have e3 : tal (20 - 1) = tal 19 := rfl
  exact b5_lim ((e1.same s3).same s4) e2 (.inr ⟨by rw [Fm.nl_node, e3, nl']; decide, by rw [Fm.dep_node, e3, dp']; decide, eE.same (s2.trans (s3.trans s4))⟩)
theorem li9 (W : W5 P w K mg base CE D CF CT CL CD CN S1 S2 S3 mcE mcF) (AK : Asks5 K mg base c PL) (hne : PL ≠ PR) (hgd : A.guards = some []) (hr : Room 45 (A.deeper (envOfC "_law_limits_right" (defScope s_L_limits_right) s.heap.objs.size f (.ref c))))
    (h12 : PSs (cxL P w K mg base f (.ref c) A outer s H0) (liRest 12) (fun En σ H => AtLi p PL PR 10 σ H En)) :
    PSs (cxL P w K mg base f (.ref c) A outer s H0) (liRest 9) (fun En σ H => AtLi p PL PR 7 σ H En) := by
  obtain ⟨fB, hB⟩ := W.hB
  obtain ⟨fT, hT⟩ := W.hT
  obtain ⟨fL, hL⟩ := W.hL
  obtain ⟨fI, MK, FI, FX⟩ := W.mkE
  obtain ⟨pE, gE, sE, FE⟩ := W.rdE
  obtain ⟨pF, gF, sF, _, FFX⟩ := W.rdF
  refine li_seg (by decide) (pe_ask5 (X := cxL P w K mg base f (.ref c) A outer s H0) W AK (by exact hgd) (by exact hr) rfl (by rfl) (q := lamL) rfl List.mem_cons_self (tb_L hne) (t := fun E => tOp (rB5 K CE D CL CD CN "|" E) (tMakeR CE (spInitE CE) E0 (tCons (tCall (spBroad 8) [] E0 (tCons (tC (.int 200)) tNil)) tNil)) (tMakeR CE (spInitE CE) E0 (tCons (tC (.str "a")) tNil))) (LamX.lamS_by (sc := defScope s_L_limits_right) (by decide +kernel))
    (fun A' outer' s' H' E f' c' hr' => ?he)) (li10 (p := p) W AK hne hgd hr h12) ?_
  case he =>
    exact pe_op (op_b5 W.o1 (hr'.mono (by decide)) (passes_call (takes_of rfl rfl rfl rfl) fun _ _ _ _ h => h)) (pe_makeR MK FI (hr'.mono (by decide)) (by rfl) W.M.g pass0 (pa_cons (pe_has hB (hr'.mono (by decide)) (by rfl) pass0 (pa_cons pe_int pa_nil)) pa_nil)) (pe_makeR MK FI (hr'.mono (by decide)) (by rfl) W.M.g pass0 (pa_cons pe_str pa_nil))
  intro σ H Q y hy hp hTb q
  cases hy
  refine ask_L hp hTb (fun H1 Q' E eE => ?_) q
  obtain ⟨ok', nl', dp'⟩ := b200
  refine ⟨200, rfl, by decide, by decide, by decide, fun v H2 s2 m2 => ?_⟩
  refine fun a xa na nxa nea => makeE_at m2 ok' (by omega) (by omega) na nxa nea fun H3 s3 e1 => ⟨rfl, ?_⟩
  refine fun b xb nb nxb neb => makeE_at (.leaf _) ok_fA (by decide) (by decide) nb nxb neb fun H4 s4 e2 => ⟨rfl, ?_⟩
  exact b5_lim (e1.same s4) e2 (.inl ⟨by rw [Fm.nl_node, nl']; decide, eE.same (s2.trans (s3.trans s4))⟩)
theorem li8 (W : W5 P w K mg base CE D CF CT CL CD CN S1 S2 S3 mcE mcF) (AK : Asks5 K mg base c PL) (hne : PL ≠ PR) (hgd : A.guards = some []) (hr : Room 45 (A.deeper (envOfC "_law_limits_right" (defScope s_L_limits_right) s.heap.objs.size f (.ref c))))
    (h12 : PSs (cxL P w K mg base f (.ref c) A outer s H0) (liRest 12) (fun En σ H => AtLi p PL PR 10 σ H En)) :
    PSs (cxL P w K mg base f (.ref c) A outer s H0) (liRest 8) (fun En σ H => AtLi p PL PR 6 σ H En) := by
  obtain ⟨fB, hB⟩ := W.hB
  obtain ⟨fT, hT⟩ := W.hT
  obtain ⟨fL, hL⟩ := W.hL
  obtain ⟨fI, MK, FI, FX⟩ := W.mkE
  obtain ⟨pE, gE, sE, FE⟩ := W.rdE
  obtain ⟨pF, gF, sF, _, FFX⟩ := W.rdF
  refine li_seg (by decide) (pe_ask5 (X := cxL P w K mg base f (.ref c) A outer s H0) W AK (by exact hgd) (by exact hr) rfl (by rfl) (q := lamL) rfl List.mem_cons_self (tb_L hne) (t := fun E => tSMeth D (spReadFX CT CL CD) E (tC (.ref D)) (tCons (tOp (fun x y H Q => ∃ i j, x = V.str i ∧ y = V.str j ∧ i.length + j.length ≤ sizeLine ∧ Q (V.str (i ++ j)) H) (tOp (fun x y H Q => ∃ i j, x = V.str i ∧ y = V.str j ∧ i.length + j.length ≤ sizeLine ∧ Q (V.str (i ++ j)) H) (tCall spTallL [] E0 (tCons (tC (.int 21)) tNil)) (tC (.str " <= "))) (tCall spTallL [] E0 (tCons (tC (.int 210)) tNil))) tNil)) (LamX.lamS_by (sc := defScope s_L_limits_right) (by decide +kernel))
    (fun A' outer' s' H' E f' c' hr' => ?he)) (li9 (p := p) W AK hne hgd hr h12) ?_
  case he =>
    exact pe_smeth (pe_glob (v := .ref D) (by rfl) W.MF.g rfl) W.rF sF FFX (hr'.mono (by decide)) (passes_call (takes_of rfl rfl rfl rfl) fun _ _ _ _ h => h) (pa_cons (pe_op op_add_str (pe_op op_add_str (pe_has hL (hr'.mono (by decide)) (by rfl) pass0 (pa_cons pe_int pa_nil)) pe_str) (pe_has hL (hr'.mono (by decide)) (by rfl) pass0 (pa_cons pe_int pa_nil))) pa_nil)
  intro σ H Q y hy hp hTb q
  cases hy
  refine ask_L hp hTb (fun H1 Q' E eE => ?_) q
  obtain ⟨ok, nl, dp⟩ := tal_is 20
  obtain ⟨ok', nl', dp'⟩ := tal_is 209
  have lx := txt_len false (tal 20) ok
  have ly := txt_len false (tal 209) ok'
  have ea : (" <= " : Str).length = 4 := by decide +kernel
  have e2 : tal (21 - 1) = tal 20 := rfl
  have e3 : tal (210 - 1) = tal 209 := rfl
  refine ⟨rfl, 21, rfl, by decide, by decide, _, _, rfl, rfl, by rw [e2, sizeLine_eq]; omega, 210, rfl, by decide, by decide, _, _, rfl, rfl, by rw [e2, e3, strLen_append, sizeLine_eq]; omega, _, rfl, .inr ⟨tal 20, tal 209, rfl, ok, ok', by omega, by omega, .inl ⟨by omega, eE⟩⟩⟩
theorem li7 (W : W5 P w K mg base CE D CF CT CL CD CN S1 S2 S3 mcE mcF) (AK : Asks5 K mg base c PL) (hne : PL ≠ PR) (hgd : A.guards = some []) (hr : Room 45 (A.deeper (envOfC "_law_limits_right" (defScope s_L_limits_right) s.heap.objs.size f (.ref c))))
    (h12 : PSs (cxL P w K mg base f (.ref c) A outer s H0) (liRest 12) (fun En σ H => AtLi p PL PR 10 σ H En)) :
    PSs (cxL P w K mg base f (.ref c) A outer s H0) (liRest 7) (fun En σ H => AtLi p PL PR 5 σ H En) := by
  obtain ⟨fB, hB⟩ := W.hB
  obtain ⟨fT, hT⟩ := W.hT
  obtain ⟨fL, hL⟩ := W.hL
  obtain ⟨fI, MK, FI, FX⟩ := W.mkE
  obtain ⟨pE, gE, sE, FE⟩ := W.rdE
  obtain ⟨pF, gF, sF, _, FFX⟩ := W.rdF
  refine li_seg (by decide) (pe_ask5 (X := cxL P w K mg base f (.ref c) A outer s H0) W AK (by exact hgd) (by exact hr) rfl (by rfl) (q := lamL) rfl List.mem_cons_self (tb_L hne) (t := fun E => tSMeth D (spReadFX CT CL CD) E (tC (.ref D)) (tCons (tOp (fun x y H Q => ∃ i j, x = V.str i ∧ y = V.str j ∧ i.length + j.length ≤ sizeLine ∧ Q (V.str (i ++ j)) H) (tC (.str "a <= ")) (tCall spTallL [] E0 (tCons (tC (.int 21)) tNil))) tNil)) (LamX.lamS_by (sc := defScope s_L_limits_right) (by decide +kernel))
    (fun A' outer' s' H' E f' c' hr' => ?he)) (li8 (p := p) W AK hne hgd hr h12) ?_
  case he =>
    exact pe_smeth (pe_glob (v := .ref D) (by rfl) W.MF.g rfl) W.rF sF FFX (hr'.mono (by decide)) (passes_call (takes_of rfl rfl rfl rfl) fun _ _ _ _ h => h) (pa_cons (pe_op op_add_str pe_str (pe_has hL (hr'.mono (by decide)) (by rfl) pass0 (pa_cons pe_int pa_nil))) pa_nil)
  intro σ H Q y hy hp hTb q
  cases hy
  refine ask_D hp hTb (fun H1 Q' E eE => ?_) q
  obtain ⟨ok, nl, dp⟩ := tal_is 20
  have lx := txt_len false (tal 20) ok
  have ea : ("a <= " : Str).length = 5 := by decide +kernel
  have e : ("a <= " : Str) ++ (tal 20).txt false = facText fA (tal 20) := by
    have e1 : ("a <= " : Str) = ("a" : Str) ++ tLe := by decide +kernel
    rw [e1]
    rfl
  have e2 : tal (21 - 1) = tal 20 := rfl
  refine ⟨rfl, 21, rfl, by decide, by decide, _, _, rfl, rfl, by rw [e2, sizeLine_eq]; omega, _, rfl, .inr ⟨fA, tal 20, congrArg V.str e, ok_fA, ok, by decide, by omega, .inr ⟨by decide, by omega, by omega, by omega, eE⟩⟩⟩
theorem li6 (W : W5 P w K mg base CE D CF CT CL CD CN S1 S2 S3 mcE mcF) (AK : Asks5 K mg base c PL) (hne : PL ≠ PR) (hgd : A.guards = some []) (hr : Room 45 (A.deeper (envOfC "_law_limits_right" (defScope s_L_limits_right) s.heap.objs.size f (.ref c))))
    (h12 : PSs (cxL P w K mg base f (.ref c) A outer s H0) (liRest 12) (fun En σ H => AtLi p PL PR 10 σ H En)) :
    PSs (cxL P w K mg base f (.ref c) A outer s H0) (liRest 6) (fun En σ H => AtLi p PL PR 4 σ H En) := by
  obtain ⟨fB, hB⟩ := W.hB
  obtain ⟨fT, hT⟩ := W.hT
  obtain ⟨fL, hL⟩ := W.hL
  obtain ⟨fI, MK, FI, FX⟩ := W.mkE
  obtain ⟨pE, gE, sE, FE⟩ := W.rdE
  obtain ⟨pF, gF, sF, _, FFX⟩ := W.rdF
  refine li_seg (by decide) (pe_ask5 (X := cxL P w K mg base f (.ref c) A outer s H0) W AK (by exact hgd) (by exact hr) rfl (by rfl) (q := lamL) rfl List.mem_cons_self (tb_L hne) (t := fun E => tSMeth CE (spReadEX CT CL CD) E (tC (.ref CE)) (tCons (tCall spTallL [] E0 (tCons (tC (.int 1300)) tNil)) tNil)) (LamX.lamS_by (sc := defScope s_L_limits_right) (by decide +kernel))
    (fun A' outer' s' H' E f' c' hr' => ?he)) (li7 (p := p) W AK hne hgd hr h12) ?_
  case he =>
    exact pe_smeth (pe_glob (v := .ref CE) (by rfl) W.M.g rfl) W.rE sE FE (hr'.mono (by decide)) (passes_call (takes_of rfl rfl rfl rfl) fun _ _ _ _ h => h) (pa_cons (pe_has hL (hr'.mono (by decide)) (by rfl) pass0 (pa_cons pe_int pa_nil)) pa_nil)
  intro σ H Q y hy hp hTb q
  cases hy
  refine ask_L hp hTb (fun H1 Q' E eE => ?_) q
  obtain ⟨ok, nl, dp⟩ := tal_is 1299
  exact ⟨rfl, 1300, rfl, by decide, by decide, _, rfl, .inr ⟨tal 1299, rfl, ok, by omega, .inl ⟨by omega, eE⟩⟩⟩
theorem li5 (W : W5 P w K mg base CE D CF CT CL CD CN S1 S2 S3 mcE mcF) (AK : Asks5 K mg base c PL) (hne : PL ≠ PR) (hgd : A.guards = some []) (hr : Room 45 (A.deeper (envOfC "_law_limits_right" (defScope s_L_limits_right) s.heap.objs.size f (.ref c))))
    (h12 : PSs (cxL P w K mg base f (.ref c) A outer s H0) (liRest 12) (fun En σ H => AtLi p PL PR 10 σ H En)) :
    PSs (cxL P w K mg base f (.ref c) A outer s H0) (liRest 5) (fun En σ H => AtLi p PL PR 3 σ H En) := by
  obtain ⟨fB, hB⟩ := W.hB
  obtain ⟨fT, hT⟩ := W.hT
  obtain ⟨fL, hL⟩ := W.hL
  obtain ⟨fI, MK, FI, FX⟩ := W.mkE
  obtain ⟨pE, gE, sE, FE⟩ := W.rdE
  obtain ⟨pF, gF, sF, _, FFX⟩ := W.rdF
  refine li_seg (by decide) (pe_ask5 (X := cxL P w K mg base f (.ref c) A outer s H0) W AK (by exact hgd) (by exact hr) rfl (by rfl) (q := lamL) rfl List.mem_cons_self (tb_L hne) (t := fun E => tSMeth CE (spReadEX CT CL CD) E (tC (.ref CE)) (tCons (tCall spTallL [] E0 (tCons (tC (.int 21)) tNil)) tNil)) (LamX.lamS_by (sc := defScope s_L_limits_right) (by decide +kernel))
    (fun A' outer' s' H' E f' c' hr' => ?he)) (li6 (p := p) W AK hne hgd hr h12) ?_
  case he =>
    exact pe_smeth (pe_glob (v := .ref CE) (by rfl) W.M.g rfl) W.rE sE FE (hr'.mono (by decide)) (passes_call (takes_of rfl rfl rfl rfl) fun _ _ _ _ h => h) (pa_cons (pe_has hL (hr'.mono (by decide)) (by rfl) pass0 (pa_cons pe_int pa_nil)) pa_nil)
  intro σ H Q y hy hp hTb q
  cases hy
  refine ask_D hp hTb (fun H1 Q' E eE => ?_) q
  obtain ⟨ok, nl, dp⟩ := tal_is 20
  exact ⟨rfl, 21, rfl, by decide, by decide, _, rfl, .inr ⟨tal 20, rfl, ok, by omega, .inr ⟨by omega, by omega, by omega, eE⟩⟩⟩
theorem li4 (W : W5 P w K mg base CE D CF CT CL CD CN S1 S2 S3 mcE mcF) (AK : Asks5 K mg base c PL) (hne : PL ≠ PR) (hgd : A.guards = some []) (hr : Room 45 (A.deeper (envOfC "_law_limits_right" (defScope s_L_limits_right) s.heap.objs.size f (.ref c))))
    (h12 : PSs (cxL P w K mg base f (.ref c) A outer s H0) (liRest 12) (fun En σ H => AtLi p PL PR 10 σ H En)) :
    PSs (cxL P w K mg base f (.ref c) A outer s H0) (liRest 4) (fun En σ H => AtLi p PL PR 2 σ H En) := by
  obtain ⟨fB, hB⟩ := W.hB
  obtain ⟨fT, hT⟩ := W.hT
  obtain ⟨fL, hL⟩ := W.hL
  obtain ⟨fI, MK, FI, FX⟩ := W.mkE
  obtain ⟨pE, gE, sE, FE⟩ := W.rdE
  obtain ⟨pF, gF, sF, _, FFX⟩ := W.rdF
  refine li_seg (by decide) (pe_ask5 (X := cxL P w K mg base f (.ref c) A outer s H0) W AK (by exact hgd) (by exact hr) rfl (by rfl) (q := lamL) rfl List.mem_cons_self (tb_L hne) (t := fun E => tMakeR CE (spInitX CF CL CD) E (tCons (tTup (tCons (tC (.str "|")) (tCons (tCall (spBroad 8) [] E0 (tCons (tC (.int 200)) tNil)) (tCons (tCall spTall [] E0 (tCons (tC (.int 21)) tNil)) tNil)))) tNil)) (LamX.lamS_by (sc := defScope s_L_limits_right) (by decide +kernel))
    (fun A' outer' s' H' E f' c' hr' => ?he)) (li5 (p := p) W AK hne hgd hr h12) ?_
  case he =>
    exact pe_makeR MK FX (hr'.mono (by decide)) (by rfl) W.M.g (passes_call (takes_of rfl rfl rfl rfl) fun _ _ _ _ h => h) (pa_cons (pe_tup (pa_cons pe_str (pa_cons (pe_has hB (hr'.mono (by decide)) (by rfl) pass0 (pa_cons pe_int pa_nil)) (pa_cons (pe_has hT (hr'.mono (by decide)) (by rfl) pass0 (pa_cons pe_int pa_nil)) pa_nil)))) pa_nil)
  intro σ H Q y hy hp hTb q
  cases hy
  refine ask_L hp hTb (fun H1 Q' E eE => ?_) q
  refine ⟨200, rfl, by decide, by decide, by decide, fun v H2 s2 m2 => ?_⟩
  refine ⟨21, rfl, by decide, by decide, fun u H3 s3 m3 => ?_⟩
  refine ⟨(by show 3 ≤ sizeLine; decide), fun q nq => ?_⟩
  have s4 : Same H3 (upd H3 q (.tup [.str "|", v, u])) := same_upd nq
  obtain ⟨ok, nl, dp⟩ := tal_is 20
  obtain ⟨ok', nl', dp'⟩ := b200
  exact fun x dx nx nd ne => mkX_go (.inl ⟨.node "|" (bro 8 200) (tal 20), .node upd_same (m2.same (s3.trans s4)) (m3.same s4), ⟨bar_sign, ok', ok⟩, by rw [Fm.nl_node]; omega, by rw [Fm.dep_node]; omega, .inl ⟨by rw [Fm.nl_node]; omega, eE.same (s2.trans (s3.trans s4))⟩⟩) nx nd ne
theorem li3 (W : W5 P w K mg base CE D CF CT CL CD CN S1 S2 S3 mcE mcF) (AK : Asks5 K mg base c PL) (hne : PL ≠ PR) (hgd : A.guards = some []) (hr : Room 45 (A.deeper (envOfC "_law_limits_right" (defScope s_L_limits_right) s.heap.objs.size f (.ref c))))
    (h12 : PSs (cxL P w K mg base f (.ref c) A outer s H0) (liRest 12) (fun En σ H => AtLi p PL PR 10 σ H En)) :
    PSs (cxL P w K mg base f (.ref c) A outer s H0) (liRest 3) (fun En σ H => AtLi p PL PR 1 σ H En) := by
  obtain ⟨fB, hB⟩ := W.hB
  obtain ⟨fT, hT⟩ := W.hT
  obtain ⟨fL, hL⟩ := W.hL
  obtain ⟨fI, MK, FI, FX⟩ := W.mkE
  obtain ⟨pE, gE, sE, FE⟩ := W.rdE
  obtain ⟨pF, gF, sF, _, FFX⟩ := W.rdF
  refine li_seg (by decide) (pe_ask5 (X := cxL P w K mg base f (.ref c) A outer s H0) W AK (by exact hgd) (by exact hr) rfl (by rfl) (q := lamL) rfl List.mem_cons_self (tb_L hne) (t := fun E => tMakeR CE (spInitX CF CL CD) E (tCons (tCall spTall [] E0 (tCons (tC (.int 21)) tNil)) tNil)) (LamX.lamS_by (sc := defScope s_L_limits_right) (by decide +kernel))
    (fun A' outer' s' H' E f' c' hr' => ?he)) (li4 (p := p) W AK hne hgd hr h12) ?_
  case he =>
    exact pe_makeR MK FX (hr'.mono (by decide)) (by rfl) W.M.g (passes_call (takes_of rfl rfl rfl rfl) fun _ _ _ _ h => h) (pa_cons (pe_has hT (hr'.mono (by decide)) (by rfl) pass0 (pa_cons pe_int pa_nil)) pa_nil)
  intro σ H Q y hy hp hTb q
  cases hy
  refine ask_D hp hTb (fun H1 Q' E eE => ?_) q
  refine ⟨21, rfl, by decide, by decide, fun v H2 s2 m2 => ?_⟩
  obtain ⟨ok, nl, dp⟩ := tal_is 20
  exact fun x dx nx nd ne => mkX_go (.inl ⟨tal 20, m2, ok, by omega, by omega, .inr ⟨by omega, by omega, eE.same s2⟩⟩) nx nd ne
end
end K1

namespace K1
open PySem PySem.Spec
open PyProof.Rows L2 L2H EnT StX SmX TxS DuX ClX XdI Tr3 CnB
theorem yyl_ok : ∀ y ∈ YYL, OkS y := by
  have a : OkS yL := by unfold OkS; decide +kernel
  have b : OkS yD := by unfold OkS; decide +kernel
  intro y hy
  simp only [List.mem_cons, List.not_mem_nil, or_false] at hy
  rcases hy with rfl | rfl | rfl | rfl | rfl | rfl | rfl | rfl | rfl | rfl <;> assumption
/-- before the def begins -/
structure AtLi0 (p PL PR : Addr) (σ : L2.St) (H : Hp) (En : Ends) : Prop where
  ex : ∃ (n m : Nat), σ = [some (.int n), some (.int m), none, none, none, none, none] ∧ 1 ≤ n ∧ n ≤ 200 ∧ 1 ≤ m ∧ m ≤ 20 ∧ PoolAt H p ∧ LamX.Tabs (Tb5 PL PR) H ∧ Fin5 p (Tb5 PL PR) H En
def spLimits (PL PR : Addr) : Sp := fun vs H Q _ => ∃ (p : Addr) (n m : Nat), vs = [.int n, .int m] ∧ 1 ≤ n ∧ n ≤ 200 ∧ 1 ≤ m ∧ m ≤ 20 ∧ PoolAt H p ∧ LamX.Tabs (Tb5 PL PR) H ∧ ∀ H', Mv p (Tb5 PL PR) H H' → Q (.bl true) H'
theorem three_shaped {n m : Nat} {x : Str} (h : PyData.strOk x = true) : SeqAt.shaped (.list [.int n, .int m, .str x]) = true ∧ PyData.eqv (.list [.int n, .int m, .str x]) (.list [.int n, .int m, .str x]) = true := by
  have e : PyData.canLay0 (.list [.int n, .int m, .str x]) = true := by simp [PyData.canLay0, PyData.canLayAll0, h]
  refine ⟨?_, SeqAt.eqv_refl _ e⟩
  show (PyData.canLay0 _ && decide (PyData.depth _ ≤ 64)) = true
  rw [e, Bool.true_and]
  exact decide_eq_true (by simp [PyData.depth, PyData.depthAll])
section
variable {w : World} {P : Program} {base : Heap} {mg : Str → Option Value} {K : PySem.W.Frag} {CE D CF CT CL CD CN S1 S2 S3 : Addr} {mcE mcF : Value}
variable {f c PL PR : Addr} {A : Around} {outer : List Env} {s : Shared} {H0 : Hp} {p : Addr}
theorem li12 (hr : Room 45 (A.deeper (envOfC "_law_limits_right" (defScope s_L_limits_right) s.heap.objs.size f (.ref c)))) :
    PSs (cxL P w K mg base f (.ref c) A outer s H0) (liRest 12) (fun En σ H => AtLi p PL PR 10 σ H En) := by
  refine pss_of fun En σ H hyp => ?_
  obtain ⟨tl, as, HS, x0, x1, x2, x3, x5, x6, eσ, hp, hT, ht, h1, h3, ll, mS, nS, fin⟩ := hyp.ex
  refine ⟨_, pss_cons (ps_par (i := 5) (j := 6) rfl scLi.nd rfl rfl (by decide) rfl rfl (pa_cons (pe_lst (pa_cons pe_str (pa_cons pe_str pa_nil))) (pa_cons (pe_lst (pa_cons pe_str (pa_cons pe_str pa_nil))) pa_nil)) (by rfl))
    (pss_one (ps_ret (pe_cmpR (op_eqD hr.units) (pv 4) (pe_lst (pa_cons (pv 5) (pa_cons (pv 6) (pa_cons (pv 5) (pa_cons (pv 6) (pa_cons (pv 5) (pa_cons (pv 6) (pa_cons (pv 5) (pa_cons (pv 5) (pa_cons (pv 6) (pa_cons (pv 5) pa_nil))))))))))) (nomark _)))), ?_⟩
  subst eσ
  refine ⟨(by decide), fun a na => ⟨(by decide), fun b nb => ⟨_, _, rfl, ?_⟩⟩⟩
  have s1 := same_upd (o := .lst [.str "TooManyLeaves", .str "200"]) na
  have g1 : (upd H a (.lst [.str "TooManyLeaves", .str "200"])) a = some (.lst (yL.map V.str)) := upd_same
  generalize upd H a (.lst [.str "TooManyLeaves", .str "200"]) = H1 at s1 g1 nb ⊢
  have s2 := same_upd (o := .lst [.str "TooManyLevels", .str "20"]) nb
  have g2 : (upd H1 b (.lst [.str "TooManyLevels", .str "20"])) b = some (.lst (yD.map V.str)) := upd_same
  generalize upd H1 b (.lst [.str "TooManyLevels", .str "20"]) = H2 at s2 g2 ⊢
  have g1 := s2 _ _ g1
  have s12 := s1.trans s2
  refine ⟨_, rfl, _, rfl, _, rfl, _, rfl, _, rfl, _, rfl, _, rfl, _, rfl, _, rfl, _, rfl, _, rfl, (by show 10 ≤ sizeLine; decide), fun l nl => ?_⟩
  have s3 := same_upd (o := .lst ([a, b, a, b, a, b, a, a, b, a].map V.ref)) nl
  have g3 : (upd H2 l (.lst ([a, b, a, b, a, b, a, a, b, a].map V.ref))) l = some (.lst ([a, b, a, b, a, b, a, a, b, a].map V.ref)) := upd_same
  have hL : upd H2 l (.lst [V.ref a, .ref b, .ref a, .ref b, .ref a, .ref b, .ref a, .ref a, .ref b, .ref a]) = upd H2 l (.lst ([a, b, a, b, a, b, a, a, b, a].map V.ref)) := rfl
  rw [hL]
  generalize upd H2 l (.lst ([a, b, a, b, a, b, a, a, b, a].map V.ref)) = H3 at s3 g3 ⊢
  have g1 := s3 _ _ g1
  have g2 := s3 _ _ g2
  have s13 := s12.trans s3
  have lb : Lists H3 [a, b, a, b, a, b, a, a, b, a] YYL := ((((((((((Lists.nil.snoc g1).snoc g2).snoc g1).snoc g2).snoc g1).snoc g2).snoc g1).snoc g1).snoc g2).snoc g1)
  have la : Lists H3 as YYL := ll.same s13
  refine ⟨_, _, .lst (SqL.of (s13 _ _ ht)) (la.dp (K := K)), .lst (SqL.of g3) (lb.dp (K := K)), lsD_shaped yyl_ok, lsD_shaped yyl_ok, ?_⟩
  rw [lsD_eqv yyl_ok]
  exact fin _ (mS.trans (.same s13 hp hT))
theorem li0 (W : W5 P w K mg base CE D CF CT CL CD CN S1 S2 S3 mcE mcF) (AK : Asks5 K mg base c PL) (hne : PL ≠ PR) (hgd : A.guards = some []) (hr : Room 45 (A.deeper (envOfC "_law_limits_right" (defScope s_L_limits_right) s.heap.objs.size f (.ref c)))) :
    PSs (cxL P w K mg base f (.ref c) A outer s H0) (defBody s_L_limits_right) (fun En σ H => AtLi0 p PL PR σ H En) := by
  obtain ⟨fB, hB⟩ := W.hB
  obtain ⟨fT, hT⟩ := W.hT
  obtain ⟨fL, hL⟩ := W.hL
  obtain ⟨fI, MK, FI, FX⟩ := W.mkE
  obtain ⟨gS, mS, FS⟩ := W.str
  have T := W.T
  refine pss_of fun En σ H hyp => ?_
  obtain ⟨n, m, eσ, n1, n2, m1, m2, hp, hTb, fin⟩ := hyp.ex
  refine ⟨_, pss_cons (ps_par (i := 2) (j := 3) rfl scLi.nd rfl rfl (by decide) rfl rfl (pa_cons (pe_makeR MK FI (hr.mono (by decide)) (by rfl) W.M.g pass0 (pa_cons (pe_has hB (hr.mono (by decide)) (by rfl) pass0 (pa_cons (pv 0) pa_nil)) pa_nil)) (pa_cons (pe_makeR MK FI (hr.mono (by decide)) (by rfl) W.M.g pass0 (pa_cons (pe_has hT (hr.mono (by decide)) (by rfl) pass0 (pa_cons (pv 1) pa_nil)) pa_nil)) pa_nil)) (by rfl))
    (pss_cons (ps_if (pt_cmpR (op_neD hr.units) (pe_lst (pa_cons (pe_pp W.pL (pv 2) (hr.mono (by decide)) rfl) (pa_cons (pe_pp W.pD (pv 3) (hr.mono (by decide)) rfl) (pa_cons (pe_callTy (call_strO mS FS (hr.mono (by decide)) pass0) (by rfl) T.str (by decide +kernel) (pa_cons (pv 3) pa_nil)) pa_nil))))
        (pe_lst (pa_cons (pv 0) (pa_cons (pv 1) (pa_cons (pe_has hL (hr.mono (by decide)) (by rfl) pass0 (pa_cons (pv 1) pa_nil)) pa_nil)))) (nomark _)) pss_never pss_nil)
    (pss_cons (ps_set (i := 4) scLi.nd rfl (.inl rfl) (pe_lst (pa_cons (pe_ask5 (X := cxL P w K mg base f (.ref c) A outer s H0) W AK (by exact hgd) (by exact hr) rfl (by rfl) (q := lamL) rfl List.mem_cons_self (tb_L hne) (t := fun E => tMakeR CE (spInitX CF CL CD) E (tCons (tCall (spBroad 8) [] E0 (tCons (tC (.int 201)) tNil)) tNil)) (LamX.lamS_by (sc := defScope s_L_limits_right) (by decide +kernel))
        (fun A' outer' s' H' E f' c' hr' => ?he)) pa_nil)))
    (li3 (p := p) (CE := CE) (D := D) W AK hne hgd hr (li12 (p := p) hr)))), ?_⟩
  case he =>
    exact pe_makeR MK FX (hr'.mono (by decide)) (by rfl) W.M.g (passes_call (takes_of rfl rfl rfl rfl) fun _ _ _ _ h => h) (pa_cons (pe_has hB (hr'.mono (by decide)) (by rfl) pass0 (pa_cons pe_int pa_nil)) pa_nil)
  subst eσ
  obtain ⟨okb, nb, db⟩ := bro_is 8 n n1 (by show n ≤ 256; omega)
  obtain ⟨okt, nt, dt⟩ := tal_is (m - 1)
  refine ⟨_, rfl, n, rfl, n1, by show n ≤ 256; omega, by omega, fun v1 H1 s1 f1 => ?_⟩
  refine fun a xa na nxa nea => makeE_at f1 okb (by omega) (by omega) na nxa nea fun H2 s2 e1 => ⟨rfl, ?_⟩
  refine ⟨_, rfl, m, rfl, m1, by omega, fun v2 H3 s3 f2 => ?_⟩
  refine fun b xb nb' nxb neb => makeE_at f2 okt (by omega) (by omega) nb' nxb neb fun H4 s4 e2 => ⟨rfl, _, _, rfl, ?_⟩
  have e1 := (e1.same s3).same s4
  have s14 := s1.trans (s2.trans (s3.trans s4))
  obtain ⟨dx1, w1, fl1, ys1, h1, _⟩ := e1.at_
  obtain ⟨dx2, w2, fl2, ys2, h2, _⟩ := e2.at_
  refine ⟨_, rfl, a, dx1, _, rfl, h1, a, dx1, _, _, rfl, h1, ef_leaves w1 _ fl1, _, rfl, b, dx2, _, rfl, h2, b, dx2, _, _, rfl, h2, ef_depth w2 _ fl2, ?_⟩
  refine ⟨_, rfl, b, dx2, _, rfl, h2, b, _, rfl, e2, _, rfl, (by show 3 ≤ sizeLine; decide), fun l1 nl1 => ?_⟩
  refine ⟨_, rfl, _, rfl, _, rfl, m, rfl, m1, by omega, (by show 3 ≤ sizeLine; decide), fun l2 nl2 => ?_⟩
  have em : ((tal (m - 1)).dep : Int) = (m : Int) := by omega
  have en : ((bro 8 n).nl : Int) = (n : Int) := by omega
  rw [em, en] at nl2 ⊢
  have ex : PyData.strOk ((tal (m - 1)).txt false) = true := strOk_low (txt_low false okt)
  generalize (tal (m - 1)).txt false = x at nl2 ex ⊢
  have s5 := same_upd (o := .lst [.int n, .int m, .str x]) nl1
  have g1 : (upd H4 l1 (.lst [.int n, .int m, .str x])) l1 = some (.lst [.int n, .int m, .str x]) := upd_same
  generalize upd H4 l1 (.lst [.int n, .int m, .str x]) = H5 at s5 g1 nl2 ⊢
  have s6 := same_upd (o := .lst [.int n, .int m, .str x]) nl2
  have g2 : (upd H5 l2 (.lst [.int n, .int m, .str x])) l2 = some (.lst [.int n, .int m, .str x]) := upd_same
  generalize upd H5 l2 (.lst [.int n, .int m, .str x]) = H6 at s6 g2 ⊢
  obtain ⟨sh, eq⟩ := three_shaped (n := n) (m := m) ex
  have dp : ∀ {l : Addr}, H6 l = some (.lst [.int n, .int m, .str x]) → Dp K H6 (.ref l) (.list [.int n, .int m, .str x]) := fun e => .lst (SqL.of e) (.cons (.int _) (.cons (.int _) (.cons (.str _) .nil)))
  refine ⟨_, _, dp (s6 _ _ g1), dp g2, sh, sh, _, rfl, ?_⟩
  rw [eq]
  refine iteF ?_
  have s16 := s14.trans (s5.trans s6)
  have m6 : Mv p (Tb5 PL PR) H H6 := .same s16 hp hTb
  refine ask_L m6.rx.pool m6.tabs (fun H7 Q' E eE => ?_) fun r H7 m7 hr7 => ?_
  · refine ⟨201, rfl, by decide, by decide, by decide, fun v H8 s8 m8 => ?_⟩
    obtain ⟨ok', nl', dp'⟩ := b201
    exact fun x dx nx nd ne => mkX_go (.inl ⟨bro 8 201, m8, ok', by omega, by omega, .inl ⟨by omega, eE.same s8⟩⟩) nx nd ne
  · refine ⟨by show 1 ≤ sizeLine; decide, fun tl nt => ?_⟩
    have s8 := same_upd (o := .lst ([r].map V.ref)) nt
    have m67 := m6.trans m7
    have m8 : Mv p (Tb5 PL PR) H7 (upd H7 tl (.lst ([r].map V.ref))) := .same s8 m67.rx.pool m67.tabs
    have m68 := m67.trans m8
    have nH : H tl = none ∨ ∃ ps, H tl = some (.tbl ps) := by
      cases hh : H tl with
      | none => exact .inl rfl
      | some o =>
        by_cases tb : ∃ ps, o = .tbl ps
        · obtain ⟨ps, e⟩ := tb
          exact .inr ⟨ps, by rw [e]⟩
        · exfalso
          by_cases ep : tl = p
          · obtain ⟨i, j, k, e⟩ := m67.rx.pool
            rw [← ep, nt] at e
            cases e
          · have := m67.rx.keep tl o ep hh (fun ps e => tb ⟨ps, e⟩)
            rw [nt] at this
            cases this
    refine ⟨tl, [r], L2.del H tl, _, _, _, _, _, _, rfl, m68.rx.pool, m68.tabs, upd_same, by decide, by decide, Lists.nil.snoc (s8 _ _ hr7), ?_, L2.del_same, ?_⟩
    · refine ⟨⟨m68.rx.pool, fun b o nb e nt' => ?_⟩, m68.tabs⟩
      by_cases k : b = tl
      · rw [k, L2.del_same] at e
        cases e
      · rw [L2.del_ne k] at e
        exact m68.rx.keep b o nb e nt'
    · intro H' m'
      refine fin H' ⟨⟨m'.rx.pool, fun b o nb e nt' => ?_⟩, m'.tabs⟩
      by_cases k : b = tl
      · subst k
        rcases nH with z | ⟨ps, z⟩
        · rw [z] at e
          cases e
        · rw [z] at e
          exact absurd (Option.some.inj e).symm (nt' ps)
      · exact m'.rx.keep b o nb (by rw [L2.del_ne k]; exact e) nt'
theorem ok_limits (W : W5 P w K mg base CE D CF CT CL CD CN S1 S2 S3 mcE mcF) (AK : Asks5 K mg base c PL) (hne : PL ≠ PR) (FR : FunC K "_law_limits_right" "_law_limits_right" s_L_limits_right f c) : FnG P w K mg base CX0 46 f (spLimits PL PR) := by
  intro A outer st H us vs Q E hgd hr e0 r hyp
  obtain ⟨p, n, m, rfl, n1, n2, m1, m2, hp, hTb, q⟩ := hyp
  obtain ⟨oc, od, kV, doc, pm, an, ct, osl, lk, hcd⟩ := FR.ex
  refine LamX.run_ofS (N := nmLi) (ps := ["_law_wide", "_law_tall_here"]) (us := us) (vs := [.int n, .int m]) lk hcd scLi hr e0 ?_ r rfl fun hr' => ⟨_, (li0 (p := p) (PL := PL) (PR := PR) W AK hne hgd hr').nox, ?_⟩
  · have b : L2.Binds K (PySem.W.fnOf "_law_limits_right" "_law_limits_right" (defArgs s_L_limits_right) (defBody s_L_limits_right) (defScope s_L_limits_right) .none kV doc pm an (.ref c) ct) ["_law_wide", "_law_tall_here"] [] := .all fun us hl => match us, hl with | [_, _], _ => rfl
    have hl : us.length = 2 := by rw [← r.length]; rfl
    have z := b st us (e0.mod.kin.keeps fun b o e => (e0.bs b o e).1) (by rw [List.append_nil]; exact hl)
    rw [List.append_nil] at z
    exact z
  · exact ⟨n, m, rfl, n1, n2, m1, m2, hp, hTb, fun H' m' => q H' m'⟩
end
end K1

namespace K1
open PySem PySem.Spec
open PyProof.Rows L2 L2H EnT StX SmX TxS DuX ClX XdI Tr3 CnB
/-! ### right: what its asks are about -/
theorem Mv.exp5 {CE a p : Addr} {Tb : List (Addr × Str)} {H H' : Hp} {t : Fm} (m : Mv p Tb H H') (hp : PoolAt H p) (h : ExpAt CE H a t) : ExpAt CE H' a t := by
  obtain ⟨⟨dx, v, fl, ys, h1, h2, h3, h4⟩, b1, b2, b3⟩ := h
  have k := stays_tup (Stays.mv m hp)
  exact ⟨⟨dx, v, fl, ys, m.at hp h1 (fun _ _ _ e => by cases e) (fun _ e => by cases e), h2.keep k, k _ _ h3, h4⟩, b1, b2, b3⟩
theorem Stays.exp {CE a : Addr} {H H' : Hp} {t : Fm} (m : Stays H H') (h : ExpAt CE H a t) : ExpAt CE H' a t := by
  obtain ⟨⟨dx, v, fl, ys, h1, h2, h3, h4⟩, b1, b2, b3⟩ := h
  have k := stays_tup m
  exact ⟨⟨dx, v, fl, ys, m _ _ h1 (fun _ _ _ e => by cases e) (fun _ e => by cases e) (fun _ _ e => by cases e), h2.keep k, k _ _ h3, h4⟩, b1, b2, b3⟩
theorem Stays.fac {CE D q a b : Addr} {H H' : Hp} {t u : Fm} (m : Stays H H') (h : FacAt CE D H q a b t u) : FacAt CE D H' q a b t u := by
  obtain ⟨⟨dx, e⟩, l, r⟩ := h
  exact ⟨⟨dx, m _ _ e (fun _ _ _ e => by cases e) (fun _ e => by cases e) (fun _ _ e => by cases e)⟩, m.exp l, m.exp r⟩
/-- a value that is no expression: data -/
inductive OdD (H : Hp) : V → PyData → Prop where
  | non : OdD H .non .none
  | int : OdD H (.int 0) (.int 0)
  | str : OdD H (.str "a") (.str "a")
  | tup (a : Addr) (zs : List Str) (h : zs ∈ ([["|", "a", "b"], []] : List (List Str))) (e : H a = some (.tup (zs.map V.str))) : OdD H (.ref a) (.tuple (strD zs))
/-- the same, or a fact; its text -/
def OdV (CE D : Addr) (H : Hp) (v : V) (x : Str) : Prop := (∃ d, OdD H v d ∧ x = d.shown) ∨ ∃ q a b, v = .ref q ∧ FacAt CE D H q a b fA (.leaf "b") ∧ x = facRepr fA (.leaf "b")
theorem OdD.stays {H H' : Hp} {v : V} {d : PyData} (m : Stays H H') (h : OdD H v d) : OdD H' v d := by
  cases h with
  | non => exact .non
  | int => exact .int
  | str => exact .str
  | tup a zs h e => exact .tup a zs h (stays_tup m _ _ e)
theorem OdV.stays {CE D : Addr} {H H' : Hp} {v : V} {x : Str} (m : Stays H H') (h : OdV CE D H v x) : OdV CE D H' v x := by
  rcases h with ⟨d, h, e⟩ | ⟨q, a, b, e, h, e2⟩
  · exact .inl ⟨d, h.stays m, e⟩
  · exact .inr ⟨q, a, b, e, m.fac h, e2⟩
theorem OdD.vok {H : Hp} {v : V} {d : PyData} (h : OdD H v d) : VOk H v := by
  cases h with
  | non => exact .inr .non
  | int => exact .inr (.int _)
  | str => exact .inl ⟨_, rfl, by rw [sizeLine_eq]; decide +kernel⟩
  | tup a zs h e => exact .inr (.tup e)
theorem OdD.ty {K : PySem.W.Frag} {H : Hp} {v : V} {d : PyData} (h : OdD H v d) : ∃ t, t ∈ tysO ∧ TyX K H v (.type t) := by
  cases h with
  | non => exact ⟨_, by decide, .base .non⟩
  | int => exact ⟨_, by decide, .base (.int _)⟩
  | str => exact ⟨_, by decide, .base (.str _)⟩
  | tup a zs h e => exact ⟨"tuple", by decide, .base (.tup e)⟩
theorem OdD.shd {K : PySem.W.Frag} {H : Hp} {v : V} {d : PyData} (h : OdD H v d) : RpD.ShD K H v d := by
  have all : ∀ zs ∈ ([["|", "a", "b"], []] : List (List Str)), RpD.plainD (.tuple (strD zs)) = true ∧ (PyData.tuple (strD zs)).depth ≤ 20 ∧ RpD.wide (.tuple (strD zs)) ≤ 16000000 := by decide +kernel
  cases h with
  | non => exact .inl ⟨.non, .of rfl (by decide) (by decide)⟩
  | int => exact .inl ⟨.int _, .of (by decide) (by decide) (by decide)⟩
  | str => exact .inl ⟨.str _, .of (by decide +kernel) (by decide +kernel) (by decide +kernel)⟩
  | tup a zs h e => exact .inl ⟨.tup (SqT.of e) (dpAll_str zs), .of (all zs h).1 (all zs h).2.1 (all zs h).2.2⟩
theorem OdD.ok {H : Hp} {v : V} {d : PyData} (h : OdD H v d) : PyData.strOk d.shown = true := by
  have all : ∀ zs ∈ ([["|", "a", "b"], []] : List (List Str)), PyData.strOk (PyData.tuple (strD zs)).shown = true := by decide +kernel
  cases h with
  | tup a zs h e => exact all zs h
  | _ => decide +kernel
theorem OdV.sv {K : PySem.W.Frag} {CE D : Addr} {H : Hp} {v : V} {x : Str} (h : OdV CE D H v x) : SV K CE D H v x := by
  rcases h with ⟨d, h, rfl⟩ | ⟨q, a, b, rfl, h, rfl⟩
  · exact .dat h.shd
  · exact .fac h
theorem OdV.ok {CE D : Addr} {H : Hp} {v : V} {x : Str} (h : OdV CE D H v x) : PyData.strOk x = true := by
  rcases h with ⟨d, h, rfl⟩ | ⟨q, a, b, rfl, h, rfl⟩
  · exact h.ok
  · decide +kernel
theorem OdV.notP {P : Program} {w : World} {K : PySem.W.Frag} {mg : Str → Option Value} {base : Heap} {CE D CF CT CL CD CN S1 S2 S3 : Addr} {mcE mcF : Value} {H : Hp} {v : V} {x : Str} (W : W5 P w K mg base CE D CF CT CL CD CN S1 S2 S3 mcE mcF) (h : OdV CE D H v x) : NotP K CE H v := by
  rcases h with ⟨d, h, rfl⟩ | ⟨q, a, b, rfl, h, rfl⟩
  · exact h.vok.notP W.I
  · exact h.notP W.MF W.IF W.nD
/-- a sign with such a value at its right -/
theorem b5_odd {P : Program} {w : World} {K : PySem.W.Frag} {mg : Str → Option Value} {base : Heap} {CE D CF CT CL CD CN S1 S2 S3 a : Addr} {mcE mcF : Value} {H : Hp} {v : V} {x z : Str} {t : Fm} {Q : VK} {E : XK} (W : W5 P w K mg base CE D CF CT CL CD CN S1 S2 S3 mcE mcF) (m : ExpAt CE H a t) (h : OdV CE D H v x) (q : ErrAt CN "value" v H E) : rB5 K CE D CL CD CN z E (.ref a) v H Q := by
  have np := h.notP W
  obtain ⟨dx, u, fl, ys, h1, _⟩ := m.at_
  have sp : spOpX K CE CL CD CN z [.ref a, v] H Q E := ⟨a, v, t, rfl, m, .inl ⟨np, q⟩⟩
  rcases h with ⟨d, h, rfl⟩ | ⟨f, b, c, rfl, h, rfl⟩
  · obtain ⟨ty, ht, tx⟩ := h.ty (K := K)
    exact .inl ⟨a, dx, _, ty, rfl, h1, ht, tx, sp⟩
  · exact .inr (.inl ⟨a, dx, _, rfl, h1, fac_ty W.MF W.IF h, sp⟩)
/-- a value that is no text of a form -/
def OddL2 (H : Hp) (v : V) (d : PyData) : Prop := (v = .non ∧ d = .none) ∨ (v = .int 5 ∧ d = .int 5) ∨ (∃ a, v = .ref a ∧ H a = some (.tup [.str "a"]) ∧ d = .tuple [.str "a"]) ∨ ∃ x, v = .str x ∧ LineBad x ∧ d = .str x
theorem OddL.two {H : Hp} {v : V} (h : OddL H v) : ∃ d, OddL2 H v d := by
  rcases h with rfl | rfl | ⟨a, rfl, e⟩ | ⟨x, rfl, e⟩
  · exact ⟨_, .inl ⟨rfl, rfl⟩⟩
  · exact ⟨_, .inr (.inl ⟨rfl, rfl⟩)⟩
  · exact ⟨_, .inr (.inr (.inl ⟨a, rfl, e, rfl⟩))⟩
  · exact ⟨_, .inr (.inr (.inr ⟨x, rfl, e, rfl⟩))⟩
theorem OddL2.stays {H H' : Hp} {v : V} {d : PyData} (m : Stays H H') (h : OddL2 H v d) : OddL2 H' v d := by
  rcases h with h | h | ⟨a, e, h, e2⟩ | h
  · exact .inl h
  · exact .inr (.inl h)
  · exact .inr (.inr (.inl ⟨a, e, stays_tup m _ _ h, e2⟩))
  · exact .inr (.inr (.inr h))
theorem low_shows {K : PySem.W.Frag} {H : Hp} {x : Str} (l : x.length ≤ 100000) (h : Lw x) : RpD.ShD K H (.str x) (.str x) := .inl ⟨.str x, .of (plain_low h) (Nat.zero_le _) (by show 10 * x.length + 2 ≤ _; omega)⟩
theorem OddL2.shd {K : PySem.W.Frag} {H : Hp} {v : V} {d : PyData} (h : OddL2 H v d) : RpD.ShD K H v d := by
  rcases h with ⟨rfl, rfl⟩ | ⟨rfl, rfl⟩ | ⟨a, rfl, e, rfl⟩ | ⟨x, rfl, lb, rfl⟩
  · exact .inl ⟨.non, .of rfl (by decide) (by decide)⟩
  · exact .inl ⟨.int _, .of (by decide) (by decide) (by decide)⟩
  · exact .inl ⟨.tup (SqT.of e) (.cons (.str _) .nil), .of (by decide +kernel) (by decide +kernel) (by decide +kernel)⟩
  · exact low_shows (by have := lb.b.l; omega) lb.low
theorem OddL2.ok {H : Hp} {v : V} {d : PyData} (h : OddL2 H v d) : PyData.strOk d.shown = true := by
  rcases h with ⟨rfl, rfl⟩ | ⟨rfl, rfl⟩ | ⟨a, rfl, e, rfl⟩ | ⟨x, rfl, lb, rfl⟩
  · decide +kernel
  · decide +kernel
  · decide +kernel
  · exact (low_repr lb.low).ok
theorem OddL2.noRead {H : Hp} {v : V} {d : PyData} (h : OddL2 H v d) : NoRead H v := by
  rcases h with ⟨rfl, rfl⟩ | ⟨rfl, rfl⟩ | ⟨a, rfl, e, rfl⟩ | ⟨x, rfl, lb, rfl⟩
  · exact .inl .non
  · exact .inl (.int _)
  · exact .inl (.tup e)
  · exact .inr ⟨x, rfl, lb.b⟩
theorem OddL2.noFact {H : Hp} {v : V} {d : PyData} (h : OddL2 H v d) : NoFact H v := by
  rcases h with ⟨rfl, rfl⟩ | ⟨rfl, rfl⟩ | ⟨a, rfl, e, rfl⟩ | ⟨x, rfl, lb, rfl⟩
  · exact .inl .non
  · exact .inl (.int _)
  · exact .inl (.tup e)
  · exact .inr (.inl ⟨x, rfl, lb⟩)
/-- the right side of two signs -/
theorem bad_two : BadTx "a <= b" := badTx (ps := ["a", "<=", "b"]) (by decide +kernel) (by simp) (by unfold Wd; decide +kernel) (by decide) (by decide +kernel) (.step (.name [] [] .nil "a" (by decide +kernel)) (.stuck (no_sign (by decide +kernel) (.inl (by decide +kernel)) (.inl (by decide +kernel)) (.inl (by decide +kernel)))))
/-- the first line and two signs -/
def twoLe (t : Fm) : Str := t.txt false ++ (" <= a <= b" : Str)
theorem twoLe_is (t : Fm) : twoLe t = t.txt false ++ tLe ++ ("a <= b" : Str) := by
  have e : (" <= a <= b" : Str) = tLe ++ ("a <= b" : Str) := by decide +kernel
  unfold twoLe
  rw [e]
  rw [← TL.mk_tl (t.txt false ++ (tLe ++ ("a <= b" : Str))), ← TL.mk_tl (t.txt false ++ tLe ++ ("a <= b" : Str))]
  simp only [TL.tl_append, List.append_assoc]
theorem twoLe_low {t : Fm} (ok : t.Ok) : Lw (twoLe t) := (Lw.txt ok).app (by unfold Lw; decide +kernel)
theorem twoLe_len {t : Fm} (ok : t.Ok) : (twoLe t).length ≤ 13 * t.nl + 10 := by
  have := txt_len false t ok
  have e : (" <= a <= b" : Str).length = 10 := by decide +kernel
  unfold twoLe
  rw [strLen_append]
  omega
/-- what an ask tells of an error whose value the ask makes -/
theorem ask_errV {K : PySem.W.Frag} {CE D CF CT CL CD CN : Addr} {Tb : List (Addr × Str)} {p : Addr} {t : XK → TE} {σ : L2.St} {H : Hp} {Q : VK} {x nm attr : Str} {C : Addr} (hp : PoolAt H p) (hT : LamX.Tabs Tb H)
    (hc : Nm5 CF CT CL CD CN C nm attr) (ht : ∀ (H1 : Hp) (Q' : VK) (E : XK), Mv p Tb H H1 → (∀ (v : V) (H2 : Hp), Same H1 H2 → SV K CE D H2 v x → ErrAt C attr v H2 E) → t E σ H1 Q')
    (q : ∀ (r : Addr) (H' : Hp), Mv p Tb H H' → H' r = some (.lst ([nm, x].map V.str)) → Q (.ref r) H') :
    LamX.tLam Tb (TTc (SV K CE D) CF CT CL CD CN) t σ H Q := by
  refine ⟨hT, fun H1 eN T1 Q' => ?_⟩
  have m1 : Mv p Tb H H1 := .lam eN hp T1
  refine ht H1 _ _ m1 fun v H2 s2 sv e H3 s3 ne => ?_
  have s4 := same_upd (o := .xd [(attr, v)]) ne
  have m2 : Mv p Tb H (upd H3 e (.xd [(attr, v)])) := m1.trans (.same (s2.trans (s3.trans s4)) m1.rx.pool m1.tabs)
  refine .inl ⟨e, v, x, nm, rfl, sv.same (s3.trans s4), ?_, fun r H3 nr s3 hr => q r H3 (m2.trans (.same s3 m2.rx.pool m2.tabs)) hr⟩
  rcases hc with ⟨rfl, rfl, rfl⟩ | ⟨rfl, rfl, rfl⟩ | ⟨rfl, rfl, rfl⟩ | ⟨rfl, rfl, rfl⟩ | ⟨rfl, rfl, rfl⟩
  · exact .inl ⟨rfl, rfl, upd_same⟩
  · exact .inr (.inl ⟨rfl, rfl, upd_same⟩)
  · exact .inr (.inr (.inl ⟨rfl, rfl, upd_same⟩))
  · exact .inr (.inr (.inr (.inl ⟨rfl, rfl, upd_same⟩)))
  · exact .inr (.inr (.inr (.inr ⟨rfl, rfl, upd_same⟩)))
/-- what right has drawn -/
structure RtD (CE D p PL PR me : Addr) (t : Fm) (vo vb vl : V) (to : Str) (x : Sf) (d : PyData) (H : Hp) : Prop where
  hp : PoolAt H p
  T : LamX.Tabs (Tb5 PL PR) H
  e : ExpAt CE H me t
  n8 : t.nl ≤ 8
  o : OdV CE D H vo to
  b : SfAt H vb x
  xd : x.dep ≤ 5
  xn : x.num ≤ 8
  xs : x.size ≤ 15
  l : OddL2 H vl d
section
variable {CE D p PL PR me : Addr} {t : Fm} {vo vb vl : V} {to : Str} {x : Sf} {d : PyData} {H H' : Hp}
theorem RtD.mv (m : Mv p (Tb5 PL PR) H H') (k : RtD CE D p PL PR me t vo vb vl to x d H) : RtD CE D p PL PR me t vo vb vl to x d H' := by
  have st := Stays.mv m k.hp
  exact ⟨m.rx.pool, m.tabs, st.exp k.e, k.n8, k.o.stays st, k.b.keep st, k.xd, k.xn, k.xs, k.l.stays st⟩
theorem RtD.set {tl : Addr} {as : List Addr} {o : HO} (ht : H tl = some (.lst (as.map V.ref))) (hn : as ≠ []) (k : RtD CE D p PL PR me t vo vb vl to x d H) : RtD CE D p PL PR me t vo vb vl to x d (upd H tl o) := by
  have st := Stays.set (o := o) ht hn
  refine ⟨?_, tabs_upd ht k.T, st.exp k.e, k.n8, k.o.stays st, k.b.keep st, k.xd, k.xn, k.xs, k.l.stays st⟩
  obtain ⟨x, y, z, e⟩ := k.hp
  exact ⟨x, y, z, upd_keep ht e fun q => refs_nopool x y z q.symm⟩
end
end K1

namespace K1
open PySem PySem.Spec
open PyProof.Rows L2 L2H EnT StX SmX TxS DuX ClX XdI Tr3 CnB
/-! ### right: its asks -/
abbrev nmRi : List Str := ["_law_pool_here", "_law_shape", "_law_first", "_law_odd", "_law_bad", "_law_line", "_law_told", "_law_due"]
theorem scRi : FnScope nmRi ["_law_pool_here"] (defScope sRight) := ⟨rfl, rfl, rfl, by decide +kernel, rfl, by decide +kernel, by decide +kernel⟩
abbrev cxR (P : Program) (w : World) (K : PySem.W.Frag) (mg : Str → Option Value) (base : Heap) (f : Addr) (cdv : Value) (A : Around) (outer : List Env) (s : Shared) (H : Hp) : Cx := (cxOf CX0 P w K mg base nmRi "_law_right" (defScope sRight) f cdv A outer s H E0).nox
def riRest (i : Nat) : List Stmt := (defBody sRight).drop i
abbrev nIF : Str := "InvalidForm"
abbrev nIT : Str := "InvalidText"
abbrev nNE : Str := "NotAnExpression"
/-- the broad form beside the spoilt one -/
abbrev sfB (x : Sf) : Sf := .nr "|" (bro 8 201) x
abbrev tx5 (t : Fm) : Str := (PyData.str (twoLe t)).shown
/-- what is due, in its order -/
abbrev YYR (t : Fm) (x : Sf) (d : PyData) (to : Str) : List (List Str) := [[nIF, x.dat.shown], [nIT, d.shown], [nIF, (sfB x).dat.shown], [nIT, d.shown], [nIT, tx5 t], [nNE, to], [nNE, to], [nNE, to], [nNE, to], [nNE, to], [nNE, to], [nNE, to]]
/-- before the n-th ask -/
structure AtRi (CE D p PL PR : Addr) (n : Nat) (σ : L2.St) (H : Hp) (En : Ends) : Prop where
  ex : ∃ (me tl : Addr) (t : Fm) (vo vb vl : V) (to : Str) (x : Sf) (d : PyData) (as : List Addr) (HS : Hp) (x1 x7 : Option V), σ = [some (.ref p), x1, some (.ref me), some vo, some vb, some vl, some (.ref tl), x7] ∧ RtD CE D p PL PR me t vo vb vl to x d H ∧
    H tl = some (.lst (as.map V.ref)) ∧ 1 ≤ n ∧ n ≤ 12 ∧ Lists H as ((YYR t x d to).take n) ∧ Mv p (Tb5 PL PR) HS H ∧ HS tl = none ∧ Fin5 p (Tb5 PL PR) HS En
theorem sfB_ok {H : Hp} {vb v : V} {x : Sf} {q : Addr} (hd : x.dep ≤ 5) (hn : x.num ≤ 8) (hs : x.size ≤ 15) (m : FmAt H v (bro 8 201)) (b : SfAt H vb x) (h : H q = some (.tup [.str "|", v, vb])) : SfAt H (.ref q) (sfB x) ∧ (sfB x).dep ≤ 10 ∧ (sfB x).num ≤ 209 ∧ (sfB x).size ≤ 1000 := by
  obtain ⟨ok, nl, dp⟩ := b201
  have sz := Fm.size_nl (bro 8 201)
  refine ⟨.nr h bar_sign m ok b, ?_, ?_, ?_⟩
  · simp only [Sf.dep]
    omega
  · simp only [Sf.num]
    omega
  · simp only [Sf.size]
    omega
section
variable {w : World} {P : Program} {base : Heap} {mg : Str → Option Value} {K : PySem.W.Frag} {CE D CF CT CL CD CN S1 S2 S3 : Addr} {mcE mcF : Value}
variable {f c PL PR : Addr} {A : Around} {outer : List Env} {s : Shared} {H0 : Hp} {p : Addr}
/-- an ask that appends what it is told -/
theorem ri_seg {n : Nat} {t : XK → TE} {params : Arguments} {body : Expr} {scope : Scope} {np lpos pos : Pos} {rest : List Stmt} {p1 p2 p3 p4 : Pos} (hn : n + 1 ≤ 12) (he : PE (cxR P w K mg base f (.ref c) A outer s H0) (.Call (.Name "_law_caught" np) [.Lambda params body scope lpos] [] pos) (LamX.tLam (Tb5 PL PR) (TTc (SV K CE D) CF CT CL CD CN) t))
    (hrest : PSs (cxR P w K mg base f (.ref c) A outer s H0) rest (fun En σ H => AtRi CE D p PL PR (n + 1) σ H En))
    (told : ∀ (me tl : Addr) (ft : Fm) (vo vb vl : V) (to : Str) (x : Sf) (d : PyData) (x1 x7 : Option V) (H : Hp) (Q : VK) (y : List Str), RtD CE D p PL PR me ft vo vb vl to x d H → (YYR ft x d to)[n]? = some y → (∀ (r : Addr) (H' : Hp), Mv p (Tb5 PL PR) H H' → H' r = some (.lst (y.map V.str)) → Q (.ref r) H') →
      LamX.tLam (Tb5 PL PR) (TTc (SV K CE D) CF CT CL CD CN) t [some (.ref p), x1, some (.ref me), some vo, some vb, some vl, some (.ref tl), x7] H Q)
    (hline : (p2.endLine == p3.line) = true := by rfl) :
    PSs (cxR P w K mg base f (.ref c) A outer s H0) (.Expr (.Call (.Attribute (.Name "_law_told" p1) "append" p2) [(.Call (.Name "_law_caught" np) [.Lambda params body scope lpos] [] pos)] [] p3) p4 :: rest) (fun En σ H => AtRi CE D p PL PR n σ H En) := by
  refine pss_of fun En σ H hyp => ?_
  obtain ⟨me, tl, ft, vo, vb, vl, to, x, d, as, HS, x1, x7, eσ, k, ht, h1, h3, ll, mS, nS, fin⟩ := hyp.ex
  refine ⟨_, pss_cons (ps_expr (pe_bm PySem.F.plainAttrs_list PySem.F.slot_list_append PySem.F.type_list_append mt_append (pv 6) (pa_cons he pa_nil) (hline := hline))) hrest, ?_⟩
  subst eσ
  have hl : as.length = n := by
    rw [ll.len, List.length_take]
    show min n 12 = n
    omega
  obtain ⟨y, hy⟩ : ∃ y, (YYR ft x d to)[n]? = some y := ⟨(YYR ft x d to)[n]'(by show n < 12; omega), List.getElem?_eq_getElem _⟩
  refine ⟨_, rfl, .inl ⟨rfl, _, SqL.of ht⟩, told me tl ft vo vb vl to x d x1 x7 H _ y k hy fun r H3 m3 hr => ?_⟩
  have t3 : H3 tl = some (.lst (as.map V.ref)) := m3.at k.hp ht refs_nopool (fun _ e => by cases e)
  have hne : as ≠ [] := fun e => by rw [e] at hl; simp at hl; omega
  refine ⟨tl, _, _, rfl, rfl, t3, by rw [List.length_map, hl, sizeLine_eq]; omega, ?_⟩
  have m4 := (mS.trans m3).upd5 (o := .lst (as.map V.ref ++ [V.ref r])) nS t3
  refine ⟨me, tl, ft, vo, vb, vl, to, x, d, as ++ [r], HS, _, _, rfl, (k.mv m3).set t3 hne, by rw [upd_same, List.map_append]; rfl, by omega, hn, ?_, m4, nS, fin⟩
  rw [List.take_add_one, hy]
  exact ((ll.mv m3 k.hp).set t3 hne).snoc (upd_keep t3 hr (strs_refs hne))
theorem ri14 (W : W5 P w K mg base CE D CF CT CL CD CN S1 S2 S3 mcE mcF) (AK : Asks5 K mg base c PR) (hne : PL ≠ PR) (hgd : A.guards = some []) (hr : Room 47 (A.deeper (envOfC "_law_right" (defScope sRight) s.heap.objs.size f (.ref c))))
    (h15 : PSs (cxR P w K mg base f (.ref c) A outer s H0) (riRest 15) (fun En σ H => AtRi CE D p PL PR 12 σ H En)) :
    PSs (cxR P w K mg base f (.ref c) A outer s H0) (riRest 14) (fun En σ H => AtRi CE D p PL PR 11 σ H En) := by
  obtain ⟨fB, hB⟩ := W.hB
  obtain ⟨fI, MK, FI, FX⟩ := W.mkE
  obtain ⟨fF, MKF, FFi⟩ := W.mkF
  obtain ⟨pE, gE, sE, FE⟩ := W.rdE
  obtain ⟨pF, gF, sF, _, FFX⟩ := W.rdF
  obtain ⟨gS, mS, FS⟩ := W.str
  obtain ⟨gW, fdW, mW, FW, bW⟩ := W.wi
  have T := W.T
  refine ri_seg (by decide) (pe_ask5 (X := cxR P w K mg base f (.ref c) A outer s H0) W AK (by exact hgd) (by exact hr.mono (by decide)) rfl (by rfl) (q := lamR) rfl (List.mem_cons_of_mem _ List.mem_cons_self) (tb_R hne) (t := fun E => tMakeR D (spInitFX K CE CN) E (tCons (tVar 2) (tCons (tVar 3) tNil))) (LamX.lamS_by (sc := defScope sRight) (by decide +kernel))
    (fun A' outer' s' H' E f' c' hr' => ?he)) h15 ?_
  case he =>
    exact pe_makeR MKF FFi (hr'.mono (by decide)) (by rfl) W.MF.g (passes_call (takes_of rfl rfl rfl rfl) fun _ _ _ _ h => h) (pa_cons (pv 2) (pa_cons (pv 3) pa_nil))
  intro me tl t vo vb vl to x d x1 x7 H Q y k hy q
  cases hy
  refine ask_err5 k.hp k.T (v := vo) (x := to) (fun H' m => (k.mv m).o.sv) (.inr (.inr (.inr (.inr ⟨rfl, rfl, rfl⟩)))) (fun H1 Q' E m1 eE => ?_) q
  have k1 := k.mv m1
  exact ⟨_, rfl, _, rfl, fun y dx nx nd ne => mkF_go (.inr ⟨me, t, rfl, k1.e, k1.o.notP W, eE⟩) nx nd ne⟩
theorem ri13 (W : W5 P w K mg base CE D CF CT CL CD CN S1 S2 S3 mcE mcF) (AK : Asks5 K mg base c PR) (hne : PL ≠ PR) (hgd : A.guards = some []) (hr : Room 47 (A.deeper (envOfC "_law_right" (defScope sRight) s.heap.objs.size f (.ref c))))
    (h15 : PSs (cxR P w K mg base f (.ref c) A outer s H0) (riRest 15) (fun En σ H => AtRi CE D p PL PR 12 σ H En)) :
    PSs (cxR P w K mg base f (.ref c) A outer s H0) (riRest 13) (fun En σ H => AtRi CE D p PL PR 10 σ H En) := by
  obtain ⟨fB, hB⟩ := W.hB
  obtain ⟨fI, MK, FI, FX⟩ := W.mkE
  obtain ⟨fF, MKF, FFi⟩ := W.mkF
  obtain ⟨pE, gE, sE, FE⟩ := W.rdE
  obtain ⟨pF, gF, sF, _, FFX⟩ := W.rdF
  obtain ⟨gS, mS, FS⟩ := W.str
  obtain ⟨gW, fdW, mW, FW, bW⟩ := W.wi
  have T := W.T
  refine ri_seg (by decide) (pe_ask5 (X := cxR P w K mg base f (.ref c) A outer s H0) W AK (by exact hgd) (by exact hr.mono (by decide)) rfl (by rfl) (q := lamR) rfl (List.mem_cons_of_mem _ List.mem_cons_self) (tb_R hne) (t := fun E => tMakeR D (spInitFX K CE CN) E (tCons (tVar 3) (tCons (tC .non) tNil))) (LamX.lamS_by (sc := defScope sRight) (by decide +kernel))
    (fun A' outer' s' H' E f' c' hr' => ?he)) (ri14 (p := p) W AK hne hgd hr h15) ?_
  case he =>
    exact pe_makeR MKF FFi (hr'.mono (by decide)) (by rfl) W.MF.g (passes_call (takes_of rfl rfl rfl rfl) fun _ _ _ _ h => h) (pa_cons (pv 3) (pa_cons pe_non pa_nil))
  intro me tl t vo vb vl to x d x1 x7 H Q y k hy q
  cases hy
  refine ask_err5 k.hp k.T (v := vo) (x := to) (fun H' m => (k.mv m).o.sv) (.inr (.inr (.inr (.inr ⟨rfl, rfl, rfl⟩)))) (fun H1 Q' E m1 eE => ?_) q
  have k1 := k.mv m1
  exact ⟨_, rfl, fun y dx nx nd ne => mkF_go (.inl ⟨k1.o.notP W, eE⟩) nx nd ne⟩
theorem ri12 (W : W5 P w K mg base CE D CF CT CL CD CN S1 S2 S3 mcE mcF) (AK : Asks5 K mg base c PR) (hne : PL ≠ PR) (hgd : A.guards = some []) (hr : Room 47 (A.deeper (envOfC "_law_right" (defScope sRight) s.heap.objs.size f (.ref c))))
    (h15 : PSs (cxR P w K mg base f (.ref c) A outer s H0) (riRest 15) (fun En σ H => AtRi CE D p PL PR 12 σ H En)) :
    PSs (cxR P w K mg base f (.ref c) A outer s H0) (riRest 12) (fun En σ H => AtRi CE D p PL PR 9 σ H En) := by
  obtain ⟨fB, hB⟩ := W.hB
  obtain ⟨fI, MK, FI, FX⟩ := W.mkE
  obtain ⟨fF, MKF, FFi⟩ := W.mkF
  obtain ⟨pE, gE, sE, FE⟩ := W.rdE
  obtain ⟨pF, gF, sF, _, FFX⟩ := W.rdF
  obtain ⟨gS, mS, FS⟩ := W.str
  obtain ⟨gW, fdW, mW, FW, bW⟩ := W.wi
  have T := W.T
  refine ri_seg (by decide) (pe_ask5 (X := cxR P w K mg base f (.ref c) A outer s H0) W AK (by exact hgd) (by exact hr.mono (by decide)) rfl (by rfl) (q := lamR) rfl (List.mem_cons_of_mem _ List.mem_cons_self) (tb_R hne) (t := fun E => tMeth CE "within" (spWithinX K CE CN) [] E (tVar 2) (tCons (tVar 3) tNil)) (LamX.lamS_by (sc := defScope sRight) (by decide +kernel))
    (fun A' outer' s' H' E f' c' hr' => ?he)) (ri13 (p := p) W AK hne hgd hr h15) ?_
  case he =>
    exact pe_meth (pv 2) W.M.cl mW FW (hr'.mono (by decide)) bW .nil (passes_call (takes_of rfl rfl rfl rfl) fun _ _ _ _ h => h) (pa_cons (pv 3) pa_nil)
  intro me tl t vo vb vl to x d x1 x7 H Q y k hy q
  cases hy
  refine ask_err5 k.hp k.T (v := vo) (x := to) (fun H' m => (k.mv m).o.sv) (.inr (.inr (.inr (.inr ⟨rfl, rfl, rfl⟩)))) (fun H1 Q' E m1 eE => ?_) q
  have k1 := k.mv m1
  obtain ⟨dx, u, fl, ys, h1, _⟩ := k1.e.at_
  exact ⟨_, rfl, me, dx, _, rfl, h1, ef_within u t fl, _, rfl, _, _, rfl, .inr ⟨me, t, rfl, k1.e, k1.o.notP W, eE⟩⟩
theorem ri11 (W : W5 P w K mg base CE D CF CT CL CD CN S1 S2 S3 mcE mcF) (AK : Asks5 K mg base c PR) (hne : PL ≠ PR) (hgd : A.guards = some []) (hr : Room 47 (A.deeper (envOfC "_law_right" (defScope sRight) s.heap.objs.size f (.ref c))))
    (h15 : PSs (cxR P w K mg base f (.ref c) A outer s H0) (riRest 15) (fun En σ H => AtRi CE D p PL PR 12 σ H En)) :
    PSs (cxR P w K mg base f (.ref c) A outer s H0) (riRest 11) (fun En σ H => AtRi CE D p PL PR 8 σ H En) := by
  obtain ⟨fB, hB⟩ := W.hB
  obtain ⟨fI, MK, FI, FX⟩ := W.mkE
  obtain ⟨fF, MKF, FFi⟩ := W.mkF
  obtain ⟨pE, gE, sE, FE⟩ := W.rdE
  obtain ⟨pF, gF, sF, _, FFX⟩ := W.rdF
  obtain ⟨gS, mS, FS⟩ := W.str
  obtain ⟨gW, fdW, mW, FW, bW⟩ := W.wi
  have T := W.T
  refine ri_seg (by decide) (pe_ask5 (X := cxR P w K mg base f (.ref c) A outer s H0) W AK (by exact hgd) (by exact hr.mono (by decide)) rfl (by rfl) (q := lamR) rfl (List.mem_cons_of_mem _ List.mem_cons_self) (tb_R hne) (t := fun E => tOp (rB5 K CE D CL CD CN "^" E) (tVar 2) (tVar 3)) (LamX.lamS_by (sc := defScope sRight) (by decide +kernel))
    (fun A' outer' s' H' E f' c' hr' => ?he)) (ri12 (p := p) W AK hne hgd hr h15) ?_
  case he =>
    exact pe_op (op_b5 W.o4 (hr'.mono (by decide)) (passes_call (takes_of rfl rfl rfl rfl) fun _ _ _ _ h => h)) (pv 2) (pv 3)
  intro me tl t vo vb vl to x d x1 x7 H Q y k hy q
  cases hy
  refine ask_err5 k.hp k.T (v := vo) (x := to) (fun H' m => (k.mv m).o.sv) (.inr (.inr (.inr (.inr ⟨rfl, rfl, rfl⟩)))) (fun H1 Q' E m1 eE => ?_) q
  have k1 := k.mv m1
  exact ⟨_, rfl, _, rfl, b5_odd W k1.e k1.o eE⟩
theorem ri10 (W : W5 P w K mg base CE D CF CT CL CD CN S1 S2 S3 mcE mcF) (AK : Asks5 K mg base c PR) (hne : PL ≠ PR) (hgd : A.guards = some []) (hr : Room 47 (A.deeper (envOfC "_law_right" (defScope sRight) s.heap.objs.size f (.ref c))))
    (h15 : PSs (cxR P w K mg base f (.ref c) A outer s H0) (riRest 15) (fun En σ H => AtRi CE D p PL PR 12 σ H En)) :
    PSs (cxR P w K mg base f (.ref c) A outer s H0) (riRest 10) (fun En σ H => AtRi CE D p PL PR 7 σ H En) := by
  obtain ⟨fB, hB⟩ := W.hB
  obtain ⟨fI, MK, FI, FX⟩ := W.mkE
  obtain ⟨fF, MKF, FFi⟩ := W.mkF
  obtain ⟨pE, gE, sE, FE⟩ := W.rdE
  obtain ⟨pF, gF, sF, _, FFX⟩ := W.rdF
  obtain ⟨gS, mS, FS⟩ := W.str
  obtain ⟨gW, fdW, mW, FW, bW⟩ := W.wi
  have T := W.T
  refine ri_seg (by decide) (pe_ask5 (X := cxR P w K mg base f (.ref c) A outer s H0) W AK (by exact hgd) (by exact hr.mono (by decide)) rfl (by rfl) (q := lamR) rfl (List.mem_cons_of_mem _ List.mem_cons_self) (tb_R hne) (t := fun E => tOp (rB5 K CE D CL CD CN "-" E) (tVar 2) (tVar 3)) (LamX.lamS_by (sc := defScope sRight) (by decide +kernel))
    (fun A' outer' s' H' E f' c' hr' => ?he)) (ri11 (p := p) W AK hne hgd hr h15) ?_
  case he =>
    exact pe_op (op_b5 W.o3 (hr'.mono (by decide)) (passes_call (takes_of rfl rfl rfl rfl) fun _ _ _ _ h => h)) (pv 2) (pv 3)
  intro me tl t vo vb vl to x d x1 x7 H Q y k hy q
  cases hy
  refine ask_err5 k.hp k.T (v := vo) (x := to) (fun H' m => (k.mv m).o.sv) (.inr (.inr (.inr (.inr ⟨rfl, rfl, rfl⟩)))) (fun H1 Q' E m1 eE => ?_) q
  have k1 := k.mv m1
  exact ⟨_, rfl, _, rfl, b5_odd W k1.e k1.o eE⟩
theorem ri9 (W : W5 P w K mg base CE D CF CT CL CD CN S1 S2 S3 mcE mcF) (AK : Asks5 K mg base c PR) (hne : PL ≠ PR) (hgd : A.guards = some []) (hr : Room 47 (A.deeper (envOfC "_law_right" (defScope sRight) s.heap.objs.size f (.ref c))))
    (h15 : PSs (cxR P w K mg base f (.ref c) A outer s H0) (riRest 15) (fun En σ H => AtRi CE D p PL PR 12 σ H En)) :
    PSs (cxR P w K mg base f (.ref c) A outer s H0) (riRest 9) (fun En σ H => AtRi CE D p PL PR 6 σ H En) := by
  obtain ⟨fB, hB⟩ := W.hB
  obtain ⟨fI, MK, FI, FX⟩ := W.mkE
  obtain ⟨fF, MKF, FFi⟩ := W.mkF
  obtain ⟨pE, gE, sE, FE⟩ := W.rdE
  obtain ⟨pF, gF, sF, _, FFX⟩ := W.rdF
  obtain ⟨gS, mS, FS⟩ := W.str
  obtain ⟨gW, fdW, mW, FW, bW⟩ := W.wi
  have T := W.T
  refine ri_seg (by decide) (pe_ask5 (X := cxR P w K mg base f (.ref c) A outer s H0) W AK (by exact hgd) (by exact hr.mono (by decide)) rfl (by rfl) (q := lamR) rfl (List.mem_cons_of_mem _ List.mem_cons_self) (tb_R hne) (t := fun E => tOp (rB5 K CE D CL CD CN "&" E) (tVar 2) (tVar 3)) (LamX.lamS_by (sc := defScope sRight) (by decide +kernel))
    (fun A' outer' s' H' E f' c' hr' => ?he)) (ri10 (p := p) W AK hne hgd hr h15) ?_
  case he =>
    exact pe_op (op_b5 W.o2 (hr'.mono (by decide)) (passes_call (takes_of rfl rfl rfl rfl) fun _ _ _ _ h => h)) (pv 2) (pv 3)
  intro me tl t vo vb vl to x d x1 x7 H Q y k hy q
  cases hy
  refine ask_err5 k.hp k.T (v := vo) (x := to) (fun H' m => (k.mv m).o.sv) (.inr (.inr (.inr (.inr ⟨rfl, rfl, rfl⟩)))) (fun H1 Q' E m1 eE => ?_) q
  have k1 := k.mv m1
  exact ⟨_, rfl, _, rfl, b5_odd W k1.e k1.o eE⟩
theorem ri8 (W : W5 P w K mg base CE D CF CT CL CD CN S1 S2 S3 mcE mcF) (AK : Asks5 K mg base c PR) (hne : PL ≠ PR) (hgd : A.guards = some []) (hr : Room 47 (A.deeper (envOfC "_law_right" (defScope sRight) s.heap.objs.size f (.ref c))))
    (h15 : PSs (cxR P w K mg base f (.ref c) A outer s H0) (riRest 15) (fun En σ H => AtRi CE D p PL PR 12 σ H En)) :
    PSs (cxR P w K mg base f (.ref c) A outer s H0) (riRest 8) (fun En σ H => AtRi CE D p PL PR 5 σ H En) := by
  obtain ⟨fB, hB⟩ := W.hB
  obtain ⟨fI, MK, FI, FX⟩ := W.mkE
  obtain ⟨fF, MKF, FFi⟩ := W.mkF
  obtain ⟨pE, gE, sE, FE⟩ := W.rdE
  obtain ⟨pF, gF, sF, _, FFX⟩ := W.rdF
  obtain ⟨gS, mS, FS⟩ := W.str
  obtain ⟨gW, fdW, mW, FW, bW⟩ := W.wi
  have T := W.T
  refine ri_seg (by decide) (pe_ask5 (X := cxR P w K mg base f (.ref c) A outer s H0) W AK (by exact hgd) (by exact hr.mono (by decide)) rfl (by rfl) (q := lamR) rfl (List.mem_cons_of_mem _ List.mem_cons_self) (tb_R hne) (t := fun E => tOp (rB5 K CE D CL CD CN "|" E) (tVar 2) (tVar 3)) (LamX.lamS_by (sc := defScope sRight) (by decide +kernel))
    (fun A' outer' s' H' E f' c' hr' => ?he)) (ri9 (p := p) W AK hne hgd hr h15) ?_
  case he =>
    exact pe_op (op_b5 W.o1 (hr'.mono (by decide)) (passes_call (takes_of rfl rfl rfl rfl) fun _ _ _ _ h => h)) (pv 2) (pv 3)
  intro me tl t vo vb vl to x d x1 x7 H Q y k hy q
  cases hy
  refine ask_err5 k.hp k.T (v := vo) (x := to) (fun H' m => (k.mv m).o.sv) (.inr (.inr (.inr (.inr ⟨rfl, rfl, rfl⟩)))) (fun H1 Q' E m1 eE => ?_) q
  have k1 := k.mv m1
  exact ⟨_, rfl, _, rfl, b5_odd W k1.e k1.o eE⟩
theorem ri7 (W : W5 P w K mg base CE D CF CT CL CD CN S1 S2 S3 mcE mcF) (AK : Asks5 K mg base c PR) (hne : PL ≠ PR) (hgd : A.guards = some []) (hr : Room 47 (A.deeper (envOfC "_law_right" (defScope sRight) s.heap.objs.size f (.ref c))))
    (h15 : PSs (cxR P w K mg base f (.ref c) A outer s H0) (riRest 15) (fun En σ H => AtRi CE D p PL PR 12 σ H En)) :
    PSs (cxR P w K mg base f (.ref c) A outer s H0) (riRest 7) (fun En σ H => AtRi CE D p PL PR 4 σ H En) := by
  obtain ⟨fB, hB⟩ := W.hB
  obtain ⟨fI, MK, FI, FX⟩ := W.mkE
  obtain ⟨fF, MKF, FFi⟩ := W.mkF
  obtain ⟨pE, gE, sE, FE⟩ := W.rdE
  obtain ⟨pF, gF, sF, _, FFX⟩ := W.rdF
  obtain ⟨gS, mS, FS⟩ := W.str
  obtain ⟨gW, fdW, mW, FW, bW⟩ := W.wi
  have T := W.T
  refine ri_seg (by decide) (pe_ask5 (X := cxR P w K mg base f (.ref c) A outer s H0) W AK (by exact hgd) (by exact hr.mono (by decide)) rfl (by rfl) (q := lamR) rfl (List.mem_cons_of_mem _ List.mem_cons_self) (tb_R hne) (t := fun E => tSMeth D (spReadFX CT CL CD) E (tC (.ref D)) (tCons (tOp (fun x y H Q => ∃ i j, x = V.str i ∧ y = V.str j ∧ i.length + j.length ≤ sizeLine ∧ Q (V.str (i ++ j)) H) (tCB (fun xs H Q => ∃ a dx fs, xs = [V.ref a] ∧ H a = some (.ins CE dx fs) ∧ (spStrE CE) [V.ref a] H (fun v H' => ∃ z, v = .str z ∧ Q (.str z) H') E0) (tCons (tVar 2) tNil)) (tC (.str " <= a <= b"))) tNil)) (LamX.lamS_by (sc := defScope sRight) (by decide +kernel))
    (fun A' outer' s' H' E f' c' hr' => ?he)) (ri8 (p := p) W AK hne hgd hr h15) ?_
  case he =>
    exact pe_smeth (pe_glob (v := .ref D) (by rfl) W.MF.g rfl) W.rF sF FFX (hr'.mono (by decide)) (passes_call (takes_of rfl rfl rfl rfl) fun _ _ _ _ h => h) (pa_cons (pe_op op_add_str (pe_callTy (call_strO mS FS (hr'.mono (by decide)) pass0) (by rfl) T.str (by decide +kernel) (pa_cons (pv 2) pa_nil)) pe_str) pa_nil)
  intro me tl t vo vb vl to x d x1 x7 H Q y k hy q
  cases hy
  have ok := k.e.ok
  have n8 := k.n8
  have l2 := twoLe_len ok
  refine ask_err5 k.hp k.T (v := .str (twoLe t)) (x := tx5 t) (fun H' m => .dat (low_shows (by omega) (twoLe_low ok))) (.inr (.inl ⟨rfl, rfl, rfl⟩)) (fun H1 Q' E m1 eE => ?_) q
  have k1 := k.mv m1
  obtain ⟨dx, u, fl, ys, h1, _⟩ := k1.e.at_
  refine ⟨rfl, _, rfl, me, dx, _, rfl, h1, me, t, rfl, k1.e, _, rfl, _, _, rfl, rfl, ?_, _, rfl, .inl ⟨.inr (.inr ⟨t, "a <= b", congrArg V.str (twoLe_is t), ok, by omega, bad_two, by decide +kernel⟩), eE⟩⟩
  have l1 := txt_len false t ok
  have e : (" <= a <= b" : Str).length = 10 := by decide +kernel
  rw [e, sizeLine_eq]
  omega
theorem ri6 (W : W5 P w K mg base CE D CF CT CL CD CN S1 S2 S3 mcE mcF) (AK : Asks5 K mg base c PR) (hne : PL ≠ PR) (hgd : A.guards = some []) (hr : Room 47 (A.deeper (envOfC "_law_right" (defScope sRight) s.heap.objs.size f (.ref c))))
    (h15 : PSs (cxR P w K mg base f (.ref c) A outer s H0) (riRest 15) (fun En σ H => AtRi CE D p PL PR 12 σ H En)) :
    PSs (cxR P w K mg base f (.ref c) A outer s H0) (riRest 6) (fun En σ H => AtRi CE D p PL PR 3 σ H En) := by
  obtain ⟨fB, hB⟩ := W.hB
  obtain ⟨fI, MK, FI, FX⟩ := W.mkE
  obtain ⟨fF, MKF, FFi⟩ := W.mkF
  obtain ⟨pE, gE, sE, FE⟩ := W.rdE
  obtain ⟨pF, gF, sF, _, FFX⟩ := W.rdF
  obtain ⟨gS, mS, FS⟩ := W.str
  obtain ⟨gW, fdW, mW, FW, bW⟩ := W.wi
  have T := W.T
  refine ri_seg (by decide) (pe_ask5 (X := cxR P w K mg base f (.ref c) A outer s H0) W AK (by exact hgd) (by exact hr.mono (by decide)) rfl (by rfl) (q := lamR) rfl (List.mem_cons_of_mem _ List.mem_cons_self) (tb_R hne) (t := fun E => tSMeth D (spReadFX CT CL CD) E (tC (.ref D)) (tCons (tVar 5) tNil)) (LamX.lamS_by (sc := defScope sRight) (by decide +kernel))
    (fun A' outer' s' H' E f' c' hr' => ?he)) (ri7 (p := p) W AK hne hgd hr h15) ?_
  case he =>
    exact pe_smeth (pe_glob (v := .ref D) (by rfl) W.MF.g rfl) W.rF sF FFX (hr'.mono (by decide)) (passes_call (takes_of rfl rfl rfl rfl) fun _ _ _ _ h => h) (pa_cons (pv 5) pa_nil)
  intro me tl t vo vb vl to x d x1 x7 H Q y k hy q
  cases hy
  refine ask_err5 k.hp k.T (v := vl) (x := d.shown) (fun H' m => .dat (k.mv m).l.shd) (.inr (.inl ⟨rfl, rfl, rfl⟩)) (fun H1 Q' E m1 eE => ?_) q
  exact ⟨rfl, _, rfl, vl, rfl, .inl ⟨(k.mv m1).l.noFact, eE⟩⟩
theorem ri5 (W : W5 P w K mg base CE D CF CT CL CD CN S1 S2 S3 mcE mcF) (AK : Asks5 K mg base c PR) (hne : PL ≠ PR) (hgd : A.guards = some []) (hr : Room 47 (A.deeper (envOfC "_law_right" (defScope sRight) s.heap.objs.size f (.ref c))))
    (h15 : PSs (cxR P w K mg base f (.ref c) A outer s H0) (riRest 15) (fun En σ H => AtRi CE D p PL PR 12 σ H En)) :
    PSs (cxR P w K mg base f (.ref c) A outer s H0) (riRest 5) (fun En σ H => AtRi CE D p PL PR 2 σ H En) := by
  obtain ⟨fB, hB⟩ := W.hB
  obtain ⟨fI, MK, FI, FX⟩ := W.mkE
  obtain ⟨fF, MKF, FFi⟩ := W.mkF
  obtain ⟨pE, gE, sE, FE⟩ := W.rdE
  obtain ⟨pF, gF, sF, _, FFX⟩ := W.rdF
  obtain ⟨gS, mS, FS⟩ := W.str
  obtain ⟨gW, fdW, mW, FW, bW⟩ := W.wi
  have T := W.T
  refine ri_seg (by decide) (pe_ask5 (X := cxR P w K mg base f (.ref c) A outer s H0) W AK (by exact hgd) (by exact hr.mono (by decide)) rfl (by rfl) (q := lamR) rfl (List.mem_cons_of_mem _ List.mem_cons_self) (tb_R hne) (t := fun E => tMakeR CE (spInitX CF CL CD) E (tCons (tTup (tCons (tC (.str "|")) (tCons (tCall (spBroad 8) [] E0 (tCons (tC (.int 201)) tNil)) (tCons (tVar 4) tNil)))) tNil)) (LamX.lamS_by (sc := defScope sRight) (by decide +kernel))
    (fun A' outer' s' H' E f' c' hr' => ?he)) (ri6 (p := p) W AK hne hgd hr h15) ?_
  case he =>
    exact pe_makeR MK FX (hr'.mono (by decide)) (by rfl) W.M.g (passes_call (takes_of rfl rfl rfl rfl) fun _ _ _ _ h => h) (pa_cons (pe_tup (pa_cons pe_str (pa_cons (pe_has hB (hr'.mono (by decide)) (by rfl) pass0 (pa_cons pe_int pa_nil)) (pa_cons (pv 4) pa_nil)))) pa_nil)
  intro me tl t vo vb vl to x d x1 x7 H Q y k hy q
  cases hy
  refine ask_errV k.hp k.T (.inl ⟨rfl, rfl, rfl⟩) (fun H1 Q' E m1 eE => ?_) q
  have k1 := k.mv m1
  refine ⟨201, rfl, by decide, by decide, by decide, fun v H2 s2 m2 => ?_⟩
  refine ⟨_, rfl, (by show 3 ≤ sizeLine; decide), fun r nr => ?_⟩
  have s3 : Same H2 (upd H2 r (.tup [.str "|", v, vb])) := same_upd nr
  obtain ⟨sf, d1, d2, d3⟩ := sfB_ok k.xd k.xn k.xs (m2.same s3) (k1.b.keep (.same (s2.trans s3))) upd_same
  exact fun y dx nx nd ne => mkX_go (.inr ⟨sfB x, sf, by omega, by omega, eE (.ref r) _ (s2.trans s3) (.sf sf (by omega) (by omega))⟩) nx nd ne
theorem ri4 (W : W5 P w K mg base CE D CF CT CL CD CN S1 S2 S3 mcE mcF) (AK : Asks5 K mg base c PR) (hne : PL ≠ PR) (hgd : A.guards = some []) (hr : Room 47 (A.deeper (envOfC "_law_right" (defScope sRight) s.heap.objs.size f (.ref c))))
    (h15 : PSs (cxR P w K mg base f (.ref c) A outer s H0) (riRest 15) (fun En σ H => AtRi CE D p PL PR 12 σ H En)) :
    PSs (cxR P w K mg base f (.ref c) A outer s H0) (riRest 4) (fun En σ H => AtRi CE D p PL PR 1 σ H En) := by
  obtain ⟨fB, hB⟩ := W.hB
  obtain ⟨fI, MK, FI, FX⟩ := W.mkE
  obtain ⟨fF, MKF, FFi⟩ := W.mkF
  obtain ⟨pE, gE, sE, FE⟩ := W.rdE
  obtain ⟨pF, gF, sF, _, FFX⟩ := W.rdF
  obtain ⟨gS, mS, FS⟩ := W.str
  obtain ⟨gW, fdW, mW, FW, bW⟩ := W.wi
  have T := W.T
  refine ri_seg (by decide) (pe_ask5 (X := cxR P w K mg base f (.ref c) A outer s H0) W AK (by exact hgd) (by exact hr.mono (by decide)) rfl (by rfl) (q := lamR) rfl (List.mem_cons_of_mem _ List.mem_cons_self) (tb_R hne) (t := fun E => tSMeth CE (spReadEX CT CL CD) E (tC (.ref CE)) (tCons (tVar 5) tNil)) (LamX.lamS_by (sc := defScope sRight) (by decide +kernel))
    (fun A' outer' s' H' E f' c' hr' => ?he)) (ri5 (p := p) W AK hne hgd hr h15) ?_
  case he =>
    exact pe_smeth (pe_glob (v := .ref CE) (by rfl) W.M.g rfl) W.rE sE FE (hr'.mono (by decide)) (passes_call (takes_of rfl rfl rfl rfl) fun _ _ _ _ h => h) (pa_cons (pv 5) pa_nil)
  intro me tl t vo vb vl to x d x1 x7 H Q y k hy q
  cases hy
  refine ask_err5 k.hp k.T (v := vl) (x := d.shown) (fun H' m => .dat (k.mv m).l.shd) (.inr (.inl ⟨rfl, rfl, rfl⟩)) (fun H1 Q' E m1 eE => ?_) q
  exact ⟨rfl, _, rfl, vl, rfl, .inl ⟨(k.mv m1).l.noRead, eE⟩⟩
end
end K1

namespace K1
open PySem PySem.Spec
open PyProof.Rows L2 L2H EnT StX SmX TxS DuX ClX XdI Tr3 CnB
/-! ### right: what is due, and the end -/
/-- what right calls -/
structure Rk5 (P : Program) (w : World) (K : PySem.W.Frag) (mg : Str → Option Value) (base : Heap) (PL PR : Addr) : Prop where
  lim : ∃ f, mg "_law_limits_right" = some (.ref f) ∧ PySem.W.keepIn K (.ref f) = true ∧ FnG P w K mg base CX0 46 f (spLimits PL PR)
  hd : ∃ f, Has P w K mg base CX0 1 "_law_draw" f ["_law_pool_here", "_law_many"] spDraw
  hn : ∃ f, Has P w K mg base CX0 2 "_law_names" f ["_law_pool_here", "_law_many"] spNames
  hf : ∃ f, Has P w K mg base CX0 5 "_law_form" f ["_law_pool_here", "_law_words", "_law_deep"] (spFormL 3)
  hs : ∃ f, Has P w K mg base CX0 5 "_law_spoilt" f ["_law_pool_here", "_law_shape"] (spSpoilt 4)
  hb : ∃ f, Has P w K mg base CX0 2 "_law_bad_line" f ["_law_pool_here", "_law_line"] spBadLine
structure AtRE (p PL PR : Addr) (σ : L2.St) (H : Hp) (En : Ends) : Prop where
  ex : ∃ (x1 x2 x3 x4 x5 x6 x7 : Option V), σ = [some (.ref p), x1, x2, x3, x4, x5, x6, x7] ∧ PoolAt H p ∧ LamX.Tabs (Tb5 PL PR) H ∧ Fin5 p (Tb5 PL PR) H En
theorem okS2 {a b : Str} (ha : PyData.strOk a = true) (hb : PyData.strOk b = true) : OkS [a, b] := fun z hz => by
  rcases List.mem_cons.mp hz with e | e
  · rw [e]; exact ha
  · rw [List.mem_singleton.mp e]; exact hb
theorem yyr_ok {CE D p PL PR me : Addr} {t : Fm} {vo vb vl : V} {to : Str} {x : Sf} {d : PyData} {H : Hp} (k : RtD CE D p PL PR me t vo vb vl to x d H) (hs : PyData.strOk (sfB x).dat.shown = true) : ∀ y ∈ YYR t x d to, OkS y := by
  have c1 : PyData.strOk nIF = true := by decide +kernel
  have c2 : PyData.strOk nIT = true := by decide +kernel
  have c3 : PyData.strOk nNE = true := by decide +kernel
  have b := (sf_shown k.b).1.ok
  have l := k.l.ok
  have o := k.o.ok
  have t5 : PyData.strOk (tx5 t) = true := (low_repr (twoLe_low k.e.ok)).ok
  intro y hy
  simp only [List.mem_cons, List.not_mem_nil, or_false] at hy
  rcases hy with rfl | rfl | rfl | rfl | rfl | rfl | rfl | rfl | rfl | rfl | rfl | rfl
  · exact okS2 c1 b
  · exact okS2 c2 l
  · exact okS2 c1 hs
  · exact okS2 c2 l
  · exact okS2 c2 t5
  · exact okS2 c3 o
  · exact okS2 c3 o
  · exact okS2 c3 o
  · exact okS2 c3 o
  · exact okS2 c3 o
  · exact okS2 c3 o
  · exact okS2 c3 o
section
variable {w : World} {P : Program} {base : Heap} {mg : Str → Option Value} {K : PySem.W.Frag} {CE D CF CT CL CD CN S1 S2 S3 : Addr} {mcE mcF : Value}
variable {f c PL PR : Addr} {A : Around} {outer : List Env} {s : Shared} {H0 : Hp} {p : Addr}
theorem ri19 (R : Rk5 P w K mg base PL PR) (hgd : A.guards = some []) (hr : Room 47 (A.deeper (envOfC "_law_right" (defScope sRight) s.heap.objs.size f (.ref c)))) :
    PSs (cxR P w K mg base f (.ref c) A outer s H0) (riRest 19) (fun En σ H => AtRE p PL PR σ H En) := by
  obtain ⟨f2, mg2, kp2, G2⟩ := R.lim
  obtain ⟨fD, hD⟩ := R.hd
  refine pss_of fun En σ H hyp => ?_
  obtain ⟨x1, x2, x3, x4, x5, x6, x7, eσ, hp, hT, fin⟩ := hyp.ex
  refine ⟨_, pss_one (ps_ret (pe_callG (x := "_law_limits_right") G2 (by exact hgd) (hr.mono (by decide)) (by rfl) mg2 kp2 (pa_cons (pe_op op_sub pe_int (pe_has hD (hr.mono (by decide)) (by rfl) pass0 (pa_cons (pv 0) (pa_cons pe_int pa_nil)))) (pa_cons (pe_op op_sub pe_int (pe_has hD (hr.mono (by decide)) (by rfl) pass0 (pa_cons (pv 0) (pa_cons pe_int pa_nil)))) pa_nil)))), ?_⟩
  subst eσ
  refine ⟨_, rfl, p, 9, rfl, hp, by decide, by decide, fun i H1 y1 i0 i1 => ⟨_, _, rfl, rfl, ?_⟩⟩
  have m1 : Mv p (Tb5 PL PR) H H1 := .ext y1 hp hT
  refine ⟨_, rfl, p, 9, rfl, m1.rx.pool, by decide, by decide, fun j H2 y2 j0 j1 => ⟨_, _, rfl, rfl, ?_⟩⟩
  have m2 := m1.trans (.ext y2 m1.rx.pool m1.tabs)
  have e1 : (200 : Int) - i = ((200 - i.toNat : Nat) : Int) := by omega
  have e2 : (20 : Int) - j = ((20 - j.toNat : Nat) : Int) := by omega
  refine ⟨p, 200 - i.toNat, 20 - j.toNat, ?_, by omega, by omega, by omega, by omega, m2.rx.pool, m2.tabs, fun H3 m3 => fin H3 (m2.trans m3)⟩
  show [V.int (200 - i), V.int (20 - j)] ++ [] = _
  rw [e1, e2]
  rfl
theorem ri15 (W : W5 P w K mg base CE D CF CT CL CD CN S1 S2 S3 mcE mcF) (R : Rk5 P w K mg base PL PR) (hgd : A.guards = some []) (hr : Room 47 (A.deeper (envOfC "_law_right" (defScope sRight) s.heap.objs.size f (.ref c)))) :
    PSs (cxR P w K mg base f (.ref c) A outer s H0) (riRest 15) (fun En σ H => AtRi CE D p PL PR 12 σ H En) := by
  obtain ⟨fB, hB⟩ := W.hB
  obtain ⟨gS, mS, FS⟩ := W.str
  have T := W.T
  have rp := W.rp
  refine pss_of fun En σ H hyp => ?_
  obtain ⟨me, tl, t, vo, vb, vl, to, x, d, as, HS, x1, x7, eσ, k, ht, h1, h3, ll, mS', nS, fin⟩ := hyp.ex
  refine ⟨_, pss_cons (ps_set (i := 7) scRi.nd rfl (.inl rfl) (pe_lst (pa_cons (pe_lst (pa_cons pe_str (pa_cons (pe_callB (call_reprV rp (by exact hgd) (hr.mono (by decide))) (by rfl) T.repr (by decide +kernel) (pa_cons (pv 4) pa_nil)) pa_nil))) (pa_cons (pe_lst (pa_cons pe_str (pa_cons (pe_callB (call_reprV rp (by exact hgd) (hr.mono (by decide))) (by rfl) T.repr (by decide +kernel) (pa_cons (pv 5) pa_nil)) pa_nil))) pa_nil))))
    (pss_cons (ps_set (i := 7) scRi.nd rfl (.inl rfl) (pe_op op_cat (pv 7) (pe_lst (pa_cons (pe_lst (pa_cons pe_str (pa_cons (pe_callB (call_reprV rp (by exact hgd) (hr.mono (by decide))) (by rfl) T.repr (by decide +kernel) (pa_cons (pe_tup (pa_cons pe_str (pa_cons (pe_has hB (hr.mono (by decide)) (by rfl) pass0 (pa_cons pe_int pa_nil)) (pa_cons (pv 4) pa_nil)))) pa_nil)) pa_nil))) pa_nil))))
    (pss_cons (ps_set (i := 7) scRi.nd rfl (.inl rfl) (pe_op op_cat (pv 7) (pe_lst (pa_cons (pe_lst (pa_cons pe_str (pa_cons (pe_callB (call_reprV rp (by exact hgd) (hr.mono (by decide))) (by rfl) T.repr (by decide +kernel) (pa_cons (pv 5) pa_nil)) pa_nil))) (pa_cons (pe_lst (pa_cons pe_str (pa_cons (pe_callB (call_reprV rp (by exact hgd) (hr.mono (by decide))) (by rfl) T.repr (by decide +kernel) (pa_cons (pe_op op_add_str (pe_callTy (call_strO mS FS (hr.mono (by decide)) pass0) (by rfl) T.str (by decide +kernel) (pa_cons (pv 2) pa_nil)) pe_str) pa_nil)) pa_nil))) pa_nil)))))
    (pss_cons (ps_if (pt_cmpR (op_neD hr.units) (pv 6) (pe_op op_cat (pv 7) (pe_op op_rep (pe_lst (pa_cons (pe_lst (pa_cons pe_str (pa_cons (pe_callB (call_reprV rp (by exact hgd) (hr.mono (by decide))) (by rfl) T.repr (by decide +kernel) (pa_cons (pv 3) pa_nil)) pa_nil))) pa_nil)) pe_int)) (nomark _)) pss_never pss_nil)
    (ri19 (p := p) (PL := PL) (PR := PR) R hgd hr)))), ?_⟩
  subst eσ
  have n8 := k.n8
  have ok := k.e.ok
  have l2 := twoLe_len ok
  -- the first two
  refine ⟨_, rfl, vb, x.dat.shown, rfl, .sf k.b (by have := k.xd; omega) (by have := k.xn; omega), (by show 2 ≤ sizeLine; decide), fun p1 n1 => ?_⟩
  have s1 := same_upd (o := .lst ([nIF, x.dat.shown].map V.str)) n1
  have g1 : (upd H p1 (.lst ([nIF, x.dat.shown].map V.str))) p1 = some (.lst ([nIF, x.dat.shown].map V.str)) := upd_same
  have eG1 : upd H p1 (.lst [V.str "InvalidForm", V.str x.dat.shown]) = upd H p1 (.lst ([nIF, x.dat.shown].map V.str)) := rfl
  rw [eG1]
  generalize upd H p1 (.lst ([nIF, x.dat.shown].map V.str)) = H1 at s1 g1 ⊢
  have k1 := k.mv (.same s1 k.hp k.T)
  refine ⟨_, rfl, vl, d.shown, rfl, .dat k1.l.shd, (by show 2 ≤ sizeLine; decide), fun p2 n2 => ?_⟩
  have s2 := same_upd (o := .lst ([nIT, d.shown].map V.str)) n2
  have g2 : (upd H1 p2 (.lst ([nIT, d.shown].map V.str))) p2 = some (.lst ([nIT, d.shown].map V.str)) := upd_same
  have eG2 : upd H1 p2 (.lst [V.str "InvalidText", V.str d.shown]) = upd H1 p2 (.lst ([nIT, d.shown].map V.str)) := rfl
  rw [eG2]
  generalize upd H1 p2 (.lst ([nIT, d.shown].map V.str)) = H2 at s2 g2 ⊢
  refine ⟨(by show 2 ≤ sizeLine; decide), fun L1 nL1 => ?_⟩
  have s3 := same_upd (o := .lst ([p1, p2].map V.ref)) nL1
  have gL1 : (upd H2 L1 (.lst ([p1, p2].map V.ref))) L1 = some (.lst ([p1, p2].map V.ref)) := upd_same
  have eL1 : upd H2 L1 (.lst [V.ref p1, V.ref p2]) = upd H2 L1 (.lst ([p1, p2].map V.ref)) := rfl
  rw [eL1]
  generalize upd H2 L1 (.lst ([p1, p2].map V.ref)) = H3 at s3 gL1 ⊢
  have s13 := s1.trans (s2.trans s3)
  have k3 := k.mv (.same s13 k.hp k.T)
  have q1 := s3 _ _ (s2 _ _ g1)
  have q2 := s3 _ _ g2
  -- the third
  refine ⟨_, rfl, 201, rfl, by decide, by decide, by decide, fun v H4 s4 m4 => ?_⟩
  refine ⟨_, rfl, (by show 3 ≤ sizeLine; decide), fun r nr => ?_⟩
  have s5 : Same H4 (upd H4 r (.tup [.str "|", v, vb])) := same_upd nr
  obtain ⟨sf, d1, d2, d3⟩ := sfB_ok k.xd k.xn k.xs (m4.same s5) (k3.b.keep (.same (s4.trans s5))) upd_same
  generalize upd H4 r (.tup [.str "|", v, vb]) = H5 at s5 sf ⊢
  have hs3 : PyData.strOk (sfB x).dat.shown = true := (sf_shown sf).1.ok
  refine ⟨.ref r, (sfB x).dat.shown, rfl, .sf sf (by omega) (by omega), (by show 2 ≤ sizeLine; decide), fun p3 n3 => ?_⟩
  generalize ey3 : (sfB x).dat.shown = y3 at hs3
  have s6 := same_upd (o := .lst ([nIF, y3].map V.str)) n3
  have g3 : (upd H5 p3 (.lst ([nIF, y3].map V.str))) p3 = some (.lst ([nIF, y3].map V.str)) := upd_same
  have eG3 : upd H5 p3 (.lst [V.str "InvalidForm", V.str y3]) = upd H5 p3 (.lst ([nIF, y3].map V.str)) := rfl
  rw [eG3]
  generalize upd H5 p3 (.lst ([nIF, y3].map V.str)) = H6 at s6 g3 ⊢
  refine ⟨(by show 1 ≤ sizeLine; decide), fun M1 nM1 => ?_⟩
  have s7 := same_upd (o := .lst [V.ref p3]) nM1
  have s47 := s4.trans (s5.trans (s6.trans s7))
  refine ⟨L1, M1, _, _, rfl, rfl, s47 _ _ gL1, upd_same, (by show 2 + 1 ≤ sizeLine; decide), fun L2' nL2 => ?_⟩
  have g3 := s7 _ _ g3
  generalize upd H6 M1 (.lst [V.ref p3]) = H7 at s7 s47 nL2 g3 ⊢
  have s8 := same_upd (o := .lst ([p1, p2, p3].map V.ref)) nL2
  have gL2 : (upd H7 L2' (.lst ([p1, p2, p3].map V.ref))) L2' = some (.lst ([p1, p2, p3].map V.ref)) := upd_same
  have eL2 : upd H7 L2' (.lst ([p1, p2].map V.ref ++ [V.ref p3])) = upd H7 L2' (.lst ([p1, p2, p3].map V.ref)) := rfl
  rw [eL2]
  generalize upd H7 L2' (.lst ([p1, p2, p3].map V.ref)) = H8 at s8 gL2 ⊢
  have s48 := s47.trans s8
  have k8 := k3.mv (.same s48 k3.hp k3.T)
  have q1 := s48 _ _ q1
  have q2 := s48 _ _ q2
  have q3 := s8 _ _ g3
  have s18 := s13.trans s48
  clear s1 s2 s3 s4 s5 s6 s7 s8 s47 s48 sf m4 g1 g2 g3 gL1 eG1 eG2 eG3 eL1 eL2
  -- the two behind it
  refine ⟨_, rfl, _, rfl, vl, d.shown, rfl, .dat k8.l.shd, (by show 2 ≤ sizeLine; decide), fun p4 n4 => ?_⟩
  have s1 := same_upd (o := .lst ([nIT, d.shown].map V.str)) n4
  have g4 : (upd H8 p4 (.lst ([nIT, d.shown].map V.str))) p4 = some (.lst ([nIT, d.shown].map V.str)) := upd_same
  have eG4 : upd H8 p4 (.lst [V.str "InvalidText", V.str d.shown]) = upd H8 p4 (.lst ([nIT, d.shown].map V.str)) := rfl
  rw [eG4]
  generalize upd H8 p4 (.lst ([nIT, d.shown].map V.str)) = H9 at s1 g4 ⊢
  have k9 := k8.mv (.same s1 k8.hp k8.T)
  obtain ⟨dx, u, fl, ys, hme, _⟩ := k9.e.at_
  have l1 := txt_len false t ok
  have e10 : (" <= a <= b" : Str).length = 10 := by decide +kernel
  refine ⟨_, rfl, me, dx, _, rfl, hme, me, t, rfl, k9.e, _, rfl, _, _, rfl, rfl, by rw [e10, sizeLine_eq]; omega, .str (twoLe t), tx5 t, rfl, .dat (low_shows (by omega) (twoLe_low ok)), (by show 2 ≤ sizeLine; decide), fun p5 n5 => ?_⟩
  have s2 := same_upd (o := .lst ([nIT, tx5 t].map V.str)) n5
  have g5 : (upd H9 p5 (.lst ([nIT, tx5 t].map V.str))) p5 = some (.lst ([nIT, tx5 t].map V.str)) := upd_same
  have eG5 : upd H9 p5 (.lst [V.str "InvalidText", V.str (tx5 t)]) = upd H9 p5 (.lst ([nIT, tx5 t].map V.str)) := rfl
  rw [eG5]
  generalize upd H9 p5 (.lst ([nIT, tx5 t].map V.str)) = Ha at s2 g5 ⊢
  refine ⟨(by show 2 ≤ sizeLine; decide), fun M2 nM2 => ?_⟩
  have s3 := same_upd (o := .lst [V.ref p4, V.ref p5]) nM2
  have sac := s1.trans (s2.trans s3)
  refine ⟨L2', M2, _, _, rfl, rfl, sac _ _ gL2, upd_same, (by show 3 + 2 ≤ sizeLine; decide), fun L3 nL3 => ?_⟩
  have g4 := s3 _ _ (s2 _ _ g4)
  have g5 := s3 _ _ g5
  generalize upd Ha M2 (.lst [V.ref p4, V.ref p5]) = Hb at s3 sac nL3 g4 g5 ⊢
  have s4 := same_upd (o := .lst ([p1, p2, p3, p4, p5].map V.ref)) nL3
  have gL3 : (upd Hb L3 (.lst ([p1, p2, p3, p4, p5].map V.ref))) L3 = some (.lst ([p1, p2, p3, p4, p5].map V.ref)) := upd_same
  have eL3 : upd Hb L3 (.lst ([p1, p2, p3].map V.ref ++ [V.ref p4, V.ref p5])) = upd Hb L3 (.lst ([p1, p2, p3, p4, p5].map V.ref)) := rfl
  rw [eL3]
  generalize upd Hb L3 (.lst ([p1, p2, p3, p4, p5].map V.ref)) = Hc at s4 gL3 ⊢
  have s8c := sac.trans s4
  have kc := k8.mv (.same s8c k8.hp k8.T)
  have q1 := s8c _ _ q1
  have q2 := s8c _ _ q2
  have q3 := s8c _ _ q3
  have q4 := s4 _ _ g4
  have q5 := s4 _ _ g5
  have s1c := s18.trans s8c
  clear s1 s2 s3 s4 sac g4 g5 eG4 eG5 eL3 s18 s8c gL2
  -- the seven
  refine ⟨_, rfl, _, rfl, _, rfl, vo, to, rfl, kc.o.sv, (by show 2 ≤ sizeLine; decide), fun p6 n6 => ?_⟩
  have s1 := same_upd (o := .lst ([nNE, to].map V.str)) n6
  have g6 : (upd Hc p6 (.lst ([nNE, to].map V.str))) p6 = some (.lst ([nNE, to].map V.str)) := upd_same
  have eG6 : upd Hc p6 (.lst [V.str "NotAnExpression", V.str to]) = upd Hc p6 (.lst ([nNE, to].map V.str)) := rfl
  rw [eG6]
  generalize upd Hc p6 (.lst ([nNE, to].map V.str)) = Hd at s1 g6 ⊢
  refine ⟨(by show 1 ≤ sizeLine; decide), fun M3 nM3 => ?_⟩
  have s2 := same_upd (o := .lst [V.ref p6]) nM3
  refine ⟨M3, 7, [V.ref p6], rfl, rfl, upd_same, by decide, by decide, (by show 1 * 7 ≤ sizeLine; decide), fun M4 nM4 => ?_⟩
  have g6 := s2 _ _ g6
  generalize upd Hd M3 (.lst [V.ref p6]) = He at s2 nM4 g6 ⊢
  have s3 := same_upd (o := .lst ([p6, p6, p6, p6, p6, p6, p6].map V.ref)) nM4
  have gM4 : (upd He M4 (.lst ([p6, p6, p6, p6, p6, p6, p6].map V.ref))) M4 = some (.lst ([p6, p6, p6, p6, p6, p6, p6].map V.ref)) := upd_same
  have eM4 : upd He M4 (.lst (List.replicate (Int.toNat 7) [V.ref p6]).flatten) = upd He M4 (.lst ([p6, p6, p6, p6, p6, p6, p6].map V.ref)) := rfl
  rw [eM4]
  have g6 := s3 _ _ g6
  generalize upd He M4 (.lst ([p6, p6, p6, p6, p6, p6, p6].map V.ref)) = Hf at s3 gM4 g6 ⊢
  have scf := s1.trans (s2.trans s3)
  refine ⟨L3, M4, _, _, rfl, rfl, scf _ _ gL3, gM4, (by show 5 + 7 ≤ sizeLine; decide), fun L4 nL4 => ?_⟩
  have s4 := same_upd (o := .lst ([p1, p2, p3, p4, p5, p6, p6, p6, p6, p6, p6, p6].map V.ref)) nL4
  have gL4 : (upd Hf L4 (.lst ([p1, p2, p3, p4, p5, p6, p6, p6, p6, p6, p6, p6].map V.ref))) L4 = some (.lst ([p1, p2, p3, p4, p5, p6, p6, p6, p6, p6, p6, p6].map V.ref)) := upd_same
  have eL4 : upd Hf L4 (.lst ([p1, p2, p3, p4, p5].map V.ref ++ [p6, p6, p6, p6, p6, p6, p6].map V.ref)) = upd Hf L4 (.lst ([p1, p2, p3, p4, p5, p6, p6, p6, p6, p6, p6, p6].map V.ref)) := rfl
  rw [eL4]
  generalize upd Hf L4 (.lst ([p1, p2, p3, p4, p5, p6, p6, p6, p6, p6, p6, p6].map V.ref)) = Hg at s4 gL4 ⊢
  have scg := scf.trans s4
  have q1 := scg _ _ q1
  have q2 := scg _ _ q2
  have q3 := scg _ _ q3
  have q4 := scg _ _ q4
  have q5 := scg _ _ q5
  have q6 := s4 _ _ g6
  have sHg := s1c.trans scg
  have lb : Lists Hg [p1, p2, p3, p4, p5, p6, p6, p6, p6, p6, p6, p6] (YYR t x d to) := by
    show Lists Hg _ [[nIF, x.dat.shown], [nIT, d.shown], [nIF, (sfB x).dat.shown], [nIT, d.shown], [nIT, tx5 t], [nNE, to], [nNE, to], [nNE, to], [nNE, to], [nNE, to], [nNE, to], [nNE, to]]
    rw [ey3]
    exact (((((((((((Lists.nil.snoc q1).snoc q2).snoc q3).snoc q4).snoc q5).snoc q6).snoc q6).snoc q6).snoc q6).snoc q6).snoc q6).snoc q6
  have la : Lists Hg as (YYR t x d to) := ll.same sHg
  have oks := yyr_ok k (by rw [ey3]; exact hs3)
  refine ⟨_, _, .lst (SqL.of (sHg _ _ ht)) (la.dp (K := K)), .lst (SqL.of gL4) (lb.dp (K := K)), lsD_shaped oks, lsD_shaped oks, _, rfl, ?_⟩
  rw [lsD_eqv oks]
  have mG : Mv p (Tb5 PL PR) H Hg := .same sHg k.hp k.T
  exact iteF ⟨_, _, _, _, _, _, _, rfl, mG.rx.pool, mG.tabs, fun H' m' => fin H' ((mS'.trans mG).trans m')⟩
end
end K1

namespace K1
open PySem PySem.Spec
open PyProof.Rows L2 L2H EnT StX SmX TxS DuX ClX XdI Tr3 CnB
/-! ### right, whole -/
/-- a list is made that was not there -/
theorem fin5_new {p : Addr} {Tb : List (Addr × Str)} {H H7 : Hp} {En : Ends} {tl r : Addr} (fin : Fin5 p Tb H En) (m : Mv p Tb H H7) (nt : H7 tl = none) :
    Mv p Tb (L2.del H tl) (upd H7 tl (.lst ([r].map V.ref))) ∧ (L2.del H tl) tl = none ∧ Fin5 p Tb (L2.del H tl) En := by
  have s8 := same_upd (o := .lst ([r].map V.ref)) nt
  have m68 : Mv p Tb H (upd H7 tl (.lst ([r].map V.ref))) := m.trans (.same s8 m.rx.pool m.tabs)
  have nH : H tl = none ∨ ∃ ps, H tl = some (.tbl ps) := by
    cases hh : H tl with
    | none => exact .inl rfl
    | some o =>
      by_cases tb : ∃ ps, o = .tbl ps
      · obtain ⟨ps, e⟩ := tb
        exact .inr ⟨ps, by rw [e]⟩
      · exfalso
        by_cases ep : tl = p
        · obtain ⟨i, j, k, e⟩ := m.rx.pool
          rw [← ep, nt] at e
          cases e
        · have := m.rx.keep tl o ep hh (fun ps e => tb ⟨ps, e⟩)
          rw [nt] at this
          cases this
  refine ⟨⟨⟨m68.rx.pool, fun b o nb e nt' => ?_⟩, m68.tabs⟩, L2.del_same, fun H' m' => ?_⟩
  · by_cases k : b = tl
    · rw [k, L2.del_same] at e
      cases e
    · rw [L2.del_ne k] at e
      exact m68.rx.keep b o nb e nt'
  · refine fin H' ⟨⟨m'.rx.pool, fun b o nb e nt' => ?_⟩, m'.tabs⟩
    by_cases k : b = tl
    · subst k
      rcases nH with z | ⟨ps, z⟩
      · rw [z] at e
        cases e
      · rw [z] at e
        exact absurd (Option.some.inj e).symm (nt' ps)
    · exact m'.rx.keep b o nb (by rw [L2.del_ne k]; exact e) nt'
structure AtR3 (CE D p PL PR : Addr) (σ : L2.St) (H : Hp) (En : Ends) : Prop where
  ex : ∃ (me : Addr) (t : Fm) (vo vb vl : V) (to : Str) (x : Sf) (d : PyData) (x1 x6 x7 : Option V), σ = [some (.ref p), x1, some (.ref me), some vo, some vb, some vl, x6, x7] ∧ RtD CE D p PL PR me t vo vb vl to x d H ∧ Fin5 p (Tb5 PL PR) H En
structure AtR2 (CE D p PL PR : Addr) (σ : L2.St) (H : Hp) (En : Ends) : Prop where
  ex : ∃ (me : Addr) (v : V) (t : Fm) (vo : V) (to : Str) (x4 x5 x6 x7 : Option V), σ = [some (.ref p), some v, some (.ref me), some vo, x4, x5, x6, x7] ∧ PoolAt H p ∧ LamX.Tabs (Tb5 PL PR) H ∧ FmAt H v t ∧ t.dep ≤ 4 ∧ ExpAt CE H me t ∧ OdV CE D H vo to ∧ Fin5 p (Tb5 PL PR) H En
structure AtR1 (p PL PR : Addr) (σ : L2.St) (H : Hp) (En : Ends) : Prop where
  ex : ∃ (v : V) (t : Fm) (x2 x3 x4 x5 x6 x7 : Option V), σ = [some (.ref p), some v, x2, x3, x4, x5, x6, x7] ∧ PoolAt H p ∧ LamX.Tabs (Tb5 PL PR) H ∧ FmAt H v t ∧ t.Ok ∧ t.dep ≤ 4 ∧ Fin5 p (Tb5 PL PR) H En
structure AtR0 (p PL PR : Addr) (σ : L2.St) (H : Hp) (En : Ends) : Prop where
  ex : σ = [some (.ref p), none, none, none, none, none, none, none]
  hp : PoolAt H p
  T : LamX.Tabs (Tb5 PL PR) H
  fin : Fin5 p (Tb5 PL PR) H En
theorem nl_eight {t : Fm} (h : t.dep ≤ 4) : t.nl ≤ 8 := Nat.le_trans (Fm.nl_dep t) (Nat.le_trans (Nat.pow_le_pow_right (by decide) (show t.dep - 1 ≤ 3 by omega)) (by decide))
theorem nm_given5 : nameB tGiven = true := by decide +kernel
theorem nm_none5 : nameB tNone = true := by decide +kernel
section
variable {w : World} {P : Program} {base : Heap} {mg : Str → Option Value} {K : PySem.W.Frag} {CE D CF CT CL CD CN S1 S2 S3 : Addr} {mcE mcF : Value}
variable {f c PL PR : Addr} {A : Around} {outer : List Env} {s : Shared} {H0 : Hp} {p : Addr}
theorem ri3 (W : W5 P w K mg base CE D CF CT CL CD CN S1 S2 S3 mcE mcF) (AK : Asks5 K mg base c PR) (R : Rk5 P w K mg base PL PR) (hne : PL ≠ PR) (hgd : A.guards = some []) (hr : Room 47 (A.deeper (envOfC "_law_right" (defScope sRight) s.heap.objs.size f (.ref c)))) :
    PSs (cxR P w K mg base f (.ref c) A outer s H0) (riRest 3) (fun En σ H => AtR3 CE D p PL PR σ H En) := by
  obtain ⟨fI, MK, FI, FX⟩ := W.mkE
  refine pss_of fun En σ H hyp => ?_
  obtain ⟨me, t, vo, vb, vl, to, x, d, x1, x6, x7, eσ, k, fin⟩ := hyp.ex
  refine ⟨_, pss_cons (ps_set (i := 6) scRi.nd rfl (.inl rfl) (pe_lst (pa_cons (pe_ask5 (X := cxR P w K mg base f (.ref c) A outer s H0) W AK (by exact hgd) (by exact hr.mono (by decide)) rfl (by rfl) (q := lamR) rfl (List.mem_cons_of_mem _ List.mem_cons_self) (tb_R hne) (t := fun E => tMakeR CE (spInitX CF CL CD) E (tCons (tVar 4) tNil)) (LamX.lamS_by (sc := defScope sRight) (by decide +kernel))
      (fun A' outer' s' H' E f' c' hr' => ?he)) pa_nil)))
    (ri4 (p := p) (CE := CE) (D := D) W AK hne hgd hr (ri15 (p := p) W R hgd hr)), ?_⟩
  case he =>
    exact pe_makeR MK FX (hr'.mono (by decide)) (by rfl) W.M.g (passes_call (takes_of rfl rfl rfl rfl) fun _ _ _ _ h => h) (pa_cons (pv 4) pa_nil)
  subst eσ
  have xs := k.xs
  have xd := k.xd
  have xn := k.xn
  refine ask_err5 k.hp k.T (v := vb) (x := x.dat.shown) (fun H' m => .sf (k.mv m).b (by omega) (by omega)) (.inl ⟨rfl, rfl, rfl⟩) (fun H1 Q' E m1 eE => ?_) fun r H7 m7 hr7 => ?_
  · exact ⟨_, rfl, fun y dx nx nd ne => mkX_go (.inr ⟨x, (k.mv m1).b, by omega, by omega, eE⟩) nx nd ne⟩
  · refine ⟨by show 1 ≤ sizeLine; decide, fun tl nt => ?_⟩
    obtain ⟨mS, nS, fin'⟩ := fin5_new (r := r) fin m7 nt
    have s8 := same_upd (o := .lst ([r].map V.ref)) nt
    have k7 := k.mv m7
    have k8 := k7.mv (.same s8 k7.hp k7.T)
    exact ⟨me, tl, t, vo, vb, vl, to, x, d, [r], L2.del H tl, _, _, rfl, k8, upd_same, by decide, by decide, Lists.nil.snoc (s8 _ _ hr7), mS, nS, fin'⟩
theorem ri2 (W : W5 P w K mg base CE D CF CT CL CD CN S1 S2 S3 mcE mcF) (AK : Asks5 K mg base c PR) (R : Rk5 P w K mg base PL PR) (hne : PL ≠ PR) (hgd : A.guards = some []) (hr : Room 47 (A.deeper (envOfC "_law_right" (defScope sRight) s.heap.objs.size f (.ref c)))) :
    PSs (cxR P w K mg base f (.ref c) A outer s H0) (riRest 2) (fun En σ H => AtR2 CE D p PL PR σ H En) := by
  obtain ⟨fS, hS⟩ := R.hs
  obtain ⟨fB, hB⟩ := R.hb
  obtain ⟨gS, mS, FS⟩ := W.str
  have T := W.T
  refine pss_of fun En σ H hyp => ?_
  obtain ⟨me, v, t, vo, to, x4, x5, x6, x7, eσ, hp, hT, fm, d4, e, o, fin⟩ := hyp.ex
  refine ⟨_, pss_cons (ps_asg (pe_tup (pa_cons (pe_has hS (hr.mono (by decide)) (by rfl) pass0 (pa_cons (pv 0) (pa_cons (pv 1) pa_nil))) (pa_cons (pe_has hB (hr.mono (by decide)) (by rfl) pass0 (pa_cons (pv 0) (pa_cons (pe_callTy (call_strO mS FS (hr.mono (by decide)) pass0) (by rfl) T.str (by decide +kernel) (pa_cons (pv 2) pa_nil)) pa_nil))) pa_nil)))
      (pg_tup rfl (pgs_cons (pg_name (i := 4) scRi.nd rfl (.inr rfl)) (pgs_cons (pg_name (i := 5) scRi.nd rfl (.inr rfl)) pgs_nil))))
    (ri3 (p := p) (CE := CE) (D := D) W AK R hne hgd hr), ?_⟩
  subst eσ
  have ok := e.ok
  have n8 := nl_eight d4
  have sz := Fm.size_nl t
  refine ⟨_, rfl, _, rfl, p, v, t, rfl, hp, fm, ok, d4, fun vb x H1 y1 hx xn xd xs => ?_⟩
  have m1 : Mv p (Tb5 PL PR) H H1 := .ext y1 hp hT
  have e1 := m1.exp5 hp e
  obtain ⟨dx, u, fl, ys, h1, _⟩ := e1.at_
  refine ⟨_, rfl, _, rfl, me, dx, _, rfl, h1, me, t, rfl, e1, _, rfl, p, t, rfl, m1.rx.pool, ok, by omega, fun vl H2 y2 hl => ?_⟩
  have m2' : Mv p (Tb5 PL PR) H1 H2 := .ext y2 m1.rx.pool m1.tabs
  have m2 := m1.trans m2'
  refine ⟨(by show 2 ≤ sizeLine; decide), fun q nq => ?_⟩
  have s3 := same_upd (o := .tup [vb, vl]) nq
  have gq : (upd H2 q (.tup [vb, vl])) q = some (.tup [vb, vl]) := upd_same
  generalize upd H2 q (.tup [vb, vl]) = H3 at s3 gq ⊢
  have m3 := m2.trans (.same s3 m2.rx.pool m2.tabs)
  have st2 : Stays H1 H3 := fun a o e n nt r => s3 a o ((Stays.mv m2' m1.rx.pool) a o e n nt r)
  obtain ⟨d, hd⟩ := hl.two
  refine ⟨q, _, rfl, SqT.of gq, rfl, _, _, rfl, _, _, rfl, rfl, ?_⟩
  exact ⟨me, t, vo, vb, vl, to, x, d, _, _, _, rfl, ⟨m3.rx.pool, m3.tabs, m3.exp5 hp e, n8, o.stays (Stays.mv m3 hp), hx.keep st2, by omega, by omega, by omega, hd.stays (.same s3)⟩, fun H' m' => fin H' (m3.trans m')⟩
theorem ri1 (W : W5 P w K mg base CE D CF CT CL CD CN S1 S2 S3 mcE mcF) (AK : Asks5 K mg base c PR) (R : Rk5 P w K mg base PL PR) (hne : PL ≠ PR) (hgd : A.guards = some []) (hr : Room 47 (A.deeper (envOfC "_law_right" (defScope sRight) s.heap.objs.size f (.ref c)))) :
    PSs (cxR P w K mg base f (.ref c) A outer s H0) (riRest 1) (fun En σ H => AtR1 p PL PR σ H En) := by
  obtain ⟨fI, MK, FI, FX⟩ := W.mkE
  obtain ⟨pF, gF, sF, FF, _⟩ := W.rdF
  obtain ⟨fD, hD⟩ := R.hd
  refine pss_of fun En σ H hyp => ?_
  obtain ⟨v, t, x2, x3, x4, x5, x6, x7, eσ, hp, hT, fm, ok, d4, fin⟩ := hyp.ex
  refine ⟨_, pss_cons (ps_asg (pe_tup (pa_cons (pe_makeR MK FI (hr.mono (by decide)) (by rfl) W.M.g pass0 (pa_cons (pv 1) pa_nil)) (pa_cons (pe_ix ix_list (pe_lst (pa_cons pe_non (pa_cons pe_int (pa_cons pe_str (pa_cons (pe_tup (pa_cons pe_str (pa_cons pe_str (pa_cons pe_str pa_nil)))) (pa_cons (pe_tup pa_nil) (pa_cons (pe_smeth (pe_glob (v := .ref D) (by rfl) W.MF.g rfl) W.rF sF FF (hr.mono (by decide)) pass0 (pa_cons pe_str pa_nil)) pa_nil)))))))
      (pe_has hD (hr.mono (by decide)) (by rfl) pass0 (pa_cons (pv 0) (pa_cons pe_int pa_nil))) (fun _ _ => rfl)) pa_nil)))
      (pg_tup rfl (pgs_cons (pg_name (i := 2) scRi.nd rfl (.inr rfl)) (pgs_cons (pg_name (i := 3) scRi.nd rfl (.inr rfl)) pgs_nil))))
    (ri2 (p := p) (CE := CE) (D := D) W AK R hne hgd hr), ?_⟩
  subst eσ
  have n8 := nl_eight d4
  refine ⟨_, rfl, fun a xa na nxa nea => makeE_at fm ok (by omega) (by omega) na nxa nea fun H1 s1 e1 => ⟨rfl, ?_⟩⟩
  refine ⟨(by decide), fun t1 n1 => ⟨(by decide), fun t2 n2 => ?_⟩⟩
  have s2 := same_upd (o := .tup [.str "|", .str "a", .str "b"]) n1
  have g1 : (upd H1 t1 (.tup [.str "|", .str "a", .str "b"])) t1 = some (.tup ((["|", "a", "b"] : List Str).map V.str)) := upd_same
  generalize upd H1 t1 (.tup [.str "|", .str "a", .str "b"]) = H2 at s2 g1 n2 ⊢
  have s3 := same_upd (o := .tup []) n2
  have g2 : (upd H2 t2 (.tup [])) t2 = some (.tup (([] : List Str).map V.str)) := upd_same
  generalize upd H2 t2 (.tup []) = H3 at s3 g2 ⊢
  have ef : ("a <= b" : Str) = facText fA (.leaf "b") := by decide +kernel
  refine ⟨rfl, fA, .leaf "b", by rw [← ef], ⟨ok_fA, by decide, by decide⟩, ⟨ok_fB, by decide, by decide⟩, fun fa ea eb H4 s4 mF => ?_⟩
  refine ⟨(by show 6 ≤ sizeLine; decide), fun L nL => ?_⟩
  have s5 := same_upd (o := .lst [.non, .int 0, .str "a", .ref t1, .ref t2, .ref fa]) nL
  have gL : (upd H4 L (.lst [.non, .int 0, .str "a", .ref t1, .ref t2, .ref fa])) L = some (.lst [.non, .int 0, .str "a", .ref t1, .ref t2, .ref fa]) := upd_same
  generalize upd H4 L (.lst [.non, .int 0, .str "a", .ref t1, .ref t2, .ref fa]) = H5 at s5 gL ⊢
  have s45 := s4.trans s5
  have g1 := s45 _ _ (s3 _ _ g1)
  have g2 := s45 _ _ g2
  have mF := mF.same s5
  have e5 := ((e1.same s2).same s3).same s45
  have s15 := s1.trans (s2.trans (s3.trans s45))
  have m5 : Mv p (Tb5 PL PR) H H5 := .same s15 hp hT
  have all : ∀ (j : Nat) (y : V), ([.non, .int 0, .str "a", .ref t1, .ref t2, .ref fa] : List V)[j]? = some y → ∃ to, OdV CE D H5 y to := fun j y hy => by
    match j, hy with
    | 0, hy => cases hy; exact ⟨_, .inl ⟨_, .non, rfl⟩⟩
    | 1, hy => cases hy; exact ⟨_, .inl ⟨_, .int, rfl⟩⟩
    | 2, hy => cases hy; exact ⟨_, .inl ⟨_, .str, rfl⟩⟩
    | 3, hy => cases hy; exact ⟨_, .inl ⟨_, .tup _ _ (by decide +kernel) g1, rfl⟩⟩
    | 4, hy => cases hy; exact ⟨_, .inl ⟨_, .tup _ _ (by decide +kernel) g2, rfl⟩⟩
    | 5, hy => cases hy; exact ⟨_, .inr ⟨fa, ea, eb, rfl, mF, rfl⟩⟩
    | n + 6, hy => cases hy
  refine ⟨_, rfl, p, 6, rfl, m5.rx.pool, by decide, by decide, fun i H6 y6 i0 i1 => ?_⟩
  have m6' : Mv p (Tb5 PL PR) H5 H6 := .ext y6 m5.rx.pool m5.tabs
  have m6 := m5.trans m6'
  have Lp : L ≠ p := fun e => by
    obtain ⟨i, j, k, ep⟩ := m5.rx.pool
    rw [e, ep] at gL
    cases gL
  obtain ⟨j, rfl⟩ : ∃ j : Nat, i = (j : Int) := ⟨i.toNat, by omega⟩
  obtain ⟨y, hy⟩ : ∃ y, ([.non, .int 0, .str "a", .ref t1, .ref t2, .ref fa] : List V)[j]? = some y := ⟨_, List.getElem?_eq_getElem (show j < 6 by omega)⟩
  obtain ⟨to, ho⟩ := all j y hy
  refine ⟨L, _, _, y, rfl, rfl, SqL.of (y6.at Lp gL), atI_nat hy, ?_⟩
  clear all
  refine ⟨(by show 2 ≤ sizeLine; decide), fun q nq => ?_⟩
  have s7 := same_upd (o := .tup [.ref a, y]) nq
  have gq : (upd H6 q (.tup [.ref a, y])) q = some (.tup [.ref a, y]) := upd_same
  generalize upd H6 q (.tup [.ref a, y]) = H7 at s7 gq ⊢
  have m7' := m6'.trans (.same s7 m6.rx.pool m6.tabs)
  have m7 := m6.trans (.same s7 m6.rx.pool m6.tabs)
  refine ⟨q, _, rfl, SqT.of gq, rfl, _, _, rfl, _, _, rfl, rfl, ?_⟩
  exact ⟨a, v, t, y, to, _, _, _, _, rfl, m7.rx.pool, m7.tabs, fm.keep (stays_tup (Stays.mv m7 hp)), d4, m7'.exp5 m5.rx.pool e5, ho.stays (Stays.mv m7' m5.rx.pool), fun H' m' => fin H' (m7.trans m')⟩
theorem ri0 (W : W5 P w K mg base CE D CF CT CL CD CN S1 S2 S3 mcE mcF) (AK : Asks5 K mg base c PR) (R : Rk5 P w K mg base PL PR) (hne : PL ≠ PR) (hgd : A.guards = some []) (hr : Room 47 (A.deeper (envOfC "_law_right" (defScope sRight) s.heap.objs.size f (.ref c)))) :
    PSs (cxR P w K mg base f (.ref c) A outer s H0) (defBody sRight) (fun En σ H => AtR0 p PL PR σ H En) := by
  obtain ⟨fN, hN⟩ := R.hn
  obtain ⟨fF, hF⟩ := R.hf
  refine pss_of fun En σ H hyp => ?_
  obtain ⟨eσ, hp, hT, fin⟩ := hyp
  refine ⟨_, pss_cons (ps_set (i := 1) scRi.nd rfl (.inl rfl) (pe_has hF (hr.mono (by decide)) (by rfl) pass0 (pa_cons (pv 0) (pa_cons (pe_op op_cat (pe_has hN (hr.mono (by decide)) (by rfl) pass0 (pa_cons (pv 0) (pa_cons pe_int pa_nil))) (pe_lst (pa_cons pe_str (pa_cons pe_str pa_nil)))) (pa_cons pe_int pa_nil)))))
    (ri1 (p := p) (CE := CE) (D := D) W AK R hne hgd hr), ?_⟩
  subst eσ
  refine ⟨_, rfl, _, rfl, p, 3, rfl, hp, by decide, fun q zs H1 x1 nq hq len tg nd => ?_⟩
  refine ⟨(by show 2 ≤ sizeLine; decide), fun M nM => ?_⟩
  have s2 := same_upd (o := .lst [.str tGiven, .str tNone]) nM
  refine ⟨q, M, _, _, rfl, rfl, s2 _ _ hq, upd_same, by rw [List.length_map, len]; show 3 + 2 ≤ sizeLine; decide, fun L nL => ?_⟩
  generalize upd H1 M (.lst [.str tGiven, .str tNone]) = H2 at s2 nL ⊢
  have eL : zs.map V.str ++ [V.str "given", V.str "none"] = (zs ++ [tGiven, tNone]).map V.str := by rw [List.map_append]; rfl
  rw [eL]
  have s3 := same_upd (o := .lst ((zs ++ [tGiven, tNone]).map V.str)) nL
  have gL : (upd H2 L (.lst ((zs ++ [tGiven, tNone]).map V.str))) L = some (.lst ((zs ++ [tGiven, tNone]).map V.str)) := upd_same
  generalize upd H2 L (.lst ((zs ++ [tGiven, tNone]).map V.str)) = H3 at s3 gL ⊢
  have x3 : K1.Ext p H H3 := x1.same (s2.trans s3)
  have Lp : L ≠ p := fun e => by
    obtain ⟨i, j, k, ep⟩ := x3.pool
    rw [e, ep] at gL
    exact strs_nopool i j k (Option.some.inj gL).symm
  have l5 : (zs ++ [tGiven, tNone]).length = 5 := by rw [List.length_append, len]; rfl
  have nm : ∀ z ∈ zs ++ [tGiven, tNone], nameB z = true := fun z hz => by
    rcases List.mem_append.mp hz with h | h
    · exact tag_name (tg z h)
    · rcases List.mem_cons.mp h with h | h
      · rw [h]; exact nm_given5
      · rw [List.mem_singleton.mp h]; exact nm_none5
  refine ⟨p, L, zs ++ [tGiven, tNone], 3, rfl, x3.pool, Lp, gL, by rw [l5]; decide, by rw [l5]; decide, nm, by decide, fun v t H4 x4 fm ok dp lv => ?_⟩
  have m4 : Mv p (Tb5 PL PR) H H4 := .ext (x3.trans x4) hp hT
  exact ⟨v, t, _, _, _, _, _, _, rfl, m4.rx.pool, m4.tabs, fm, ok, dp, fun H' m' => fin H' (m4.trans m')⟩
def spRight (PL PR : Addr) : Sp := fun vs H Q _ => ∃ p : Addr, vs = [.ref p] ∧ PoolAt H p ∧ LamX.Tabs (Tb5 PL PR) H ∧ ∀ H', Mv p (Tb5 PL PR) H H' → Q (.bl true) H'
theorem ok_right (W : W5 P w K mg base CE D CF CT CL CD CN S1 S2 S3 mcE mcF) (AK : Asks5 K mg base c PR) (R : Rk5 P w K mg base PL PR) (hne : PL ≠ PR) (FR : FunC K "_law_right" "_law_right" sRight f c) : FnG P w K mg base CX0 48 f (spRight PL PR) := by
  intro A outer st H us vs Q E hgd hr e0 r hyp
  obtain ⟨p, rfl, hp, hT, q⟩ := hyp
  obtain ⟨oc, od, kV, doc, pm, an, ct, osl, lk, hcd⟩ := FR.ex
  refine LamX.run_ofS (N := nmRi) (ps := ["_law_pool_here"]) (us := us) (vs := [.ref p]) lk hcd scRi hr e0 ?_ r rfl fun hr' => ⟨_, (ri0 (p := p) (PL := PL) (PR := PR) W AK R hne hgd hr').nox, ?_⟩
  · have b : L2.Binds K (PySem.W.fnOf "_law_right" "_law_right" (defArgs sRight) (defBody sRight) (defScope sRight) .none kV doc pm an (.ref c) ct) ["_law_pool_here"] [] := .all fun us hl => match us, hl with | [_], _ => rfl
    have hl : us.length = 1 := by rw [← r.length]; rfl
    have z := b st us (e0.mod.kin.keeps fun b o e => (e0.bs b o e).1) (by rw [List.append_nil]; exact hl)
    rw [List.append_nil] at z
    exact z
  · exact ⟨rfl, hp, hT, fun H' m' => q H' m'⟩
end
end K1

namespace K1
open PySem PySem.Spec
open PyProof.Rows L2 L2H EnT StX SmX TxS DuX XdI Tr3 CnB ClX
/-! ### the law -/
abbrev nmLaw : List Str := ["_law_cells", "_law_k"]
theorem scLaw : FnScope nmLaw ["_law_cells"] (defScope sLaw) := ⟨rfl, rfl, rfl, by decide +kernel, rfl, by decide +kernel, by decide +kernel⟩
/-- the law's promise: it tells True -/
def spLaw (K : PySem.W.Frag) (PL PR : Addr) : Sp := fun vs H Q _ => ∃ (a : Addr) (ns : List Int), vs = [.ref a] ∧ SqL K H a (ns.map V.int) ∧ ns.length < 2 ^ 60 ∧ LamX.Tabs (Tb5 PL PR) H ∧ ∀ H', Q (.bl true) H'
/-- all but the tables stays -/
structure LX (PL PR : Addr) (H H' : Hp) : Prop where
  keep : ∀ b o, H b = some o → (∀ ps, o ≠ .tbl ps) → H' b = some o
  tabs : LamX.Tabs (Tb5 PL PR) H'
theorem LX.seq {K : PySem.W.Frag} {PL PR a : Addr} {H H' : Hp} {xs : List V} (x : LX PL PR H H') (h : SqL K H a xs) : SqL K H' a xs := by
  rcases h with h | h
  · rcases h with h | ⟨o, h⟩
    · exact .inl (.inl (x.keep _ _ h (fun _ e => by cases e)))
    · exact .inl (.inr ⟨o, x.keep _ _ h (fun _ e => by cases e)⟩)
  · exact .inr h
section
variable {w : World} {P : Program} {base : Heap} {mg : Str → Option Value} {K : PySem.W.Frag} {fL PL PR : Addr}
/-- what the law itself calls -/
structure Top (P : Program) (w : World) (K : PySem.W.Frag) (mg : Str → Option Value) (base : Heap) (PL PR : Addr) : Prop where
  cell : ∃ f, Has P w K mg base CX0 1 "_law_cell" f ["_law_cells", "_law_k"] (spCell K)
  pool : ∃ f, Has P w K mg base CX0 1 "_law_pool" f ["_law_cell_here"] spPool
  right : ∃ f, mg "_law_right" = some (.ref f) ∧ PySem.W.keepIn K (.ref f) = true ∧ FnG P w K mg base CX0 48 f (spRight PL PR)
theorem ok_law (T : Free mg) (TP : Top P w K mg base PL PR) {cL : Addr} (FL : FunC K "law" "law" sLaw fL cL) : FnG P w K mg base CX0 49 fL (spLaw K PL PR) := by
  intro A outer s H us vs Q E hgd hr e0 r h
  obtain ⟨a, ns, rfl, hS, hlen, hT, q⟩ := h
  obtain ⟨oc, od, kV, doc, pm, an, ct, osl, lk, hcd⟩ := FL.ex
  obtain ⟨fC, hC⟩ := TP.cell
  obtain ⟨fP, hP⟩ := TP.pool
  obtain ⟨fR, mgR, kpR, GR⟩ := TP.right
  have body : ∀ hr' : Room 48 (A.deeper (envOfC "law" (defScope sLaw) s.heap.objs.size fL (.ref cL))), ∃ t, PSs (cxOf CX0 P w K mg base nmLaw "law" (defScope sLaw) fL (.ref cL) A outer s H E).nox (defBody sLaw) t ∧ t { nx := fun _ H' => Q .non H', rt := Q } (L2.start nmLaw [.ref a]) H := fun hr' => by
    refine ⟨_, pss_one (ps_ret (pe_callB (cr_all rfl) (by rfl) T.all (by decide +kernel) (pa_cons (pe_lc (own := [("_law_k", 1)]) (g := gName 1) (tt := tYes) (te := tCall (spRight PL PR) [] E0 (tCons (tCall spPool [] E0 (tCons (tCall (spCell K) [] E0 (tCons (tVar 0) (tCons (tVar 1) tNil))) tNil)) tNil)) rfl scLaw.nd
        (pi_range1 rfl T.range (pa_cons (pe_callB (call_max2 rfl) (by rfl) T.max (by decide +kernel) (pa_cons pe_int (pa_cons (pe_callB (call_min2 rfl) (by rfl) T.min (by decide +kernel) (pa_cons (pe_callB call_len_seq (by rfl) T.len PySem.boot_len (pa_cons (pv 0) pa_nil)) (pa_cons pe_int pa_nil))) pa_nil))) pa_nil))
        (blkOk_by (own := [("_law_k", 1)]) (N := nmLaw) (sc := defScope sLaw) (by decide +kernel)) (fun _ _ _ _ _ => pg_name (i := 1) scLaw.nd rfl (Or.inl rfl)) (fun _ _ _ _ _ => pts_nil)
        (fun _ _ _ _ _ => pe_callG (x := "_law_right") GR (by exact hgd) hr' (by rfl) mgR kpR (pa_cons (pe_has (x := "_law_pool") (sp := spPool) hP (hr'.mono (by decide)) (by rfl) pass0 (pa_cons (pe_has (x := "_law_cell") (sp := spCell K) hC (hr'.mono (by decide)) (by rfl) pass0 (pa_cons (pv 0) (pa_cons (pv 1) pa_nil))) pa_nil)) pa_nil))) pa_nil))), ?_⟩
    refine ⟨_, rfl, a, _, rfl, .inl hS, _, _, rfl, ?_⟩
    rw [List.length_map]
    generalize eN : (if (6 : Int) < ((ns.length : Nat) : Int) then (6 : Int) else ((ns.length : Nat) : Int)) = n6
    have b6 : n6 ≤ 6 := by
      rw [← eN]
      split <;> omega
    refine ⟨_, _, rfl, ?_⟩
    generalize eM : (if n6 > (2 : Int) then n6 else (2 : Int)) = m
    have m0 : 0 ≤ m ∧ m ≤ 6 := by
      rw [← eM]
      split <;> omega
    obtain ⟨n, rfl⟩ := Int.eq_ofNat_of_zero_le m0.1
    refine ⟨n, rfl, by omega, by omega, fun L nL => ?_⟩
    refine lc_range (lo := 0) (n := ((n : Nat) : Int).toNat) (fun i H' => LX PL PR H H' ∧ H' L = some (.lst ((List.replicate i true).map V.bl))) ?_ ?_ ?_
    · exact ⟨⟨fun b o e _ => (same_upd nL) b o e, hT.ext (same_upd nL)⟩, upd_same⟩
    · rintro i H' hi ⟨x, hL⟩
      refine ⟨rfl, ?_⟩
      refine ⟨_, rfl, _, rfl, a, ns, i, (by rw [Int.zero_add]; rfl), x.seq hS, fun z => ?_⟩
      refine ⟨z, rfl, fun p np d1 d2 d3 => ?_⟩
      have s1 : Same H' (upd H' p (.lst [.int d1, .int d2, .int d3])) := same_upd np
      refine ⟨p, rfl, ⟨d1, d2, d3, upd_same⟩, x.tabs.ext s1, fun H2 m2 => ?_⟩
      have hL2 : H2 L = some (.lst ((List.replicate i true).map V.bl)) := m2.rx.keep _ _ (fun e => by rw [e, np] at hL; cases hL) (s1 _ _ hL) (fun _ e => by cases e)
      refine ⟨_, hL2, by rw [List.length_map, List.length_replicate, sizeLine_eq]; omega, ?_⟩
      refine ⟨⟨fun b o e nt => ?_, tabs_upd hL2 m2.tabs⟩, by rw [upd_same, List.replicate_succ', List.map_append]; rfl⟩
      have hb := x.keep b o e nt
      rw [upd_ne (fun z => by rw [z, nL] at e; cases e)]
      exact m2.rx.keep b o (fun z => by rw [z, np] at hb; cases hb) (s1 _ _ hb) nt
    · rintro H2 ⟨x, hL⟩
      refine ⟨L, _, rfl, SqL.of hL, ?_⟩
      have e3 : (List.replicate (((n : Nat) : Int).toNat) true).all id = true := by
        rw [List.all_eq_true]
        intro b hb
        rw [List.eq_of_mem_replicate hb]
        rfl
      rw [e3]
      exact q H2
  refine LamX.run_ofS (N := nmLaw) (ps := ["_law_cells"]) (us := us) (vs := [.ref a]) lk hcd scLaw hr e0 ?_ r rfl fun hr' => ?_
  · have b : L2.Binds K (PySem.W.fnOf "law" "law" (defArgs sLaw) (defBody sLaw) (defScope sLaw) .none kV doc pm an (.ref cL) ct) ["_law_cells"] [] := .all fun us hl => match us, hl with | [_], _ => rfl
    have hl : us.length = 1 := by rw [← r.length]; rfl
    have z := b s us (e0.mod.kin.keeps fun b o e => (e0.bs b o e).1) (by rw [List.append_nil]; exact hl)
    rw [List.append_nil] at z
    exact z
  · obtain ⟨t, ht, hq⟩ := body hr'
    exact ⟨t, ht.nox, hq⟩
end
end K1

/-! the end, for a law that makes texts of what it holds -/
namespace EnG
open PySem PySem.Spec
open PyProof.Rows L2 LamX
theorem call_tabs {P : Program} {w : World} {K : PySem.W.Frag} {mg mb : Str → Option Value} {k : Nat} {fa a : Addr} {cs : List (Addr × Addr)} {sp : Sp} {s₁ : Shared} {vs : List Value} {ns : List Int}
    (kInS : K.In s₁.heap) (nsG : s₁.heap.Ns mainGlobals mg) (nsB : s₁.heap.Ns builtinsNs mb) (bltB : ∀ x : Str, x ≠ "__name__" → mb x = bootBuiltins x) (noLim : s₁.heap.NoLimit) (gen0 : s₁.gens = #[])
    (tabE : ∀ p ∈ cs, s₁.heap.get? p.2 = some { cls := .none, data := .fields #[] }) (tabN : ∀ p ∈ cs, K.lookup p.2 = none) (C : ∀ p ∈ cs, PySem.W.CodeHd s₁.heap p.1 p.2)
    (modB : ∃ (bm : Addr) (ob : Obj), mg "__builtins__" = some (.ref bm) ∧ bm ≠ builtinsNs ∧ s₁.heap.get? bm = some ob ∧ ob.cls = .type "module" ∧ ob.dict = some builtinsNs ∧ ob.data = .plain)
    (lstA : s₁.heap.get? a = some { cls := .type "list", data := .seq vs.toArray }) (intA : IntsAre vs ns) (lenA : ns.length ≤ sizeLine) (roomA : Room k callerA)
    (F : ∀ base : Heap, K.In base → base.Ns mainGlobals mg → (∀ p ∈ cs, TabB base mg p.1 p.2) → K1.FnG P w K mg base CX0 k fa sp)
    (askS : ∀ H : Hp, (∀ p ∈ cs, H p.2 = some (.tbl #[])) → SqL K H a (ns.map V.int) → sp [.ref a] H (fun v _ => v = .bl true) fun _ _ _ => False) :
    codeAny (model P w) callerA (.call (.ref fa) ⟨[.ref a], []⟩) (fun r s' => r
        = .ok (.ret (.bool true)) ∧ OldK s₁.heap s'.heap ∧ s'.os = s₁.os ∧ AllBare s'.gens) s₁ := by
  have relA := vals_ints intA
  have lenI := intA.length
  have isTab : ∀ b : Addr, b ∈ cs.map (·.2) → s₁.heap.get? b = some { cls := .none, data := .fields #[] } := fun b nsB => by
    obtain ⟨p, hp, e⟩ := List.mem_map.mp nsB
    rw [← e]
    exact tabE p hp
  have aNot : a ∉ cs.map (·.2) := fun z => by
    have q := isTab a z
    rw [lstA] at q
    have z' : Data.seq vs.toArray _ = Data.fields
        #[] := congrArg Obj.data (Option.some.inj q)
    cases z'
  have memTab : ∀ p ∈ cs, p.2 ∈ cs.map (·.2) := fun p hp => List.mem_map.mpr ⟨p, hp, rfl⟩
  have coreH : ∀ H : Hp, (∀ p ∈ cs, H p.2 = some (.tbl #[])) → (∀ b, H b = none ∨ b ∈ cs.map (·.2) ∨ ∃ o xs, H b = some (.frz o (.lst xs))) → SqL K H a (ns.map V.int) → HOk P w H s₁.heap → (∀ b, H b ≠ none → b = a ∨ b ∈ cs.map (·.2)) → (H a ≠ none → K.lookup a = none) →
      codeAny (model P w) callerA (.call (.ref fa) ⟨[.ref a], []⟩) (fun r s' => r
          = .ok (.ret (.bool true)) ∧ OldK s₁.heap s'.heap ∧ s'.os = s₁.os ∧ AllBare s'.gens) s₁ := by
    intro H tabH onlyH seqH okH hasH keyH
    have baseOf : ∀ {b : Addr} {o : Obj}, s₁.heap.get? b = some o → H b = none → (hidT s₁.heap H).get? b = some o := fun e n => hidT_get e n
    have noDat : ∀ {b : Addr} {o : Obj}, s₁.heap.get? b = some o → (∀ vs n, o.data ≠ .seq vs n) → o.data ≠ .fields #[] → H b = none := fun {b o} e h1 h2 => by
      cases q : H b with
      | none => rfl
      | some u =>
        rcases hasH b (by rw [q]; simp) with e' | e'
        · rw [e', lstA] at e
          cases e
          exact (h1 _ _ rfl).elim
        · rw [isTab b e'] at e
          cases e
          exact (h2 rfl).elim
    have noDic : ∀ {b : Addr} {o : Obj} {es : Array DictEntry} {ep : Nat}, s₁.heap.get? b = some o → o.data = .dict es ep → H b = none := fun {b o es ep} e d => by
      refine noDat e (fun vs n z => ?_) fun z => ?_
      · rw [d] at z
        cases z
      · rw [d] at z
        cases z
    have nsKeep : ∀ {b : Addr} {m : Str → Option Value}, s₁.heap.Ns b m → (hidT s₁.heap H).Ns b m := fun {b m} ⟨o, es, ep, e, d, r⟩ => ⟨o, es, ep, baseOf e (noDic e d), d, r⟩
    have kInB : K.In (hidT s₁.heap H) := fun b o e => baseOf (kInS b o e) (by
      cases q : H b with
      | none => rfl
      | some u =>
        rcases hasH b (by rw [q]; simp) with e' | e'
        · rw [e'] at e q
          rw [keyH (by rw [q]; simp)] at e
          cases e
        · obtain ⟨p, hp, ep⟩
              := List.mem_map.mp e'
          rw [← ep, tabN p hp] at e
          cases e)
    have modM : L2.Mod K mg (hidT s₁.heap H) := ⟨kInB, nsKeep nsG, ⟨mb, nsKeep nsB, bltB⟩, let ⟨mc, h1, h2⟩ := noLim; ⟨mc, nsKeep h1, h2⟩⟩
    have tabB : ∀ p ∈ cs, TabB (hidT s₁.heap H) mg p.1 p.2 := fun p hp => by
      have hTp := tabE p hp
      refine ⟨?_, ?_, fun z => ?_⟩
      · obtain ⟨o, us, file, tf, flags, tg, inF, text,
            tt, e1, r1, r2, r3, r4, r5, r6, r7, r8, hne⟩ := C p hp
        refine ⟨o, us, file, tf, flags, tg, inF, text, tt, baseOf e1 (noDat e1 (fun vs n z => ?_) fun z => ?_), r1, r2, r3, r4, r5, r6, r7, r8, hne⟩
        · rw [r2] at z
          cases z
        · rw [r2] at z
          cases z
          simp at r3
      · obtain ⟨bm, ob, b1, b2, b3, b4, b5, b6⟩ := modB
        have nG : bm ≠ mainGlobals
            := fun q => by
          obtain ⟨o, es, ep, e, hd, _⟩ := nsG
          rw [q, e] at b3
          cases b3
          rw [hd] at b6
          cases b6
        have nP : bm ≠
            p.2 := fun q => by
          rw [q, hTp] at b3
          cases b3
          cases b6
        refine ⟨bm, ob, b1, b2, nG, nP, baseOf b3 (noDat b3 (fun vs n z => ?_) fun z => ?_), b4, b5, b6⟩
        · rw [b6] at z
          cases z
        · rw [b6] at z
          cases z
      · obtain ⟨o, es, ep, e, hd, _⟩ := nsG
        rw [z, hTp] at e
        cases e
        cases hd
    have env0 : Env0 P w K mg (hidT s₁.heap H) callerA [] s₁ H := ⟨rfl, modM, fun b o e => of_hidT e, Nat.le_of_eq (hidT_size _ _), trivial, fun b nsB => absurd (show b ∈ ([] : List Addr) from nsB) (by simp), okH, .of_eq gen0⟩
    refine codeAny_mono (F _ kInB (nsKeep nsG) tabB callerA [] s₁ H [.ref a] [.ref a] _ _ rfl roomA env0 (.cons rfl .nil) (askS H tabH seqH)) fun r s' h => ?_
    cases r with
    | error e => exact (show False from h).elim
    | ok fl =>
      cases fl with
      | next => exact False.elim h
      | brk => exact False.elim h
      | cont => exact False.elim h
      | ret u =>
        obtain ⟨v, H', osA, barA, unA, hok', r', q⟩ := h
        have q' : v = .bl true := q
        subst q'
        obtain rfl : u = Value.bool
            true := r'
        have keyB : ∀ b o, b ∉ cs.map (·.2) → s₁.heap.get? b = some o → s'.heap.get? b = some o := fun b o nb e => by
          cases q : H b with
          | none => exact unA.keep b o e q (by intro z; exact absurd (show b ∈ ([] : List Addr) from z) (by simp)) (by simp)
          | some u =>
            rcases onlyH b with z | z | ⟨ob, xs, z⟩
            · rw [q] at z; cases z
            · exact absurd z nb
            · have z2 := unA.frzs b ob _ z
              obtain ⟨e1, _⟩ := okH b _ z
              obtain ⟨e2, _⟩ := hok' b _ z2
              rw [e] at e1; cases e1
              exact e2
        have grewT : ∀ p ∈ cs, ∃ more : Array Value, s'.heap.get? p.2 = some { cls := .none, data := .fields more } := fun p hp => by
          obtain ⟨more, z⟩ := unA.tbls p.2 #[] (tabH p hp)
          exact ⟨_, hok' p.2 _ z⟩
        refine ⟨rfl, ⟨fun b o e => ?_, fun b o e => ?_⟩, osA, barA⟩
        · by_cases nsB : b ∈ cs.map (·.2)
          · obtain ⟨p, hp, ep⟩ := List.mem_map.mp nsB
            obtain ⟨more, hm⟩ := grewT p hp
            rw [← ep] at e ⊢
            rw [tabE p hp] at e
            cases e
            exact .inr (.inl ⟨((C p hp).tab (tabE p hp)).isCodeTable, rfl, #[], more, rfl, by rw [Array.empty_append]; exact hm⟩)
          · exact .inl (keyB b o nsB e)
        · by_cases nsB : b ∈ cs.map (·.2)
          · obtain ⟨p, hp, ep⟩ := List.mem_map.mp nsB
            obtain ⟨more, hm⟩ := grewT p hp
            rw [← ep]
            exact ⟨_, hm⟩
          · exact ⟨o, keyB b o nsB e⟩
  cases hk : K.lookup a with
  | some o =>
    have e := kInS a o hk
    rw [lstA] at e
    cases e
    refine coreH (fun b => if b ∈ cs.map (·.2) then some (.tbl #[]) else none) (fun p hp => if_pos (memTab p hp)) (fun b => ?_) (.inr ⟨_, vs.toArray, _, hk, rfl, rfl, rfl, by rw [List.size_toArray, lenI]; exact lenA, by simpa using relA⟩) (fun b u z => ?_) (fun b z => ?_) fun z => absurd (show (if a ∈ cs.map (·.2) then some (HO.tbl #[]) else none) = none from if_neg aNot) z
    · by_cases nsB : b ∈ cs.map (·.2)
      · exact .inr (.inl nsB)
      · exact .inl (if_neg nsB)
    · by_cases nsB : b ∈ cs.map (·.2)
      · have z' := (if_pos nsB).symm.trans z
        cases z'
        exact isTab b nsB
      · have z' := (if_neg nsB).symm.trans z
        cases z'
    · by_cases nsB : b ∈ cs.map (·.2)
      · exact .inr nsB
      · exact absurd (if_neg nsB) z
  | none =>
    refine coreH (fun b => if b = a then some (.frz { cls := .type "list", data := .seq vs.toArray } (.lst (ns.map V.int))) else if b ∈ cs.map (·.2) then some (.tbl #[]) else none) (fun p hp => (if_neg (show ¬ p.2 = a from fun z => aNot (by rw [← z]; exact memTab p hp))).trans (if_pos (memTab p hp))) (fun b => ?_)
      (.inl (.inr ⟨{ cls := .type "list", data := .seq vs.toArray
          }, if_pos rfl⟩)) (fun b u z => ?_) (fun b z => ?_) fun _ => hk
    · by_cases nsB : b = a
      · exact .inr (.inr ⟨_, _, if_pos nsB⟩)
      · by_cases hb2
            : b ∈ cs.map (·.2)
        · exact .inr (.inl hb2)
        · exact .inl ((if_neg nsB).trans (if_neg hb2))
    · by_cases nsB : b = a
      · have z' := (if_pos nsB).symm.trans z
        cases z'
        rw [nsB]
        exact ⟨lstA, by rw [List.length_map]; exact lenA, vs, _, relA, lstA⟩
      · have z1 := (if_neg nsB).symm.trans z
        by_cases hb2 :
            b ∈ cs.map (·.2)
        · have z' := (if_pos
              hb2).symm.trans z1
          cases z'
          exact isTab b hb2
        · have z' := (if_neg
              hb2).symm.trans z1
          cases z'
    · by_cases nsB : b = a
      · exact .inl nsB
      · by_cases hb2
            : b ∈ cs.map (·.2)
        · exact .inr hb2
        · exact absurd ((if_neg nsB).trans (if_neg hb2)) z
end EnG

namespace EnG
open PySem PySem.Spec
open PyProof.Rows L2 LamX
/-- the defs of the top as the head leaves them -/
def TabsAt (q : Program) (mg : Str → Option Value) (h : Heap) : Prop := ∀ d ∈ recsOf q, ∃ a o fd c P, mg d.name = some (.ref a) ∧ h.get? a = some o ∧ o.data = .func fd ∧ fd.code = .ref c ∧ h.IsCode c P #[] ∧ h.TableAt c P #[]
structure LawG (l : PySem.W.OpenLaw) (w : World) (k n : Nat) (mg : Str → Option Value) (fa : Addr) (h : Heap) : Prop where
  ex : ∃ (K : PySem.W.Frag) (cs : List (Addr × Addr)) (sp : Sp), K.In h ∧ (∀ p ∈ cs, h.get? p.2 = some { cls := .none, data := .fields #[] }) ∧ (∀ p ∈ cs, K.lookup p.2 = none) ∧ (∀ p ∈ cs, PySem.W.CodeHd h p.1 p.2) ∧
    (∀ (H : Hp) (a : Addr) (ns : List Int), ns.length ≤ n → (∀ p ∈ cs, H p.2 = some (.tbl #[])) → SqL K H a (ns.map V.int) → sp [.ref a] H (fun v _ => v = .bl true) fun _ _ _ => False) ∧
    ∀ base : Heap, K.In base → base.Ns mainGlobals mg → (∀ p ∈ cs, TabB base mg p.1 p.2) → K1.FnG l.prog w K mg base CX0 k fa sp
theorem walk_G {l : PySem.W.OpenLaw} {n k : Nat} {q : Program} {loose : List Str} {XP : (Str → Option Value) → Heap → Prop} {YP : World → Heap → Prop} {d : DefRec}
    (hn : l.most = some n) (hn2 : n ≤ sizeLine)
        (hdf : d.params.defaults = []) (hr : Room k callerA)
    (F : ∀ (w : World) (mg : Str → Option Value) (fa : Addr) (h : Heap), YP w h → h.Ns mainGlobals mg → mg d.name = some (.ref fa) → TabsAt q mg h → LawG l w k n mg fa h) :
    PySem.W.WalkO q loose XP YP l.row.toRowW
        d [] (fun f vs => PySem.call f vs) := by
  refine Att.attach_callB hn hdf fun w s₀ s₁ mg mb fa o
      pm cd doc a vs ns G Y ho hd hcd hmg hobj hints hlen hbits hg => ?_
  obtain ⟨K, cs, sp, KX, hT, nT, C, hsp, hF⟩ := (F w mg fa _ Y G.T.g hmg G.T.tab).ex
  exact call_tabs KX G.T.g G.T.b G.T.builtins G.T.nolimit hg hT nT C G.T.bmain hobj hints (Nat.le_trans hlen hn2) hr hF (fun H hH hS => hsp H a ns hlen hH hS)
/-- the table of a def's code object -/
theorem tab_of {K : PySem.W.Frag} {q : Program} {mg : Str → Option Value} {h : Heap} {f c P : Addr} {x : Str} {o : Obj} {fd : FuncData} {ec : Value} {dc : Option Addr} {vc : Array Value} {slc : Array (Option Value)} (KX : K.In h) (T : TabsAt q mg h) (hrec : ((recsOf q).any fun e => e.name == x) = true)
    (hx : mg x = some (.ref f)) (lk : K.lookup f = some o) (hd : o.data = .func fd) (hc : fd.code = .ref c) (lc : K.lookup c = some ⟨ec, dc, .fields vc, slc⟩) (h11 : vc[11]? = some (.ref P)) :
    h.get? P = some { cls := .none, data := .fields #[] } ∧ PySem.W.CodeHd h c P := by
  obtain ⟨d, hm, hn⟩ := List.any_eq_true.mp hrec
  have hn : d.name = x := beq_iff_eq.mp hn
  obtain ⟨a', o', fd', c', P', h1, h2, h3, h4, h5, h6⟩ := T d hm
  rw [hn, hx] at h1
  cases h1
  have g1 := KX _ _ lk
  rw [g1] at h2
  cases h2
  rw [hd] at h3
  cases h3
  rw [hc] at h4
  cases h4
  have h6' := h6
  obtain ⟨⟨oc, us, e1, _, e3, e4⟩, hP⟩ := h6
  have g2 := KX _ _ lc
  rw [g2] at e1
  cases e1
  cases e3
  rw [h11] at e4
  cases e4
  exact ⟨hP, PySem.W.CodeHd.of h5 h6'⟩
end EnG

namespace K1
open PySem PySem.Spec
open PyProof.Rows L2 EnT StX SmX TxS DuX XdI Tr3 CnB ClX
section
variable {K : PySem.W.Frag}
/-- a def where it stands -/
structure DefR (K : PySem.W.Frag) (x qual : Str) (st : Stmt) (f : Addr) : Prop where
  ex : ∃ (oc : Value) (od : Option Addr) (kV doc pm : Value) (an : Option Addr) (cdv ct : Value) (osl : Array (Option Value)), K.lookup f = some ⟨oc, od, .func (PySem.W.fnOf x qual (defArgs st) (defBody st) (defScope st) .none kV doc pm an cdv ct), osl⟩ ∧ PySem.W.codeIn K cdv qual = true
  kp : PySem.W.keepIn
      K (.ref f) = true
theorem DefR.fun_ {x qual : Str} {st : Stmt} {f : Addr} (d : DefR K x qual st f) : ∃ fd, Fun K x qual st f fd := by
  obtain ⟨oc, od, kV, doc, pm, an, cdv, ct, osl, l, c⟩ := d.ex
  exact ⟨_, fun_mk l c d.kp⟩
/-- a def of the top -/
def GloD (K : PySem.W.Frag) (x : Str) (st : Stmt) : Prop := ∃ f, PySem.W.nsIn K mainGlobals x = some (some (.ref f)) ∧ DefR K x x st f
theorem gloD_mk {x : Str} {st : Stmt} {f : Addr} {oc kV doc pm cdv ct : Value} {od an : Option Addr} {osl : Array (Option Value)} (a : PySem.W.nsIn K mainGlobals x = some (some (.ref f)))
    (l : K.lookup f = some ⟨oc, od, .func (PySem.W.fnOf x x (defArgs st) (defBody st) (defScope st) .none kV doc pm an cdv ct), osl⟩) (c : PySem.W.codeIn K cdv x = true) (k : PySem.W.keepIn K (.ref f) = true) : GloD K x st := ⟨f, a, ⟨oc, od, kV, doc, pm, an, cdv, ct, osl, l, c⟩, k⟩
/-- a method of
    the class at C -/
def MethD (K : PySem.W.Frag) (C : Addr) (x qual : Str) (st : Stmt) : Prop := ∃ f, PySem.W.findIn K (.ref C) x = some (some (.ref f)) ∧ PySem.W.isFn K (.ref f) = true ∧ DefR K x qual st f
theorem methD_mk {C : Addr} {x qual : Str} {st : Stmt} {f : Addr} {oc kV doc pm cdv ct : Value} {od an : Option Addr} {osl : Array (Option Value)} (a : PySem.W.findIn K (.ref C) x = some (some (.ref f))) (i : PySem.W.isFn K (.ref f) = true)
    (l : K.lookup f = some ⟨oc, od, .func (PySem.W.fnOf x qual (defArgs st) (defBody st) (defScope st) .none kV doc pm an cdv ct), osl⟩) (c : PySem.W.codeIn K cdv qual = true) (k : PySem.W.keepIn K (.ref f) = true) : MethD K C x qual st := ⟨f, a, i, ⟨oc, od, kV, doc, pm, an, cdv, ct, osl, l, c⟩, k⟩
/-- a property -/
def PropD (K : PySem.W.Frag) (C : Addr) (x qual : Str) (st : Stmt) : Prop := ∃ p g, PropOf K C x p g ∧ DefR K x qual st g
theorem propD_mk {C : Addr} {x qual : Str} {st : Stmt} {p f : Addr} {rest : List Value} {oc kV doc pm cdv ct : Value} {od an : Option Addr} {osl : Array (Option Value)} (a : PySem.W.findIn K (.ref C) x = some (some (.ref p))) (g : PySem.W.specialIn K (.ref p) "__get__" = some (some (.builtin "property.__get__")))
    (t : PySem.W.takesIn K (.ref p) = some true) (r : PySem.W.recIn K p "property" = some (.ref f :: rest))
    (l : K.lookup f = some ⟨oc, od, .func (PySem.W.fnOf x qual (defArgs st) (defBody st) (defScope st) .none kV doc pm an cdv ct), osl⟩) (c : PySem.W.codeIn K cdv qual = true) (k : PySem.W.keepIn K (.ref f) = true) : PropD K C x qual st := ⟨p, f, ⟨a, g, t, rest, r⟩, ⟨oc, od, kV, doc, pm, an, cdv, ct, osl, l, c⟩, k⟩
/-- a static method -/
def StatD (K : PySem.W.Frag) (C : Addr) (mc : Value) (x qual : Str) (st : Stmt) : Prop := ∃ p g, SMet K C mc x p g ∧ DefR K x qual st g
theorem statD_mk {C : Addr} {mc : Value} {x qual : Str} {st : Stmt} {p f : Addr} {rest : List Value} {oc kV doc pm cdv ct : Value} {od an : Option Addr} {osl : Array (Option Value)} (a : PySem.W.findCls K (.ref C) mc x = some (.get (.builtin "staticmethod.__get__") (.ref p) .none (.ref C)))
    (r : PySem.W.recIn K p "staticmethod" = some (.ref f :: rest))
    (l : K.lookup f = some ⟨oc, od, .func (PySem.W.fnOf x qual (defArgs st) (defBody st) (defScope st) .none kV doc pm an cdv ct), osl⟩) (c : PySem.W.codeIn K cdv qual = true) (k : PySem.W.keepIn K (.ref f) = true) : StatD K C mc x qual st := ⟨p, f, ⟨a, ⟨rest, r⟩, k⟩, ⟨oc, od, kV, doc, pm, an, cdv, ct, osl, l, c⟩, k⟩
/-- an error's class -/
structure ErrD (K : PySem.W.Frag) (x fld qual : Str) (st : Stmt) (D S1 S2 S3 : Addr) : Prop where
  g : PySem.W.nsIn K mainGlobals x = some (some (.ref D))
  ox : OexC K D
  no : PySem.W.findIn K (.ref D) fld = some none
  ini : ∃ f, PySem.W.findIn K (.ref D) "__init__" = some (some (.ref f)) ∧ PySem.W.typeIn K (.ref f) = some (.type "function") ∧ DefR K "__init__" qual st f
  xc : ExcC K D
  xf : XfC K D
  k1 : PySem.W.kitOne K (.ref D) (.ref S1) = some true
  k2 : PySem.W.kitOne K (.ref D) (.ref S2) = some false
  k3 : PySem.W.kitOne K (.ref D) (.ref S3) = some false
  kV : PySem.W.kitOne K (.ref D) (.type "ValueError") = some true
  kL : PySem.W.kitOne K (.ref D) (.type "LookupError") = some false
  kA : PySem.W.kitOne K (.ref D) (.type "ArithmeticError") = some false
  kx : PySem.W.exmAny K (.ref D) [.ref S1, .ref S2, .ref S3] = some true
theorem errD_mk {x fld qual : Str} {st : Stmt} {D S1 S2 S3 f : Addr} {oc kV doc pm cdv ct : Value} {od an : Option Addr} {osl : Array (Option Value)} {oD : Obj} (g : PySem.W.nsIn K mainGlobals x = some (some (.ref D)))
    (lD : K.lookup D = some oD) (sh : ∃ nm q N bs bm sn sub ab col dd k0 k1 k2 k3 k5, oD = PySem.excClassObj nm q D N bs bm true sn sub ab col dd k0 k1 k2 k3 k5 "ValueError.__new__" ∧ PySem.HandSPX.refsVE bm = true)
    (sa : PySem.W.findIn K (.ref D) "__setattr__" = some (some (.builtin "object.__setattr__"))) (exC : PySem.W.subIn K (.ref D) (.type "BaseException") = some true) (tyC : PySem.W.typeIn K (.ref D) = some (.type "type")) (kC : PySem.W.keepIn K (.ref D) = true)
    (no : PySem.W.findIn K (.ref D) fld = some none) (a : PySem.W.findIn K (.ref D) "__init__" = some (some (.ref f))) (ty : PySem.W.typeIn K (.ref f) = some (.type "function"))
    (l : K.lookup f = some ⟨oc, od, .func (PySem.W.fnOf "__init__" qual (defArgs st) (defBody st) (defScope st) .none kV doc pm an cdv ct), osl⟩) (c : PySem.W.codeIn K cdv qual = true) (k : PySem.W.keepIn K (.ref f) = true)
    (hg : PySem.W.findIn K (.ref D) "__getattribute__" = some (some (.builtin "BaseException.__getattribute__"))) (hk : PySem.W.findIn K (.ref D) "__getattr__" = some none) (hd : PySem.W.hasDictIn K D = true)
    (ha : PySem.W.findIn K (.ref D) "__class__" = some (some (.builtin "object.__class__"))) (hn : PySem.W.specialIn K (.builtin "object.__class__") "__get__" = some (some (.builtin "getset_descriptor.__get__"))) (ht : PySem.W.takesIn K (.builtin "object.__class__") = some true) (hm : PySem.W.mroIn K D (.type "object") = some true)
    (k1 : PySem.W.kitOne K (.ref D) (.ref S1) = some true) (k2 : PySem.W.kitOne K (.ref D) (.ref S2) = some false) (k3 : PySem.W.kitOne K (.ref D) (.ref S3) = some false) (kV' : PySem.W.kitOne K (.ref D) (.type "ValueError") = some true) (kL : PySem.W.kitOne K (.ref D) (.type "LookupError") = some false) (kA : PySem.W.kitOne K (.ref D) (.type "ArithmeticError") = some false)
    (kx : PySem.W.exmAny K (.ref D) [.ref S1, .ref S2, .ref S3] = some true) : ErrD K x fld qual st D S1 S2 S3 := by
  refine ⟨g, ⟨?_, sa, exC, tyC, kC⟩, no, ⟨f, a, ty, ⟨oc, od, kV, doc, pm, an, cdv, ct, osl, l, c⟩, k⟩, ⟨hg, hk, exC, hd, ha, hn, ht, hm⟩, ⟨hg, hk, exC, hd⟩, k1, k2, k3, kV', kL, kA, kx⟩
  obtain ⟨nm, q, N, bs, bm, sn, sub, ab, col, dd, k0, k1', k2', k3', k5, e, r⟩ := sh
  exact ⟨nm, q, N, bs, bm, sn, sub, ab, col, dd, k0, k1', k2', k3', k5, by rw [lD, e], r⟩
/-- the class Members -/
structure MemD (K : PySem.W.Frag) (C : Addr) : Prop where
  g : PySem.W.nsIn K mainGlobals "Members" = some (some (.ref C))
  cl : Cls K C
  nN : PySem.W.findIn K (.ref C) "_names" = some none
  nT : PySem.W.findIn K (.ref C) "_table" = some none
  mk' : PySem.W.makesIn K C = true
  kC : PySem.W.keepIn
      K (.ref C) = true
  is : MemIs K C
  ne : NeM K C
  nb : PySem.W.findIn K (.ref C) "__bool__" = some none
  cr : CRead K C (.type "type")
theorem memD_mk {C : Addr} (g : PySem.W.nsIn K mainGlobals "Members" = some (some (.ref C))) (pg : PySem.W.plainGet K C Str.empty = true) (hd : PySem.W.hasDictIn K C = true) (po : PySem.W.plainOver K C = true) (sa : PySem.W.findIn K (.ref C) "__setattr__" = some (some (.builtin "object.__setattr__")))
    (nN : PySem.W.findIn K (.ref C) "_names" = some none) (nT : PySem.W.findIn K (.ref C) "_table" = some none) (mk' : PySem.W.makesIn K C = true) (kC : PySem.W.keepIn K (.ref C) = true)
    (ha : PySem.W.findIn K (.ref C) "__class__" = some (some (.builtin "object.__class__"))) (hn : PySem.W.specialIn K (.builtin "object.__class__") "__get__" = some (some (.builtin "getset_descriptor.__get__"))) (ht : PySem.W.takesIn K (.builtin "object.__class__") = some true) (hm : PySem.W.mroIn K C (.type "object") = some true)
    (yes : PySem.W.kitOne K (.ref C) (.ref C) = some true) (o1 : PySem.W.kitOne K (.type "NoneType") (.ref C) = some false) (o2 : PySem.W.kitOne K (.type "bool") (.ref C) = some false) (o3 : PySem.W.kitOne K (.type "int") (.ref C) = some false) (o4 : PySem.W.kitOne K (.type "str") (.ref C) = some false) (o5 : PySem.W.kitOne K (.type "list") (.ref C) = some false) (o6 : PySem.W.kitOne K (.type "tuple") (.ref C) = some false) (o7 : PySem.W.kitOne K (.type "dict") (.ref C) = some false)
    (f1 : PySem.W.notFirst K C (.type "NoneType") = true) (f2 : PySem.W.notFirst K C (.type "bool") = true) (f3 : PySem.W.notFirst K C (.type "int") = true) (f4 : PySem.W.notFirst K C (.type "str") = true) (f5 : PySem.W.notFirst K C (.type "list") = true) (f6 : PySem.W.notFirst K C (.type "tuple") = true) (f7 : PySem.W.notFirst K C (.type "dict") = true) (fC : PySem.W.notFirst K C (.ref C) = true)
    (ne : PySem.W.findIn K (.ref C) "__ne__" = some (some (.builtin "object.__ne__"))) (nb : PySem.W.findIn K (.ref C) "__bool__" = some none) (rd : PySem.W.readsIn K C (.type "type") = true) (ga : PySem.W.specialIn K (.ref C) "__getattribute__" = some (some (.builtin "type.__getattribute__"))) : MemD K C := by
  refine ⟨g, ⟨pg, hd, po, sa⟩, nN, nT, mk', kC, ⟨ha, hn, ht, hm, yes, fun t h => ?_, fun t h => ?_, fC⟩, ⟨ne, hm⟩, nb, ⟨rd, ga⟩⟩
  · simp only [baseTys, List.mem_cons, List.not_mem_nil, or_false] at h
    rcases h with rfl | rfl | rfl | rfl | rfl | rfl | rfl
    · exact o1
    · exact o2
    · exact o3
    · exact o4
    · exact o5
    · exact o6
    · exact o7
  · simp only [baseTys, List.mem_cons, List.not_mem_nil, or_false] at h
    rcases h with rfl | rfl | rfl | rfl | rfl | rfl | rfl
    · exact f1
    · exact f2
    · exact f3
    · exact f4
    · exact f5
    · exact f6
    · exact f7
end
/-- a class with fields -/
structure ClsD (K : PySem.W.Frag) (x : Str) (C : Addr) : Prop where
  g : PySem.W.nsIn K mainGlobals x = some (some (.ref C))
  cl : Cls K C
  mk' : PySem.W.makesIn K C = true
  kC : PySem.W.keepIn K (.ref C) = true
  is : IsC K C
  ne : NeM K C
  cr : CRead K C (.type "type")
  nf : PySem.W.notFirst K C (.ref C) = true
  nB : ∀ t ∈ baseTys, PySem.W.notFirst K C (.type t) = true
theorem clsD_mk {K : PySem.W.Frag} {x : Str} {C : Addr} (g : PySem.W.nsIn K mainGlobals x = some (some (.ref C))) (hd : PySem.W.hasDictIn K C = true) (pg : PySem.W.plainGet K C Str.empty = true) (sa : PySem.W.findIn K (.ref C) "__setattr__" = some (some (.builtin "object.__setattr__"))) (po : PySem.W.plainOver K C = true)
    (kC : PySem.W.keepIn K (.ref C) = true) (mk' : PySem.W.makesIn K C = true)
    (hm : PySem.W.mroIn K C (.type "object") = some true) (ht : PySem.W.takesIn K (.builtin "object.__class__") = some true) (hn : PySem.W.specialIn K (.builtin "object.__class__") "__get__" = some (some (.builtin "getset_descriptor.__get__"))) (ha : PySem.W.findIn K (.ref C) "__class__" = some (some (.builtin "object.__class__")))
    (yes : PySem.W.kitOne K (.ref C) (.ref C) = some true) (o1 : PySem.W.kitOne K (.type "NoneType") (.ref C) = some false) (o2 : PySem.W.kitOne K (.type "bool") (.ref C) = some false) (o3 : PySem.W.kitOne K (.type "int") (.ref C) = some false) (o4 : PySem.W.kitOne K (.type "str") (.ref C) = some false) (o5 : PySem.W.kitOne K (.type "list") (.ref C) = some false) (o6 : PySem.W.kitOne K (.type "tuple") (.ref C) = some false) (o7 : PySem.W.kitOne K (.type "dict") (.ref C) = some false)
    (f1 : PySem.W.notFirst K C (.type "NoneType") = true) (f2 : PySem.W.notFirst K C (.type "bool") = true) (f3 : PySem.W.notFirst K C (.type "int") = true) (f4 : PySem.W.notFirst K C (.type "str") = true) (f5 : PySem.W.notFirst K C (.type "list") = true) (f6 : PySem.W.notFirst K C (.type "tuple") = true) (f7 : PySem.W.notFirst K C (.type "dict") = true) (fC : PySem.W.notFirst K C (.ref C) = true)
    (ne : PySem.W.findIn K (.ref C) "__ne__" = some (some (.builtin "object.__ne__"))) (rd : PySem.W.readsIn K C (.type "type") = true) (ga : PySem.W.specialIn K (.ref C) "__getattribute__" = some (some (.builtin "type.__getattribute__"))) : ClsD K x C := by
  refine ⟨g, ⟨pg, hd, po, sa⟩, mk', kC, ⟨yes, fun t h => ?_, hm, ht, hn, ha⟩, ⟨ne, hm⟩, ⟨rd, ga⟩, fC, fun t h => ?_⟩
  · simp only [baseTys, List.mem_cons, List.not_mem_nil, or_false] at h
    rcases h with rfl | rfl | rfl | rfl | rfl | rfl | rfl
    · exact o1
    · exact o2
    · exact o3
    · exact o4
    · exact o5
    · exact o6
    · exact o7
  · simp only [baseTys, List.mem_cons, List.not_mem_nil, or_false] at h
    rcases h with rfl | rfl | rfl | rfl | rfl | rfl | rfl
    · exact f1
    · exact f2
    · exact f3
    · exact f4
    · exact f5
    · exact f6
    · exact f7
/-- the def at f, its code object at c -/
structure CodD (K : PySem.W.Frag) (x : Str) (st : Stmt) (f c : Addr) : Prop where
  g : PySem.W.nsIn K mainGlobals x = some (some (.ref f))
  fn : FunC K x x st f c
  kp : PySem.W.keepIn K (.ref f) = true
theorem codD_mk {K : PySem.W.Frag} {x : Str} {st : Stmt} {f c : Addr} {oc kV doc pm ct : Value} {od an : Option Addr} {osl : Array (Option Value)} (a : PySem.W.nsIn K mainGlobals x = some (some (.ref f)))
    (l : K.lookup f = some ⟨oc, od, .func (PySem.W.fnOf x x (defArgs st) (defBody st) (defScope st) .none kV doc pm an (.ref c) ct), osl⟩) (cc : PySem.W.codeIn K (.ref c) x = true) (k : PySem.W.keepIn K (.ref f) = true) : CodD K x st f c :=
  ⟨a, ⟨oc, od, kV, doc, pm, an, ct, osl, l, cc⟩, k⟩
theorem raw_2 {P : Program} {w : World} {K : PySem.W.Frag} {mg : Str → Option Value} {base : Heap} {CX : CXT} {k : Nat} {f : Addr} {fd : FuncData} {ps : List Str} {sp : Sp} (B : L2.Binds K fd ps []) (G : FnOk P w K mg base CX k f fd ps sp) : FnR P w K mg base CX k f sp :=
  (G.raw B .nil).imp fun vs H Q E h => by rw [List.append_nil]; exact h
/-- the def at f, its code object at c, the table at P -/
structure CodeD (K : PySem.W.Frag) (x : Str) (st : Stmt) (f c P : Addr) : Prop where
  g : PySem.W.nsIn K mainGlobals x = some (some (.ref f))
  fn : FunC K x x st f c
  kp : PySem.W.keepIn
      K (.ref f) = true
  cd : ∃ ec dc vc slc, K.lookup c = some ⟨ec, dc, .fields vc, slc⟩ ∧ vc[11]? = some (.ref P)
  no : K.lookup P = none
theorem codeD_mk {K : PySem.W.Frag} {x : Str} {st : Stmt} {f c P : Addr} {oc kV doc pm ct ec : Value} {od an dc : Option Addr} {osl slc : Array (Option Value)} {vc : Array Value} (a : PySem.W.nsIn K mainGlobals x = some (some (.ref f)))
    (l : K.lookup f = some ⟨oc, od, .func (PySem.W.fnOf x x (defArgs st) (defBody st) (defScope st) .none kV doc pm an (.ref c) ct), osl⟩) (cc : PySem.W.codeIn K (.ref c) x = true) (k : PySem.W.keepIn K (.ref f) = true)
    (lc : K.lookup c = some ⟨ec, dc, .fields vc, slc⟩) (h : vc[11]? = some (.ref P)) (no : K.lookup P = none) : CodeD K x st f c P :=
  ⟨a, ⟨oc, od, kV, doc, pm, an, ct, osl, l, cc⟩, k, ⟨ec, dc, vc, slc, lc, h⟩, no⟩
/-- a method with one default by keyword -/
def MethK (K : PySem.W.Frag) (C : Addr) (x qual : Str) (st : Stmt) (k : Str) (v : V) : Prop := ∃ (f : Addr) (fd : FuncData), Meth K C x f ∧ FunD K x qual (defArgs st) (defBody st) (defScope st) [] [(k, v)] f fd
theorem methK_mk {K : PySem.W.Frag} {C : Addr} {x qual k : Str} {st : Stmt} {v : V} {f D : Addr} {u oc doc pm cdv ct : Value} {od an : Option Addr} {osl : Array (Option Value)} (m : Meth K C x f)
    (l : K.lookup f = some ⟨oc, od, .func (PySem.W.fnOf x qual (defArgs st) (defBody st) (defScope st) .none (.ref D) doc pm an cdv ct), osl⟩) (c : PySem.W.codeIn K cdv qual = true) (kp : PySem.W.keepIn K (.ref f) = true) (n : PySem.W.nsIn K D k = some (some u)) (r : RelV v u) : MethK K C x qual st k v :=
  ⟨f, _, m, ⟨oc, od, .none, .ref D, doc, pm, an, cdv, ct, osl, rfl, l, c, .inl ⟨rfl, rfl⟩, .inr ⟨D, rfl, fun q hq => by
    rw [List.mem_singleton.mp hq]
    exact ⟨u, n, r⟩⟩⟩, kp⟩
end K1

namespace K1
open PySem PySem.Spec
open PyProof.Rows L2 L2H EnT StX SmX TxS DuX XdI Tr3 CnB ClX
/-- an error's class over ArithmeticError -/
structure ErrDA (K : PySem.W.Frag) (x fld qual : Str) (st : Stmt) (D S1 S2 S3 : Addr) : Prop where
  g : PySem.W.nsIn K mainGlobals x = some (some (.ref D))
  ox : OexA K D
  no : PySem.W.findIn K (.ref D) fld = some none
  ini : ∃ f, PySem.W.findIn K (.ref D) "__init__" = some (some (.ref f)) ∧ PySem.W.typeIn K (.ref f) = some (.type "function") ∧ DefR K "__init__" qual st f
  er : ErrF K S1 S2 S3 D 2
theorem iniA {K : PySem.W.Frag} {D : Addr} {oD : Obj} (lD : K.lookup D = some oD) (sh : ∃ nm q N bs bm sn sub ab col dd k0 k1 k2 k3 k5, oD = PySem.excClassObj nm q D N bs bm true sn sub ab col dd k0 k1 k2 k3 k5 "ArithmeticError.__new__" ∧ PySem.W.excTail bmA bm = true) : PySem.W.excInitIn K D bmA "ArithmeticError.__new__" = true := by
  obtain ⟨nm, q, N, bs, bm, sn, sub, ab, col, dd, k0, k1, k2, k3, k5, e, r⟩ := sh
  unfold PySem.W.excInitIn
  rw [lD, e]
  show (D == D && ("ArithmeticError.__new__" : String) == "ArithmeticError.__new__" && !false && PySem.W.excTail bmA bm) = true
  rw [r]
  simp
theorem ovA {K : PySem.W.Frag} {D : Addr} {oD : Obj} (lD : K.lookup D = some oD) (sh : ∃ nm q N bs bm sn sub ab col dd k0 k1 k2 k3 k5, oD = PySem.excClassObj nm q D N bs bm true sn sub ab col dd k0 k1 k2 k3 k5 "ArithmeticError.__new__" ∧ PySem.W.excTail bmA bm = true) : PySem.W.excOver K D bmA = true := by
  obtain ⟨nm, q, N, bs, bm, sn, sub, ab, col, dd, k0, k1, k2, k3, k5, e, r⟩ := sh
  unfold PySem.W.excOver PySem.W.clsIn
  rw [lD, e]
  show (D == D && PySem.W.excTail bmA bm) = true
  rw [r]
  simp
theorem errDA_mk {K : PySem.W.Frag} {x fld qual : Str} {st : Stmt} {D S1 S2 S3 f : Addr} {oc kV doc pm cdv ct : Value} {od an : Option Addr} {osl : Array (Option Value)} {oD : Obj} (g : PySem.W.nsIn K mainGlobals x = some (some (.ref D)))
    (lD : K.lookup D = some oD) (sh : ∃ nm q N bs bm sn sub ab col dd k0 k1 k2 k3 k5, oD = PySem.excClassObj nm q D N bs bm true sn sub ab col dd k0 k1 k2 k3 k5 "ArithmeticError.__new__" ∧ PySem.W.excTail bmA bm = true)
    (sa : PySem.W.findIn K (.ref D) "__setattr__" = some (some (.builtin "object.__setattr__"))) (exC : PySem.W.subIn K (.ref D) (.type "BaseException") = some true) (tyC : PySem.W.typeIn K (.ref D) = some (.type "type")) (kC : PySem.W.keepIn K (.ref D) = true)
    (no : PySem.W.findIn K (.ref D) fld = some none) (a : PySem.W.findIn K (.ref D) "__init__" = some (some (.ref f))) (ty : PySem.W.typeIn K (.ref f) = some (.type "function"))
    (l : K.lookup f = some ⟨oc, od, .func (PySem.W.fnOf "__init__" qual (defArgs st) (defBody st) (defScope st) .none kV doc pm an cdv ct), osl⟩) (c : PySem.W.codeIn K cdv qual = true) (k : PySem.W.keepIn K (.ref f) = true)
    (hg : PySem.W.findIn K (.ref D) "__getattribute__" = some (some (.builtin "BaseException.__getattribute__"))) (hk : PySem.W.findIn K (.ref D) "__getattr__" = some none) (hd : PySem.W.hasDictIn K D = true)
    (ha : PySem.W.findIn K (.ref D) "__class__" = some (some (.builtin "object.__class__"))) (hn : PySem.W.specialIn K (.builtin "object.__class__") "__get__" = some (some (.builtin "getset_descriptor.__get__"))) (ht : PySem.W.takesIn K (.builtin "object.__class__") = some true) (hm : PySem.W.mroIn K D (.type "object") = some true)
    (k1 : PySem.W.kitOne K (.ref D) (.ref S1) = some false) (k2 : PySem.W.kitOne K (.ref D) (.ref S2) = some false) (k3 : PySem.W.kitOne K (.ref D) (.ref S3) = some true) (kV' : PySem.W.kitOne K (.ref D) (.type "ValueError") = some false) (kL : PySem.W.kitOne K (.ref D) (.type "LookupError") = some false) (kA : PySem.W.kitOne K (.ref D) (.type "ArithmeticError") = some true)
    (kx : PySem.W.exmAny K (.ref D) [.ref S1, .ref S2, .ref S3] = some true) : ErrDA K x fld qual st D S1 S2 S3 :=
  ⟨g, ⟨iniA lD sh, ovA lD sh, hd, sa, exC, tyC, kC⟩, no, ⟨f, a, ty, ⟨oc, od, kV, doc, pm, an, cdv, ct, osl, l, c⟩, k⟩, ⟨⟨hg, hk, exC, hd, ha, hn, ht, hm⟩, k1, k2, k3, kV', kL, kA, kx, ⟨hg, hk, exC, hd⟩⟩⟩
end K1

namespace K1
open PySem PySem.Spec
open PyProof.Rows L2 L2H EnT StX SmX TxS DuX XdI Tr3 CnB ClX
/-! ### what is known of Expression, Fact and the errors -/
abbrev frees : List Str := ["len", "int", "abs", "range", "list", "str", "set", "sorted", "tuple", "isinstance", "enumerate", "repr", "bool", "any", "all", "max", "min"]
/-- the tuple of the signs -/
def SgD (K : PySem.W.Frag) (aS : Addr) : Prop := PySem.W.nsIn K mainGlobals "SIGNS" = some (some (.ref aS)) ∧ ∃ (dd : Option Addr) (t1 t2 t3 t4 : Tok) (n : Nat) (sl : Array (Option Value)), K.lookup aS = some ⟨.type "tuple", dd, .seq #[.str "|" t1, .str "&" t2, .str "-" t3, .str "^" t4] n, sl⟩
theorem sgD_mk {K : PySem.W.Frag} {aS : Addr} {dd : Option Addr} {t1 t2 t3 t4 : Tok} {n : Nat} {sl : Array (Option Value)} (a : PySem.W.nsIn K mainGlobals "SIGNS" = some (some (.ref aS))) (l : K.lookup aS = some ⟨.type "tuple", dd, .seq #[.str "|" t1, .str "&" t2, .str "-" t3, .str "^" t4] n, sl⟩) : SgD K aS := ⟨a, dd, t1, t2, t3, t4, n, sl, l⟩
theorem othT_mk {K : PySem.W.Frag} {C : Addr} {nm T : String} {fo ro : Option Value} (h1 : PySem.W.findIn K (.type T) (PySem.dunder nm) = some fo) (h2 : PySem.W.findIn K (.type T) (dunderR nm) = some ro) (hs : PySem.W.subIn K (.type T) (.ref C) = some false) : OthT K C nm T := ⟨⟨fo, h1⟩, ⟨ro, h2⟩, hs⟩
theorem oth_4 {K : PySem.W.Frag} {C : Addr} {nm : String} (o1 : OthT K C nm "NoneType") (o2 : OthT K C nm "int") (o3 : OthT K C nm "str") (o4 : OthT K C nm "tuple") : ∀ t ∈ tysO, OthT K C nm t := fun t h => by
  simp only [tysO, List.mem_cons, List.not_mem_nil, or_false] at h
  rcases h with rfl | rfl | rfl | rfl
  · exact o1
  · exact o2
  · exact o3
  · exact o4
structure RawE (K : PySem.W.Frag) (CE D aS : Addr) : Prop where
  exp : ClsD K "Expression" CE
  n1 : PySem.W.findIn K (.ref CE) "_form" = some none
  n2 : PySem.W.findIn K (.ref CE) "_leaves" = some none
  n3 : PySem.W.findIn K (.ref CE) "_depth" = some none
  n4 : PySem.W.findIn K (.ref CE) "_fields" = some none
  n5 : PySem.W.findIn K (.ref CE) "_has_given" = some none
  sf : PySem.W.selfFirst K CE = true
  ini : MethD K CE "__init__" "Expression.__init__" sInitE
  m1 : MethD K CE "__or__" "Expression.__or__" sOrE
  m2 : MethD K CE "__and__" "Expression.__and__" sAndE
  m3 : MethD K CE "__sub__" "Expression.__sub__" sSubE
  m4 : MethD K CE "__xor__" "Expression.__xor__" sXorE
  str : MethD K CE "__str__" "Expression.__str__" sStrE
  wi : MethD K CE "within" "Expression.within" sWithin
  p1 : PropD K CE "form" "Expression.form" sFormP
  p2 : PropD K CE "leaves" "Expression.leaves" sLeavesP
  p3 : PropD K CE "depth" "Expression.depth" sDepthP
  rd : StatD K CE (.type "type") "read" "Expression.read" sReadE
  r1 : PySem.W.findIn K (.ref CE) (dunderR Operator.BitOr.info.2) = some none
  o1 : ∀ t ∈ tysO, OthT K CE Operator.BitOr.info.2 t
  d1 : OthN K CE D Operator.BitOr.info.2
  r2 : PySem.W.findIn K (.ref CE) (dunderR Operator.BitAnd.info.2) = some none
  o2 : ∀ t ∈ tysO, OthT K CE Operator.BitAnd.info.2 t
  d2 : OthN K CE D Operator.BitAnd.info.2
  r3 : PySem.W.findIn K (.ref CE) (dunderR Operator.Sub.info.2) = some none
  o3 : ∀ t ∈ tysO, OthT K CE Operator.Sub.info.2 t
  d3 : OthN K CE D Operator.Sub.info.2
  r4 : PySem.W.findIn K (.ref CE) (dunderR Operator.BitXor.info.2) = some none
  o4 : ∀ t ∈ tysO, OthT K CE Operator.BitXor.info.2 t
  d4 : OthN K CE D Operator.BitXor.info.2
  g1 : GloD K "is_name" sIsName
  g2 : GloD K "is_field" sIsField
  g3 : GloD K "form_size" sSize
  g4 : GloD K "is_triple" sTriple
  g5 : GloD K "check_leaves" sChkL
  g6 : GloD K "check_depth" sChkD
  g7 : GloD K "form_text" sText
  g8 : GloD K "side_text" sSide
  rc : GloD K "read_counted" sReadC
  tw : GloD K "take_word" sTake
  jo : GloD K "joined" sJoined
  g12 : GloD K "form_leaves" sLeavesF
  g13 : GloD K "form_fields" sFieldsF
  g14 : GloD K "check_expression" sChkE
  g15 : GloD K "with_sign" sSign
  sg : SgD K aS
  c1 : ∃ t, PySem.W.nsIn K mainGlobals "LONGEST_NAME" = some (some (.int 8 t))
  c2 : ∃ t, PySem.W.nsIn K mainGlobals "GIVEN" = some (some (.str tGiven t))
  c3 : ∃ t, PySem.W.nsIn K mainGlobals "NONE" = some (some (.str tNone t))
  c4 : ∃ t, PySem.W.nsIn K mainGlobals "MOST_LEAVES" = some (some (.int 200 t))
  c5 : ∃ t, PySem.W.nsIn K mainGlobals "MOST_DEPTH" = some (some (.int 20 t))
  fm : PySem.W.findIn K (.ref CE) "__format__" = some (some (.builtin "object.__format__"))
structure RawF (K : PySem.W.Frag) (CE D : Addr) : Prop where
  fac : ClsD K "Fact" D
  n6 : PySem.W.findIn K (.ref D) "_left" = some none
  n7 : PySem.W.findIn K (.ref D) "_right" = some none
  nD : PySem.W.kitOne K (.ref D) (.ref CE) = some false
  ini : MethD K D "__init__" "Fact.__init__" sInitF
  rep : MethD K D "__repr__" "Fact.__repr__" sReprF
  rd : StatD K D (.type "type") "read" "Fact.read" sReadF
structure RawR (K : PySem.W.Frag) (CF CT CL CD CN S1 S2 S3 : Addr) : Prop where
  s1 : PySem.W.nsIn K mainGlobals "SetError" = some (some (.ref S1))
  s2 : PySem.W.nsIn K mainGlobals "StateError" = some (some (.ref S2))
  s3 : PySem.W.nsIn K mainGlobals "LimitError" = some (some (.ref S3))
  eF : ErrD K "InvalidForm" "value" "InvalidForm.__init__" s_InvalidForm___init__ CF S1 S2 S3
  eT : ErrD K "InvalidText" "value" "InvalidText.__init__" sErrText CT S1 S2 S3
  eL : ErrDA K "TooManyLeaves" "limit" "TooManyLeaves.__init__" s_TooManyLeaves___init__ CL S1 S2 S3
  eD : ErrDA K "TooManyLevels" "limit" "TooManyLevels.__init__" s_TooManyLevels___init__ CD S1 S2 S3
  eN : ErrD K "NotAnExpression" "value" "NotAnExpression.__init__" s_NotAnExpression___init__ CN S1 S2 S3
  q11 : PySem.W.kitOne K (.ref CF) (.ref CF) = some true
  q12 : PySem.W.kitOne K (.ref CF) (.ref CT) = some false
  q13 : PySem.W.kitOne K (.ref CF) (.ref CL) = some false
  q14 : PySem.W.kitOne K (.ref CF) (.ref CD) = some false
  q15 : PySem.W.kitOne K (.ref CF) (.ref CN) = some false
  q21 : PySem.W.kitOne K (.ref CT) (.ref CF) = some false
  q22 : PySem.W.kitOne K (.ref CT) (.ref CT) = some true
  q23 : PySem.W.kitOne K (.ref CT) (.ref CL) = some false
  q24 : PySem.W.kitOne K (.ref CT) (.ref CD) = some false
  q25 : PySem.W.kitOne K (.ref CT) (.ref CN) = some false
  q31 : PySem.W.kitOne K (.ref CL) (.ref CF) = some false
  q32 : PySem.W.kitOne K (.ref CL) (.ref CT) = some false
  q33 : PySem.W.kitOne K (.ref CL) (.ref CL) = some true
  q34 : PySem.W.kitOne K (.ref CL) (.ref CD) = some false
  q35 : PySem.W.kitOne K (.ref CL) (.ref CN) = some false
  q41 : PySem.W.kitOne K (.ref CD) (.ref CF) = some false
  q42 : PySem.W.kitOne K (.ref CD) (.ref CT) = some false
  q43 : PySem.W.kitOne K (.ref CD) (.ref CL) = some false
  q44 : PySem.W.kitOne K (.ref CD) (.ref CD) = some true
  q45 : PySem.W.kitOne K (.ref CD) (.ref CN) = some false
  q51 : PySem.W.kitOne K (.ref CN) (.ref CF) = some false
  q52 : PySem.W.kitOne K (.ref CN) (.ref CT) = some false
  q53 : PySem.W.kitOne K (.ref CN) (.ref CL) = some false
  q54 : PySem.W.kitOne K (.ref CN) (.ref CD) = some false
  q55 : PySem.W.kitOne K (.ref CN) (.ref CN) = some true
  fV : PySem.W.nsIn K mainGlobals "ValueError" = some none
  fL : PySem.W.nsIn K mainGlobals "LookupError" = some none
  fA : PySem.W.nsIn K mainGlobals "ArithmeticError" = some none
structure RawL (K : PySem.W.Frag) : Prop where
  nm : GloD K "_law_names" sNames
  dr : GloD K "_law_draw" sDraw
  fo : GloD K "_law_form" sForm
  sp : GloD K "_law_spoilt" s_L_spoilt
  bl : GloD K "_law_bad_line" s_L_bad_line
  br : GloD K "_law_broad" s_L_broad
  ta : GloD K "_law_tall" s_L_tall
  tl : GloD K "_law_tall_line" s_L_tall_line
  ce : GloD K "_law_cell" sCell
  po : GloD K "_law_pool" sPool
  ca : GloD K "_law_caught" sCaught
  free : ∀ x ∈ frees, PySem.W.nsIn K mainGlobals x = some none
theorem ErrD.errF {K : PySem.W.Frag} {x fld qual : Str} {st : Stmt} {D S1 S2 S3 : Addr} (e : ErrD K x fld qual st D S1 S2 S3) : ErrF K S1 S2 S3 D 0 := ⟨e.xc, e.k1, e.k2, e.k3, e.kV, e.kL, e.kA, e.kx, e.xf⟩
theorem free_of {h : Heap} {K : PySem.W.Frag} {mg : Str → Option Value} (R : RawL K) (X : K.In h) (G : h.Ns mainGlobals mg) : Free mg := by
  have z : ∀ x ∈ frees, mg x = none := fun x hx => PySem.W.mg_none_of X G (R.free x hx)
  exact ⟨z _ (by simp), z _ (by simp), z _ (by simp), z _ (by simp), z _ (by simp), z _ (by simp), z _ (by simp), z _ (by simp), z _ (by simp), z _ (by simp), z _ (by simp), z _ (by simp), z _ (by simp), z _ (by simp), z _ (by simp), z _ (by simp), z _ (by simp)⟩
section
variable {w : World} {P : Program} {base : Heap} {mg : Str → Option Value} {K : PySem.W.Frag} {CE D CF CT CL CD CN S1 S2 S3 aS : Addr} {h : Heap}
theorem hasX_of {CX : CXT} {k : Nat} {x : Str} {st : Stmt} {ps : List Str} {sp : Sp} (d : GloD K x st) (X : K.In h) (G : h.Ns mainGlobals mg) (B : ∀ f fd, Fun K x x st f fd → L2.Binds K fd ps []) (ok : ∀ f fd, mg x = some (.ref f) → Fun K x x st f fd → FnOk P w K mg base CX k f fd ps sp) : ∃ f, Has P w K mg base CX k x f ps sp := by
  obtain ⟨f, a, d⟩ := d
  obtain ⟨fd, F⟩ := d.fun_
  have m := PySem.W.mg_of X G a
  exact ⟨f, m, F.kp, fd, ok f fd m F, B f fd F⟩
theorem pp_of {D : Addr} {x y qual : Str} {st : Stmt} (c : Cls K D) (d : PropD K D x qual st) (B : ∀ f fd, Fun K x qual st f fd → L2.Binds K fd ["self"] []) (ok : ∀ f fd, Fun K x qual st f fd → FnOk P w K mg base CX0 1 f fd ["self"] (getSp D y)) : Pp P w K mg base D x y := by
  obtain ⟨p, g, pr, d⟩ := d
  obtain ⟨fd, F⟩ := d.fun_
  exact ⟨c, p, g, fd, pr, ok g fd F, B g fd F⟩
theorem own_of {CX : CXT} {D : Addr} {x qual : Str} {st : Stmt} {k : Nat} {ps : List Str} {sp : Sp} (d : MethD K D x qual st) (B : ∀ f fd, Fun K x qual st f fd → L2.Binds K fd ps []) (ok : ∀ f fd, Fun K x qual st f fd → FnOk P w K mg base CX k f fd ps sp) : ∃ g, OwnM K D x g ∧ FnR P w K mg base CX k g sp := by
  obtain ⟨f, a, i, d⟩ := d
  obtain ⟨fd, F⟩ := d.fun_
  exact ⟨f, ⟨a, i⟩, raw_2 (B f fd F) (ok f fd F)⟩
theorem u_orM : (PySem.dunder Operator.BitOr.info.2 : Str) = "__or__" := by decide +kernel
theorem u_andM : (PySem.dunder Operator.BitAnd.info.2 : Str) = "__and__" := by decide +kernel
theorem u_subM : (PySem.dunder Operator.Sub.info.2 : Str) = "__sub__" := by decide +kernel
theorem u_xorM : (PySem.dunder Operator.BitXor.info.2 : Str) = "__xor__" := by decide +kernel
theorem er5_of (R : RawR K CF CT CL CD CN S1 S2 S3) (X : K.In h) (G : h.Ns mainGlobals mg) : Er5 K mg CF CT CL CD CN := by
  obtain ⟨fF, iF1, iF2, dF⟩ := R.eF.ini
  obtain ⟨fdF, FF⟩ := dF.fun_
  obtain ⟨fT, iT1, iT2, dT⟩ := R.eT.ini
  obtain ⟨fdT, FT⟩ := dT.fun_
  obtain ⟨fL, iL1, iL2, dL⟩ := R.eL.ini
  obtain ⟨fdL, FL⟩ := dL.fun_
  obtain ⟨fD, iD1, iD2, dD⟩ := R.eD.ini
  obtain ⟨fdD, FD⟩ := dD.fun_
  obtain ⟨fN, iN1, iN2, dN⟩ := R.eN.ini
  obtain ⟨fdN, FN⟩ := dN.fun_
  exact ⟨⟨fF, fdF, ⟨PySem.W.mg_of X G R.eF.g, R.eF.ox, R.eF.no, iF1, iF2⟩, FF⟩, ⟨fT, fdT, ⟨PySem.W.mg_of X G R.eT.g, R.eT.ox, R.eT.no, iT1, iT2⟩, FT⟩, ⟨fL, fdL, ⟨PySem.W.mg_of X G R.eL.g, R.eL.ox, R.eL.no, iL1, iL2⟩, FL⟩, ⟨fD, fdD, ⟨PySem.W.mg_of X G R.eD.g, R.eD.ox, R.eD.no, iD1, iD2⟩, FD⟩, ⟨fN, fdN, ⟨PySem.W.mg_of X G R.eN.g, R.eN.ox, R.eN.no, iN1, iN2⟩, FN⟩⟩
theorem errK_of (R : RawR K CF CT CL CD CN S1 S2 S3) (X : K.In h) (G : h.Ns mainGlobals mg) : ErrK K mg S1 S2 S3 CF CT CL CD CN :=
  ⟨PySem.W.mg_of X G R.s1, PySem.W.mg_of X G R.s2, PySem.W.mg_of X G R.s3, PySem.W.mg_none_of X G R.fV, PySem.W.mg_none_of X G R.fL, PySem.W.mg_none_of X G R.fA,
    PySem.W.mg_of X G R.eF.g, R.eF.errF, R.eF.no, R.q11, R.q12, R.q13, R.q14, R.q15,
    PySem.W.mg_of X G R.eT.g, R.eT.errF, R.eT.no, R.q21, R.q22, R.q23, R.q24, R.q25,
    PySem.W.mg_of X G R.eL.g, R.eL.er, R.eL.no, R.q31, R.q32, R.q33, R.q34, R.q35,
    PySem.W.mg_of X G R.eD.g, R.eD.er, R.eD.no, R.q41, R.q42, R.q43, R.q44, R.q45,
    PySem.W.mg_of X G R.eN.g, R.eN.errF, R.eN.no, R.q51, R.q52, R.q53, R.q54, R.q55⟩
theorem w5_of (T : Free mg) (RE : RawE K CE D aS) (RF : RawF K CE D) (RR : RawR K CF CT CL CD CN S1 S2 S3) (RL : RawL K) (X : K.In h) (G : h.Ns mainGlobals mg) : W5 P w K mg base CE D CF CT CL CD CN S1 S2 S3 (.type "type") (.type "type") := by
  have R := er5_of (mg := mg) RR X G
  obtain ⟨a, dd, t1, t2, t3, t4, n, sl, l⟩ := RE.sg
  obtain ⟨u2, e2⟩ := RE.c2
  obtain ⟨u3, e3⟩ := RE.c3
  obtain ⟨u4, e4⟩ := RE.c4
  obtain ⟨u5, e5⟩ := RE.c5
  obtain ⟨tL, lL⟩ := RE.c1
  have GF : Gf K mg aS := ⟨T, PySem.W.mg_of X G a, fun H => .inr ⟨_, _, _, l, rfl, rfl, (by show 4 ≤ sizeLine; decide), .cons ⟨_, rfl⟩ (.cons ⟨_, rfl⟩ (.cons ⟨_, rfl⟩ (.cons ⟨_, rfl⟩ .nil)))⟩, ⟨u2, PySem.W.mg_of X G e2⟩, ⟨u3, PySem.W.mg_of X G e3⟩, ⟨u4, PySem.W.mg_of X G e4⟩, ⟨u5, PySem.W.mg_of X G e5⟩⟩
  have M : ExpC K mg CE := ⟨PySem.W.mg_of X G RE.exp.g, RE.exp.cl, RE.n1, RE.n2, RE.n3, RE.n4, RE.n5⟩
  have MF : FacC K mg D := ⟨PySem.W.mg_of X G RF.fac.g, RF.fac.cl, RF.n6, RF.n7⟩
  have fc : FmtC K CE := ⟨RE.fm, RE.exp.is.hm⟩
  obtain ⟨f1, h1⟩ := hasX_of (P := P) (w := w) (base := base) (CX := CX0) (k := 1) (ps := ["value"]) (sp := spIsName) RE.g1 X G (fun f fd F => F.binds (ps := ["value"]) fun _ _ _ _ _ _ us hl => match us, hl with | [_], _ => rfl) fun f fd m F => ok_isname F T ⟨tL, PySem.W.mg_of X G lL⟩
  obtain ⟨f2, h2⟩ := hasX_of (P := P) (w := w) (base := base) (CX := CX0) (k := 2) (ps := ["value"]) (sp := spIsField) RE.g2 X G (fun f fd F => F.binds (ps := ["value"]) fun _ _ _ _ _ _ us hl => match us, hl with | [_], _ => rfl) fun f fd m F => ok_isfield F GF h1
  obtain ⟨f4, h4⟩ := hasX_of (P := P) (w := w) (base := base) (CX := CX0) (k := 1) (ps := ["value"]) (sp := spTriple) RE.g4 X G (fun f fd F => F.binds (ps := ["value"]) fun _ _ _ _ _ _ us hl => match us, hl with | [_], _ => rfl) fun f fd m F => ok_triple F GF
  obtain ⟨f4b, h4b⟩ := hasX_of (P := P) (w := w) (base := base) (CX := CX0) (k := 1) (ps := ["value"]) (sp := spT3) RE.g4 X G (fun f fd F => F.binds (ps := ["value"]) fun _ _ _ _ _ _ us hl => match us, hl with | [_], _ => rfl) fun f fd m F => ok_t3 F GF
  obtain ⟨f3, h3⟩ := hasX_of (P := P) (w := w) (base := base) (CX := CX0) (k := 2) (ps := ["value"]) (sp := spSize) RE.g3 X G (fun f fd F => F.binds (ps := ["value"]) fun _ _ _ _ _ _ us hl => match us, hl with | [_], _ => rfl) fun f fd m F => ok_size F T h1 h4
  obtain ⟨f3b, h3b⟩ := hasX_of (P := P) (w := w) (base := base) (CX := CX0) (k := 2) (ps := ["value"]) (sp := spSizeX) RE.g3 X G (fun f fd F => F.binds (ps := ["value"]) fun _ _ _ _ _ _ us hl => match us, hl with | [_], _ => rfl) fun f fd m F => fnOr (ok_size F T h1 h4) (ok_sizeNo F T h1 h4b)
  obtain ⟨f5, h5⟩ := hasX_of (P := P) (w := w) (base := base) (CX := CX0) (k := 1) (ps := ["leaves"]) (sp := spChk 200) RE.g5 X G (fun f fd F => F.binds (ps := ["leaves"]) fun _ _ _ _ _ _ us hl => match us, hl with | [_], _ => rfl) fun f fd m F => ok_chkL F GF
  obtain ⟨f5b, h5b⟩ := hasX_of (P := P) (w := w) (base := base) (CX := L2.CX P w) (k := 3) (ps := ["leaves"]) (sp := spLim 200 CL) RE.g5 X G (fun f fd F => F.binds (ps := ["leaves"]) fun _ _ _ _ _ _ us hl => match us, hl with | [_], _ => rfl) fun f fd m F => ok_limL F GF R
  obtain ⟨f6, h6⟩ := hasX_of (P := P) (w := w) (base := base) (CX := CX0) (k := 1) (ps := ["depth"]) (sp := spChk 20) RE.g6 X G (fun f fd F => F.binds (ps := ["depth"]) fun _ _ _ _ _ _ us hl => match us, hl with | [_], _ => rfl) fun f fd m F => ok_chkD F GF
  obtain ⟨f6b, h6b⟩ := hasX_of (P := P) (w := w) (base := base) (CX := L2.CX P w) (k := 3) (ps := ["depth"]) (sp := spLim 20 CD) RE.g6 X G (fun f fd F => F.binds (ps := ["depth"]) fun _ _ _ _ _ _ us hl => match us, hl with | [_], _ => rfl) fun f fd m F => ok_limD F GF R
  obtain ⟨f12, h12⟩ := hasX_of (P := P) (w := w) (base := base) (CX := CX0) (k := 20) (ps := ["form"]) (sp := spLeaves 20) RE.g12 X G (fun f fd F => F.binds (ps := ["form"]) fun _ _ _ _ _ _ us hl => match us, hl with | [_], _ => rfl) fun f fd m F => ok_leavesF F T m 19
  obtain ⟨f13, h13⟩ := hasX_of (P := P) (w := w) (base := base) (CX := CX0) (k := 21) (ps := ["form"]) (sp := spFields 20) RE.g13 X G (fun f fd F => F.binds (ps := ["form"]) fun _ _ _ _ _ _ us hl => match us, hl with | [_], _ => rfl) fun f fd m F => ok_fieldsF (n := 17) F T h12 h2
  obtain ⟨f14, h14⟩ := hasX_of (P := P) (w := w) (base := base) (CX := CX0) (k := 1) (ps := ["value"]) (sp := spChkE CE) RE.g14 X G (fun f fd F => F.binds (ps := ["value"]) fun _ _ _ _ _ _ us hl => match us, hl with | [_], _ => rfl) fun f fd m F => ok_chkE F T M RE.exp.is
  obtain ⟨f14b, h14b⟩ := hasX_of (P := P) (w := w) (base := base) (CX := L2.CX P w) (k := 3) (ps := ["value"]) (sp := spChkX K CE CN) RE.g14 X G (fun f fd F => F.binds (ps := ["value"]) fun _ _ _ _ _ _ us hl => match us, hl with | [_], _ => rfl) fun f fd m F => ok_chkX F T M RE.exp.is R
  obtain ⟨f8, a8, d8⟩ := RE.g8
  obtain ⟨fd8, F8⟩ := d8.fun_
  have mg8 := PySem.W.mg_of X G a8
  obtain ⟨f7, h7⟩ := hasX_of (P := P) (w := w) (base := base) (CX := CX0) (k := 40) (ps := ["form"]) (sp := spTextF 20) RE.g7 X G (fun f fd F => F.binds (ps := ["form"]) fun _ _ _ _ _ _ us hl => match us, hl with | [_], _ => rfl) fun f fd m F => (ok_texts F F8 T m mg8 19).1
  obtain ⟨fJ, hJ⟩ := hasX_of (P := P) (w := w) (base := base) (CX := CX0) (k := 1) (ps := ["parts"]) (sp := spJoined) RE.jo X G (fun f fd F => F.binds (ps := ["parts"]) fun _ _ _ _ _ _ us hl => match us, hl with | [_], _ => rfl) fun f fd m F => ok_joined F
  obtain ⟨fK, hK⟩ := hasX_of (P := P) (w := w) (base := base) (CX := CX0) (k := 2) (ps := ["opened", "word"]) (sp := spTakeX) RE.tw X G (fun f fd F => F.binds (ps := ["opened", "word"]) fun _ _ _ _ _ _ us hl => match us, hl with | [_, _], _ => rfl) fun f fd m F => ok_takeX F GF hJ h1
  obtain ⟨fKb, hKb⟩ := hasX_of (P := P) (w := w) (base := base) (CX := CX0) (k := 2) (ps := ["opened", "word"]) (sp := spTakeB) RE.tw X G (fun f fd F => F.binds (ps := ["opened", "word"]) fun _ _ _ _ _ _ us hl => match us, hl with | [_, _], _ => rfl) fun f fd m F => ok_takeB F GF hJ h1
  obtain ⟨f9, a9, d9⟩ := RE.rc
  obtain ⟨fd9, F9⟩ := d9.fun_
  have b9 : L2.Binds K fd9 ["text"] [] := F9.binds (ps := ["text"]) fun _ _ _ _ _ _ us hl => match us, hl with | [_], _ => rfl
  have h9 : TkX.HasT P w K mg base 3 "read_counted" f9 ["text"] spReadR := ⟨PySem.W.mg_of X G a9, F9.kp, fd9, fnTOr (ok_readC F9 T hK hJ) (fnTOr (ok_readNo (fJ := fJ) F9 T hKb) (ok_readOdd F9 T)), b9⟩
  obtain ⟨fI, aI, iI, dI⟩ := RE.ini
  obtain ⟨fdI, FI⟩ := dI.fun_
  have bI : L2.Binds K fdI ["self", "form"] [] := FI.binds (ps := ["self", "form"]) fun _ _ _ _ _ _ us hl => match us, hl with | [_, _], _ => rfl
  have OI : FnR P w K mg base CX0 22 fI (spInitE CE) := raw_2 bI (ok_initE FI GF M h3 h5 h6 h13 h12)
  have OX : FnR P w K mg base (L2.CX P w) 5 fI (spInitX CF CL CD) := raw_2 bI (ok_initX FI R h3b h5b h6b)
  have MK : Mk K CE fI := ⟨RE.exp.mk', aI, iI, RE.exp.kC⟩
  have pF : Pp P w K mg base CE "form" "_form" := pp_of RE.exp.cl RE.p1 (fun f fd F => F.binds (ps := ["self"]) fun _ _ _ _ _ _ us hl => match us, hl with | [_], _ => rfl) fun f fd F => ok_formP F M
  obtain ⟨f15, h15⟩ := hasX_of (P := P) (w := w) (base := base) (CX := L2.CX P w) (k := 7) (ps := ["sign", "one", "other"]) (sp := spSignX K CE CL CD CN) RE.g15 X G (fun f fd F => F.binds (ps := ["sign", "one", "other"]) fun _ _ _ _ _ _ us hl => match us, hl with | [_, _, _], _ => rfl) fun f fd m F => ok_signX F M MK OX h14b pF
  obtain ⟨fJ', aJ, iJ, dJ⟩ := RF.ini
  obtain ⟨fdJ, FJ⟩ := dJ.fun_
  have bJ : L2.Binds K fdJ ["self", "left", "right"] [] := FJ.binds (ps := ["self", "left", "right"]) fun _ _ _ _ _ _ us hl => match us, hl with | [_, _, _], _ => rfl
  have OJ : FnR P w K mg base CX0 2 fJ' (spInitF CE D) := raw_2 bJ (ok_initF FJ MF h14)
  have OJX : FnR P w K mg base (L2.CX P w) 4 fJ' (spInitFX K CE CN) := raw_2 bJ (ok_initFX FJ h14b)
  have MKF : Mk K D fJ' := ⟨RF.fac.mk', aJ, iJ, RF.fac.kC⟩
  obtain ⟨pR, gR, mR, dR⟩ := RE.rd
  obtain ⟨fdR, FR⟩ := dR.fun_
  have bR : L2.Binds K fdR ["text"] [] := FR.binds (ps := ["text"]) fun _ _ _ _ _ _ us hl => match us, hl with | [_], _ => rfl
  obtain ⟨pQ, gQ, mQ, dQ⟩ := RF.rd
  obtain ⟨fdQ, FQ⟩ := dQ.fun_
  have bQ : L2.Binds K fdQ ["text"] [] := FQ.binds (ps := ["text"]) fun _ _ _ _ _ _ us hl => match us, hl with | [_], _ => rfl
  obtain ⟨gS, aS', iS, dS⟩ := RE.str
  obtain ⟨fdS, FS⟩ := dS.fun_
  have bS : L2.Binds K fdS ["self"] [] := FS.binds (ps := ["self"]) fun _ _ _ _ _ _ us hl => match us, hl with | [_], _ => rfl
  have mS : OwnM K CE "__str__" gS := ⟨aS', iS⟩
  have RS : FnR P w K mg base CX0 41 gS (spStrE CE) := raw_2 bS (ok_strE FS T M h7)
  obtain ⟨fX, aX, dX⟩ := RE.g7
  obtain ⟨fdX, FX⟩ := dX.fun_
  have QS : FnQ P w K mg base 2 gS (spStrQ CE) := ok_strQ FS T M (PySem.W.mg_of X G aX) FX.kp (ok_textQ FX T)
  obtain ⟨gP, aP, iP, dP⟩ := RF.rep
  obtain ⟨fdP, FP⟩ := dP.fun_
  have bP : L2.Binds K fdP ["self"] [] := FP.binds (ps := ["self"]) fun _ _ _ _ _ _ us hl => match us, hl with | [_], _ => rfl
  obtain ⟨gW, aW, iW, dW⟩ := RE.wi
  obtain ⟨fdW, FW⟩ := dW.fun_
  have bW : L2.Binds K fdW ["self", "other"] [] := FW.binds (ps := ["self", "other"]) fun _ _ _ _ _ _ us hl => match us, hl with | [_, _], _ => rfl
  exact {
    T := T
    EK := errK_of RR X G
    rp := ⟨⟨gP, ⟨aP, iP⟩, raw_2 bP (ok_reprF FP MF fc mS RS), ok_reprQF FP MF fc mS QS⟩⟩
    M := M
    MF := MF
    I := RE.exp.is
    IF := RF.fac.is
    nD := RF.nD
    mkE := ⟨fI, MK, OI, OX⟩
    mkF := ⟨fJ', MKF, OJX⟩
    rE := RE.exp.cr
    rdE := ⟨pR, gR, mR, raw_2 bR (ok_readEX FR M R MK OX h9 h5b)⟩
    rF := RF.fac.cr
    rdF := ⟨pQ, gQ, mQ, raw_2 bQ (ok_readF FQ T M MK OI MF MKF OJ h9 h5), raw_2 bQ (ok_readFX FQ T R M MK OI OX MF MKF OJ h9 h5b)⟩
    o1 := ⟨RE.sf, RE.r1, RE.o1, RE.d1, by rw [u_orM]; exact own_of RE.m1 (fun f fd F => F.binds (ps := ["self", "other"]) fun _ _ _ _ _ _ us hl => match us, hl with | [_, _], _ => rfl) fun f fd F => ok_orX F h15⟩
    o2 := ⟨RE.sf, RE.r2, RE.o2, RE.d2, by rw [u_andM]; exact own_of RE.m2 (fun f fd F => F.binds (ps := ["self", "other"]) fun _ _ _ _ _ _ us hl => match us, hl with | [_, _], _ => rfl) fun f fd F => ok_andX F h15⟩
    o3 := ⟨RE.sf, RE.r3, RE.o3, RE.d3, by rw [u_subM]; exact own_of RE.m3 (fun f fd F => F.binds (ps := ["self", "other"]) fun _ _ _ _ _ _ us hl => match us, hl with | [_, _], _ => rfl) fun f fd F => ok_subX F h15⟩
    o4 := ⟨RE.sf, RE.r4, RE.o4, RE.d4, by rw [u_xorM]; exact own_of RE.m4 (fun f fd F => F.binds (ps := ["self", "other"]) fun _ _ _ _ _ _ us hl => match us, hl with | [_, _], _ => rfl) fun f fd F => ok_xorX F h15⟩
    wi := ⟨gW, fdW, ⟨aW, iW, dW.kp⟩, ok_withinX FW MF MKF OJX, bW⟩
    str := ⟨gS, mS, RS⟩
    pL := pp_of RE.exp.cl RE.p2 (fun f fd F => F.binds (ps := ["self"]) fun _ _ _ _ _ _ us hl => match us, hl with | [_], _ => rfl) fun f fd F => ok_leavesP F M
    pD := pp_of RE.exp.cl RE.p3 (fun f fd F => F.binds (ps := ["self"]) fun _ _ _ _ _ _ us hl => match us, hl with | [_], _ => rfl) fun f fd F => ok_depthP F M
    hB := hasX_of (P := P) (w := w) (base := base) (CX := CX0) (k := 9) (ps := ["_law_leaves"]) (sp := spBroad 8) RL.br X G (fun f fd F => F.binds (ps := ["_law_leaves"]) fun _ _ _ _ _ _ us hl => match us, hl with | [_], _ => rfl) fun f fd m F => ok_broad F m 8
    hT := hasX_of (P := P) (w := w) (base := base) (CX := CX0) (k := 1) (ps := ["_law_levels"]) (sp := spTall) RL.ta X G (fun f fd F => F.binds (ps := ["_law_levels"]) fun _ _ _ _ _ _ us hl => match us, hl with | [_], _ => rfl) fun f fd m F => ok_tall F T
    hL := hasX_of (P := P) (w := w) (base := base) (CX := CX0) (k := 1) (ps := ["_law_levels"]) (sp := spTallL) RL.tl X G (fun f fd F => F.binds (ps := ["_law_levels"]) fun _ _ _ _ _ _ us hl => match us, hl with | [_], _ => rfl) fun f fd m F => ok_tallL F T }
end
end K1

namespace K1
open PySem PySem.Spec
open PyProof.Rows L2 L2H EnT StX SmX TxS DuX XdI Tr3 CnB ClX
/-! ### the end -/
theorem law_end {l : PySem.W.OpenLaw} {q : Program} {w : World} {mg : Str → Option Value} {fa : Addr} {h : Heap} {K : PySem.W.Frag} {CE D CF CT CL CD CN S1 S2 S3 aS fI cI PL fR cR PR fL cL : Addr} (RE : RawE K CE D aS) (RF : RawF K CE D) (RR : RawR K CF CT CL CD CN S1 S2 S3) (RL : RawL K)
    (DI : CodeD K "_law_limits_right" s_L_limits_right fI cI PL) (DR : CodeD K "_law_right" sRight fR cR PR) (DL : CodD K "law" sLaw fL cL) (hne : PL ≠ PR)
    (X : K.In h) (G : h.Ns mainGlobals mg) (hmg : mg "law" = some (.ref fa)) (TB : EnG.TabsAt q mg h) (hrI : ((recsOf q).any fun e => e.name == ("_law_limits_right" : Str)) = true) (hrR : ((recsOf q).any fun e => e.name == ("_law_right" : Str)) = true) : EnG.LawG l w 49 63 mg fa h := by
  have e := hmg.symm.trans (PySem.W.mg_of X G DL.g)
  cases e
  have mgI := PySem.W.mg_of X G DI.g
  have mgR := PySem.W.mg_of X G DR.g
  obtain ⟨oc, od, kV, doc, pm, an, ct, osl, lk, hcd⟩ := DI.fn.ex
  obtain ⟨ec, dc, vc, slc, lc, h11⟩ := DI.cd
  obtain ⟨tabI, codI⟩ := EnG.tab_of X TB hrI mgI lk rfl rfl lc h11
  obtain ⟨oc2, od2, kV2, doc2, pm2, an2, ct2, osl2, lk2, hcd2⟩ := DR.fn.ex
  obtain ⟨ec2, dc2, vc2, slc2, lc2, h112⟩ := DR.cd
  obtain ⟨tabR, codR⟩ := EnG.tab_of X TB hrR mgR lk2 rfl rfl lc2 h112
  have two : ∀ {p : Addr × Addr}, p ∈ [(cI, PL), (cR, PR)] → p = (cI, PL) ∨ p = (cR, PR) := fun hp => by
    rcases List.mem_cons.mp hp with z | z
    · exact .inl z
    · exact .inr (List.mem_singleton.mp z)
  refine ⟨K, [(cI, PL), (cR, PR)], spLaw K PL PR, X, fun p hp => ?_, fun p hp => ?_, fun p hp => ?_, fun H a ns hl hH hS => ?_, fun base hb hG hT => ?_⟩
  · rcases two hp with z | z <;> rw [z]
    · exact tabI
    · exact tabR
  · rcases two hp with z | z <;> rw [z]
    · exact DI.no
    · exact DR.no
  · rcases two hp with z | z <;> rw [z]
    · exact codI
    · exact codR
  · refine ⟨a, ns, rfl, hS, by omega, fun p hp => ?_, fun _ => rfl⟩
    rcases List.mem_cons.mp hp with z | z
    · rw [z]
      exact LamX.TabS.nil (hH (cI, PL) List.mem_cons_self)
    · rw [List.mem_singleton.mp z]
      exact LamX.TabS.nil (hH (cR, PR) (List.mem_cons_of_mem _ List.mem_cons_self))
  · have T : Free mg := free_of RL X G
    have W : W5 l.prog w K mg base CE D CF CT CL CD CN S1 S2 S3 (.type "type") (.type "type") := w5_of T RE RF RR RL X G
    obtain ⟨fC, aC, dC⟩ := RL.ca
    obtain ⟨fdC, FC⟩ := dC.fun_
    have AI : Asks5 K mg base cI PL := ⟨⟨fC, fdC, PySem.W.mg_of X G aC, FC⟩, hT (cI, PL) List.mem_cons_self⟩
    have AR : Asks5 K mg base cR PR := ⟨⟨fC, fdC, PySem.W.mg_of X G aC, FC⟩, hT (cR, PR) (List.mem_cons_of_mem _ List.mem_cons_self)⟩
    have GI : FnG l.prog w K mg base CX0 46 fI (spLimits PL PR) := ok_limits W AI hne DI.fn
    obtain ⟨fD, hD⟩ := hasX_of (P := l.prog) (w := w) (base := base) (CX := CX0) (k := 1) (ps := ["_law_pool_here", "_law_many"]) (sp := spDraw) RL.dr X G (fun f fd F => F.binds (ps := ["_law_pool_here", "_law_many"]) fun _ _ _ _ _ _ us hl => match us, hl with | [_, _], _ => rfl) fun f fd m F => ok_draw F T
    obtain ⟨gD, aD, dD⟩ := RL.dr
    obtain ⟨fdD, FD⟩ := dD.fun_
    obtain ⟨fN, hN⟩ := hasX_of (P := l.prog) (w := w) (base := base) (CX := CX0) (k := 2) (ps := ["_law_pool_here", "_law_many"]) (sp := spNames) RL.nm X G (fun f fd F => F.binds (ps := ["_law_pool_here", "_law_many"]) fun _ _ _ _ _ _ us hl => match us, hl with | [_, _], _ => rfl) fun f fd m F => ok_names F T FD (PySem.W.mg_of X G aD)
    obtain ⟨fF, hF⟩ := hasX_of (P := l.prog) (w := w) (base := base) (CX := CX0) (k := 5) (ps := ["_law_pool_here", "_law_words", "_law_deep"]) (sp := spFormL 3) RL.fo X G (fun f fd F => F.binds (ps := ["_law_pool_here", "_law_words", "_law_deep"]) fun _ _ _ _ _ _ us hl => match us, hl with | [_, _, _], _ => rfl) fun f fd m F => ok_form F T m hD 3
    obtain ⟨fS, hS⟩ := hasX_of (P := l.prog) (w := w) (base := base) (CX := CX0) (k := 5) (ps := ["_law_pool_here", "_law_shape"]) (sp := spSpoilt 4) RL.sp X G (fun f fd F => F.binds (ps := ["_law_pool_here", "_law_shape"]) fun _ _ _ _ _ _ us hl => match us, hl with | [_, _], _ => rfl) fun f fd m F => ok_spoilt F T m hD 3
    obtain ⟨fB, hB⟩ := hasX_of (P := l.prog) (w := w) (base := base) (CX := CX0) (k := 2) (ps := ["_law_pool_here", "_law_line"]) (sp := spBadLine) RL.bl X G (fun f fd F => F.binds (ps := ["_law_pool_here", "_law_line"]) fun _ _ _ _ _ _ us hl => match us, hl with | [_, _], _ => rfl) fun f fd m F => ok_badLine F T hD
    have RK : Rk5 l.prog w K mg base PL PR := ⟨⟨fI, mgI, DI.kp, GI⟩, ⟨fD, hD⟩, ⟨fN, hN⟩, ⟨fF, hF⟩, ⟨fS, hS⟩, ⟨fB, hB⟩⟩
    have GR : FnG l.prog w K mg base CX0 48 fR (spRight PL PR) := ok_right W AR RK hne DR.fn
    obtain ⟨fE, hE⟩ := hasX_of (P := l.prog) (w := w) (base := base) (CX := CX0) (k := 1) (ps := ["_law_cells", "_law_k"]) (sp := spCell K) RL.ce X G (fun f fd F => F.binds (ps := ["_law_cells", "_law_k"]) fun _ _ _ _ _ _ us hl => match us, hl with | [_, _], _ => rfl) fun f fd m F => ok_cell F T
    obtain ⟨fQ, hQ⟩ := hasX_of (P := l.prog) (w := w) (base := base) (CX := CX0) (k := 1) (ps := ["_law_cell_here"]) (sp := spPool) RL.po X G (fun f fd F => F.binds (ps := ["_law_cell_here"]) fun _ _ _ _ _ _ us hl => match us, hl with | [_], _ => rfl) fun f fd m F => ok_pool F T
    exact ok_law T ⟨⟨fE, hE⟩, ⟨fQ, hQ⟩, ⟨fR, mgR, DR.kp, GR⟩⟩ DL.fn
end K1
theorem K1.ex1 {α : Sort _} {p : α → Prop} {a : α} (h : p a) : ∃ x, p x := ⟨a, h⟩
set_option maxHeartbeats 0
section
open PySem PySem.W PySem.Calls PyProof.Rows HeadRun
local macro_rules
  | `(tactic| kernel_rfl) => `(tactic| (with_reducible refine K1.gate2 K1.Hd.pre ?_ ?_ ?_) <;> kernel_rfl)

open PySem PySem.W PyProof.Rows
theorem PySem.Challenge.cw_onemember_k05_expressions_refused_holds : PySem.Challenge.rw_onemember_k05_expressions_refused.Holds := by
  w_on; o_law; k_headL
  (case hw => w_witness2)
  k_fill
  refine EnG.walk_G (l := PySem.Challenge.rw_onemember_k05_expressions_refused) (n := 63) (k := 49) rfl (by decide) rfl ⟨rfl, by decide, by decide⟩ ?F
  intro w mg fa h Y G hmg TB
  have KX := kIn_of Y
  refine' K1.law_end { exp := ?re_exp, n1 := ?re_n1, n2 := ?re_n2, n3 := ?re_n3, n4 := ?re_n4, n5 := ?re_n5, sf := ?re_sf, ini := ?re_ini, m1 := ?re_m1, m2 := ?re_m2, m3 := ?re_m3, m4 := ?re_m4, str := ?re_str, wi := ?re_wi, p1 := ?re_p1, p2 := ?re_p2, p3 := ?re_p3, rd := ?re_rd, r1 := ?re_r1, o1 := ?re_o1, d1 := ?re_d1, r2 := ?re_r2, o2 := ?re_o2, d2 := ?re_d2, r3 := ?re_r3, o3 := ?re_o3, d3 := ?re_d3, r4 := ?re_r4, o4 := ?re_o4, d4 := ?re_d4, g1 := ?re_g1, g2 := ?re_g2, g3 := ?re_g3, g4 := ?re_g4, g5 := ?re_g5, g6 := ?re_g6, g7 := ?re_g7, g8 := ?re_g8, rc := ?re_rc, tw := ?re_tw, jo := ?re_jo, g12 := ?re_g12, g13 := ?re_g13, g14 := ?re_g14, g15 := ?re_g15, sg := ?re_sg, c1 := ?re_c1, c2 := ?re_c2, c3 := ?re_c3, c4 := ?re_c4, c5 := ?re_c5, fm := ?re_fm } { fac := ?rf_fac, n6 := ?rf_n6, n7 := ?rf_n7, nD := ?rf_nD, ini := ?rf_ini, rep := ?rf_rep, rd := ?rf_rd } { s1 := ?rr_s1, s2 := ?rr_s2, s3 := ?rr_s3, eF := ?rr_eF, eT := ?rr_eT, eL := ?rr_eL, eD := ?rr_eD, eN := ?rr_eN, q11 := ?rr_q11, q12 := ?rr_q12, q13 := ?rr_q13, q14 := ?rr_q14, q15 := ?rr_q15, q21 := ?rr_q21, q22 := ?rr_q22, q23 := ?rr_q23, q24 := ?rr_q24, q25 := ?rr_q25, q31 := ?rr_q31, q32 := ?rr_q32, q33 := ?rr_q33, q34 := ?rr_q34, q35 := ?rr_q35, q41 := ?rr_q41, q42 := ?rr_q42, q43 := ?rr_q43, q44 := ?rr_q44, q45 := ?rr_q45, q51 := ?rr_q51, q52 := ?rr_q52, q53 := ?rr_q53, q54 := ?rr_q54, q55 := ?rr_q55, fV := ?rr_fV, fL := ?rr_fL, fA := ?rr_fA } { nm := ?rl_nm, dr := ?rl_dr, fo := ?rl_fo, sp := ?rl_sp, bl := ?rl_bl, br := ?rl_br, ta := ?rl_ta, tl := ?rl_tl, ce := ?rl_ce, po := ?rl_po, ca := ?rl_ca, free := ?rl_free } ?DI ?DR ?DL ?hne KX G hmg TB ?hrI ?hrR
  (case hrI => decide +kernel)
  (case hrR => decide +kernel)
  case DI =>
    refine' K1.codeD_mk ?a ?l ?c ?k ?lc ?h ?no
    (case a => k_is)
    (case l => k_is)
    (case c => k_is)
    (case k => k_is)
    (case lc => k_is)
    (case h => exact rfl)
    (case no => exact rfl)
  case DR =>
    refine' K1.codeD_mk ?a ?l ?c ?k ?lc ?h ?no
    (case a => k_is)
    (case l => k_is)
    (case c => k_is)
    (case k => k_is)
    (case lc => k_is)
    (case h => exact rfl)
    (case no => exact rfl)
  case DL =>
    refine' K1.codD_mk ?a ?l ?c ?k
    (case a => k_is)
    (case l => k_is)
    (case c => k_is)
    (case k => k_is)
  (case hne => decide)
  (case rr_s1 => k_is)
  (case rr_s2 => k_is)
  (case rr_s3 => k_is)
  case re_exp =>
    refine' K1.clsD_mk ?g ?hd ?pg ?sa ?po ?kC ?mk ?hm ?ht ?hn ?ha ?yes ?o1 ?o2 ?o3 ?o4 ?o5 ?o6 ?o7 ?f1 ?f2 ?f3 ?f4 ?f5 ?f6 ?f7 ?fC ?ne ?rd ?ga
    (case g => k_is)
    (case hd => k_is)
    (case pg => k_is)
    (case sa => k_is)
    (case po => k_is)
    (case kC => k_is)
    (case mk => k_is)
    (case hm => k_is)
    (case ht => k_is)
    (case hn => k_is)
    (case ha => k_is)
    (case yes => kit_is)
    (case o1 => kit_is)
    (case o2 => kit_is)
    (case o3 => kit_is)
    (case o4 => kit_is)
    (case o5 => kit_is)
    (case o6 => kit_is)
    (case o7 => kit_is)
    (case f1 => k_is)
    (case f2 => k_is)
    (case f3 => k_is)
    (case f4 => k_is)
    (case f5 => k_is)
    (case f6 => k_is)
    (case f7 => k_is)
    (case fC => k_is)
    (case ne => k_is)
    (case rd => k_is)
    (case ga => k_is)
  case rf_fac =>
    refine' K1.clsD_mk ?g ?hd ?pg ?sa ?po ?kC ?mk ?hm ?ht ?hn ?ha ?yes ?o1 ?o2 ?o3 ?o4 ?o5 ?o6 ?o7 ?f1 ?f2 ?f3 ?f4 ?f5 ?f6 ?f7 ?fC ?ne ?rd ?ga
    (case g => k_is)
    (case hd => k_is)
    (case pg => k_is)
    (case sa => k_is)
    (case po => k_is)
    (case kC => k_is)
    (case mk => k_is)
    (case hm => k_is)
    (case ht => k_is)
    (case hn => k_is)
    (case ha => k_is)
    (case yes => kit_is)
    (case o1 => kit_is)
    (case o2 => kit_is)
    (case o3 => kit_is)
    (case o4 => kit_is)
    (case o5 => kit_is)
    (case o6 => kit_is)
    (case o7 => kit_is)
    (case f1 => k_is)
    (case f2 => k_is)
    (case f3 => k_is)
    (case f4 => k_is)
    (case f5 => k_is)
    (case f6 => k_is)
    (case f7 => k_is)
    (case fC => k_is)
    (case ne => k_is)
    (case rd => k_is)
    (case ga => k_is)
  (case re_n1 => k_is)
  (case re_n2 => k_is)
  (case re_n3 => k_is)
  (case re_n4 => k_is)
  (case re_n5 => k_is)
  (case re_sf => k_is)
  case re_ini =>
    refine' K1.methD_mk ?a ?i ?l ?c ?k
    (case a => k_is)
    (case i => k_is)
    (case l => k_is)
    (case c => k_is)
    (case k => k_is)
  case re_m1 =>
    refine' K1.methD_mk ?a ?i ?l ?c ?k
    (case a => k_is)
    (case i => k_is)
    (case l => k_is)
    (case c => k_is)
    (case k => k_is)
  case re_m2 =>
    refine' K1.methD_mk ?a ?i ?l ?c ?k
    (case a => k_is)
    (case i => k_is)
    (case l => k_is)
    (case c => k_is)
    (case k => k_is)
  case re_m3 =>
    refine' K1.methD_mk ?a ?i ?l ?c ?k
    (case a => k_is)
    (case i => k_is)
    (case l => k_is)
    (case c => k_is)
    (case k => k_is)
  case re_m4 =>
    refine' K1.methD_mk ?a ?i ?l ?c ?k
    (case a => k_is)
    (case i => k_is)
    (case l => k_is)
    (case c => k_is)
    (case k => k_is)
  case re_str =>
    refine' K1.methD_mk ?a ?i ?l ?c ?k
    (case a => k_is)
    (case i => k_is)
    (case l => k_is)
    (case c => k_is)
    (case k => k_is)
  case re_wi =>
    refine' K1.methD_mk ?a ?i ?l ?c ?k
    (case a => k_is)
    (case i => k_is)
    (case l => k_is)
    (case c => k_is)
    (case k => k_is)
  case re_p1 =>
    refine' K1.propD_mk ?a ?g ?t ?r ?l ?c ?k
    (case a => k_is)
    (case g => k_is)
    (case t => k_is)
    (case r => k_is)
    (case l => k_is)
    (case c => k_is)
    (case k => k_is)
  case re_p2 =>
    refine' K1.propD_mk ?a ?g ?t ?r ?l ?c ?k
    (case a => k_is)
    (case g => k_is)
    (case t => k_is)
    (case r => k_is)
    (case l => k_is)
    (case c => k_is)
    (case k => k_is)
  case re_p3 =>
    refine' K1.propD_mk ?a ?g ?t ?r ?l ?c ?k
    (case a => k_is)
    (case g => k_is)
    (case t => k_is)
    (case r => k_is)
    (case l => k_is)
    (case c => k_is)
    (case k => k_is)
  case re_rd =>
    refine' K1.statD_mk ?a ?r ?l ?c ?k
    (case a => k_is)
    (case r => k_is)
    (case l => k_is)
    (case c => k_is)
    (case k => k_is)
  (case re_r1 => k_is)
  case re_o1 =>
    refine' K1.oth_4 ?zo1 ?zo2 ?zo3 ?zo4
    case zo1 =>
      refine' K1.othT_mk ?za ?zb ?zc
      (case za => k_is)
      (case zb => k_is)
      (case zc => k_is)
    case zo2 =>
      refine' K1.othT_mk ?za ?zb ?zc
      (case za => k_is)
      (case zb => k_is)
      (case zc => k_is)
    case zo3 =>
      refine' K1.othT_mk ?za ?zb ?zc
      (case za => k_is)
      (case zb => k_is)
      (case zc => k_is)
    case zo4 =>
      refine' K1.othT_mk ?za ?zb ?zc
      (case za => k_is)
      (case zb => k_is)
      (case zc => k_is)
  case re_d1 =>
    refine' DuX.othN_mk ?zd ?ze ?zf ?zg ?zh ?zi ?zj ?zk
    (case zd => decide)
    (case ze => k_is)
    (case zf => exact rfl)
    (case zg => k_is)
    (case zh => k_is)
    (case zi => k_is)
    (case zj => k_is)
    (case zk => k_is)
  (case re_r2 => k_is)
  case re_o2 =>
    refine' K1.oth_4 ?zo1 ?zo2 ?zo3 ?zo4
    case zo1 =>
      refine' K1.othT_mk ?za ?zb ?zc
      (case za => k_is)
      (case zb => k_is)
      (case zc => k_is)
    case zo2 =>
      refine' K1.othT_mk ?za ?zb ?zc
      (case za => k_is)
      (case zb => k_is)
      (case zc => k_is)
    case zo3 =>
      refine' K1.othT_mk ?za ?zb ?zc
      (case za => k_is)
      (case zb => k_is)
      (case zc => k_is)
    case zo4 =>
      refine' K1.othT_mk ?za ?zb ?zc
      (case za => k_is)
      (case zb => k_is)
      (case zc => k_is)
  case re_d2 =>
    refine' DuX.othN_mk ?zd ?ze ?zf ?zg ?zh ?zi ?zj ?zk
    (case zd => decide)
    (case ze => k_is)
    (case zf => exact rfl)
    (case zg => k_is)
    (case zh => k_is)
    (case zi => k_is)
    (case zj => k_is)
    (case zk => k_is)
  (case re_r3 => k_is)
  case re_o3 =>
    refine' K1.oth_4 ?zo1 ?zo2 ?zo3 ?zo4
    case zo1 =>
      refine' K1.othT_mk ?za ?zb ?zc
      (case za => k_is)
      (case zb => k_is)
      (case zc => k_is)
    case zo2 =>
      refine' K1.othT_mk ?za ?zb ?zc
      (case za => k_is)
      (case zb => k_is)
      (case zc => k_is)
    case zo3 =>
      refine' K1.othT_mk ?za ?zb ?zc
      (case za => k_is)
      (case zb => k_is)
      (case zc => k_is)
    case zo4 =>
      refine' K1.othT_mk ?za ?zb ?zc
      (case za => k_is)
      (case zb => k_is)
      (case zc => k_is)
  case re_d3 =>
    refine' DuX.othN_mk ?zd ?ze ?zf ?zg ?zh ?zi ?zj ?zk
    (case zd => decide)
    (case ze => k_is)
    (case zf => exact rfl)
    (case zg => k_is)
    (case zh => k_is)
    (case zi => k_is)
    (case zj => k_is)
    (case zk => k_is)
  (case re_r4 => k_is)
  case re_o4 =>
    refine' K1.oth_4 ?zo1 ?zo2 ?zo3 ?zo4
    case zo1 =>
      refine' K1.othT_mk ?za ?zb ?zc
      (case za => k_is)
      (case zb => k_is)
      (case zc => k_is)
    case zo2 =>
      refine' K1.othT_mk ?za ?zb ?zc
      (case za => k_is)
      (case zb => k_is)
      (case zc => k_is)
    case zo3 =>
      refine' K1.othT_mk ?za ?zb ?zc
      (case za => k_is)
      (case zb => k_is)
      (case zc => k_is)
    case zo4 =>
      refine' K1.othT_mk ?za ?zb ?zc
      (case za => k_is)
      (case zb => k_is)
      (case zc => k_is)
  case re_d4 =>
    refine' DuX.othN_mk ?zd ?ze ?zf ?zg ?zh ?zi ?zj ?zk
    (case zd => decide)
    (case ze => k_is)
    (case zf => exact rfl)
    (case zg => k_is)
    (case zh => k_is)
    (case zi => k_is)
    (case zj => k_is)
    (case zk => k_is)
  case re_g1 =>
    refine' K1.gloD_mk ?a ?l ?c ?k
    (case a => k_is)
    (case l => k_is)
    (case c => k_is)
    (case k => k_is)
  case re_g2 =>
    refine' K1.gloD_mk ?a ?l ?c ?k
    (case a => k_is)
    (case l => k_is)
    (case c => k_is)
    (case k => k_is)
  case re_g3 =>
    refine' K1.gloD_mk ?a ?l ?c ?k
    (case a => k_is)
    (case l => k_is)
    (case c => k_is)
    (case k => k_is)
  case re_g4 =>
    refine' K1.gloD_mk ?a ?l ?c ?k
    (case a => k_is)
    (case l => k_is)
    (case c => k_is)
    (case k => k_is)
  case re_g5 =>
    refine' K1.gloD_mk ?a ?l ?c ?k
    (case a => k_is)
    (case l => k_is)
    (case c => k_is)
    (case k => k_is)
  case re_g6 =>
    refine' K1.gloD_mk ?a ?l ?c ?k
    (case a => k_is)
    (case l => k_is)
    (case c => k_is)
    (case k => k_is)
  case re_g7 =>
    refine' K1.gloD_mk ?a ?l ?c ?k
    (case a => k_is)
    (case l => k_is)
    (case c => k_is)
    (case k => k_is)
  case re_g8 =>
    refine' K1.gloD_mk ?a ?l ?c ?k
    (case a => k_is)
    (case l => k_is)
    (case c => k_is)
    (case k => k_is)
  case re_rc =>
    refine' K1.gloD_mk ?a ?l ?c ?k
    (case a => k_is)
    (case l => k_is)
    (case c => k_is)
    (case k => k_is)
  case re_tw =>
    refine' K1.gloD_mk ?a ?l ?c ?k
    (case a => k_is)
    (case l => k_is)
    (case c => k_is)
    (case k => k_is)
  case re_jo =>
    refine' K1.gloD_mk ?a ?l ?c ?k
    (case a => k_is)
    (case l => k_is)
    (case c => k_is)
    (case k => k_is)
  case re_g12 =>
    refine' K1.gloD_mk ?a ?l ?c ?k
    (case a => k_is)
    (case l => k_is)
    (case c => k_is)
    (case k => k_is)
  case re_g13 =>
    refine' K1.gloD_mk ?a ?l ?c ?k
    (case a => k_is)
    (case l => k_is)
    (case c => k_is)
    (case k => k_is)
  case re_g14 =>
    refine' K1.gloD_mk ?a ?l ?c ?k
    (case a => k_is)
    (case l => k_is)
    (case c => k_is)
    (case k => k_is)
  case re_g15 =>
    refine' K1.gloD_mk ?a ?l ?c ?k
    (case a => k_is)
    (case l => k_is)
    (case c => k_is)
    (case k => k_is)
  case re_sg =>
    refine' K1.sgD_mk ?a ?l
    (case a => k_is)
    (case l => k_is)
  (case re_c1 => refine' K1.ex1 ?a; (case a => k_is))
  (case re_c2 => refine' K1.ex1 ?a; (case a => k_is))
  (case re_c3 => refine' K1.ex1 ?a; (case a => k_is))
  (case re_c4 => refine' K1.ex1 ?a; (case a => k_is))
  (case re_c5 => refine' K1.ex1 ?a; (case a => k_is))
  (case re_fm => k_is)
  (case rf_n6 => k_is)
  (case rf_n7 => k_is)
  (case rf_nD => kit_is)
  case rf_ini =>
    refine' K1.methD_mk ?a ?i ?l ?c ?k
    (case a => k_is)
    (case i => k_is)
    (case l => k_is)
    (case c => k_is)
    (case k => k_is)
  case rf_rep =>
    refine' K1.methD_mk ?a ?i ?l ?c ?k
    (case a => k_is)
    (case i => k_is)
    (case l => k_is)
    (case c => k_is)
    (case k => k_is)
  case rf_rd =>
    refine' K1.statD_mk ?a ?r ?l ?c ?k
    (case a => k_is)
    (case r => k_is)
    (case l => k_is)
    (case c => k_is)
    (case k => k_is)
  case rr_eF =>
    refine' K1.errD_mk ?g ?lD ?sh ?sa ?exC ?tyC ?kC ?no ?a ?ty ?l ?c ?k ?hg ?hk ?hd ?ha ?hn ?ht ?hm ?k1 ?k2 ?k3 ?kV ?kL ?kA ?kx
    (case g => k_is)
    (case lD => k_is)
    (case sh => exact ⟨_, _, _, _, _, _, _, _, _, _, _, _, _, _, _, rfl, by decide⟩)
    (case sa => k_is)
    (case exC => k_is)
    (case tyC => k_is)
    (case kC => k_is)
    (case no => k_is)
    (case a => k_is)
    (case ty => k_is)
    (case l => k_is)
    (case c => k_is)
    (case k => k_is)
    (case hg => k_is)
    (case hk => k_is)
    (case hd => k_is)
    (case ha => k_is)
    (case hn => k_is)
    (case ht => k_is)
    (case hm => k_is)
    (case k1 => kit_is)
    (case k2 => kit_is)
    (case k3 => kit_is)
    (case kV => kit_is)
    (case kL => kit_is)
    (case kA => kit_is)
    (case kx => kts_exm)
  case rr_eT =>
    refine' K1.errD_mk ?g ?lD ?sh ?sa ?exC ?tyC ?kC ?no ?a ?ty ?l ?c ?k ?hg ?hk ?hd ?ha ?hn ?ht ?hm ?k1 ?k2 ?k3 ?kV ?kL ?kA ?kx
    (case g => k_is)
    (case lD => k_is)
    (case sh => exact ⟨_, _, _, _, _, _, _, _, _, _, _, _, _, _, _, rfl, by decide⟩)
    (case sa => k_is)
    (case exC => k_is)
    (case tyC => k_is)
    (case kC => k_is)
    (case no => k_is)
    (case a => k_is)
    (case ty => k_is)
    (case l => k_is)
    (case c => k_is)
    (case k => k_is)
    (case hg => k_is)
    (case hk => k_is)
    (case hd => k_is)
    (case ha => k_is)
    (case hn => k_is)
    (case ht => k_is)
    (case hm => k_is)
    (case k1 => kit_is)
    (case k2 => kit_is)
    (case k3 => kit_is)
    (case kV => kit_is)
    (case kL => kit_is)
    (case kA => kit_is)
    (case kx => kts_exm)
  case rr_eL =>
    refine' K1.errDA_mk ?g ?lD ?sh ?sa ?exC ?tyC ?kC ?no ?a ?ty ?l ?c ?k ?hg ?hk ?hd ?ha ?hn ?ht ?hm ?k1 ?k2 ?k3 ?kV ?kL ?kA ?kx
    (case g => k_is)
    (case lD => k_is)
    (case sh => exact ⟨_, _, _, _, _, _, _, _, _, _, _, _, _, _, _, rfl, by decide⟩)
    (case sa => k_is)
    (case exC => k_is)
    (case tyC => k_is)
    (case kC => k_is)
    (case no => k_is)
    (case a => k_is)
    (case ty => k_is)
    (case l => k_is)
    (case c => k_is)
    (case k => k_is)
    (case hg => k_is)
    (case hk => k_is)
    (case hd => k_is)
    (case ha => k_is)
    (case hn => k_is)
    (case ht => k_is)
    (case hm => k_is)
    (case k1 => kit_is)
    (case k2 => kit_is)
    (case k3 => kit_is)
    (case kV => kit_is)
    (case kL => kit_is)
    (case kA => kit_is)
    (case kx => kts_exm)
  case rr_eD =>
    refine' K1.errDA_mk ?g ?lD ?sh ?sa ?exC ?tyC ?kC ?no ?a ?ty ?l ?c ?k ?hg ?hk ?hd ?ha ?hn ?ht ?hm ?k1 ?k2 ?k3 ?kV ?kL ?kA ?kx
    (case g => k_is)
    (case lD => k_is)
    (case sh => exact ⟨_, _, _, _, _, _, _, _, _, _, _, _, _, _, _, rfl, by decide⟩)
    (case sa => k_is)
    (case exC => k_is)
    (case tyC => k_is)
    (case kC => k_is)
    (case no => k_is)
    (case a => k_is)
    (case ty => k_is)
    (case l => k_is)
    (case c => k_is)
    (case k => k_is)
    (case hg => k_is)
    (case hk => k_is)
    (case hd => k_is)
    (case ha => k_is)
    (case hn => k_is)
    (case ht => k_is)
    (case hm => k_is)
    (case k1 => kit_is)
    (case k2 => kit_is)
    (case k3 => kit_is)
    (case kV => kit_is)
    (case kL => kit_is)
    (case kA => kit_is)
    (case kx => kts_exm)
  case rr_eN =>
    refine' K1.errD_mk ?g ?lD ?sh ?sa ?exC ?tyC ?kC ?no ?a ?ty ?l ?c ?k ?hg ?hk ?hd ?ha ?hn ?ht ?hm ?k1 ?k2 ?k3 ?kV ?kL ?kA ?kx
    (case g => k_is)
    (case lD => k_is)
    (case sh => exact ⟨_, _, _, _, _, _, _, _, _, _, _, _, _, _, _, rfl, by decide⟩)
    (case sa => k_is)
    (case exC => k_is)
    (case tyC => k_is)
    (case kC => k_is)
    (case no => k_is)
    (case a => k_is)
    (case ty => k_is)
    (case l => k_is)
    (case c => k_is)
    (case k => k_is)
    (case hg => k_is)
    (case hk => k_is)
    (case hd => k_is)
    (case ha => k_is)
    (case hn => k_is)
    (case ht => k_is)
    (case hm => k_is)
    (case k1 => kit_is)
    (case k2 => kit_is)
    (case k3 => kit_is)
    (case kV => kit_is)
    (case kL => kit_is)
    (case kA => kit_is)
    (case kx => kts_exm)
  (case rr_q11 => kit_is)
  (case rr_q12 => kit_is)
  (case rr_q13 => kit_is)
  (case rr_q14 => kit_is)
  (case rr_q15 => kit_is)
  (case rr_q21 => kit_is)
  (case rr_q22 => kit_is)
  (case rr_q23 => kit_is)
  (case rr_q24 => kit_is)
  (case rr_q25 => kit_is)
  (case rr_q31 => kit_is)
  (case rr_q32 => kit_is)
  (case rr_q33 => kit_is)
  (case rr_q34 => kit_is)
  (case rr_q35 => kit_is)
  (case rr_q41 => kit_is)
  (case rr_q42 => kit_is)
  (case rr_q43 => kit_is)
  (case rr_q44 => kit_is)
  (case rr_q45 => kit_is)
  (case rr_q51 => kit_is)
  (case rr_q52 => kit_is)
  (case rr_q53 => kit_is)
  (case rr_q54 => kit_is)
  (case rr_q55 => kit_is)
  (case rr_fV => k_is)
  (case rr_fL => k_is)
  (case rr_fA => k_is)
  case rl_nm =>
    refine' K1.gloD_mk ?a ?l ?c ?k
    (case a => k_is)
    (case l => k_is)
    (case c => k_is)
    (case k => k_is)
  case rl_dr =>
    refine' K1.gloD_mk ?a ?l ?c ?k
    (case a => k_is)
    (case l => k_is)
    (case c => k_is)
    (case k => k_is)
  case rl_fo =>
    refine' K1.gloD_mk ?a ?l ?c ?k
    (case a => k_is)
    (case l => k_is)
    (case c => k_is)
    (case k => k_is)
  case rl_sp =>
    refine' K1.gloD_mk ?a ?l ?c ?k
    (case a => k_is)
    (case l => k_is)
    (case c => k_is)
    (case k => k_is)
  case rl_bl =>
    refine' K1.gloD_mk ?a ?l ?c ?k
    (case a => k_is)
    (case l => k_is)
    (case c => k_is)
    (case k => k_is)
  case rl_br =>
    refine' K1.gloD_mk ?a ?l ?c ?k
    (case a => k_is)
    (case l => k_is)
    (case c => k_is)
    (case k => k_is)
  case rl_ta =>
    refine' K1.gloD_mk ?a ?l ?c ?k
    (case a => k_is)
    (case l => k_is)
    (case c => k_is)
    (case k => k_is)
  case rl_tl =>
    refine' K1.gloD_mk ?a ?l ?c ?k
    (case a => k_is)
    (case l => k_is)
    (case c => k_is)
    (case k => k_is)
  case rl_ce =>
    refine' K1.gloD_mk ?a ?l ?c ?k
    (case a => k_is)
    (case l => k_is)
    (case c => k_is)
    (case k => k_is)
  case rl_po =>
    refine' K1.gloD_mk ?a ?l ?c ?k
    (case a => k_is)
    (case l => k_is)
    (case c => k_is)
    (case k => k_is)
  case rl_ca =>
    refine' K1.gloD_mk ?a ?l ?c ?k
    (case a => k_is)
    (case l => k_is)
    (case c => k_is)
    (case k => k_is)
  case rl_free =>
    intro x hx
    simp only [K1.frees, List.mem_cons, List.not_mem_nil,
        or_false] at hx
    rcases hx with rfl | rfl | rfl | rfl | rfl | rfl | rfl | rfl | rfl | rfl | rfl | rfl | rfl | rfl | rfl | rfl | rfl <;> k_is

end
