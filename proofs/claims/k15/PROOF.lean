import PyProof.Rows.All
import Wide.All
import OpenK.AllK
import Wide.FinOn
import PyProof.EqAt
import PyProof.EqKinds
import PyProof.TupleCall
import HandS.ForMost
import HandS.ForExc
import HandS.ExcInit
import HandS.Defaults
import HandS.MakeKwOnly
import HandS.IsInst
import HandS.ExcField
import HandS.ExcIs
import HandS.ExcOwn
import HandS.ExcValue
import HandS.Dict
import HandS.Text
import HandS.StrMore
import HandS.SetFor
import HandS.Flow
import HandS.Evl
import HandS.TryOnly
import HandS.DictComp
import HandS.Iter
import HandS.Steps
import HandS.TryMany
import PyProof.ListStr
import HandS.Lambda
import HandS.CallRecv
import HandS.EndTab
import HandS.HeadWalk
import PySem.Challenge.RW_allinputs_k15_letters_of_columns
set_option Elab.async false
set_option linter.all false
set_option maxRecDepth 100000
set_option maxHeartbeats 4000000
/-! Own errors as values, also made by keywords. -/
namespace PySem
namespace EV
open PySem PySem.W PySem.Calls PyProof.Rows PySem.HandSPX
section
variable {M : Model} {A : Around} {E : Value → Shared → Prop} {hp : Heap} {gs : Array GenState} {dr : Drawn} {tk : Nat} {osx : OsState}
variable {cn cq : Str} {C Nn : Addr} {cb cm cmB : List Value} {hdt : Bool} {sln : List Str} {sbc : List Value} {abst : Bool} {colo : Option Bool} {ddo : Option Addr} {j0 j1 j2 j3 j5 : Option Value} {Bn nId iId : String}
theorem chk_new (F : ExcBaseFacts Bn nId iId cmB) (hT : ∀ Y : String, cm.contains (.type Y) = cmB.contains (.type Y)) {as : List Value} {kw : List (Str × Value)} {Q : Unit → Shared → Prop}
    (hC : hp.get? C = some (excClassObj cn cq C Nn cb cm hdt sln sbc abst colo ddo j0 j1 j2 j3 j5 nId)) (hq : Q () ⟨hp, gs, dr, tk, osx⟩) : wpAny M A (checkBuiltinCall nId ⟨.ref C :: as, kw⟩) Q E ⟨hp, gs, dr, tk, osx⟩ := by
  have hin : (Value.ref C :: cm).contains (.type Bn) = true := by rw [List.contains_cons, hT, F.hasB, Bool.or_true]
  have hst := F.noStar
  simp only [checkBuiltinCall, F.newKind, F.newSplit, F.newRow]
  repeat (first | refine wpAny_loadPart_at hC ?_ | (refine wpAny_isSubtype_exc hC ?_; rw [hin]) | refine wpAny_staticBase_exc hC ?_ | refine wpAny_madeBy_exc hC ?_ | simp only [bne_self_eq_false, Bool.false_eq_true, if_false] | wp_step)
  exact hq
end
section
variable {prog : Program} {w : World} {A : Around} {E : Value → Shared → Prop} {R : Result → Shared → Prop} {hp : Heap} {gs : Array GenState} {dr : Drawn} {tk : Nat} {osx : OsState}
variable {cn cq : Str} {C Nn : Addr} {cb cm cmB : List Value} {hdt : Bool} {sln : List Str} {sbc : List Value} {abst : Bool} {colo : Option Bool} {ddo : Option Addr} {j0 j1 j2 j3 j5 : Option Value} {Bn nId iId : String}
theorem new_kw (F : ExcBaseFacts Bn nId iId cmB) (hT : ∀ Y : String, cm.contains (.type Y) = cmB.contains (.type Y)) {as : List Value} {kw : List (Str × Value)}
    (hC : hp.get? C = some (excClassObj cn cq C Nn cb cm hdt sln sbc abst colo ddo j0 j1 j2 j3 j5 nId))
    (hq : R (.ok (.ret (.ref (hp.objs.size + 1)))) ⟨(hp.push (PySem.W.kdv_tup as)).push (excO C hp.objs.size), gs, dr, tk, osx⟩) (hl : as.length ≤ sizeLine) :
    codeAny (model prog w) A (.builtin nId ⟨.ref C :: as, kw⟩) R ⟨hp, gs, dr, tk, osx⟩ := by
  have hen := F.ends
  have hin : (Value.ref C :: cm).contains (.type Bn) = true := by rw [List.contains_cons, hT, F.hasB, Bool.or_true]
  have hna : (Value.ref C :: cm).contains (.type "AttributeError") = false := by rw [List.contains_cons, hT, F.noAttr]; rfl
  have hnn : (Value.ref C :: cm).contains (.type "NameError") = false := by rw [List.contains_cons, hT, F.noName]; rfl
  refine codeAny_builtinAt F.entry ?_
  unfold Builtin.«BaseException.__new__»
  refine wpAt_bind ?_
  show wpAt _ _ _ (stack >>= _) _ _ _
  refine wpAt_bind (wpAt_stack fun p lower => wpAt_of_wpAny ?_)
  wp_walk
  refine wpAt_of_wpAny ?_
  rw [F.owner]
  repeat (first | with_reducible refine wpAny_madeHere_exc F.canon hC ?_ | with_reducible refine wpAny_loadPart_at hC ?_ | (with_reducible refine wpAny_isSubtype_exc hC ?_; first | rw [hin] | rw [hna] | rw [hnn]) | wp_step)
  show R _ _
  rw [Heap.size_push]
  exact hq
theorem tcall_kw (F : ExcBaseFacts Bn nId iId cmB) (hT : ∀ Y : String, cm.contains (.type Y) = cmB.contains (.type Y)) {as : List Value} {kw : List (Str × Value)} {fI : Addr} {Q : Fin → Shared → Prop}
    (hC : hp.get? C = some (excClassObj cn cq C Nn cb cm hdt sln sbc abst colo ddo j0 j1 j2 j3 j5 nId))
    (hi : W.Looks (model prog w) hp (typeLookup (.ref C) "__init__") (some (.ref fI))) (hb : ∀ me, W.Looks (model prog w) hp (bindSpecial (.ref fI) me) (.ref fI, [me])) (hl : as.length ≤ sizeLine)
    (hq : codeAny (model prog w) A (.call (.ref fI) ⟨.ref (hp.objs.size + 1) :: as, kw⟩)
      (fun r s' => match r with | .ok (.ret v) => v = .none ∧ Q (.done (.ret (.ref (hp.objs.size + 1)))) s' | .ok _ => False | .error e => E e s')
      ⟨(hp.push (PySem.W.kdv_tup as)).push (excO C hp.objs.size), gs, dr, tk, osx⟩) :
    wpAny (model prog w) A (Builtin.«type.__call__» ⟨.ref C :: as, kw⟩) Q E ⟨hp, gs, dr, tk, osx⟩ := by
  repeat (first | with_reducible refine wpAny_loadPart_at hC ?_ | with_reducible refine wpAny_madeBy_exc hC ?_ | wp_step)
  refine codeAny_call_builtin_code (Code.quiet_builtin _ F.quiet) (chk_new F hT hC ?_)
  refine new_kw F hT hC ?_ hl
  show wpAny _ _ _ _ _ _
  have kp : ∀ b o, hp.get? b = some o → ((hp.push (PySem.W.kdv_tup as)).push (excO C hp.objs.size)).get? b = some o := fun b o e => Heap.get?_push_of_some _ (Heap.get?_push_of_some _ e)
  have hC1 := kp _ _ hC
  have hgt : ((hp.push (PySem.W.kdv_tup as)).push (excO C hp.objs.size)).get? (hp.objs.size + 1) = some (excO C hp.objs.size) := by heap_get
  have hcc : (Value.ref C :: cm).contains (.ref C) = true := by simp
  have li := hi.keeps kp
  have lb := (hb (.ref (hp.objs.size + 1))).keeps kp
  unfold isInstance
  repeat (first | with_reducible refine wpAny_loadPart_at hgt ?_ | (with_reducible refine wpAny_isSubtype_exc hC1 ?_; rw [hcc]) | wp_step)
  show wpAny _ _ (typeLookup (.ref C) _) _ _ _
  refine li.at ?_
  refine wpAny_holding (wpAny_bind (lb.at ?_))
  refine wpAny_bind (wpAny_call (codeAny_mono hq fun r s' zz => ?_))
  rcases r with e | (v | _ | _ | _) <;> first | exact zz | exact zz.elim | skip
  obtain ⟨rfl, zz⟩ := zz
  first
    | exact wpAny_pure (wpAny_pure zz)
    | (wp_walk; exact zz)
theorem call_kw (F : ExcBaseFacts Bn nId iId cmB) (hT : ∀ Y : String, cm.contains (.type Y) = cmB.contains (.type Y)) {as : List Value} {kw : List (Str × Value)} {fI : Addr}
    (hC : hp.get? C = some (excClassObj cn cq C Nn cb cm hdt sln sbc abst colo ddo j0 j1 j2 j3 j5 nId))
    (hi : W.Looks (model prog w) hp (typeLookup (.ref C) "__init__") (some (.ref fI))) (hb : ∀ me, W.Looks (model prog w) hp (bindSpecial (.ref fI) me) (.ref fI, [me])) (hl : as.length ≤ sizeLine)
    (hq : codeAny (model prog w) (A.under (.builtin "type.__call__" ⟨.ref C :: as, kw⟩)) (.call (.ref fI) ⟨.ref (hp.objs.size + 1) :: as, kw⟩) (W.InitBack (hp.objs.size + 1) R)
      ⟨(hp.push (PySem.W.kdv_tup as)).push (excO C hp.objs.size), gs, dr, tk, osx⟩) :
    codeAny (model prog w) A (.call (.ref C) ⟨as, kw⟩) R ⟨hp, gs, dr, tk, osx⟩ := by
  have tl := tc_lookup
  have tb := tc_bind (.ref C)
  have hTy : (⟨hp, gs, dr, tk, osx⟩ : Shared).TypeIs (.ref C) "type" := ⟨_, hC, rfl⟩
  refine codeAny_of_tree ?_
  show wpAny _ _ (callAny (.ref C) _) _ _ _
  repeat (any_goals (first | assumption | with_reducible refine wpAny_loadPart_at hC ?_ | wp_step))
  refine ⟨rfl, ?_⟩
  refine codeAny_call_builtin_at (Code.quiet_builtin _ (by decide +kernel)) entry_typeCall (wpAny_check_type_call_sub hC (tcall_kw F hT hC hi hb hl ?_))
  refine codeAny_mono hq fun r s' zz => ?_
  rcases r with e | (v | _ | _ | _) <;> exact zz
end
end EV
end PySem

set_option Elab.async false
set_option linter.all false
set_option maxRecDepth 100000
set_option maxHeartbeats 4000000
/-! Rules for own errors that stay as values. -/
namespace EV2
open PySem PySem.Spec PyProof.Rows L2
/-- C(e, .., k = v, ..), C an own error with its own __init__: the error stays known -/
def tMkV (C : Addr) (n m : Nat) (sp : Sp) (gV : List V → List V → List V) (t tk : TA) : TE := fun σ H Q => t σ H fun vs H1 => tk σ H1 fun zs H2 => vs.length = n ∧ zs.length = m ∧ n ≤ 1000 ∧
  ∀ a, H2 a = none → sp (gV (.ref a :: vs) zs) (upd H2 a (exo a C none)) (fun v H3 => v = .non ∧ Q (.ref a) H3) fun _ _ _ => False
structure ErrC (K : PySem.W.Frag) (C fI : Addr) : Prop where
  ox : OexC K C
  ini : PySem.W.findIn K (.ref C) "__init__" = some (some (.ref fI))
  ty : PySem.W.typeIn K (.ref fI) = some (.type "function")
section
variable {X : Cx} {CX : CXT} {k n : Nat} {fI C : Addr} {fd : FuncData} {ps ks : List Str} {sp : Sp} {x : Str} {p pos : Pos} {e : Expr} {es : List Expr} {kws : List Keyword} {t tk : TA} {g : List Value → List Value → List Value} {gV : List V → List V → List V}
theorem run_mkV {pins : List (Addr × Obj)} {σ : L2.St} {H : Hp} {s : Shared} {Q : VK} {us ws : List Value} {vs zs : List V} (T : ErrC X.K C fI) (F : FnOk X.prog X.w X.K X.mg X.base CX k fI fd ps sp) (hr : Room (k + 1) X.A) (hb : KBn X.K fd ps (n + 1) ks g gV)
    (hx : Passes CX X fun _ _ _ => False) (I : Inv X pins σ H s) (r : Vals vs us) (rz : Vals zs ws) (l1 : vs.length = n) (l2 : zs.length = ks.length) (hn : n ≤ 1000)
    (h : ∀ a, H a = none → sp (gV (.ref a :: vs) zs) (upd H a (exo a C none)) (fun v H3 => v = .non ∧ Q (.ref a) H3) fun _ _ _ => False) :
    wpAny (model X.prog X.w) X.A (call (.ref C) us (ks.zip ws)) (EP X pins σ Q) X.xe s := by
  obtain ⟨nm, q, N, bs, bm, sn, sub, ab, col, dd, k0, k1, k2, k3, k5, hC, hbm⟩ := T.ox.cls
  obtain ⟨hp, gg, dr, tt, os⟩ := s
  have hsz : hp.objs.size ≤ hp.objs.size + 1 := Nat.le_succ _
  have nn : H (hp.objs.size + 1) = none := I.hok.fresh hsz
  have hq := h (hp.objs.size + 1) nn
  have kk : ∀ b o, hp.get? b = some o → ((hp.push (PySem.W.kdv_tup us)).push (PySem.HandSPX.excO C hp.objs.size)).get? b = some o := fun b o e => Heap.get?_push_of_some _ (Heap.get?_push_of_some _ e)
  have gt : ((hp.push (PySem.W.kdv_tup us)).push (PySem.HandSPX.excO C hp.objs.size)).get? (hp.objs.size + 1) = some (PySem.HandSPX.excO C hp.objs.size) := by heap_get
  have J : Inv X pins σ (upd H (hp.objs.size + 1) (exo (hp.objs.size + 1) C none)) ⟨(hp.push (PySem.W.kdv_tup us)).push (PySem.HandSPX.excO C hp.objs.size), gg, dr, tt, os⟩ :=
    I.laid (t' := tt) (a := hp.objs.size + 1) (o := exo (hp.objs.size + 1) C none) (h' := (hp.push (PySem.W.kdv_tup us)).push (PySem.HandSPX.excO C hp.objs.size)) kk hsz (exo_ok gt)
  have r1 : Vals (V.ref (hp.objs.size + 1) :: vs) (Value.ref (hp.objs.size + 1) :: us) := .cons rfl r
  have r2 := hb.rel r1 rz
  have n1 : (Value.ref (hp.objs.size + 1) :: us).length = n + 1 := by rw [List.length_cons, ← r.length, l1]
  have lu : us.length ≤ sizeLine := by
    rw [← r.length, l1, sizeLine_eq]
    omega
  refine wpAny_call (PySem.EV.call_kw PySem.F.excBase_ValueError (fun Y => PySem.HandSPX.refsVE_contains Y bm hbm) (I.kIn _ _ hC) (PySem.W.looks_findIn I.kIn T.ini) (fun me => PySem.W.bind_fn I.kIn me T.ty) lu
    (codeAny_mono (FnOk.run F _ X.stack _ _ ⟨Value.ref (hp.objs.size + 1) :: us, ks.zip ws⟩ (g (Value.ref (hp.objs.size + 1) :: us) ws) _ _ (fun _ _ _ => False) (hr.make C us (ks.zip ws)) (J.env0.make C us (ks.zip ws)) (hb.to _ (Value.ref (hp.objs.size + 1) :: us) ws J.kIn n1 (rz.length.symm.trans l2)) r2 hq) fun r s' hq' => ?_))
  cases r with
  | error e => exact hx pins σ _ _ e s' J hq'
  | ok fl =>
    cases fl with
    | ret u =>
      obtain ⟨v, H', I3, rv, ev, q3⟩ := J.after hq'
      subst ev
      exact ⟨rv, ⟨V.ref (hp.objs.size + 1), H', I3, rfl, q3⟩⟩
    | next => exact False.elim hq'
    | brk => exact False.elim hq'
    | cont => exact False.elim hq'
/-- C(e, ..) -/
theorem pe_mkV (T : ErrC X.K C fI) (F : FnOk X.prog X.w X.K X.mg X.base CX k fI fd ps sp) (hr : Room (k + 1) X.A) (hg : Gl X x) (hm : X.mg x = some (.ref C)) (hb : KBn X.K fd ps (n + 1) [] g gV) (hx : Passes CX X fun _ _ _ => False) (ha : PA X (e :: es) t)
    (hdb : (x == ("__debug__" : Str)) = false := by decide) (he : starEach (e :: es) X.env = (false, eval e X.env) :: starEach es X.env := by rfl) (hpl : (backTo pos (starEach es X.env)).any (·.1) = false := by rfl) :
    PE X (.Call (.Name x p) (e :: es) [] pos) (tMkV C n 0 sp gV t tNil) := by
  refine ⟨fun pins s σ H Q I h => ?_⟩
  refine wpAny_Call_Name_kw (ld_glob I hg hm ?_ hdb)
  refine PySem.W.callWith_K (h₀ := X.base) I.ok.mod.kin T.ox.kC (thn (ha.run pos pins s σ H _ I h) fun us s1 ⟨vs, H1, I1, r, l1, _, hn, q⟩ => ⟨I1.kIn, ?_⟩) he hpl
  exact run_mkV (ks := []) (ws := []) (zs := []) T F hr hb hx I1 r .nil l1 rfl hn q
/-- C(k = v, ..) -/
theorem pe_mkVK0 (T : ErrC X.K C fI) (F : FnOk X.prog X.w X.K X.mg X.base CX k fI fd ps sp) (hr : Room (k + 1) X.A) (hg : Gl X x) (hm : X.mg x = some (.ref C)) (hb : KBn X.K fd ps 1 ks g gV) (hx : Passes CX X fun _ _ _ => False) (hkw : PK X kws tk)
    (hall : (backToKw pos (keywordEach kws X.env)).all (·.1.isSome) = true := by rfl) (hks : (backToKw pos (keywordEach kws X.env)).filterMap (·.1) = ks := by rfl) (hdb : (x == ("__debug__" : Str)) = false := by decide)
    (hpl : ((backTo pos (starEach [] X.env)).any (·.1) || (backToKw pos (keywordEach kws X.env)).any (·.1.isNone)) = false := by rfl) :
    PE X (.Call (.Name x p) [] kws pos) (tMkV C 0 ks.length sp gV tNil tk) := by
  refine ⟨fun pins s σ H Q I h => ?_⟩
  refine wpAny_Call_Name_kw (ld_glob I hg hm ?_ hdb)
  refine PySem.W.callWith_KW0 (h₀ := X.base) I.ok.mod.kin T.ox.kC hall ?_ hpl
  refine thn (hkw.run pos pins s σ H _ I h) fun ws s2 ⟨zs, H2, I2, rz, l1, l2, hn, q2⟩ => ⟨I2.kIn, ?_⟩
  rw [hks]
  exact run_mkV (us := []) (vs := []) T F hr hb hx I2 .nil rz rfl l2 hn q2
/-- C(e, .., k = v, ..) -/
theorem pe_mkVK (T : ErrC X.K C fI) (F : FnOk X.prog X.w X.K X.mg X.base CX k fI fd ps sp) (hr : Room (k + 1) X.A) (hg : Gl X x) (hm : X.mg x = some (.ref C)) (hb : KBn X.K fd ps (n + 1) ks g gV) (hx : Passes CX X fun _ _ _ => False) (ha : PA X (e :: es) t) (hkw : PK X kws tk)
    (hall : (backToKw pos (keywordEach kws X.env)).all (·.1.isSome) = true := by rfl) (hks : (backToKw pos (keywordEach kws X.env)).filterMap (·.1) = ks := by rfl) (hdb : (x == ("__debug__" : Str)) = false := by decide)
    (he : starEach (e :: es) X.env = (false, eval e X.env) :: starEach es X.env := by rfl) (hpl : ((backTo pos (starEach (e :: es) X.env)).any (·.1) || (backToKw pos (keywordEach kws X.env)).any (·.1.isNone)) = false := by rfl) :
    PE X (.Call (.Name x p) (e :: es) kws pos) (tMkV C n ks.length sp gV t tk) := by
  refine ⟨fun pins s σ H Q I h => ?_⟩
  refine wpAny_Call_Name_kw (ld_glob I hg hm ?_ hdb)
  refine PySem.W.callWith_KW (h₀ := X.base) I.ok.mod.kin T.ox.kC hall (thn (ha.run pos pins s σ H _ I h) fun us s1 ⟨vs, H1, I1, r, q⟩ => ?_) hpl he
  refine thn (hkw.run pos pins s1 σ H1 _ I1 q) fun ws s2 ⟨zs, H2, I2, rz, l1, l2, hn, q2⟩ => ⟨I2.kIn, ?_⟩
  rw [hks]
  exact run_mkV T F hr hb hx I2 r rz l1 l2 hn q2
end
end EV2

set_option Elab.async false
set_option linter.all false
set_option maxRecDepth 100000
set_option maxHeartbeats 4000000
/-! Fields and kinds of own errors that stay as values. -/
namespace PySem.EV
open PySem PySem.W PySem.Spec PySem.Calls PyProof.Rows
section
variable {prog : Program} {w : World} {A : Around} {E : Value → Shared → Prop} {s : Shared} {K : Frag} {x D : Addr} {ox : Obj} {od : Option Obj}
theorem fo_data {C : Addr} {name : Str} {a g : Value} (hc : (clsIn K C).isSome = true) (ha : findIn K (.ref C) name = some (some a)) (hg : specialIn K a "__get__" = some (some g)) (ht : takesIn K a = some true) : findObj K C od name = some (.bind g a) := by
  obtain ⟨cd, hc⟩ := Option.isSome_iff_exists.mp hc
  unfold findObj
  rw [hc, Option.bind_some, ha, Option.bind_some]
  simp [hg, ht]
/-- x.__class__, x an error with or without a dict of its own -/
theorem cls_get {Q : Option Value → Shared → Prop} (C : L2.ExcC K D) (X : K.In s.heap) (I : InstAt s.heap x ox D od) (h : Q (some (.ref D)) { s with toks := s.toks + 1 }) : wpAny (model prog w) A (getAttr? (.ref x) "__class__") Q E s := by
  have hf : findObj K D od "__class__" = some (.bind (.builtin "getset_descriptor.__get__") (.builtin "object.__class__")) := fo_data (by obtain ⟨cd, hc, _⟩ := any_some C.hd; rw [hc]; rfl) C.ha C.hn C.ht
  obtain ⟨hp, g, d, t, os⟩ := s
  have t0 := I.type (M := model prog w)
  have t1 := looks_findIn (M := model prog w) X C.hg
  have t2 := looks_findIn (M := model prog w) X C.hk
  have t3 := looks_find (M := model prog w) X I hf
  have sb : Looks (model prog w) hp (isInstance (.ref x) (.type "BaseException")) true := t0.andThen (looks_subIn X C.hs)
  have z0 : (false && onTheHeap (Value.builtin "BaseException.__getattribute__")) = false := rfl
  have z2 : (Value.builtin "BaseException.__getattribute__" == Value.builtin "object.__getattribute__") = false := by decide +kernel
  have z1 : (onTheHeap (Value.ref D) && Value.builtin "BaseException.__getattribute__" == Value.builtin "object.__getattribute__") = false := by rw [z2]; rfl
  unfold getAttr? getAttrBy? getAttrBy
  refine wpAny_bind (wpAny_mkText (wpAny_bind (wpAny_attempt (wpAny_holding (wpAny_bind (t0.at (wpAny_bind (t1.at ?_))))))))
  show wpAny _ _ (if (onTheHeap (Value.ref D) && Value.builtin "BaseException.__getattribute__" == Value.builtin "object.__getattribute__") = true then _ else _) _ _ _
  rw [z1, if_neg Bool.false_ne_true]
  unfold getAttrByItsOwn hookBefore
  refine wpAny_bind ?_
  rw [if_pos (show onTheHeap (Value.ref D) = true from rfl)]
  refine t2.at ?_
  refine wpAny_bind (wpAny_attempt (wpAny_holding ?_))
  unfold callGetattribute
  rw [z0, if_neg Bool.false_ne_true]
  unfold boundAndCalled
  rw [PySem.F.excAttr_ValueError.ga.bind (.ref x)]
  refine wpAny_bind (wpAny_pure ?_)
  show wpAny _ _ (call (.builtin "BaseException.__getattribute__") [.ref x, .str "__class__" t]) _ _ _
  refine wpAny_call (codeAny_call_builtin PySem.F.excAttr_ValueError.ga.plain PySem.F.entry_bexc_ga ?_)
  refine @check_slot (model prog w) _ _ ⟨hp, g, d, t + 1, os⟩ "BaseException.__getattribute__" "BaseException" "__getattribute__" (.ref x) [.str "__class__" t] [] _ (by decide +kernel) (by decide +kernel) sb (PySem.F.args_bexc_ga (.ref x) (.str "__class__" t)) ?_
  unfold Builtin.«object.__getattribute__»
  refine wpAny_bind (wpAny_of_eq (a := ((Value.ref x : Value), [Value.str "__class__" t])) (by first | rfl | (simp only [slotArgs]; rfl)) ?_)
  refine wpAny_bind (wpAny_pure (wpAny_bind (t0.at (wpAny_bind (t3.at ?_)))))
  show wpAny _ _ (holding [Value.builtin "object.__class__"] (call (.builtin "getset_descriptor.__get__") [.builtin "object.__class__", .ref x, .ref D]) >>= ret) _ _ _
  refine wpAny_bind (wpAny_holding (wpAny_call (class_get (s := ⟨hp, g, d, t + 1, os⟩) (ox := ox) (od := od) X I C.hm ?_)))
  refine wpAny_pure ?_
  show wpAny _ _ (handedOut (.ref D)) _ _ _
  rw [handedOut_of (v := .ref D) rfl]
  first
    | exact wpAny_pure (wpAny_pure h)
    | exact wpAny_pure h
    | exact wpAny_pure (wpAny_bind (wpAny_pure (wpAny_pure h)))
theorem kitx_err (C : L2.ExcC K D) : KitX K (.ref x) (.ref D) (fun h => InstAt h x ox D od) where
  ty := fun _ _ _ I => I.type
  it := fun _ _ X _ => by
    obtain ⟨cdD, hcD, _⟩ := any_some C.hd
    unfold clsIn at hcD
    split at hcD
    · rename_i c' d' cd' sl' ho
      intro A' Q' E' s' k q
      unfold isType loadHead
      exact wpAny_bind (wpAny_loadPart (k _ _ (X _ _ ho)) (wpAny_pure q))
    · cases hcD
  ne := fun h tp dd its n sl X htp => by
    obtain ⟨cdD, hcD, _⟩ := any_some C.hd
    refine Bool.eq_false_iff.mpr fun q => ?_
    have e : D = tp := Value.ref.inj (beq_iff_eq.mp q)
    subst e
    unfold clsIn at hcD
    split at hcD
    · rename_i c' d' cd' sl' ho
      have z := (X _ _ ho).symm.trans htp
      cases z
    · cases hcD
  ca := fun X I k => cls_get C X I k
end
end PySem.EV
namespace EV2
open PySem PySem.Spec PyProof.Rows L2
/-! ### isinstance(e, c), e an own error -/
/-- x is an own error of the class at D -/
def ErrAt (H : Hp) (x : V) (D : Addr) : Prop := ∃ (a : Addr) (d : Option Addr), x = .ref a ∧ H a = some (exo a D d) ∧ ∀ dd, d = some dd → ∃ fs, H dd = some (exd dd fs)
def rIsV (K : PySem.W.Frag) : List V → Hp → VK → Prop := fun xs H Q => ∃ (x c : V) (D : Addr) (cv : Value) (b : Bool), xs = [x, c] ∧ ErrAt H x D ∧ ExcC K D ∧ (∀ u, RelV c u → u = cv) ∧ PySem.W.kitOne K (.ref D) cv = some b ∧ Q (.bl b) H
theorem call_isV {X : Cx} : CallR X (.builtin "isinstance") (rIsV X.K) := by
  intro pins s σ H xs us Q I r h
  obtain ⟨x, c, D, cv, b, rfl, ⟨a, d, rfl, ha, hd⟩, C, hcv, e, q⟩ := h
  obtain ⟨u1, u2, rfl, r1, r2⟩ := vals2 r
  have ec := hcv _ r2
  subst ec
  obtain rfl : u1 = Value.ref a := r1
  obtain ⟨t1, ho⟩ := exo_at I.hok ha
  cases d with
  | none =>
    have J : PySem.W.InstAt s.heap a { cls := .ref D, dict := none, data := .fields #[.ref t1, .none, .none, .none, .bool false, .none] } D none := ⟨ho, rfl, rfl, trivial⟩
    exact PySem.W.kia_one (PySem.EV.kitx_err C) I.kIn J e (fun z => nomatch z) fun tk => ⟨.bl b, H, I.kept (t' := tk) fun _ _ z => z, rfl, q⟩
  | some dd =>
    obtain ⟨fs, hdd⟩ := hd dd rfl
    obtain ⟨mA, hns, _⟩ := exd_at I.hok hdd
    obtain ⟨od, eo, _⟩ := lookIn_ns hns
    have J : PySem.W.InstAt s.heap a { cls := .ref D, dict := some dd, data := .fields #[.ref t1, .none, .none, .none, .bool false, .none] } D (some od) := ⟨ho, rfl, rfl, eo⟩
    exact PySem.W.kia_one (PySem.EV.kitx_err C) I.kIn J e (fun z => nomatch z) fun tk => ⟨.bl b, H, I.kept (t' := tk) fun _ _ z => z, rfl, q⟩
/-! ### e.f -/
def tErrF (K : PySem.W.Frag) (f : Str) (te : TE) : TE := fun σ H Q => te σ H fun x H1 => ∃ (a C d : Addr) (fs : List (Str × V)) (v : V), x = .ref a ∧ H1 a = some (exo a C (some d)) ∧ H1 d = some (exd d fs) ∧ XfC K C ∧ PySem.W.findIn K (.ref C) f = some none ∧ fs.lookup f = some v ∧ Q v H1
theorem pe_errF {X : Cx} {e : Expr} {te : TE} {f : Str} {pos : Pos} (he : PE X e te) (hb : attributeBase e f X.env (eval e X.env) = eval e X.env := by rfl) : PE X (.Attribute e f pos) (tErrF X.K f te) := by
  refine ⟨fun pins s σ H Q I h => ?_⟩
  refine attr_of hb (thn (he.run pins s σ H _ I h) fun u s1 hh => ?_)
  obtain ⟨x, H1, I1, rx, a, C, d, fs, v, ex, ea, ed, T, hno, l, q⟩ := hh
  subst ex
  obtain rfl : u = Value.ref a := rx
  obtain ⟨t1, ho⟩ := exo_at I1.hok ea
  obtain ⟨mA, hns, hr⟩ := exd_at I1.hok ed
  obtain ⟨od, eo, hl⟩ := lookIn_ns hns
  obtain ⟨u, hu, ru⟩ := RelO.some_of (v := v) (o := mA f) (by rw [← l]; exact hr f)
  have J : PySem.W.InstAt s1.heap a { cls := .ref C, dict := some d, data := .fields #[.ref t1, .none, .none, .none, .bool false, .none] } C (some od) := ⟨ho, rfl, rfl, eo⟩
  exact HandSPX.exc_get I1.kIn J T.ga T.gg T.exC (PySem.W.findObj_own T.hdC hno rfl (by rw [hl, hu])) (handed_of ru) ⟨v, H1, I1.tok _, ru, q⟩
/-! ### C(), C an own error without an __init__ of its own -/
def tMk0 (C : Addr) : TE := fun _ H Q => ∀ a, H a = none → Q (.ref a) (upd H a (exo a C none))
theorem pe_mk0 {X : Cx} {C : Addr} {bmB : List Value} {B newId initId : String} {x : Str} {p pos : Pos} (F : ExcBaseFacts B newId initId bmB) (q : PySem.W.excIn X.K C bmB newId = true) (gC : X.mg x = some (.ref C)) (kC : PySem.W.keepIn X.K (.ref C) = true) (hg : Gl X x)
    (hdb : (x == ("__debug__" : Str)) = false := by decide) : PE X (.Call (.Name x p) [] [] pos) (tMk0 C) := by
  refine ⟨fun pins s σ H Q I h => ?_⟩
  refine wpAny_Call_Name_kw (ld_glob I hg gC ?_ hdb)
  refine PySem.W.callWith_K0 I.kIn kC ?_
  show wpAny _ _ (call (.ref C) []) _ _ _
  obtain ⟨bm, N, nm, qn, bs, hdct, sn, sub, ab, col, dd, k0, k1, k2, k3, k5, mN, hC, hN, hni, T⟩ := exc_obj I.kIn q
  refine wpAny_call_exc_subT F T hC hN hni (fun h' e hm => ?_) (by show 0 ≤ sizeLine; rw [sizeLine_eq]; omega)
  obtain ⟨t, he, _, _⟩ := hm.there
  have hn := I.hok.gone hm.new
  exact ⟨.ref e, _, I.laidN (t' := s.toks) hm.keeps hm.new hn (exo_ok he), rfl, h e hn⟩
end EV2

set_option Elab.async false
set_option linter.all false
set_option maxRecDepth 100000
set_option maxHeartbeats 4000000
/-! Pens: a dict of three text keys, the cells and two numbers; common small facts. -/
namespace Pen
open PySem PySem.Spec PyProof.Rows L2
/-- all but what stands at p is as it was -/
def Sib (p : Addr) (H H' : Hp) : Prop := ∀ b o, b ≠ p → H b = some o → H' b = some o
theorem Sib.refl (p : Addr) (H : Hp) : Sib p H H := fun _ _ _ h => h
theorem Sib.trans {p : Addr} {H H1 H2 : Hp} (a : Sib p H H1) (b : Sib p H1 H2) : Sib p H H2 := fun c o n h => b c o n (a c o n h)
theorem Sib.new {p q : Addr} {o : HO} {H : Hp} (h : H q = none) : Sib p H (upd H q o) := fun b u _ e => by
  rw [upd_ne (ne_of_none e h)]
  exact e
theorem Sib.put {p : Addr} {o : HO} {H : Hp} : Sib p H (upd H p o) := fun b u n e => by
  rw [upd_ne n]
  exact e
/-- the pen's pairs: c the cells, i how many were taken, r what is left of the last one -/
def kvs (k1 k2 k3 : Str) (c : Addr) (i r : Int) : List (Key × V) := [(Sum.inr k1, .ref c), (Sum.inr k2, .int i), (Sum.inr k3, .int r)]
structure At (k1 k2 k3 : Str) (H : Hp) (p c : Addr) (cs : List Int) (i r : Int) : Prop where
  hp : H p = some (.dK (kvs k1 k2 k3 c i r))
  hc : H c = some (.lst (cs.map V.int))
  hl : cs.length ≤ 64
  h0 : 0 ≤ i
  h1 : i < 2 ^ 40
section
variable {k1 k2 k3 : Str} {H H' : Hp} {p c : Addr} {cs : List Int} {i r : Int}
theorem ref_ne (P : At k1 k2 k3 H p c cs i r) : c ≠ p := ne_of P.hc P.hp (by intro z; cases z)
theorem get1 (P : At k1 k2 k3 H p c cs i r) : DGet H p (.str k1) (some (.ref c)) := by
  have h := DGet.k (k := Sum.inr k1) P.hp
  have e : valV (kvs k1 k2 k3 c i r) (Sum.inr k1) = some (.ref c) := by simp [valV, kvs]
  rw [e] at h
  exact h
theorem get2 (P : At k1 k2 k3 H p c cs i r) (h12 : k1 ≠ k2) : DGet H p (.str k2) (some (.int i)) := by
  have h := DGet.k (k := Sum.inr k2) P.hp
  have e : valV (kvs k1 k2 k3 c i r) (Sum.inr k2) = some (.int i) := by simp [valV, kvs, h12]
  rw [e] at h
  exact h
theorem get3 (P : At k1 k2 k3 H p c cs i r) (h13 : k1 ≠ k3) (h23 : k2 ≠ k3) : DGet H p (.str k3) (some (.int r)) := by
  have h := DGet.k (k := Sum.inr k3) P.hp
  have e : valV (kvs k1 k2 k3 c i r) (Sum.inr k3) = some (.int r) := by simp [valV, kvs, h13, h23]
  rw [e] at h
  exact h
theorem put2 (P : At k1 k2 k3 H p c cs i r) (h12 : k1 ≠ k2) (h23 : k2 ≠ k3) (z : Int) : DPut H p (.str k2) (.int z) (upd H p (.dK (kvs k1 k2 k3 c z r))) := by
  have h := DPut.k (k := Sum.inr k2) (v := .int z) P.hp (by show 3 < sizeLine; decide)
  have e : putK (kvs k1 k2 k3 c i r) (Sum.inr k2) (.int z) = kvs k1 k2 k3 c z r := by
    have h3 : ¬ k3 = k2 := fun q => h23 q.symm
    simp [putK, kvs, h12, h3]
  rw [e] at h
  exact h
theorem put3 (P : At k1 k2 k3 H p c cs i r) (h13 : k1 ≠ k3) (h23 : k2 ≠ k3) (z : Int) : DPut H p (.str k3) (.int z) (upd H p (.dK (kvs k1 k2 k3 c i z))) := by
  have h := DPut.k (k := Sum.inr k3) (v := .int z) P.hp (by show 3 < sizeLine; decide)
  have e : putK (kvs k1 k2 k3 c i r) (Sum.inr k3) (.int z) = kvs k1 k2 k3 c i z := by simp [putK, kvs, h13, h23]
  rw [e] at h
  exact h
theorem At.to (P : At k1 k2 k3 H p c cs i r) {i' r' : Int} (hp : H' p = some (.dK (kvs k1 k2 k3 c i' r'))) (s : Sib p H H') (h0 : 0 ≤ i') (h1 : i' < 2 ^ 40) : At k1 k2 k3 H' p c cs i' r' :=
  ⟨hp, s _ _ (ref_ne P) P.hc, P.hl, h0, h1⟩
theorem At.new (P : At k1 k2 k3 H p c cs i r) {q : Addr} {o : HO} (h : H q = none) : At k1 k2 k3 (upd H q o) p c cs i r :=
  P.to (by rw [upd_ne (ne_of_none P.hp h)]; exact P.hp) (Sib.new h) P.h0 P.h1
theorem At.keep (P : At k1 k2 k3 H p c cs i r) (s : Same H H') : At k1 k2 k3 H' p c cs i r := P.to (s _ _ P.hp) (fun b o _ h => s b o h) P.h0 P.h1
end
theorem fmod_lo {a m : Int} (h : 0 < m) : 0 ≤ a.fmod m := by
  rw [Int.fmod_eq_emod_of_nonneg a (by omega)]
  exact Int.emod_nonneg a (by omega)
theorem fmod_hi {a m : Int} (h : 0 < m) : a.fmod m < m := by
  rw [Int.fmod_eq_emod_of_nonneg a (by omega)]
  exact Int.emod_lt_of_pos a h
/-- cells != [] -/
theorem dp_ints {K : PySem.W.Frag} {H : Hp} : ∀ (cs : List Int), DpAll K H (cs.map V.int) (cs.map PyData.int)
  | [] => .nil
  | n :: cs => .cons (.int n) (dp_ints cs)
theorem can_ints : ∀ (cs : List Int), PyData.canLayAll0 (cs.map PyData.int) = true
  | [] => rfl
  | n :: cs => by
    show (PyData.canLay0 (.int n) && PyData.canLayAll0 (cs.map PyData.int)) = true
    rw [can_ints cs]
    all_goals rfl
theorem depth_ints : ∀ (cs : List Int), PyData.depthAll (cs.map PyData.int) = 0
  | [] => rfl
  | n :: cs => by
    show max (PyData.depth (.int n)) (PyData.depthAll (cs.map PyData.int)) = 0
    rw [depth_ints cs]
    all_goals rfl
theorem shaped_ints (cs : List Int) : SeqAt.shaped (.list (cs.map PyData.int)) = true := by
  unfold SeqAt.shaped
  show (PyData.canLayAll0 (cs.map PyData.int) && decide (PyData.depthAll (cs.map PyData.int) + 1 ≤ 64)) = true
  rw [can_ints, depth_ints]
  all_goals rfl
theorem eqv_nil : ∀ (cs : List Int), PyData.eqv (.list (cs.map PyData.int)) (.list []) = decide (cs = [])
  | [] => rfl
  | n :: cs => rfl
theorem fm64 {a m : Int} (h : 0 < m) (h2 : m ≤ 2 ^ 64) : -(2 ^ 64) < a.fmod m ∧ a.fmod m < 2 ^ 64 := by
  have h3 := fmod_lo (a := a) h
  have h4 := fmod_hi (a := a) h
  omega
theorem SqL_sib {K : PySem.W.Frag} {p l : Addr} {H H' : Hp} {xs : List V} (h : SqL K H l xs) (s : Sib p H H') (n : l ≠ p) : SqL K H' l xs := by
  rcases h with (h | ⟨o, h⟩) | h
  · exact .inl (.inl (s _ _ n h))
  · exact .inl (.inr ⟨o, s _ _ n h⟩)
  · exact .inr h
theorem at_ints {cs : List Int} {i : Int} (h0 : 0 ≤ i) (h1 : i < cs.length) : ∃ z, atI (cs.map V.int) i = some (.int z) := by
  have hk : i.toNat < cs.length := by omega
  refine ⟨cs[i.toNat], ?_⟩
  unfold atI ixN
  rw [List.length_map, if_pos h0, if_pos h1, Option.bind_some, List.getElem?_map, List.getElem?_eq_getElem hk]
  all_goals rfl
theorem cut_all {xs : List V} {n : Nat} (h : xs.length ≤ n) : cutV xs none (some (n : Int)) = xs := by
  have e1 : HT.sIx xs.length 0 none = 0 := rfl
  have e2 : HT.sIx xs.length xs.length (some (n : Int)) = xs.length := by
    rw [HT.sIx_nat]
    omega
  unfold cutV
  rw [e1, e2]
  simp
end Pen

set_option Elab.async false
set_option linter.all false
set_option maxRecDepth 100000
set_option maxHeartbeats 4000000
/-! Own errors with one or two fields that their __init__ stores: what stands behind C(..). -/
namespace EV2
open PySem PySem.Spec PyProof.Rows L2
/-- an error with the fields fs -/
structure ErrF (H : Hp) (a d C : Addr) (fs : List (Str × V)) : Prop where
  he : H a = some (exo a C (some d))
  hd : H d = some (exd d fs)
def spI1 (C : Addr) (f : Str) : Sp := fun vs H Q _ => ∃ (a : Addr) (v : V), vs = [.ref a, v] ∧ H a = some (exo a C none) ∧
  ∀ d, H d = none → d ≠ a → Q .non (upd (upd H d (exd d [(f, v)])) a (exo a C (some d)))
def spI2 (C : Addr) (f g : Str) : Sp := fun vs H Q _ => ∃ (a : Addr) (v u : V), vs = [.ref a, v, u] ∧ H a = some (exo a C none) ∧
  ∀ d, H d = none → d ≠ a → Q .non (upd (upd (upd H d (exd d [(f, v)])) a (exo a C (some d))) d (exd d [(g, u), (f, v)]))
section
variable {H : Hp} {Q : VK} {E : XK} {C : Addr} {f g : Str} {u v : V}
theorem rd_e1 (k : ∀ a d H', H a = none → H' a = some (exo a C (some d)) → H' d = some (exd d [(f, v)]) → Same H H' → Q (.ref a) H') :
    ∀ a, H a = none → spI1 C f [.ref a, v] (upd H a (exo a C none)) (fun z H3 => z = .non ∧ Q (.ref a) H3) E := fun a ha =>
  ⟨a, v, rfl, upd_same, fun d hd ne => ⟨rfl, k a d _ ha upd_same (by rw [upd_ne ne, upd_same]) fun b o e => by
    have n1 : b ≠ a := ne_of_none e ha
    have n2 : b ≠ d := fun z => by
      rw [z] at e
      rw [upd_ne ne, e] at hd
      cases hd
    rw [upd_ne n1, upd_ne n2, upd_ne n1]
    exact e⟩⟩
theorem rd_e2 (k : ∀ a d H', H a = none → H' a = some (exo a C (some d)) → H' d = some (exd d [(g, u), (f, v)]) → Same H H' → Q (.ref a) H') :
    ∀ a, H a = none → spI2 C f g [.ref a, v, u] (upd H a (exo a C none)) (fun z H3 => z = .non ∧ Q (.ref a) H3) E := fun a ha =>
  ⟨a, v, u, rfl, upd_same, fun d hd ne => ⟨rfl, k a d _ ha (by rw [upd_ne (Ne.symm ne), upd_same]) upd_same fun b o e => by
    have n1 : b ≠ a := ne_of_none e ha
    have n2 : b ≠ d := fun z => by
      rw [z] at e
      rw [upd_ne ne, e] at hd
      cases hd
    rw [upd_ne n2, upd_ne n1, upd_ne n2, upd_ne n1]
    exact e⟩⟩
end
/-- how a def binds positional and keyword arguments, told by its text -/
theorem kbn_of {K : PySem.W.Frag} {x qual : Str} {st : Stmt} {f : Addr} {fd : FuncData} {ps ks : List Str} {n : Nat} {g : List Value → List Value → List Value} {gV : List V → List V → List V} (F : Fun K x qual st f fd)
    (h : ∀ (kV doc pm : Value) (an : Option Addr) (cdv ct : Value) (us ws : List Value), us.length = n → ws.length = ks.length → bindArgs (PySem.W.fnOf x qual (defArgs st) (defBody st) (defScope st) .none kV doc pm an cdv ct) ⟨us, ks.zip ws⟩ = pure (ps.zip (g us ws)))
    (hr : ∀ {vs : List V} {us : List Value} {zs : List V} {ws : List Value}, Vals vs us → Vals zs ws → Vals (gV vs zs) (g us ws)) : KBn K fd ps n ks g gV := by
  obtain ⟨oc, od, kV, doc, pm, an, cdv, ct, osl, rfl, lk, hcd⟩ := F.ex
  exact ⟨fun s us ws X l1 l2 => .of_eq (h kV doc pm an cdv ct us ws l1 l2), hr⟩
/-- two keywords in the other order -/
def swapK {α : Type} (us ws : List α) : List α := us ++ ws.reverse
theorem vals_rev : ∀ {vs : List V} {us : List Value}, Vals vs us → Vals vs.reverse us.reverse
  | _, _, .nil => .nil
  | _, _, .cons r t => by
    rw [List.reverse_cons, List.reverse_cons]
    exact (vals_rev t).append (.cons r .nil)
end EV2

set_option Elab.async false
set_option linter.all false
set_option maxRecDepth 100000
set_option maxHeartbeats 4000000
/-! What readings give, for errors that are made and asked on the spot, for lists of tuples, for isinstance. -/
namespace EV2
open PySem PySem.Spec PyProof.Rows L2 Evl
/-- tuples at ps with the items xss -/
abbrev TupsAt (H : Hp) : List Addr → List (List V) → Prop := Paired fun p xs => H p = some (.tup xs)
theorem TupsAt.ext {H H' : Hp} (e : Ex H H') : ∀ {ps : List Addr} {xss : List (List V)}, TupsAt H ps xss → TupsAt H' ps xss
  | _, _, .nil => .nil
  | _, _, .cons r t => .cons (e _ _ r) (TupsAt.ext e t)
def EvTs (ta : TA) (σ : L2.St) (H : Hp) (xss : List (List V)) : Prop := ∀ H1, Ex H H1 → ∀ Q : List V → Hp → Prop, (∀ ps H2, Ex H1 H2 → TupsAt H2 ps xss → Q (ps.map V.ref) H2) → ta σ H1 Q
section
variable {K : PySem.W.Frag} {σ : L2.St} {H : Hp} {te : TE} {ta tk tr : TA} {x v : V} {xs : List V} {xss : List (List V)} {f : Str} {C : Addr}
theorem ets_nil : EvTs tNil σ H [] := fun H1 _ _ q => q [] H1 (Ex.refl H1) .nil
theorem ets_cons (h : EvU te σ H xs) (hr : EvTs tr σ H xss) : EvTs (tCons te tr) σ H (xs :: xss) := fun H1 e Q q =>
  h H1 e _ fun p H2 _ e2 hp => hr H2 (e.trans e2) _ fun ps H3 e3 ht => q (p :: ps) H3 (e2.trans e3) (.cons (e3 _ _ hp) ht)
/-- a list of such tuples -/
def EvLT (te : TE) (σ : L2.St) (H : Hp) (xss : List (List V)) : Prop := ∀ H1, Ex H H1 → ∀ Q : VK, (∀ p ps H2, H1 p = none → Ex H1 H2 → H2 p = some (.lst (ps.map V.ref)) → TupsAt H2 ps xss → Q (.ref p) H2) → te σ H1 Q
theorem elt_lst (h : EvTs ta σ H xss) (hl : xss.length ≤ 100000) : EvLT (tLst ta) σ H xss := fun H1 e Q q =>
  h H1 e _ fun ps H2 e2 ht => ⟨by
    have z := Paired.length ht
    rw [List.length_map, z]
    exact sz_of hl, fun p hp => q p ps _ (fresh_back e2 hp) (e2.trans (Ex.new hp)) upd_same (ht.ext (Ex.new hp))⟩
/-- what follows an attribute of an error -/
def errK (K : PySem.W.Frag) (f : Str) (Q : VK) : VK := fun x H1 => ∃ (a C d : Addr) (fs : List (Str × V)) (v : V), x = .ref a ∧ H1 a = some (exo a C (some d)) ∧ H1 d = some (exd d fs) ∧ XfC K C ∧ PySem.W.findIn K (.ref C) f = some none ∧ fs.lookup f = some v ∧ Q v H1
/-- C(v).f -/
theorem ev_e1p {gV : List V → List V → List V} (hx : XfC K C) (no : PySem.W.findIn K (.ref C) f = some none) (ha : EvA ta σ H [v]) (hg : ∀ a : V, gV [a, v] [] = [a, v]) : Ev (tErrF K f (tMkV C 1 0 (spI1 C f) gV ta tNil)) σ H v := fun H1 e Q q =>
  ha H1 e _ fun H2 e2 => ⟨rfl, rfl, by decide, by
    intro a ha
    rw [hg]
    exact rd_e1 (Q := errK K f Q) (fun a d H3 ha he hd s => ⟨a, C, d, _, v, rfl, he, hd, hx, no, by simp [List.lookup], q H3 (e2.trans s)⟩) a ha⟩
/-- C(f = v).f -/
theorem ev_e1k {gV : List V → List V → List V} (hx : XfC K C) (no : PySem.W.findIn K (.ref C) f = some none) (ha : EvA tk σ H [v]) (hg : ∀ a : V, gV [a] [v] = [a, v]) : Ev (tErrF K f (tMkV C 0 1 (spI1 C f) gV tNil tk)) σ H v := fun H1 e Q q =>
  ha H1 e _ fun H2 e2 => ⟨rfl, rfl, by decide, by
    intro a ha
    rw [hg]
    exact rd_e1 (Q := errK K f Q) (fun a d H3 ha he hd s => ⟨a, C, d, _, v, rfl, he, hd, hx, no, by simp [List.lookup], q H3 (e2.trans s)⟩) a ha⟩
/-- errors with two fields: f and g are v and u behind it; h is the one that is asked, z its value -/
theorem ev_e2 {n m : Nat} {vs zs : List V} {g h : Str} {u z : V} {gV : List V → List V → List V} (hx : XfC K C) (no : PySem.W.findIn K (.ref C) h = some none) (ha : EvA ta σ H vs) (hk : EvA tk σ H zs) (l1 : vs.length = n) (l2 : zs.length = m) (hn : n ≤ 1000)
    (hg : ∀ a : V, gV (a :: vs) zs = [a, v, u]) (hz : ([(g, u), (f, v)] : List (Str × V)).lookup h = some z) : Ev (tErrF K h (tMkV C n m (spI2 C f g) gV ta tk)) σ H z := fun H1 e Q q =>
  ha H1 e _ fun H2 e2 => hk H2 (e.trans e2) _ fun H3 e3 => ⟨l1, l2, hn, by
    intro a ha
    rw [hg]
    exact rd_e2 (Q := errK K h Q) (fun a d H4 ha he hd s => ⟨a, C, d, _, z, rfl, he, hd, hx, no, hz, q H4 ((e2.trans e3).trans s)⟩) a ha⟩
end
end EV2

set_option Elab.async false
set_option linter.all false
set_option maxRecDepth 100000
set_option maxHeartbeats 4000000
/-! A new list that grows by tuples. -/
namespace EV2
open PySem PySem.Spec PyProof.Rows L2 Evl
structure Grown (H0 H : Hp) (l : Addr) (ts : List Addr) (xss : List (List V)) : Prop where
  nw : H0 l = none
  ex : Ex H0 H
  at_ : H l = some (.lst (ts.map V.ref))
  tp : TupsAt H ts xss
theorem tups_app {H : Hp} : ∀ {ps qs : List Addr} {xss yss : List (List V)}, TupsAt H ps xss → TupsAt H qs yss → TupsAt H (ps ++ qs) (xss ++ yss)
  | _, _, _, _, .nil, t => t
  | _, _, _, _, .cons r s, t => .cons r (tups_app s t)
theorem tups_upd {H : Hp} {l : Addr} {xs ys : List V} (h : H l = some (.lst xs)) : ∀ {ps : List Addr} {xss : List (List V)}, TupsAt H ps xss → TupsAt (upd H l (.lst ys)) ps xss
  | _, _, .nil => .nil
  | _, _, .cons r t => .cons (by
      rw [upd_ne (ne_of r h (by intro z; cases z))]
      exact r) (tups_upd h t)
section
variable {K : PySem.W.Frag} {σ : L2.St} {H0 H : Hp} {te : TE} {l : Addr} {ts : List Addr} {xss : List (List V)} {ys : List V} {tz : TS} {D : Ends} {i : Nat}
theorem grow (G : Grown H0 H l ts xss) (hi : σ[i]? = some (some (.ref l))) (h : EvU te σ H ys) (hz : ts.length < 1000) (k : ∀ p H', Grown H0 H' l (ts ++ [p]) (xss ++ [ys]) → tz D σ H') :
    tSeq (tDrop (tBM K "list" rAppend (tVar i) (tCons te tNil))) tz D σ H := by
  refine q_appU G.at_ (ev_var hi) h (by rw [List.length_map]; omega) fun p H1 hp e1 ht => k p _ ⟨G.nw, Ex.mut (G.ex.trans e1) G.nw, ?_, ?_⟩
  · rw [upd_same, List.map_append]
    rfl
  · exact tups_upd (e1 _ _ G.at_) (tups_app (G.tp.ext e1) (.cons ht .nil))
end
end EV2

set_option Elab.async false
set_option linter.all false
set_option maxRecDepth 100000
set_option maxHeartbeats 4000000
/-! Own errors right below one own base, which is a ValueError: what follows from the class's own line; which kind is which. -/
namespace EV2
open PySem PySem.Spec PyProof.Rows L2 Evl
def BM (S : Addr) : List Value := [.ref S, .type "ValueError", .type "Exception", .type "BaseException", .type "object"]
/-- the class's own line -/
def LineOf (K : PySem.W.Frag) (S C : Addr) : Prop := ∃ nm q N bs sn sub ab col dd k0 k1 k2 k3 k5, K.lookup C = some (excClassObj nm q C N bs (BM S) true sn sub ab col dd k0 k1 k2 k3 k5 "ValueError.__new__")
section
variable {K : PySem.W.Frag} {S C D : Addr}
theorem LineOf.cls (h : LineOf K S C) : ∃ cd, PySem.W.clsIn K C = some cd ∧ cd.mro = .ref C :: BM S ∧ cd.hasDict = true := by
  obtain ⟨nm, q, N, bs, sn, sub, ab, col, dd, k0, k1, k2, k3, k5, e⟩ := h
  refine ⟨_, by unfold PySem.W.clsIn; rw [e] <;> rfl, rfl, rfl⟩
theorem LineOf.mro (h : LineOf K S C) (v : Value) : PySem.W.mroIn K C v = some ((Value.ref C :: BM S).contains v) := by
  obtain ⟨cd, e, m, _⟩ := h.cls
  unfold PySem.W.mroIn
  rw [e, Option.bind_some, m, if_neg (by show ¬ false = true; decide)]
theorem LineOf.base (h : LineOf K S C) : PySem.W.subIn K (.ref C) (.type "BaseException") = some true := by
  show PySem.W.mroIn K C (.type "BaseException") = some true
  rw [h.mro]
  congr 1
theorem LineOf.value (h : LineOf K S C) : PySem.W.subIn K (.ref C) (.type "ValueError") = some true := by
  show PySem.W.mroIn K C (.type "ValueError") = some true
  rw [h.mro]
  congr 1
theorem LineOf.obj (h : LineOf K S C) : PySem.W.mroIn K C (.type "object") = some true := by
  rw [h.mro]
  congr 1
theorem LineOf.ty (h : LineOf K S C) : PySem.W.typeIn K (.ref C) = some (.type "type") := by
  obtain ⟨nm, q, N, bs, sn, sub, ab, col, dd, k0, k1, k2, k3, k5, e⟩ := h
  show (K.lookup C).map (·.cls) = some (.type "type")
  rw [e]
  all_goals rfl
theorem LineOf.dict (h : LineOf K S C) : PySem.W.hasDictIn K C = true := by
  obtain ⟨cd, e, _, d⟩ := h.cls
  unfold PySem.W.hasDictIn
  rw [e]
  exact d
theorem LineOf.isc (h : LineOf K S C) : (PySem.W.clsIn K C).isSome = true := by
  obtain ⟨cd, e, _⟩ := h.cls
  rw [e]
  all_goals rfl
theorem refs_bm : PySem.HandSPX.refsVE (BM S) = true := by rfl
theorem LineOf.ox (h : LineOf K S C) (sa : PySem.W.findIn K (.ref C) "__setattr__" = some (some (.builtin "object.__setattr__"))) (kC : PySem.W.keepIn K (.ref C) = true) : OexC K C := by
  have e1 := h.base
  have e2 := h.ty
  obtain ⟨nm, q, N, bs, sn, sub, ab, col, dd, k0, k1, k2, k3, k5, e⟩ := h
  exact ⟨⟨nm, q, N, bs, _, sn, sub, ab, col, dd, k0, k1, k2, k3, k5, e, refs_bm⟩, sa, e1, e2, kC⟩
/-- the look at an instance's class -/
structure GetC (K : PySem.W.Frag) : Prop where
  hn : PySem.W.specialIn K (.builtin "object.__class__") "__get__" = some (some (.builtin "getset_descriptor.__get__"))
  ht : PySem.W.takesIn K (.builtin "object.__class__") = some true
theorem LineOf.ic (h : LineOf K S C) (g : GetC K) (hg : PySem.W.findIn K (.ref C) "__getattribute__" = some (some (.builtin "BaseException.__getattribute__"))) (hk : PySem.W.findIn K (.ref C) "__getattr__" = some none)
    (ha : PySem.W.findIn K (.ref C) "__class__" = some (some (.builtin "object.__class__"))) : ExcC K C := ⟨hg, hk, h.base, h.dict, ha, g.hn, g.ht, h.obj⟩
theorem LineOf.xf (h : LineOf K S C) (hg : PySem.W.findIn K (.ref C) "__getattribute__" = some (some (.builtin "BaseException.__getattribute__"))) (hk : PySem.W.findIn K (.ref C) "__getattr__" = some none) : XfC K C := ⟨hg, hk, h.base, h.dict⟩
theorem ref_beq (a b : Addr) : (Value.ref a == Value.ref b) = decide (a = b) := by
  by_cases e : a = b
  · subst e
    simp
  · rw [decide_eq_false e]
    exact beq_eq_false_iff_ne.mpr fun q => e (Value.ref.inj q)
/-- isinstance(e, C), e of the class D: both right below S -/
theorem kit_below (hD : LineOf K S D) (hC : LineOf K S C) (n : C ≠ S) : PySem.W.kitOne K (.ref D) (.ref C) = some (decide (C = D)) := by
  unfold PySem.W.kitOne
  by_cases e : D = C
  · subst e
    rw [if_pos (by rw [ref_beq]; simp)]
    simp
  · rw [if_neg (by rw [ref_beq]; simp [e])]
    show (if ((PySem.W.clsIn K C).isSome && PySem.W.typeIn K (.ref C) == some (.type "type")) = true then PySem.W.subIn K (.ref D) (.ref C) else none) = some (decide (C = D))
    rw [hC.isc, hC.ty]
    rw [if_pos (by rfl)]
    show PySem.W.mroIn K D (.ref C) = some (decide (C = D))
    rw [hD.mro]
    congr 1
    have n1 : (Value.ref C == Value.ref D) = false := by rw [ref_beq]; exact decide_eq_false fun q => e q.symm
    have n2 : (Value.ref C == Value.ref S) = false := by rw [ref_beq]; exact decide_eq_false n
    have n3 : ∀ x : String, (Value.ref C == Value.type x) = false := fun x => beq_eq_false_iff_ne.mpr fun q => by cases q
    have q : decide (C = D) = false := decide_eq_false fun q => e q.symm
    rw [q]
    simp only [BM, List.contains_cons, n1, n2, n3, List.contains_nil, Bool.or_false]
/-- the base itself, and ValueError -/
theorem kit_base (hD : LineOf K S D) (sS : (PySem.W.clsIn K S).isSome = true) (tS : PySem.W.typeIn K (.ref S) = some (.type "type")) : PySem.W.kitOne K (.ref D) (.ref S) = some true := by
  unfold PySem.W.kitOne
  by_cases e : D = S
  · rw [if_pos (by rw [ref_beq]; simp [e])]
  · rw [if_neg (by rw [ref_beq]; simp [e])]
    show (if ((PySem.W.clsIn K S).isSome && PySem.W.typeIn K (.ref S) == some (.type "type")) = true then PySem.W.subIn K (.ref D) (.ref S) else none) = some true
    rw [sS, tS]
    rw [if_pos (by rfl)]
    show PySem.W.mroIn K D (.ref S) = some true
    rw [hD.mro]
    congr 1
    simp only [BM, List.contains_cons]
    rw [show (Value.ref S == Value.ref S) = true from by rw [ref_beq]; simp]
    simp
theorem kit_value (hD : LineOf K S D) : PySem.W.kitOne K (.ref D) (.type "ValueError") = some true := by
  unfold PySem.W.kitOne
  rw [if_neg (by intro q; exact absurd (beq_iff_eq.mp q) (by intro z; cases z))]
  show (if PySem.W.kitMeta "ValueError" = true then PySem.W.subIn K (.ref D) (.type "ValueError") else none) = some true
  rw [if_pos (by decide +kernel)]
  exact hD.value
end
/-- one among many -/
def marks (l : List Addr) (D : Addr) : List Int := l.map fun C => if C = D then 1 else 0
theorem marks_no : ∀ {l : List Addr} {D : Addr}, D ∉ l → marks l D = List.replicate l.length 0
  | [], _, _ => rfl
  | C :: l, D, h => by
    have h1 : ¬ C = D := fun e => h (by rw [e]; exact List.mem_cons_self ..)
    show (if C = D then 1 else 0) :: marks l D = _
    rw [if_neg h1, marks_no fun q => h (List.mem_cons_of_mem _ q)]
    rfl
theorem marks_at : ∀ {l : List Addr} {j : Nat} {D : Addr}, l.Nodup → l[j]? = some D → marks l D = List.replicate j 0 ++ [1] ++ List.replicate (l.length - 1 - j) 0
  | [], _, _, _, h => by simp at h
  | C :: l, 0, D, nd, h => by
    have e : C = D := Option.some.inj h
    subst e
    show (if C = C then 1 else 0) :: marks l C = _
    rw [if_pos rfl, marks_no (List.nodup_cons.mp nd).1]
    simp
  | C :: l, j + 1, D, nd, h => by
    have h' : l[j]? = some D := h
    have hm : D ∈ l := List.mem_of_getElem? h'
    have n : ¬ C = D := fun e => (List.nodup_cons.mp nd).1 (by rw [e]; exact hm)
    show (if C = D then 1 else 0) :: marks l D = _
    rw [if_neg n, marks_at (List.nodup_cons.mp nd).2 h']
    have hl : (C :: l).length - 1 - (j + 1) = l.length - 1 - j := by
      rw [List.length_cons]
      omega
    rw [hl]
    rfl
end EV2

set_option Elab.async false
set_option linter.all false
set_option maxRecDepth 100000
set_option maxHeartbeats 4000000
/-! Lists put together, isinstance of errors, list comprehensions: what they give. -/
namespace EV2
open PySem PySem.Spec PyProof.Rows L2 Evl
theorem ErrAt.ext {H H' : Hp} {x : V} {D : Addr} (e : Ex H H') (h : ErrAt H x D) : ErrAt H' x D := by
  obtain ⟨a, d, ex, ha, hd⟩ := h
  exact ⟨a, d, ex, e _ _ ha, fun dd z => by
    obtain ⟨fs, q⟩ := hd dd z
    exact ⟨fs, e _ _ q⟩⟩
section
variable {K : PySem.W.Frag} {σ : L2.St} {H : Hp} {ta tb tc te : TE} {x c v : V} {xs ys : List V} {k : Int} {a : Addr}
theorem el_cat (ha : EvL ta σ H xs) (hb : EvL tb σ H ys) (hl : xs.length + ys.length ≤ 100000) : EvL (tOp rCat ta tb) σ H (xs ++ ys) := fun H1 e Q q =>
  ha H1 e _ fun p H2 np e2 hp => hb H2 (e.trans e2) _ fun r H3 nr e3 hr => ⟨p, r, xs, ys, rfl, rfl, e3 _ _ hp, hr, sz_of hl, fun u hu => q u _ (fresh_back (e2.trans e3) hu) ((e2.trans e3).trans (Ex.new hu)) upd_same⟩
/-- the first one an old list -/
theorem el_catV (ha : Ev ta σ H (.ref a)) (h : H a = some (.lst xs)) (hb : EvL tb σ H ys) (hl : xs.length + ys.length ≤ 100000) : EvL (tOp rCat ta tb) σ H (xs ++ ys) := fun H1 e Q q =>
  ha H1 e _ fun H2 e2 => hb H2 (e.trans e2) _ fun r H3 nr e3 hr => ⟨a, r, xs, ys, rfl, rfl, e3 _ _ (e2 _ _ (e _ _ h)), hr, sz_of hl, fun u hu => q u _ (fresh_back (e2.trans e3) hu) ((e2.trans e3).trans (Ex.new hu)) upd_same⟩
/-- [v] * k -/
theorem el_rep1 (ha : EvL ta σ H [v]) (hb : Ev tb σ H (.int k)) (h0 : 0 ≤ k) (h1 : k ≤ 100000) : EvL (tOp rRep ta tb) σ H (List.replicate k.toNat v) := fun H1 e Q q =>
  ha H1 e _ fun p H2 np e2 hp => hb H2 (e.trans e2) _ fun H3 e3 => ⟨p, k, [v], rfl, rfl, e3 _ _ hp, by omega, by omega, by
    show 1 * k.toNat ≤ sizeLine
    exact sz_of (by omega), fun u hu => by
    have z := q u (upd H3 u (.lst (List.replicate k.toNat v))) (fresh_back (e2.trans e3) hu) ((e2.trans e3).trans (Ex.new hu)) upd_same
    have w : (List.replicate k.toNat [v]).flatten = List.replicate k.toNat v := by
      generalize k.toNat = n
      induction n with
      | zero => rfl
      | succ n ih => rw [List.replicate_succ, List.flatten_cons, ih]; rfl
    first
      | (rw [w]; exact z)
      | exact z⟩
/-- isinstance(x, c) of an own error -/
theorem ev_isV {D : Addr} {cv : Value} {b : Bool} (ha : Ev ta σ H x) (hc : Ev tc σ H c) (hx : ErrAt H x D) (C : ExcC K D) (hcv : ∀ u, RelV c u → u = cv) (hk : PySem.W.kitOne K (.ref D) cv = some b) :
    Ev (tCB (rIsV K) (tCons ta (tCons tc tNil))) σ H (.bl b) := fun H1 e Q q =>
  ha H1 e _ fun H2 e2 => hc H2 (e.trans e2) _ fun H3 e3 => ⟨x, c, D, cv, b, rfl, hx.ext ((e.trans e2).trans e3), C, hcv, hk, q H3 (e2.trans e3)⟩
theorem rel_ref {a : Addr} : ∀ u, RelV (.ref a) u → u = .ref a := fun u h => h
theorem rel_ty {n : String} : ∀ u, RelV (.ty n) u → u = .type n := fun u h => h
end
end EV2
namespace EV2
open PySem PySem.Spec PyProof.Rows L2 Evl
theorem et_yes {σ : L2.St} {H : Hp} : EvT tYes σ H true := fun H1 _ _ q => q H1 (Ex.refl H1)
theorem given_map {α : Type} (l : List α) (g : α → V) (d : V) : given l.length (fun _ => true) (fun i => (l[i]?.map g).getD d) = l.map g := by
  unfold given
  rw [List.filter_eq_self.mpr (fun _ _ => rfl)]
  apply List.ext_getElem?
  intro i
  rw [List.getElem?_map, List.getElem?_map]
  by_cases h : i < l.length
  · rw [List.getElem?_range h, List.getElem?_eq_getElem h]
    simp [h]
  · rw [List.getElem?_eq_none (by rw [List.length_range]; omega), List.getElem?_eq_none (by omega)]
    rfl
/-- [e for x in xs] where e of each item is known -/
theorem el_lcM {K : PySem.W.Frag} {σ : L2.St} {H : Hp} {te tl : TE} {α : Type} {a : Addr} {j : Nat} {vs : List Nat} (l : List α) (y g : α → V) (h : Ev tl σ H (.ref a)) (hx : SqL K H a (l.map y)) (hz : l.length ≤ 40000) (hw : ∀ x, wipe ((wipe σ vs).set j (some x)) vs = wipe σ vs)
    (he : ∀ (u : α) H1, Ex H H1 → u ∈ l → Ev te ((wipe σ vs).set j (some (y u))) H1 (g u)) : EvL (tLc (iList K tl) (gName j) tYes te vs) σ H (l.map g) := by
  have z := el_lcL (K := K) (te := te) (t := tYes) (j := j) (vs := vs) (fun _ => true) (fun i => (l[i]?.map g).getD .non) h hx (by rw [List.length_map]; exact hz) hw (fun _ _ _ _ _ => et_yes) (fun i x H1 e1 hi _ => by
    rw [List.getElem?_map] at hi
    cases q : l[i]? with
    | none => rw [q] at hi; cases hi
    | some u =>
      rw [q] at hi
      have e2 : y u = x := Option.some.inj hi
      rw [← e2]
      exact he u H1 e1 (List.mem_of_getElem? q))
  rw [List.length_map, given_map] at z
  exact z
/-- int(b), b a truth -/
theorem ev_intB {σ : L2.St} {H : Hp} {ta : TE} {b : Bool} (h : Ev ta σ H (.bl b)) : Ev (tCB (fun xs H Q => (∃ i, xs = [V.int i] ∧ Q (.int i) H) ∨ ∃ k, xs = [V.bl k] ∧ Q (.int (if k then 1 else 0)) H) (tCons ta tNil)) σ H (.int (if b then 1 else 0)) := fun H1 e Q q =>
  h H1 e _ fun H2 e2 => .inr ⟨b, rfl, q H2 e2⟩
theorem ev_intI {σ : L2.St} {H : Hp} {ta : TE} {i : Int} (h : Ev ta σ H (.int i)) : Ev (tCB (fun xs H Q => (∃ i, xs = [V.int i] ∧ Q (.int i) H) ∨ ∃ k, xs = [V.bl k] ∧ Q (.int (if k then 1 else 0)) H) (tCons ta tNil)) σ H (.int i) := fun H1 e Q q =>
  h H1 e _ fun H2 e2 => .inl ⟨i, rfl, q H2 e2⟩
end EV2

set_option Elab.async false
set_option linter.all false
set_option maxRecDepth 100000
set_option maxHeartbeats 4000000
/-! Lists of errors; equal lists of ints. -/
namespace EV2
open PySem PySem.Spec PyProof.Rows L2 Evl
abbrev ErrsAt (H : Hp) : List V → List Addr → Prop := Paired (ErrAt H)
theorem ErrsAt.ext {H H' : Hp} (e : Ex H H') : ∀ {xs : List V} {Ds : List Addr}, ErrsAt H xs Ds → ErrsAt H' xs Ds
  | _, _, .nil => .nil
  | _, _, .cons r t => .cons (ErrAt.ext e r) (ErrsAt.ext e t)
theorem errs_app {H : Hp} : ∀ {xs ys : List V} {Ds Es : List Addr}, ErrsAt H xs Ds → ErrsAt H ys Es → ErrsAt H (xs ++ ys) (Ds ++ Es)
  | _, _, _, _, .nil, t => t
  | _, _, _, _, .cons r s, t => .cons r (errs_app s t)
theorem errs_mem {H : Hp} : ∀ {xs : List V} {Ds : List Addr}, ErrsAt H xs Ds → ∀ x ∈ xs, ∃ D ∈ Ds, ErrAt H x D
  | _, _, .nil, x, h => by cases h
  | _, _, .cons (a := y) (b := D) r t, x, h => by
    rcases List.mem_cons.mp h with e | h
    · exact ⟨_, List.mem_cons_self .., by rw [e]; exact r⟩
    · obtain ⟨D', m, q⟩ := errs_mem t x h
      exact ⟨D', List.mem_cons_of_mem _ m, q⟩
theorem errs_at {H : Hp} : ∀ {xs : List V} {Ds : List Addr} {i : Nat} {D : Addr}, ErrsAt H xs Ds → Ds[i]? = some D → ∃ x, xs[i]? = some x ∧ ErrAt H x D
  | _, _, i, D, .nil, h => by simp at h
  | _, _, 0, D, .cons r t, h => by
    have e := Option.some.inj h
    subst e
    exact ⟨_, rfl, r⟩
  | _, _, i + 1, D, .cons r t, h => errs_at (i := i) t h
/-- a new error of the class D -/
def EvE (te : TE) (σ : L2.St) (H : Hp) (D : Addr) : Prop := ∀ H1, Ex H H1 → ∀ Q : VK, (∀ x H2, Ex H1 H2 → ErrAt H2 x D → Q x H2) → te σ H1 Q
def EvEs (ta : TA) (σ : L2.St) (H : Hp) (Ds : List Addr) : Prop := ∀ H1, Ex H H1 → ∀ Q : List V → Hp → Prop, (∀ xs H2, Ex H1 H2 → ErrsAt H2 xs Ds → Q xs H2) → ta σ H1 Q
section
variable {K : PySem.W.Frag} {σ : L2.St} {H : Hp} {te : TE} {ta tk tr : TA} {C D : Addr} {Ds Es : List Addr} {f g : Str} {u v : V} {xs : List V} {l : Addr} {i : Nat} {tz : TS} {En : Ends}
theorem ees_nil : EvEs tNil σ H [] := fun H1 _ _ q => q [] H1 (Ex.refl H1) .nil
theorem ees_cons (h : EvE te σ H D) (hr : EvEs tr σ H Ds) : EvEs (tCons te tr) σ H (D :: Ds) := fun H1 e Q q =>
  h H1 e _ fun x H2 e2 hx => hr H2 (e.trans e2) _ fun xs H3 e3 ht => q (x :: xs) H3 (e2.trans e3) (.cons (hx.ext e3) ht)
theorem ee_0 : EvE (tMk0 C) σ H C := fun H1 e Q q => fun a ha => q (.ref a) _ (Ex.new ha) ⟨a, none, rfl, upd_same, fun dd z => by cases z⟩
theorem ee_1 {gV : List V → List V → List V} (ha : EvA ta σ H [v]) (hg : ∀ a : V, gV [a, v] [] = [a, v]) : EvE (tMkV C 1 0 (spI1 C f) gV ta tNil) σ H C := fun H1 e Q q =>
  ha H1 e _ fun H2 e2 => ⟨rfl, rfl, by decide, by
    intro a ha
    rw [hg]
    exact rd_e1 (Q := Q) (fun a d H3 ha he hd s => q (.ref a) H3 (e2.trans s) ⟨a, some d, rfl, he, fun dd z => by cases z; exact ⟨_, hd⟩⟩) a ha⟩
theorem ee_2 {gV : List V → List V → List V} (ha : EvA ta σ H [v, u]) (hg : ∀ a : V, gV [a, v, u] [] = [a, v, u]) : EvE (tMkV C 2 0 (spI2 C f g) gV ta tNil) σ H C := fun H1 e Q q =>
  ha H1 e _ fun H2 e2 => ⟨rfl, rfl, by decide, by
    intro a ha
    rw [hg]
    exact rd_e2 (Q := Q) (fun a d H3 ha he hd s => q (.ref a) H3 (e2.trans s) ⟨a, some d, rfl, he, fun dd z => by cases z; exact ⟨_, hd⟩⟩) a ha⟩
/-- made = made + [ .. ] -/
theorem q_more (hi : σ[i]? = some (some (.ref l))) (hl : H l = some (.lst xs)) (hE : ErrsAt H xs Ds) (ha : EvEs ta σ H Es) (hz : xs.length + Es.length ≤ 100000)
    (k : ∀ l' H' ys, Ex H H' → H' l' = some (.lst ys) → ys.length = xs.length + Es.length → ErrsAt H' ys (Ds ++ Es) → tz En (σ.set i (some (.ref l'))) H') : tSeq (tAsg (tOp rCat (tVar i) (tLst ta)) (gName i)) tz En σ H := by
  refine ⟨_, hi, ha H (Ex.refl H) _ fun ys H2 e2 hY => ?_⟩
  have z := Paired.length hY
  refine ⟨sz_of (by omega), fun p hp => ?_⟩
  have e3 := e2.trans (Ex.new (o := .lst ys) hp)
  refine ⟨l, p, xs, ys, rfl, rfl, e3 _ _ hl, upd_same, sz_of (by omega), fun r hr => ?_⟩
  have e4 := e3.trans (Ex.new (o := .lst (xs ++ ys)) hr)
  exact k r _ (xs ++ ys) e4 upd_same (by rw [List.length_append, z]) (errs_app (hE.ext e4) (hY.ext ((Ex.new (o := .lst ys) hp).trans (Ex.new (o := .lst (xs ++ ys)) hr))))
end
theorem eqv_ints : ∀ (xs ys : List Int), PyData.eqvAll (xs.map PyData.int) (ys.map PyData.int) = decide (xs = ys)
  | [], [] => rfl
  | [], _ :: _ => rfl
  | _ :: _, [] => rfl
  | x :: xs, y :: ys => by
    show (PyData.eqv (.int x) (.int y) && PyData.eqvAll (xs.map PyData.int) (ys.map PyData.int)) = decide (x :: xs = y :: ys)
    rw [eqv_ints xs ys]
    show ((x == y) && decide (xs = ys)) = decide (x :: xs = y :: ys)
    by_cases h : x = y <;> by_cases h2 : xs = ys <;> simp [h, h2]
theorem rv_ints {K : PySem.W.Frag} {H : Hp} {p q : Addr} {xs ys : List Int} (hp : SqL K H p (xs.map V.int)) (hq : SqL K H q (ys.map V.int)) : RV (rEqD K) (.ref p) (.ref q) H (.bl (decide (xs = ys))) := fun H1 e Q k =>
  ⟨_, _, .lst (ex_l e hp) (Pen.dp_ints xs), .lst (ex_l e hq) (Pen.dp_ints ys), Pen.shaped_ints xs, Pen.shaped_ints ys, by
    show Q (.bl (PyData.eqvAll (xs.map PyData.int) (ys.map PyData.int))) H1
    rw [eqv_ints]
    exact k H1 (Ex.refl H1)⟩
/-- all(xs) of a new list of truths -/
theorem ev_all {K : PySem.W.Frag} {σ : L2.St} {H : Hp} {te : TE} {bs : List Bool} (h : EvL te σ H (bs.map V.bl)) : Ev (tCB (rAll K) (tCons te tNil)) σ H (.bl (bs.all id)) := fun H1 e Q q =>
  h H1 e _ fun p H2 _ e2 hp => ⟨p, bs, rfl, SqL.of hp, q H2 e2⟩
theorem all_true {α : Type} : ∀ (xs : List α), (xs.map fun _ => true).all id = true
  | [] => rfl
  | _ :: xs => by
    show (true && (xs.map fun _ => true).all id) = true
    rw [all_true xs]
    rfl
/-- len(x) -/
def rLenX (K : PySem.W.Frag) : List V → Hp → VK → Prop := fun xs H Q => ∃ x n, xs = [x] ∧ LenV K x H n ∧ Q (.int n) H
theorem ev_lenX {K : PySem.W.Frag} {σ : L2.St} {H : Hp} {ta : TE} {a : Addr} {xs : List V} (ha : Ev ta σ H (.ref a)) (h : SqL K H a xs) : Ev (tCB (rLenX K) (tCons ta tNil)) σ H (.int (xs.length : Int)) := fun H1 e Q q =>
  ha H1 e _ fun H2 e2 => ⟨_, xs.length, rfl, .inl ⟨xs, ex_l (e.trans e2) h, rfl⟩, q H2 e2⟩
theorem el_eq {te : TE} {σ : L2.St} {H : Hp} {xs ys : List V} (h : EvL te σ H xs) (e : xs = ys) : EvL te σ H ys := by
  rw [← e]
  exact h
end EV2

set_option Elab.async false
set_option linter.all false
set_option maxRecDepth 100000
set_option maxHeartbeats 4000000
/-! Raising own errors: without an __init__ and arguments, with keywords. -/
namespace EV2
open PySem PySem.Spec PyProof.Rows L2 Evl
/-- C(), made to be raised -/
theorem pmk_0 {X : Cx} {C : Addr} {bmB : List Value} {B newId initId : String} {x : Str} {p pos : Pos} (F : ExcBaseFacts B newId initId bmB) (q : PySem.W.excIn X.K C bmB newId = true) (gC : X.mg x = some (.ref C)) (kC : PySem.W.keepIn X.K (.ref C) = true) (r : Raises X (.ref C)) (hg : Gl X x)
    (hdb : (x == ("__debug__" : Str)) = false := by decide) : PMk X (.Call (.Name x p) [] [] pos) (fun _ H Q => Q (.ref C) none H) := by
  intro pins s σ H Q I h
  refine wpAny_Call_Name_kw (ld_glob I hg gC ?_ hdb)
  refine PySem.W.callWith_K0 I.kIn kC ?_
  show wpAny _ _ (call (.ref C) []) _ _ _
  obtain ⟨bm, N, nm, qn, bs, hdct, sn, sub, ab, col, dd, k0, k1, k2, k3, k5, mN, hC, hN, hni, T⟩ := exc_obj I.kIn q
  refine wpAny_call_exc_subT F T hC hN hni (fun h' e hm => ?_) (by show 0 ≤ sizeLine; rw [sizeLine_eq]; omega)
  exact mk_of I hm r h (I.hok.gone hm.new)
/-- C(e, .., k = v, ..), made to be raised -/
def tMkR (C : Addr) (n m : Nat) (sp : Sp) (gV : List V → List V → List V) (t tk : TA) : L2.St → Hp → XK → Prop := fun σ H Q => t σ H fun vs H1 => tk σ H1 fun zs H2 => vs.length = n ∧ zs.length = m ∧ n ≤ 1000 ∧
  ∀ a, H2 a = none → sp (gV (.ref a :: vs) zs) (upd H2 a (exo a C none))
    (fun v H3 => v = .non ∧ ∃ (d : Addr) (fs : List (Str × V)), H3 a = some (exo a C (some d)) ∧ H3 d = some (exd d fs) ∧ H2 d = none ∧ Q (.ref C) (some d) (upd (del H3 a) d (.xd fs))) fun _ _ _ => False
section
variable {X : Cx} {CX : CXT} {k n : Nat} {fI C : Addr} {fd : FuncData} {ps ks : List Str} {sp : Sp} {x : Str} {p pos : Pos} {e : Expr} {es : List Expr} {kws : List Keyword} {t tk : TA} {g : List Value → List Value → List Value} {gV : List V → List V → List V}
theorem run_mkR {pins : List (Addr × Obj)} {σ : L2.St} {H : Hp} {s : Shared} {Q : XK} {us ws : List Value} {vs zs : List V} (T : ErrC X.K C fI) (F : FnOk X.prog X.w X.K X.mg X.base CX k fI fd ps sp) (hr : Room (k + 1) X.A) (hb : KBn X.K fd ps (n + 1) ks g gV)
    (hx : Passes CX X fun _ _ _ => False) (I : Inv X pins σ H s) (r : Vals vs us) (rz : Vals zs ws) (l1 : vs.length = n) (l2 : zs.length = ks.length) (hn : n ≤ 1000)
    (h : ∀ a, H a = none → sp (gV (.ref a :: vs) zs) (upd H a (exo a C none))
      (fun v H3 => v = .non ∧ ∃ (d : Addr) (fs : List (Str × V)), H3 a = some (exo a C (some d)) ∧ H3 d = some (exd d fs) ∧ H d = none ∧ Q (.ref C) (some d) (upd (del H3 a) d (.xd fs))) fun _ _ _ => False) :
    wpAny (model X.prog X.w) X.A (call (.ref C) us (ks.zip ws)) (MkP X pins σ Q) X.xe s := by
  obtain ⟨nm, q, N, bs, bm, sn, sub, ab, col, dd, k0, k1, k2, k3, k5, hC, hbm⟩ := T.ox.cls
  obtain ⟨hp, gg, dr, tt, os⟩ := s
  have hsz : hp.objs.size ≤ hp.objs.size + 1 := Nat.le_succ _
  have nn : H (hp.objs.size + 1) = none := I.hok.fresh hsz
  have hq := h (hp.objs.size + 1) nn
  have kk : ∀ b o, hp.get? b = some o → ((hp.push (PySem.W.kdv_tup us)).push (PySem.HandSPX.excO C hp.objs.size)).get? b = some o := fun b o e => Heap.get?_push_of_some _ (Heap.get?_push_of_some _ e)
  have gt : ((hp.push (PySem.W.kdv_tup us)).push (PySem.HandSPX.excO C hp.objs.size)).get? (hp.objs.size + 1) = some (PySem.HandSPX.excO C hp.objs.size) := by heap_get
  have J : Inv X pins σ (upd H (hp.objs.size + 1) (exo (hp.objs.size + 1) C none)) ⟨(hp.push (PySem.W.kdv_tup us)).push (PySem.HandSPX.excO C hp.objs.size), gg, dr, tt, os⟩ :=
    I.laid (t' := tt) (a := hp.objs.size + 1) (o := exo (hp.objs.size + 1) C none) (h' := (hp.push (PySem.W.kdv_tup us)).push (PySem.HandSPX.excO C hp.objs.size)) kk hsz (exo_ok gt)
  have r1 : Vals (V.ref (hp.objs.size + 1) :: vs) (Value.ref (hp.objs.size + 1) :: us) := .cons rfl r
  have r2 := hb.rel r1 rz
  have n1 : (Value.ref (hp.objs.size + 1) :: us).length = n + 1 := by rw [List.length_cons, ← r.length, l1]
  have lu : us.length ≤ sizeLine := by
    rw [← r.length, l1, sizeLine_eq]
    omega
  refine wpAny_call (PySem.EV.call_kw PySem.F.excBase_ValueError (fun Y => PySem.HandSPX.refsVE_contains Y bm hbm) (I.kIn _ _ hC) (PySem.W.looks_findIn I.kIn T.ini) (fun me => PySem.W.bind_fn I.kIn me T.ty) lu
    (codeAny_mono (FnOk.run F _ X.stack _ _ ⟨Value.ref (hp.objs.size + 1) :: us, ks.zip ws⟩ (g (Value.ref (hp.objs.size + 1) :: us) ws) _ _ (fun _ _ _ => False) (hr.make C us (ks.zip ws)) (J.env0.make C us (ks.zip ws)) (hb.to _ (Value.ref (hp.objs.size + 1) :: us) ws J.kIn n1 (rz.length.symm.trans l2)) r2 hq) fun r s' hq' => ?_))
  cases r with
  | error e => exact hx pins σ _ _ e s' J hq'
  | ok fl =>
    cases fl with
    | ret u =>
      obtain ⟨v, H2, os2, bare2, un2, hok2, rv, ev, d, fs, ea, ed, hd1, q2⟩ := hq'
      subst ev
      obtain ⟨h2, g2, d2, t2, os'⟩ := s'
      exact ⟨rv, mk_end (raises_own T.ox.exC T.ox.tyC) I hsz kk un2 hok2 os2 bare2 ea ed hd1 q2⟩
    | next => exact False.elim hq'
    | brk => exact False.elim hq'
    | cont => exact False.elim hq'
theorem pmk_R (T : ErrC X.K C fI) (F : FnOk X.prog X.w X.K X.mg X.base CX k fI fd ps sp) (hr : Room (k + 1) X.A) (hg : Gl X x) (hm : X.mg x = some (.ref C)) (hb : KBn X.K fd ps (n + 1) [] g gV) (hx : Passes CX X fun _ _ _ => False) (ha : PA X (e :: es) t)
    (hdb : (x == ("__debug__" : Str)) = false := by decide) (he : starEach (e :: es) X.env = (false, eval e X.env) :: starEach es X.env := by rfl) (hpl : (backTo pos (starEach es X.env)).any (·.1) = false := by rfl) :
    PMk X (.Call (.Name x p) (e :: es) [] pos) (tMkR C n 0 sp gV t tNil) := by
  intro pins s σ H Q I h
  refine wpAny_Call_Name_kw (ld_glob I hg hm ?_ hdb)
  refine PySem.W.callWith_K (h₀ := X.base) I.ok.mod.kin T.ox.kC (thn (ha.run pos pins s σ H _ I h) fun us s1 ⟨vs, H1, I1, r, l1, _, hn, q⟩ => ⟨I1.kIn, ?_⟩) he hpl
  exact run_mkR (ks := []) (ws := []) (zs := []) T F hr hb hx I1 r .nil l1 rfl hn q
theorem pmk_RK0 (T : ErrC X.K C fI) (F : FnOk X.prog X.w X.K X.mg X.base CX k fI fd ps sp) (hr : Room (k + 1) X.A) (hg : Gl X x) (hm : X.mg x = some (.ref C)) (hb : KBn X.K fd ps 1 ks g gV) (hx : Passes CX X fun _ _ _ => False) (hkw : PK X kws tk)
    (hall : (backToKw pos (keywordEach kws X.env)).all (·.1.isSome) = true := by rfl) (hks : (backToKw pos (keywordEach kws X.env)).filterMap (·.1) = ks := by rfl) (hdb : (x == ("__debug__" : Str)) = false := by decide)
    (hpl : ((backTo pos (starEach [] X.env)).any (·.1) || (backToKw pos (keywordEach kws X.env)).any (·.1.isNone)) = false := by rfl) :
    PMk X (.Call (.Name x p) [] kws pos) (tMkR C 0 ks.length sp gV tNil tk) := by
  intro pins s σ H Q I h
  refine wpAny_Call_Name_kw (ld_glob I hg hm ?_ hdb)
  refine PySem.W.callWith_KW0 (h₀ := X.base) I.ok.mod.kin T.ox.kC hall ?_ hpl
  refine thn (hkw.run pos pins s σ H _ I h) fun ws s2 ⟨zs, H2, I2, rz, l1, l2, hn, q2⟩ => ⟨I2.kIn, ?_⟩
  rw [hks]
  exact run_mkR (us := []) (vs := []) T F hr hb hx I2 .nil rz rfl l2 hn q2
end
/-- what stands behind raise C(..) of an error with one field, with two: the error's own dict at d -/
theorem rr_e1 {H : Hp} {Q : XK} {E : XK} {C : Addr} {f : Str} {v : V} (k : ∀ d H', H d = none → Same H H' → H' d = some (.xd [(f, v)]) → Q (.ref C) (some d) H') :
    ∀ a, H a = none → spI1 C f [.ref a, v] (upd H a (exo a C none)) (fun z H3 => z = .non ∧ ∃ (d : Addr) (fs : List (Str × V)), H3 a = some (exo a C (some d)) ∧ H3 d = some (exd d fs) ∧ H d = none ∧ Q (.ref C) (some d) (upd (del H3 a) d (.xd fs))) E := fun a ha =>
  ⟨a, v, rfl, upd_same, fun d hd ne => ⟨rfl, d, _, upd_same, by rw [upd_ne ne, upd_same], by rw [upd_ne ne] at hd; exact hd, by
    have hd' : H d = none := by rw [upd_ne ne] at hd; exact hd
    refine k d _ hd' (fun b o e => ?_) upd_same
    have n1 : b ≠ a := ne_of_none e ha
    have n2 : b ≠ d := ne_of_none e hd'
    rw [upd_ne n2, del_ne n1, upd_ne n1, upd_ne n2, upd_ne n1]
    exact e⟩⟩
theorem rr_e2 {H : Hp} {Q : XK} {E : XK} {C : Addr} {f g : Str} {v u : V} (k : ∀ d H', H d = none → Same H H' → H' d = some (.xd [(g, u), (f, v)]) → Q (.ref C) (some d) H') :
    ∀ a, H a = none → spI2 C f g [.ref a, v, u] (upd H a (exo a C none)) (fun z H3 => z = .non ∧ ∃ (d : Addr) (fs : List (Str × V)), H3 a = some (exo a C (some d)) ∧ H3 d = some (exd d fs) ∧ H d = none ∧ Q (.ref C) (some d) (upd (del H3 a) d (.xd fs))) E := fun a ha =>
  ⟨a, v, u, rfl, upd_same, fun d hd ne => ⟨rfl, d, _, by rw [upd_ne (Ne.symm ne), upd_same], upd_same, by rw [upd_ne ne] at hd; exact hd, by
    have hd' : H d = none := by rw [upd_ne ne] at hd; exact hd
    refine k d _ hd' (fun b o e => ?_) upd_same
    have n1 : b ≠ a := ne_of_none e ha
    have n2 : b ≠ d := ne_of_none e hd'
    rw [upd_ne n2, del_ne n1, upd_ne n2, upd_ne n1, upd_ne n2, upd_ne n1]
    exact e⟩⟩
/-- except S, C right below S -/
theorem exm_below {K : PySem.W.Frag} {S C : Addr} (h : LineOf K S C) (bS : PySem.W.subIn K (.ref S) (.type "BaseException") = some true) (dS : PySem.W.hasDictIn K S = true) (tS : PySem.W.typeIn K (.ref S) = some (.type "type")) : PySem.W.exmOne K (.ref C) (.ref S) = some true :=
  PySem.W.exm_ref bS dS tS (by
    show PySem.W.mroIn K C (.ref S) = some true
    rw [h.mro]
    congr 1
    simp only [BM, List.contains_cons]
    rw [show (Value.ref S == Value.ref S) = true from by rw [ref_beq]; simp]
    simp)
end EV2

set_option Elab.async false
set_option linter.all false
set_option maxRecDepth 100000
set_option maxHeartbeats 4000000
/-! The drawn values of a law: plain ones, small tuples and lists, an empty dict; compared with themselves. -/
namespace EV2
open PySem PySem.Spec PyProof.Rows L2 Evl
/-- != of data or of dicts that hold the same -/
def rNeAny (K : PySem.W.Frag) : R2 := fun x y H Q => rNeD K x y H Q ∨ rNeDA x y H Q
theorem op_neAny {X : Cx} (hu : X.A.units + 64 < cLine) : OpR X (compareOp .NotEq) (rNeAny X.K) := by
  intro pins s σ H x y v u Q I rx ry h
  rcases h with h | h
  · exact op_neD hu pins s σ H x y v u Q I rx ry h
  · exact op_ne_dictA (by omega) pins s σ H x y v u Q I rx ry h
inductive Gd (H : Hp) : V → Prop
  | non : Gd H .non
  | bl (b : Bool) : Gd H (.bl b)
  | int (i : Int) : Gd H (.int i)
  | str (s : Str) : SeqAt.shaped (.str s) = true → Gd H (.str s)
  | two {a : Addr} (i j : Int) : H a = some (.tup [.int i, .int j]) → Gd H (.ref a)
  | one {a : Addr} (s : Str) : SeqAt.shaped (.list [.str s]) = true → H a = some (.lst [.str s]) → Gd H (.ref a)
  | emp {a : Addr} : H a = some (.dK []) → Gd H (.ref a)
  | deep {a b : Addr} (i j k : Int) : H a = some (.tup [.ref b, .int k]) → H b = some (.tup [.int i, .int j]) → Gd H (.ref a)
theorem Gd.ext {H H' : Hp} {v : V} (e : Ex H H') (g : Gd H v) : Gd H' v := by
  cases g with
  | non => exact .non
  | bl b => exact .bl b
  | int i => exact .int i
  | str s hs => exact .str s hs
  | two i j h => exact .two i j (e _ _ h)
  | one s hs h => exact .one s hs (e _ _ h)
  | emp h => exact .emp (e _ _ h)
  | deep i j k h h2 => exact .deep i j k (e _ _ h) (e _ _ h2)
theorem Gd.sib {p : Addr} {q : Key × V} {kv : List (Key × V)} {H H' : Hp} {v : V} (hp : H p = some (.dK (q :: kv))) (e : Pen.Sib p H H') (g : Gd H v) : Gd H' v := by
  cases g with
  | non => exact .non
  | bl b => exact .bl b
  | int i => exact .int i
  | str s hs => exact .str s hs
  | two i j h => exact .two i j (e _ _ (ne_of h hp (by intro z; cases z)) h)
  | one s hs h => exact .one s hs (e _ _ (ne_of h hp (by intro z; cases z)) h)
  | emp h => exact .emp (e _ _ (ne_of h hp (by intro z; cases z)) h)
  | deep i j k h h2 => exact .deep i j k (e _ _ (ne_of h hp (by intro z; cases z)) h) (e _ _ (ne_of h2 hp (by intro z; cases z)) h2)
section
variable {K : PySem.W.Frag} {H : Hp} {v : V}
theorem rv_data {d : PyData} (h : ∀ H1, Ex H H1 → Dp K H1 v d) (hs : SeqAt.shaped d = true) (he : PyData.eqv d d = true) : RV (rNeAny K) v v H (.bl false) := fun H1 e Q q =>
  .inl ⟨d, d, h H1 e, h H1 e, hs, hs, by
    rw [he]
    exact q H1 (Ex.refl H1)⟩
theorem rv_self (g : Gd H v) : RV (rNeAny K) v v H (.bl false) := by
  cases g with
  | non => exact rv_data (fun _ _ => .non) rfl rfl
  | bl b => exact rv_data (fun _ _ => .bl b) rfl (by cases b <;> rfl)
  | int i => exact rv_data (fun _ _ => .int i) rfl (by show (i == i) = true; simp)
  | str s hs => exact rv_data (fun _ _ => .str s) hs (by show (s == s) = true; simp)
  | two i j h => exact rv_data (fun H1 e => .tup (st_of (e _ _ h)) (.cons (.int i) (.cons (.int j) .nil))) rfl (by show ((i == i) && ((j == j) && true)) = true; simp)
  | one s hs h => exact rv_data (fun H1 e => .lst (sq_of (e _ _ h)) (.cons (.str s) .nil)) hs (by show ((s == s) && true) = true; simp)
  | emp h => exact fun H1 e Q q => .inr ⟨_, _, [], [], rfl, rfl, e _ _ h, e _ _ h, rfl, (fun p hp => by cases hp), q H1 (Ex.refl H1)⟩
  | deep i j k h h2 => exact rv_data (fun H1 e => .tup (st_of (e _ _ h)) (.cons (.tup (st_of (e _ _ h2)) (.cons (.int i) (.cons (.int j) .nil))) (.cons (.int k) .nil))) rfl (by show (((i == i) && ((j == j) && true)) && ((k == k) && true)) = true; simp)
theorem gd_ty (g : Gd H v) : ∃ n b, kitB n "bool" = some b ∧ ∀ H1, Ex H H1 → TyX K H1 v (.type n) := by
  cases g with
  | non => exact ⟨"NoneType", false, by decide +kernel, fun _ _ => .base .non⟩
  | bl b => exact ⟨"bool", true, by decide +kernel, fun _ _ => .base (.bl b)⟩
  | int i => exact ⟨"int", false, by decide +kernel, fun _ _ => .base (.int i)⟩
  | str s hs => exact ⟨"str", false, by decide +kernel, fun _ _ => .base (.str s)⟩
  | two i j h => exact ⟨"tuple", false, by decide +kernel, fun _ e => .base (.tup (e _ _ h))⟩
  | one s hs h => exact ⟨"list", false, by decide +kernel, fun _ e => .base (.lst (e _ _ h))⟩
  | emp h => exact ⟨"dict", false, by decide +kernel, fun _ e => .base (.dK (e _ _ h))⟩
  | deep i j k h h2 => exact ⟨"tuple", false, by decide +kernel, fun _ e => .base (.tup (e _ _ h))⟩
end
section
variable {K : PySem.W.Frag} {σ : L2.St} {H : Hp} {ta tb tc te : TE} {v : V} {tr ts : TA} {l : Addr} {xs : List V}
/-- isinstance(v, bool) twice, told apart -/
theorem et_isi (g : Gd H v) (ha : Ev ta σ H v) (hb : Ev tb σ H v) : EvT (tTest (tOp rNe (tCB (rIsi K) (tCons ta (tCons (tC (.ty "bool")) tNil))) (tCB (rIsi K) (tCons tb (tCons (tC (.ty "bool")) tNil))))) σ H false := by
  obtain ⟨n, b, hk, ty⟩ := gd_ty (K := K) g
  have one : ∀ {t : TE}, Ev t σ H v → Ev (tCB (rIsi K) (tCons t (tCons (tC (.ty "bool")) tNil))) σ H (.bl b) := fun h H1 e Q q =>
    h H1 e _ fun H2 e2 => ⟨v, .ty "bool", .type n, .type "bool", b, rfl, .ty "bool", ty H2 (e.trans e2), kit_ty hk, q H2 e2⟩
  have z := ev_op (one ha) (one hb) (rv_ne (x := .bl b) (y := .bl b) rfl)
  refine et_is (et_test z) ?_
  simp
/-- what is made is one of the drawn values -/
def EvG (te : TE) (σ : L2.St) (H : Hp) : Prop := ∀ H1, Ex H H1 → ∀ Q : VK, (∀ v H2, Ex H1 H2 → Gd H2 v → Q v H2) → te σ H1 Q
def EvGs (ta : TA) (σ : L2.St) (H : Hp) (n : Nat) : Prop := ∀ H1, Ex H H1 → ∀ Q : List V → Hp → Prop, (∀ vs H2, Ex H1 H2 → vs.length = n → (∀ v ∈ vs, Gd H2 v) → Q vs H2) → ta σ H1 Q
theorem eg_v (h : Ev te σ H v) (g : Gd H v) : EvG te σ H := fun H1 e Q q => h H1 e _ fun H2 e2 => q v H2 e2 (g.ext (e.trans e2))
theorem eg_c (g : ∀ H, Gd H v) : EvG (tC v) σ H := fun H1 e Q q => q v H1 (Ex.refl H1) (g H1)
theorem eg_two {i j : Int} (h : EvA tr σ H [.int i, .int j]) : EvG (tTup tr) σ H := fun H1 e Q q => h H1 e _ fun H2 e2 => ⟨by show 2 ≤ sizeLine; decide, fun p hp => q _ _ (e2.trans (Ex.new hp)) (.two i j upd_same)⟩
theorem eg_one {s : Str} (hs : SeqAt.shaped (.list [.str s]) = true) (h : EvA tr σ H [.str s]) : EvG (tLst tr) σ H := fun H1 e Q q => h H1 e _ fun H2 e2 => ⟨by show 1 ≤ sizeLine; decide, fun p hp => q _ _ (e2.trans (Ex.new hp)) (.one s hs upd_same)⟩
theorem eg_emp : EvG tDNewK σ H := fun H1 e Q q => fun p hp => q _ _ (Ex.new hp) (.emp upd_same)
theorem eg_deep {i j k : Int} (h : EvU ta σ H [.int i, .int j]) (hb : Ev tb σ H (.int k)) : EvG (tTup (tCons ta (tCons tb tNil))) σ H := fun H1 e Q q =>
  h H1 e _ fun p H2 _ e2 hp => hb H2 (e.trans e2) _ fun H3 e3 => ⟨by show 2 ≤ sizeLine; decide, fun r hr => q _ _ ((e2.trans e3).trans (Ex.new hr)) (.deep i j k upd_same (Ex.new hr _ _ (e3 _ _ hp)))⟩
theorem egs_nil : EvGs tNil σ H 0 := fun H1 _ Q q => q [] H1 (Ex.refl H1) rfl fun v hv => by cases hv
theorem egs_cons {n : Nat} (h : EvG te σ H) (hr : EvGs tr σ H n) : EvGs (tCons te tr) σ H (n + 1) := fun H1 e Q q =>
  h H1 e _ fun v H2 e2 g => hr H2 (e.trans e2) _ fun vs H3 e3 hl hg => q (v :: vs) H3 (e2.trans e3) (by rw [List.length_cons, hl]) fun u hu => by
    rcases List.mem_cons.mp hu with z | z
    · rw [z]
      exact g.ext e3
    · exact hg u z
theorem rd_gs {n : Nat} {Q : VK} (h : EvGs tr σ H n) (hz : n ≤ 100000) (q : ∀ l vs H2, H l = none → Ex H H2 → H2 l = some (.lst vs) → vs.length = n → (∀ v ∈ vs, Gd H2 v) → Q (.ref l) H2) : tLst tr σ H Q :=
  h H (Ex.refl H) _ fun vs H2 e2 hl hg => ⟨sz_of (by omega), fun p hp => q p vs _ (fresh_back e2 hp) (e2.trans (Ex.new hp)) upd_same hl fun v hv => (hg v hv).ext (Ex.new hp)⟩
theorem q_gs {n i : Nat} {tz : TS} {D : Ends} (h : EvGs tr σ H n) (hz : n ≤ 100000) (k : ∀ l vs H2, H l = none → Ex H H2 → H2 l = some (.lst vs) → vs.length = n → (∀ v ∈ vs, Gd H2 v) → tz D (σ.set i (some (.ref l))) H2) : tSeq (tAsg (tLst tr) (gName i)) tz D σ H :=
  rd_gs (Q := fun v H2 => tz D (σ.set i (some v)) H2) h hz k
theorem q_asgK {i : Nat} {tz : TS} {D : Ends} (h : te σ H fun v H1 => tz D (σ.set i (some v)) H1) : tSeq (tAsg te (gName i)) tz D σ H := h
def rMin2 : List V → Hp → VK → Prop := fun xs H Q => ∃ i j, xs = [.int i, .int j] ∧ Q (.int (if j < i then j else i)) H
theorem ev_min2 {i j : Int} (ha : Ev ta σ H (.int i)) (hb : Ev tb σ H (.int j)) : Ev (tCB rMin2 (tCons ta (tCons tb tNil))) σ H (.int (if j < i then j else i)) := fun H1 e Q q =>
  ha H1 e _ fun H2 e2 => hb H2 (e.trans e2) _ fun H3 e3 => ⟨i, j, rfl, q H3 (e2.trans e3)⟩
end
end EV2

set_option Elab.async false
set_option linter.all false
set_option maxRecDepth 100000
set_option maxHeartbeats 4000000
/-! Texts of ascii signs: upper, lower, letters, lists of them. -/
namespace TX
open PySem PySem.Spec PyProof.Rows L2 Evl
abbrev S (l : List Nat) : Str := ⟨l.toArray⟩
theorem len_S (l : List Nat) : (S l).length = l.length := by
  show l.toArray.size = l.length
  simp
theorem app_S (a b : List Nat) : S a ++ S b = S (a ++ b) := by
  show (⟨a.toArray ++ b.toArray⟩ : Str) = ⟨(a ++ b).toArray⟩
  simp
theorem S_inj {a b : List Nat} (h : S a = S b) : a = b := by
  have h2 : a.toArray = b.toArray := congrArg Str.cps h
  have h3 := congrArg Array.toList h2
  simpa using h3
def up (c : Nat) : Nat := if 97 ≤ c ∧ c ≤ 122 then c - 32 else c
def low (c : Nat) : Nat := if 65 ≤ c ∧ c ≤ 90 then c + 32 else c
def let1 (c : Nat) : Bool := decide (65 ≤ up c ∧ up c ≤ 90)
def A26 : Str := "ABCDEFGHIJKLMNOPQRSTUVWXYZ"
theorem up_of : ∀ c, c < 128 → Unicode.upperOf c = [up c] := by decide +kernel
theorem low_of : ∀ c, c < 128 → Txt.lower (S [c]) = S [low c] := by decide +kernel
theorem alpha_of : ∀ c, c < 128 → Unicode.isAlpha c = let1 c := by decide +kernel
theorem in_of : ∀ c, c < 128 → decide (c ∈ A26.cps.toList) = decide (65 ≤ c ∧ c ≤ 90) := by decide +kernel
theorem ix_of : ∀ c, c < 128 → 65 ≤ c → c ≤ 90 → Txt.index0 A26 (S [c]) = some (c - 65) := by decide +kernel
theorem at_of : ∀ c : Nat, c < 26 → atI A26.cps.toList (c : Int) = (some (65 + c) : Option Nat) := by decide +kernel
theorem up_lt {c : Nat} (h : c < 128) : up c < 128 := by
  unfold up
  split <;> omega
theorem up_S {l : List Nat} (h : ∀ c ∈ l, c < 128) : Txt.upper (S l) = S (l.map up) := by
  have e : ∀ l : List Nat, (placed (S l) fun _ c => Unicode.upperOf c) = (l.flatMap Unicode.upperOf).toArray := fun l => by
    have m : (l.toArray.mapIdx fun (_ : Nat) c => (Unicode.upperOf c).toArray) = (l.map fun c => (Unicode.upperOf c).toArray).toArray := by
      apply Array.ext_getElem?
      intro i
      simp
    show (l.toArray.mapIdx fun (_ : Nat) c => (Unicode.upperOf c).toArray).flatten = _
    rw [m]
    apply Array.toList_inj.mp
    rw [Array.toList_flatten]
    simp only [List.map_map, List.flatMap, List.map_toArray]
    congr 1
  have e2 : l.flatMap Unicode.upperOf = l.map up := by
    induction l with
    | nil => rfl
    | cons x l ih =>
      rw [List.flatMap_cons, up_of x (h x (List.mem_cons_self ..)), ih fun c hc => h c (List.mem_cons_of_mem _ hc)]
      rfl
  show (⟨placed (S l) fun _ c => Unicode.upperOf c⟩ : Str) = _
  rw [e, e2]
theorem alpha_S {l : List Nat} (h : ∀ c ∈ l, c < 128) : Txt.isalpha (S l) = (decide (0 < l.length) && l.all let1) := by
  unfold Txt.isalpha
  rw [len_S]
  congr 1
  show l.toArray.all Unicode.isAlpha = _
  rw [List.all_toArray]
  induction l with
  | nil => rfl
  | cons x l ih =>
    rw [List.all_cons, List.all_cons, alpha_of x (h x (List.mem_cons_self ..)), ih fun c hc => h c (List.mem_cons_of_mem _ hc)]
theorem ascii_S {l : List Nat} (h : ∀ c ∈ l, c < 128) : Txt.isascii (S l) = true := by
  show l.toArray.all (fun c => c < 128) = true
  rw [List.all_toArray]
  exact List.all_eq_true.mpr fun c hc => decide_eq_true (h c hc)

/-! ### lists of signs, walks over texts -/
abbrev sg (c : Nat) : V := .str (S [c])
def rLstS : List V → Hp → VK → Prop := fun xs H Q => ∃ z : Str, xs = [.str z] ∧ z.length ≤ sizeLine ∧ ∀ l, H l = none → Q (.ref l) (upd H l (.lst (z.cps.toList.map sg)))
theorem call_listS {X : Cx} (hc : X.calm = true) : CallR X (.type "list") rLstS := by
  intro pins s σ H xs us Q I r h
  obtain ⟨z, rfl, hz, q⟩ := h
  obtain ⟨u, rfl, t, rfl⟩ := vals1 r
  refine call_list_str (I.ok.hd hc) z t (fun h' tk acc c' hk e hi => ?_) hz
  refine ⟨.ref s.heap.objs.size, upd H s.heap.objs.size (.lst (z.cps.toList.map sg)), I.laid hk (Nat.le_refl _) ⟨by rw [List.length_map]; exact hz, acc.toList, c', ?_, by rw [Array.toArray_toList]; exact e⟩, rfl, q _ (I.hok.fresh (Nat.le_refl _))⟩
  refine vals_of_idx _ _ (by rw [List.length_map, Array.length_toList, Array.length_toList]; exact hi.1) fun j u hj => ?_
  obtain ⟨c, t', hc, rfl⟩ := hi.2 j u (by rw [← Array.getElem?_toList]; exact hj)
  refine ⟨sg c, ?_, ⟨_, rfl⟩⟩
  rw [List.getElem?_map, Array.getElem?_toList, hc]
  rfl
section
variable {K : PySem.W.Frag} {σ : L2.St} {H : Hp} {te ta tb : TE} {g : TG} {tu tz : TS} {D : Ends} {l m : List Nat} {a b : Str}
theorem el_listS (h : Ev te σ H (.str (S l))) (hl : l.length ≤ 100000) : EvL (tCB rLstS (tCons te tNil)) σ H (l.map sg) := fun H1 e Q q =>
  h H1 e _ fun H2 e2 => ⟨S l, rfl, by rw [len_S]; exact sz_of hl, fun p hp => q p _ (fresh_back e2 hp) (e2.trans (Ex.new hp)) upd_same⟩
/-- for c in text -/
theorem q_forS (h : Ev te σ H (.str (S l))) (Pv : Nat → L2.St → Hp → Prop) (h0 : ∀ H1, Ex H H1 → Pv 0 σ H1)
    (hs : ∀ i c σ' H', l[i]? = some c → Pv i σ' H' → g (sg c) σ' H' fun σ2 H2 => tu { D with nx := Pv (i + 1), ct := Pv (i + 1), bk := tz D } σ2 H2) (hd : ∀ σ' H', Pv l.length σ' H' → tz D σ' H') : tSeq (tFor (iStr te) g tu) tz D σ H :=
  h H (Ex.refl H) _ fun H1 e1 => ⟨S l, rfl, fun i m σ' H' => m = l.length - i ∧ i ≤ l.length ∧ Pv i σ' H', ⟨l.length, by simp, Nat.zero_le _, h0 H1 e1⟩, by
    rintro i m σ' H' ⟨rfl, hi, p⟩
    have sz : (S l).cps.size = l.length := len_S l
    by_cases hlt : i < l.length
    · refine .inr ⟨by show i < (S l).cps.size; rw [sz]; exact hlt, Pv (i + 1), fun σ' H' p' => ⟨l.length - (i + 1), by omega, rfl, hlt, p'⟩, fun x H'' y => ?_⟩
      obtain ⟨e, c, hc, ex⟩ := y
      subst e
      subst ex
      refine hs i c _ _ ?_ p
      have hc' : l.toArray[i]? = some c := hc
      simpa using hc'
    · have e : i = l.length := by omega
      subst e
      exact .inl ⟨by show (S l).cps.size ≤ _; rw [sz]; exact Nat.le_refl _, hd _ _ p⟩⟩
/-- texts put together, upper and lower, letters -/
theorem rv_addS (hz : a.length + b.length ≤ 100000) : RV (fun x y H Q => ∃ i j : Str, x = .str i ∧ y = .str j ∧ i.length + j.length ≤ sizeLine ∧ Q (.str (i ++ j)) H) (.str a) (.str b) H (.str (a ++ b)) := fun H1 _ _ q => ⟨a, b, rfl, rfl, sz_of hz, q H1 (Ex.refl H1)⟩
theorem ev_addS (ha : Ev ta σ H (.str (S l))) (hb : Ev tb σ H (.str (S m))) (hz : l.length + m.length ≤ 100000) : Ev (tOp (fun x y H Q => ∃ i j : Str, x = .str i ∧ y = .str j ∧ i.length + j.length ≤ sizeLine ∧ Q (.str (i ++ j)) H) ta tb) σ H (.str (S (l ++ m))) := by
  have z := ev_op ha hb (rv_addS (H := H) (a := S l) (b := S m) (by rw [len_S, len_S]; exact hz))
  rw [app_S] at z
  exact z
end
end TX

set_option Elab.async false
set_option linter.all false
set_option maxRecDepth 100000
set_option maxHeartbeats 4000000
/-! try with several clauses that bind one name. -/
namespace TX
open PySem PySem.Spec PyProof.Rows L2 Evl
/-- an exception of the body on its way through the clauses: sI is the state ahead of it, s the one now -/
structure Air (X : Cx) (pins : List (Addr × Obj)) (σ : L2.St) (H : Hp) (a : Addr) (cls : Value) (d : Option Addr) (B : Heap) (sI s : Shared) : Prop where
  st : X.stack = X.env :: X.outer
  fr : X.env.frame = some X.env.locals
  J : Inv X pins σ H sI
  nb : ∀ b o, sI.heap.get? b = some o → b ∉ frs X.stack → B.get? b = some o
  up : sI.heap.UpToSlots s.heap
  fl : HandSPX.FlyingZ B (X.env :: X.outer) a (Zc cls d) s.heap
  na : H a = none
  os : s.os = sI.os
  ag : AllBare s.gens
section
variable {X : Cx} {pins : List (Addr × Obj)} {σ : L2.St} {H : Hp} {a : Addr} {cls : Value} {d : Option Addr} {B : Heap} {sI s : Shared} {Wout : WX}
theorem Air.to (x : Air X pins σ H a cls d B sI s) {h : Heap} (fl : HandSPX.FlyingZ B (X.env :: X.outer) a (Zc cls d) h) (u : s.heap.UpToSlots h) : Air X pins σ H a cls d B sI { s with heap := h } :=
  ⟨x.st, x.fr, x.J, x.nb, x.up.trans u, fl, x.na, x.os, x.ag⟩
theorem Air.inv (x : Air X pins σ H a cls d B sI s) : Inv X pins σ H s := x.J.landed x.nb x.fl.1 x.up x.os x.ag
/-- no frame is the exception -/
theorem Air.apart (x : Air X pins σ H a cls d B sI s) {o : Obj} {vs : Array Value} (e : s.heap.get? a = some o) (q : o.data = .fields vs) : a ∉ frs (X.env :: X.outer) := fun m => by
  obtain ⟨_, o2, e2, no⟩ := x.fl.2.2.1.mem m
  rw [e2] at e
  cases e
  exact no _ q
theorem Air.into (x : Air X pins σ H a cls d B sI s) : ∃ oe : Obj, s.heap.get? a = some oe ∧ Zc cls d oe ∧ (∃ vs, oe.data = .fields vs) ∧ Inv (X.suite a ((a, oe) :: (X.pn ++ pins))) [] σ H s := by
  obtain ⟨oe, vs, e, z, q⟩ := x.fl.there
  have ap := x.apart e q
  refine ⟨oe, e, z, ⟨vs, q⟩, x.inv.suite e q x.na (fun w => ap ?_) fun w => ap ?_⟩
  · exact List.mem_filterMap.mpr ⟨X.env, List.mem_cons_self, by rw [x.fr, w]⟩
  · obtain ⟨en, m, r⟩ := List.mem_filterMap.mp w
    exact List.mem_filterMap.mpr ⟨en, List.mem_cons_of_mem _ m, r⟩
/-- no clause takes it -/
theorem Air.on (x : Air X pins σ H a cls d B sI s) (tk : Takes X Wout) {D : Ends} (w : Wout cls d σ H) : wpAny (model X.prog X.w) X.A (handleBy (.ref a) X.env []) (SP X pins D) X.xe s := by
  have away : wpAny (model X.prog X.w) X.A (setFlight (.ref a) X.env.frame) (fun _ s4 => wpAny (model X.prog X.w) X.A (throw (.ref a) : Sem Flow) (SP X pins D) X.xe s4) X.xe s := by
    rw [x.fr]
    exact HandSPX.setFlight_upZ x.fl fun h2 hd2 u2 => wpAny_throw (tk _ _ ⟨a, B, sI, pins, σ, H, cls, d, rfl, x.J, x.nb, x.up.trans u2, .inr (.inr (by rw [x.st]; exact hd2)), x.na, x.os, x.ag, w⟩)
  refine wpAny_handleBy_nil ?_
  obtain ⟨_, _, _, oe, vs, T, oT, tt, e, z, q, v1, r⟩ := x.fl
  unfold PySem.passOn
  refine wpAny_bind (wpAny_field e q v1 ?_)
  rw [if_neg (fun g => by simp at g)]
  first
    | exact wpAny_bind (wpAny_pure (wpAny_bind away))
    | exact wpAny_bind away
end
/-- the ends, slot i forgotten -/
abbrev offE (i : Nat) (D : Ends) : Ends := { nx := fun σ' H' => D.nx (σ'.set i none) H', rt := D.rt, bk := fun σ' H' => D.bk (σ'.set i none) H', ct := fun σ' H' => D.ct (σ'.set i none) H' }
abbrev Clause := Value × (Addr → Value → Option Addr → TS)
/-- what the clauses wish -/
def wAsM (K : PySem.W.Frag) (i : Nat) (Wout : WX) (D : Ends) : List Clause → WX
  | [] => Wout
  | (c, ts) :: r => fun cls d σ H => ∃ b, PySem.W.exmOne K cls c = some b ∧ (b = true → ∀ a, H a = none → ts a cls d (offE i D) (σ.set i (some (.ref a))) H) ∧ (b = false → wAsM K i Wout D r cls d σ H)
inductive HdAs (X : Cx) (n : Str) : List ExceptHandler → List Clause → Prop
  | nil : HdAs X n [] []
  | cons {x : Str} {c : Value} {ts : Addr → Value → Option Addr → TS} {b0 : Stmt} {suite : List Stmt} {np hp : Pos} {hds : List ExceptHandler} {l : List Clause} (hc : Names X x c)
      (hsu : ∀ (a : Addr) (oe : Obj) (cls : Value) (d : Option Addr) (pn : List (Addr × Obj)), Zc cls d oe → (∃ vs, oe.data = .fields vs) → PSs (X.suite a ((a, oe) :: pn)) (b0 :: suite) (ts a cls d)) (r : HdAs X n hds l) :
      HdAs X n (.ExceptHandler (some (.Name x np)) (some n) (b0 :: suite) hp :: hds) ((c, ts) :: l)
section
variable {X : Cx} {pins : List (Addr × Obj)} {σ : L2.St} {H : Hp} {a : Addr} {cls : Value} {d : Option Addr} {B : Heap} {sI s : Shared} {Wout : WX} {i : Nat} {n : Str}
/-- the clauses, one by one -/
theorem Air.clauses (hN : X.N.Nodup) (hi : X.N[i]? = some n) (hln : X.env.kindOf n = some .local) (tk : Takes X Wout) {D : Ends} : ∀ {hds : List ExceptHandler} {l : List Clause}, HdAs X n hds l → ∀ {s : Shared}, Air X pins σ H a cls d B sI s →
    wAsM X.K i Wout D l cls d σ H → wpAny (model X.prog X.w) X.A (handleBy (.ref a) X.env hds) (SP X pins D) X.xe s := by
  intro hds l hk
  induction hk with
  | nil => exact fun x w => x.on tk w
  | @cons x c ts b0 suite np hp hds l hc hsu r ih =>
    intro s A w
    obtain ⟨b, e1, yes, no⟩ := w
    obtain ⟨oe, eo, z, hf, S⟩ := A.into
    refine wpAny_handleBy_cons (codeAny_handlers_test ?_) (by intro q; cases q)
    have named : ∀ {Q : Value → Shared → Prop} {E : Value → Shared → Prop}, Q c s → wpAny (model X.prog X.w) (X.A.mark (some (.ref a))) (eval (.Name x np) X.env) Q E s := fun {Q E} q => by
      rcases hc with ⟨g, db, m | ⟨m, v, nn⟩⟩
      · exact ld_glob (X := X.suite a ((a, oe) :: (X.pn ++ pins))) S g m q db
      · exact ld_blt (X := X.suite a ((a, oe) :: (X.pn ++ pins))) S g m v q nn db
    have looks : PySem.W.Looks (model X.prog X.w) s.heap (typeOf (.ref a)) cls := fun A Q E s2 k q => wpAny_typeOf_ref (k _ _ eo) (by rw [z.1]; exact q)
    refine named ((PySem.W.exm_one (M := model X.prog X.w) A.inv.kIn looks e1).here ?_)
    cases b with
    | false =>
      show wpAny _ X.A (handleBy (.ref a) X.env hds) _ _ _
      exact ih A (no rfl)
    | true =>
      refine codeAny_handlers_suite_as (HandSPX.lands_againZ A.fl fun h2 fl2 u2 => ?_)
      have A2 := A.to fl2 u2
      obtain ⟨oe2, _, z2, hf2, S2⟩ := A2.into
      refine store_ok (X := X.suite a ((a, oe2) :: (X.pn ++ pins))) (v := .ref a) S2 hN hi (.inl hln) rfl (fun s3 S3 => ?_) (.inr hln)
      have leave : ∀ {σ4 : L2.St} {H4 : Hp} {s4 : Shared} {Q : Shared → Prop}, Inv (X.suite a ((a, oe2) :: (X.pn ++ pins))) [] σ4 H4 s4 → (∀ s5, Inv X pins (σ4.set i none) H4 s5 → Q s5) →
          wpAny (model X.prog X.w) X.A (do bindName X.env n .none; unbindBehindTheSuite X.env n hp) (fun _ s5 => Q s5) X.xe s4 := fun S4 q => gone_ok (S4.unsuite A.J.ok) hN hi hln q
      refine wpAny_mono ((hsu a oe2 cls d _ z2 hf2).run [] s3 _ H _ S3 (yes rfl a A.na)) (fun f s4 o => ?_) fun _ _ q => q.elim
      cases f with
      | ret u =>
        obtain ⟨v, σ4, H4, S4, rv, q⟩ := o
        exact leave S4 fun s5 J5 => ⟨_, _, _, J5, rv, q⟩
      | next => obtain ⟨σ4, H4, S4, q⟩ := o; exact leave S4 fun s5 J5 => ⟨_, _, J5, q⟩
      | brk => obtain ⟨σ4, H4, S4, q⟩ := o; exact leave S4 fun s5 J5 => ⟨_, _, J5, q⟩
      | cont => obtain ⟨σ4, H4, S4, q⟩ := o; exact leave S4 fun s5 J5 => ⟨_, _, J5, q⟩
variable {body : List Stmt} {h0 : ExceptHandler} {hds : List ExceptHandler} {l : List Clause} {pos : Pos} {tb : WX → TS}
theorem ps_try_asM (st : X.stack = X.env :: X.outer) (fr : X.env.frame = some X.env.locals) (hN : X.N.Nodup) (hi : X.N[i]? = some n) (hln : X.env.kindOf n = some .local) (tk : Takes X Wout)
    (hb : ∀ (W : WX) (pn : List (Addr × Obj)) (xe : Value → Shared → Prop), Takes (X.tr pn xe) W → PassesOwn (model X.prog X.w) X.A X.env xe → PSs (X.tr pn xe) body (tb W))
    (hh : HdAs X n (h0 :: hds) l) : PS X (.Try body (h0 :: hds) [] [] pos) (fun D σ H => tb (wAsM X.K i Wout D l) D σ H) := by
  refine ⟨fun pins s σ H D I h => ?_⟩
  have ok := I.ok
  refine wpAny_Try_except ?_
  have inner := hb (wAsM X.K i Wout D l) (X.pn ++ pins) (fun u s1 => wpAny (model X.prog X.w) X.A (noteFrame u X.env) (fun _ s2 => wpAny (model X.prog X.w) X.A (setFlight u none) (fun _ s3 => wpAny (model X.prog X.w) X.A (handleBy u X.env (h0 :: hds)) (SP X pins D) X.xe s3) X.xe s2) X.xe s1)
    (fun u s1 x => by
      obtain ⟨a, B, sI, p2, σ1, H1, cls, d, rfl, J, nb, up, sky, na, os, ag, w⟩ := x
      have sky2 : Sky B (X.env :: X.outer) a (Zc cls d) X.env.locals s1.heap := by rw [← st]; exact sky
      exact Sky.land Zc.steady (by rw [ok.frames, st]) fr sky2 fun h2 fl u2 => Air.clauses hN hi hln tk hh ⟨st, fr, J.ofTry ok, nb, up.trans u2, fl, na, os, ag⟩ w) PassesOwn.looking
  refine wpAny_mono (inner.run [] s σ H D (I.toTry _) h) (fun f s1 o => ?_) fun _ _ q => q
  cases f with
  | next => obtain ⟨σ1, H1, J, q⟩ := o; exact wpAny_execs_nil ⟨σ1, H1, J.ofTry ok, q⟩
  | ret u =>
    obtain ⟨v, σ1, H1, J, rv, q⟩ := o
    exact ⟨v, σ1, H1, J.ofTry ok, rv, q⟩
  | brk => obtain ⟨σ1, H1, J, q⟩ := o; exact ⟨σ1, H1, J.ofTry ok, q⟩
  | cont => obtain ⟨σ1, H1, J, q⟩ := o; exact ⟨σ1, H1, J.ofTry ok, q⟩
end
end TX

set_option Elab.async false
set_option linter.all false
set_option maxRecDepth 100000
set_option maxHeartbeats 4000000
/-! Lambdas handed on: tables kept; a def whose code object is known; siblings caught; what is known of a value's type. -/
namespace TX
open PySem PySem.Spec PyProof.Rows L2 Evl EV2 LamX
/-- except C, e of the class D: both right below S -/
theorem exm_sib {K : PySem.W.Frag} {S C D : Addr} (hD : LineOf K S D) (hC : LineOf K S C) (n : C ≠ S) : PySem.W.exmOne K (.ref D) (.ref C) = some (decide (C = D)) :=
  PySem.W.exm_ref hC.base hC.dict hC.ty (by
    show PySem.W.mroIn K D (.ref C) = some (decide (C = D))
    rw [hD.mro]
    congr 1
    by_cases e : C = D
    · subst e
      simp [List.contains_cons, ref_beq]
    · have n1 : (Value.ref C == Value.ref D) = false := by rw [ref_beq]; exact decide_eq_false e
      have n2 : (Value.ref C == Value.ref S) = false := by rw [ref_beq]; exact decide_eq_false n
      have n3 : ∀ x : String, (Value.ref C == Value.type x) = false := fun x => beq_eq_false_iff_ne.mpr fun q => by cases q
      rw [decide_eq_false e]
      simp only [BM, List.contains_cons, n1, n2, n3, List.contains_nil, Bool.or_false])
/-- tables when a pen is written -/
theorem tabS_sib {p P : Addr} {q : Str} {kv : List (Key × V)} {H H' : Hp} (hp : H p = some (.dK kv)) (e : Pen.Sib p H H') (t : TabS H P q) : TabS H' P q := by
  obtain ⟨ps, h1, h2, h3⟩ := t
  refine ⟨ps, e _ _ (ne_of h1 hp (by intro z; cases z)) h1, h2, fun pos cv hc => ?_⟩
  obtain ⟨c, e1, e2⟩ := h3 pos cv hc
  exact ⟨c, e1, e _ _ (ne_of e2 hp (by intro z; unfold CodeO at z; cases z)) e2⟩
theorem tabs_sib {p : Addr} {T : List (Addr × Str)} {kv : List (Key × V)} {H H' : Hp} (hp : H p = some (.dK kv)) (e : Pen.Sib p H H') (t : Tabs T H) : Tabs T H' := fun x hx => tabS_sib hp e (t x hx)
theorem extN_lst {H H' : Hp} {a : Addr} {xs : List V} (e : ExtN H H') (h : H a = some (.lst xs)) : H' a = some (.lst xs) := e _ _ h (fun ps z => by cases z)
theorem extN_dK {H H' : Hp} {a : Addr} {kv : List (Key × V)} (e : ExtN H H') (h : H a = some (.dK kv)) : H' a = some (.dK kv) := e _ _ h (fun ps z => by cases z)
theorem pen_extN {k1 k2 k3 : Str} {H H' : Hp} {p c : Addr} {cs : List Int} {i r : Int} (P : Pen.At k1 k2 k3 H p c cs i r) (e : ExtN H H') : Pen.At k1 k2 k3 H' p c cs i r := ⟨extN_dK e P.hp, extN_lst e P.hc, P.hl, P.h0, P.h1⟩
/-- a def whose code object stands at c -/
structure FunC (K : PySem.W.Frag) (x qual : Str) (st : Stmt) (f c : Addr) (fd : FuncData) : Prop where
  ex : ∃ (oc : Value) (od : Option Addr) (kV doc pm : Value) (an : Option Addr) (ct : Value) (osl : Array (Option Value)),
    fd = PySem.W.fnOf x qual (defArgs st) (defBody st) (defScope st) .none kV doc pm an (.ref c) ct ∧ K.lookup f = some ⟨oc, od, .func fd, osl⟩ ∧ PySem.W.codeIn K (.ref c) qual = true
  kp : PySem.W.keepIn K (.ref f) = true
section
variable {P : Program} {w : World} {K : PySem.W.Frag} {mg : Str → Option Value} {base : Heap} {x qual : Str} {st : Stmt} {f c : Addr} {fd : FuncData}
theorem FunC.toFun (F : FunC K x qual st f c fd) : Fun K x qual st f fd := by
  obtain ⟨oc, od, kV, doc, pm, an, ct, osl, e, l, q⟩ := F.ex
  exact ⟨⟨oc, od, kV, doc, pm, an, .ref c, ct, osl, e, l, q⟩, F.kp⟩
theorem FunC.ok {N ps : List Str} {k : Nat} {sp : Sp} (F : FunC K x qual st f c fd) (Sc : FnScope N ps (defScope st)) (len : ∀ vs H Q E, sp vs H Q E → vs.length = ps.length)
    (hb : ∀ (A : Around) (outer : List Env) (s : Shared) (H : Hp) (vs : List V) (Q : VK) (E : XK), Room k (A.deeper (envOfC qual (defScope st) s.heap.objs.size f (.ref c))) → sp vs H Q E →
      ∃ t, PSs (cxOf CX0 P w K mg base N qual (defScope st) f (.ref c) A outer s H E).nox (defBody st) t ∧ t { nx := fun _ H' => Q .non H', rt := Q } (start N vs) H) : FnOk P w K mg base CX0 (k + 1) f fd ps sp := by
  obtain ⟨oc, od, kV, doc, pm, an, ct, osl, rfl, l, q⟩ := F.ex
  refine fn_of l q Sc len fun A outer s H vs Q E hr hs => ?_
  obtain ⟨t, a, b⟩ := hb A outer s H vs Q E hr hs
  exact ⟨t, a.nox, b⟩
end
/-! ### kinds of values -/
def Knd (K : PySem.W.Frag) (H : Hp) (v : V) (n : String) : Prop := ∀ H1, Ex H H1 → TyX K H1 v (.type n)
section
variable {K : PySem.W.Frag} {σ : L2.St} {H : Hp} {ta tb : TE} {v : V} {n m : String} {b : Bool}
theorem Knd.ext {H' : Hp} (h : Knd K H v n) (e : Ex H H') : Knd K H' v n := fun H1 e1 => h H1 (e.trans e1)
theorem knd_int {i : Int} : Knd K H (.int i) "int" := fun _ _ => .base (.int i)
theorem knd_bl {b : Bool} : Knd K H (.bl b) "bool" := fun _ _ => .base (.bl b)
theorem knd_non : Knd K H .non "NoneType" := fun _ _ => .base .non
theorem knd_str {s : Str} : Knd K H (.str s) "str" := fun _ _ => .base (.str s)
theorem knd_lst {a : Addr} {xs : List V} (h : H a = some (.lst xs)) : Knd K H (.ref a) "list" := fun _ e => .base (.lst (e _ _ h))
theorem knd_tup {a : Addr} {xs : List V} (h : H a = some (.tup xs)) : Knd K H (.ref a) "tuple" := fun _ e => .base (.tup (e _ _ h))
theorem ev_isi (h : Knd K H v n) (hk : kitB n m = some b) (ha : Ev ta σ H v) : Ev (tCB (rIsi K) (tCons ta (tCons (tC (.ty m)) tNil))) σ H (.bl b) := fun H1 e Q q =>
  ha H1 e _ fun H2 e2 => ⟨v, .ty m, .type n, .type m, b, rfl, .ty m, h H2 (e.trans e2), kit_ty hk, q H2 e2⟩
end
end TX

set_option Elab.async false
set_option linter.all false
set_option maxRecDepth 100000
set_option maxHeartbeats 4000000
/-! Letters of columns: the numbers behind them. -/
namespace TX
open PySem PySem.Spec PyProof.Rows L2 Evl
def letsF : Nat → Nat → List Nat
  | 0, _ => []
  | _ + 1, 0 => []
  | f + 1, n + 1 => letsF f (n / 26) ++ [65 + n % 26]
def bnd : Nat → Nat
  | 0 => 1
  | f + 1 => 26 * bnd f + 1
theorem lets_zero (f : Nat) : letsF f 0 = [] := by cases f <;> rfl
theorem lets_succ (f n : Nat) : letsF (f + 1) (n + 1) = letsF f (n / 26) ++ [65 + n % 26] := rfl
theorem bnd_div {f n : Nat} (h : n + 1 < bnd (f + 1)) : n / 26 < bnd f := by
  have h2 : n + 1 < 26 * bnd f + 1 := h
  exact Nat.div_lt_of_lt_mul (by omega)
theorem lets_len : ∀ (f n : Nat), (letsF f n).length ≤ f
  | 0, _ => Nat.le_refl _
  | f + 1, 0 => Nat.zero_le _
  | f + 1, n + 1 => by
    rw [lets_succ, List.length_append]
    have := lets_len f (n / 26)
    show _ + 1 ≤ _
    omega
theorem lets_rng : ∀ (f n : Nat), ∀ x ∈ letsF f n, 65 ≤ x ∧ x ≤ 90
  | 0, _, x, h => by cases h
  | f + 1, 0, x, h => by cases h
  | f + 1, n + 1, x, h => by
    rw [lets_succ] at h
    rcases List.mem_append.mp h with h | h
    · exact lets_rng f _ x h
    · have e := List.mem_singleton.mp h
      omega
/-- what a text of capital letters stands for -/
def val (l : List Nat) : Int := l.foldl (fun a x => a * 26 + ((x - 65 : Nat) : Int) + 1) 0
theorem val_snoc (l : List Nat) (x : Nat) : val (l ++ [x]) = val l * 26 + ((x - 65 : Nat) : Int) + 1 := by
  unfold val
  rw [List.foldl_append]
  rfl
theorem val_lets : ∀ (f n : Nat), n < bnd f → val (letsF f n) = n
  | 0, n, h => by
    have h2 : n < 1 := h
    have e : n = 0 := by omega
    rw [e]
    rfl
  | f + 1, 0, _ => rfl
  | f + 1, n + 1, h => by
    rw [lets_succ, val_snoc, val_lets f (n / 26) (bnd_div h)]
    have e : 65 + n % 26 - 65 = n % 26 := by omega
    rw [e]
    omega
theorem lets_ne {f n : Nat} : letsF (f + 1) (n + 1) ≠ [] := fun e => by
  rw [lets_succ] at e
  simp at e
theorem len3 {c : Nat} (h1 : 1 ≤ c) (h2 : c ≤ 18278) : (letsF 3 c).length = 1 + (if 26 < c then 1 else 0) + (if 702 < c then 1 else 0) := by
  obtain ⟨n, rfl⟩ : ∃ n, c = n + 1 := ⟨c - 1, by omega⟩
  rw [lets_succ, List.length_append]
  show (letsF 2 (n / 26)).length + 1 = _
  rcases Nat.eq_zero_or_pos (n / 26) with e | e
  · rw [e]
    have : n < 26 := by omega
    rw [if_neg (by omega), if_neg (by omega)]
    rfl
  · obtain ⟨m, hm⟩ : ∃ m, n / 26 = m + 1 := ⟨n / 26 - 1, by omega⟩
    rw [hm, lets_succ, List.length_append]
    show (letsF 1 (m / 26)).length + 1 + 1 = _
    rw [if_pos (by omega)]
    rcases Nat.eq_zero_or_pos (m / 26) with e2 | e2
    · rw [e2, if_neg (by omega)]
      rfl
    · obtain ⟨k, hk⟩ : ∃ k, m / 26 = k + 1 := ⟨m / 26 - 1, by omega⟩
      rw [hk, lets_succ, if_pos (by omega)]
      rfl
/-- the column behind one that does not end with Z -/
theorem lets_next {f n : Nat} (h : n % 26 ≠ 25) : letsF (f + 1) (n + 2) = letsF f (n / 26) ++ [66 + n % 26] := by
  rw [lets_succ]
  have e1 : (n + 1) / 26 = n / 26 := by omega
  have e2 : 65 + (n + 1) % 26 = 66 + n % 26 := by omega
  rw [e1, e2]
end TX

set_option Elab.async false
set_option linter.all false
set_option maxRecDepth 100000
set_option maxHeartbeats 4000000
/-! A caught own error asked for its kind; ends of texts. -/
namespace TX
open PySem PySem.Spec PyProof.Rows L2 Evl EV2 LamX
/-- isinstance(e, c), e the caught error, with a dict of its own -/
def rIsF (K : PySem.W.Frag) (a : Addr) (cls : Value) (d : Option Addr) : List V → Hp → VK → Prop := fun xs H Q => ∃ (D dd : Addr) (fs : List (Str × V)) (c : V) (cv : Value) (b : Bool), cls = .ref D ∧ d = some dd ∧ ExcC K D ∧ H dd = some (.xd fs) ∧
  xs = [.ref a, c] ∧ (∀ u, RelV c u → u = cv) ∧ PySem.W.kitOne K (.ref D) cv = some b ∧ Q (.bl b) H
theorem call_isF {X : Cx} {a : Addr} {oe : Obj} {cls : Value} {d : Option Addr} {pn : List (Addr × Obj)} (hz : Zc cls d oe) (hf : ∃ vs, oe.data = .fields vs) : CallR (X.suite a ((a, oe) :: pn)) (.builtin "isinstance") (rIsF X.K a cls d) := by
  intro pins s σ H xs us Q I r h
  obtain ⟨D, dd, fs, c, cv, b, rfl, rfl, C, ed, rfl, hcv, e, q⟩ := h
  obtain ⟨u1, u2, rfl, r1, r2⟩ := vals2 r
  have ec := hcv _ r2
  subst ec
  obtain rfl : u1 = Value.ref a := r1
  obtain ⟨ha, _⟩ := I.pin (a, oe) (List.mem_append_left _ List.mem_cons_self)
  obtain ⟨vs, hd⟩ := hf
  obtain ⟨mA, hns, _⟩ := (show ObjOk X.prog X.w H s.heap dd (.xd fs) from I.hok dd _ ed)
  obtain ⟨od, ho, _⟩ := lookIn_ns hns
  have J : PySem.W.InstAt s.heap a oe D (some od) := ⟨ha, hz.1, by unfold PySem.W.notCls; rw [hd] <;> rfl, by rw [hz.2]; exact ho⟩
  exact PySem.W.kia_one (PySem.EV.kitx_err C) I.kIn J e (fun z => nomatch z) fun tk => ⟨.bl b, H, I.kept (t' := tk) fun _ _ z => z, rfl, q⟩
/-- the last sign, all but the last -/
theorem at_last (l : List Nat) (x : Nat) : atI (S (l ++ [x])).cps.toList (-1) = some x := by
  have e : (S (l ++ [x])).cps.toList = l ++ [x] := by
    show (l ++ [x]).toArray.toList = _
    simp
  rw [e]
  unfold atI ixN
  rw [if_neg (by decide)]
  have hl : (l ++ [x]).length = l.length + 1 := by simp
  rw [hl]
  rw [if_pos (by omega)]
  have e2 : (-1 + ((l.length + 1 : Nat) : Int)).toNat = l.length := by omega
  have e3 : (((l.length + 1 : Nat) : Int) + -1).toNat = l.length := by omega
  first
    | (rw [Option.bind_some, e2]; simp)
    | (rw [Option.bind_some, e3]; simp)
theorem cut_last (l : List Nat) (x : Nat) : cutS (S (l ++ [x])) none (some (-1)) = S l := by
  unfold cutS
  have e : (S (l ++ [x])).cps.toList = l ++ [x] := by
    show (l ++ [x]).toArray.toList = _
    simp
  have hl : (S (l ++ [x])).length = l.length + 1 := by rw [len_S]; simp
  rw [e, hl]
  have e1 : HT.sIx (l.length + 1) 0 none = 0 := rfl
  have e2 : HT.sIx (l.length + 1) (l.length + 1) (some (-1)) = l.length := by
    unfold HT.sIx
    simp
    try omega
  rw [e1, e2]
  simp
theorem ev_slS {σ : L2.St} {H : Hp} {te : TE} {tl th : TO} {z : Str} {lo hi : Option Int} (h : Ev te σ H (.str z)) (h1 : EvO tl σ H lo) (h2 : EvO th σ H hi) (hl : z.length ≤ 100000) : Ev (tSl rSlS te tl th) σ H (.str (cutS z lo hi)) := fun H1 e Q q =>
  h H1 e _ fun H2 e2 => h1 H2 (e.trans e2) _ fun H3 e3 => h2 H3 ((e.trans e2).trans e3) _ fun H4 e4 => ⟨z, rfl, sz_of hl, q H4 ((e2.trans e3).trans e4)⟩
end TX

set_option Elab.async false
set_option linter.all false
set_option maxRecDepth 100000
set_option maxHeartbeats 4000000
namespace K15
open PySem PySem.Spec PyProof.Rows L2 Pen
def topS (i : Nat) : Stmt := PySem.Challenge.pw_allinputs_k15_letters_of_columns.main.body.getD i (.Pass ⟨0, 0, 0, 0⟩)
abbrev s_l_pen : Stmt := topS 18
abbrev N_l_pen : List Str := ["_law_script"]
abbrev P_l_pen : List Str := ["_law_script"]
theorem sc_l_pen : FnScope N_l_pen P_l_pen (defScope s_l_pen) := ⟨rfl, rfl, rfl, by decide +kernel, rfl, by decide +kernel, by decide +kernel⟩
abbrev s_l_draw : Stmt := topS 19
abbrev N_l_draw : List Str := ["_law_pen_here", "_law_span", "_law_digit", "_law_at", "_law_cell", "_law_mash"]
abbrev P_l_draw : List Str := ["_law_pen_here", "_law_span"]
theorem sc_l_draw : FnScope N_l_draw P_l_draw (defScope s_l_draw) := ⟨rfl, rfl, rfl, by decide +kernel, rfl, by decide +kernel, by decide +kernel⟩
abbrev s_l_pick : Stmt := topS 20
abbrev N_l_pick : List Str := ["_law_pen_here", "_law_menu"]
abbrev P_l_pick : List Str := ["_law_pen_here", "_law_menu"]
theorem sc_l_pick : FnScope N_l_pick P_l_pick (defScope s_l_pick) := ⟨rfl, rfl, rfl, by decide +kernel, rfl, by decide +kernel, by decide +kernel⟩

/-- what the top has written that the pens use -/
structure TxtA (mg : Str → Option Value) : Prop where
  n_list : mg "list" = none
  n_int : mg "int" = none
  n_len : mg "len" = none
abbrev PenAt := Pen.At "cells" "at" "left"
def spPen (K : PySem.W.Frag) : Sp := fun vs H Q _ => ∃ (a : Addr) (ns : List Int), vs = [.ref a] ∧ SqL K H a (ns.map V.int) ∧ ns.length ≤ 63 ∧
  ∀ (p c : Addr) (H' : Hp), H p = none → Same H H' → PenAt H' p c ns 0 0 → Q (.ref p) H'
def spDraw : Sp := fun vs H Q _ => ∃ (p c : Addr) (cs : List Int) (i r m : Int), vs = [.ref p, .int m] ∧ PenAt H p c cs i r ∧ i < 2 ^ 39 ∧ 0 < m ∧ m < 2 ^ 29 ∧
  ∀ (z i' r' : Int) (H' : Hp), 0 ≤ z → z < m → i ≤ i' → i' ≤ i + 1 → Sib p H H' → PenAt H' p c cs i' r' → Q (.int z) H'
/-- one of the items; xs the list's values, l not the pen -/
def spPick (K : PySem.W.Frag) : Sp := fun vs H Q _ => ∃ (p c : Addr) (cs : List Int) (i r : Int) (l : Addr) (xs : List V), vs = [.ref p, .ref l] ∧ PenAt H p c cs i r ∧ i < 2 ^ 39 ∧ SqL K H l xs ∧ 0 < xs.length ∧ xs.length < 2 ^ 29 ∧ l ≠ p ∧
  ∀ (x : V) (i' r' : Int) (H' : Hp), x ∈ xs → i ≤ i' → i' ≤ i + 1 → Sib p H H' → PenAt H' p c cs i' r' → Q x H'
section
variable {P : Program} {w : World} {K : PySem.W.Frag} {mg : Str → Option Value} {base : Heap}
theorem ok_l_pen {f : Addr} {fd : FuncData} (F : Fun K "_law_pen" "_law_pen" s_l_pen f fd) (T : TxtA mg) : FnOk P w K mg base CX0 1 f fd P_l_pen (spPen K) := by
  refine F.ok sc_l_pen (fun vs H Q E h => ?_) (fun cdv A outer s H vs Q E hr h => ?_)
  · obtain ⟨a, ns, rfl, _⟩ := h
    rfl
  · obtain ⟨a, ns, rfl, hS, hl, k⟩ := h
    refine ⟨_, (pss_one (ps_ret (pe_disp (pps_cons pe_str (pe_callTy (T := "list") call_list_of (by rfl) T.n_list (by decide +kernel) (pa_cons (pe_slice sl_list (pv 0) po_none (po_some pe_int)) pa_nil)) (pps_cons pe_str pe_int (pps_cons pe_str pe_int pps_nil))) (by rfl) (by rfl) (fun z => by cases z) (by decide)))), ?_⟩
    intro p hp
    have s1 : Same H (upd H p (.dK [])) := fun b o e => by rw [upd_ne (ne_of_none e hp)]; exact e
    refine ⟨_, rfl, _, rfl, a, _, rfl, s1.seq hS, fun q hq => ?_⟩
    have s2 : Same (upd H p (.dK [])) (upd (upd H p (.dK [])) q (.lst (cutV (ns.map V.int) none (some 63)))) := fun b o e => by rw [upd_ne (ne_of_none e hq)]; exact e
    refine ⟨q, _, rfl, .inl (SqL.of upd_same), fun l hl' => ?_⟩
    have s3 : Same (upd (upd H p (.dK [])) q (.lst (cutV (ns.map V.int) none (some 63)))) (upd (upd (upd H p (.dK [])) q (.lst (cutV (ns.map V.int) none (some 63)))) l (.lst (cutV (ns.map V.int) none (some 63)))) := fun b o e => by rw [upd_ne (ne_of_none e hl')]; exact e
    have hp3 := s3 p _ (s2 p _ upd_same)
    refine ⟨hp3, kvs "cells" "at" "left" l 0 0, rfl, (by show 3 ≤ 15; decide), ?_⟩
    have em : mergeK ([] : List (Key × V)) (kvs "cells" "at" "left" l 0 0) = kvs "cells" "at" "left" l 0 0 := by rfl
    rw [em]
    have np : l ≠ p := ne_of upd_same hp3 (by intro z; cases z)
    refine k p l _ hp (fun b o e => ?_) ⟨upd_same, ?_, by omega, by decide, by decide⟩
    · rw [upd_ne (ne_of_none e hp)]
      exact s3 b o (s2 b o (s1 b o e))
    · rw [upd_ne np, upd_same, show cutV (ns.map V.int) none (some 63) = ns.map V.int from cut_all (n := 63) (by rw [List.length_map]; exact hl)]
theorem ok_l_draw {f : Addr} {fd : FuncData} (F : Fun K "_law_draw" "_law_draw" s_l_draw f fd) (T : TxtA mg) : FnOk P w K mg base CX0 1 f fd P_l_draw spDraw := by
  refine F.ok sc_l_draw (fun vs H Q E h => ?_) (fun cdv A outer s H vs Q E hr h => ?_)
  · obtain ⟨p, c, cs, i, r, m, rfl, _⟩ := h
    rfl
  · obtain ⟨p, c, cs, i, r, m, rfl, D, hi, hm0, hm1, k⟩ := h
    have hu := hu_of hr
    have mok : m ≠ 0 ∧ m.natAbs < 1073741824 := ⟨by omega, by omega⟩
    refine ⟨_, (pss_cons (ps_if (pt_cmpR op_ge (pe_dget hu (pv 0) pe_str (fun _ _ => rfl)) (pv 1) (nomark _)) (pss_cons (ps_set (i := 2) sc_l_draw.nd rfl (Or.inl rfl) (pe_op op_modN (pe_callTy (T := "int") call_int1 (by rfl) T.n_int (by decide +kernel) (pa_cons (pe_dget hu (pv 0) pe_str (fun _ _ => rfl)) pa_nil)) (pv 1)))
      (pss_cons (ps_dput hu (pv 0) pe_str (pe_op op_fdivN (pe_dget hu (pv 0) pe_str (fun _ _ => rfl)) (pv 1)) rfl)
      (pss_one (ps_ret (pv 2))))) pss_nil)
      (pss_cons (ps_set (i := 3) sc_l_draw.nd rfl (Or.inl rfl) (pe_dget hu (pv 0) pe_str (fun _ _ => rfl)))
      (pss_cons (ps_dput hu (pv 0) pe_str (pe_op op_add (pv 3) pe_int) rfl)
      (pss_cons (ps_set (i := 4) sc_l_draw.nd rfl (Or.inl rfl) (pe_op op_add (pe_op op_mul pe_int (pv 3)) pe_int))
      (Evl.pss_cut (ps_if (pt_cmpR (op_neD hr.units) (pe_dget hu (pv 0) pe_str (fun _ _ => rfl)) (pe_lst pa_nil) (nomark _)) (pss_one (ps_set (i := 4) sc_l_draw.nd rfl (Or.inl rfl) (pe_ix ix_list (pe_dget hu (pv 0) pe_str (fun _ _ => rfl)) (pe_op op_modN (pe_callTy (T := "int") call_int1 (by rfl) T.n_int (by decide +kernel) (pa_cons (pv 3) pa_nil)) (pe_callB (id := "len") call_len (by rfl) T.n_len (by decide +kernel) (pa_cons (pe_dget hu (pv 0) pe_str (fun _ _ => rfl)) pa_nil))) (fun _ _ => rfl)))) pss_nil)
      (Evl.pss_cut (ps_if (PW.pt (pw_and (pt_cmpR op_lt (pv 3) (pe_callB (id := "len") call_len (by rfl) T.n_len (by decide +kernel) (pa_cons (pe_dget hu (pv 0) pe_str (fun _ _ => rfl)) pa_nil)) (nomark _)) (pw_and1 (pt_cmpR op_ge (pv 4) (pe_op op_pow pe_int pe_int) (nomark _))))) (pss_cons (ps_dput hu (pv 0) pe_str (pe_op op_fdivN (pe_op op_sub (pv 4) (pe_op op_pow pe_int pe_int)) (pv 1)) rfl)
      (pss_one (ps_ret (pe_op op_modN (pe_callTy (T := "int") call_int1 (by rfl) T.n_int (by decide +kernel) (pa_cons (pe_op op_sub (pv 4) (pe_op op_pow pe_int pe_int)) pa_nil)) (pv 1))))) pss_nil)
      (pss_cons (ps_set (i := 5) sc_l_draw.nd rfl (Or.inl rfl) (pe_op op_add (pe_op op_mul (pe_op op_modN (pe_callTy (T := "int") call_int1 (by rfl) T.n_int (by decide +kernel) (pa_cons (pv 4) pa_nil)) pe_int) pe_int) (pe_op op_mul (pe_op op_mul pe_int (pv 3)) (pv 3))))
      (pss_cons (ps_set (i := 5) sc_l_draw.nd rfl (Or.inl rfl) (pe_op op_modN (pe_callTy (T := "int") call_int1 (by rfl) T.n_int (by decide +kernel) (pa_cons (pe_op op_add (pe_op op_add (pv 5) (pe_op op_mul pe_int (pv 3))) pe_int) pa_nil)) pe_int))
      (pss_cons (ps_set (i := 5) sc_l_draw.nd rfl (Or.inl rfl) (pe_op op_modN (pe_callTy (T := "int") call_int1 (by rfl) T.n_int (by decide +kernel) (pa_cons (pe_op op_add (pe_op op_mul (pv 5) (pe_op op_add (pv 5) pe_int)) (pe_op op_mul pe_int (pv 3))) pa_nil)) pe_int))
      (pss_one (ps_ret (pe_op op_modN (pe_callTy (T := "int") call_int1 (by rfl) T.n_int (by decide +kernel) (pa_cons (pe_op op_fdivN (pe_op op_modN (pe_callTy (T := "int") call_int1 (by rfl) T.n_int (by decide +kernel) (pa_cons (pe_op op_add (pe_op op_mul (pv 5) (pv 5)) (pe_op op_mul pe_int (pv 5))) pa_nil)) pe_int) pe_int) pa_nil)) (pv 1))))))))))))), ?_⟩
    refine ⟨_, rfl, _, _, rfl, get3 D (by decide) (by decide), _, rfl, _, _, rfl, rfl, _, rfl, ?_⟩
    refine ite2 (fun _ => ?_) (fun _ => ?_)
    · refine ⟨_, rfl, _, _, rfl, get3 D (by decide) (by decide), .inl ⟨_, rfl, _, rfl, _, _, rfl, rfl, by omega, ?_⟩⟩
      refine ⟨_, rfl, _, _, rfl, get3 D (by decide) (by decide), _, rfl, _, _, rfl, rfl, mok, _, rfl, _, _, rfl, put3 D (by decide) (by decide) _, ?_⟩
      refine ⟨_, rfl, ?_⟩
      exact k _ _ _ _ (fmod_lo hm0) (fmod_hi hm0) (Int.le_refl _) (by omega) Sib.put (D.to upd_same Sib.put D.h0 D.h1)
    · refine ⟨_, rfl, _, _, rfl, get2 D (by decide), ?_⟩
      refine ⟨_, rfl, _, _, rfl, rfl, _, rfl, _, _, rfl, put2 D (by decide) (by decide) _, ?_⟩
      have D1 : PenAt (upd H p (.dK (kvs "cells" "at" "left" c (i + 1) r))) p c cs (i + 1) r := D.to upd_same Sib.put (by have := D.h0; omega) (by omega)
      refine ⟨_, rfl, _, _, rfl, rfl, .inl ⟨by decide, by decide⟩, _, _, rfl, rfl, ?_⟩
      -- if cells != []: cell = cells[..]
      refine ⟨fun σ' H' => ∃ z : Int, σ' = [some (.ref p), some (.int m), none, some (.int i), some (.int z), none] ∧ Same (upd H p (.dK (kvs "cells" "at" "left" c (i + 1) r))) H', ?_, ?_⟩
      · refine ⟨_, rfl, _, _, rfl, get1 D1, (by decide), fun q hq => ?_⟩
        have sq : Same (upd H p (.dK (kvs "cells" "at" "left" c (i + 1) r))) (upd (upd H p (.dK (kvs "cells" "at" "left" c (i + 1) r))) q (.lst [])) := fun b o e => by rw [upd_ne (ne_of_none e hq)]; exact e
        have D2 := D1.keep sq
        refine ⟨_, _, .lst (SqL.of D2.hc) (dp_ints cs), .lst (SqL.of upd_same) .nil, shaped_ints cs, rfl, _, rfl, ?_⟩
        rw [eqv_nil]
        cases hb : decide (cs = []) with
        | true => exact iteF ⟨_, rfl, sq⟩
        | false =>
          refine iteT ?_
          have ne : cs ≠ [] := of_decide_eq_false hb
          have l0 : 0 < cs.length := by
            cases cs with
            | nil => exact absurd rfl ne
            | cons a l => exact Nat.succ_pos _
          refine ⟨_, rfl, _, _, rfl, get1 D2, ?_⟩
          refine ⟨_, rfl, .inl ⟨_, rfl, _, rfl, _, _, rfl, get1 D2, _, cs.length, rfl, .inl ⟨_, SqL.of D2.hc, (List.length_map _).symm⟩, _, _, rfl, rfl, by omega, ?_⟩⟩
          have b0 : 0 ≤ i.fmod (cs.length : Int) := fmod_lo (by omega)
          have b1 : i.fmod (cs.length : Int) < cs.length := fmod_hi (by omega)
          obtain ⟨z, hz⟩ := at_ints (cs := cs) b0 b1
          exact ⟨_, _, _, _, rfl, rfl, SqL.of D2.hc, hz, z, rfl, sq⟩
      · rintro σ' H' ⟨z, rfl, sH⟩
        have D2 := D1.keep sH
        have sib : Sib p H H' := Sib.trans Sib.put fun b o _ e => sH b o e
        refine ⟨fun σ2 H2 => σ2 = [some (.ref p), some (.int m), none, some (.int i), some (.int z), none] ∧ H2 = H', ?_, ?_⟩
        rotate_left
        · rintro σ2 H2 ⟨rfl, rfl⟩
          have nz : ∀ {a : Int}, a ≠ 0 → a ≠ 0 := fun h => h
          have ib : -(2 ^ 64) < i ∧ i < 2 ^ 64 := ⟨by have := D.h0; omega, by omega⟩
          refine ⟨_, rfl, .inl ⟨_, rfl, _, _, rfl, rfl, (by show (2147481997 : Int) ≠ 0; decide), _, _, rfl, rfl, .inr ⟨by decide, by decide⟩, _, rfl, _, _, rfl, rfl, .inl ⟨by decide, by decide⟩, _, rfl, _, _, rfl, rfl, .inr ib, _, _, rfl, rfl, ?_⟩⟩
          refine ⟨_, rfl, _, rfl, _, _, rfl, rfl, .inl ⟨by decide, by decide⟩, _, _, rfl, rfl, _, _, rfl, rfl, .inl ⟨_, rfl, _, _, rfl, rfl, (by show (2147482063 : Int) ≠ 0; decide), ?_⟩⟩
          refine ⟨_, rfl, _, rfl, _, _, rfl, rfl, _, _, rfl, rfl, .inl (fm64 (by decide) (by decide)), _, rfl, _, _, rfl, rfl, .inl ⟨by decide, by decide⟩, _, _, rfl, rfl, .inl ⟨_, rfl, _, _, rfl, rfl, (by show (2147482121 : Int) ≠ 0; decide), ?_⟩⟩
          refine ⟨_, rfl, _, rfl, _, _, rfl, rfl, .inl (fm64 (by decide) (by decide)), _, rfl, _, _, rfl, rfl, .inl ⟨by decide, by decide⟩, _, _, rfl, rfl, .inl ⟨_, rfl, _, _, rfl, rfl, (by show (2147482223 : Int) ≠ 0; decide), _, _, rfl, rfl, ⟨by decide, by decide⟩, .inl ⟨_, rfl, _, rfl, _, _, rfl, rfl, mok.1, ?_⟩⟩⟩
          exact k _ _ _ _ (fmod_lo hm0) (fmod_hi hm0) (by omega) (Int.le_refl _) sib D2
        refine ⟨_, rfl, _, rfl, _, _, rfl, get1 D2, _, cs.length, rfl, .inl ⟨_, SqL.of D2.hc, (List.length_map _).symm⟩, _, _, rfl, rfl, _, rfl, ?_⟩
        refine ite2 (fun _ => ?_) (fun _ => ?_)
        · refine ⟨_, rfl, _, _, rfl, rfl, ⟨by decide, by decide, by decide⟩, _, _, rfl, rfl, _, rfl, ?_⟩
          refine ite2 (fun _ => ?_) (fun _ => ?_)
          · -- a great cell
            refine ⟨_, rfl, _, _, rfl, rfl, ⟨by decide, by decide, by decide⟩, _, _, rfl, rfl, _, rfl, _, _, rfl, rfl, mok, _, rfl, _, _, rfl, put3 D2 (by decide) (by decide) _, ?_⟩
            refine ⟨_, rfl, _, _, rfl, rfl, ⟨by decide, by decide, by decide⟩, _, _, rfl, rfl, .inl ⟨_, rfl, _, rfl, _, _, rfl, rfl, by omega, ?_⟩⟩
            exact k _ _ _ _ (fmod_lo hm0) (fmod_hi hm0) (by omega) (Int.le_refl _) (Sib.trans sib Sib.put) (D2.to upd_same Sib.put D2.h0 D2.h1)
          · exact ⟨rfl, rfl⟩
        · exact ⟨rfl, rfl⟩
theorem ok_l_pick {f fD : Addr} {fd fdD : FuncData} (F : Fun K "_law_pick" "_law_pick" s_l_pick f fd) (T : TxtA mg) (FD : Fun K "_law_draw" "_law_draw" s_l_draw fD fdD) (b_l_draw : Binds K fdD P_l_draw []) (mgD : mg "_law_draw" = some (.ref fD)) : FnOk P w K mg base CX0 2 f fd P_l_pick (spPick K) := by
  have G_l_draw : FnOk P w K mg base CX0 1 fD fdD P_l_draw spDraw := ok_l_draw FD T
  refine F.ok sc_l_pick (fun vs H Q E h => ?_) (fun cdv A outer s H vs Q E hr h => ?_)
  · obtain ⟨p, c, cs, i, r, l, xs, rfl, _⟩ := h
    rfl
  · obtain ⟨p, c, cs, i, r, l, xs, rfl, D, hi, hL, x0, x1, ne, k⟩ := h
    refine ⟨_, (pss_one (ps_ret (pe_ix ix_list (pv 1) (pe_call G_l_draw (hr.mono (by decide)) (by rfl) mgD FD.kp b_l_draw .nil pass0 (pa_cons (pv 0) (pa_cons (pe_callB (id := "len") call_len (by rfl) T.n_len (by decide +kernel) (pa_cons (pv 1) pa_nil)) pa_nil))) (fun _ _ => rfl)))), ?_⟩
    refine ⟨_, rfl, _, rfl, _, rfl, _, xs.length, rfl, .inl ⟨_, hL, rfl⟩, p, c, cs, i, r, _, rfl, D, hi, by omega, by omega, fun z i' r' H' z0 z1 i0 i1 sib D' => ?_⟩
    have hk : z.toNat < xs.length := by omega
    have hz : atI xs z = some xs[z.toNat] := by
      unfold atI ixN
      rw [if_pos z0, if_pos z1, Option.bind_some, List.getElem?_eq_getElem hk]
    exact ⟨_, _, _, _, rfl, rfl, SqL_sib hL sib (fun e => ne e), hz, k _ i' r' H' (List.getElem_mem hk) i0 i1 sib D'⟩
end
end K15

set_option Elab.async false
set_option linter.all false
set_option maxRecDepth 100000
set_option maxHeartbeats 4000000
namespace K15
open PySem PySem.Spec PyProof.Rows L2 Pen EV2 Evl TX LamX
theorem hx0 {X : Cx} : Passes CX0 X fun _ _ _ => False := fun _ _ _ _ _ _ _ h => h.elim
section
variable {P : Program} {w : World} {K : PySem.W.Frag} {mg : Str → Option Value} {base : Heap} {f C : Addr} {fd : FuncData}
abbrev s_BadValue_init : Stmt := inClass (topS 2) 0
abbrev N_BadValue_init : List Str := ["self", "value"]
abbrev P_BadValue_init : List Str := ["self", "value"]
theorem sc_BadValue_init : FnScope N_BadValue_init P_BadValue_init (defScope s_BadValue_init) := ⟨rfl, rfl, rfl, by decide +kernel, rfl, by decide +kernel, by decide +kernel⟩
theorem ok_BadValue_init (F : Fun K "__init__" "BadValue.__init__" s_BadValue_init f fd) (O : OexC K C) (no : PySem.W.findIn K (.ref C) "value" = some none) : FnOk P w K mg base CX0 1 f fd P_BadValue_init (spI1 C "value") := by
  refine F.ok sc_BadValue_init (fun vs H Q E h => ?_) (fun cdv A outer s H vs Q E hr h => ?_)
  · obtain ⟨a, v, rfl, _⟩ := h
    rfl
  · obtain ⟨a, v, rfl, e, k⟩ := h
    exact ⟨_, pss_one (ps_ost (pv 0) (pv 1)), _, rfl, _, rfl, a, C, rfl, O, no, .inl ⟨e, k⟩⟩
theorem kp_BadValue_init (F : Fun K "__init__" "BadValue.__init__" s_BadValue_init f fd) : KBn K fd P_BadValue_init 2 [] (fun us ws => us) (fun vs zs => vs) :=
  kbn_of F (fun _ _ _ _ _ _ us ws l1 l2 => match us, ws, l1, l2 with | [_, _], [], _, _ => rfl) fun r _ => r
abbrev s_NotAName_init : Stmt := inClass (topS 4) 0
abbrev N_NotAName_init : List Str := ["self", "name"]
abbrev P_NotAName_init : List Str := ["self", "name"]
theorem sc_NotAName_init : FnScope N_NotAName_init P_NotAName_init (defScope s_NotAName_init) := ⟨rfl, rfl, rfl, by decide +kernel, rfl, by decide +kernel, by decide +kernel⟩
theorem ok_NotAName_init (F : Fun K "__init__" "NotAName.__init__" s_NotAName_init f fd) (O : OexC K C) (no : PySem.W.findIn K (.ref C) "name" = some none) : FnOk P w K mg base CX0 1 f fd P_NotAName_init (spI1 C "name") := by
  refine F.ok sc_NotAName_init (fun vs H Q E h => ?_) (fun cdv A outer s H vs Q E hr h => ?_)
  · obtain ⟨a, v, rfl, _⟩ := h
    rfl
  · obtain ⟨a, v, rfl, e, k⟩ := h
    exact ⟨_, pss_one (ps_ost (pv 0) (pv 1)), _, rfl, _, rfl, a, C, rfl, O, no, .inl ⟨e, k⟩⟩
theorem kp_NotAName_init (F : Fun K "__init__" "NotAName.__init__" s_NotAName_init f fd) : KBn K fd P_NotAName_init 2 [] (fun us ws => us) (fun vs zs => vs) :=
  kbn_of F (fun _ _ _ _ _ _ us ws l1 l2 => match us, ws, l1, l2 with | [_, _], [], _, _ => rfl) fun r _ => r
abbrev s_is_integer : Stmt := topS 7
abbrev N_is_integer : List Str := ["value"]
abbrev P_is_integer : List Str := ["value"]
theorem sc_is_integer : FnScope N_is_integer P_is_integer (defScope s_is_integer) := ⟨rfl, rfl, rfl, by decide +kernel, rfl, by decide +kernel, by decide +kernel⟩
abbrev s_check_range : Stmt := topS 8
abbrev N_check_range : List Str := ["value", "least", "most"]
abbrev P_check_range : List Str := ["value", "least", "most"]
theorem sc_check_range : FnScope N_check_range P_check_range (defScope s_check_range) := ⟨rfl, rfl, rfl, by decide +kernel, rfl, by decide +kernel, by decide +kernel⟩
abbrev s_check_string : Stmt := topS 9
abbrev N_check_string : List Str := ["value"]
abbrev P_check_string : List Str := ["value"]
theorem sc_check_string : FnScope N_check_string P_check_string (defScope s_check_string) := ⟨rfl, rfl, rfl, by decide +kernel, rfl, by decide +kernel, by decide +kernel⟩
abbrev s_letters_of : Stmt := topS 13
abbrev N_letters_of : List Str := ["column", "letters", "left", "at"]
abbrev P_letters_of : List Str := ["column"]
theorem sc_letters_of : FnScope N_letters_of P_letters_of (defScope s_letters_of) := ⟨rfl, rfl, rfl, by decide +kernel, rfl, by decide +kernel, by decide +kernel⟩
abbrev s_is_letters : Stmt := topS 15
abbrev N_is_letters : List Str := ["text"]
abbrev P_is_letters : List Str := ["text"]
theorem sc_is_letters : FnScope N_is_letters P_is_letters (defScope s_is_letters) := ⟨rfl, rfl, rfl, by decide +kernel, rfl, by decide +kernel, by decide +kernel⟩
abbrev s_is_column_text : Stmt := topS 16
abbrev N_is_column_text : List Str := ["text"]
abbrev P_is_column_text : List Str := ["text"]
theorem sc_is_column_text : FnScope N_is_column_text P_is_column_text (defScope s_is_column_text) := ⟨rfl, rfl, rfl, by decide +kernel, rfl, by decide +kernel, by decide +kernel⟩
abbrev s_column_of : Stmt := topS 14
abbrev N_column_of : List Str := ["letters", "column", "letter"]
abbrev P_column_of : List Str := ["letters"]
theorem sc_column_of : FnScope N_column_of P_column_of (defScope s_column_of) := ⟨rfl, rfl, rfl, by decide +kernel, rfl, by decide +kernel, by decide +kernel⟩
end
/-- an error that the program raises -/
structure Er (K : PySem.W.Frag) (mg : Str → Option Value) (x q : Str) (st : Stmt) (f : Str) (S C fI : Addr) (fd : FuncData) : Prop where
  gC : mg x = some (.ref C)
  ec : ErrC K C fI
  xf : XfC K C
  no : PySem.W.findIn K (.ref C) f = some none
  F : Fun K "__init__" q st fI fd
  ln : LineOf K S C
  nS : C ≠ S
/-- the addresses -/
structure Ads where
  S : Addr
  CB : Addr
  CN : Addr
  iB : Addr
  iN : Addr
  dB : FuncData
  dN : FuncData
  f_is_integer : Addr
  f_check_range : Addr
  f_check_string : Addr
  f_letters_of : Addr
  f_is_letters : Addr
  f_is_column_text : Addr
  f_column_of : Addr
  d_is_integer : FuncData
  d_check_range : FuncData
  d_check_string : FuncData
  d_letters_of : FuncData
  d_is_letters : FuncData
  d_is_column_text : FuncData
  d_column_of : FuncData
structure TxtC (K : PySem.W.Frag) (mg : Str → Option Value) (p : Ads) : Prop where
  BadValue : Er K mg "BadValue" "BadValue.__init__" s_BadValue_init "value" p.S p.CB p.iB p.dB
  NotAName : Er K mg "NotAName" "NotAName.__init__" s_NotAName_init "name" p.S p.CN p.iN p.dN
  nBN : p.CB ≠ p.CN
  n_isinstance : mg "isinstance" = none
  n_int : mg "int" = none
  n_bool : mg "bool" = none
  n_str : mg "str" = none
  n_len : mg "len" = none
  n_divmod : mg "divmod" = none
  mg_COLUMNS : ∃ t, mg "COLUMNS" = some (.int 18278 t)
  mg__LETTERS : ∃ t, mg "_LETTERS" = some (.str A26 t)
  mg_is_integer : mg "is_integer" = some (.ref p.f_is_integer)
  F_is_integer : Fun K "is_integer" "is_integer" s_is_integer p.f_is_integer p.d_is_integer
  b_is_integer : Binds K p.d_is_integer P_is_integer []
  mg_check_range : mg "check_range" = some (.ref p.f_check_range)
  F_check_range : Fun K "check_range" "check_range" s_check_range p.f_check_range p.d_check_range
  b_check_range : Binds K p.d_check_range P_check_range []
  mg_check_string : mg "check_string" = some (.ref p.f_check_string)
  F_check_string : Fun K "check_string" "check_string" s_check_string p.f_check_string p.d_check_string
  b_check_string : Binds K p.d_check_string P_check_string []
  mg_letters_of : mg "letters_of" = some (.ref p.f_letters_of)
  F_letters_of : Fun K "letters_of" "letters_of" s_letters_of p.f_letters_of p.d_letters_of
  b_letters_of : Binds K p.d_letters_of P_letters_of []
  mg_is_letters : mg "is_letters" = some (.ref p.f_is_letters)
  F_is_letters : Fun K "is_letters" "is_letters" s_is_letters p.f_is_letters p.d_is_letters
  b_is_letters : Binds K p.d_is_letters P_is_letters []
  mg_is_column_text : mg "is_column_text" = some (.ref p.f_is_column_text)
  F_is_column_text : Fun K "is_column_text" "is_column_text" s_is_column_text p.f_is_column_text p.d_is_column_text
  b_is_column_text : Binds K p.d_is_column_text P_is_column_text []
  mg_column_of : mg "column_of" = some (.ref p.f_column_of)
  F_column_of : Fun K "column_of" "column_of" s_column_of p.f_column_of p.d_column_of
  b_column_of : Binds K p.d_column_of P_column_of []

def goodK (n : String) (g : Bool) : Prop := ∃ a b, kitB n "int" = some a ∧ kitB n "bool" = some b ∧ g = (a && !b)
def spIsInt (K : PySem.W.Frag) : Sp := fun vs H Q _ => ∃ (v : V) (n : String) (g : Bool), vs = [v] ∧ Knd K H v n ∧ goodK n g ∧ ∀ H', Same H H' → Q (.bl g) H'
/-- raises BadValue of v, NotAName of v -/
def bad (C : Addr) (f : Str) (H : Hp) (v : V) (E : XK) : Prop := ∀ d H', Same H H' → H d = none → H' d = some (.xd [(f, v)]) → E (.ref C) (some d) H'
theorem bad.at {C : Addr} {f : Str} {H H' : Hp} {v : V} {E : XK} (b : bad C f H v E) (e : Ex H H') : bad C f H' v E := fun d H2 s n x => b d H2 (e.trans s) (fresh_back e n) x
def spRange (K : PySem.W.Frag) (CB : Addr) : Sp := fun vs H Q E => ∃ (v : V) (lo hi : Int) (n : String) (g : Bool), vs = [v, .int lo, .int hi] ∧ Knd K H v n ∧ goodK n g ∧
  ((∃ i, v = .int i ∧ g = true ∧ lo ≤ i ∧ i ≤ hi ∧ ∀ H', Same H H' → Q .non H') ∨ ((g = true → ∃ i, v = .int i ∧ (i < lo ∨ hi < i)) ∧ bad CB "value" H v E))
def spString (K : PySem.W.Frag) (CB : Addr) : Sp := fun vs H Q E => ∃ (v : V) (n : String) (g : Bool), vs = [v] ∧ Knd K H v n ∧ kitB n "str" = some g ∧
  (g = true → ∀ H', Same H H' → Q .non H') ∧ (g = false → bad CB "value" H v E)
section
variable {P : Program} {w : World} {K : PySem.W.Frag} {mg : Str → Option Value} {base : Heap} {p : Ads}
theorem ok_is_integer (T : TxtC K mg p) : FnOk P w K mg base CX0 1 p.f_is_integer p.d_is_integer P_is_integer (spIsInt K) := by
  refine T.F_is_integer.ok sc_is_integer (fun vs H Q E h => ?_) (fun cdv A outer s H vs Q E hr h => ?_)
  · obtain ⟨v, n, g, rfl, _⟩ := h
    rfl
  · obtain ⟨v, n, g, rfl, kn, ⟨a, b, ha, hb, rfl⟩, k⟩ := h
    refine ⟨_, (pss_one (ps_ret (pe_and (pe_callB (id := "isinstance") call_isi (by rfl) T.n_isinstance (by decide +kernel) (pa_cons (pv 0) (pa_cons (pe_bltn (v := .ty "int") (by rfl) T.n_int (by decide +kernel) rfl) pa_nil))) (pe_one (pe_not (pe_callB (id := "isinstance") call_isi (by rfl) T.n_isinstance (by decide +kernel) (pa_cons (pv 0) (pa_cons (pe_bltn (v := .ty "bool") (by rfl) T.n_bool (by decide +kernel) rfl) pa_nil)))))))), ?_⟩
    exact (ev_andV (ev_isi kn ha (ev_var rfl)) fun _ => ev_notV (ev_isi kn hb (ev_var rfl))) H (Ex.refl H) _ fun H' e => k H' e
theorem ok_check_range (T : TxtC K mg p) : FnOk P w K mg base (L2.CX P w) 3 p.f_check_range p.d_check_range P_check_range (spRange K p.CB) := by
  have G_is_integer : FnOk P w K mg base CX0 1 p.f_is_integer p.d_is_integer P_is_integer (spIsInt K) := ok_is_integer T
  refine T.F_check_range.okX sc_check_range (fun vs H Q E h => ?_) (fun cdv A outer s H vs Q E hr h => ?_)
  · obtain ⟨v, lo, hi, n, g, rfl, _⟩ := h
    rfl
  · obtain ⟨v, lo, hi, n, g, rfl, kn, hg, h⟩ := h
    refine ⟨_, (pss_one (ps_if (PW.pt (pw_or (pt_not (pt_val (pe_call G_is_integer (hr.mono (by decide)) (by rfl) T.mg_is_integer T.F_is_integer.kp T.b_is_integer .nil pass0 (pa_cons (pv 0) pa_nil)))) (pw_or (pt_cmpR op_lt (pv 0) (pv 1) (nomark _)) (pw_or1 (pt_cmpR op_gt (pv 0) (pv 2) (nomark _)))))) (pss_one (ps_raise rfl (takes_of rfl rfl rfl rfl) (pmk_R (n := 1) T.BadValue.ec (ok_BadValue_init T.BadValue.F T.BadValue.ec.ox T.BadValue.no) (hr.mono (by decide)) (by rfl) T.BadValue.gC (kp_BadValue_init T.BadValue.F) hx0 (pa_cons (pv 0) pa_nil)))) pss_nil)), ?_⟩
    have ei : Ev (tCall (spIsInt K) [] E0 (tCons (tVar 0) tNil)) [some v, some (.int lo), some (.int hi)] H (.bl g) := fun H1 e Q q => ⟨_, rfl, v, n, g, rfl, kn.ext e, hg, fun H' s => q H' s⟩
    rcases h with ⟨i, rfl, rfl, h1, h2, k⟩ | ⟨h1, k⟩
    · refine s_when (b := false) (et_is (et_or (et_not (et_B ei)) fun _ => et_or (et_test (ev_op (ev_var rfl) (ev_var rfl) rv_I0)) fun _ => et_test (ev_op (ev_var rfl) (ev_var rfl) rv_I0)) ?_) (fun z => nomatch z) fun _ H1 e1 => k H1 e1
      show (!true || (decide (i < lo) || decide (hi < i))) = false
      simp
      omega
    · cases g with
      | false =>
        refine s_when (b := true) (et_is (et_or (b := true) (et_not (et_B ei)) fun z => nomatch z) rfl) (fun _ H1 e1 => ?_) fun z => nomatch z
        exact ⟨_, rfl, rfl, rfl, by decide, rr_e1 (Q := E) fun d H' nd sm hd => k d H' (e1.trans sm) (fresh_back e1 nd) hd⟩
      | true =>
        obtain ⟨i, rfl, h2⟩ := h1 rfl
        refine s_when (b := true) (et_is (et_or (et_not (et_B ei)) fun _ => et_or (et_test (ev_op (ev_var rfl) (ev_var rfl) rv_I0)) fun _ => et_test (ev_op (ev_var rfl) (ev_var rfl) rv_I0)) ?_) (fun _ H1 e1 => ?_) fun z => nomatch z
        · show (!true || (decide (i < lo) || decide (hi < i))) = true
          simp
          omega
        · exact ⟨_, rfl, rfl, rfl, by decide, rr_e1 (Q := E) fun d H' nd sm hd => k d H' (e1.trans sm) (fresh_back e1 nd) hd⟩
theorem ok_check_string (T : TxtC K mg p) : FnOk P w K mg base (L2.CX P w) 3 p.f_check_string p.d_check_string P_check_string (spString K p.CB) := by
  refine T.F_check_string.okX sc_check_string (fun vs H Q E h => ?_) (fun cdv A outer s H vs Q E hr h => ?_)
  · obtain ⟨v, n, g, rfl, _⟩ := h
    rfl
  · obtain ⟨v, n, g, rfl, kn, hk, h1, h2⟩ := h
    refine ⟨_, (pss_one (ps_if (pt_not (pt_val (pe_callB (id := "isinstance") call_isi (by rfl) T.n_isinstance (by decide +kernel) (pa_cons (pv 0) (pa_cons (pe_bltn (v := .ty "str") (by rfl) T.n_str (by decide +kernel) rfl) pa_nil))))) (pss_one (ps_raise rfl (takes_of rfl rfl rfl rfl) (pmk_R (n := 1) T.BadValue.ec (ok_BadValue_init T.BadValue.F T.BadValue.ec.ox T.BadValue.no) (hr.mono (by decide)) (by rfl) T.BadValue.gC (kp_BadValue_init T.BadValue.F) hx0 (pa_cons (pv 0) pa_nil)))) pss_nil)), ?_⟩
    have ei := ev_isi (σ := [some v]) kn hk (ev_var (i := 0) rfl)
    cases g with
    | true => exact s_when (b := false) (et_is (et_not (et_B ei)) rfl) (fun z => nomatch z) fun _ H1 e1 => h1 rfl H1 e1
    | false =>
      refine s_when (b := true) (et_is (et_not (et_B ei)) rfl) (fun _ H1 e1 => ?_) fun z => nomatch z
      exact ⟨_, rfl, rfl, rfl, by decide, rr_e1 (Q := E) fun d H' nd sm hd => h2 rfl d H' (e1.trans sm) (fresh_back e1 nd) hd⟩
end
end K15

set_option Elab.async false
set_option linter.all false
set_option maxRecDepth 100000
set_option maxHeartbeats 4000000
namespace TX
open PySem PySem.Spec PyProof.Rows L2 Pen EV2 Evl LamX
section
variable {K : PySem.W.Frag} {σ : L2.St} {H : Hp} {ta tb tc te : TE} {r r' : R2} {x y w z : V} {k : Bool} {l : List Nat}
theorem ev_chain (ha : Ev ta σ H x) (hb : Ev tb σ H y) (hr : RV r x y H (.bl k)) (h1 : k = true → Ev tc σ H w ∧ RV r' y w H z) (h0 : k = false → z = .bl false) : Ev (tChain r r' ta tb tc) σ H z := fun H1 e Q q =>
  ha H1 e _ fun H2 e2 => hb H2 (e.trans e2) _ fun H3 e3 => hr H3 ((e.trans e2).trans e3) _ fun H4 e4 => ⟨k, rfl, by
    have e5 := (e2.trans e3).trans e4
    cases k with
    | true => exact (h1 rfl).1 H4 (e.trans e5) _ fun H5 e6 => (h1 rfl).2 H5 ((e.trans e5).trans e6) Q fun H6 e7 => q H6 ((e5.trans e6).trans e7)
    | false =>
      have g := q H4 e5
      rw [h0 rfl] at g
      exact g⟩
theorem ev_lenS (h : Ev ta σ H (.str (S l))) (hl : l.length ≤ 100000) : Ev (tCB (rLenX K) (tCons ta tNil)) σ H (.int l.length) := fun H1 e Q q =>
  h H1 e _ fun H2 e2 => ⟨_, l.length, rfl, ⟨by rw [len_S]; exact sz_of hl, (len_S l).symm⟩, q H2 e2⟩
theorem ev_len26 (h : Ev ta σ H (.str A26)) : Ev (tCB (rLenX K) (tCons ta tNil)) σ H (.int 26) := fun H1 e Q q =>
  h H1 e _ fun H2 e2 => ⟨_, 26, rfl, ⟨by decide +kernel, by decide +kernel⟩, q H2 e2⟩
theorem q_cbK {r : List V → Hp → VK → Prop} {tr : TA} {vs : List V} {g : TG} {tz : TS} {D : Ends} (h : EvA tr σ H vs) (k : ∀ H1, Ex H H1 → r vs H1 fun x H2 => g x σ H2 (tz D)) : tSeq (tAsg (tCB r tr) g) tz D σ H :=
  h H (Ex.refl H) _ fun H1 e => k H1 e
def rUpper : V → List V → Hp → VK → Prop := fun x xs H Q => ∃ a, x = .str a ∧ xs = [] ∧ a.length ≤ 5592405 ∧ Q (.str (Txt.upper a)) H
theorem ev_upper (h : Ev te σ H (.str (S l))) (ha : ∀ c ∈ l, c < 128) (hl : l.length ≤ 100000) : Ev (tBM0 K "str" rUpper te) σ H (.str (S (l.map up))) := fun H1 e Q q =>
  h H1 e _ fun H2 e2 => ⟨rfl, S l, rfl, rfl, by rw [len_S]; omega, by rw [up_S ha]; exact q H2 e2⟩
theorem ev_isascii (h : Ev te σ H (.str (S l))) (ha : ∀ c ∈ l, c < 128) : Ev (tBM0 K "str" (fun x xs H Q => ∃ a, x = .str a ∧ xs = [] ∧ True ∧ Q (.bl (Txt.isascii a)) H) te) σ H (.bl true) := fun H1 e Q q =>
  h H1 e _ fun H2 e2 => ⟨rfl, S l, rfl, rfl, True.intro, by rw [ascii_S ha]; exact q H2 e2⟩
theorem ev_isalpha (h : Ev te σ H (.str (S l))) (ha : ∀ c ∈ l, c < 128) : Ev (tBM0 K "str" (fun x xs H Q => ∃ a, x = .str a ∧ xs = [] ∧ True ∧ Q (.bl (Txt.isalpha a)) H) te) σ H (.bl (decide (0 < l.length) && l.all let1)) := fun H1 e Q q =>
  h H1 e _ fun H2 e2 => ⟨rfl, S l, rfl, rfl, True.intro, by rw [alpha_S ha]; exact q H2 e2⟩
theorem ev_index {W : WX} {c : Nat} (ha : Ev ta σ H (.str A26)) (hb : Ev tb σ H (sg c)) (h1 : 65 ≤ c) (h2 : c ≤ 90) : Ev (tBMS K "str" (rIndexX W) ta (tCons tb tNil)) σ H (.int ((c - 65 : Nat) : Int)) := fun H1 e Q q =>
  ha H1 e _ fun H2 e2 => ⟨rfl, hb H2 (e.trans e2) _ fun H3 e3 => ⟨A26, S [c], rfl, rfl, fun k hk => by
    rw [ix_of c (by omega) h1 h2] at hk
    rw [← Option.some.inj hk]
    exact q H3 (e2.trans e3), fun hn => by
    rw [ix_of c (by omega) h1 h2] at hn
    cases hn⟩⟩
end
def colText (l : List Nat) : Bool := decide (1 ≤ l.length) && decide (l.length ≤ 3) && l.all let1
theorem up_rng {l : List Nat} (h : l.all let1 = true) : ∀ c ∈ l.map up, 65 ≤ c ∧ c ≤ 90 := fun c hc => by
  obtain ⟨x, hx, rfl⟩ := List.mem_map.mp hc
  exact of_decide_eq_true (List.all_eq_true.mp h x hx)
end TX
namespace K15
open PySem PySem.Spec PyProof.Rows L2 Pen EV2 Evl TX LamX
def spLettersOf (K : PySem.W.Frag) (CB : Addr) : Sp := fun vs H Q E => ∃ v : V, vs = [v] ∧ ((∃ c : Nat, v = .int c ∧ 1 ≤ c ∧ c ≤ 18278 ∧ ∀ H', Same H H' → Q (.str (S (letsF 3 c))) H') ∨
  (∃ (n : String) (g : Bool), Knd K H v n ∧ goodK n g ∧ (g = true → ∃ i, v = .int i ∧ (i < 1 ∨ 18278 < i)) ∧ bad CB "value" H v E))
def spAlpha (f : List Nat → Bool) : Sp := fun vs H Q _ => ∃ l : List Nat, vs = [.str (S l)] ∧ (∀ c ∈ l, c < 128) ∧ l.length ≤ 1000 ∧ ∀ H', Same H H' → Q (.bl (f l)) H'
def spColumnOf (K : PySem.W.Frag) (CB CN : Addr) : Sp := fun vs H Q E => ∃ v : V, vs = [v] ∧
  ((∃ l : List Nat, v = .str (S l) ∧ (∀ c ∈ l, c < 128) ∧ l.length ≤ 1000 ∧ (colText l = true → ∀ H', Same H H' → Q (.int (val (l.map up))) H') ∧ (colText l = false → bad CN "name" H v E)) ∨
  (∃ n : String, Knd K H v n ∧ kitB n "str" = some false ∧ bad CB "value" H v E))
section
variable {P : Program} {w : World} {K : PySem.W.Frag} {mg : Str → Option Value} {base : Heap} {p : Ads}
theorem ok_letters_of (T : TxtC K mg p) : FnOk P w K mg base (L2.CX P w) 4 p.f_letters_of p.d_letters_of P_letters_of (spLettersOf K p.CB) := by
  have G_check_range : FnOk P w K mg base (L2.CX P w) 3 p.f_check_range p.d_check_range P_check_range (spRange K p.CB) := ok_check_range T
  obtain ⟨tC, hCOL⟩ := T.mg_COLUMNS
  obtain ⟨tL, hLET⟩ := T.mg__LETTERS
  refine T.F_letters_of.okX sc_letters_of (fun vs H Q E h => ?_) (fun cdv A outer s H vs Q E hr h => ?_)
  · obtain ⟨v, rfl, _⟩ := h
    rfl
  · obtain ⟨v, rfl, h⟩ := h
    refine ⟨_, (pss_cons (ps_expr (pe_call G_check_range (hr.mono (by decide)) (by rfl) T.mg_check_range T.F_check_range.kp T.b_check_range .nil (passes_call (takes_of rfl rfl rfl rfl) fun _ _ _ _ h => h) (pa_cons (pv 0) (pa_cons pe_int (pa_cons (pe_glob (v := .int 18278) (by rfl) hCOL ⟨_, rfl⟩) pa_nil)))))
      (pss_cons (ps_set (i := 1) sc_letters_of.nd rfl (Or.inl rfl) pe_str)
      (pss_cons (ps_set (i := 2) sc_letters_of.nd rfl (Or.inl rfl) (pv 0))
      (pss_cons (ps_while (passes_of rfl) (pt_cmpR op_gt (pv 2) pe_int (nomark _)) (pss_cons (ps_asg (pe_callB (id := "divmod") call_divmod (by rfl) T.n_divmod (by decide +kernel) (pa_cons (pe_op op_sub (pv 2) pe_int) (pa_cons (pe_callB (id := "len") call_len (by rfl) T.n_len (by decide +kernel) (pa_cons (pe_glob (v := .str A26) (by rfl) hLET ⟨_, rfl⟩) pa_nil)) pa_nil))) (pg_tup (by rfl) (pgs_cons (pg_name (i := 2) sc_letters_of.nd rfl (Or.inl rfl)) (pgs_cons (pg_name (i := 3) sc_letters_of.nd rfl (Or.inl rfl)) pgs_nil))))
      (pss_one (ps_set (i := 1) sc_letters_of.nd rfl (Or.inl rfl) (pe_op op_add_str (pe_ix ix_str (pe_glob (v := .str A26) (by rfl) hLET ⟨_, rfl⟩) (pv 3) (fun _ _ => rfl)) (pv 1))))))
      (pss_one (ps_ret (pv 1))))))), ?_⟩
    rcases h with ⟨c, rfl, c1, c2, k⟩ | ⟨n, g, kn, hg, h1, k⟩
    · refine q_drop (v := .non) (fun H1 e Q q => ⟨_, rfl, .int c, 1, 18278, "int", true, rfl, knd_int, ⟨true, false, by decide +kernel, by decide +kernel, rfl⟩, .inl ⟨c, rfl, rfl, by omega, by omega, fun H' s => q H' s⟩⟩) fun H1 e1 => ?_
      refine q_asg ev_c fun H2 e2 => ?_
      refine q_asg (ev_var rfl) fun H3 e3 => ?_
      have e03 := (e1.trans e2).trans e3
      refine q_while (fun m σ' H' => ∃ (l f : Nat) (acc : List Nat) (at_ : Option V), σ' = [some (.int c), some (.str (S acc)), some (.int l), at_] ∧ letsF f l ++ acc = letsF 3 c ∧ l < bnd f ∧ l = m ∧ Ex H H') c ⟨c, 3, [], none, rfl, List.append_nil _, by show c < 18279; omega, rfl, e03⟩ ?_
      rintro m σ' H4 ⟨l, f, acc, at_, rfl, hL, hb, rfl, e4⟩
      refine ⟨_, et_test (ev_op (ev_var rfl) ev_c rv_I0), fun ht H5 e5 => ?_, fun hf H5 e5 => ?_⟩
      · have hl : (0 : Int) < l := of_decide_eq_true ht
        obtain ⟨n, rfl⟩ : ∃ n, l = n + 1 := ⟨l - 1, by omega⟩
        obtain ⟨f, rfl⟩ : ∃ g, f = g + 1 := by
          cases f with
          | zero => exact absurd hb (by show ¬ n + 1 < 1; omega)
          | succ g => exact ⟨g, rfl⟩
        have hacc : acc.length ≤ 3 := by
          have z := congrArg List.length hL
          rw [List.length_append] at z
          have := lets_len 3 c
          omega
        refine ⟨_, fun σ2 H2 n => n, ?_⟩
        have q1 : ((n + 1 : Nat) : Int) - 1 = (n : Int) := by omega
        refine q_cbK (ea_cons (ev_op (ev_var rfl) ev_c rv_I0) (ea_cons (ev_len26 (K := K) ev_c) ea_nil)) fun H6 e6 => ⟨_, _, rfl, ⟨by decide, by decide⟩, fun t ht => ?_⟩
        refine ⟨t, _, rfl, st_of upd_same, rfl, _, _, rfl, _, _, rfl, rfl, ?_⟩
        have e7 := (e4.trans e5).trans (e6.trans (Ex.new (o := .tup [.int ((((n + 1 : Nat) : Int) - 1) / 26), .int ((((n + 1 : Nat) : Int) - 1) % 26)]) ht))
        have hm : n % 26 < 26 := Nat.mod_lt _ (by decide)
        show tAsg _ _ _ _ _
        have q2 : (((n + 1 : Nat) : Int) - 1) % 26 = ((n % 26 : Nat) : Int) := by omega
        have q3 : (((n + 1 : Nat) : Int) - 1) / 26 = ((n / 26 : Nat) : Int) := by omega
        rw [q2, q3]
        refine s_asg (v := .str (S ([65 + n % 26] ++ acc))) ?hv fun H8 e8 => ?hk
        case hv =>
          refine ev_addS (l := [65 + n % 26]) (m := acc) ?_ (ev_var rfl) (by show 1 + acc.length ≤ 100000; omega)
          exact ev_op ev_c (ev_var rfl) (rv_ixS (w := A26) (by decide +kernel) (at_of _ hm))
        case hk =>
          rw [q2, q3] at e7
          refine ⟨n / 26, by omega, n / 26, f, [65 + n % 26] ++ acc, _, rfl, ?_, bnd_div hb, rfl, e7.trans e8⟩
          rw [← List.append_assoc, ← lets_succ]
          exact hL
      · have hl : l = 0 := by
          have : ¬ (0 : Int) < l := of_decide_eq_false hf
          omega
        subst hl
        rw [lets_zero] at hL
        have hL : acc = letsF 3 c := hL
        subst hL
        exact ⟨_, rfl, k H5 (e4.trans e5)⟩
    · exact ⟨_, rfl, v, 1, 18278, n, g, rfl, kn, hg, .inr ⟨h1, k⟩⟩
theorem ok_is_letters (T : TxtC K mg p) : FnOk P w K mg base CX0 1 p.f_is_letters p.d_is_letters P_is_letters (spAlpha fun l => decide (0 < l.length) && l.all let1) := by
  refine T.F_is_letters.ok sc_is_letters (fun vs H Q E h => ?_) (fun cdv A outer s H vs Q E hr h => ?_)
  · obtain ⟨l, rfl, _⟩ := h
    rfl
  · obtain ⟨l, rfl, ha, hl, k⟩ := h
    refine ⟨_, (pss_one (ps_ret (pe_and (pe_bm0 PySem.F.plainAttrs_str PySem.F.slot_str_isascii PySem.F.type_str_isascii mt_isascii (pv 0)) (pe_one (pe_bm0 PySem.F.plainAttrs_str PySem.F.slot_str_isalpha PySem.F.type_str_isalpha mt_isalpha (pv 0)))))), ?_⟩
    exact (ev_andV (ev_isascii (K := K) (ev_var rfl) ha) fun _ => ev_isalpha (K := K) (ev_var rfl) ha) H (Ex.refl H) _ fun H' e => k H' e
theorem ok_is_column_text (T : TxtC K mg p) : FnOk P w K mg base CX0 2 p.f_is_column_text p.d_is_column_text P_is_column_text (spAlpha colText) := by
  have G_is_letters : FnOk P w K mg base CX0 1 p.f_is_letters p.d_is_letters P_is_letters (spAlpha fun l => decide (0 < l.length) && l.all let1) := ok_is_letters T
  refine T.F_is_column_text.ok sc_is_column_text (fun vs H Q E h => ?_) (fun cdv A outer s H vs Q E hr h => ?_)
  · obtain ⟨l, rfl, _⟩ := h
    rfl
  · obtain ⟨l, rfl, ha, hl, k⟩ := h
    refine ⟨_, (pss_one (ps_ret (pe_and (pe_chain op_le op_le pe_int (pe_callB (id := "len") call_len (by rfl) T.n_len (by decide +kernel) (pa_cons (pv 0) pa_nil)) pe_int) (pe_one (pe_call G_is_letters (hr.mono (by decide)) (by rfl) T.mg_is_letters T.F_is_letters.kp T.b_is_letters .nil pass0 (pa_cons (pv 0) pa_nil)))))), ?_⟩
    have e1 : Ev (tCall (spAlpha fun l => decide (0 < l.length) && l.all let1) [] E0 (tCons (tVar 0) tNil)) [some (.str (S l))] H (.bl (decide (0 < l.length) && l.all let1)) := fun H1 e Q q => ⟨_, rfl, l, rfl, ha, hl, fun H' s => q H' s⟩
    refine (ev_andV (a := decide (1 ≤ l.length) && decide (l.length ≤ 3)) (ev_chain (k := decide ((1 : Int) ≤ l.length)) ev_c (ev_lenS (K := K) (ev_var rfl) (by omega)) rv_I0 (fun h1 => ⟨ev_c, fun H1 e Q q => ⟨_, _, rfl, rfl, ?g1⟩⟩) (fun h0 => ?g2)) fun _ => e1) H (Ex.refl H) _ fun H' e => ?g3
    case g1 =>
      have z : decide ((l.length : Int) ≤ 3) = (decide (1 ≤ l.length) && decide (l.length ≤ 3)) := by
        have h2 : (1 : Int) ≤ l.length := of_decide_eq_true h1
        have h3 : 1 ≤ l.length := by omega
        rw [decide_eq_true h3, Bool.true_and]
        exact decide_eq_decide.mpr (by omega)
      show Q (.bl (decide ((l.length : Int) ≤ 3))) H1
      rw [z]
      exact q H1 (Ex.refl H1)
    case g2 =>
      have h2 : ¬ (1 : Int) ≤ l.length := of_decide_eq_false h0
      rw [decide_eq_false (show ¬ 1 ≤ l.length by omega)]
      rfl
    case g3 =>
      have z : (decide (1 ≤ l.length) && decide (l.length ≤ 3) && (decide (0 < l.length) && l.all let1)) = colText l := by
        unfold colText
        by_cases h : 1 ≤ l.length
        · rw [decide_eq_true (show 0 < l.length from h)]
          simp
        · rw [decide_eq_false h]
          simp
      have g := k H' e
      rw [← z] at g
      exact g
theorem ok_column_of (T : TxtC K mg p) : FnOk P w K mg base (L2.CX P w) 4 p.f_column_of p.d_column_of P_column_of (spColumnOf K p.CB p.CN) := by
  have G_check_string : FnOk P w K mg base (L2.CX P w) 3 p.f_check_string p.d_check_string P_check_string (spString K p.CB) := ok_check_string T
  have G_is_column_text : FnOk P w K mg base CX0 2 p.f_is_column_text p.d_is_column_text P_is_column_text (spAlpha colText) := ok_is_column_text T
  obtain ⟨tL, hLET⟩ := T.mg__LETTERS
  refine T.F_column_of.okX sc_column_of (fun vs H Q E h => ?_) (fun cdv A outer s H vs Q E hr h => ?_)
  · obtain ⟨v, rfl, _⟩ := h
    rfl
  · obtain ⟨v, rfl, h⟩ := h
    refine ⟨_, (pss_cons (ps_expr (pe_call G_check_string (hr.mono (by decide)) (by rfl) T.mg_check_string T.F_check_string.kp T.b_check_string .nil (passes_call (takes_of rfl rfl rfl rfl) fun _ _ _ _ h => h) (pa_cons (pv 0) pa_nil)))
      (pss_cons (ps_if (pt_not (pt_val (pe_call G_is_column_text (hr.mono (by decide)) (by rfl) T.mg_is_column_text T.F_is_column_text.kp T.b_is_column_text .nil pass0 (pa_cons (pv 0) pa_nil)))) (pss_one (ps_raise rfl (takes_of rfl rfl rfl rfl) (pmk_R (n := 1) T.NotAName.ec (ok_NotAName_init T.NotAName.F T.NotAName.ec.ox T.NotAName.no) (hr.mono (by decide)) (by rfl) T.NotAName.gC (kp_NotAName_init T.NotAName.F) hx0 (pa_cons (pv 0) pa_nil)))) pss_nil)
      (pss_cons (ps_set (i := 1) sc_column_of.nd rfl (Or.inl rfl) pe_int)
      (pss_cons (ps_for (passes_of rfl) rfl (pi_str (pe_bm0 PySem.F.plainAttrs_str PySem.F.slot_str_upper PySem.F.type_str_upper mt_upper (pv 0))) (pg_name (i := 2) sc_column_of.nd rfl (Or.inl rfl)) (pss_one (ps_set (i := 1) sc_column_of.nd rfl (Or.inl rfl) (pe_op op_add (pe_op op_add (pe_op op_mul (pv 1) (pe_callB (id := "len") call_len (by rfl) T.n_len (by decide +kernel) (pa_cons (pe_glob (v := .str A26) (by rfl) hLET ⟨_, rfl⟩) pa_nil))) (pe_bmS PySem.F.plainAttrs_str PySem.F.slot_str_index PySem.F.type_str_index (mt_indexX rfl (takes_of rfl rfl rfl rfl)) (pe_glob (v := .str A26) (by rfl) hLET ⟨_, rfl⟩) (pa_cons (pv 2) pa_nil))) pe_int))))
      (pss_one (ps_ret (pv 1))))))), ?_⟩
    rcases h with ⟨l, rfl, ha, hl, h1, h2⟩ | ⟨n, kn, hk, h1⟩
    · refine q_drop (v := .non) (fun H1 e Q q => ⟨_, rfl, .str (S l), "str", true, rfl, knd_str, by decide +kernel, fun _ H' s => q H' s, fun z => nomatch z⟩) fun H1 e1 => ?_
      have ec : Ev (tCall (spAlpha colText) [] E0 (tCons (tVar 0) tNil)) [some (.str (S l)), none, none] H1 (.bl (colText l)) := fun H2 e Q q => ⟨_, rfl, l, rfl, ha, hl, fun H' s => q H' s⟩
      refine q_when (et_not (et_B ec)) (fun hb H2 e2 => ?_) (fun hb H2 e2 => ?_)
      · have hb : colText l = false := by simpa using hb
        exact ⟨_, rfl, rfl, rfl, by decide, rr_e1 (Q := E) fun d H' nd sm hd => h2 hb d H' ((e1.trans e2).trans sm) (fresh_back (e1.trans e2) nd) hd⟩
      · have hb : colText l = true := by simpa using hb
        have hall : l.all let1 = true := by
          unfold colText at hb
          simp only [Bool.and_eq_true] at hb
          exact hb.2
        have rng := up_rng hall
        refine q_asg ev_c fun H3 e3 => ?_
        have e03 := (e1.trans e2).trans e3
        refine q_forS (ev_upper (K := K) (ev_var rfl) ha (by omega)) (fun i σ' H' => ∃ lt : Option V, σ' = [some (.str (S l)), some (.int (val ((l.map up).take i))), lt] ∧ Ex H H') (fun H4 e4 => ⟨_, rfl, e03.trans e4⟩) ?_ ?_
        · rintro i c σ' H4 hc ⟨lt, rfl, e4⟩
          have hm := rng c (List.mem_of_getElem? hc)
          have tk : (l.map up).take (i + 1) = (l.map up).take i ++ [c] := by
            rw [List.take_add_one, hc]
            rfl
          refine s_asg (v := .int (val ((l.map up).take (i + 1)))) ?_ fun H5 e5 => ⟨_, rfl, e4.trans e5⟩
          rw [tk, val_snoc]
          exact ev_op (ev_op (ev_op (ev_var rfl) (ev_len26 (K := K) ev_c) (rv_I (.inr ⟨by decide, by decide⟩))) (ev_index (K := K) ev_c (ev_var rfl) hm.1 hm.2) rv_I0) ev_c rv_I0
        · rintro σ' H4 ⟨lt, rfl, e4⟩
          rw [List.take_length]
          exact ⟨_, rfl, h1 hb H4 e4⟩
    · exact ⟨_, rfl, v, n, false, rfl, kn, hk, (fun z => nomatch z), fun _ => h1⟩
end
end K15

set_option Elab.async false
set_option linter.all false
set_option maxRecDepth 100000
set_option maxHeartbeats 4000000
namespace TX
open PySem PySem.Spec PyProof.Rows L2 Pen EV2 Evl LamX
section
variable {K : PySem.W.Frag} {σ : L2.St} {H : Hp} {ta tb tc te : TE} {t : TT} {v : V} {b : Bool} {l : List Nat} {c : Nat}
theorem ev_if (h : EvT t σ H b) (h1 : b = true → Ev ta σ H v) (h2 : b = false → Ev tb σ H v) : Ev (tIf t ta tb) σ H v := fun H1 e Q q =>
  h H1 e _ fun H2 e2 => by
    cases b with
    | true => exact h1 rfl H2 (e.trans e2) Q fun H3 e3 => q H3 (e2.trans e3)
    | false => exact h2 rfl H2 (e.trans e2) Q fun H3 e3 => q H3 (e2.trans e3)
theorem ev_inA (ha : Ev ta σ H (sg c)) (hb : Ev tb σ H (.str A26)) (hc : c < 128) : Ev (tOp rInS ta tb) σ H (.bl (decide (65 ≤ c ∧ c ≤ 90))) := fun H1 e Q q =>
  ha H1 e _ fun H2 e2 => hb H2 (e.trans e2) _ fun H3 e3 => ⟨c, A26, rfl, rfl, by
    rw [in_of c hc]
    exact q H3 (e2.trans e3)⟩
theorem inV_false (f : Nat → Bool) : ∀ l : List Nat, (!inV (.bl false) (l.map fun c => V.bl (f c))) = l.all f
  | [] => rfl
  | c :: l => by
    have ih := inV_false f l
    show (!(eqV (.bl (f c)) (.bl false) || inV (.bl false) (l.map fun c => V.bl (f c)))) = (f c && l.all f)
    rw [← ih]
    cases f c <;> cases inV (.bl false) (l.map fun c => V.bl (f c)) <;> rfl
theorem flat_bls (f : Nat → Bool) : ∀ l : List Nat, (l.map fun c => V.bl (f c)).all flatV = true
  | [] => rfl
  | c :: l => by
    show (flatV (.bl (f c)) && (l.map fun c => V.bl (f c)).all flatV) = true
    rw [flat_bls f l]
    rfl
def rLower : V → List V → Hp → VK → Prop := fun x xs H Q => ∃ a, x = .str a ∧ xs = [] ∧ a.length ≤ 5592405 ∧ Q (.str (Txt.lower a)) H
theorem ev_lower (h : Ev te σ H (sg c)) (hc : c < 128) : Ev (tBM0 K "str" rLower te) σ H (sg (low c)) := fun H1 e Q q =>
  h H1 e _ fun H2 e2 => ⟨rfl, S [c], rfl, rfl, by rw [len_S]; show 1 ≤ 5592405; decide, by rw [low_of c hc]; exact q H2 e2⟩
theorem up_low {c : Nat} (h : 65 ≤ c ∧ c ≤ 90) : up (low c) = c ∧ low c < 128 := by
  unfold up low
  rw [if_pos h, if_pos (by omega)]
  omega
theorem up_cap {c : Nat} (h : 65 ≤ c ∧ c ≤ 90) : up c = c ∧ c < 128 := by
  unfold up
  rw [if_neg (by omega)]
  omega
end
end TX
namespace K15
open PySem PySem.Spec PyProof.Rows L2 Pen EV2 Evl TX LamX
abbrev s_l_signs : Stmt := topS 21
abbrev N_l_signs : List Str := []
abbrev P_l_signs : List Str := []
theorem sc_l_signs : FnScope N_l_signs P_l_signs (defScope s_l_signs) := ⟨rfl, rfl, rfl, by decide +kernel, rfl, by decide +kernel, by decide +kernel⟩
abbrev s_l_letters : Stmt := topS 22
abbrev N_l_letters : List Str := ["_law_column_here", "_law_found", "_law_left", "_law_turn"]
abbrev P_l_letters : List Str := ["_law_column_here"]
theorem sc_l_letters : FnScope N_l_letters P_l_letters (defScope s_l_letters) := ⟨rfl, rfl, rfl, by decide +kernel, rfl, by decide +kernel, by decide +kernel⟩
abbrev s_l_column : Stmt := topS 23
abbrev N_l_column : List Str := ["_law_letters_here", "_law_found", "_law_sign"]
abbrev P_l_column : List Str := ["_law_letters_here"]
theorem sc_l_column : FnScope N_l_column P_l_column (defScope s_l_column) := ⟨rfl, rfl, rfl, by decide +kernel, rfl, by decide +kernel, by decide +kernel⟩
abbrev s_l_is_letters : Stmt := topS 24
abbrev N_l_is_letters : List Str := ["_law_text", "_law_sign"]
abbrev P_l_is_letters : List Str := ["_law_text"]
theorem sc_l_is_letters : FnScope N_l_is_letters P_l_is_letters (defScope s_l_is_letters) := ⟨rfl, rfl, rfl, by decide +kernel, rfl, by decide +kernel, by decide +kernel⟩
abbrev s_l_mixed_case : Stmt := topS 25
abbrev N_l_mixed_case : List Str := ["_law_pen_here", "_law_text", "_law_found", "_law_sign"]
abbrev P_l_mixed_case : List Str := ["_law_pen_here", "_law_text"]
theorem sc_l_mixed_case : FnScope N_l_mixed_case P_l_mixed_case (defScope s_l_mixed_case) := ⟨rfl, rfl, rfl, by decide +kernel, rfl, by decide +kernel, by decide +kernel⟩
abbrev s_l_column_drawn : Stmt := topS 27
abbrev N_l_column_drawn : List Str := ["_law_pen_here"]
abbrev P_l_column_drawn : List Str := ["_law_pen_here"]
theorem sc_l_column_drawn : FnScope N_l_column_drawn P_l_column_drawn (defScope s_l_column_drawn) := ⟨rfl, rfl, rfl, by decide +kernel, rfl, by decide +kernel, by decide +kernel⟩
abbrev s_l_told : Stmt := topS 26
abbrev N_l_told : List Str := ["_law_call", "_law_told_here", "e"]
abbrev P_l_told : List Str := ["_law_call"]
theorem sc_l_told : FnScope N_l_told P_l_told (defScope s_l_told) := ⟨rfl, rfl, rfl, by decide +kernel, rfl, by decide +kernel, by decide +kernel⟩
abbrev s_l_letters_right : Stmt := topS 28
abbrev N_l_letters_right : List Str := ["_law_pen_here", "_law_column_here", "_law_letters_here", "_law_behind", "_law_back"]
abbrev P_l_letters_right : List Str := ["_law_pen_here", "_law_column_here"]
theorem sc_l_letters_right : FnScope N_l_letters_right P_l_letters_right (defScope s_l_letters_right) := ⟨rfl, rfl, rfl, by decide +kernel, rfl, by decide +kernel, by decide +kernel⟩
abbrev s_l_word_right : Stmt := topS 29
abbrev N_l_word_right : List Str := ["_law_pen_here", "_law_pool", "_law_turn", "_law_due", "_law_word"]
abbrev P_l_word_right : List Str := ["_law_pen_here"]
theorem sc_l_word_right : FnScope N_l_word_right P_l_word_right (defScope s_l_word_right) := ⟨rfl, rfl, rfl, by decide +kernel, rfl, by decide +kernel, by decide +kernel⟩
abbrev s_l_refused_right : Stmt := topS 30
abbrev N_l_refused_right : List Str := ["_law_pen_here", "_law_told_here", "e", "_law_odd", "_law_thing"]
abbrev P_l_refused_right : List Str := ["_law_pen_here"]
theorem sc_l_refused_right : FnScope N_l_refused_right P_l_refused_right (defScope s_l_refused_right) := ⟨rfl, rfl, rfl, by decide +kernel, rfl, by decide +kernel, by decide +kernel⟩
abbrev s_law : Stmt := topS 31
abbrev N_law : List Str := ["_law_script", "_law_pen_here", "_law_lap"]
abbrev P_law : List Str := ["_law_script"]
theorem sc_law : FnScope N_law P_law (defScope s_law) := ⟨rfl, rfl, rfl, by decide +kernel, rfl, by decide +kernel, by decide +kernel⟩
structure AdL where
  f_signs : Addr
  d_signs : FuncData
  f_letters : Addr
  d_letters : FuncData
  f_column : Addr
  d_column : FuncData
  f_is_letters : Addr
  d_is_letters : FuncData
  f_mixed_case : Addr
  d_mixed_case : FuncData
  f_column_drawn : Addr
  d_column_drawn : FuncData
  f_pick : Addr
  d_pick : FuncData
  f_draw : Addr
  d_draw : FuncData
  f_pen : Addr
  d_pen : FuncData
structure TxtH (K : PySem.W.Frag) (mg : Str → Option Value) (p : AdL) : Prop where
  n_list : mg "list" = none
  n_int : mg "int" = none
  n_len : mg "len" = none
  n_range : mg "range" = none
  n_min : mg "min" = none
  n_max : mg "max" = none
  mg_l_signs : mg "_law_signs" = some (.ref p.f_signs)
  F_l_signs : Fun K "_law_signs" "_law_signs" s_l_signs p.f_signs p.d_signs
  b_l_signs : Binds K p.d_signs P_l_signs []
  mg_l_letters : mg "_law_letters" = some (.ref p.f_letters)
  F_l_letters : Fun K "_law_letters" "_law_letters" s_l_letters p.f_letters p.d_letters
  b_l_letters : Binds K p.d_letters P_l_letters []
  mg_l_column : mg "_law_column" = some (.ref p.f_column)
  F_l_column : Fun K "_law_column" "_law_column" s_l_column p.f_column p.d_column
  b_l_column : Binds K p.d_column P_l_column []
  mg_l_is_letters : mg "_law_is_letters" = some (.ref p.f_is_letters)
  F_l_is_letters : Fun K "_law_is_letters" "_law_is_letters" s_l_is_letters p.f_is_letters p.d_is_letters
  b_l_is_letters : Binds K p.d_is_letters P_l_is_letters []
  mg_l_mixed_case : mg "_law_mixed_case" = some (.ref p.f_mixed_case)
  F_l_mixed_case : Fun K "_law_mixed_case" "_law_mixed_case" s_l_mixed_case p.f_mixed_case p.d_mixed_case
  b_l_mixed_case : Binds K p.d_mixed_case P_l_mixed_case []
  mg_l_column_drawn : mg "_law_column_drawn" = some (.ref p.f_column_drawn)
  F_l_column_drawn : Fun K "_law_column_drawn" "_law_column_drawn" s_l_column_drawn p.f_column_drawn p.d_column_drawn
  b_l_column_drawn : Binds K p.d_column_drawn P_l_column_drawn []
  mg_l_pick : mg "_law_pick" = some (.ref p.f_pick)
  F_l_pick : Fun K "_law_pick" "_law_pick" s_l_pick p.f_pick p.d_pick
  b_l_pick : Binds K p.d_pick P_l_pick []
  mg_l_draw : mg "_law_draw" = some (.ref p.f_draw)
  F_l_draw : Fun K "_law_draw" "_law_draw" s_l_draw p.f_draw p.d_draw
  b_l_draw : Binds K p.d_draw P_l_draw []
  mg_l_pen : mg "_law_pen" = some (.ref p.f_pen)
  F_l_pen : Fun K "_law_pen" "_law_pen" s_l_pen p.f_pen p.d_pen
  b_l_pen : Binds K p.d_pen P_l_pen []

def spSigns : Sp := fun vs H Q _ => vs = [] ∧ ∀ H', Same H H' → Q (.str A26) H'
def spLetters : Sp := fun vs H Q _ => ∃ c : Nat, vs = [.int c] ∧ 1 ≤ c ∧ c ≤ 18278 ∧ ∀ H', Same H H' → Q (.str (S (letsF 3 c))) H'
def spColumn : Sp := fun vs H Q _ => ∃ l : List Nat, vs = [.str (S l)] ∧ (∀ c ∈ l, c < 128) ∧ l.length ≤ 1000 ∧ l.all let1 = true ∧ ∀ H', Same H H' → Q (.int (val (l.map up))) H'
/-- capital letters, some of them made small -/
def spMixed : Sp := fun vs H Q _ => ∃ (q c : Addr) (cs : List Int) (i r : Int) (l : List Nat), vs = [.ref q, .str (S l)] ∧ PenAt H q c cs i r ∧ i < 2 ^ 38 ∧ (∀ x ∈ l, 65 ≤ x ∧ x ≤ 90) ∧ l.length ≤ 1000 ∧
  ∀ (m : List Nat) (i' r' : Int) (H' : Hp), m.map up = l → (∀ x ∈ m, x < 128) → i ≤ i' → i' ≤ i + l.length → Sib q H H' → PenAt H' q c cs i' r' → Q (.str (S m)) H'
def spDrawn : Sp := fun vs H Q _ => ∃ (q c : Addr) (cs : List Int) (i r : Int), vs = [.ref q] ∧ PenAt H q c cs i r ∧ i < 2 ^ 38 ∧
  ∀ (n : Nat) (i' r' : Int) (H' : Hp), 1 ≤ n → n ≤ 18278 → i ≤ i' → i' ≤ i + 3 → Sib q H H' → PenAt H' q c cs i' r' → Q (.int n) H'
section
variable {P : Program} {w : World} {K : PySem.W.Frag} {mg : Str → Option Value} {base : Heap} {p : AdL}
theorem ok_l_signs (T : TxtH K mg p) : FnOk P w K mg base CX0 1 p.f_signs p.d_signs P_l_signs spSigns := by
  refine T.F_l_signs.ok sc_l_signs (fun vs H Q E h => ?_) (fun cdv A outer s H vs Q E hr h => ?_)
  · obtain ⟨rfl, _⟩ := h
    rfl
  · obtain ⟨rfl, k⟩ := h
    refine ⟨_, (pss_one (ps_ret pe_str)), ?_⟩
    exact k H (Same.refl H)
theorem ev_signs {σ : L2.St} {H : Hp} : Ev (tCall spSigns [] E0 tNil) σ H (.str A26) := fun H1 e Q q => ⟨rfl, fun H' s => q H' s⟩
theorem ok_l_letters (T : TxtH K mg p) : FnOk P w K mg base CX0 2 p.f_letters p.d_letters P_l_letters spLetters := by
  have G_l_signs : FnOk P w K mg base CX0 1 p.f_signs p.d_signs P_l_signs spSigns := ok_l_signs T
  refine T.F_l_letters.ok sc_l_letters (fun vs H Q E h => ?_) (fun cdv A outer s H vs Q E hr h => ?_)
  · obtain ⟨c, rfl, _⟩ := h
    rfl
  · obtain ⟨c, rfl, c1, c2, k⟩ := h
    refine ⟨_, (pss_cons (ps_par (i := 1) (j := 2) (by rfl) sc_l_letters.nd rfl rfl (by decide) rfl rfl (pa_cons pe_str (pa_cons (pv 0) pa_nil)) (by rfl))
      (pss_cons (ps_for PassesOwn.never rfl (pi_range1 (by rfl) T.n_range (pa_cons pe_int pa_nil)) (pg_name (i := 3) sc_l_letters.nd rfl (Or.inl rfl)) (pss_one (ps_if (pt_cmpR op_gt (pv 2) pe_int (nomark _)) (pss_cons (ps_set (i := 1) sc_l_letters.nd rfl (Or.inl rfl) (pe_op op_add_str (pe_ix ix_str (pe_call0 G_l_signs (hr.mono (by decide)) (by rfl) T.mg_l_signs T.F_l_signs.kp T.b_l_signs .nil pass0) (pe_op op_modN (pe_callTy (T := "int") call_int1 (by rfl) T.n_int (by decide +kernel) (pa_cons (pe_op op_sub (pv 2) pe_int) pa_nil)) pe_int) (fun _ _ => rfl)) (pv 1)))
      (pss_one (ps_set (i := 2) sc_l_letters.nd rfl (Or.inl rfl) (pe_op op_fdivN (pe_op op_sub (pv 2) pe_int) pe_int)))) pss_nil)))
      (pss_one (ps_ret (pv 1))))), ?_⟩
    refine ⟨_, rfl, _, _, rfl, ?_⟩
    dsimp only
    refine q_forR1 (n := 3) (ea_cons ev_c ea_nil) (by decide) (fun i σ' H' => ∃ (l f : Nat) (acc : List Nat) (t : Option V), σ' = [some (.int c), some (.str (S acc)), some (.int l), t] ∧ letsF f l ++ acc = letsF 3 c ∧ l < bnd f ∧ f + i = 3 ∧ Ex H H')
      (fun H1 e1 => ⟨c, 3, [], none, rfl, List.append_nil _, by show c < 18279; omega, rfl, e1⟩) ?_ ?_
    · rintro i σ' H1 hi ⟨l, f, acc, t, rfl, hL, hb, hf, e1⟩
      obtain ⟨f, rfl⟩ : ∃ g, f = g + 1 := ⟨f - 1, by omega⟩
      refine s_when (et_test (ev_op (ev_var rfl) ev_c rv_I0)) (fun ht H2 e2 => ?_) (fun hn H2 e2 => ?_)
      · have hl : (0 : Int) < l := of_decide_eq_true ht
        obtain ⟨n, rfl⟩ : ∃ n, l = n + 1 := ⟨l - 1, by omega⟩
        have hacc : acc.length ≤ 3 := by
          have z := congrArg List.length hL
          rw [List.length_append] at z
          have := lets_len 3 c
          omega
        have hm : n % 26 < 26 := Nat.mod_lt _ (by decide)
        have q1 : (((n + 1 : Nat) : Int) - 1) = n := by omega
        refine q_asg (v := .str (S ([65 + n % 26] ++ acc))) ?hv fun H3 e3 => ?hk
        case hv =>
          refine ev_addS (l := [65 + n % 26]) (m := acc) ?_ (ev_var rfl) (by show 1 + acc.length ≤ 100000; omega)
          refine ev_op ev_signs (ev_op (ev_intI (ev_op (ev_var rfl) ev_c rv_I0)) ev_c (rv_I (by decide))) ?_
          have q2 : (((n + 1 : Nat) : Int) - 1).fmod 26 = ((n % 26 : Nat) : Int) := by
            rw [q1, Int.fmod_eq_emod_of_nonneg _ (by decide)]
            omega
          show RV _ _ (.int ((((n + 1 : Nat) : Int) - 1).fmod 26)) _ _
          rw [q2]
          exact rv_ixS (w := A26) (by decide +kernel) (at_of _ hm)
        case hk =>
          refine s_asg (v := .int ((n / 26 : Nat) : Int)) ?_ fun H4 e4 => ?_
          · have q3 : (((n + 1 : Nat) : Int) - 1).fdiv 26 = ((n / 26 : Nat) : Int) := by
              rw [q1, Int.fdiv_eq_ediv_of_nonneg _ (by decide)]
              omega
            rw [← q3]
            exact ev_op (ev_op (ev_var rfl) ev_c rv_I0) ev_c (rv_I ⟨by decide, by decide⟩)
          · refine ⟨n / 26, f, [65 + n % 26] ++ acc, _, rfl, ?_, bnd_div hb, by omega, (e1.trans e2).trans (e3.trans e4)⟩
            rw [← List.append_assoc, ← lets_succ]
            exact hL
      · have hl : l = 0 := by
          have : ¬ (0 : Int) < l := of_decide_eq_false hn
          omega
        subst hl
        refine ⟨0, f, acc, _, rfl, ?_, ?_, by omega, e1.trans e2⟩
        · rw [lets_zero] at hL ⊢
          exact hL
        · cases f with
          | zero => decide
          | succ g => exact Nat.succ_pos _
    · rintro σ' H1 ⟨l, f, acc, t, rfl, hL, hb, hf, e1⟩
      have hf0 : f = 0 := by
        have : (3 : Int).toNat = 3 := rfl
        omega
      subst hf0
      have hL : acc = letsF 3 c := hL
      subst hL
      exact ⟨_, rfl, k H1 e1⟩
theorem ok_l_column (T : TxtH K mg p) : FnOk P w K mg base CX0 2 p.f_column p.d_column P_l_column spColumn := by
  have G_l_signs : FnOk P w K mg base CX0 1 p.f_signs p.d_signs P_l_signs spSigns := ok_l_signs T
  refine T.F_l_column.ok sc_l_column (fun vs H Q E h => ?_) (fun cdv A outer s H vs Q E hr h => ?_)
  · obtain ⟨l, rfl, _⟩ := h
    rfl
  · obtain ⟨l, rfl, ha, hl, hall, k⟩ := h
    refine ⟨_, (pss_cons (ps_set (i := 1) sc_l_column.nd rfl (Or.inl rfl) pe_int)
      (pss_cons (ps_for PassesOwn.never rfl (pi_str (pe_bm0 (r := rUpper) PySem.F.plainAttrs_str PySem.F.slot_str_upper PySem.F.type_str_upper mt_upper (pv 0))) (pg_name (i := 2) sc_l_column.nd rfl (Or.inl rfl)) (pss_one (ps_set (i := 1) sc_l_column.nd rfl (Or.inl rfl) (pe_op op_add (pe_op op_add (pe_op op_mul (pv 1) pe_int) pe_int) (pe_bmS PySem.F.plainAttrs_str PySem.F.slot_str_index PySem.F.type_str_index (mt_indexX rfl takes_none5) (pe_call0 G_l_signs (hr.mono (by decide)) (by rfl) T.mg_l_signs T.F_l_signs.kp T.b_l_signs .nil pass0) (pa_cons (pv 2) pa_nil))))))
      (pss_one (ps_ret (pv 1))))), ?_⟩
    have rng := up_rng hall
    refine q_asg ev_c fun H0 e0 => ?_
    refine q_forS (ev_upper (K := K) (ev_var rfl) ha (by omega)) (fun i σ' H' => ∃ lt : Option V, σ' = [some (.str (S l)), some (.int (val ((l.map up).take i))), lt] ∧ Ex H H') (fun H4 e4 => ⟨_, rfl, e0.trans e4⟩) ?_ ?_
    · rintro i c σ' H4 hc ⟨lt, rfl, e4⟩
      have hm := rng c (List.mem_of_getElem? hc)
      have tk : (l.map up).take (i + 1) = (l.map up).take i ++ [c] := by
        rw [List.take_add_one, hc]
        rfl
      refine s_asg (v := .int (val ((l.map up).take (i + 1)))) ?_ fun H5 e5 => ⟨_, rfl, e4.trans e5⟩
      have z : val ((l.map up).take (i + 1)) = val ((l.map up).take i) * 26 + 1 + ((c - 65 : Nat) : Int) := by
        rw [tk, val_snoc]
        omega
      rw [z]
      exact ev_op (ev_op (ev_op (ev_var rfl) ev_c (rv_I (.inr ⟨by decide, by decide⟩))) ev_c rv_I0) (ev_index (K := K) ev_signs (ev_var rfl) hm.1 hm.2) rv_I0
    · rintro σ' H4 ⟨lt, rfl, e4⟩
      rw [List.take_length]
      exact ⟨_, rfl, k H4 e4⟩
theorem ok_l_is_letters (T : TxtH K mg p) : FnOk P w K mg base CX0 2 p.f_is_letters p.d_is_letters P_l_is_letters (spAlpha fun l => l.all let1) := by
  have G_l_signs : FnOk P w K mg base CX0 1 p.f_signs p.d_signs P_l_signs spSigns := ok_l_signs T
  refine T.F_l_is_letters.ok sc_l_is_letters (fun vs H Q E h => ?_) (fun cdv A outer s H vs Q E hr h => ?_)
  · obtain ⟨l, rfl, _⟩ := h
    rfl
  · obtain ⟨l, rfl, ha, hl, k⟩ := h
    refine ⟨_, (pss_one (ps_ret (pe_cmpR op_notIn_seq pe_bl (pe_lc (own := [("_law_sign", 1)]) (g := gName 1) (tt := tYes) (te := tOp rInS (tBM0 K "str" rUpper (tVar 1)) (tCall spSigns [] E0 tNil)) rfl sc_l_is_letters.nd (pi_list (pe_callTy (T := "list") (call_listS rfl) (by rfl) T.n_list (by decide +kernel) (pa_cons (pv 0) pa_nil))) (blkOk_by (own := [("_law_sign", 1)]) (N := N_l_is_letters) (sc := defScope s_l_is_letters) (by decide +kernel)) (fun _ _ _ _ _ => pg_name (i := 1) sc_l_is_letters.nd rfl (Or.inl rfl)) (fun _ _ _ _ _ => pts_nil) (fun _ _ _ _ _ => (pe_cmpR (r := rInS) op_inS (pe_bm0 (r := rUpper) PySem.F.plainAttrs_str PySem.F.slot_str_upper PySem.F.type_str_upper mt_upper (pv 1)) (pe_call0 G_l_signs (hr.mono (by decide)) (by rfl) T.mg_l_signs T.F_l_signs.kp T.b_l_signs .nil pass0) rfl))) rfl))), ?_⟩
    have el : EvL (tLc (iList K (tCB rLstS (tCons (tVar 0) tNil))) (gName 1) tYes (tOp rInS (tBM0 K "str" rUpper (tVar 1)) (tCall spSigns [] E0 tNil)) [1]) [some (.str (S l)), none] H (l.map fun c => V.bl (let1 c)) := by
      refine el_eq (el_lcNL (K := K) (xs := l.map sg) (fun _ => true) (fun i => (l[i]?.map fun c => V.bl (let1 c)).getD .non) (el_listS (ev_var rfl) (by omega)) (by rw [List.length_map]; omega) (fun _ => rfl) (fun _ _ _ _ _ => et_yes) fun i x H1 e1 hx _ => ?_) (by rw [List.length_map, given_map])
      rw [List.getElem?_map] at hx
      cases q : l[i]? with
      | none => rw [q] at hx; cases hx
      | some c =>
        rw [q] at hx
        have e2 : sg c = x := Option.some.inj hx
        subst e2
        have hc := ha c (List.mem_of_getElem? q)
        have z := ev_upper (K := K) (σ := [some (.str (S l)), some (sg c)]) (H := H1) (l := [c]) (ev_var (i := 1) rfl) (fun x hx => by rw [List.mem_singleton.mp hx]; exact hc) (by show 1 ≤ 100000; decide)
        exact ev_inA (c := up c) z ev_signs (up_lt hc)
    refine (ev_opL (ev_c (v := .bl false)) el fun p1 H1 h1 _ => rv_niL (K := K) (sq_of h1) rfl (flat_bls let1 l)) H (Ex.refl H) _ fun H' e => ?_
    rw [inV_false]
    exact k H' e
theorem ok_l_mixed_case (T : TxtH K mg p) : FnOk P w K mg base CX0 2 p.f_mixed_case p.d_mixed_case P_l_mixed_case spMixed := by
  have TA : TxtA mg := ⟨T.n_list, T.n_int, T.n_len⟩
  have G_l_draw : FnOk P w K mg base CX0 1 p.f_draw p.d_draw P_l_draw spDraw := ok_l_draw T.F_l_draw TA
  refine T.F_l_mixed_case.ok sc_l_mixed_case (fun vs H Q E h => ?_) (fun cdv A outer s H vs Q E hr h => ?_)
  · obtain ⟨q, c, cs, i, r, l, rfl, _⟩ := h
    rfl
  · obtain ⟨q, c, cs, i, r, l, rfl, D, hi, hc, hl, k⟩ := h
    refine ⟨_, (pss_cons (ps_set (i := 2) sc_l_mixed_case.nd rfl (Or.inl rfl) pe_str)
      (pss_cons (ps_for PassesOwn.never rfl (pi_str (pv 1)) (pg_name (i := 3) sc_l_mixed_case.nd rfl (Or.inl rfl)) (pss_one (ps_set (i := 2) sc_l_mixed_case.nd rfl (Or.inl rfl) (pe_op op_add_str (pv 2) (pe_ifExp (pt_cmpR op_eq (pe_call G_l_draw (hr.mono (by decide)) (by rfl) T.mg_l_draw T.F_l_draw.kp T.b_l_draw .nil pass0 (pa_cons (pv 0) (pa_cons pe_int pa_nil))) pe_int (nomark _)) (pe_bm0 PySem.F.plainAttrs_str PySem.F.slot_str_lower PySem.F.type_str_lower mt_lower (pv 3)) (pv 3))))))
      (pss_one (ps_ret (pv 2))))), ?_⟩
    refine q_asg (v := .str (S [])) ev_c fun H0 e0 => ?_
    refine q_forS (l := l) (ev_var rfl) (fun j σ' H' => ∃ (m : List Nat) (i' r' : Int) (t : Option V), σ' = [some (.ref q), some (.str (S l)), some (.str (S m)), t] ∧ m.map up = l.take j ∧ (∀ x ∈ m, x < 128) ∧ i ≤ i' ∧ i' ≤ i + j ∧ Sib q H H' ∧ PenAt H' q c cs i' r')
      (fun H1 e1 => ⟨[], i, r, none, rfl, rfl, (fun x hx => by cases hx), Int.le_refl _, by omega, fun b o _ h => (e0.trans e1) b o h, D.keep (e0.trans e1)⟩) ?_ ?_
    · rintro j x σ' H1 hx ⟨m, i1, r1, t, rfl, hm, ha, h1, h2, sb, D1⟩
      have hj : j < l.length := (List.getElem?_eq_some_iff.mp hx).1
      have hxr := hc x (List.mem_of_getElem? hx)
      have ml : m.length ≤ j := by
        have z := congrArg List.length hm
        rw [List.length_map, List.length_take] at z
        omega
      refine ⟨_, rfl, _, rfl, q, c, cs, i1, r1, 2, rfl, D1, by omega, by decide, by decide, fun z i2 r2 H2 z0 z1 j0 j1 sb2 D2 => ?_⟩
      refine ⟨rfl, _, rfl, ?_⟩
      have tk : l.take (j + 1) = l.take j ++ [x] := by
        rw [List.take_add_one, hx]
        rfl
      have fin : ∀ y : Nat, up y = x → y < 128 → ∃ (m' : List Nat) (i' r' : Int) (t : Option V), [some (V.ref q), some (.str (S l)), some (.str (S (m ++ [y]))), some (sg x)] = [some (V.ref q), some (.str (S l)), some (.str (S m')), t] ∧ m'.map up = l.take (j + 1) ∧ (∀ x ∈ m', x < 128) ∧ i ≤ i' ∧ i' ≤ i + ((j + 1 : Nat) : Int) ∧ Sib q H H2 ∧ PenAt H2 q c cs i' r' := fun y e1 e2 =>
        ⟨m ++ [y], i2, r2, _, rfl, by rw [List.map_append, hm, tk, ← e1]; rfl, fun u hu => by
          rcases List.mem_append.mp hu with h | h
          · exact ha u h
          · rw [List.mem_singleton.mp h]; exact e2, by omega, by omega, sb.trans sb2, D2⟩
      refine ite2 (fun _ => ?_) (fun _ => ?_)
      · have u := up_low hxr
        have g := fin (low x) u.1 u.2
        refine ⟨_, rfl, rfl, S [x], rfl, rfl, by rw [len_S]; show 1 ≤ 5592405; decide, S m, _, rfl, rfl, ?_, ?_⟩
        · rw [low_of x (by omega), len_S, len_S]
          exact sz_of (by show m.length + 1 ≤ 100000; omega)
        · rw [low_of x (by omega), app_S]
          exact g
      · have u := up_cap hxr
        have g := fin x u.1 u.2
        refine ⟨_, rfl, S m, S [x], rfl, rfl, ?_, ?_⟩
        · rw [len_S, len_S]
          exact sz_of (by show m.length + 1 ≤ 100000; omega)
        · rw [app_S]
          exact g
    · rintro σ' H1 ⟨m, i1, r1, t, rfl, hm, ha, h1, h2, sb, D1⟩
      rw [List.take_length] at hm
      exact ⟨_, rfl, k m i1 r1 H1 hm ha h1 h2 sb D1⟩
theorem ok_l_column_drawn (T : TxtH K mg p) : FnOk P w K mg base CX0 3 p.f_column_drawn p.d_column_drawn P_l_column_drawn spDrawn := by
  have TA : TxtA mg := ⟨T.n_list, T.n_int, T.n_len⟩
  have G_l_draw : FnOk P w K mg base CX0 1 p.f_draw p.d_draw P_l_draw spDraw := ok_l_draw T.F_l_draw TA
  have G_l_pick : FnOk P w K mg base CX0 2 p.f_pick p.d_pick P_l_pick (spPick K) := ok_l_pick T.F_l_pick TA T.F_l_draw T.b_l_draw T.mg_l_draw
  refine T.F_l_column_drawn.ok sc_l_column_drawn (fun vs H Q E h => ?_) (fun cdv A outer s H vs Q E hr h => ?_)
  · obtain ⟨q, c, cs, i, r, rfl, _⟩ := h
    rfl
  · obtain ⟨q, c, cs, i, r, rfl, D, hi, k⟩ := h
    refine ⟨_, (pss_cons (ps_if (pt_cmpR op_eq (pe_call G_l_draw (hr.mono (by decide)) (by rfl) T.mg_l_draw T.F_l_draw.kp T.b_l_draw .nil pass0 (pa_cons (pv 0) (pa_cons pe_int pa_nil))) pe_int (nomark _)) (pss_one (ps_ret (pe_op op_add pe_int (pe_call G_l_draw (hr.mono (by decide)) (by rfl) T.mg_l_draw T.F_l_draw.kp T.b_l_draw .nil pass0 (pa_cons (pv 0) (pa_cons pe_int pa_nil)))))) pss_nil)
      (pss_one (ps_ret (pe_callB (id := "max") (call_max2 rfl) (by rfl) T.n_max (by decide +kernel) (pa_cons pe_int (pa_cons (pe_callB (id := "min") (call_min2 rfl) (by rfl) T.n_min (by decide +kernel) (pa_cons pe_int (pa_cons (pe_op op_sub (pe_op op_add (pe_call G_l_pick (hr.mono (by decide)) (by rfl) T.mg_l_pick T.F_l_pick.kp T.b_l_pick .nil pass0 (pa_cons (pv 0) (pa_cons (pe_lst (pa_cons pe_int (pa_cons pe_int (pa_cons pe_int (pa_cons pe_int (pa_cons pe_int (pa_cons pe_int (pa_cons pe_int pa_nil)))))))) pa_nil))) (pe_call G_l_draw (hr.mono (by decide)) (by rfl) T.mg_l_draw T.F_l_draw.kp T.b_l_draw .nil pass0 (pa_cons (pv 0) (pa_cons pe_int pa_nil)))) pe_int) pa_nil))) pa_nil)))))), ?_⟩
    refine ⟨_, rfl, q, c, cs, i, r, 2, rfl, D, by omega, by decide, by decide, fun z i1 r1 H1 z0 z1 j0 j1 sb1 D1 => ?_⟩
    refine ⟨rfl, _, rfl, ?_⟩
    refine ite2 (fun _ => ?_) (fun _ => ?_)
    · refine ⟨_, rfl, q, c, cs, i1, r1, 18278, rfl, D1, by omega, by decide, by decide, fun y i2 r2 H2 y0 y1 j2 j3 sb2 D2 => ?_⟩
      refine ⟨_, _, rfl, rfl, ?_⟩
      have e : (1 : Int) + y = ((1 + y.toNat : Nat) : Int) := by omega
      show Q (.int (1 + y)) H2
      rw [e]
      exact k _ i2 r2 H2 (by omega) (by omega) (by omega) (by omega) (sb1.trans sb2) D2
    · refine ⟨_, rfl, (by show 7 ≤ sizeLine; decide), fun l hl => ?_⟩
      have D2 := D1.new (o := .lst [.int 1, .int 26, .int 52, .int 702, .int 728, .int 1378, .int 18278]) hl
      have sb2 : Sib q H1 (upd H1 l (.lst [.int 1, .int 26, .int 52, .int 702, .int 728, .int 1378, .int 18278])) := Sib.new hl
      refine ⟨q, c, cs, i1, r1, l, _, rfl, D2, by omega, SqL.of upd_same, by decide, by decide, ne_of upd_same D2.hp (by intro z; cases z), fun x i2 r2 H2 hx j2 j3 sb3 D3 => ?_⟩
      obtain ⟨n, rfl, hn⟩ : ∃ n : Int, x = .int n ∧ 1 ≤ n ∧ n ≤ 18278 := by
        simp only [List.mem_cons, List.not_mem_nil, or_false] at hx
        rcases hx with h | h | h | h | h | h | h <;> exact ⟨_, h, by decide, by decide⟩
      refine ⟨_, rfl, q, c, cs, i2, r2, 5, rfl, D3, by omega, by decide, by decide, fun y i3 r3 H3 y0 y1 j4 j5 sb4 D4 => ?_⟩
      refine ⟨_, _, rfl, rfl, _, _, rfl, rfl, _, _, rfl, _, _, rfl, ?_⟩
      generalize hz : (if (if n + y - 2 < 18278 then n + y - 2 else 18278) > 1 then (if n + y - 2 < 18278 then n + y - 2 else 18278) else 1) = u
      have b1 : 1 ≤ u ∧ u ≤ 18278 := by
        rw [← hz]
        split <;> (try split) <;> omega
      have e : u = ((u.toNat : Nat) : Int) := by omega
      rw [e]
      exact k _ i3 r3 H3 (by omega) (by omega) (by omega) (by omega) (((sb1.trans sb2).trans sb3).trans sb4) D4
end
end K15

set_option Elab.async false
set_option linter.all false
set_option maxRecDepth 100000
set_option maxHeartbeats 4000000
namespace K15
open PySem PySem.Spec PyProof.Rows L2 Pen EV2 Evl TX LamX
def spLR : Sp := fun vs H Q _ => ∃ (q c : Addr) (cs : List Int) (i r : Int) (n : Nat), vs = [.ref q, .int n] ∧ PenAt H q c cs i r ∧ i < 2 ^ 38 ∧ 1 ≤ n ∧ n ≤ 18278 ∧
  ∀ (i' r' : Int) (H' : Hp), i ≤ i' → i' ≤ i + 3 → Sib q H H' → PenAt H' q c cs i' r' → Q (.bl true) H'
section
variable {P : Program} {w : World} {K : PySem.W.Frag} {mg : Str → Option Value} {base : Heap} {p : AdL} {pc : Ads} {σ : L2.St} {H : Hp} {te : TE} {CB : Addr}
theorem ev_lettersOf {m : Nat} (h : Ev te σ H (.int m)) (h1 : 1 ≤ m) (h2 : m ≤ 18278) : Ev (tCall (spLettersOf K CB) [] E0 (tCons te tNil)) σ H (.str (S (letsF 3 m))) := fun H1 e Q q =>
  h H1 e _ fun H2 e2 => ⟨_, rfl, .inl ⟨m, rfl, h1, h2, fun H' s => q H' (e2.trans s)⟩⟩
theorem ev_letters {m : Nat} (h : Ev te σ H (.int m)) (h1 : 1 ≤ m) (h2 : m ≤ 18278) : Ev (tCall spLetters [] E0 (tCons te tNil)) σ H (.str (S (letsF 3 m))) := fun H1 e Q q =>
  h H1 e _ fun H2 e2 => ⟨m, rfl, h1, h2, fun H' s => q H' (e2.trans s)⟩
theorem ev_isLet {l : List Nat} (h : Ev te σ H (.str (S l))) (ha : ∀ c ∈ l, c < 128) (hl : l.length ≤ 1000) : Ev (tCall (spAlpha fun l => l.all let1) [] E0 (tCons te tNil)) σ H (.bl (l.all let1)) := fun H1 e Q q =>
  h H1 e _ fun H2 e2 => ⟨l, rfl, ha, hl, fun H' s => q H' (e2.trans s)⟩
theorem map_up_cap : ∀ {l : List Nat}, (∀ x ∈ l, 65 ≤ x ∧ x ≤ 90) → l.map up = l
  | [], _ => rfl
  | x :: l, h => by
    rw [List.map_cons, (up_cap (h x (List.mem_cons_self ..))).1, map_up_cap fun y hy => h y (List.mem_cons_of_mem _ hy)]
theorem ok_l_letters_right (T : TxtH K mg p) (TC : TxtC K mg pc) {f : Addr} {fd : FuncData} (F : Fun K "_law_letters_right" "_law_letters_right" s_l_letters_right f fd) : FnOk P w K mg base CX0 5 f fd P_l_letters_right spLR := by
  have G_letters_of : FnOk P w K mg base (L2.CX P w) 4 pc.f_letters_of pc.d_letters_of P_letters_of (spLettersOf K pc.CB) := ok_letters_of TC
  have G_column_of : FnOk P w K mg base (L2.CX P w) 4 pc.f_column_of pc.d_column_of P_column_of (spColumnOf K pc.CB pc.CN) := ok_column_of TC
  have G_l_signs : FnOk P w K mg base CX0 1 p.f_signs p.d_signs P_l_signs spSigns := ok_l_signs T
  have G_l_letters : FnOk P w K mg base CX0 2 p.f_letters p.d_letters P_l_letters spLetters := ok_l_letters T
  have G_l_is_letters : FnOk P w K mg base CX0 2 p.f_is_letters p.d_is_letters P_l_is_letters (spAlpha fun l => l.all let1) := ok_l_is_letters T
  have G_l_mixed_case : FnOk P w K mg base CX0 2 p.f_mixed_case p.d_mixed_case P_l_mixed_case spMixed := ok_l_mixed_case T
  refine F.ok sc_l_letters_right (fun vs H Q E h => ?_) (fun cdv A outer s H vs Q E hr h => ?_)
  · obtain ⟨q, c, cs, i, r, n, rfl, _⟩ := h
    rfl
  · obtain ⟨q, c0, cs, i, r, c, rfl, D, hi, c1, c2, k⟩ := h
    refine ⟨_, (pss_cons (ps_set (i := 2) sc_l_letters_right.nd rfl (Or.inl rfl) (pe_call G_letters_of (hr.mono (by decide)) (by rfl) TC.mg_letters_of TC.F_letters_of.kp TC.b_letters_of .nil passL (pa_cons (pv 1) pa_nil)))
      (pss_cons (ps_if (PW.pt (pw_or (pt_not (pt_val (pe_callB (id := "isinstance") call_isi (by rfl) TC.n_isinstance (by decide +kernel) (pa_cons (pv 2) (pa_cons (pe_bltn (v := .ty "str") (by rfl) TC.n_str (by decide +kernel) rfl) pa_nil))))) (pw_or (pt_cmpR op_ne (pv 2) (pe_call G_l_letters (hr.mono (by decide)) (by rfl) T.mg_l_letters T.F_l_letters.kp T.b_l_letters .nil pass0 (pa_cons (pv 1) pa_nil)) (nomark _)) (pw_or1 (pt_not (pt_val (pe_call G_l_is_letters (hr.mono (by decide)) (by rfl) T.mg_l_is_letters T.F_l_is_letters.kp T.b_l_is_letters .nil pass0 (pa_cons (pv 2) pa_nil)))))))) (pss_one (ps_ret pe_bl)) pss_nil)
      (pss_cons (ps_if (PW.pt (pw_or (pt_cmpR op_ne (pe_callB (id := "len") call_len (by rfl) T.n_len (by decide +kernel) (pa_cons (pv 2) pa_nil)) (pe_op op_add (pe_op op_add pe_int (pe_callTy (T := "int") call_int1 (by rfl) T.n_int (by decide +kernel) (pa_cons (pe_cmpR op_gt (pv 1) pe_int (nomark _)) pa_nil))) (pe_callTy (T := "int") call_int1 (by rfl) T.n_int (by decide +kernel) (pa_cons (pe_cmpR op_gt (pv 1) pe_int (nomark _)) pa_nil))) (nomark _)) (pw_or1 (pt_cmpR op_ne (pe_bm0 (r := rUpper) PySem.F.plainAttrs_str PySem.F.slot_str_upper PySem.F.type_str_upper mt_upper (pv 2)) (pv 2) (nomark _))))) (pss_one (ps_ret pe_bl)) pss_nil)
      (Evl.pss_cut (ps_if (PW.pt (pw_and (pt_cmpR op_lt (pv 1) pe_int (nomark _)) (pw_and1 (pt_cmpR op_ne (pe_ix ix_str (pv 2) (pe_un un_neg pe_int) (fun _ _ => rfl)) pe_str (nomark _))))) (pss_cons (ps_set (i := 3) sc_l_letters_right.nd rfl (Or.inl rfl) (pe_op op_add_str (pe_slice sl_str (pv 2) po_none (po_some (pe_un un_neg pe_int))) (pe_ix ix_str (pe_call0 G_l_signs (hr.mono (by decide)) (by rfl) T.mg_l_signs T.F_l_signs.kp T.b_l_signs .nil pass0) (pe_op op_add (pe_bmS PySem.F.plainAttrs_str PySem.F.slot_str_index PySem.F.type_str_index (mt_indexX rfl takes_none5) (pe_call0 G_l_signs (hr.mono (by decide)) (by rfl) T.mg_l_signs T.F_l_signs.kp T.b_l_signs .nil pass0) (pa_cons (pe_ix ix_str (pv 2) (pe_un un_neg pe_int) (fun _ _ => rfl)) pa_nil)) pe_int) (fun _ _ => rfl))))
      (pss_one (ps_if (pt_cmpR op_ne (pe_call G_letters_of (hr.mono (by decide)) (by rfl) TC.mg_letters_of TC.F_letters_of.kp TC.b_letters_of .nil passL (pa_cons (pe_op op_add (pv 1) pe_int) pa_nil)) (pv 3) (nomark _)) (pss_one (ps_ret pe_bl)) pss_nil))) pss_nil)
      (pss_cons (ps_set (i := 4) sc_l_letters_right.nd rfl (Or.inl rfl) (pe_call G_column_of (hr.mono (by decide)) (by rfl) TC.mg_column_of TC.F_column_of.kp TC.b_column_of .nil passL (pa_cons (pe_call G_l_mixed_case (hr.mono (by decide)) (by rfl) T.mg_l_mixed_case T.F_l_mixed_case.kp T.b_l_mixed_case .nil pass0 (pa_cons (pv 0) (pa_cons (pv 2) pa_nil))) pa_nil)))
      (pss_one (ps_ret (pe_and (pe_cmpR op_eq (pv 4) (pv 1) (nomark _)) (pe_and (pe_callB (id := "isinstance") call_isi (by rfl) TC.n_isinstance (by decide +kernel) (pa_cons (pv 4) (pa_cons (pe_bltn (v := .ty "int") (by rfl) T.n_int (by decide +kernel) rfl) pa_nil))) (pe_one (pe_not (pe_callB (id := "isinstance") call_isi (by rfl) TC.n_isinstance (by decide +kernel) (pa_cons (pv 4) (pa_cons (pe_bltn (v := .ty "bool") (by rfl) TC.n_bool (by decide +kernel) rfl) pa_nil)))))))))))))), ?_⟩
    obtain ⟨n, rfl⟩ : ∃ n, c = n + 1 := ⟨c - 1, by omega⟩
    have hL : letsF 3 (n + 1) = letsF 2 (n / 26) ++ [65 + n % 26] := rfl
    have rng := lets_rng 3 (n + 1)
    have hlen : (letsF 3 (n + 1)).length ≤ 3 := lets_len 3 (n + 1)
    have h128 : ∀ x ∈ letsF 3 (n + 1), x < 128 := fun x hx => by have := rng x hx; omega
    have hm : n % 26 < 26 := Nat.mod_lt _ (by decide)
    have hall : (letsF 3 (n + 1)).all let1 = true := List.all_eq_true.mpr fun x hx => by
      have u := up_cap (rng x hx)
      unfold let1
      rw [u.1]
      exact decide_eq_true (rng x hx)
    have hup : (letsF 3 (n + 1)).map up = letsF 3 (n + 1) := map_up_cap rng
    have h3 := len3 c1 c2
    have hval : val (letsF 3 (n + 1)) = ((n + 1 : Nat) : Int) := val_lets 3 (n + 1) (by show n + 1 < 18279; omega)
    refine q_asg (ev_lettersOf (ev_var rfl) c1 c2) fun H1 e1 => ?_
    refine q_when (b := false) (et_is (et_or (et_not (et_B (ev_isi (K := K) (b := true) knd_str (by decide +kernel) (ev_var rfl)))) fun _ => et_or (et_test (ev_op (ev_var rfl) (ev_letters (ev_var rfl) c1 c2) (rv_ne rfl))) fun _ => et_not (et_B (ev_isLet (ev_var rfl) h128 (by omega)))) ?_) (fun z => nomatch z) fun _ H2 e2 => ?_
    · rw [hall]
      simp
    refine q_when (b := false) (et_is (et_or (et_test (ev_op (ev_lenS (K := K) (ev_var rfl) (by omega)) (ev_op (ev_op ev_c (ev_intB (ev_op (ev_var rfl) ev_c rv_I0)) rv_I0) (ev_intB (ev_op (ev_var rfl) ev_c rv_I0)) rv_I0) (rv_ne rfl))) fun _ => et_test (ev_op (ev_upper (K := K) (ev_var rfl) h128 (by omega)) (ev_var rfl) (rv_ne rfl))) ?_) (fun z => nomatch z) fun _ H3 e3 => ?_
    · rw [hup]
      have z : ((letsF 3 (n + 1)).length : Int) = 1 + (if decide ((26 : Int) < ((n + 1 : Nat) : Int)) = true then 1 else 0) + (if decide ((702 : Int) < ((n + 1 : Nat) : Int)) = true then 1 else 0) := by
        rw [h3]
        simp only [decide_eq_true_eq]
        split <;> split <;> (try split) <;> (try split) <;> omega
      rw [z]
      simp
    have e13 := (e1.trans e2).trans e3
    refine q_cut (M := fun σ' H' => ∃ v3 : Option V, σ' = [some (.ref q), some (.int ((n + 1 : Nat) : Int)), some (.str (S (letsF 3 (n + 1)))), v3, none] ∧ Ex H H') ?_ ?_
    · have el : ∀ {σ : L2.St} {H : Hp}, σ[2]? = some (some (.str (S (letsF 3 (n + 1))))) → Ev (tOp rIxS (tVar 2) (tUn (rU fun i => .int (-i)) (tC (.int 1)))) σ H (sg (65 + n % 26)) := fun h => by
        refine ev_op (ev_var h) (ev_un ev_c ru_neg) (rv_ixS (by rw [len_S]; omega) ?_)
        rw [hL]
        exact at_last _ _
      refine s_when (et_and (et_test (ev_op (ev_var rfl) ev_c rv_I0)) fun _ => et_test (ev_op (el rfl) ev_c (rv_ne rfl))) (fun hb H4 e4 => ?_) (fun _ H4 e4 => ⟨_, rfl, e13.trans e4⟩)
      have h25 : n % 26 ≠ 25 := fun z => by
        rw [z] at hb
        have w2 : (sg (65 + 25)) = V.str (Str.ofString "Z") := rfl
        simp [w2] at hb
      have hlt : n + 2 ≤ 18278 := by
        have z := (Bool.and_eq_true_iff.mp hb).1
        have z2 : ((n + 1 : Nat) : Int) < 18278 := of_decide_eq_true z
        omega
      have hI : (letsF 2 (n / 26)).length ≤ 2 := lets_len 2 _
      refine q_asg (v := .str (S (letsF 2 (n / 26) ++ [66 + n % 26]))) ?hv fun H5 e5 => ?hk
      case hv =>
        refine ev_addS (l := letsF 2 (n / 26)) (m := [66 + n % 26]) ?_ ?_ (by show _ + 1 ≤ 100000; omega)
        · refine ev_is (ev_slS (ev_var rfl) eo_none (eo_some (ev_un ev_c ru_neg)) (by rw [len_S]; omega)) ?_
          rw [hL]
          exact congrArg V.str (cut_last _ _)
        · have ei := ev_index (K := K) (W := fun _ _ _ _ => False) (σ := [some (.ref q), some (.int ((n + 1 : Nat) : Int)), some (.str (S (letsF 3 (n + 1)))), none, none]) (H := H4) ev_signs (el rfl) (show 65 ≤ 65 + n % 26 by omega) (by omega)
          refine ev_op ev_signs (ev_op ei ev_c rv_I0) ?_
          have z : ((65 + n % 26 - 65 : Nat) : Int) + 1 = ((n % 26 + 1 : Nat) : Int) := by omega
          show RV _ _ (.int (((65 + n % 26 - 65 : Nat) : Int) + 1)) _ _
          rw [z]
          have y : 66 + n % 26 = 65 + (n % 26 + 1) := by omega
          rw [y]
          exact rv_ixS (w := A26) (by decide +kernel) (at_of _ (by omega))
      case hk =>
        have en : letsF 3 (n + 2) = letsF 2 (n / 26) ++ [66 + n % 26] := lets_next h25
        have eo : Ev (tCall (spLettersOf K pc.CB) [] E0 (tCons (tOp (rI0 fun i j => .int (i + j)) (tVar 1) (tC (.int 1))) tNil)) [some (.ref q), some (.int ((n + 1 : Nat) : Int)), some (.str (S (letsF 3 (n + 1)))), some (.str (S (letsF 2 (n / 26) ++ [66 + n % 26]))), none] H5 (.str (S (letsF 3 (n + 2)))) :=
          ev_lettersOf (m := n + 2) (ev_is (ev_op (ev_var rfl) ev_c rv_I0) (by show V.int (((n + 1 : Nat) : Int) + 1) = .int ((n + 2 : Nat) : Int); congr 1)) (by omega) hlt
        refine s_when (b := false) (et_is (et_test (ev_op eo (ev_var rfl) (rv_ne rfl))) ?_) (fun z => nomatch z) fun _ H6 e6 => ⟨_, rfl, e13.trans ((e4.trans e5).trans e6)⟩
        rw [en]
        simp
    · rintro σ' H4 ⟨v3, rfl, e4⟩
      refine q_asgK ?_
      refine ⟨_, rfl, _, rfl, q, c0, cs, i, r, _, rfl, D.keep e4, by omega, rng, by omega, fun m i1 r1 H5 hmu ha j0 j1 sb D5 => ?_⟩
      have lm : m.length = (letsF 3 (n + 1)).length := by rw [← hmu, List.length_map]
      have good : colText m = true := by
        unfold colText
        have a1 : 1 ≤ m.length := by rw [lm, h3]; omega
        have a2 : m.length ≤ 3 := by omega
        have a3 : m.all let1 = true := List.all_eq_true.mpr fun x hx => by
          have z : up x ∈ letsF 3 (n + 1) := by rw [← hmu]; exact List.mem_map.mpr ⟨x, hx, rfl⟩
          exact decide_eq_true (rng _ z)
        rw [decide_eq_true a1, decide_eq_true a2, a3]
        rfl
      refine ⟨_, rfl, .inl ⟨m, rfl, ha, by omega, fun _ H6 e6 => ?_, fun z => absurd (good.symm.trans z) (by decide)⟩⟩
      rw [hmu, hval]
      refine (ev_andV (ev_op (ev_var rfl) (ev_var rfl) (rv_eq rfl)) fun _ => ev_andV (ev_isi (K := K) (b := true) knd_int (by decide +kernel) (ev_var rfl)) fun _ => ev_notV (ev_isi (K := K) (b := false) knd_int (by decide +kernel) (ev_var rfl))) H6 (Ex.refl H6) _ fun H7 e7 => ?_
      have hin : ((letsF 3 (n + 1)).length : Int) ≤ 3 := by omega
      have g := k i1 r1 H7 j0 (by omega) (fun b o nb hb => (e6.trans e7) b o (sb b o nb (e4 b o hb))) (D5.keep (e6.trans e7))
      simp
      exact g
end
end K15

set_option Elab.async false
set_option linter.all false
set_option maxRecDepth 100000
set_option maxHeartbeats 4000000
namespace TX
open PySem PySem.Spec PyProof.Rows L2 Pen EV2 Evl LamX
/-- any reading that is enough for the one asked -/
theorem pe_weak {X : Cx} {e : Expr} {te : TE} (h : PE X e te) : PE X e (fun σ H Q => ∃ Q0 : VK, te σ H Q0 ∧ ∀ v H', Q0 v H' → Q v H') := by
  refine ⟨fun pins s σ H Q I ⟨Q0, h0, hq⟩ => ?_⟩
  exact thn (h.run pins s σ H Q0 I h0) fun v s1 ⟨x, H1, I1, r1, q1⟩ => ⟨x, H1, I1, r1, hq _ _ q1⟩
/-- the slots of the def that is left are as many as its names -/
theorem takes_len {X : Cx} {W : WX} {n : Nat} (tk : Takes X W) (hn : X.N.length = n) : Takes X (fun cls d σ H => σ.length = n → W cls d σ H) := fun u s' ⟨a, B, sI, pins, σ, H, cls, d, e, I, nb, up, sky, na, os, ag, w⟩ =>
  tk u s' ⟨a, B, sI, pins, σ, H, cls, d, e, I, nb, up, sky, na, os, ag, w (I.len.trans hn)⟩
theorem pss_ex {X : Cx} {body : List Stmt} {α : Type} {C : α → Prop} {t : α → TS} (h : ∀ a, C a → PSs X body (t a)) : PSs X body (fun D σ H => ∃ a, C a ∧ t a D σ H) :=
  ⟨fun pins s σ H D I ⟨a, c, q⟩ => (h a c).run pins s σ H D I q⟩
end TX
namespace K15
open PySem PySem.Spec PyProof.Rows L2 Pen EV2 Evl TX LamX
/-- what is told of a call: its answer, its error's field -/
def TT4 (CB CN : Addr) : (XK → Hp → VK → Prop) → Hp → VK → Prop := fun tl H Q => ∀ t0, H t0 = none →
  tl (fun cls d H' => ∃ (C dd : Addr) (nm f : Str) (v : V) (fs : List (Str × V)), cls = .ref C ∧ d = some dd ∧ ((C = CB ∧ nm = "BadValue" ∧ f = "value") ∨ (C = CN ∧ nm = "NotAName" ∧ f = "name")) ∧ H' dd = some (.xd fs) ∧ fs.lookup f = some v ∧ ∀ p, H' p = none → Q (.ref p) (upd H' p (.tup [.str nm, v])))
    (upd H t0 (.tup [.str "nothing"])) (fun v H' => ∀ p, H' p = none → Q (.ref p) (upd H' p (.tup [.str "told", v])))
structure TxtT (K : PySem.W.Frag) (mg : Str → Option Value) (pc : Ads) (CO CM : Addr) : Prop where
  B : Er K mg "BadValue" "BadValue.__init__" s_BadValue_init "value" pc.S pc.CB pc.iB pc.dB
  N : Er K mg "NotAName" "NotAName.__init__" s_NotAName_init "name" pc.S pc.CN pc.iN pc.dN
  nBN : pc.CB ≠ pc.CN
  gO : mg "OffGrid" = some (.ref CO)
  gM : mg "TooMany" = some (.ref CM)
  xO : XfC K CO
  xM : XfC K CM
  nr : PySem.W.findIn K (.ref CO) "row" = some none
  nc : PySem.W.findIn K (.ref CO) "column" = some none
  nm : PySem.W.findIn K (.ref CM) "most" = some none
theorem told_gives {X : Cx} {g CO CM : Addr} {cdg : Value} {q : Str} {pc : Ads} (T : TxtT X.K X.mg pc CO CM) : GivesTo X N_l_told "_law_told" (defScope s_l_told) g cdg (defBody s_l_told) "_law_call" q (TT4 pc.CB pc.CN) := by
  intro f c' s H Q tl act hc h
  refine ⟨_, pss_cons (ps_set (i := 1) sc_l_told.nd rfl (Or.inl rfl) (pe_tup (pa_cons pe_str pa_nil)))
    (pss_cons (ps_try_asM (i := 2) (n := "e") (tb := fun W => fun D σ H => ∃ Ech : XK, (∀ cls d σ' H', Ech cls d H' → σ'.length = 3 → W cls d σ' H') ∧
        tAsg (tTup (tCons (tC (.str "told")) (tCons (fun σ H Q => ∃ Q0 : VK, (σ[0]? = some (some (.ref f)) ∧ H c' = some (CodeO c' q) ∧ tl Ech H Q0) ∧ ∀ v H', Q0 v H' → Q v H') tNil))) (gName 1) D σ H)
      rfl rfl sc_l_told.nd rfl rfl takes_none5 (fun W pn xe tk _ => ?body)
      (HdAs.cons ⟨by rfl, by decide, .inl T.B.gC⟩ (fun a oe cls d pn hz hf => pss_one (ps_set (i := 1) sc_l_told.nd rfl (Or.inl rfl) (pe_tup (pa_cons pe_str (pa_cons (pe_xf T.B.xf T.B.no hz hf (pv 2)) pa_nil)))))
      (HdAs.cons ⟨by rfl, by decide, .inl T.N.gC⟩ (fun a oe cls d pn hz hf => pss_one (ps_set (i := 1) sc_l_told.nd rfl (Or.inl rfl) (pe_tup (pa_cons pe_str (pa_cons (pe_xf T.N.xf T.N.no hz hf (pv 2)) pa_nil)))))
      (HdAs.cons ⟨by rfl, by decide, .inl T.gO⟩ (fun a oe cls d pn hz hf => pss_one (ps_set (i := 1) sc_l_told.nd rfl (Or.inl rfl) (pe_tup (pa_cons pe_str (pa_cons (pe_xf T.xO T.nr hz hf (pv 2)) (pa_cons (pe_xf T.xO T.nc hz hf (pv 2)) pa_nil))))))
      (HdAs.cons ⟨by rfl, by decide, .inl T.gM⟩ (fun a oe cls d pn hz hf => pss_one (ps_set (i := 1) sc_l_told.nd rfl (Or.inl rfl) (pe_tup (pa_cons pe_str (pa_cons (pe_xf T.xM T.nm hz hf (pv 2)) pa_nil)))))
      HdAs.nil)))))
    (pss_one (ps_ret (pv 1)))), ?read⟩
  case body =>
    exact pss_ex fun Ech hW => pss_one (ps_set (i := 1) sc_l_told.nd rfl (Or.inl rfl) (pe_tup (pa_cons pe_str (pa_cons (pe_weak (act _ pn xe Ech _ _ (takes_len (n := 3) tk rfl) hW)) pa_nil))))
  case read =>
    refine ⟨by show 1 ≤ sizeLine; decide, fun t0 ht0 => ?_⟩
    refine ⟨_, ?_, _, ⟨rfl, by rw [upd_ne (ne_of_none hc ht0)]; exact hc, h t0 ht0⟩, fun v H' hq => ⟨by show 2 ≤ sizeLine; decide, fun p hp => ⟨_, rfl, hq p hp⟩⟩⟩
    · rintro cls d σ' H' ⟨C, dd, nm, fl, v, fs, rfl, rfl, hC, hx, hl, k⟩ h3
      obtain ⟨x0, x1, x2, rfl⟩ : ∃ x0 x1 x2, σ' = [x0, x1, x2] := by
        match σ', h3 with
        | [x0, x1, x2], _ => exact ⟨x0, x1, x2, rfl⟩
      rcases hC with ⟨rfl, rfl, rfl⟩ | ⟨rfl, rfl, rfl⟩
      · refine ⟨true, (exm_sib (K := X.K) T.B.ln T.B.ln T.B.nS).trans (by simp), fun _ a ha => ?_, fun z => nomatch z⟩
        refine ⟨_, rfl, rfl, rfl, dd, fs, v, rfl, hx, hl, by show 2 ≤ sizeLine; decide, fun p hp => ⟨_, rfl, k p hp⟩⟩
      · refine ⟨false, (exm_sib (K := X.K) T.N.ln T.B.ln T.B.nS).trans (by rw [decide_eq_false T.nBN]), (fun z => nomatch z), fun _ => ?_⟩
        refine ⟨true, (exm_sib (K := X.K) T.N.ln T.N.ln T.N.nS).trans (by simp), fun _ a ha => ?_, fun z => nomatch z⟩
        refine ⟨_, rfl, rfl, rfl, dd, fs, v, rfl, hx, hl, by show 2 ≤ sizeLine; decide, fun p hp => ⟨_, rfl, k p hp⟩⟩
end K15

set_option Elab.async false
set_option linter.all false
set_option maxRecDepth 100000
set_option maxHeartbeats 4000000
namespace TX
open PySem PySem.Spec PyProof.Rows L2 Pen EV2 Evl LamX
theorem strOk_S {l : List Nat} (h : ∀ c ∈ l, c < 128) : PyData.strOk (S l) = true := by
  show l.toArray.all (fun c => decide (c < 0x110000)) = true
  rw [List.all_toArray]
  exact List.all_eq_true.mpr fun c hc => decide_eq_true (by have := h c hc; omega)
end TX
namespace K15
open PySem PySem.Spec PyProof.Rows L2 Pen EV2 Evl TX LamX
abbrev qOf (x : Str) : Str := (x ++ ".<locals>.") ++ "<lambda>"
structure TxtR (K : PySem.W.Frag) (mg : Str → Option Value) (pc : Ads) (CO CM fT : Addr) (dT : FuncData) : Prop where
  mg_told : mg "_law_told" = some (.ref fT)
  F_told : Fun K "_law_told" "_law_told" s_l_told fT dT
  b_told : Binds K dT P_l_told []
  RT : TxtT K mg pc CO CM
def spPR (TT : List (Addr × Str)) : Sp := fun vs H Q _ => ∃ (q c : Addr) (cs : List Int) (i r : Int), vs = [.ref q] ∧ PenAt H q c cs i r ∧ i < 2 ^ 38 ∧ Tabs TT H ∧
  ∀ (i' r' : Int) (H' : Hp), i ≤ i' → i' ≤ i + 7 → PenAt H' q c cs i' r' → Tabs TT H' → Q (.bl true) H'
/-- what is due of a word -/
def due (w : List Nat) : List V := if colText w = true then [.str "told", .int (val (w.map up))] else [.str "NotAName", .str (S w)]
def dueD (w : List Nat) : List PyData := if colText w = true then [.str "told", .int (val (w.map up))] else [.str "NotAName", .str (S w)]
theorem due_dp {K : PySem.W.Frag} {H : Hp} (w : List Nat) : DpAll K H (due w) (dueD w) := by
  unfold due dueD
  by_cases h : colText w = true
  · rw [if_pos h, if_pos h]
    exact .cons (.str _) (.cons (.int _) .nil)
  · rw [if_neg h, if_neg h]
    exact .cons (.str _) (.cons (.str _) .nil)
theorem shaped2 {x : Str} {d : PyData} (hx : PyData.strOk x = true) (hd : PyData.canLay0 d = true) (h1 : PyData.depth d ≤ 1) : SeqAt.shaped (.tuple [.str x, d]) = true := by
  unfold SeqAt.shaped
  refine Bool.and_eq_true_iff.mpr ⟨?_, decide_eq_true ?_⟩
  · show (PyData.strOk x && (PyData.canLay0 d && true)) = true
    rw [hx, hd]
    rfl
  · show max 0 (max (PyData.depth d) 0) + 1 ≤ 64
    omega
theorem due_shaped {w : List Nat} (h : ∀ c ∈ w, c < 128) : SeqAt.shaped (.tuple (dueD w)) = true := by
  unfold dueD
  by_cases g : colText w = true
  · rw [if_pos g]
    exact shaped2 (by decide +kernel) rfl (by show 0 ≤ 1; decide)
  · rw [if_neg g]
    exact shaped2 (by decide +kernel) (strOk_S h) (by show 0 ≤ 1; decide)
theorem due_eqv (w : List Nat) : PyData.eqv (.tuple (dueD w)) (.tuple (dueD w)) = true := by
  unfold dueD
  by_cases g : colText w = true
  · rw [if_pos g]
    show (((("told" : Str) == "told")) && ((val (w.map up) == val (w.map up)) && true)) = true
    simp
  · rw [if_neg g]
    show (((("NotAName" : Str) == "NotAName")) && ((S w == S w) && true)) = true
    simp
def pool1 : List Nat := [65, 66, 67, 68, 69, 70, 71, 72, 73, 74, 75, 76, 77, 78, 79, 80, 81, 82, 83, 84, 85, 86, 87, 88, 89, 90, 97, 98, 99, 120, 121, 122]
def pool2 : List Nat := [36, 49, 32, 95, 45, 33, 123, 64, 91]
section
variable {P : Program} {w : World} {K : PySem.W.Frag} {mg : Str → Option Value} {base : Heap} {p : AdL} {pc : Ads} {CO CM fT : Addr} {dT : FuncData} {TT : List (Addr × Str)}
theorem ok_l_word_right (T : TxtH K mg p) (TC : TxtC K mg pc) (R : TxtR K mg pc CO CM fT dT) {f c P1 : Addr} {fd : FuncData} (F : FunC K "_law_word_right" "_law_word_right" s_l_word_right f c fd)
    (hTB : TabB base mg c P1) (hmT : (P1, qOf "_law_word_right") ∈ TT) (hu : ∀ x ∈ TT, x.1 = P1 → x.2 = qOf "_law_word_right") : FnOk P w K mg base CX0 7 f fd P_l_word_right (spPR TT) := by
  have TA : TxtA mg := ⟨T.n_list, T.n_int, T.n_len⟩
  have G_column_of : FnOk P w K mg base (L2.CX P w) 4 pc.f_column_of pc.d_column_of P_column_of (spColumnOf K pc.CB pc.CN) := ok_column_of TC
  have G_l_signs : FnOk P w K mg base CX0 1 p.f_signs p.d_signs P_l_signs spSigns := ok_l_signs T
  have G_l_draw : FnOk P w K mg base CX0 1 p.f_draw p.d_draw P_l_draw spDraw := ok_l_draw T.F_l_draw TA
  have G_l_pick : FnOk P w K mg base CX0 2 p.f_pick p.d_pick P_l_pick (spPick K) := ok_l_pick T.F_l_pick TA T.F_l_draw T.b_l_draw T.mg_l_draw
  have G_l_column : FnOk P w K mg base CX0 2 p.f_column p.d_column P_l_column spColumn := ok_l_column T
  have G_l_is_letters : FnOk P w K mg base CX0 2 p.f_is_letters p.d_is_letters P_l_is_letters (spAlpha fun l => l.all let1) := ok_l_is_letters T
  have RT := R.RT
  have hbT := R.b_told
  obtain ⟨oc, od, kV, doc, pm, an, cdv, ct, osl, hfd, lk, hcg⟩ := R.F_told.ex
  subst hfd
  refine F.ok sc_l_word_right (fun vs H Q E h => ?_) (fun A outer s H vs Q E hr h => ?_)
  · obtain ⟨q, c, cs, i, r, rfl, _⟩ := h
    rfl
  · obtain ⟨q, c0, cs, i, r, rfl, D, hi, hT, k⟩ := h
    refine ⟨_, (pss_cons (ps_asg (pe_tup (pa_cons pe_str (pa_cons (pe_callTy (T := "list") (call_listS rfl) (by rfl) T.n_list (by decide +kernel) (pa_cons (pe_op op_add_str (pe_call0 G_l_signs (hr.mono (by decide)) (by rfl) T.mg_l_signs T.F_l_signs.kp T.b_l_signs .nil pass0) pe_str) pa_nil)) pa_nil))) (pg_tup (by rfl) (pgs_cons (pg_name (i := 4) sc_l_word_right.nd rfl (Or.inr rfl)) (pgs_cons (pg_name (i := 1) sc_l_word_right.nd rfl (Or.inl rfl)) pgs_nil))))
      (Evl.pss_cut (ps_if (pt_cmpR op_eq (pe_call G_l_draw (hr.mono (by decide)) (by rfl) T.mg_l_draw T.F_l_draw.kp T.b_l_draw .nil pass0 (pa_cons (pv 0) (pa_cons pe_int pa_nil))) pe_int (nomark _)) (pss_one (ps_set (i := 1) sc_l_word_right.nd rfl (Or.inl rfl) (pe_op op_cat (pv 1) (pe_callTy (T := "list") (call_listS rfl) (by rfl) T.n_list (by decide +kernel) (pa_cons pe_str pa_nil))))) pss_nil)
      (pss_cons (ps_for PassesOwn.never rfl (pi_range1 (by rfl) T.n_range (pa_cons (pe_call G_l_draw (hr.mono (by decide)) (by rfl) T.mg_l_draw T.F_l_draw.kp T.b_l_draw .nil pass0 (pa_cons (pv 0) (pa_cons pe_int pa_nil))) pa_nil)) (pg_name (i := 2) sc_l_word_right.nd rfl (Or.inl rfl)) (pss_one (ps_set (i := 4) sc_l_word_right.nd rfl (Or.inr rfl) (pe_op op_add_str (pv 4) (pe_call G_l_pick (hr.mono (by decide)) (by rfl) T.mg_l_pick T.F_l_pick.kp T.b_l_pick .nil pass0 (pa_cons (pv 0) (pa_cons (pv 1) pa_nil)))))))
      (pss_cons (ps_set (i := 3) sc_l_word_right.nd rfl (Or.inl rfl) (pe_tup (pa_cons pe_str (pa_cons (pv 4) pa_nil))))
      (Evl.pss_cut (ps_if (PW.pt (pw_and (pt_chain op_le op_le pe_int (pe_callB (id := "len") call_len (by rfl) T.n_len (by decide +kernel) (pa_cons (pv 4) pa_nil)) pe_int) (pw_and1 (pt_val (pe_call G_l_is_letters (hr.mono (by decide)) (by rfl) T.mg_l_is_letters T.F_l_is_letters.kp T.b_l_is_letters .nil pass0 (pa_cons (pv 4) pa_nil)))))) (pss_one (ps_set (i := 3) sc_l_word_right.nd rfl (Or.inl rfl) (pe_tup (pa_cons pe_str (pa_cons (pe_call G_l_column (hr.mono (by decide)) (by rfl) T.mg_l_column T.F_l_column.kp T.b_l_column .nil pass0 (pa_cons (pv 4) pa_nil)) pa_nil))))) pss_nil)
      (pss_one (ps_ret (pe_cmpR (op_eqD hr.units) (pe_lamcall (T := TT) (TT := TT4 pc.CB pc.CN) (t := fun E => tCall (spColumnOf K pc.CB pc.CN) [] E (tCons (tVar 4) tNil)) (k := 4) (by rfl) R.mg_told R.F_told.kp lk hcg hbT sc_l_told rfl (Or.inl rfl) (told_gives RT) hTB rfl hmT hu (hr.mono (by decide)) (lamS_by (sc := defScope s_l_word_right) (by decide +kernel)) rfl (fun _ _ _ _ _ => rfl)
        (fun A outer s H E f c' hr2 => pe_call G_column_of hr2 (by rfl) TC.mg_column_of TC.F_column_of.kp TC.b_column_of .nil (passes_call (takes_of rfl rfl rfl rfl) fun _ _ _ _ h => h) (pa_cons (pv 4) pa_nil))) (pv 3) (nomark _))))))))), ?_⟩
    refine ⟨rfl, fun H1 s1 => ⟨_, _, rfl, rfl, by decide +kernel, _, rfl, by decide +kernel, fun l hl => ⟨by show 2 ≤ sizeLine; decide, fun t ht => ⟨t, _, rfl, st_of upd_same, rfl, _, _, rfl, _, _, rfl, rfl, ?_⟩⟩⟩⟩
    have hpool : ((A26 ++ ("abcxyz" : Str)).cps.toList.map sg) = pool1.map sg := by
      have z : (A26 ++ ("abcxyz" : Str)).cps.toList = pool1 := by decide +kernel
      rw [z]
    have e1 : Ex H (upd (upd H1 l (.lst ((A26 ++ ("abcxyz" : Str)).cps.toList.map sg))) t (.tup [.str "", .ref l])) := s1.trans ((Ex.new hl).trans (Ex.new ht))
    have hl1 : (upd (upd H1 l (.lst ((A26 ++ ("abcxyz" : Str)).cps.toList.map sg))) t (.tup [.str "", .ref l])) l = some (.lst (pool1.map sg)) := by
      rw [upd_ne (ne_of_none upd_same ht), upd_same, hpool]
    refine q_cut (M := fun σ' H' => ∃ (l : Addr) (xs : List Nat) (i' r' : Int), σ' = [some (.ref q), some (.ref l), none, none, some (.str (S []))] ∧ PenAt H' q c0 cs i' r' ∧ H' l = some (.lst (xs.map sg)) ∧ (∀ x ∈ xs, x < 128) ∧ 0 < xs.length ∧ xs.length ≤ 1000 ∧ Tabs TT H' ∧ i ≤ i' ∧ i' ≤ i + 1) ?_ ?_
    · have D1 := D.keep e1
      have hT1 := hT.ext e1
      generalize (upd (upd H1 l (.lst ((A26 ++ ("abcxyz" : Str)).cps.toList.map sg))) t (.tup [.str "", .ref l])) = H2 at e1 hl1 D1 hT1
      refine ⟨_, rfl, q, c0, cs, i, r, 2, rfl, D1, by omega, by decide, by decide, fun z i1 r1 H3 z0 z1 j0 j1 sb D3 => ?_⟩
      have hl3 := sb _ _ (ne_of hl1 D1.hp (by intro z; cases z)) hl1
      have hT3 := tabs_sib D1.hp sb hT1
      refine ⟨rfl, _, rfl, ?_⟩
      refine ite2 (fun _ => ?_) (fun _ => ?_)
      · refine ⟨_, rfl, _, rfl, by decide +kernel, fun m hm => ⟨l, m, pool1.map sg, _, rfl, rfl, ?_, upd_same, ?_, fun u hu => ?_⟩⟩
        · rw [upd_ne (ne_of_none hl3 hm)]
          exact hl3
        · rw [List.length_map]
          decide +kernel
        · have e4 := (Ex.new (o := .lst ((Str.ofString "$1 _-!{\x40[").cps.toList.map sg)) hm).trans (Ex.new (o := .lst (pool1.map sg ++ (Str.ofString "$1 _-!{\x40[").cps.toList.map sg)) hu)
          have z : (Str.ofString "$1 _-!{\x40[").cps.toList = pool2 := by decide +kernel
          refine ⟨u, pool1 ++ pool2, i1, r1, rfl, D3.keep e4, by rw [upd_same, z, List.map_append], by decide, by decide, by decide, hT3.ext e4, j0, j1⟩
      · exact ⟨l, pool1, i1, r1, rfl, D3, hl3, by decide, by decide, by decide, hT3, j0, j1⟩
    · rintro σ' H2 ⟨l, xs, i1, r1, rfl, D2, hl2, ha, x0, x1, hT2, j0, j1⟩
      refine ⟨_, rfl, q, c0, cs, i1, r1, 6, rfl, D2, by omega, by decide, by decide, fun z i2 r2 H3 z0 z1 j2 j3 sb D3 => ?_⟩
      have hl3 := sb _ _ (ne_of hl2 D2.hp (by intro z; cases z)) hl2
      have hT3 := tabs_sib D2.hp sb hT2
      refine ⟨z, rfl, by omega, by omega, for_range (n := z.toNat) (fun j σ' H' => ∃ (w : List Nat) (i' r' : Int) (t : Option V), σ' = [some (.ref q), some (.ref l), t, none, some (.str (S w))] ∧ PenAt H' q c0 cs i' r' ∧ H' l = some (.lst (xs.map sg)) ∧ (∀ x ∈ w, x < 128) ∧ w.length ≤ j ∧ Tabs TT H' ∧ i ≤ i' ∧ i' ≤ i + 2 + j) ⟨[], i2, r2, _, rfl, D3, hl3, (fun x hx => by cases hx), Nat.le_refl _, hT3, by omega, by omega⟩ ?_ ?_⟩
      · rintro j σ' H4 hj ⟨w, i3, r3, t, rfl, D4, hl4, hw, wl, hT4, j4, j5⟩
        refine ⟨_, rfl, _, rfl, _, rfl, q, c0, cs, i3, r3, l, _, rfl, D4, by omega, SqL.of hl4, by rw [List.length_map]; exact x0, by rw [List.length_map]; omega, ne_of hl4 D4.hp (by intro z; cases z), fun x i4 r4 H5 hx j6 j7 sb5 D5 => ?_⟩
        obtain ⟨y, hy, rfl⟩ := List.mem_map.mp hx
        refine ⟨S w, S [y], rfl, rfl, ?_, ?_⟩
        · rw [len_S, len_S]
          exact sz_of (by show w.length + 1 ≤ 100000; omega)
        · rw [app_S]
          refine ⟨w ++ [y], i4, r4, _, rfl, D5, sb5 _ _ (ne_of hl4 D4.hp (by intro z; cases z)) hl4, fun u hu => ?_, by rw [List.length_append]; show w.length + 1 ≤ j + 1; omega, tabs_sib D4.hp sb5 hT4, by omega, by omega⟩
          rcases List.mem_append.mp hu with h | h
          · exact hw u h
          · rw [List.mem_singleton.mp h]
            exact ha y hy
      · rintro σ' H4 ⟨w, i3, r3, t, rfl, D4, hl4, hw, wl, hT4, j4, j5⟩
        dsimp only
        refine q_asgU (eu_tup (ea_cons ev_c (ea_cons (ev_var rfl) ea_nil)) (by show 2 ≤ 100000; decide)) fun td H5 _ e5 htd => ?_
        refine q_cut (M := fun σ' H' => ∃ td : Addr, σ' = [some (.ref q), some (.ref l), t, some (.ref td), some (.str (S w))] ∧ H' td = some (.tup (due w)) ∧ Ex H4 H') ?_ ?_
        · have ec : EvT (tAnd (tTest (tChain (rI0 fun i j => .bl (decide (i ≤ j))) (rI0 fun i j => .bl (decide (i ≤ j))) (tC (.int 1)) (tCB (rLenX K) (tCons (tVar 4) tNil)) (tC (.int 3)))) (tB (tCall (spAlpha fun l => l.all let1) [] E0 (tCons (tVar 4) tNil)))) [some (.ref q), some (.ref l), t, some (.ref td), some (.str (S w))] H5 (colText w) := by
            refine et_is (et_and (a := decide (1 ≤ w.length) && decide (w.length ≤ 3)) (et_test (ev_chain (k := decide ((1 : Int) ≤ w.length)) ev_c (ev_lenS (K := K) (ev_var rfl) (by omega)) rv_I0 (fun h1 => ⟨ev_c, fun H1 e Q q => ⟨_, _, rfl, rfl, ?g1⟩⟩) (fun h0 => ?g2))) fun _ => et_B (ev_isLet (ev_var rfl) hw (by omega))) rfl
            case g1 =>
              have z : decide ((w.length : Int) ≤ 3) = (decide (1 ≤ w.length) && decide (w.length ≤ 3)) := by
                have h2 : (1 : Int) ≤ w.length := of_decide_eq_true h1
                have h3 : 1 ≤ w.length := by omega
                rw [decide_eq_true h3, Bool.true_and]
                exact decide_eq_decide.mpr (by omega)
              show Q (.bl (decide ((w.length : Int) ≤ 3))) H1
              rw [z]
              exact q H1 (Ex.refl H1)
            case g2 =>
              have h2 : ¬ (1 : Int) ≤ w.length := of_decide_eq_false h0
              rw [decide_eq_false (show ¬ 1 ≤ w.length by omega)]
              rfl
          refine s_when ec (fun hb H6 e6 => ?_) (fun hb H6 e6 => ⟨td, rfl, by unfold due; rw [if_neg (by rw [hb]; decide)]; exact e6 _ _ htd, e5.trans e6⟩)
          have hall : w.all let1 = true := by
            unfold colText at hb
            simp only [Bool.and_eq_true] at hb
            exact hb.2
          have ek : Ev (tCall spColumn [] E0 (tCons (tVar 4) tNil)) [some (.ref q), some (.ref l), t, some (.ref td), some (.str (S w))] H6 (.int (val (w.map up))) := fun H7 e7 Q q => ⟨_, rfl, w, rfl, hw, by omega, hall, fun H' s => q H' s⟩
          refine s_asgU (eu_tup (ea_cons ev_c (ea_cons ek ea_nil)) (by show 2 ≤ 100000; decide)) fun t2 H7 _ e7 h7 => ⟨t2, rfl, by unfold due; rw [if_pos hb]; exact h7, (e5.trans e6).trans e7⟩
        · rintro σ' H6 ⟨td, rfl, htd, e6⟩
          have D6 := D4.keep e6
          refine ⟨hT4.ext e6, fun H7 eN hT7 => fun t0 ht0 => ?_⟩
          have D7 := pen_extN D6 eN
          have htd7 : H7 td = some (.tup (due w)) := eN _ _ htd (fun ps z => by cases z)
          have e8 : Ex H7 (upd H7 t0 (.tup [.str "nothing"])) := Ex.new ht0
          have last : ∀ (H9 : Hp), Ex H7 H9 → ∀ pr, H9 pr = none → ∃ v, some (some (V.ref td)) = some (some v) ∧ rEqD K (.ref pr) v (upd H9 pr (.tup (due w))) Q := fun H9 e9 pr hpr => by
            refine ⟨_, rfl, _, _, .tup (st_of upd_same) (due_dp w), .tup (st_of ?_) (due_dp w), due_shaped hw, due_shaped hw, ?_⟩
            · rw [upd_ne (ne_of_none (e9 _ _ htd7) hpr)]
              exact e9 _ _ htd7
            · rw [due_eqv]
              exact k i3 r3 _ (by omega) (by omega) ((D7.keep e9).new hpr) ((hT7.ext e9).ext (Ex.new hpr))
          refine ⟨_, rfl, _, rfl, .inl ⟨w, rfl, hw, by omega, fun hg H9 e9 pr hpr => ?_, fun hg d H9 e9 hd hx => ?_⟩⟩
          · have z := last H9 (e8.trans e9) pr hpr
            unfold due at z
            rw [if_pos hg] at z
            exact z
          · refine ⟨pc.CN, d, "NotAName", "name", _, _, rfl, rfl, .inr ⟨rfl, rfl, rfl⟩, hx, rfl, fun pr hpr => ?_⟩
            have z := last H9 (e8.trans e9) pr hpr
            unfold due at z
            rw [if_neg (by rw [hg]; decide)] at z
            exact z
end
end K15

set_option Elab.async false
set_option linter.all false
set_option maxRecDepth 100000
set_option maxHeartbeats 4000000
namespace TX
open PySem PySem.Spec PyProof.Rows L2 Pen EV2 Evl LamX
/-- what is made has the property P, which stays -/
def EvP (P : Hp → V → Prop) (te : TE) (σ : L2.St) (H : Hp) : Prop := ∀ H1, Ex H H1 → ∀ Q : VK, (∀ v H2, Ex H1 H2 → P H2 v → Q v H2) → te σ H1 Q
def EvPs (P : Hp → V → Prop) (ta : TA) (σ : L2.St) (H : Hp) (n : Nat) : Prop := ∀ H1, Ex H H1 → ∀ Q : List V → Hp → Prop, (∀ vs H2, Ex H1 H2 → vs.length = n → (∀ v ∈ vs, P H2 v) → Q vs H2) → ta σ H1 Q
section
variable {P : Hp → V → Prop} {σ : L2.St} {H : Hp} {te : TE} {tr : TA} {v x : V}
theorem ep_v (h : Ev te σ H v) (p : ∀ H, P H v) : EvP P te σ H := fun H1 e Q q => h H1 e _ fun H2 e2 => q v H2 e2 (p H2)
theorem ep_lst (h : Ev te σ H x) (p : ∀ a H, H a = some (.lst [x]) → P H (.ref a)) : EvP P (tLst (tCons te tNil)) σ H := fun H1 e Q q => h H1 e _ fun H2 e2 => ⟨by show 1 ≤ sizeLine; decide, fun a ha => q _ _ (e2.trans (Ex.new ha)) (p a _ upd_same)⟩
theorem ep_tup (h : Ev te σ H x) (p : ∀ a H, H a = some (.tup [x]) → P H (.ref a)) : EvP P (tTup (tCons te tNil)) σ H := fun H1 e Q q => h H1 e _ fun H2 e2 => ⟨by show 1 ≤ sizeLine; decide, fun a ha => q _ _ (e2.trans (Ex.new ha)) (p a _ upd_same)⟩
theorem eps_nil : EvPs P tNil σ H 0 := fun H1 _ Q q => q [] H1 (Ex.refl H1) rfl fun v hv => by cases hv
theorem eps_cons {n : Nat} (st : ∀ H H' v, Ex H H' → P H v → P H' v) (h : EvP P te σ H) (hr : EvPs P tr σ H n) : EvPs P (tCons te tr) σ H (n + 1) := fun H1 e Q q =>
  h H1 e _ fun v H2 e2 g => hr H2 (e.trans e2) _ fun vs H3 e3 hl hg => q (v :: vs) H3 (e2.trans e3) (by rw [List.length_cons, hl]) fun u hu => by
    rcases List.mem_cons.mp hu with z | z
    · rw [z]
      exact st _ _ _ e3 g
    · exact hg u z
theorem rd_ps {n : Nat} {Q : VK} (st : ∀ H H' v, Ex H H' → P H v → P H' v) (h : EvPs P tr σ H n) (hz : n ≤ 100000) (q : ∀ l vs H2, H l = none → Ex H H2 → H2 l = some (.lst vs) → vs.length = n → (∀ v ∈ vs, P H2 v) → Q (.ref l) H2) : tLst tr σ H Q :=
  h H (Ex.refl H) _ fun vs H2 e2 hl hg => ⟨sz_of (by omega), fun p hp => q p vs _ (fresh_back e2 hp) (e2.trans (Ex.new hp)) upd_same hl fun v hv => st _ _ _ (Ex.new hp) (hg v hv)⟩
end
/-- plain values, lists and tuples of one plain value -/
inductive Bx : V → PyData → Prop
  | int (i : Int) : Bx (.int i) (.int i)
  | str (s : Str) : PyData.strOk s = true → Bx (.str s) (.str s)
inductive Vd (H : Hp) : V → PyData → String → Prop
  | int (i : Int) : Vd H (.int i) (.int i) "int"
  | bl (b : Bool) : Vd H (.bl b) (.bool b) "bool"
  | non : Vd H .non .none "NoneType"
  | str (s : Str) : PyData.strOk s = true → Vd H (.str s) (.str s) "str"
  | lst {a : Addr} {x : V} {d : PyData} : H a = some (.lst [x]) → Bx x d → Vd H (.ref a) (.list [d]) "list"
  | tup {a : Addr} {x : V} {d : PyData} : H a = some (.tup [x]) → Bx x d → Vd H (.ref a) (.tuple [d]) "tuple"
theorem Vd.keep {H H' : Hp} {v : V} {d : PyData} {n : String} (h1 : ∀ a xs, H a = some (.lst xs) → H' a = some (.lst xs)) (h2 : ∀ a xs, H a = some (.tup xs) → H' a = some (.tup xs)) (g : Vd H v d n) : Vd H' v d n := by
  cases g with
  | int i => exact .int i
  | bl b => exact .bl b
  | non => exact .non
  | str s h => exact .str s h
  | lst e b => exact .lst (h1 _ _ e) b
  | tup e b => exact .tup (h2 _ _ e) b
section
variable {K : PySem.W.Frag} {H : Hp} {v x : V} {d : PyData} {n : String}
theorem Vd.ext {H' : Hp} (e : Ex H H') (g : Vd H v d n) : Vd H' v d n := g.keep (fun _ _ h => e _ _ h) fun _ _ h => e _ _ h
theorem Vd.sib {H' : Hp} {p : Addr} {kv : List (Key × V)} (hp : H p = some (.dK kv)) (e : Pen.Sib p H H') (g : Vd H v d n) : Vd H' v d n := g.keep (fun _ _ h => e _ _ (ne_of h hp (by intro z; cases z)) h) fun _ _ h => e _ _ (ne_of h hp (by intro z; cases z)) h
theorem Vd.extN {H' : Hp} (e : ExtN H H') (g : Vd H v d n) : Vd H' v d n := g.keep (fun _ _ h => e _ _ h (fun _ z => by cases z)) fun _ _ h => e _ _ h (fun _ z => by cases z)
theorem Vd.knd (g : Vd H v d n) : Knd K H v n := by
  cases g with
  | int i => exact knd_int
  | bl b => exact knd_bl
  | non => exact knd_non
  | str s h => exact knd_str
  | lst e b => exact knd_lst e
  | tup e b => exact knd_tup e
theorem Bx.dp (b : Bx x d) : Dp K H x d := by
  cases b with
  | int i => exact .int i
  | str s h => exact .str s
theorem Bx.ok (b : Bx x d) : PyData.canLay0 d = true ∧ PyData.depth d = 0 ∧ PyData.eqv d d = true := by
  cases b with
  | int i => exact ⟨rfl, rfl, by show (i == i) = true; simp⟩
  | str s h => exact ⟨h, rfl, by show (s == s) = true; simp⟩
theorem Vd.dp (g : Vd H v d n) : Dp K H v d := by
  cases g with
  | int i => exact .int i
  | bl b => exact .bl b
  | non => exact .non
  | str s h => exact .str s
  | lst e b => exact .lst (sq_of e) (.cons b.dp .nil)
  | tup e b => exact .tup (st_of e) (.cons b.dp .nil)
theorem Vd.ok (g : Vd H v d n) : PyData.canLay0 d = true ∧ PyData.depth d ≤ 1 ∧ PyData.eqv d d = true := by
  cases g with
  | int i => exact ⟨rfl, by show 0 ≤ 1; decide, by show (i == i) = true; simp⟩
  | bl b => exact ⟨rfl, by show 0 ≤ 1; decide, by cases b <;> rfl⟩
  | non => exact ⟨rfl, by show 0 ≤ 1; decide, rfl⟩
  | str s h => exact ⟨h, by show 0 ≤ 1; decide, by show (s == s) = true; simp⟩
  | @lst a x d e b =>
    obtain ⟨h1, h2, h3⟩ := b.ok
    refine ⟨?_, ?_, ?_⟩
    · show (PyData.canLay0 d && true) = true
      rw [h1]
      rfl
    · show max (PyData.depth d) 0 + 1 ≤ 1
      omega
    · show (PyData.eqv d d && true) = true
      rw [h3]
      rfl
  | @tup a x d e b =>
    obtain ⟨h1, h2, h3⟩ := b.ok
    refine ⟨?_, ?_, ?_⟩
    · show (PyData.canLay0 d && true) = true
      rw [h1]
      rfl
    · show max (PyData.depth d) 0 + 1 ≤ 1
      omega
    · show (PyData.eqv d d && true) = true
      rw [h3]
      rfl
end
end TX
namespace K15
open PySem PySem.Spec PyProof.Rows L2 Pen EV2 Evl TX LamX
def oddP (H : Hp) (v : V) : Prop := ∃ d n, Vd H v d n ∧ ∀ i, v = .int i → i < 1 ∨ 18278 < i
def thingP (H : Hp) (v : V) : Prop := ∃ d n, Vd H v d n ∧ n ≠ "str"
theorem odd_st : ∀ H H' v, Ex H H' → oddP H v → oddP H' v := fun H H' v e ⟨d, n, g, h⟩ => ⟨d, n, g.ext e, h⟩
theorem thing_st : ∀ H H' v, Ex H H' → thingP H v → thingP H' v := fun H H' v e ⟨d, n, g, h⟩ => ⟨d, n, g.ext e, h⟩
theorem odd_good {K : PySem.W.Frag} {H : Hp} {v : V} {d : PyData} {n : String} (g : Vd H v d n) (h : ∀ i, v = .int i → i < 1 ∨ 18278 < i) : ∃ b, goodK n b ∧ (b = true → ∃ i, v = .int i ∧ (i < 1 ∨ 18278 < i)) := by
  cases g with
  | int i => exact ⟨true, ⟨true, false, by decide +kernel, by decide +kernel, rfl⟩, fun _ => ⟨i, rfl, h i rfl⟩⟩
  | bl b => exact ⟨false, ⟨true, true, by decide +kernel, by decide +kernel, rfl⟩, fun z => nomatch z⟩
  | non => exact ⟨false, ⟨false, false, by decide +kernel, by decide +kernel, rfl⟩, fun z => nomatch z⟩
  | str s h => exact ⟨false, ⟨false, false, by decide +kernel, by decide +kernel, rfl⟩, fun z => nomatch z⟩
  | lst e b => exact ⟨false, ⟨false, false, by decide +kernel, by decide +kernel, rfl⟩, fun z => nomatch z⟩
  | tup e b => exact ⟨false, ⟨false, false, by decide +kernel, by decide +kernel, rfl⟩, fun z => nomatch z⟩
theorem thing_str {H : Hp} {v : V} {d : PyData} {n : String} (g : Vd H v d n) (h : n ≠ "str") : kitB n "str" = some false := by
  cases g with
  | int i => decide +kernel
  | bl b => decide +kernel
  | non => decide +kernel
  | str s _ => exact absurd rfl h
  | lst e b => decide +kernel
  | tup e b => decide +kernel
structure TxtS (K : PySem.W.Frag) (mg : Str → Option Value) (pc : Ads) : Prop where
  gS : mg "SheetError" = some (.ref pc.S)
  bS : PySem.W.subIn K (.ref pc.S) (.type "BaseException") = some true
  dS : PySem.W.hasDictIn K pc.S = true
  tS : PySem.W.typeIn K (.ref pc.S) = some (.type "type")
  n_ValueError : mg "ValueError" = none
  icN : ExcC K pc.CN
section
variable {P : Program} {w : World} {K : PySem.W.Frag} {mg : Str → Option Value} {base : Heap} {p : AdL} {pc : Ads} {CO CM fT : Addr} {dT : FuncData} {TT : List (Addr × Str)}
theorem ok_l_refused_right (T : TxtH K mg p) (TC : TxtC K mg pc) (R : TxtR K mg pc CO CM fT dT) (Z : TxtS K mg pc) {f c P1 : Addr} {fd : FuncData} (F : FunC K "_law_refused_right" "_law_refused_right" s_l_refused_right f c fd)
    (hTB : TabB base mg c P1) (hmT : (P1, qOf "_law_refused_right") ∈ TT) (hu : ∀ x ∈ TT, x.1 = P1 → x.2 = qOf "_law_refused_right") : FnOk P w K mg base CX0 7 f fd P_l_refused_right (spPR TT) := by
  have TA : TxtA mg := ⟨T.n_list, T.n_int, T.n_len⟩
  have G_column_of : FnOk P w K mg base (L2.CX P w) 4 pc.f_column_of pc.d_column_of P_column_of (spColumnOf K pc.CB pc.CN) := ok_column_of TC
  have G_letters_of : FnOk P w K mg base (L2.CX P w) 4 pc.f_letters_of pc.d_letters_of P_letters_of (spLettersOf K pc.CB) := ok_letters_of TC
  have G_l_pick : FnOk P w K mg base CX0 2 p.f_pick p.d_pick P_l_pick (spPick K) := ok_l_pick T.F_l_pick TA T.F_l_draw T.b_l_draw T.mg_l_draw
  have RT := R.RT
  have hbT := R.b_told
  obtain ⟨oc, od, kV, doc, pm, an, cdv, ct, osl, hfd, lk, hcg⟩ := R.F_told.ex
  subst hfd
  refine F.ok sc_l_refused_right (fun vs H Q E h => ?_) (fun A outer s H vs Q E hr h => ?_)
  · obtain ⟨q, c, cs, i, r, rfl, _⟩ := h
    rfl
  · obtain ⟨q, c0, cs, i, r, rfl, D, hi, hT, k⟩ := h
    refine ⟨_, (pss_cons (ps_set (i := 3) sc_l_refused_right.nd rfl (Or.inr rfl) (pe_call G_l_pick (hr.mono (by decide)) (by rfl) T.mg_l_pick T.F_l_pick.kp T.b_l_pick .nil pass0 (pa_cons (pv 0) (pa_cons (pe_lst (pa_cons pe_int (pa_cons pe_int (pa_cons (pe_un un_neg pe_int) (pa_cons (pe_op op_add pe_int (pe_op op_pow pe_int pe_int)) (pa_cons pe_bl (pa_cons pe_bl (pa_cons pe_non (pa_cons pe_str (pa_cons pe_str (pa_cons (pe_lst (pa_cons pe_int pa_nil)) (pa_cons (pe_tup (pa_cons pe_int pa_nil)) pa_nil)))))))))))) pa_nil))))
      (pss_cons (ps_if (pt_cmpR (op_neD hr.units) (pe_lamcall (T := TT) (TT := TT4 pc.CB pc.CN) (t := fun E => tCall (spLettersOf K pc.CB) [] E (tCons (tVar 3) tNil)) (k := 4) (by rfl) R.mg_told R.F_told.kp lk hcg hbT sc_l_told rfl (Or.inl rfl) (told_gives RT) hTB rfl hmT hu (hr.mono (by decide)) (lamS_by (sc := defScope s_l_refused_right) (by decide +kernel)) rfl (fun _ _ _ _ _ => rfl)
        (fun A outer s H E f c' hr2 => pe_call G_letters_of hr2 (by rfl) TC.mg_letters_of TC.F_letters_of.kp TC.b_letters_of .nil (passes_call (takes_of rfl rfl rfl rfl) fun _ _ _ _ h => h) (pa_cons (pv 3) pa_nil))) (pe_tup (pa_cons pe_str (pa_cons (pv 3) pa_nil))) (nomark _)) (pss_one (ps_ret pe_bl)) pss_nil)
      (pss_cons (ps_set (i := 4) sc_l_refused_right.nd rfl (Or.inr rfl) (pe_call G_l_pick (hr.mono (by decide)) (by rfl) T.mg_l_pick T.F_l_pick.kp T.b_l_pick .nil pass0 (pa_cons (pv 0) (pa_cons (pe_lst (pa_cons pe_int (pa_cons pe_int (pa_cons pe_non (pa_cons pe_bl (pa_cons (pe_lst (pa_cons pe_str pa_nil)) (pa_cons (pe_tup (pa_cons pe_str pa_nil)) (pa_cons pe_int pa_nil)))))))) pa_nil))))
      (pss_cons (ps_if (pt_cmpR (op_neD hr.units) (pe_lamcall (T := TT) (TT := TT4 pc.CB pc.CN) (t := fun E => tCall (spColumnOf K pc.CB pc.CN) [] E (tCons (tVar 4) tNil)) (k := 4) (by rfl) R.mg_told R.F_told.kp lk hcg hbT sc_l_told rfl (Or.inl rfl) (told_gives RT) hTB rfl hmT hu (hr.mono (by decide)) (lamS_by (sc := defScope s_l_refused_right) (by decide +kernel)) rfl (fun _ _ _ _ _ => rfl)
        (fun A outer s H E f c' hr2 => pe_call G_column_of hr2 (by rfl) TC.mg_column_of TC.F_column_of.kp TC.b_column_of .nil (passes_call (takes_of rfl rfl rfl rfl) fun _ _ _ _ h => h) (pa_cons (pv 4) pa_nil))) (pe_tup (pa_cons pe_str (pa_cons (pv 4) pa_nil))) (nomark _)) (pss_one (ps_ret pe_bl)) pss_nil)
      (pss_cons (ps_set (i := 1) sc_l_refused_right.nd rfl (Or.inl rfl) pe_bl)
      (pss_cons (ps_try_as (i := 2) (tb := fun W => tDrop (tCallS (spColumnOf K pc.CB pc.CN) (WE W) (tCons (tC (.str "")) tNil))) (Wout := fun _ _ _ _ => False) rfl rfl sc_l_refused_right.nd rfl rfl ⟨rfl, by decide, Or.inl Z.gS⟩ takes_none5
        (fun W pn xe tk _ => pss_one (ps_expr (by exact (pe_callS G_column_of (hr.mono (by decide)) rfl TC.mg_column_of TC.F_column_of.kp TC.b_column_of (fun σ => passAt tk σ) (by exact (pa_cons pe_str pa_nil))))))
        (fun a oe cls d pn hz hf => pss_one (ps_set (i := 1) sc_l_refused_right.nd rfl (Or.inl rfl) (pe_and (pe_callB (id := "isinstance") (call_isF hz hf) (by rfl) TC.n_isinstance (by decide +kernel) (pa_cons (pv 2) (pa_cons (pe_glob (v := .ref pc.CN) (by rfl) R.RT.N.gC rfl) pa_nil))) (pe_and (pe_callB (id := "isinstance") (call_isF hz hf) (by rfl) TC.n_isinstance (by decide +kernel) (pa_cons (pv 2) (pa_cons (pe_bltn (v := .ty "ValueError") (by rfl) Z.n_ValueError (by decide +kernel) rfl) pa_nil))) (pe_one (pe_not (pe_callB (id := "isinstance") (call_isF hz hf) (by rfl) TC.n_isinstance (by decide +kernel) (pa_cons (pv 2) (pa_cons (pe_glob (v := .ref pc.CB) (by rfl) R.RT.B.gC rfl) pa_nil))))))))))
      (pss_one (ps_ret (pv 1))))))))), ?_⟩
    -- odd
    refine q_asgK ?_
    refine ⟨_, rfl, rd_ps (P := oddP) (n := 11) odd_st ?hv (by decide) fun l vs H1 hl e1 hL hlen hP => ?_⟩
    case hv =>
      refine eps_cons odd_st (ep_v ev_c fun _ => ⟨_, _, .int 0, fun i z => by cases z; exact .inl (by decide)⟩) ?_
      refine eps_cons odd_st (ep_v ev_c fun _ => ⟨_, _, .int 18279, fun i z => by cases z; exact .inr (by decide)⟩) ?_
      refine eps_cons odd_st (ep_v (ev_un ev_c ru_neg) fun _ => ⟨_, _, .int (-1), fun i z => by cases z; exact .inl (by decide)⟩) ?_
      refine eps_cons odd_st (ep_v (v := .int 1000000018278) (ev_is (ev_op ev_c (ev_op ev_c ev_c (rv_I ⟨by decide, by decide, by decide⟩)) rv_I0) (by decide +kernel)) fun _ => ⟨_, _, .int 1000000018278, fun i z => by cases z; exact .inr (by decide)⟩) ?_
      refine eps_cons odd_st (ep_v ev_c fun _ => ⟨_, _, .bl true, fun i z => by cases z⟩) ?_
      refine eps_cons odd_st (ep_v ev_c fun _ => ⟨_, _, .bl false, fun i z => by cases z⟩) ?_
      refine eps_cons odd_st (ep_v ev_c fun _ => ⟨_, _, .non, fun i z => by cases z⟩) ?_
      refine eps_cons odd_st (ep_v ev_c fun _ => ⟨_, _, .str _ (by decide +kernel), fun i z => by cases z⟩) ?_
      refine eps_cons odd_st (ep_v ev_c fun _ => ⟨_, _, .str _ (by decide +kernel), fun i z => by cases z⟩) ?_
      refine eps_cons odd_st (ep_lst ev_c fun a H h => ⟨_, _, .lst h (.int 1), fun i z => by cases z⟩) ?_
      refine eps_cons odd_st (ep_tup ev_c fun a H h => ⟨_, _, .tup h (.int 1), fun i z => by cases z⟩) ?_
      exact eps_nil
    have D1 := D.keep e1
    refine ⟨q, c0, cs, i, r, l, vs, rfl, D1, by omega, SqL.of hL, by omega, by omega, ne_of hL D1.hp (by intro z; cases z), fun odd i1 r1 H2 hodd j0 j1 sb D2 => ?_⟩
    obtain ⟨d1, n1, g1, ho⟩ := hP odd hodd
    have g2 := g1.sib D1.hp sb
    have hT2 := tabs_sib D1.hp sb (hT.ext e1)
    try dsimp only
    obtain ⟨b1, gd, gi⟩ := odd_good (K := K) g2 ho
    obtain ⟨c1, c2, c3⟩ := g2.ok
    -- told(lambda: letters_of(odd))
    refine ⟨hT2, fun H3 eN hT3 t0 ht0 => ?_⟩
    have g3 := g2.extN eN
    have D3 := pen_extN D2 eN
    have e4 : Ex H3 (upd H3 t0 (.tup [.str "nothing"])) := Ex.new ht0
    refine ⟨_, rfl, odd, rfl, .inr ⟨n1, b1, (g3.ext e4).knd, gd, gi, fun d H5 e5 hd hx => ?_⟩⟩
    refine ⟨pc.CB, d, "BadValue", "value", _, _, rfl, rfl, .inl ⟨rfl, rfl, rfl⟩, hx, rfl, fun pr hpr => ?_⟩
    refine ⟨_, rfl, by show 2 ≤ sizeLine; decide, fun p2 hp2 => ?_⟩
    have e6 : Ex H3 (upd (upd H5 pr (.tup [.str "BadValue", odd])) p2 (.tup [.str "BadValue", odd])) := (e4.trans e5).trans ((Ex.new hpr).trans (Ex.new hp2))
    have hpr6 : (upd (upd H5 pr (.tup [.str "BadValue", odd])) p2 (.tup [.str "BadValue", odd])) pr = some (.tup [.str "BadValue", odd]) := by
      rw [upd_ne (ne_of_none upd_same hp2), upd_same]
    have hp26 : (upd (upd H5 pr (.tup [.str "BadValue", odd])) p2 (.tup [.str "BadValue", odd])) p2 = some (.tup [.str "BadValue", odd]) := upd_same
    generalize (upd (upd H5 pr (.tup [.str "BadValue", odd])) p2 (.tup [.str "BadValue", odd])) = H6 at e6 hpr6 hp26
    refine ⟨.tuple [.str "BadValue", d1], .tuple [.str "BadValue", d1], .tup (st_of hpr6) (.cons (.str _) (.cons (g3.ext e6).dp .nil)), .tup (st_of hp26) (.cons (.str _) (.cons (g3.ext e6).dp .nil)), shaped2 (by decide +kernel) c1 c2, shaped2 (by decide +kernel) c1 c2, ?_⟩
    have eq1 : PyData.eqv (.tuple [.str "BadValue", d1]) (.tuple [.str "BadValue", d1]) = true := by
      show ((("BadValue" : Str) == "BadValue") && (PyData.eqv d1 d1 && true)) = true
      rw [c3]
      simp
    refine ⟨_, rfl, ?_⟩
    try dsimp only
    rw [if_neg (by rw [eq1]; decide)]
    try unfold tNext
    try dsimp only
    have D6 := D3.keep e6
    have hT6 := hT3.ext e6
    -- thing
    refine q_asgK ?_
    refine ⟨_, rfl, rd_ps (P := thingP) (n := 7) thing_st ?hw (by decide) fun l2 us H7 hl2 e7 hL2 hlen2 hP2 => ?_⟩
    case hw =>
      refine eps_cons thing_st (ep_v ev_c fun _ => ⟨_, _, .int 1, by decide⟩) ?_
      refine eps_cons thing_st (ep_v ev_c fun _ => ⟨_, _, .int 0, by decide⟩) ?_
      refine eps_cons thing_st (ep_v ev_c fun _ => ⟨_, _, .non, by decide⟩) ?_
      refine eps_cons thing_st (ep_v ev_c fun _ => ⟨_, _, .bl true, by decide⟩) ?_
      refine eps_cons thing_st (ep_lst ev_c fun a H h => ⟨_, _, .lst h (.str _ (by decide +kernel)), by decide⟩) ?_
      refine eps_cons thing_st (ep_tup ev_c fun a H h => ⟨_, _, .tup h (.str _ (by decide +kernel)), by decide⟩) ?_
      refine eps_cons thing_st (ep_v ev_c fun _ => ⟨_, _, .int 27, by decide⟩) ?_
      exact eps_nil
    have D7 := D6.keep e7
    refine ⟨q, c0, cs, i1, r1, l2, us, rfl, D7, by omega, SqL.of hL2, by omega, by omega, ne_of hL2 D7.hp (by intro z; cases z), fun thing i2 r2 H8 hth j2 j3 sb2 D8 => ?_⟩
    obtain ⟨d2, n2, k1, hns⟩ := hP2 thing hth
    have k2 := k1.sib D7.hp sb2
    have hT8 := tabs_sib D7.hp sb2 (hT6.ext e7)
    try dsimp only
    have ks := thing_str k2 hns
    obtain ⟨a1, a2, a3⟩ := k2.ok
    refine ⟨hT8, fun H9 eN2 hT9 t1 ht1 => ?_⟩
    have k3 := k2.extN eN2
    have D9 := pen_extN D8 eN2
    have e10 : Ex H9 (upd H9 t1 (.tup [.str "nothing"])) := Ex.new ht1
    refine ⟨_, rfl, thing, rfl, .inr ⟨n2, (k3.ext e10).knd, ks, fun d H5 e5 hd hx => ?_⟩⟩
    refine ⟨pc.CB, d, "BadValue", "value", _, _, rfl, rfl, .inl ⟨rfl, rfl, rfl⟩, hx, rfl, fun pr hpr => ?_⟩
    refine ⟨_, rfl, by show 2 ≤ sizeLine; decide, fun p2 hp2 => ?_⟩
    have e6 : Ex H9 (upd (upd H5 pr (.tup [.str "BadValue", thing])) p2 (.tup [.str "BadValue", thing])) := (e10.trans e5).trans ((Ex.new hpr).trans (Ex.new hp2))
    have hpr6 : (upd (upd H5 pr (.tup [.str "BadValue", thing])) p2 (.tup [.str "BadValue", thing])) pr = some (.tup [.str "BadValue", thing]) := by
      rw [upd_ne (ne_of_none upd_same hp2), upd_same]
    have hp26 : (upd (upd H5 pr (.tup [.str "BadValue", thing])) p2 (.tup [.str "BadValue", thing])) p2 = some (.tup [.str "BadValue", thing]) := upd_same
    generalize (upd (upd H5 pr (.tup [.str "BadValue", thing])) p2 (.tup [.str "BadValue", thing])) = H10 at e6 hpr6 hp26
    refine ⟨.tuple [.str "BadValue", d2], .tuple [.str "BadValue", d2], .tup (st_of hpr6) (.cons (.str _) (.cons (k3.ext e6).dp .nil)), .tup (st_of hp26) (.cons (.str _) (.cons (k3.ext e6).dp .nil)), shaped2 (by decide +kernel) a1 a2, shaped2 (by decide +kernel) a1 a2, ?_⟩
    have eq2 : PyData.eqv (.tuple [.str "BadValue", d2]) (.tuple [.str "BadValue", d2]) = true := by
      show ((("BadValue" : Str) == "BadValue") && (PyData.eqv d2 d2 && true)) = true
      rw [a3]
      simp
    refine ⟨_, rfl, ?_⟩
    try dsimp only
    rw [if_neg (by rw [eq2]; decide)]
    try unfold tNext
    try dsimp only
    have D10 := D9.keep e6
    have hT10 := hT9.ext e6
    -- the empty text
    refine q_asg ev_c fun H11 e11 => ?_
    refine ⟨.str (S []), rfl, .inl ⟨[], rfl, (fun c hc => by cases hc), by decide, (fun z => absurd z (by decide)), fun _ d H12 e12 hd hx => ?_⟩⟩
    refine ⟨true, exm_below RT.N.ln Z.bS Z.dS Z.tS, fun _ a ha => ?_, fun z => nomatch z⟩
    have ik : ∀ {σ : L2.St} {tc : TE} {cv : Value} {b : Bool} {u : V}, σ[2]? = some (some (.ref a)) → PySem.W.kitOne K (.ref pc.CN) cv = some b → (∀ x, RelV u x → x = cv) → Ev tc σ H12 u → Ev (tCB (rIsF K a (.ref pc.CN) (some d)) (tCons (tVar 2) (tCons tc tNil))) σ H12 (.bl b) := fun h2 hk hu hc H1 e Q q =>
      ⟨_, h2, hc H1 e _ fun H2 e2 => ⟨pc.CN, d, _, _, _, _, rfl, rfl, Z.icN, e2 _ _ (e _ _ hx), rfl, hu, hk, q H2 e2⟩⟩
    show tAsg _ _ _ _ _
    refine s_asg (v := .bl true) (ev_andV (b := true) (ik (b := true) rfl (by rw [kit_below RT.N.ln RT.N.ln RT.N.nS]; simp) rel_ref ev_c) fun _ => ev_andV (b := true) (ik (b := true) rfl (kit_value RT.N.ln) rel_ty ev_c) fun _ => ev_notV (a := false) (ik (b := false) rfl (by rw [kit_below RT.N.ln RT.B.ln RT.B.nS, decide_eq_false RT.nBN]) rel_ref ev_c)) fun H13 e13 => ?_
    refine ⟨_, rfl, ?_⟩
    exact k i2 r2 H13 (by omega) (by omega) (D10.keep ((e11.trans e12).trans e13)) (hT10.ext ((e11.trans e12).trans e13))
end
end K15

set_option Elab.async false
set_option linter.all false
set_option maxRecDepth 100000
set_option maxHeartbeats 4000000
namespace K15
open PySem PySem.Spec PyProof.Rows L2 Pen EV2 Evl TX LamX
structure AdN where
  f_letters_right : Addr
  f_word_right : Addr
  f_refused_right : Addr
  d_letters_right : FuncData
  d_word_right : FuncData
  d_refused_right : FuncData
  c_word_right : Addr
  c_refused_right : Addr
  t_word_right : Addr
  t_refused_right : Addr
def AdN.TT (n : AdN) : List (Addr × Str) := [(n.t_word_right, qOf "_law_word_right"), (n.t_refused_right, qOf "_law_refused_right")]
structure TxtN (K : PySem.W.Frag) (mg : Str → Option Value) (n : AdN) : Prop where
  g_letters_right : mg "_law_letters_right" = some (.ref n.f_letters_right)
  g_word_right : mg "_law_word_right" = some (.ref n.f_word_right)
  g_refused_right : mg "_law_refused_right" = some (.ref n.f_refused_right)
  F_letters_right : Fun K "_law_letters_right" "_law_letters_right" s_l_letters_right n.f_letters_right n.d_letters_right
  F_word_right : FunC K "_law_word_right" "_law_word_right" s_l_word_right n.f_word_right n.c_word_right n.d_word_right
  F_refused_right : FunC K "_law_refused_right" "_law_refused_right" s_l_refused_right n.f_refused_right n.c_refused_right n.d_refused_right
  k_letters_right : PySem.W.keepIn K (.ref n.f_letters_right) = true
  k_word_right : PySem.W.keepIn K (.ref n.f_word_right) = true
  k_refused_right : PySem.W.keepIn K (.ref n.f_refused_right) = true
  b_letters_right : Binds K n.d_letters_right P_l_letters_right []
  b_word_right : Binds K n.d_word_right P_l_word_right []
  b_refused_right : Binds K n.d_refused_right P_l_refused_right []
  ne : n.t_word_right ≠ n.t_refused_right
def spLaw (K : PySem.W.Frag) (TT : List (Addr × Str)) : Sp := fun vs H Q _ => ∃ (a : Addr) (ns : List Int), vs = [.ref a] ∧ SqL K H a (ns.map V.int) ∧ ns.length ≤ 63 ∧ Tabs TT H ∧ ∀ H', Q (.bl true) H'
section
variable {P : Program} {w : World} {K : PySem.W.Frag} {mg : Str → Option Value} {base : Heap} {p : AdL} {pc : Ads} {CO CM fT : Addr} {dT : FuncData} {n : AdN}
theorem ok_law (T : TxtH K mg p) (TC : TxtC K mg pc) (R : TxtR K mg pc CO CM fT dT) (Z : TxtS K mg pc) (N : TxtN K mg n) {f : Addr} {fd : FuncData} (F : Fun K "law" "law" s_law f fd)
    (B1 : TabB base mg n.c_word_right n.t_word_right) (B2 : TabB base mg n.c_refused_right n.t_refused_right) : FnOk P w K mg base CX0 8 f fd P_law (spLaw K n.TT) := by
  have TA : TxtA mg := ⟨T.n_list, T.n_int, T.n_len⟩
  have G_l_pen : FnOk P w K mg base CX0 1 p.f_pen p.d_pen P_l_pen (spPen K) := ok_l_pen T.F_l_pen TA
  have G_l_column_drawn : FnOk P w K mg base CX0 3 p.f_column_drawn p.d_column_drawn P_l_column_drawn spDrawn := ok_l_column_drawn T
  have G_l_letters_right : FnOk P w K mg base CX0 5 n.f_letters_right n.d_letters_right P_l_letters_right spLR := ok_l_letters_right T TC N.F_letters_right
  have G_l_word_right : FnOk P w K mg base CX0 7 n.f_word_right n.d_word_right P_l_word_right (spPR n.TT) := ok_l_word_right T TC R N.F_word_right B1 (List.mem_cons_self ..) fun x hx e => by
    rcases List.mem_cons.mp hx with h | h
    · rw [h]
    · rw [List.mem_singleton.mp h] at e
      exact absurd e.symm N.ne
  have G_l_refused_right : FnOk P w K mg base CX0 7 n.f_refused_right n.d_refused_right P_l_refused_right (spPR n.TT) := ok_l_refused_right T TC R Z N.F_refused_right B2 (List.mem_cons_of_mem _ (List.mem_cons_self ..)) fun x hx e => by
    rcases List.mem_cons.mp hx with h | h
    · rw [h] at e
      exact absurd e N.ne
    · rw [List.mem_singleton.mp h]
  refine F.ok sc_law (fun vs H Q E h => ?_) (fun cdv A outer s H vs Q E hr h => ?_)
  · obtain ⟨a, ns, rfl, _⟩ := h
    rfl
  · obtain ⟨a, ns, rfl, hS, hlen, hT, k⟩ := h
    refine ⟨_, (pss_cons (ps_set (i := 1) sc_law.nd rfl (Or.inl rfl) (pe_call G_l_pen (hr.mono (by decide)) (by rfl) T.mg_l_pen T.F_l_pen.kp T.b_l_pen .nil pass0 (pa_cons (pv 0) pa_nil)))
      (pss_cons (ps_for PassesOwn.never rfl (pi_range1 (by rfl) T.n_range (pa_cons pe_int pa_nil)) (pg_name (i := 2) sc_law.nd rfl (Or.inl rfl)) (pss_one (ps_if (PW.pt (pw_or (pt_not (pt_val (pe_call G_l_letters_right (hr.mono (by decide)) (by rfl) N.g_letters_right N.k_letters_right N.b_letters_right .nil pass0 (pa_cons (pv 1) (pa_cons (pe_call G_l_column_drawn (hr.mono (by decide)) (by rfl) T.mg_l_column_drawn T.F_l_column_drawn.kp T.b_l_column_drawn .nil pass0 (pa_cons (pv 1) pa_nil)) pa_nil))))) (pw_or1 (pt_not (pt_val (pe_call G_l_word_right (hr.mono (by decide)) (by rfl) N.g_word_right N.k_word_right N.b_word_right .nil pass0 (pa_cons (pv 1) pa_nil))))))) (pss_one (ps_ret pe_bl)) pss_nil)))
      (pss_one (ps_ret (pe_call G_l_refused_right (hr.mono (by decide)) (by rfl) N.g_refused_right N.k_refused_right N.b_refused_right .nil pass0 (pa_cons (pv 1) pa_nil)))))), ?_⟩
    refine q_asgK ?_
    refine ⟨_, rfl, a, ns, rfl, hS, hlen, fun q c H1 hq s1 P1 => ?_⟩
    show tSeq _ _ _ _ _
    refine q_forR1 (n := 6) (ea_cons ev_c ea_nil) (by decide) (fun i σ' H' => ∃ (ix r : Int) (t : Option V), σ' = [some (.ref a), some (.ref q), t] ∧ PenAt H' q c ns ix r ∧ ix ≤ 13 * (i : Int) ∧ Tabs n.TT H') (fun H2 e2 => ⟨0, 0, _, rfl, P1.keep e2, by omega, (hT.ext s1).ext e2⟩) ?_ ?_
    · rintro i σ' H2 hi ⟨ix, r, t, rfl, P2, hix, hT2⟩
      refine ⟨_, rfl, _, rfl, q, c, ns, ix, r, rfl, P2, by omega, fun m i1 r1 H3 m1 m2 j0 j1 sb P3 => ?_⟩
      have hT3 := tabs_sib P2.hp sb hT2
      refine ⟨q, c, ns, i1, r1, m, rfl, P3, by omega, m1, m2, fun i2 r2 H4 j2 j3 sb2 P4 => ?_⟩
      have hT4 := tabs_sib P3.hp sb2 hT3
      refine ⟨_, rfl, ?_⟩
      refine ⟨_, rfl, q, c, ns, i2, r2, rfl, P4, by omega, hT4, fun i3 r3 H5 j4 j5 P5 hT5 => ?_⟩
      refine ⟨_, rfl, ?_⟩
      exact ⟨i3, r3, _, rfl, P5, by omega, hT5⟩
    · rintro σ' H2 ⟨ix, r, t, rfl, P2, hix, hT2⟩
      have h6 : ((6 : Int).toNat : Int) = 6 := rfl
      exact ⟨_, rfl, q, c, ns, ix, r, rfl, P2, by omega, hT2, fun i1 r1 H3 _ _ _ _ => k H3⟩
end
end K15

set_option Elab.async false
set_option linter.all false
set_option maxRecDepth 100000
set_option maxHeartbeats 4000000
namespace K15
open PySem PySem.Spec PyProof.Rows L2 Pen EV2 Evl TX LamX
theorem all_mk {l : PySem.W.OpenLaw} {w : World} {K : PySem.W.Frag} {h : Heap} {mg : Str → Option Value} {fa S C_B C_N C_O C_M f_B f_N c_W c_R : Addr} (tW tR : Addr) {kc kl : Tok}
    {g_p_is_integer g_p_check_range g_p_check_string g_p_letters_of g_p_is_letters g_p_is_column_text g_p_column_of g_h_signs g_h_letters g_h_column g_h_is_letters g_h_mixed_case g_h_column_drawn g_h_pick g_h_draw g_h_pen g_t_told g_r_letters_right g_r_word_right g_r_refused_right g_law : Addr}
    (X : K.In h) (G : h.Ns mainGlobals mg) (hfa : mg "law" = some (.ref fa))
    (a_S : PySem.W.nsIn K mainGlobals "SheetError" = some (some (.ref S)))
    (a_B : PySem.W.nsIn K mainGlobals "BadValue" = some (some (.ref C_B)))
    (a_N : PySem.W.nsIn K mainGlobals "NotAName" = some (some (.ref C_N)))
    (a_O : PySem.W.nsIn K mainGlobals "OffGrid" = some (some (.ref C_O)))
    (a_M : PySem.W.nsIn K mainGlobals "TooMany" = some (some (.ref C_M)))
    (a_p_is_integer : PySem.W.nsIn K mainGlobals "is_integer" = some (some (.ref g_p_is_integer)))
    (a_p_check_range : PySem.W.nsIn K mainGlobals "check_range" = some (some (.ref g_p_check_range)))
    (a_p_check_string : PySem.W.nsIn K mainGlobals "check_string" = some (some (.ref g_p_check_string)))
    (a_p_letters_of : PySem.W.nsIn K mainGlobals "letters_of" = some (some (.ref g_p_letters_of)))
    (a_p_is_letters : PySem.W.nsIn K mainGlobals "is_letters" = some (some (.ref g_p_is_letters)))
    (a_p_is_column_text : PySem.W.nsIn K mainGlobals "is_column_text" = some (some (.ref g_p_is_column_text)))
    (a_p_column_of : PySem.W.nsIn K mainGlobals "column_of" = some (some (.ref g_p_column_of)))
    (a_h_signs : PySem.W.nsIn K mainGlobals "_law_signs" = some (some (.ref g_h_signs)))
    (a_h_letters : PySem.W.nsIn K mainGlobals "_law_letters" = some (some (.ref g_h_letters)))
    (a_h_column : PySem.W.nsIn K mainGlobals "_law_column" = some (some (.ref g_h_column)))
    (a_h_is_letters : PySem.W.nsIn K mainGlobals "_law_is_letters" = some (some (.ref g_h_is_letters)))
    (a_h_mixed_case : PySem.W.nsIn K mainGlobals "_law_mixed_case" = some (some (.ref g_h_mixed_case)))
    (a_h_column_drawn : PySem.W.nsIn K mainGlobals "_law_column_drawn" = some (some (.ref g_h_column_drawn)))
    (a_h_pick : PySem.W.nsIn K mainGlobals "_law_pick" = some (some (.ref g_h_pick)))
    (a_h_draw : PySem.W.nsIn K mainGlobals "_law_draw" = some (some (.ref g_h_draw)))
    (a_h_pen : PySem.W.nsIn K mainGlobals "_law_pen" = some (some (.ref g_h_pen)))
    (a_t_told : PySem.W.nsIn K mainGlobals "_law_told" = some (some (.ref g_t_told)))
    (a_r_letters_right : PySem.W.nsIn K mainGlobals "_law_letters_right" = some (some (.ref g_r_letters_right)))
    (a_r_word_right : PySem.W.nsIn K mainGlobals "_law_word_right" = some (some (.ref g_r_word_right)))
    (a_r_refused_right : PySem.W.nsIn K mainGlobals "_law_refused_right" = some (some (.ref g_r_refused_right)))
    (a_law : PySem.W.nsIn K mainGlobals "law" = some (some (.ref g_law)))
    (a_COL : PySem.W.nsIn K mainGlobals "COLUMNS" = some (some (.int 18278 kc)))
    (a_LET : PySem.W.nsIn K mainGlobals "_LETTERS" = some (some (.str "ABCDEFGHIJKLMNOPQRSTUVWXYZ" kl)))
    (i_B : PySem.W.findIn K (.ref C_B) "__init__" = some (some (.ref f_B)))
    (i_N : PySem.W.findIn K (.ref C_N) "__init__" = some (some (.ref f_N)))
    (z_list : PySem.W.nsIn K mainGlobals "list" = some none)
    (z_int : PySem.W.nsIn K mainGlobals "int" = some none)
    (z_len : PySem.W.nsIn K mainGlobals "len" = some none)
    (z_range : PySem.W.nsIn K mainGlobals "range" = some none)
    (z_min : PySem.W.nsIn K mainGlobals "min" = some none)
    (z_max : PySem.W.nsIn K mainGlobals "max" = some none)
    (z_isinstance : PySem.W.nsIn K mainGlobals "isinstance" = some none)
    (z_bool : PySem.W.nsIn K mainGlobals "bool" = some none)
    (z_str : PySem.W.nsIn K mainGlobals "str" = some none)
    (z_divmod : PySem.W.nsIn K mainGlobals "divmod" = some none)
    (z_ValueError : PySem.W.nsIn K mainGlobals "ValueError" = some none)
    (hn : PySem.W.specialIn K (.builtin "object.__class__") "__get__" = some (some (.builtin "getset_descriptor.__get__")))
    (ht : PySem.W.takesIn K (.builtin "object.__class__") = some true)
    (bS : PySem.W.subIn K (.ref S) (.type "BaseException") = some true)
    (dS : PySem.W.hasDictIn K S = true)
    (tS : PySem.W.typeIn K (.ref S) = some (.type "type"))
    {nm_B q_B : Str} {N_B : Addr} {bs_B sub_B : List Value} {sn_B : List Str} {ab_B : Bool} {col_B : Option Bool} {dd_B : Option Addr} {k0_B k1_B k2_B k3_B k5_B : Option Value}
    (L_B : K.lookup C_B = some (excClassObj nm_B q_B C_B N_B bs_B (BM S) true sn_B sub_B ab_B col_B dd_B k0_B k1_B k2_B k3_B k5_B "ValueError.__new__"))
    (hg_B : PySem.W.findIn K (.ref C_B) "__getattribute__" = some (some (.builtin "BaseException.__getattribute__")))
    (hk_B : PySem.W.findIn K (.ref C_B) "__getattr__" = some none)
    (no0_B : PySem.W.findIn K (.ref C_B) "value" = some none)
    (kC_B : PySem.W.keepIn K (.ref C_B) = true)
    (sa_B : PySem.W.findIn K (.ref C_B) "__setattr__" = some (some (.builtin "object.__setattr__")))
    (ty_B : PySem.W.typeIn K (.ref f_B) = some (.type "function"))
    {oc_iB kV_iB dc_iB pm_iB ct_iB cd_iB : Value} {od_iB an_iB : Option Addr} {sl_iB : Array (Option Value)}
    (l_iB : K.lookup f_B = some ⟨oc_iB, od_iB, .func (PySem.W.fnOf "__init__" "BadValue.__init__" (defArgs s_BadValue_init) (defBody s_BadValue_init) (defScope s_BadValue_init) .none kV_iB dc_iB pm_iB an_iB cd_iB ct_iB), sl_iB⟩) (c_iB : PySem.W.codeIn K cd_iB "BadValue.__init__" = true) (k_iB : PySem.W.keepIn K (.ref f_B) = true)
    {nm_N q_N : Str} {N_N : Addr} {bs_N sub_N : List Value} {sn_N : List Str} {ab_N : Bool} {col_N : Option Bool} {dd_N : Option Addr} {k0_N k1_N k2_N k3_N k5_N : Option Value}
    (L_N : K.lookup C_N = some (excClassObj nm_N q_N C_N N_N bs_N (BM S) true sn_N sub_N ab_N col_N dd_N k0_N k1_N k2_N k3_N k5_N "ValueError.__new__"))
    (hg_N : PySem.W.findIn K (.ref C_N) "__getattribute__" = some (some (.builtin "BaseException.__getattribute__")))
    (hk_N : PySem.W.findIn K (.ref C_N) "__getattr__" = some none)
    (no0_N : PySem.W.findIn K (.ref C_N) "name" = some none)
    (kC_N : PySem.W.keepIn K (.ref C_N) = true)
    (sa_N : PySem.W.findIn K (.ref C_N) "__setattr__" = some (some (.builtin "object.__setattr__")))
    (ty_N : PySem.W.typeIn K (.ref f_N) = some (.type "function"))
    {oc_iN kV_iN dc_iN pm_iN ct_iN cd_iN : Value} {od_iN an_iN : Option Addr} {sl_iN : Array (Option Value)}
    (l_iN : K.lookup f_N = some ⟨oc_iN, od_iN, .func (PySem.W.fnOf "__init__" "NotAName.__init__" (defArgs s_NotAName_init) (defBody s_NotAName_init) (defScope s_NotAName_init) .none kV_iN dc_iN pm_iN an_iN cd_iN ct_iN), sl_iN⟩) (c_iN : PySem.W.codeIn K cd_iN "NotAName.__init__" = true) (k_iN : PySem.W.keepIn K (.ref f_N) = true)
    {nm_O q_O : Str} {N_O : Addr} {bs_O sub_O : List Value} {sn_O : List Str} {ab_O : Bool} {col_O : Option Bool} {dd_O : Option Addr} {k0_O k1_O k2_O k3_O k5_O : Option Value}
    (L_O : K.lookup C_O = some (excClassObj nm_O q_O C_O N_O bs_O (BM S) true sn_O sub_O ab_O col_O dd_O k0_O k1_O k2_O k3_O k5_O "ValueError.__new__"))
    (hg_O : PySem.W.findIn K (.ref C_O) "__getattribute__" = some (some (.builtin "BaseException.__getattribute__")))
    (hk_O : PySem.W.findIn K (.ref C_O) "__getattr__" = some none)
    (no0_O : PySem.W.findIn K (.ref C_O) "row" = some none)
    (no1_O : PySem.W.findIn K (.ref C_O) "column" = some none)
    {nm_M q_M : Str} {N_M : Addr} {bs_M sub_M : List Value} {sn_M : List Str} {ab_M : Bool} {col_M : Option Bool} {dd_M : Option Addr} {k0_M k1_M k2_M k3_M k5_M : Option Value}
    (L_M : K.lookup C_M = some (excClassObj nm_M q_M C_M N_M bs_M (BM S) true sn_M sub_M ab_M col_M dd_M k0_M k1_M k2_M k3_M k5_M "ValueError.__new__"))
    (hg_M : PySem.W.findIn K (.ref C_M) "__getattribute__" = some (some (.builtin "BaseException.__getattribute__")))
    (hk_M : PySem.W.findIn K (.ref C_M) "__getattr__" = some none)
    (no0_M : PySem.W.findIn K (.ref C_M) "most" = some none)
    (ha_N : PySem.W.findIn K (.ref C_N) "__class__" = some (some (.builtin "object.__class__")))
    {oc_p_is_integer kV_p_is_integer dc_p_is_integer pm_p_is_integer ct_p_is_integer cd_p_is_integer : Value} {od_p_is_integer an_p_is_integer : Option Addr} {sl_p_is_integer : Array (Option Value)}
    (l_p_is_integer : K.lookup g_p_is_integer = some ⟨oc_p_is_integer, od_p_is_integer, .func (PySem.W.fnOf "is_integer" "is_integer" (defArgs s_is_integer) (defBody s_is_integer) (defScope s_is_integer) .none kV_p_is_integer dc_p_is_integer pm_p_is_integer an_p_is_integer cd_p_is_integer ct_p_is_integer), sl_p_is_integer⟩) (c_p_is_integer : PySem.W.codeIn K cd_p_is_integer "is_integer" = true) (k_p_is_integer : PySem.W.keepIn K (.ref g_p_is_integer) = true)
    {oc_p_check_range kV_p_check_range dc_p_check_range pm_p_check_range ct_p_check_range cd_p_check_range : Value} {od_p_check_range an_p_check_range : Option Addr} {sl_p_check_range : Array (Option Value)}
    (l_p_check_range : K.lookup g_p_check_range = some ⟨oc_p_check_range, od_p_check_range, .func (PySem.W.fnOf "check_range" "check_range" (defArgs s_check_range) (defBody s_check_range) (defScope s_check_range) .none kV_p_check_range dc_p_check_range pm_p_check_range an_p_check_range cd_p_check_range ct_p_check_range), sl_p_check_range⟩) (c_p_check_range : PySem.W.codeIn K cd_p_check_range "check_range" = true) (k_p_check_range : PySem.W.keepIn K (.ref g_p_check_range) = true)
    {oc_p_check_string kV_p_check_string dc_p_check_string pm_p_check_string ct_p_check_string cd_p_check_string : Value} {od_p_check_string an_p_check_string : Option Addr} {sl_p_check_string : Array (Option Value)}
    (l_p_check_string : K.lookup g_p_check_string = some ⟨oc_p_check_string, od_p_check_string, .func (PySem.W.fnOf "check_string" "check_string" (defArgs s_check_string) (defBody s_check_string) (defScope s_check_string) .none kV_p_check_string dc_p_check_string pm_p_check_string an_p_check_string cd_p_check_string ct_p_check_string), sl_p_check_string⟩) (c_p_check_string : PySem.W.codeIn K cd_p_check_string "check_string" = true) (k_p_check_string : PySem.W.keepIn K (.ref g_p_check_string) = true)
    {oc_p_letters_of kV_p_letters_of dc_p_letters_of pm_p_letters_of ct_p_letters_of cd_p_letters_of : Value} {od_p_letters_of an_p_letters_of : Option Addr} {sl_p_letters_of : Array (Option Value)}
    (l_p_letters_of : K.lookup g_p_letters_of = some ⟨oc_p_letters_of, od_p_letters_of, .func (PySem.W.fnOf "letters_of" "letters_of" (defArgs s_letters_of) (defBody s_letters_of) (defScope s_letters_of) .none kV_p_letters_of dc_p_letters_of pm_p_letters_of an_p_letters_of cd_p_letters_of ct_p_letters_of), sl_p_letters_of⟩) (c_p_letters_of : PySem.W.codeIn K cd_p_letters_of "letters_of" = true) (k_p_letters_of : PySem.W.keepIn K (.ref g_p_letters_of) = true)
    {oc_p_is_letters kV_p_is_letters dc_p_is_letters pm_p_is_letters ct_p_is_letters cd_p_is_letters : Value} {od_p_is_letters an_p_is_letters : Option Addr} {sl_p_is_letters : Array (Option Value)}
    (l_p_is_letters : K.lookup g_p_is_letters = some ⟨oc_p_is_letters, od_p_is_letters, .func (PySem.W.fnOf "is_letters" "is_letters" (defArgs s_is_letters) (defBody s_is_letters) (defScope s_is_letters) .none kV_p_is_letters dc_p_is_letters pm_p_is_letters an_p_is_letters cd_p_is_letters ct_p_is_letters), sl_p_is_letters⟩) (c_p_is_letters : PySem.W.codeIn K cd_p_is_letters "is_letters" = true) (k_p_is_letters : PySem.W.keepIn K (.ref g_p_is_letters) = true)
    {oc_p_is_column_text kV_p_is_column_text dc_p_is_column_text pm_p_is_column_text ct_p_is_column_text cd_p_is_column_text : Value} {od_p_is_column_text an_p_is_column_text : Option Addr} {sl_p_is_column_text : Array (Option Value)}
    (l_p_is_column_text : K.lookup g_p_is_column_text = some ⟨oc_p_is_column_text, od_p_is_column_text, .func (PySem.W.fnOf "is_column_text" "is_column_text" (defArgs s_is_column_text) (defBody s_is_column_text) (defScope s_is_column_text) .none kV_p_is_column_text dc_p_is_column_text pm_p_is_column_text an_p_is_column_text cd_p_is_column_text ct_p_is_column_text), sl_p_is_column_text⟩) (c_p_is_column_text : PySem.W.codeIn K cd_p_is_column_text "is_column_text" = true) (k_p_is_column_text : PySem.W.keepIn K (.ref g_p_is_column_text) = true)
    {oc_p_column_of kV_p_column_of dc_p_column_of pm_p_column_of ct_p_column_of cd_p_column_of : Value} {od_p_column_of an_p_column_of : Option Addr} {sl_p_column_of : Array (Option Value)}
    (l_p_column_of : K.lookup g_p_column_of = some ⟨oc_p_column_of, od_p_column_of, .func (PySem.W.fnOf "column_of" "column_of" (defArgs s_column_of) (defBody s_column_of) (defScope s_column_of) .none kV_p_column_of dc_p_column_of pm_p_column_of an_p_column_of cd_p_column_of ct_p_column_of), sl_p_column_of⟩) (c_p_column_of : PySem.W.codeIn K cd_p_column_of "column_of" = true) (k_p_column_of : PySem.W.keepIn K (.ref g_p_column_of) = true)
    {oc_h_signs kV_h_signs dc_h_signs pm_h_signs ct_h_signs cd_h_signs : Value} {od_h_signs an_h_signs : Option Addr} {sl_h_signs : Array (Option Value)}
    (l_h_signs : K.lookup g_h_signs = some ⟨oc_h_signs, od_h_signs, .func (PySem.W.fnOf "_law_signs" "_law_signs" (defArgs s_l_signs) (defBody s_l_signs) (defScope s_l_signs) .none kV_h_signs dc_h_signs pm_h_signs an_h_signs cd_h_signs ct_h_signs), sl_h_signs⟩) (c_h_signs : PySem.W.codeIn K cd_h_signs "_law_signs" = true) (k_h_signs : PySem.W.keepIn K (.ref g_h_signs) = true)
    {oc_h_letters kV_h_letters dc_h_letters pm_h_letters ct_h_letters cd_h_letters : Value} {od_h_letters an_h_letters : Option Addr} {sl_h_letters : Array (Option Value)}
    (l_h_letters : K.lookup g_h_letters = some ⟨oc_h_letters, od_h_letters, .func (PySem.W.fnOf "_law_letters" "_law_letters" (defArgs s_l_letters) (defBody s_l_letters) (defScope s_l_letters) .none kV_h_letters dc_h_letters pm_h_letters an_h_letters cd_h_letters ct_h_letters), sl_h_letters⟩) (c_h_letters : PySem.W.codeIn K cd_h_letters "_law_letters" = true) (k_h_letters : PySem.W.keepIn K (.ref g_h_letters) = true)
    {oc_h_column kV_h_column dc_h_column pm_h_column ct_h_column cd_h_column : Value} {od_h_column an_h_column : Option Addr} {sl_h_column : Array (Option Value)}
    (l_h_column : K.lookup g_h_column = some ⟨oc_h_column, od_h_column, .func (PySem.W.fnOf "_law_column" "_law_column" (defArgs s_l_column) (defBody s_l_column) (defScope s_l_column) .none kV_h_column dc_h_column pm_h_column an_h_column cd_h_column ct_h_column), sl_h_column⟩) (c_h_column : PySem.W.codeIn K cd_h_column "_law_column" = true) (k_h_column : PySem.W.keepIn K (.ref g_h_column) = true)
    {oc_h_is_letters kV_h_is_letters dc_h_is_letters pm_h_is_letters ct_h_is_letters cd_h_is_letters : Value} {od_h_is_letters an_h_is_letters : Option Addr} {sl_h_is_letters : Array (Option Value)}
    (l_h_is_letters : K.lookup g_h_is_letters = some ⟨oc_h_is_letters, od_h_is_letters, .func (PySem.W.fnOf "_law_is_letters" "_law_is_letters" (defArgs s_l_is_letters) (defBody s_l_is_letters) (defScope s_l_is_letters) .none kV_h_is_letters dc_h_is_letters pm_h_is_letters an_h_is_letters cd_h_is_letters ct_h_is_letters), sl_h_is_letters⟩) (c_h_is_letters : PySem.W.codeIn K cd_h_is_letters "_law_is_letters" = true) (k_h_is_letters : PySem.W.keepIn K (.ref g_h_is_letters) = true)
    {oc_h_mixed_case kV_h_mixed_case dc_h_mixed_case pm_h_mixed_case ct_h_mixed_case cd_h_mixed_case : Value} {od_h_mixed_case an_h_mixed_case : Option Addr} {sl_h_mixed_case : Array (Option Value)}
    (l_h_mixed_case : K.lookup g_h_mixed_case = some ⟨oc_h_mixed_case, od_h_mixed_case, .func (PySem.W.fnOf "_law_mixed_case" "_law_mixed_case" (defArgs s_l_mixed_case) (defBody s_l_mixed_case) (defScope s_l_mixed_case) .none kV_h_mixed_case dc_h_mixed_case pm_h_mixed_case an_h_mixed_case cd_h_mixed_case ct_h_mixed_case), sl_h_mixed_case⟩) (c_h_mixed_case : PySem.W.codeIn K cd_h_mixed_case "_law_mixed_case" = true) (k_h_mixed_case : PySem.W.keepIn K (.ref g_h_mixed_case) = true)
    {oc_h_column_drawn kV_h_column_drawn dc_h_column_drawn pm_h_column_drawn ct_h_column_drawn cd_h_column_drawn : Value} {od_h_column_drawn an_h_column_drawn : Option Addr} {sl_h_column_drawn : Array (Option Value)}
    (l_h_column_drawn : K.lookup g_h_column_drawn = some ⟨oc_h_column_drawn, od_h_column_drawn, .func (PySem.W.fnOf "_law_column_drawn" "_law_column_drawn" (defArgs s_l_column_drawn) (defBody s_l_column_drawn) (defScope s_l_column_drawn) .none kV_h_column_drawn dc_h_column_drawn pm_h_column_drawn an_h_column_drawn cd_h_column_drawn ct_h_column_drawn), sl_h_column_drawn⟩) (c_h_column_drawn : PySem.W.codeIn K cd_h_column_drawn "_law_column_drawn" = true) (k_h_column_drawn : PySem.W.keepIn K (.ref g_h_column_drawn) = true)
    {oc_h_pick kV_h_pick dc_h_pick pm_h_pick ct_h_pick cd_h_pick : Value} {od_h_pick an_h_pick : Option Addr} {sl_h_pick : Array (Option Value)}
    (l_h_pick : K.lookup g_h_pick = some ⟨oc_h_pick, od_h_pick, .func (PySem.W.fnOf "_law_pick" "_law_pick" (defArgs s_l_pick) (defBody s_l_pick) (defScope s_l_pick) .none kV_h_pick dc_h_pick pm_h_pick an_h_pick cd_h_pick ct_h_pick), sl_h_pick⟩) (c_h_pick : PySem.W.codeIn K cd_h_pick "_law_pick" = true) (k_h_pick : PySem.W.keepIn K (.ref g_h_pick) = true)
    {oc_h_draw kV_h_draw dc_h_draw pm_h_draw ct_h_draw cd_h_draw : Value} {od_h_draw an_h_draw : Option Addr} {sl_h_draw : Array (Option Value)}
    (l_h_draw : K.lookup g_h_draw = some ⟨oc_h_draw, od_h_draw, .func (PySem.W.fnOf "_law_draw" "_law_draw" (defArgs s_l_draw) (defBody s_l_draw) (defScope s_l_draw) .none kV_h_draw dc_h_draw pm_h_draw an_h_draw cd_h_draw ct_h_draw), sl_h_draw⟩) (c_h_draw : PySem.W.codeIn K cd_h_draw "_law_draw" = true) (k_h_draw : PySem.W.keepIn K (.ref g_h_draw) = true)
    {oc_h_pen kV_h_pen dc_h_pen pm_h_pen ct_h_pen cd_h_pen : Value} {od_h_pen an_h_pen : Option Addr} {sl_h_pen : Array (Option Value)}
    (l_h_pen : K.lookup g_h_pen = some ⟨oc_h_pen, od_h_pen, .func (PySem.W.fnOf "_law_pen" "_law_pen" (defArgs s_l_pen) (defBody s_l_pen) (defScope s_l_pen) .none kV_h_pen dc_h_pen pm_h_pen an_h_pen cd_h_pen ct_h_pen), sl_h_pen⟩) (c_h_pen : PySem.W.codeIn K cd_h_pen "_law_pen" = true) (k_h_pen : PySem.W.keepIn K (.ref g_h_pen) = true)
    {oc_t_told kV_t_told dc_t_told pm_t_told ct_t_told cd_t_told : Value} {od_t_told an_t_told : Option Addr} {sl_t_told : Array (Option Value)}
    (l_t_told : K.lookup g_t_told = some ⟨oc_t_told, od_t_told, .func (PySem.W.fnOf "_law_told" "_law_told" (defArgs s_l_told) (defBody s_l_told) (defScope s_l_told) .none kV_t_told dc_t_told pm_t_told an_t_told cd_t_told ct_t_told), sl_t_told⟩) (c_t_told : PySem.W.codeIn K cd_t_told "_law_told" = true) (k_t_told : PySem.W.keepIn K (.ref g_t_told) = true)
    {oc_r_letters_right kV_r_letters_right dc_r_letters_right pm_r_letters_right ct_r_letters_right cd_r_letters_right : Value} {od_r_letters_right an_r_letters_right : Option Addr} {sl_r_letters_right : Array (Option Value)}
    (l_r_letters_right : K.lookup g_r_letters_right = some ⟨oc_r_letters_right, od_r_letters_right, .func (PySem.W.fnOf "_law_letters_right" "_law_letters_right" (defArgs s_l_letters_right) (defBody s_l_letters_right) (defScope s_l_letters_right) .none kV_r_letters_right dc_r_letters_right pm_r_letters_right an_r_letters_right cd_r_letters_right ct_r_letters_right), sl_r_letters_right⟩) (c_r_letters_right : PySem.W.codeIn K cd_r_letters_right "_law_letters_right" = true) (k_r_letters_right : PySem.W.keepIn K (.ref g_r_letters_right) = true)
    {oc_r_word_right kV_r_word_right dc_r_word_right pm_r_word_right ct_r_word_right : Value} {od_r_word_right an_r_word_right : Option Addr} {sl_r_word_right : Array (Option Value)}
    (l_r_word_right : K.lookup g_r_word_right = some ⟨oc_r_word_right, od_r_word_right, .func (PySem.W.fnOf "_law_word_right" "_law_word_right" (defArgs s_l_word_right) (defBody s_l_word_right) (defScope s_l_word_right) .none kV_r_word_right dc_r_word_right pm_r_word_right an_r_word_right (.ref c_W) ct_r_word_right), sl_r_word_right⟩) (c_r_word_right : PySem.W.codeIn K (.ref c_W) "_law_word_right" = true) (k_r_word_right : PySem.W.keepIn K (.ref g_r_word_right) = true)
    {oc_r_refused_right kV_r_refused_right dc_r_refused_right pm_r_refused_right ct_r_refused_right : Value} {od_r_refused_right an_r_refused_right : Option Addr} {sl_r_refused_right : Array (Option Value)}
    (l_r_refused_right : K.lookup g_r_refused_right = some ⟨oc_r_refused_right, od_r_refused_right, .func (PySem.W.fnOf "_law_refused_right" "_law_refused_right" (defArgs s_l_refused_right) (defBody s_l_refused_right) (defScope s_l_refused_right) .none kV_r_refused_right dc_r_refused_right pm_r_refused_right an_r_refused_right (.ref c_R) ct_r_refused_right), sl_r_refused_right⟩) (c_r_refused_right : PySem.W.codeIn K (.ref c_R) "_law_refused_right" = true) (k_r_refused_right : PySem.W.keepIn K (.ref g_r_refused_right) = true)
    {oc_law kV_law dc_law pm_law ct_law cd_law : Value} {od_law an_law : Option Addr} {sl_law : Array (Option Value)}
    (l_law : K.lookup g_law = some ⟨oc_law, od_law, .func (PySem.W.fnOf "law" "law" (defArgs s_law) (defBody s_law) (defScope s_law) .none kV_law dc_law pm_law an_law cd_law ct_law), sl_law⟩) (c_law : PySem.W.codeIn K cd_law "law" = true) (k_law : PySem.W.keepIn K (.ref g_law) = true)
    (nBN : C_B ≠ C_N)
    (nBS : C_B ≠ S)
    (nNS : C_N ≠ S)
    (nWR : tW ≠ tR)
    (hdW : PySem.W.codeHdIn K c_W tW = true)
    (hdR : PySem.W.codeHdIn K c_R tR = true)
    (ntW : K.lookup tW = none)
    (ntR : K.lookup tR = none)
    (tbW : h.get? tW = some (PySem.W.tabObj #[]))
    (tbR : h.get? tR = some (PySem.W.tabObj #[]))
    : LawAtS l w K CX0 8 63 "_law_script" mg fa h := by
  have e := hfa.symm.trans (PySem.W.mg_of X G a_law)
  cases e
  have g : GetC K := ⟨hn, ht⟩
  have ln_B : LineOf K S C_B := ⟨_, _, _, _, _, _, _, _, _, _, _, _, _, _, L_B⟩
  have ln_N : LineOf K S C_N := ⟨_, _, _, _, _, _, _, _, _, _, _, _, _, _, L_N⟩
  have ln_O : LineOf K S C_O := ⟨_, _, _, _, _, _, _, _, _, _, _, _, _, _, L_O⟩
  have ln_M : LineOf K S C_M := ⟨_, _, _, _, _, _, _, _, _, _, _, _, _, _, L_M⟩
  have e_B : Er K mg "BadValue" "BadValue.__init__" s_BadValue_init "value" S C_B f_B (PySem.W.fnOf "__init__" "BadValue.__init__" (defArgs s_BadValue_init) (defBody s_BadValue_init) (defScope s_BadValue_init) .none kV_iB dc_iB pm_iB an_iB cd_iB ct_iB) := ⟨PySem.W.mg_of X G a_B, ⟨ln_B.ox sa_B kC_B, i_B, ty_B⟩, ln_B.xf hg_B hk_B, no0_B, fun_mk (st := s_BadValue_init) l_iB c_iB k_iB, ln_B, nBS⟩
  have e_N : Er K mg "NotAName" "NotAName.__init__" s_NotAName_init "name" S C_N f_N (PySem.W.fnOf "__init__" "NotAName.__init__" (defArgs s_NotAName_init) (defBody s_NotAName_init) (defScope s_NotAName_init) .none kV_iN dc_iN pm_iN an_iN cd_iN ct_iN) := ⟨PySem.W.mg_of X G a_N, ⟨ln_N.ox sa_N kC_N, i_N, ty_N⟩, ln_N.xf hg_N hk_N, no0_N, fun_mk (st := s_NotAName_init) l_iN c_iN k_iN, ln_N, nNS⟩
  have F_p_is_integer := fun_mk (st := s_is_integer) l_p_is_integer c_p_is_integer k_p_is_integer
  have b_p_is_integer := F_p_is_integer.binds (ps := P_is_integer) fun _ _ _ _ _ _ us hl => match us, hl with | [_], _ => rfl
  have F_p_check_range := fun_mk (st := s_check_range) l_p_check_range c_p_check_range k_p_check_range
  have b_p_check_range := F_p_check_range.binds (ps := P_check_range) fun _ _ _ _ _ _ us hl => match us, hl with | [_, _, _], _ => rfl
  have F_p_check_string := fun_mk (st := s_check_string) l_p_check_string c_p_check_string k_p_check_string
  have b_p_check_string := F_p_check_string.binds (ps := P_check_string) fun _ _ _ _ _ _ us hl => match us, hl with | [_], _ => rfl
  have F_p_letters_of := fun_mk (st := s_letters_of) l_p_letters_of c_p_letters_of k_p_letters_of
  have b_p_letters_of := F_p_letters_of.binds (ps := P_letters_of) fun _ _ _ _ _ _ us hl => match us, hl with | [_], _ => rfl
  have F_p_is_letters := fun_mk (st := s_is_letters) l_p_is_letters c_p_is_letters k_p_is_letters
  have b_p_is_letters := F_p_is_letters.binds (ps := P_is_letters) fun _ _ _ _ _ _ us hl => match us, hl with | [_], _ => rfl
  have F_p_is_column_text := fun_mk (st := s_is_column_text) l_p_is_column_text c_p_is_column_text k_p_is_column_text
  have b_p_is_column_text := F_p_is_column_text.binds (ps := P_is_column_text) fun _ _ _ _ _ _ us hl => match us, hl with | [_], _ => rfl
  have F_p_column_of := fun_mk (st := s_column_of) l_p_column_of c_p_column_of k_p_column_of
  have b_p_column_of := F_p_column_of.binds (ps := P_column_of) fun _ _ _ _ _ _ us hl => match us, hl with | [_], _ => rfl
  have F_h_signs := fun_mk (st := s_l_signs) l_h_signs c_h_signs k_h_signs
  have b_h_signs := F_h_signs.binds (ps := P_l_signs) fun _ _ _ _ _ _ us hl => match us, hl with | [], _ => rfl
  have F_h_letters := fun_mk (st := s_l_letters) l_h_letters c_h_letters k_h_letters
  have b_h_letters := F_h_letters.binds (ps := P_l_letters) fun _ _ _ _ _ _ us hl => match us, hl with | [_], _ => rfl
  have F_h_column := fun_mk (st := s_l_column) l_h_column c_h_column k_h_column
  have b_h_column := F_h_column.binds (ps := P_l_column) fun _ _ _ _ _ _ us hl => match us, hl with | [_], _ => rfl
  have F_h_is_letters := fun_mk (st := s_l_is_letters) l_h_is_letters c_h_is_letters k_h_is_letters
  have b_h_is_letters := F_h_is_letters.binds (ps := P_l_is_letters) fun _ _ _ _ _ _ us hl => match us, hl with | [_], _ => rfl
  have F_h_mixed_case := fun_mk (st := s_l_mixed_case) l_h_mixed_case c_h_mixed_case k_h_mixed_case
  have b_h_mixed_case := F_h_mixed_case.binds (ps := P_l_mixed_case) fun _ _ _ _ _ _ us hl => match us, hl with | [_, _], _ => rfl
  have F_h_column_drawn := fun_mk (st := s_l_column_drawn) l_h_column_drawn c_h_column_drawn k_h_column_drawn
  have b_h_column_drawn := F_h_column_drawn.binds (ps := P_l_column_drawn) fun _ _ _ _ _ _ us hl => match us, hl with | [_], _ => rfl
  have F_h_pick := fun_mk (st := s_l_pick) l_h_pick c_h_pick k_h_pick
  have b_h_pick := F_h_pick.binds (ps := P_l_pick) fun _ _ _ _ _ _ us hl => match us, hl with | [_, _], _ => rfl
  have F_h_draw := fun_mk (st := s_l_draw) l_h_draw c_h_draw k_h_draw
  have b_h_draw := F_h_draw.binds (ps := P_l_draw) fun _ _ _ _ _ _ us hl => match us, hl with | [_, _], _ => rfl
  have F_h_pen := fun_mk (st := s_l_pen) l_h_pen c_h_pen k_h_pen
  have b_h_pen := F_h_pen.binds (ps := P_l_pen) fun _ _ _ _ _ _ us hl => match us, hl with | [_], _ => rfl
  have F_t_told := fun_mk (st := s_l_told) l_t_told c_t_told k_t_told
  have b_t_told := F_t_told.binds (ps := P_l_told) fun _ _ _ _ _ _ us hl => match us, hl with | [_], _ => rfl
  have F_r_letters_right := fun_mk (st := s_l_letters_right) l_r_letters_right c_r_letters_right k_r_letters_right
  have b_r_letters_right := F_r_letters_right.binds (ps := P_l_letters_right) fun _ _ _ _ _ _ us hl => match us, hl with | [_, _], _ => rfl
  have F_r_word_right : FunC K "_law_word_right" "_law_word_right" s_l_word_right g_r_word_right c_W (PySem.W.fnOf "_law_word_right" "_law_word_right" (defArgs s_l_word_right) (defBody s_l_word_right) (defScope s_l_word_right) .none kV_r_word_right dc_r_word_right pm_r_word_right an_r_word_right (.ref c_W) ct_r_word_right) := ⟨⟨_, _, _, _, _, _, _, _, rfl, l_r_word_right, c_r_word_right⟩, k_r_word_right⟩
  have F2_r_word_right := F_r_word_right.toFun
  have b_r_word_right := F2_r_word_right.binds (ps := P_l_word_right) fun _ _ _ _ _ _ us hl => match us, hl with | [_], _ => rfl
  have F_r_refused_right : FunC K "_law_refused_right" "_law_refused_right" s_l_refused_right g_r_refused_right c_R (PySem.W.fnOf "_law_refused_right" "_law_refused_right" (defArgs s_l_refused_right) (defBody s_l_refused_right) (defScope s_l_refused_right) .none kV_r_refused_right dc_r_refused_right pm_r_refused_right an_r_refused_right (.ref c_R) ct_r_refused_right) := ⟨⟨_, _, _, _, _, _, _, _, rfl, l_r_refused_right, c_r_refused_right⟩, k_r_refused_right⟩
  have F2_r_refused_right := F_r_refused_right.toFun
  have b_r_refused_right := F2_r_refused_right.binds (ps := P_l_refused_right) fun _ _ _ _ _ _ us hl => match us, hl with | [_], _ => rfl
  have F_law := fun_mk (st := s_law) l_law c_law k_law
  have b_law := F_law.binds (ps := P_law) fun _ _ _ _ _ _ us hl => match us, hl with | [_], _ => rfl
  have TC : TxtC K mg ⟨S, C_B, C_N, f_B, f_N, _, _, g_p_is_integer, g_p_check_range, g_p_check_string, g_p_letters_of, g_p_is_letters, g_p_is_column_text, g_p_column_of, _, _, _, _, _, _, _⟩ := ⟨e_B, e_N, nBN, PySem.W.mg_none_of X G z_isinstance, PySem.W.mg_none_of X G z_int, PySem.W.mg_none_of X G z_bool, PySem.W.mg_none_of X G z_str, PySem.W.mg_none_of X G z_len, PySem.W.mg_none_of X G z_divmod, ⟨kc, PySem.W.mg_of X G a_COL⟩, ⟨kl, PySem.W.mg_of X G a_LET⟩, PySem.W.mg_of X G a_p_is_integer, F_p_is_integer, b_p_is_integer, PySem.W.mg_of X G a_p_check_range, F_p_check_range, b_p_check_range, PySem.W.mg_of X G a_p_check_string, F_p_check_string, b_p_check_string, PySem.W.mg_of X G a_p_letters_of, F_p_letters_of, b_p_letters_of, PySem.W.mg_of X G a_p_is_letters, F_p_is_letters, b_p_is_letters, PySem.W.mg_of X G a_p_is_column_text, F_p_is_column_text, b_p_is_column_text, PySem.W.mg_of X G a_p_column_of, F_p_column_of, b_p_column_of⟩
  have T : TxtH K mg ⟨g_h_signs, _, g_h_letters, _, g_h_column, _, g_h_is_letters, _, g_h_mixed_case, _, g_h_column_drawn, _, g_h_pick, _, g_h_draw, _, g_h_pen, _⟩ := ⟨PySem.W.mg_none_of X G z_list, PySem.W.mg_none_of X G z_int, PySem.W.mg_none_of X G z_len, PySem.W.mg_none_of X G z_range, PySem.W.mg_none_of X G z_min, PySem.W.mg_none_of X G z_max, PySem.W.mg_of X G a_h_signs, F_h_signs, b_h_signs, PySem.W.mg_of X G a_h_letters, F_h_letters, b_h_letters, PySem.W.mg_of X G a_h_column, F_h_column, b_h_column, PySem.W.mg_of X G a_h_is_letters, F_h_is_letters, b_h_is_letters, PySem.W.mg_of X G a_h_mixed_case, F_h_mixed_case, b_h_mixed_case, PySem.W.mg_of X G a_h_column_drawn, F_h_column_drawn, b_h_column_drawn, PySem.W.mg_of X G a_h_pick, F_h_pick, b_h_pick, PySem.W.mg_of X G a_h_draw, F_h_draw, b_h_draw, PySem.W.mg_of X G a_h_pen, F_h_pen, b_h_pen⟩
  have RT : TxtT K mg (⟨S, C_B, C_N, f_B, f_N, (PySem.W.fnOf "__init__" "BadValue.__init__" (defArgs s_BadValue_init) (defBody s_BadValue_init) (defScope s_BadValue_init) .none kV_iB dc_iB pm_iB an_iB cd_iB ct_iB), (PySem.W.fnOf "__init__" "NotAName.__init__" (defArgs s_NotAName_init) (defBody s_NotAName_init) (defScope s_NotAName_init) .none kV_iN dc_iN pm_iN an_iN cd_iN ct_iN), g_p_is_integer, g_p_check_range, g_p_check_string, g_p_letters_of, g_p_is_letters, g_p_is_column_text, g_p_column_of, (PySem.W.fnOf "is_integer" "is_integer" (defArgs s_is_integer) (defBody s_is_integer) (defScope s_is_integer) .none kV_p_is_integer dc_p_is_integer pm_p_is_integer an_p_is_integer cd_p_is_integer ct_p_is_integer), (PySem.W.fnOf "check_range" "check_range" (defArgs s_check_range) (defBody s_check_range) (defScope s_check_range) .none kV_p_check_range dc_p_check_range pm_p_check_range an_p_check_range cd_p_check_range ct_p_check_range), (PySem.W.fnOf "check_string" "check_string" (defArgs s_check_string) (defBody s_check_string) (defScope s_check_string) .none kV_p_check_string dc_p_check_string pm_p_check_string an_p_check_string cd_p_check_string ct_p_check_string), (PySem.W.fnOf "letters_of" "letters_of" (defArgs s_letters_of) (defBody s_letters_of) (defScope s_letters_of) .none kV_p_letters_of dc_p_letters_of pm_p_letters_of an_p_letters_of cd_p_letters_of ct_p_letters_of), (PySem.W.fnOf "is_letters" "is_letters" (defArgs s_is_letters) (defBody s_is_letters) (defScope s_is_letters) .none kV_p_is_letters dc_p_is_letters pm_p_is_letters an_p_is_letters cd_p_is_letters ct_p_is_letters), (PySem.W.fnOf "is_column_text" "is_column_text" (defArgs s_is_column_text) (defBody s_is_column_text) (defScope s_is_column_text) .none kV_p_is_column_text dc_p_is_column_text pm_p_is_column_text an_p_is_column_text cd_p_is_column_text ct_p_is_column_text), (PySem.W.fnOf "column_of" "column_of" (defArgs s_column_of) (defBody s_column_of) (defScope s_column_of) .none kV_p_column_of dc_p_column_of pm_p_column_of an_p_column_of cd_p_column_of ct_p_column_of)⟩ : Ads) C_O C_M := ⟨TC.BadValue, TC.NotAName, nBN, PySem.W.mg_of X G a_O, PySem.W.mg_of X G a_M, ln_O.xf hg_O hk_O, ln_M.xf hg_M hk_M, no0_O, no1_O, no0_M⟩
  have R : TxtR K mg _ C_O C_M g_t_told _ := ⟨PySem.W.mg_of X G a_t_told, F_t_told, b_t_told, RT⟩
  have Z : TxtS K mg (⟨S, C_B, C_N, f_B, f_N, (PySem.W.fnOf "__init__" "BadValue.__init__" (defArgs s_BadValue_init) (defBody s_BadValue_init) (defScope s_BadValue_init) .none kV_iB dc_iB pm_iB an_iB cd_iB ct_iB), (PySem.W.fnOf "__init__" "NotAName.__init__" (defArgs s_NotAName_init) (defBody s_NotAName_init) (defScope s_NotAName_init) .none kV_iN dc_iN pm_iN an_iN cd_iN ct_iN), g_p_is_integer, g_p_check_range, g_p_check_string, g_p_letters_of, g_p_is_letters, g_p_is_column_text, g_p_column_of, (PySem.W.fnOf "is_integer" "is_integer" (defArgs s_is_integer) (defBody s_is_integer) (defScope s_is_integer) .none kV_p_is_integer dc_p_is_integer pm_p_is_integer an_p_is_integer cd_p_is_integer ct_p_is_integer), (PySem.W.fnOf "check_range" "check_range" (defArgs s_check_range) (defBody s_check_range) (defScope s_check_range) .none kV_p_check_range dc_p_check_range pm_p_check_range an_p_check_range cd_p_check_range ct_p_check_range), (PySem.W.fnOf "check_string" "check_string" (defArgs s_check_string) (defBody s_check_string) (defScope s_check_string) .none kV_p_check_string dc_p_check_string pm_p_check_string an_p_check_string cd_p_check_string ct_p_check_string), (PySem.W.fnOf "letters_of" "letters_of" (defArgs s_letters_of) (defBody s_letters_of) (defScope s_letters_of) .none kV_p_letters_of dc_p_letters_of pm_p_letters_of an_p_letters_of cd_p_letters_of ct_p_letters_of), (PySem.W.fnOf "is_letters" "is_letters" (defArgs s_is_letters) (defBody s_is_letters) (defScope s_is_letters) .none kV_p_is_letters dc_p_is_letters pm_p_is_letters an_p_is_letters cd_p_is_letters ct_p_is_letters), (PySem.W.fnOf "is_column_text" "is_column_text" (defArgs s_is_column_text) (defBody s_is_column_text) (defScope s_is_column_text) .none kV_p_is_column_text dc_p_is_column_text pm_p_is_column_text an_p_is_column_text cd_p_is_column_text ct_p_is_column_text), (PySem.W.fnOf "column_of" "column_of" (defArgs s_column_of) (defBody s_column_of) (defScope s_column_of) .none kV_p_column_of dc_p_column_of pm_p_column_of an_p_column_of cd_p_column_of ct_p_column_of)⟩ : Ads) := ⟨PySem.W.mg_of X G a_S, bS, dS, tS, PySem.W.mg_none_of X G z_ValueError, ln_N.ic g hg_N hk_N ha_N⟩
  have N : TxtN K mg ⟨g_r_letters_right, g_r_word_right, g_r_refused_right, _, _, _, c_W, c_R, tW, tR⟩ := ⟨PySem.W.mg_of X G a_r_letters_right, PySem.W.mg_of X G a_r_word_right, PySem.W.mg_of X G a_r_refused_right, F_r_letters_right, F_r_word_right, F_r_refused_right, k_r_letters_right, k_r_word_right, k_r_refused_right, b_r_letters_right, b_r_word_right, b_r_refused_right, nWR⟩
  refine ⟨(PySem.W.fnOf "law" "law" (defArgs s_law) (defBody s_law) (defScope s_law) .none kV_law dc_law pm_law an_law cd_law ct_law), [(c_W, tW), (c_R, tR)], spLaw K [(tW, qOf "_law_word_right"), (tR, qOf "_law_refused_right")], ?_, ?_, ?_, fun s v => .of_eq rfl, fun H a ns hl _ hH hS => ⟨a, ns, rfl, hS, hl, ?_, fun _ => rfl⟩, fun base _ _ hB => ok_law T TC R Z N F_law (hB _ (List.mem_cons_self ..)) (hB _ (List.mem_cons_of_mem _ (List.mem_cons_self ..)))⟩
  · exact List.forall_mem_cons.mpr ⟨tbW, List.forall_mem_cons.mpr ⟨tbR, fun _ z => absurd z List.not_mem_nil⟩⟩
  · exact List.forall_mem_cons.mpr ⟨ntW, List.forall_mem_cons.mpr ⟨ntR, fun _ z => absurd z List.not_mem_nil⟩⟩
  · exact List.forall_mem_cons.mpr ⟨PySem.W.codeHd_of_K X hdW, List.forall_mem_cons.mpr ⟨PySem.W.codeHd_of_K X hdR, fun _ z => absurd z List.not_mem_nil⟩⟩
  · exact List.forall_mem_cons.mpr ⟨TabS.nil (hH (c_W, tW) (List.mem_cons_self ..)), List.forall_mem_cons.mpr ⟨TabS.nil (hH (c_R, tR) (List.mem_cons_of_mem _ (List.mem_cons_self ..))), fun _ z => absurd z List.not_mem_nil⟩⟩
end K15
open PySem PySem.W PyProof.Rows
set_option maxRecDepth 100000 in
set_option maxHeartbeats 0 in
theorem PySem.Challenge.cw_allinputs_k15_letters_of_columns_holds : PySem.Challenge.rw_allinputs_k15_letters_of_columns.Holds := by
  w_on; o_law; k_head; (case hw => w_witness2)
  k_fill
  refine LamX.walk_ofTsE (l := PySem.Challenge.rw_allinputs_k15_letters_of_columns) (n := 63) (k := 8) (x := "_law_script") (CX := fun _ => fun _ _ _ _ _ _ => False) rfl (by decide) rfl ⟨rfl, by decide, by decide⟩ ?F (fun _ _ _ _ _ z => z)
  case F =>
    intro w mg fa h Y G hmg
    have KX := PySem.W.km_in_of Y
    refine ⟨_, KX, ?_⟩
    refine' K15.all_mk 229 236 KX G hmg ?a_S ?a_B ?a_N ?a_O ?a_M ?a_p_is_integer ?a_p_check_range ?a_p_check_string ?a_p_letters_of ?a_p_is_letters ?a_p_is_column_text ?a_p_column_of ?a_h_signs ?a_h_letters ?a_h_column ?a_h_is_letters ?a_h_mixed_case ?a_h_column_drawn ?a_h_pick ?a_h_draw ?a_h_pen ?a_t_told ?a_r_letters_right ?a_r_word_right ?a_r_refused_right ?a_law ?a_COL ?a_LET ?i_B ?i_N ?z_list ?z_int ?z_len ?z_range ?z_min ?z_max ?z_isinstance ?z_bool ?z_str ?z_divmod ?z_ValueError ?hn ?ht ?bS ?dS ?tS ?L_B ?hg_B ?hk_B ?no0_B ?kC_B ?sa_B ?ty_B ?l_iB ?c_iB ?k_iB ?L_N ?hg_N ?hk_N ?no0_N ?kC_N ?sa_N ?ty_N ?l_iN ?c_iN ?k_iN ?L_O ?hg_O ?hk_O ?no0_O ?no1_O ?L_M ?hg_M ?hk_M ?no0_M ?ha_N ?l_p_is_integer ?c_p_is_integer ?k_p_is_integer ?l_p_check_range ?c_p_check_range ?k_p_check_range ?l_p_check_string ?c_p_check_string ?k_p_check_string ?l_p_letters_of ?c_p_letters_of ?k_p_letters_of ?l_p_is_letters ?c_p_is_letters ?k_p_is_letters ?l_p_is_column_text ?c_p_is_column_text ?k_p_is_column_text ?l_p_column_of ?c_p_column_of ?k_p_column_of ?l_h_signs ?c_h_signs ?k_h_signs ?l_h_letters ?c_h_letters ?k_h_letters ?l_h_column ?c_h_column ?k_h_column ?l_h_is_letters ?c_h_is_letters ?k_h_is_letters ?l_h_mixed_case ?c_h_mixed_case ?k_h_mixed_case ?l_h_column_drawn ?c_h_column_drawn ?k_h_column_drawn ?l_h_pick ?c_h_pick ?k_h_pick ?l_h_draw ?c_h_draw ?k_h_draw ?l_h_pen ?c_h_pen ?k_h_pen ?l_t_told ?c_t_told ?k_t_told ?l_r_letters_right ?c_r_letters_right ?k_r_letters_right ?l_r_word_right ?c_r_word_right ?k_r_word_right ?l_r_refused_right ?c_r_refused_right ?k_r_refused_right ?l_law ?c_law ?k_law ?nBN ?nBS ?nNS ?nWR ?hdW ?hdR ?ntW ?ntR ?tbW ?tbR
    (case a_S => k_is)
    (case a_B => k_is)
    (case a_N => k_is)
    (case a_O => k_is)
    (case a_M => k_is)
    (case a_p_is_integer => k_is)
    (case a_p_check_range => k_is)
    (case a_p_check_string => k_is)
    (case a_p_letters_of => k_is)
    (case a_p_is_letters => k_is)
    (case a_p_is_column_text => k_is)
    (case a_p_column_of => k_is)
    (case a_h_signs => k_is)
    (case a_h_letters => k_is)
    (case a_h_column => k_is)
    (case a_h_is_letters => k_is)
    (case a_h_mixed_case => k_is)
    (case a_h_column_drawn => k_is)
    (case a_h_pick => k_is)
    (case a_h_draw => k_is)
    (case a_h_pen => k_is)
    (case a_t_told => k_is)
    (case a_r_letters_right => k_is)
    (case a_r_word_right => k_is)
    (case a_r_refused_right => k_is)
    (case a_law => k_is)
    (case a_COL => k_is)
    (case a_LET => k_is)
    (case i_B => k_is)
    (case i_N => k_is)
    (case z_list => k_is)
    (case z_int => k_is)
    (case z_len => k_is)
    (case z_range => k_is)
    (case z_min => k_is)
    (case z_max => k_is)
    (case z_isinstance => k_is)
    (case z_bool => k_is)
    (case z_str => k_is)
    (case z_divmod => k_is)
    (case z_ValueError => k_is)
    (case hn => k_is)
    (case ht => k_is)
    (case bS => k_is)
    (case dS => k_is)
    (case tS => k_is)
    (case L_B => k_is)
    (case hg_B => k_is)
    (case hk_B => k_is)
    (case no0_B => k_is)
    (case kC_B => k_is)
    (case sa_B => k_is)
    (case ty_B => k_is)
    (case l_iB => k_is)
    (case c_iB => k_is)
    (case k_iB => k_is)
    (case L_N => k_is)
    (case hg_N => k_is)
    (case hk_N => k_is)
    (case no0_N => k_is)
    (case kC_N => k_is)
    (case sa_N => k_is)
    (case ty_N => k_is)
    (case l_iN => k_is)
    (case c_iN => k_is)
    (case k_iN => k_is)
    (case L_O => k_is)
    (case hg_O => k_is)
    (case hk_O => k_is)
    (case no0_O => k_is)
    (case no1_O => k_is)
    (case L_M => k_is)
    (case hg_M => k_is)
    (case hk_M => k_is)
    (case no0_M => k_is)
    (case ha_N => k_is)
    (case l_p_is_integer => k_is)
    (case c_p_is_integer => k_is)
    (case k_p_is_integer => k_is)
    (case l_p_check_range => k_is)
    (case c_p_check_range => k_is)
    (case k_p_check_range => k_is)
    (case l_p_check_string => k_is)
    (case c_p_check_string => k_is)
    (case k_p_check_string => k_is)
    (case l_p_letters_of => k_is)
    (case c_p_letters_of => k_is)
    (case k_p_letters_of => k_is)
    (case l_p_is_letters => k_is)
    (case c_p_is_letters => k_is)
    (case k_p_is_letters => k_is)
    (case l_p_is_column_text => k_is)
    (case c_p_is_column_text => k_is)
    (case k_p_is_column_text => k_is)
    (case l_p_column_of => k_is)
    (case c_p_column_of => k_is)
    (case k_p_column_of => k_is)
    (case l_h_signs => k_is)
    (case c_h_signs => k_is)
    (case k_h_signs => k_is)
    (case l_h_letters => k_is)
    (case c_h_letters => k_is)
    (case k_h_letters => k_is)
    (case l_h_column => k_is)
    (case c_h_column => k_is)
    (case k_h_column => k_is)
    (case l_h_is_letters => k_is)
    (case c_h_is_letters => k_is)
    (case k_h_is_letters => k_is)
    (case l_h_mixed_case => k_is)
    (case c_h_mixed_case => k_is)
    (case k_h_mixed_case => k_is)
    (case l_h_column_drawn => k_is)
    (case c_h_column_drawn => k_is)
    (case k_h_column_drawn => k_is)
    (case l_h_pick => k_is)
    (case c_h_pick => k_is)
    (case k_h_pick => k_is)
    (case l_h_draw => k_is)
    (case c_h_draw => k_is)
    (case k_h_draw => k_is)
    (case l_h_pen => k_is)
    (case c_h_pen => k_is)
    (case k_h_pen => k_is)
    (case l_t_told => k_is)
    (case c_t_told => k_is)
    (case k_t_told => k_is)
    (case l_r_letters_right => k_is)
    (case c_r_letters_right => k_is)
    (case k_r_letters_right => k_is)
    (case l_r_word_right => k_is)
    (case c_r_word_right => k_is)
    (case k_r_word_right => k_is)
    (case l_r_refused_right => k_is)
    (case c_r_refused_right => k_is)
    (case k_r_refused_right => k_is)
    (case l_law => k_is)
    (case c_law => k_is)
    (case k_law => k_is)
    (case nBN => decide)
    (case nBS => decide)
    (case nNS => decide)
    (case nWR => decide)
    (case hdW => kernel_rfl)
    (case hdR => kernel_rfl)
    (case ntW => first | rfl | kernel_rfl | k_is)
    (case ntR => first | rfl | kernel_rfl | k_is)
    (case tbW => exact PySem.W.km_tabs_of Y _ (by simp))
    (case tbR => exact PySem.W.km_tabs_of Y _ (by simp))

