import PyProof.Rows.All
import Wide.All
import OpenK.AllK
import Wide.FinOn
import PyProof.EqAt
import PyProof.EqKinds
import PyProof.TupleCall
import HandS.ForMost
import HandS.ForExc
import HandS.ExcInit
import HandS.Defaults
import HandS.MakeKwOnly
import HandS.IsInst
import HandS.ExcField
import HandS.ExcIs
import HandS.ExcOwn
import HandS.ExcValue
import HandS.Dict
import HandS.Text
import HandS.StrMore
import HandS.SetFor
import HandS.Flow
import HandS.Evl
import HandS.TryOnly
import HandS.DictComp
import HandS.Iter
import HandS.Steps
import HandS.TryMany
import PyProof.ListStr
import HandS.Lambda
import HandS.OwnEq
import PyProof.InstNe
import PyProof.MeetsStr3
import PyProof.StrLawsLast
import PyProof.Rows.StrNews2
import HandS.CallRecv
import HandS.TupAny
import HandS.FStr
import HandS.EndTab
import HandS.HeadWalk
import PySem.Challenge.RW_allinputs_k16_addresses
set_option Elab.async false
set_option linter.all false
set_option maxRecDepth 100000
set_option maxHeartbeats 4000000
/-! Own errors as values, also made by keywords. -/
namespace PySem
namespace EV
open PySem PySem.W PySem.Calls PyProof.Rows PySem.HandSPX
section
variable {M : Model} {A : Around} {E : Value → Shared → Prop} {hp : Heap} {gs : Array GenState} {dr : Drawn} {tk : Nat} {osx : OsState}
variable {cn cq : Str} {C Nn : Addr} {cb cm cmB : List Value} {hdt : Bool} {sln : List Str} {sbc : List Value} {abst : Bool} {colo : Option Bool} {ddo : Option Addr} {j0 j1 j2 j3 j5 : Option Value} {Bn nId iId : String}
theorem chk_new (F : ExcBaseFacts Bn nId iId cmB) (hT : ∀ Y : String, cm.contains (.type Y) = cmB.contains (.type Y)) {as : List Value} {kw : List (Str × Value)} {Q : Unit → Shared → Prop}
    (hC : hp.get? C = some (excClassObj cn cq C Nn cb cm hdt sln sbc abst colo ddo j0 j1 j2 j3 j5 nId)) (hq : Q () ⟨hp, gs, dr, tk, osx⟩) : wpAny M A (checkBuiltinCall nId ⟨.ref C :: as, kw⟩) Q E ⟨hp, gs, dr, tk, osx⟩ := by
  have hin : (Value.ref C :: cm).contains (.type Bn) = true := by rw [List.contains_cons, hT, F.hasB, Bool.or_true]
  have hst := F.noStar
  simp only [checkBuiltinCall, F.newKind, F.newSplit, F.newRow]
  repeat (first | refine wpAny_loadPart_at hC ?_ | (refine wpAny_isSubtype_exc hC ?_; rw [hin]) | refine wpAny_staticBase_exc hC ?_ | refine wpAny_madeBy_exc hC ?_ | simp only [bne_self_eq_false, Bool.false_eq_true, if_false] | wp_step)
  exact hq
end
section
variable {prog : Program} {w : World} {A : Around} {E : Value → Shared → Prop} {R : Result → Shared → Prop} {hp : Heap} {gs : Array GenState} {dr : Drawn} {tk : Nat} {osx : OsState}
variable {cn cq : Str} {C Nn : Addr} {cb cm cmB : List Value} {hdt : Bool} {sln : List Str} {sbc : List Value} {abst : Bool} {colo : Option Bool} {ddo : Option Addr} {j0 j1 j2 j3 j5 : Option Value} {Bn nId iId : String}
theorem new_kw (F : ExcBaseFacts Bn nId iId cmB) (hT : ∀ Y : String, cm.contains (.type Y) = cmB.contains (.type Y)) {as : List Value} {kw : List (Str × Value)}
    (hC : hp.get? C = some (excClassObj cn cq C Nn cb cm hdt sln sbc abst colo ddo j0 j1 j2 j3 j5 nId))
    (hq : R (.ok (.ret (.ref (hp.objs.size + 1)))) ⟨(hp.push (PySem.W.kdv_tup as)).push (excO C hp.objs.size), gs, dr, tk, osx⟩) (hl : as.length ≤ sizeLine) :
    codeAny (model prog w) A (.builtin nId ⟨.ref C :: as, kw⟩) R ⟨hp, gs, dr, tk, osx⟩ := by
  have hen := F.ends
  have hin : (Value.ref C :: cm).contains (.type Bn) = true := by rw [List.contains_cons, hT, F.hasB, Bool.or_true]
  have hna : (Value.ref C :: cm).contains (.type "AttributeError") = false := by rw [List.contains_cons, hT, F.noAttr]; rfl
  have hnn : (Value.ref C :: cm).contains (.type "NameError") = false := by rw [List.contains_cons, hT, F.noName]; rfl
  refine codeAny_builtinAt F.entry ?_
  unfold Builtin.«BaseException.__new__»
  refine wpAt_bind ?_
  show wpAt _ _ _ (stack >>= _) _ _ _
  refine wpAt_bind (wpAt_stack fun p lower => wpAt_of_wpAny ?_)
  wp_walk
  refine wpAt_of_wpAny ?_
  rw [F.owner]
  repeat (first | with_reducible refine wpAny_madeHere_exc F.canon hC ?_ | with_reducible refine wpAny_loadPart_at hC ?_ | (with_reducible refine wpAny_isSubtype_exc hC ?_; first | rw [hin] | rw [hna] | rw [hnn]) | wp_step)
  show R _ _
  rw [Heap.size_push]
  exact hq
theorem tcall_kw (F : ExcBaseFacts Bn nId iId cmB) (hT : ∀ Y : String, cm.contains (.type Y) = cmB.contains (.type Y)) {as : List Value} {kw : List (Str × Value)} {fI : Addr} {Q : Fin → Shared → Prop}
    (hC : hp.get? C = some (excClassObj cn cq C Nn cb cm hdt sln sbc abst colo ddo j0 j1 j2 j3 j5 nId))
    (hi : W.Looks (model prog w) hp (typeLookup (.ref C) "__init__") (some (.ref fI))) (hb : ∀ me, W.Looks (model prog w) hp (bindSpecial (.ref fI) me) (.ref fI, [me])) (hl : as.length ≤ sizeLine)
    (hq : codeAny (model prog w) A (.call (.ref fI) ⟨.ref (hp.objs.size + 1) :: as, kw⟩)
      (fun r s' => match r with | .ok (.ret v) => v = .none ∧ Q (.done (.ret (.ref (hp.objs.size + 1)))) s' | .ok _ => False | .error e => E e s')
      ⟨(hp.push (PySem.W.kdv_tup as)).push (excO C hp.objs.size), gs, dr, tk, osx⟩) :
    wpAny (model prog w) A (Builtin.«type.__call__» ⟨.ref C :: as, kw⟩) Q E ⟨hp, gs, dr, tk, osx⟩ := by
  repeat (first | with_reducible refine wpAny_loadPart_at hC ?_ | with_reducible refine wpAny_madeBy_exc hC ?_ | wp_step)
  refine codeAny_call_builtin_code (Code.quiet_builtin _ F.quiet) (chk_new F hT hC ?_)
  refine new_kw F hT hC ?_ hl
  show wpAny _ _ _ _ _ _
  have kp : ∀ b o, hp.get? b = some o → ((hp.push (PySem.W.kdv_tup as)).push (excO C hp.objs.size)).get? b = some o := fun b o e => Heap.get?_push_of_some _ (Heap.get?_push_of_some _ e)
  have hC1 := kp _ _ hC
  have hgt : ((hp.push (PySem.W.kdv_tup as)).push (excO C hp.objs.size)).get? (hp.objs.size + 1) = some (excO C hp.objs.size) := by heap_get
  have hcc : (Value.ref C :: cm).contains (.ref C) = true := by simp
  have li := hi.keeps kp
  have lb := (hb (.ref (hp.objs.size + 1))).keeps kp
  unfold isInstance
  repeat (first | with_reducible refine wpAny_loadPart_at hgt ?_ | (with_reducible refine wpAny_isSubtype_exc hC1 ?_; rw [hcc]) | wp_step)
  show wpAny _ _ (typeLookup (.ref C) _) _ _ _
  refine li.at ?_
  refine wpAny_holding (wpAny_bind (lb.at ?_))
  refine wpAny_bind (wpAny_call (codeAny_mono hq fun r s' zz => ?_))
  rcases r with e | (v | _ | _ | _) <;> first | exact zz | exact zz.elim | skip
  obtain ⟨rfl, zz⟩ := zz
  first
    | exact wpAny_pure (wpAny_pure zz)
    | (wp_walk; exact zz)
theorem call_kw (F : ExcBaseFacts Bn nId iId cmB) (hT : ∀ Y : String, cm.contains (.type Y) = cmB.contains (.type Y)) {as : List Value} {kw : List (Str × Value)} {fI : Addr}
    (hC : hp.get? C = some (excClassObj cn cq C Nn cb cm hdt sln sbc abst colo ddo j0 j1 j2 j3 j5 nId))
    (hi : W.Looks (model prog w) hp (typeLookup (.ref C) "__init__") (some (.ref fI))) (hb : ∀ me, W.Looks (model prog w) hp (bindSpecial (.ref fI) me) (.ref fI, [me])) (hl : as.length ≤ sizeLine)
    (hq : codeAny (model prog w) (A.under (.builtin "type.__call__" ⟨.ref C :: as, kw⟩)) (.call (.ref fI) ⟨.ref (hp.objs.size + 1) :: as, kw⟩) (W.InitBack (hp.objs.size + 1) R)
      ⟨(hp.push (PySem.W.kdv_tup as)).push (excO C hp.objs.size), gs, dr, tk, osx⟩) :
    codeAny (model prog w) A (.call (.ref C) ⟨as, kw⟩) R ⟨hp, gs, dr, tk, osx⟩ := by
  have tl := tc_lookup
  have tb := tc_bind (.ref C)
  have hTy : (⟨hp, gs, dr, tk, osx⟩ : Shared).TypeIs (.ref C) "type" := ⟨_, hC, rfl⟩
  refine codeAny_of_tree ?_
  show wpAny _ _ (callAny (.ref C) _) _ _ _
  repeat (any_goals (first | assumption | with_reducible refine wpAny_loadPart_at hC ?_ | wp_step))
  refine ⟨rfl, ?_⟩
  refine codeAny_call_builtin_at (Code.quiet_builtin _ (by decide +kernel)) entry_typeCall (wpAny_check_type_call_sub hC (tcall_kw F hT hC hi hb hl ?_))
  refine codeAny_mono hq fun r s' zz => ?_
  rcases r with e | (v | _ | _ | _) <;> exact zz
end
end EV
end PySem

set_option Elab.async false
set_option linter.all false
set_option maxRecDepth 100000
set_option maxHeartbeats 4000000
/-! Rules for own errors that stay as values. -/
namespace EV2
open PySem PySem.Spec PyProof.Rows L2
/-- C(e, .., k = v, ..), C an own error with its own __init__: the error stays known -/
def tMkV (C : Addr) (n m : Nat) (sp : Sp) (gV : List V → List V → List V) (t tk : TA) : TE := fun σ H Q => t σ H fun vs H1 => tk σ H1 fun zs H2 => vs.length = n ∧ zs.length = m ∧ n ≤ 1000 ∧
  ∀ a, H2 a = none → sp (gV (.ref a :: vs) zs) (upd H2 a (exo a C none)) (fun v H3 => v = .non ∧ Q (.ref a) H3) fun _ _ _ => False
structure ErrC (K : PySem.W.Frag) (C fI : Addr) : Prop where
  ox : OexC K C
  ini : PySem.W.findIn K (.ref C) "__init__" = some (some (.ref fI))
  ty : PySem.W.typeIn K (.ref fI) = some (.type "function")
section
variable {X : Cx} {CX : CXT} {k n : Nat} {fI C : Addr} {fd : FuncData} {ps ks : List Str} {sp : Sp} {x : Str} {p pos : Pos} {e : Expr} {es : List Expr} {kws : List Keyword} {t tk : TA} {g : List Value → List Value → List Value} {gV : List V → List V → List V}
theorem run_mkV {pins : List (Addr × Obj)} {σ : L2.St} {H : Hp} {s : Shared} {Q : VK} {us ws : List Value} {vs zs : List V} (T : ErrC X.K C fI) (F : FnOk X.prog X.w X.K X.mg X.base CX k fI fd ps sp) (hr : Room (k + 1) X.A) (hb : KBn X.K fd ps (n + 1) ks g gV)
    (hx : Passes CX X fun _ _ _ => False) (I : Inv X pins σ H s) (r : Vals vs us) (rz : Vals zs ws) (l1 : vs.length = n) (l2 : zs.length = ks.length) (hn : n ≤ 1000)
    (h : ∀ a, H a = none → sp (gV (.ref a :: vs) zs) (upd H a (exo a C none)) (fun v H3 => v = .non ∧ Q (.ref a) H3) fun _ _ _ => False) :
    wpAny (model X.prog X.w) X.A (call (.ref C) us (ks.zip ws)) (EP X pins σ Q) X.xe s := by
  obtain ⟨nm, q, N, bs, bm, sn, sub, ab, col, dd, k0, k1, k2, k3, k5, hC, hbm⟩ := T.ox.cls
  obtain ⟨hp, gg, dr, tt, os⟩ := s
  have hsz : hp.objs.size ≤ hp.objs.size + 1 := Nat.le_succ _
  have nn : H (hp.objs.size + 1) = none := I.hok.fresh hsz
  have hq := h (hp.objs.size + 1) nn
  have kk : ∀ b o, hp.get? b = some o → ((hp.push (PySem.W.kdv_tup us)).push (PySem.HandSPX.excO C hp.objs.size)).get? b = some o := fun b o e => Heap.get?_push_of_some _ (Heap.get?_push_of_some _ e)
  have gt : ((hp.push (PySem.W.kdv_tup us)).push (PySem.HandSPX.excO C hp.objs.size)).get? (hp.objs.size + 1) = some (PySem.HandSPX.excO C hp.objs.size) := by heap_get
  have J : Inv X pins σ (upd H (hp.objs.size + 1) (exo (hp.objs.size + 1) C none)) ⟨(hp.push (PySem.W.kdv_tup us)).push (PySem.HandSPX.excO C hp.objs.size), gg, dr, tt, os⟩ :=
    I.laid (t' := tt) (a := hp.objs.size + 1) (o := exo (hp.objs.size + 1) C none) (h' := (hp.push (PySem.W.kdv_tup us)).push (PySem.HandSPX.excO C hp.objs.size)) kk hsz (exo_ok gt)
  have r1 : Vals (V.ref (hp.objs.size + 1) :: vs) (Value.ref (hp.objs.size + 1) :: us) := .cons rfl r
  have r2 := hb.rel r1 rz
  have n1 : (Value.ref (hp.objs.size + 1) :: us).length = n + 1 := by rw [List.length_cons, ← r.length, l1]
  have lu : us.length ≤ sizeLine := by
    rw [← r.length, l1, sizeLine_eq]
    omega
  refine wpAny_call (PySem.EV.call_kw PySem.F.excBase_ValueError (fun Y => PySem.HandSPX.refsVE_contains Y bm hbm) (I.kIn _ _ hC) (PySem.W.looks_findIn I.kIn T.ini) (fun me => PySem.W.bind_fn I.kIn me T.ty) lu
    (codeAny_mono (FnOk.run F _ X.stack _ _ ⟨Value.ref (hp.objs.size + 1) :: us, ks.zip ws⟩ (g (Value.ref (hp.objs.size + 1) :: us) ws) _ _ (fun _ _ _ => False) (hr.make C us (ks.zip ws)) (J.env0.make C us (ks.zip ws)) (hb.to _ (Value.ref (hp.objs.size + 1) :: us) ws J.kIn n1 (rz.length.symm.trans l2)) r2 hq) fun r s' hq' => ?_))
  cases r with
  | error e => exact hx pins σ _ _ e s' J hq'
  | ok fl =>
    cases fl with
    | ret u =>
      obtain ⟨v, H', I3, rv, ev, q3⟩ := J.after hq'
      subst ev
      exact ⟨rv, ⟨V.ref (hp.objs.size + 1), H', I3, rfl, q3⟩⟩
    | next => exact False.elim hq'
    | brk => exact False.elim hq'
    | cont => exact False.elim hq'
/-- C(e, ..) -/
theorem pe_mkV (T : ErrC X.K C fI) (F : FnOk X.prog X.w X.K X.mg X.base CX k fI fd ps sp) (hr : Room (k + 1) X.A) (hg : Gl X x) (hm : X.mg x = some (.ref C)) (hb : KBn X.K fd ps (n + 1) [] g gV) (hx : Passes CX X fun _ _ _ => False) (ha : PA X (e :: es) t)
    (hdb : (x == ("__debug__" : Str)) = false := by decide) (he : starEach (e :: es) X.env = (false, eval e X.env) :: starEach es X.env := by rfl) (hpl : (backTo pos (starEach es X.env)).any (·.1) = false := by rfl) :
    PE X (.Call (.Name x p) (e :: es) [] pos) (tMkV C n 0 sp gV t tNil) := by
  refine ⟨fun pins s σ H Q I h => ?_⟩
  refine wpAny_Call_Name_kw (ld_glob I hg hm ?_ hdb)
  refine PySem.W.callWith_K (h₀ := X.base) I.ok.mod.kin T.ox.kC (thn (ha.run pos pins s σ H _ I h) fun us s1 ⟨vs, H1, I1, r, l1, _, hn, q⟩ => ⟨I1.kIn, ?_⟩) he hpl
  exact run_mkV (ks := []) (ws := []) (zs := []) T F hr hb hx I1 r .nil l1 rfl hn q
/-- C(k = v, ..) -/
theorem pe_mkVK0 (T : ErrC X.K C fI) (F : FnOk X.prog X.w X.K X.mg X.base CX k fI fd ps sp) (hr : Room (k + 1) X.A) (hg : Gl X x) (hm : X.mg x = some (.ref C)) (hb : KBn X.K fd ps 1 ks g gV) (hx : Passes CX X fun _ _ _ => False) (hkw : PK X kws tk)
    (hall : (backToKw pos (keywordEach kws X.env)).all (·.1.isSome) = true := by rfl) (hks : (backToKw pos (keywordEach kws X.env)).filterMap (·.1) = ks := by rfl) (hdb : (x == ("__debug__" : Str)) = false := by decide)
    (hpl : ((backTo pos (starEach [] X.env)).any (·.1) || (backToKw pos (keywordEach kws X.env)).any (·.1.isNone)) = false := by rfl) :
    PE X (.Call (.Name x p) [] kws pos) (tMkV C 0 ks.length sp gV tNil tk) := by
  refine ⟨fun pins s σ H Q I h => ?_⟩
  refine wpAny_Call_Name_kw (ld_glob I hg hm ?_ hdb)
  refine PySem.W.callWith_KW0 (h₀ := X.base) I.ok.mod.kin T.ox.kC hall ?_ hpl
  refine thn (hkw.run pos pins s σ H _ I h) fun ws s2 ⟨zs, H2, I2, rz, l1, l2, hn, q2⟩ => ⟨I2.kIn, ?_⟩
  rw [hks]
  exact run_mkV (us := []) (vs := []) T F hr hb hx I2 .nil rz rfl l2 hn q2
/-- C(e, .., k = v, ..) -/
theorem pe_mkVK (T : ErrC X.K C fI) (F : FnOk X.prog X.w X.K X.mg X.base CX k fI fd ps sp) (hr : Room (k + 1) X.A) (hg : Gl X x) (hm : X.mg x = some (.ref C)) (hb : KBn X.K fd ps (n + 1) ks g gV) (hx : Passes CX X fun _ _ _ => False) (ha : PA X (e :: es) t) (hkw : PK X kws tk)
    (hall : (backToKw pos (keywordEach kws X.env)).all (·.1.isSome) = true := by rfl) (hks : (backToKw pos (keywordEach kws X.env)).filterMap (·.1) = ks := by rfl) (hdb : (x == ("__debug__" : Str)) = false := by decide)
    (he : starEach (e :: es) X.env = (false, eval e X.env) :: starEach es X.env := by rfl) (hpl : ((backTo pos (starEach (e :: es) X.env)).any (·.1) || (backToKw pos (keywordEach kws X.env)).any (·.1.isNone)) = false := by rfl) :
    PE X (.Call (.Name x p) (e :: es) kws pos) (tMkV C n ks.length sp gV t tk) := by
  refine ⟨fun pins s σ H Q I h => ?_⟩
  refine wpAny_Call_Name_kw (ld_glob I hg hm ?_ hdb)
  refine PySem.W.callWith_KW (h₀ := X.base) I.ok.mod.kin T.ox.kC hall (thn (ha.run pos pins s σ H _ I h) fun us s1 ⟨vs, H1, I1, r, q⟩ => ?_) hpl he
  refine thn (hkw.run pos pins s1 σ H1 _ I1 q) fun ws s2 ⟨zs, H2, I2, rz, l1, l2, hn, q2⟩ => ⟨I2.kIn, ?_⟩
  rw [hks]
  exact run_mkV T F hr hb hx I2 r rz l1 l2 hn q2
end
end EV2

set_option Elab.async false
set_option linter.all false
set_option maxRecDepth 100000
set_option maxHeartbeats 4000000
/-! Fields and kinds of own errors that stay as values. -/
namespace PySem.EV
open PySem PySem.W PySem.Spec PySem.Calls PyProof.Rows
section
variable {prog : Program} {w : World} {A : Around} {E : Value → Shared → Prop} {s : Shared} {K : Frag} {x D : Addr} {ox : Obj} {od : Option Obj}
theorem fo_data {C : Addr} {name : Str} {a g : Value} (hc : (clsIn K C).isSome = true) (ha : findIn K (.ref C) name = some (some a)) (hg : specialIn K a "__get__" = some (some g)) (ht : takesIn K a = some true) : findObj K C od name = some (.bind g a) := by
  obtain ⟨cd, hc⟩ := Option.isSome_iff_exists.mp hc
  unfold findObj
  rw [hc, Option.bind_some, ha, Option.bind_some]
  simp [hg, ht]
/-- x.__class__, x an error with or without a dict of its own -/
theorem cls_get {Q : Option Value → Shared → Prop} (C : L2.ExcC K D) (X : K.In s.heap) (I : InstAt s.heap x ox D od) (h : Q (some (.ref D)) { s with toks := s.toks + 1 }) : wpAny (model prog w) A (getAttr? (.ref x) "__class__") Q E s := by
  have hf : findObj K D od "__class__" = some (.bind (.builtin "getset_descriptor.__get__") (.builtin "object.__class__")) := fo_data (by obtain ⟨cd, hc, _⟩ := any_some C.hd; rw [hc]; rfl) C.ha C.hn C.ht
  obtain ⟨hp, g, d, t, os⟩ := s
  have t0 := I.type (M := model prog w)
  have t1 := looks_findIn (M := model prog w) X C.hg
  have t2 := looks_findIn (M := model prog w) X C.hk
  have t3 := looks_find (M := model prog w) X I hf
  have sb : Looks (model prog w) hp (isInstance (.ref x) (.type "BaseException")) true := t0.andThen (looks_subIn X C.hs)
  have z0 : (false && onTheHeap (Value.builtin "BaseException.__getattribute__")) = false := rfl
  have z2 : (Value.builtin "BaseException.__getattribute__" == Value.builtin "object.__getattribute__") = false := by decide +kernel
  have z1 : (onTheHeap (Value.ref D) && Value.builtin "BaseException.__getattribute__" == Value.builtin "object.__getattribute__") = false := by rw [z2]; rfl
  unfold getAttr? getAttrBy? getAttrBy
  refine wpAny_bind (wpAny_mkText (wpAny_bind (wpAny_attempt (wpAny_holding (wpAny_bind (t0.at (wpAny_bind (t1.at ?_))))))))
  show wpAny _ _ (if (onTheHeap (Value.ref D) && Value.builtin "BaseException.__getattribute__" == Value.builtin "object.__getattribute__") = true then _ else _) _ _ _
  rw [z1, if_neg Bool.false_ne_true]
  unfold getAttrByItsOwn hookBefore
  refine wpAny_bind ?_
  rw [if_pos (show onTheHeap (Value.ref D) = true from rfl)]
  refine t2.at ?_
  refine wpAny_bind (wpAny_attempt (wpAny_holding ?_))
  unfold callGetattribute
  rw [z0, if_neg Bool.false_ne_true]
  unfold boundAndCalled
  rw [PySem.F.excAttr_ValueError.ga.bind (.ref x)]
  refine wpAny_bind (wpAny_pure ?_)
  show wpAny _ _ (call (.builtin "BaseException.__getattribute__") [.ref x, .str "__class__" t]) _ _ _
  refine wpAny_call (codeAny_call_builtin PySem.F.excAttr_ValueError.ga.plain PySem.F.entry_bexc_ga ?_)
  refine @check_slot (model prog w) _ _ ⟨hp, g, d, t + 1, os⟩ "BaseException.__getattribute__" "BaseException" "__getattribute__" (.ref x) [.str "__class__" t] [] _ (by decide +kernel) (by decide +kernel) sb (PySem.F.args_bexc_ga (.ref x) (.str "__class__" t)) ?_
  unfold Builtin.«object.__getattribute__»
  refine wpAny_bind (wpAny_of_eq (a := ((Value.ref x : Value), [Value.str "__class__" t])) (by first | rfl | (simp only [slotArgs]; rfl)) ?_)
  refine wpAny_bind (wpAny_pure (wpAny_bind (t0.at (wpAny_bind (t3.at ?_)))))
  show wpAny _ _ (holding [Value.builtin "object.__class__"] (call (.builtin "getset_descriptor.__get__") [.builtin "object.__class__", .ref x, .ref D]) >>= ret) _ _ _
  refine wpAny_bind (wpAny_holding (wpAny_call (class_get (s := ⟨hp, g, d, t + 1, os⟩) (ox := ox) (od := od) X I C.hm ?_)))
  refine wpAny_pure ?_
  show wpAny _ _ (handedOut (.ref D)) _ _ _
  rw [handedOut_of (v := .ref D) rfl]
  first
    | exact wpAny_pure (wpAny_pure h)
    | exact wpAny_pure h
    | exact wpAny_pure (wpAny_bind (wpAny_pure (wpAny_pure h)))
theorem kitx_err (C : L2.ExcC K D) : KitX K (.ref x) (.ref D) (fun h => InstAt h x ox D od) where
  ty := fun _ _ _ I => I.type
  it := fun _ _ X _ => by
    obtain ⟨cdD, hcD, _⟩ := any_some C.hd
    unfold clsIn at hcD
    split at hcD
    · rename_i c' d' cd' sl' ho
      intro A' Q' E' s' k q
      unfold isType loadHead
      exact wpAny_bind (wpAny_loadPart (k _ _ (X _ _ ho)) (wpAny_pure q))
    · cases hcD
  ne := fun h tp dd its n sl X htp => by
    obtain ⟨cdD, hcD, _⟩ := any_some C.hd
    refine Bool.eq_false_iff.mpr fun q => ?_
    have e : D = tp := Value.ref.inj (beq_iff_eq.mp q)
    subst e
    unfold clsIn at hcD
    split at hcD
    · rename_i c' d' cd' sl' ho
      have z := (X _ _ ho).symm.trans htp
      cases z
    · cases hcD
  ca := fun X I k => cls_get C X I k
end
end PySem.EV
namespace EV2
open PySem PySem.Spec PyProof.Rows L2
/-! ### isinstance(e, c), e an own error -/
/-- x is an own error of the class at D -/
def ErrAt (H : Hp) (x : V) (D : Addr) : Prop := ∃ (a : Addr) (d : Option Addr), x = .ref a ∧ H a = some (exo a D d) ∧ ∀ dd, d = some dd → ∃ fs, H dd = some (exd dd fs)
def rIsV (K : PySem.W.Frag) : List V → Hp → VK → Prop := fun xs H Q => ∃ (x c : V) (D : Addr) (cv : Value) (b : Bool), xs = [x, c] ∧ ErrAt H x D ∧ ExcC K D ∧ (∀ u, RelV c u → u = cv) ∧ PySem.W.kitOne K (.ref D) cv = some b ∧ Q (.bl b) H
theorem call_isV {X : Cx} : CallR X (.builtin "isinstance") (rIsV X.K) := by
  intro pins s σ H xs us Q I r h
  obtain ⟨x, c, D, cv, b, rfl, ⟨a, d, rfl, ha, hd⟩, C, hcv, e, q⟩ := h
  obtain ⟨u1, u2, rfl, r1, r2⟩ := vals2 r
  have ec := hcv _ r2
  subst ec
  obtain rfl : u1 = Value.ref a := r1
  obtain ⟨t1, ho⟩ := exo_at I.hok ha
  cases d with
  | none =>
    have J : PySem.W.InstAt s.heap a { cls := .ref D, dict := none, data := .fields #[.ref t1, .none, .none, .none, .bool false, .none] } D none := ⟨ho, rfl, rfl, trivial⟩
    exact PySem.W.kia_one (PySem.EV.kitx_err C) I.kIn J e (fun z => nomatch z) fun tk => ⟨.bl b, H, I.kept (t' := tk) fun _ _ z => z, rfl, q⟩
  | some dd =>
    obtain ⟨fs, hdd⟩ := hd dd rfl
    obtain ⟨mA, hns, _⟩ := exd_at I.hok hdd
    obtain ⟨od, eo, _⟩ := lookIn_ns hns
    have J : PySem.W.InstAt s.heap a { cls := .ref D, dict := some dd, data := .fields #[.ref t1, .none, .none, .none, .bool false, .none] } D (some od) := ⟨ho, rfl, rfl, eo⟩
    exact PySem.W.kia_one (PySem.EV.kitx_err C) I.kIn J e (fun z => nomatch z) fun tk => ⟨.bl b, H, I.kept (t' := tk) fun _ _ z => z, rfl, q⟩
/-! ### e.f -/
def tErrF (K : PySem.W.Frag) (f : Str) (te : TE) : TE := fun σ H Q => te σ H fun x H1 => ∃ (a C d : Addr) (fs : List (Str × V)) (v : V), x = .ref a ∧ H1 a = some (exo a C (some d)) ∧ H1 d = some (exd d fs) ∧ XfC K C ∧ PySem.W.findIn K (.ref C) f = some none ∧ fs.lookup f = some v ∧ Q v H1
theorem pe_errF {X : Cx} {e : Expr} {te : TE} {f : Str} {pos : Pos} (he : PE X e te) (hb : attributeBase e f X.env (eval e X.env) = eval e X.env := by rfl) : PE X (.Attribute e f pos) (tErrF X.K f te) := by
  refine ⟨fun pins s σ H Q I h => ?_⟩
  refine attr_of hb (thn (he.run pins s σ H _ I h) fun u s1 hh => ?_)
  obtain ⟨x, H1, I1, rx, a, C, d, fs, v, ex, ea, ed, T, hno, l, q⟩ := hh
  subst ex
  obtain rfl : u = Value.ref a := rx
  obtain ⟨t1, ho⟩ := exo_at I1.hok ea
  obtain ⟨mA, hns, hr⟩ := exd_at I1.hok ed
  obtain ⟨od, eo, hl⟩ := lookIn_ns hns
  obtain ⟨u, hu, ru⟩ := RelO.some_of (v := v) (o := mA f) (by rw [← l]; exact hr f)
  have J : PySem.W.InstAt s1.heap a { cls := .ref C, dict := some d, data := .fields #[.ref t1, .none, .none, .none, .bool false, .none] } C (some od) := ⟨ho, rfl, rfl, eo⟩
  exact HandSPX.exc_get I1.kIn J T.ga T.gg T.exC (PySem.W.findObj_own T.hdC hno rfl (by rw [hl, hu])) (handed_of ru) ⟨v, H1, I1.tok _, ru, q⟩
/-! ### C(), C an own error without an __init__ of its own -/
def tMk0 (C : Addr) : TE := fun _ H Q => ∀ a, H a = none → Q (.ref a) (upd H a (exo a C none))
theorem pe_mk0 {X : Cx} {C : Addr} {bmB : List Value} {B newId initId : String} {x : Str} {p pos : Pos} (F : ExcBaseFacts B newId initId bmB) (q : PySem.W.excIn X.K C bmB newId = true) (gC : X.mg x = some (.ref C)) (kC : PySem.W.keepIn X.K (.ref C) = true) (hg : Gl X x)
    (hdb : (x == ("__debug__" : Str)) = false := by decide) : PE X (.Call (.Name x p) [] [] pos) (tMk0 C) := by
  refine ⟨fun pins s σ H Q I h => ?_⟩
  refine wpAny_Call_Name_kw (ld_glob I hg gC ?_ hdb)
  refine PySem.W.callWith_K0 I.kIn kC ?_
  show wpAny _ _ (call (.ref C) []) _ _ _
  obtain ⟨bm, N, nm, qn, bs, hdct, sn, sub, ab, col, dd, k0, k1, k2, k3, k5, mN, hC, hN, hni, T⟩ := exc_obj I.kIn q
  refine wpAny_call_exc_subT F T hC hN hni (fun h' e hm => ?_) (by show 0 ≤ sizeLine; rw [sizeLine_eq]; omega)
  obtain ⟨t, he, _, _⟩ := hm.there
  have hn := I.hok.gone hm.new
  exact ⟨.ref e, _, I.laidN (t' := s.toks) hm.keeps hm.new hn (exo_ok he), rfl, h e hn⟩
end EV2

set_option Elab.async false
set_option linter.all false
set_option maxRecDepth 100000
set_option maxHeartbeats 4000000
/-! Pens: a dict of three text keys, the cells and two numbers; common small facts. -/
namespace Pen
open PySem PySem.Spec PyProof.Rows L2
/-- all but what stands at p is as it was -/
def Sib (p : Addr) (H H' : Hp) : Prop := ∀ b o, b ≠ p → H b = some o → H' b = some o
theorem Sib.refl (p : Addr) (H : Hp) : Sib p H H := fun _ _ _ h => h
theorem Sib.trans {p : Addr} {H H1 H2 : Hp} (a : Sib p H H1) (b : Sib p H1 H2) : Sib p H H2 := fun c o n h => b c o n (a c o n h)
theorem Sib.new {p q : Addr} {o : HO} {H : Hp} (h : H q = none) : Sib p H (upd H q o) := fun b u _ e => by
  rw [upd_ne (ne_of_none e h)]
  exact e
theorem Sib.put {p : Addr} {o : HO} {H : Hp} : Sib p H (upd H p o) := fun b u n e => by
  rw [upd_ne n]
  exact e
/-- the pen's pairs: c the cells, i how many were taken, r what is left of the last one -/
def kvs (k1 k2 k3 : Str) (c : Addr) (i r : Int) : List (Key × V) := [(Sum.inr k1, .ref c), (Sum.inr k2, .int i), (Sum.inr k3, .int r)]
structure At (k1 k2 k3 : Str) (H : Hp) (p c : Addr) (cs : List Int) (i r : Int) : Prop where
  hp : H p = some (.dK (kvs k1 k2 k3 c i r))
  hc : H c = some (.lst (cs.map V.int))
  hl : cs.length ≤ 64
  h0 : 0 ≤ i
  h1 : i < 2 ^ 40
section
variable {k1 k2 k3 : Str} {H H' : Hp} {p c : Addr} {cs : List Int} {i r : Int}
theorem ref_ne (P : At k1 k2 k3 H p c cs i r) : c ≠ p := ne_of P.hc P.hp (by intro z; cases z)
theorem get1 (P : At k1 k2 k3 H p c cs i r) : DGet H p (.str k1) (some (.ref c)) := by
  have h := DGet.k (k := Sum.inr k1) P.hp
  have e : valV (kvs k1 k2 k3 c i r) (Sum.inr k1) = some (.ref c) := by simp [valV, kvs]
  rw [e] at h
  exact h
theorem get2 (P : At k1 k2 k3 H p c cs i r) (h12 : k1 ≠ k2) : DGet H p (.str k2) (some (.int i)) := by
  have h := DGet.k (k := Sum.inr k2) P.hp
  have e : valV (kvs k1 k2 k3 c i r) (Sum.inr k2) = some (.int i) := by simp [valV, kvs, h12]
  rw [e] at h
  exact h
theorem get3 (P : At k1 k2 k3 H p c cs i r) (h13 : k1 ≠ k3) (h23 : k2 ≠ k3) : DGet H p (.str k3) (some (.int r)) := by
  have h := DGet.k (k := Sum.inr k3) P.hp
  have e : valV (kvs k1 k2 k3 c i r) (Sum.inr k3) = some (.int r) := by simp [valV, kvs, h13, h23]
  rw [e] at h
  exact h
theorem put2 (P : At k1 k2 k3 H p c cs i r) (h12 : k1 ≠ k2) (h23 : k2 ≠ k3) (z : Int) : DPut H p (.str k2) (.int z) (upd H p (.dK (kvs k1 k2 k3 c z r))) := by
  have h := DPut.k (k := Sum.inr k2) (v := .int z) P.hp (by show 3 < sizeLine; decide)
  have e : putK (kvs k1 k2 k3 c i r) (Sum.inr k2) (.int z) = kvs k1 k2 k3 c z r := by
    have h3 : ¬ k3 = k2 := fun q => h23 q.symm
    simp [putK, kvs, h12, h3]
  rw [e] at h
  exact h
theorem put3 (P : At k1 k2 k3 H p c cs i r) (h13 : k1 ≠ k3) (h23 : k2 ≠ k3) (z : Int) : DPut H p (.str k3) (.int z) (upd H p (.dK (kvs k1 k2 k3 c i z))) := by
  have h := DPut.k (k := Sum.inr k3) (v := .int z) P.hp (by show 3 < sizeLine; decide)
  have e : putK (kvs k1 k2 k3 c i r) (Sum.inr k3) (.int z) = kvs k1 k2 k3 c i z := by simp [putK, kvs, h13, h23]
  rw [e] at h
  exact h
theorem At.to (P : At k1 k2 k3 H p c cs i r) {i' r' : Int} (hp : H' p = some (.dK (kvs k1 k2 k3 c i' r'))) (s : Sib p H H') (h0 : 0 ≤ i') (h1 : i' < 2 ^ 40) : At k1 k2 k3 H' p c cs i' r' :=
  ⟨hp, s _ _ (ref_ne P) P.hc, P.hl, h0, h1⟩
theorem At.new (P : At k1 k2 k3 H p c cs i r) {q : Addr} {o : HO} (h : H q = none) : At k1 k2 k3 (upd H q o) p c cs i r :=
  P.to (by rw [upd_ne (ne_of_none P.hp h)]; exact P.hp) (Sib.new h) P.h0 P.h1
theorem At.keep (P : At k1 k2 k3 H p c cs i r) (s : Same H H') : At k1 k2 k3 H' p c cs i r := P.to (s _ _ P.hp) (fun b o _ h => s b o h) P.h0 P.h1
end
theorem fmod_lo {a m : Int} (h : 0 < m) : 0 ≤ a.fmod m := by
  rw [Int.fmod_eq_emod_of_nonneg a (by omega)]
  exact Int.emod_nonneg a (by omega)
theorem fmod_hi {a m : Int} (h : 0 < m) : a.fmod m < m := by
  rw [Int.fmod_eq_emod_of_nonneg a (by omega)]
  exact Int.emod_lt_of_pos a h
/-- cells != [] -/
theorem dp_ints {K : PySem.W.Frag} {H : Hp} : ∀ (cs : List Int), DpAll K H (cs.map V.int) (cs.map PyData.int)
  | [] => .nil
  | n :: cs => .cons (.int n) (dp_ints cs)
theorem can_ints : ∀ (cs : List Int), PyData.canLayAll0 (cs.map PyData.int) = true
  | [] => rfl
  | n :: cs => by
    show (PyData.canLay0 (.int n) && PyData.canLayAll0 (cs.map PyData.int)) = true
    rw [can_ints cs]
    all_goals rfl
theorem depth_ints : ∀ (cs : List Int), PyData.depthAll (cs.map PyData.int) = 0
  | [] => rfl
  | n :: cs => by
    show max (PyData.depth (.int n)) (PyData.depthAll (cs.map PyData.int)) = 0
    rw [depth_ints cs]
    all_goals rfl
theorem shaped_ints (cs : List Int) : SeqAt.shaped (.list (cs.map PyData.int)) = true := by
  unfold SeqAt.shaped
  show (PyData.canLayAll0 (cs.map PyData.int) && decide (PyData.depthAll (cs.map PyData.int) + 1 ≤ 64)) = true
  rw [can_ints, depth_ints]
  all_goals rfl
theorem eqv_nil : ∀ (cs : List Int), PyData.eqv (.list (cs.map PyData.int)) (.list []) = decide (cs = [])
  | [] => rfl
  | n :: cs => rfl
theorem fm64 {a m : Int} (h : 0 < m) (h2 : m ≤ 2 ^ 64) : -(2 ^ 64) < a.fmod m ∧ a.fmod m < 2 ^ 64 := by
  have h3 := fmod_lo (a := a) h
  have h4 := fmod_hi (a := a) h
  omega
theorem SqL_sib {K : PySem.W.Frag} {p l : Addr} {H H' : Hp} {xs : List V} (h : SqL K H l xs) (s : Sib p H H') (n : l ≠ p) : SqL K H' l xs := by
  rcases h with (h | ⟨o, h⟩) | h
  · exact .inl (.inl (s _ _ n h))
  · exact .inl (.inr ⟨o, s _ _ n h⟩)
  · exact .inr h
theorem at_ints {cs : List Int} {i : Int} (h0 : 0 ≤ i) (h1 : i < cs.length) : ∃ z, atI (cs.map V.int) i = some (.int z) := by
  have hk : i.toNat < cs.length := by omega
  refine ⟨cs[i.toNat], ?_⟩
  unfold atI ixN
  rw [List.length_map, if_pos h0, if_pos h1, Option.bind_some, List.getElem?_map, List.getElem?_eq_getElem hk]
  all_goals rfl
theorem cut_all {xs : List V} {n : Nat} (h : xs.length ≤ n) : cutV xs none (some (n : Int)) = xs := by
  have e1 : HT.sIx xs.length 0 none = 0 := rfl
  have e2 : HT.sIx xs.length xs.length (some (n : Int)) = xs.length := by
    rw [HT.sIx_nat]
    omega
  unfold cutV
  rw [e1, e2]
  simp
end Pen

set_option Elab.async false
set_option linter.all false
set_option maxRecDepth 100000
set_option maxHeartbeats 4000000
/-! Own errors with one or two fields that their __init__ stores: what stands behind C(..). -/
namespace EV2
open PySem PySem.Spec PyProof.Rows L2
/-- an error with the fields fs -/
structure ErrF (H : Hp) (a d C : Addr) (fs : List (Str × V)) : Prop where
  he : H a = some (exo a C (some d))
  hd : H d = some (exd d fs)
def spI1 (C : Addr) (f : Str) : Sp := fun vs H Q _ => ∃ (a : Addr) (v : V), vs = [.ref a, v] ∧ H a = some (exo a C none) ∧
  ∀ d, H d = none → d ≠ a → Q .non (upd (upd H d (exd d [(f, v)])) a (exo a C (some d)))
def spI2 (C : Addr) (f g : Str) : Sp := fun vs H Q _ => ∃ (a : Addr) (v u : V), vs = [.ref a, v, u] ∧ H a = some (exo a C none) ∧
  ∀ d, H d = none → d ≠ a → Q .non (upd (upd (upd H d (exd d [(f, v)])) a (exo a C (some d))) d (exd d [(g, u), (f, v)]))
section
variable {H : Hp} {Q : VK} {E : XK} {C : Addr} {f g : Str} {u v : V}
theorem rd_e1 (k : ∀ a d H', H a = none → H' a = some (exo a C (some d)) → H' d = some (exd d [(f, v)]) → Same H H' → Q (.ref a) H') :
    ∀ a, H a = none → spI1 C f [.ref a, v] (upd H a (exo a C none)) (fun z H3 => z = .non ∧ Q (.ref a) H3) E := fun a ha =>
  ⟨a, v, rfl, upd_same, fun d hd ne => ⟨rfl, k a d _ ha upd_same (by rw [upd_ne ne, upd_same]) fun b o e => by
    have n1 : b ≠ a := ne_of_none e ha
    have n2 : b ≠ d := fun z => by
      rw [z] at e
      rw [upd_ne ne, e] at hd
      cases hd
    rw [upd_ne n1, upd_ne n2, upd_ne n1]
    exact e⟩⟩
theorem rd_e2 (k : ∀ a d H', H a = none → H' a = some (exo a C (some d)) → H' d = some (exd d [(g, u), (f, v)]) → Same H H' → Q (.ref a) H') :
    ∀ a, H a = none → spI2 C f g [.ref a, v, u] (upd H a (exo a C none)) (fun z H3 => z = .non ∧ Q (.ref a) H3) E := fun a ha =>
  ⟨a, v, u, rfl, upd_same, fun d hd ne => ⟨rfl, k a d _ ha (by rw [upd_ne (Ne.symm ne), upd_same]) upd_same fun b o e => by
    have n1 : b ≠ a := ne_of_none e ha
    have n2 : b ≠ d := fun z => by
      rw [z] at e
      rw [upd_ne ne, e] at hd
      cases hd
    rw [upd_ne n2, upd_ne n1, upd_ne n2, upd_ne n1]
    exact e⟩⟩
end
/-- how a def binds positional and keyword arguments, told by its text -/
theorem kbn_of {K : PySem.W.Frag} {x qual : Str} {st : Stmt} {f : Addr} {fd : FuncData} {ps ks : List Str} {n : Nat} {g : List Value → List Value → List Value} {gV : List V → List V → List V} (F : Fun K x qual st f fd)
    (h : ∀ (kV doc pm : Value) (an : Option Addr) (cdv ct : Value) (us ws : List Value), us.length = n → ws.length = ks.length → bindArgs (PySem.W.fnOf x qual (defArgs st) (defBody st) (defScope st) .none kV doc pm an cdv ct) ⟨us, ks.zip ws⟩ = pure (ps.zip (g us ws)))
    (hr : ∀ {vs : List V} {us : List Value} {zs : List V} {ws : List Value}, Vals vs us → Vals zs ws → Vals (gV vs zs) (g us ws)) : KBn K fd ps n ks g gV := by
  obtain ⟨oc, od, kV, doc, pm, an, cdv, ct, osl, rfl, lk, hcd⟩ := F.ex
  exact ⟨fun s us ws X l1 l2 => .of_eq (h kV doc pm an cdv ct us ws l1 l2), hr⟩
/-- two keywords in the other order -/
def swapK {α : Type} (us ws : List α) : List α := us ++ ws.reverse
theorem vals_rev : ∀ {vs : List V} {us : List Value}, Vals vs us → Vals vs.reverse us.reverse
  | _, _, .nil => .nil
  | _, _, .cons r t => by
    rw [List.reverse_cons, List.reverse_cons]
    exact (vals_rev t).append (.cons r .nil)
end EV2

set_option Elab.async false
set_option linter.all false
set_option maxRecDepth 100000
set_option maxHeartbeats 4000000
/-! What readings give, for errors that are made and asked on the spot, for lists of tuples, for isinstance. -/
namespace EV2
open PySem PySem.Spec PyProof.Rows L2 Evl
/-- tuples at ps with the items xss -/
abbrev TupsAt (H : Hp) : List Addr → List (List V) → Prop := Paired fun p xs => H p = some (.tup xs)
theorem TupsAt.ext {H H' : Hp} (e : Ex H H') : ∀ {ps : List Addr} {xss : List (List V)}, TupsAt H ps xss → TupsAt H' ps xss
  | _, _, .nil => .nil
  | _, _, .cons r t => .cons (e _ _ r) (TupsAt.ext e t)
def EvTs (ta : TA) (σ : L2.St) (H : Hp) (xss : List (List V)) : Prop := ∀ H1, Ex H H1 → ∀ Q : List V → Hp → Prop, (∀ ps H2, Ex H1 H2 → TupsAt H2 ps xss → Q (ps.map V.ref) H2) → ta σ H1 Q
section
variable {K : PySem.W.Frag} {σ : L2.St} {H : Hp} {te : TE} {ta tk tr : TA} {x v : V} {xs : List V} {xss : List (List V)} {f : Str} {C : Addr}
theorem ets_nil : EvTs tNil σ H [] := fun H1 _ _ q => q [] H1 (Ex.refl H1) .nil
theorem ets_cons (h : EvU te σ H xs) (hr : EvTs tr σ H xss) : EvTs (tCons te tr) σ H (xs :: xss) := fun H1 e Q q =>
  h H1 e _ fun p H2 _ e2 hp => hr H2 (e.trans e2) _ fun ps H3 e3 ht => q (p :: ps) H3 (e2.trans e3) (.cons (e3 _ _ hp) ht)
/-- a list of such tuples -/
def EvLT (te : TE) (σ : L2.St) (H : Hp) (xss : List (List V)) : Prop := ∀ H1, Ex H H1 → ∀ Q : VK, (∀ p ps H2, H1 p = none → Ex H1 H2 → H2 p = some (.lst (ps.map V.ref)) → TupsAt H2 ps xss → Q (.ref p) H2) → te σ H1 Q
theorem elt_lst (h : EvTs ta σ H xss) (hl : xss.length ≤ 100000) : EvLT (tLst ta) σ H xss := fun H1 e Q q =>
  h H1 e _ fun ps H2 e2 ht => ⟨by
    have z := Paired.length ht
    rw [List.length_map, z]
    exact sz_of hl, fun p hp => q p ps _ (fresh_back e2 hp) (e2.trans (Ex.new hp)) upd_same (ht.ext (Ex.new hp))⟩
/-- what follows an attribute of an error -/
def errK (K : PySem.W.Frag) (f : Str) (Q : VK) : VK := fun x H1 => ∃ (a C d : Addr) (fs : List (Str × V)) (v : V), x = .ref a ∧ H1 a = some (exo a C (some d)) ∧ H1 d = some (exd d fs) ∧ XfC K C ∧ PySem.W.findIn K (.ref C) f = some none ∧ fs.lookup f = some v ∧ Q v H1
/-- C(v).f -/
theorem ev_e1p {gV : List V → List V → List V} (hx : XfC K C) (no : PySem.W.findIn K (.ref C) f = some none) (ha : EvA ta σ H [v]) (hg : ∀ a : V, gV [a, v] [] = [a, v]) : Ev (tErrF K f (tMkV C 1 0 (spI1 C f) gV ta tNil)) σ H v := fun H1 e Q q =>
  ha H1 e _ fun H2 e2 => ⟨rfl, rfl, by decide, by
    intro a ha
    rw [hg]
    exact rd_e1 (Q := errK K f Q) (fun a d H3 ha he hd s => ⟨a, C, d, _, v, rfl, he, hd, hx, no, by simp [List.lookup], q H3 (e2.trans s)⟩) a ha⟩
/-- C(f = v).f -/
theorem ev_e1k {gV : List V → List V → List V} (hx : XfC K C) (no : PySem.W.findIn K (.ref C) f = some none) (ha : EvA tk σ H [v]) (hg : ∀ a : V, gV [a] [v] = [a, v]) : Ev (tErrF K f (tMkV C 0 1 (spI1 C f) gV tNil tk)) σ H v := fun H1 e Q q =>
  ha H1 e _ fun H2 e2 => ⟨rfl, rfl, by decide, by
    intro a ha
    rw [hg]
    exact rd_e1 (Q := errK K f Q) (fun a d H3 ha he hd s => ⟨a, C, d, _, v, rfl, he, hd, hx, no, by simp [List.lookup], q H3 (e2.trans s)⟩) a ha⟩
/-- errors with two fields: f and g are v and u behind it; h is the one that is asked, z its value -/
theorem ev_e2 {n m : Nat} {vs zs : List V} {g h : Str} {u z : V} {gV : List V → List V → List V} (hx : XfC K C) (no : PySem.W.findIn K (.ref C) h = some none) (ha : EvA ta σ H vs) (hk : EvA tk σ H zs) (l1 : vs.length = n) (l2 : zs.length = m) (hn : n ≤ 1000)
    (hg : ∀ a : V, gV (a :: vs) zs = [a, v, u]) (hz : ([(g, u), (f, v)] : List (Str × V)).lookup h = some z) : Ev (tErrF K h (tMkV C n m (spI2 C f g) gV ta tk)) σ H z := fun H1 e Q q =>
  ha H1 e _ fun H2 e2 => hk H2 (e.trans e2) _ fun H3 e3 => ⟨l1, l2, hn, by
    intro a ha
    rw [hg]
    exact rd_e2 (Q := errK K h Q) (fun a d H4 ha he hd s => ⟨a, C, d, _, z, rfl, he, hd, hx, no, hz, q H4 ((e2.trans e3).trans s)⟩) a ha⟩
end
end EV2

set_option Elab.async false
set_option linter.all false
set_option maxRecDepth 100000
set_option maxHeartbeats 4000000
/-! A new list that grows by tuples. -/
namespace EV2
open PySem PySem.Spec PyProof.Rows L2 Evl
structure Grown (H0 H : Hp) (l : Addr) (ts : List Addr) (xss : List (List V)) : Prop where
  nw : H0 l = none
  ex : Ex H0 H
  at_ : H l = some (.lst (ts.map V.ref))
  tp : TupsAt H ts xss
theorem tups_app {H : Hp} : ∀ {ps qs : List Addr} {xss yss : List (List V)}, TupsAt H ps xss → TupsAt H qs yss → TupsAt H (ps ++ qs) (xss ++ yss)
  | _, _, _, _, .nil, t => t
  | _, _, _, _, .cons r s, t => .cons r (tups_app s t)
theorem tups_upd {H : Hp} {l : Addr} {xs ys : List V} (h : H l = some (.lst xs)) : ∀ {ps : List Addr} {xss : List (List V)}, TupsAt H ps xss → TupsAt (upd H l (.lst ys)) ps xss
  | _, _, .nil => .nil
  | _, _, .cons r t => .cons (by
      rw [upd_ne (ne_of r h (by intro z; cases z))]
      exact r) (tups_upd h t)
section
variable {K : PySem.W.Frag} {σ : L2.St} {H0 H : Hp} {te : TE} {l : Addr} {ts : List Addr} {xss : List (List V)} {ys : List V} {tz : TS} {D : Ends} {i : Nat}
theorem grow (G : Grown H0 H l ts xss) (hi : σ[i]? = some (some (.ref l))) (h : EvU te σ H ys) (hz : ts.length < 1000) (k : ∀ p H', Grown H0 H' l (ts ++ [p]) (xss ++ [ys]) → tz D σ H') :
    tSeq (tDrop (tBM K "list" rAppend (tVar i) (tCons te tNil))) tz D σ H := by
  refine q_appU G.at_ (ev_var hi) h (by rw [List.length_map]; omega) fun p H1 hp e1 ht => k p _ ⟨G.nw, Ex.mut (G.ex.trans e1) G.nw, ?_, ?_⟩
  · rw [upd_same, List.map_append]
    rfl
  · exact tups_upd (e1 _ _ G.at_) (tups_app (G.tp.ext e1) (.cons ht .nil))
end
end EV2

set_option Elab.async false
set_option linter.all false
set_option maxRecDepth 100000
set_option maxHeartbeats 4000000
/-! Own errors right below one own base, which is a ValueError: what follows from the class's own line; which kind is which. -/
namespace EV2
open PySem PySem.Spec PyProof.Rows L2 Evl
def BM (S : Addr) : List Value := [.ref S, .type "ValueError", .type "Exception", .type "BaseException", .type "object"]
/-- the class's own line -/
def LineOf (K : PySem.W.Frag) (S C : Addr) : Prop := ∃ nm q N bs sn sub ab col dd k0 k1 k2 k3 k5, K.lookup C = some (excClassObj nm q C N bs (BM S) true sn sub ab col dd k0 k1 k2 k3 k5 "ValueError.__new__")
section
variable {K : PySem.W.Frag} {S C D : Addr}
theorem LineOf.cls (h : LineOf K S C) : ∃ cd, PySem.W.clsIn K C = some cd ∧ cd.mro = .ref C :: BM S ∧ cd.hasDict = true := by
  obtain ⟨nm, q, N, bs, sn, sub, ab, col, dd, k0, k1, k2, k3, k5, e⟩ := h
  refine ⟨_, by unfold PySem.W.clsIn; rw [e] <;> rfl, rfl, rfl⟩
theorem LineOf.mro (h : LineOf K S C) (v : Value) : PySem.W.mroIn K C v = some ((Value.ref C :: BM S).contains v) := by
  obtain ⟨cd, e, m, _⟩ := h.cls
  unfold PySem.W.mroIn
  rw [e, Option.bind_some, m, if_neg (by show ¬ false = true; decide)]
theorem LineOf.base (h : LineOf K S C) : PySem.W.subIn K (.ref C) (.type "BaseException") = some true := by
  show PySem.W.mroIn K C (.type "BaseException") = some true
  rw [h.mro]
  congr 1
theorem LineOf.value (h : LineOf K S C) : PySem.W.subIn K (.ref C) (.type "ValueError") = some true := by
  show PySem.W.mroIn K C (.type "ValueError") = some true
  rw [h.mro]
  congr 1
theorem LineOf.obj (h : LineOf K S C) : PySem.W.mroIn K C (.type "object") = some true := by
  rw [h.mro]
  congr 1
theorem LineOf.ty (h : LineOf K S C) : PySem.W.typeIn K (.ref C) = some (.type "type") := by
  obtain ⟨nm, q, N, bs, sn, sub, ab, col, dd, k0, k1, k2, k3, k5, e⟩ := h
  show (K.lookup C).map (·.cls) = some (.type "type")
  rw [e]
  all_goals rfl
theorem LineOf.dict (h : LineOf K S C) : PySem.W.hasDictIn K C = true := by
  obtain ⟨cd, e, _, d⟩ := h.cls
  unfold PySem.W.hasDictIn
  rw [e]
  exact d
theorem LineOf.isc (h : LineOf K S C) : (PySem.W.clsIn K C).isSome = true := by
  obtain ⟨cd, e, _⟩ := h.cls
  rw [e]
  all_goals rfl
theorem refs_bm : PySem.HandSPX.refsVE (BM S) = true := by rfl
theorem LineOf.ox (h : LineOf K S C) (sa : PySem.W.findIn K (.ref C) "__setattr__" = some (some (.builtin "object.__setattr__"))) (kC : PySem.W.keepIn K (.ref C) = true) : OexC K C := by
  have e1 := h.base
  have e2 := h.ty
  obtain ⟨nm, q, N, bs, sn, sub, ab, col, dd, k0, k1, k2, k3, k5, e⟩ := h
  exact ⟨⟨nm, q, N, bs, _, sn, sub, ab, col, dd, k0, k1, k2, k3, k5, e, refs_bm⟩, sa, e1, e2, kC⟩
/-- the look at an instance's class -/
structure GetC (K : PySem.W.Frag) : Prop where
  hn : PySem.W.specialIn K (.builtin "object.__class__") "__get__" = some (some (.builtin "getset_descriptor.__get__"))
  ht : PySem.W.takesIn K (.builtin "object.__class__") = some true
theorem LineOf.ic (h : LineOf K S C) (g : GetC K) (hg : PySem.W.findIn K (.ref C) "__getattribute__" = some (some (.builtin "BaseException.__getattribute__"))) (hk : PySem.W.findIn K (.ref C) "__getattr__" = some none)
    (ha : PySem.W.findIn K (.ref C) "__class__" = some (some (.builtin "object.__class__"))) : ExcC K C := ⟨hg, hk, h.base, h.dict, ha, g.hn, g.ht, h.obj⟩
theorem LineOf.xf (h : LineOf K S C) (hg : PySem.W.findIn K (.ref C) "__getattribute__" = some (some (.builtin "BaseException.__getattribute__"))) (hk : PySem.W.findIn K (.ref C) "__getattr__" = some none) : XfC K C := ⟨hg, hk, h.base, h.dict⟩
theorem ref_beq (a b : Addr) : (Value.ref a == Value.ref b) = decide (a = b) := by
  by_cases e : a = b
  · subst e
    simp
  · rw [decide_eq_false e]
    exact beq_eq_false_iff_ne.mpr fun q => e (Value.ref.inj q)
/-- isinstance(e, C), e of the class D: both right below S -/
theorem kit_below (hD : LineOf K S D) (hC : LineOf K S C) (n : C ≠ S) : PySem.W.kitOne K (.ref D) (.ref C) = some (decide (C = D)) := by
  unfold PySem.W.kitOne
  by_cases e : D = C
  · subst e
    rw [if_pos (by rw [ref_beq]; simp)]
    simp
  · rw [if_neg (by rw [ref_beq]; simp [e])]
    show (if ((PySem.W.clsIn K C).isSome && PySem.W.typeIn K (.ref C) == some (.type "type")) = true then PySem.W.subIn K (.ref D) (.ref C) else none) = some (decide (C = D))
    rw [hC.isc, hC.ty]
    rw [if_pos (by rfl)]
    show PySem.W.mroIn K D (.ref C) = some (decide (C = D))
    rw [hD.mro]
    congr 1
    have n1 : (Value.ref C == Value.ref D) = false := by rw [ref_beq]; exact decide_eq_false fun q => e q.symm
    have n2 : (Value.ref C == Value.ref S) = false := by rw [ref_beq]; exact decide_eq_false n
    have n3 : ∀ x : String, (Value.ref C == Value.type x) = false := fun x => beq_eq_false_iff_ne.mpr fun q => by cases q
    have q : decide (C = D) = false := decide_eq_false fun q => e q.symm
    rw [q]
    simp only [BM, List.contains_cons, n1, n2, n3, List.contains_nil, Bool.or_false]
/-- the base itself, and ValueError -/
theorem kit_base (hD : LineOf K S D) (sS : (PySem.W.clsIn K S).isSome = true) (tS : PySem.W.typeIn K (.ref S) = some (.type "type")) : PySem.W.kitOne K (.ref D) (.ref S) = some true := by
  unfold PySem.W.kitOne
  by_cases e : D = S
  · rw [if_pos (by rw [ref_beq]; simp [e])]
  · rw [if_neg (by rw [ref_beq]; simp [e])]
    show (if ((PySem.W.clsIn K S).isSome && PySem.W.typeIn K (.ref S) == some (.type "type")) = true then PySem.W.subIn K (.ref D) (.ref S) else none) = some true
    rw [sS, tS]
    rw [if_pos (by rfl)]
    show PySem.W.mroIn K D (.ref S) = some true
    rw [hD.mro]
    congr 1
    simp only [BM, List.contains_cons]
    rw [show (Value.ref S == Value.ref S) = true from by rw [ref_beq]; simp]
    simp
theorem kit_value (hD : LineOf K S D) : PySem.W.kitOne K (.ref D) (.type "ValueError") = some true := by
  unfold PySem.W.kitOne
  rw [if_neg (by intro q; exact absurd (beq_iff_eq.mp q) (by intro z; cases z))]
  show (if PySem.W.kitMeta "ValueError" = true then PySem.W.subIn K (.ref D) (.type "ValueError") else none) = some true
  rw [if_pos (by decide +kernel)]
  exact hD.value
end
/-- one among many -/
def marks (l : List Addr) (D : Addr) : List Int := l.map fun C => if C = D then 1 else 0
theorem marks_no : ∀ {l : List Addr} {D : Addr}, D ∉ l → marks l D = List.replicate l.length 0
  | [], _, _ => rfl
  | C :: l, D, h => by
    have h1 : ¬ C = D := fun e => h (by rw [e]; exact List.mem_cons_self ..)
    show (if C = D then 1 else 0) :: marks l D = _
    rw [if_neg h1, marks_no fun q => h (List.mem_cons_of_mem _ q)]
    rfl
theorem marks_at : ∀ {l : List Addr} {j : Nat} {D : Addr}, l.Nodup → l[j]? = some D → marks l D = List.replicate j 0 ++ [1] ++ List.replicate (l.length - 1 - j) 0
  | [], _, _, _, h => by simp at h
  | C :: l, 0, D, nd, h => by
    have e : C = D := Option.some.inj h
    subst e
    show (if C = C then 1 else 0) :: marks l C = _
    rw [if_pos rfl, marks_no (List.nodup_cons.mp nd).1]
    simp
  | C :: l, j + 1, D, nd, h => by
    have h' : l[j]? = some D := h
    have hm : D ∈ l := List.mem_of_getElem? h'
    have n : ¬ C = D := fun e => (List.nodup_cons.mp nd).1 (by rw [e]; exact hm)
    show (if C = D then 1 else 0) :: marks l D = _
    rw [if_neg n, marks_at (List.nodup_cons.mp nd).2 h']
    have hl : (C :: l).length - 1 - (j + 1) = l.length - 1 - j := by
      rw [List.length_cons]
      omega
    rw [hl]
    rfl
end EV2

set_option Elab.async false
set_option linter.all false
set_option maxRecDepth 100000
set_option maxHeartbeats 4000000
/-! Lists put together, isinstance of errors, list comprehensions: what they give. -/
namespace EV2
open PySem PySem.Spec PyProof.Rows L2 Evl
theorem ErrAt.ext {H H' : Hp} {x : V} {D : Addr} (e : Ex H H') (h : ErrAt H x D) : ErrAt H' x D := by
  obtain ⟨a, d, ex, ha, hd⟩ := h
  exact ⟨a, d, ex, e _ _ ha, fun dd z => by
    obtain ⟨fs, q⟩ := hd dd z
    exact ⟨fs, e _ _ q⟩⟩
section
variable {K : PySem.W.Frag} {σ : L2.St} {H : Hp} {ta tb tc te : TE} {x c v : V} {xs ys : List V} {k : Int} {a : Addr}
theorem el_cat (ha : EvL ta σ H xs) (hb : EvL tb σ H ys) (hl : xs.length + ys.length ≤ 100000) : EvL (tOp rCat ta tb) σ H (xs ++ ys) := fun H1 e Q q =>
  ha H1 e _ fun p H2 np e2 hp => hb H2 (e.trans e2) _ fun r H3 nr e3 hr => ⟨p, r, xs, ys, rfl, rfl, e3 _ _ hp, hr, sz_of hl, fun u hu => q u _ (fresh_back (e2.trans e3) hu) ((e2.trans e3).trans (Ex.new hu)) upd_same⟩
/-- the first one an old list -/
theorem el_catV (ha : Ev ta σ H (.ref a)) (h : H a = some (.lst xs)) (hb : EvL tb σ H ys) (hl : xs.length + ys.length ≤ 100000) : EvL (tOp rCat ta tb) σ H (xs ++ ys) := fun H1 e Q q =>
  ha H1 e _ fun H2 e2 => hb H2 (e.trans e2) _ fun r H3 nr e3 hr => ⟨a, r, xs, ys, rfl, rfl, e3 _ _ (e2 _ _ (e _ _ h)), hr, sz_of hl, fun u hu => q u _ (fresh_back (e2.trans e3) hu) ((e2.trans e3).trans (Ex.new hu)) upd_same⟩
/-- [v] * k -/
theorem el_rep1 (ha : EvL ta σ H [v]) (hb : Ev tb σ H (.int k)) (h0 : 0 ≤ k) (h1 : k ≤ 100000) : EvL (tOp rRep ta tb) σ H (List.replicate k.toNat v) := fun H1 e Q q =>
  ha H1 e _ fun p H2 np e2 hp => hb H2 (e.trans e2) _ fun H3 e3 => ⟨p, k, [v], rfl, rfl, e3 _ _ hp, by omega, by omega, by
    show 1 * k.toNat ≤ sizeLine
    exact sz_of (by omega), fun u hu => by
    have z := q u (upd H3 u (.lst (List.replicate k.toNat v))) (fresh_back (e2.trans e3) hu) ((e2.trans e3).trans (Ex.new hu)) upd_same
    have w : (List.replicate k.toNat [v]).flatten = List.replicate k.toNat v := by
      generalize k.toNat = n
      induction n with
      | zero => rfl
      | succ n ih => rw [List.replicate_succ, List.flatten_cons, ih]; rfl
    first
      | (rw [w]; exact z)
      | exact z⟩
/-- isinstance(x, c) of an own error -/
theorem ev_isV {D : Addr} {cv : Value} {b : Bool} (ha : Ev ta σ H x) (hc : Ev tc σ H c) (hx : ErrAt H x D) (C : ExcC K D) (hcv : ∀ u, RelV c u → u = cv) (hk : PySem.W.kitOne K (.ref D) cv = some b) :
    Ev (tCB (rIsV K) (tCons ta (tCons tc tNil))) σ H (.bl b) := fun H1 e Q q =>
  ha H1 e _ fun H2 e2 => hc H2 (e.trans e2) _ fun H3 e3 => ⟨x, c, D, cv, b, rfl, hx.ext ((e.trans e2).trans e3), C, hcv, hk, q H3 (e2.trans e3)⟩
theorem rel_ref {a : Addr} : ∀ u, RelV (.ref a) u → u = .ref a := fun u h => h
theorem rel_ty {n : String} : ∀ u, RelV (.ty n) u → u = .type n := fun u h => h
end
end EV2
namespace EV2
open PySem PySem.Spec PyProof.Rows L2 Evl
theorem et_yes {σ : L2.St} {H : Hp} : EvT tYes σ H true := fun H1 _ _ q => q H1 (Ex.refl H1)
theorem given_map {α : Type} (l : List α) (g : α → V) (d : V) : given l.length (fun _ => true) (fun i => (l[i]?.map g).getD d) = l.map g := by
  unfold given
  rw [List.filter_eq_self.mpr (fun _ _ => rfl)]
  apply List.ext_getElem?
  intro i
  rw [List.getElem?_map, List.getElem?_map]
  by_cases h : i < l.length
  · rw [List.getElem?_range h, List.getElem?_eq_getElem h]
    simp [h]
  · rw [List.getElem?_eq_none (by rw [List.length_range]; omega), List.getElem?_eq_none (by omega)]
    rfl
/-- [e for x in xs] where e of each item is known -/
theorem el_lcM {K : PySem.W.Frag} {σ : L2.St} {H : Hp} {te tl : TE} {α : Type} {a : Addr} {j : Nat} {vs : List Nat} (l : List α) (y g : α → V) (h : Ev tl σ H (.ref a)) (hx : SqL K H a (l.map y)) (hz : l.length ≤ 40000) (hw : ∀ x, wipe ((wipe σ vs).set j (some x)) vs = wipe σ vs)
    (he : ∀ (u : α) H1, Ex H H1 → u ∈ l → Ev te ((wipe σ vs).set j (some (y u))) H1 (g u)) : EvL (tLc (iList K tl) (gName j) tYes te vs) σ H (l.map g) := by
  have z := el_lcL (K := K) (te := te) (t := tYes) (j := j) (vs := vs) (fun _ => true) (fun i => (l[i]?.map g).getD .non) h hx (by rw [List.length_map]; exact hz) hw (fun _ _ _ _ _ => et_yes) (fun i x H1 e1 hi _ => by
    rw [List.getElem?_map] at hi
    cases q : l[i]? with
    | none => rw [q] at hi; cases hi
    | some u =>
      rw [q] at hi
      have e2 : y u = x := Option.some.inj hi
      rw [← e2]
      exact he u H1 e1 (List.mem_of_getElem? q))
  rw [List.length_map, given_map] at z
  exact z
/-- int(b), b a truth -/
theorem ev_intB {σ : L2.St} {H : Hp} {ta : TE} {b : Bool} (h : Ev ta σ H (.bl b)) : Ev (tCB (fun xs H Q => (∃ i, xs = [V.int i] ∧ Q (.int i) H) ∨ ∃ k, xs = [V.bl k] ∧ Q (.int (if k then 1 else 0)) H) (tCons ta tNil)) σ H (.int (if b then 1 else 0)) := fun H1 e Q q =>
  h H1 e _ fun H2 e2 => .inr ⟨b, rfl, q H2 e2⟩
theorem ev_intI {σ : L2.St} {H : Hp} {ta : TE} {i : Int} (h : Ev ta σ H (.int i)) : Ev (tCB (fun xs H Q => (∃ i, xs = [V.int i] ∧ Q (.int i) H) ∨ ∃ k, xs = [V.bl k] ∧ Q (.int (if k then 1 else 0)) H) (tCons ta tNil)) σ H (.int i) := fun H1 e Q q =>
  h H1 e _ fun H2 e2 => .inl ⟨i, rfl, q H2 e2⟩
end EV2

set_option Elab.async false
set_option linter.all false
set_option maxRecDepth 100000
set_option maxHeartbeats 4000000
/-! Lists of errors; equal lists of ints. -/
namespace EV2
open PySem PySem.Spec PyProof.Rows L2 Evl
abbrev ErrsAt (H : Hp) : List V → List Addr → Prop := Paired (ErrAt H)
theorem ErrsAt.ext {H H' : Hp} (e : Ex H H') : ∀ {xs : List V} {Ds : List Addr}, ErrsAt H xs Ds → ErrsAt H' xs Ds
  | _, _, .nil => .nil
  | _, _, .cons r t => .cons (ErrAt.ext e r) (ErrsAt.ext e t)
theorem errs_app {H : Hp} : ∀ {xs ys : List V} {Ds Es : List Addr}, ErrsAt H xs Ds → ErrsAt H ys Es → ErrsAt H (xs ++ ys) (Ds ++ Es)
  | _, _, _, _, .nil, t => t
  | _, _, _, _, .cons r s, t => .cons r (errs_app s t)
theorem errs_mem {H : Hp} : ∀ {xs : List V} {Ds : List Addr}, ErrsAt H xs Ds → ∀ x ∈ xs, ∃ D ∈ Ds, ErrAt H x D
  | _, _, .nil, x, h => by cases h
  | _, _, .cons (a := y) (b := D) r t, x, h => by
    rcases List.mem_cons.mp h with e | h
    · exact ⟨_, List.mem_cons_self .., by rw [e]; exact r⟩
    · obtain ⟨D', m, q⟩ := errs_mem t x h
      exact ⟨D', List.mem_cons_of_mem _ m, q⟩
theorem errs_at {H : Hp} : ∀ {xs : List V} {Ds : List Addr} {i : Nat} {D : Addr}, ErrsAt H xs Ds → Ds[i]? = some D → ∃ x, xs[i]? = some x ∧ ErrAt H x D
  | _, _, i, D, .nil, h => by simp at h
  | _, _, 0, D, .cons r t, h => by
    have e := Option.some.inj h
    subst e
    exact ⟨_, rfl, r⟩
  | _, _, i + 1, D, .cons r t, h => errs_at (i := i) t h
/-- a new error of the class D -/
def EvE (te : TE) (σ : L2.St) (H : Hp) (D : Addr) : Prop := ∀ H1, Ex H H1 → ∀ Q : VK, (∀ x H2, Ex H1 H2 → ErrAt H2 x D → Q x H2) → te σ H1 Q
def EvEs (ta : TA) (σ : L2.St) (H : Hp) (Ds : List Addr) : Prop := ∀ H1, Ex H H1 → ∀ Q : List V → Hp → Prop, (∀ xs H2, Ex H1 H2 → ErrsAt H2 xs Ds → Q xs H2) → ta σ H1 Q
section
variable {K : PySem.W.Frag} {σ : L2.St} {H : Hp} {te : TE} {ta tk tr : TA} {C D : Addr} {Ds Es : List Addr} {f g : Str} {u v : V} {xs : List V} {l : Addr} {i : Nat} {tz : TS} {En : Ends}
theorem ees_nil : EvEs tNil σ H [] := fun H1 _ _ q => q [] H1 (Ex.refl H1) .nil
theorem ees_cons (h : EvE te σ H D) (hr : EvEs tr σ H Ds) : EvEs (tCons te tr) σ H (D :: Ds) := fun H1 e Q q =>
  h H1 e _ fun x H2 e2 hx => hr H2 (e.trans e2) _ fun xs H3 e3 ht => q (x :: xs) H3 (e2.trans e3) (.cons (hx.ext e3) ht)
theorem ee_0 : EvE (tMk0 C) σ H C := fun H1 e Q q => fun a ha => q (.ref a) _ (Ex.new ha) ⟨a, none, rfl, upd_same, fun dd z => by cases z⟩
theorem ee_1 {gV : List V → List V → List V} (ha : EvA ta σ H [v]) (hg : ∀ a : V, gV [a, v] [] = [a, v]) : EvE (tMkV C 1 0 (spI1 C f) gV ta tNil) σ H C := fun H1 e Q q =>
  ha H1 e _ fun H2 e2 => ⟨rfl, rfl, by decide, by
    intro a ha
    rw [hg]
    exact rd_e1 (Q := Q) (fun a d H3 ha he hd s => q (.ref a) H3 (e2.trans s) ⟨a, some d, rfl, he, fun dd z => by cases z; exact ⟨_, hd⟩⟩) a ha⟩
theorem ee_2 {gV : List V → List V → List V} (ha : EvA ta σ H [v, u]) (hg : ∀ a : V, gV [a, v, u] [] = [a, v, u]) : EvE (tMkV C 2 0 (spI2 C f g) gV ta tNil) σ H C := fun H1 e Q q =>
  ha H1 e _ fun H2 e2 => ⟨rfl, rfl, by decide, by
    intro a ha
    rw [hg]
    exact rd_e2 (Q := Q) (fun a d H3 ha he hd s => q (.ref a) H3 (e2.trans s) ⟨a, some d, rfl, he, fun dd z => by cases z; exact ⟨_, hd⟩⟩) a ha⟩
/-- made = made + [ .. ] -/
theorem q_more (hi : σ[i]? = some (some (.ref l))) (hl : H l = some (.lst xs)) (hE : ErrsAt H xs Ds) (ha : EvEs ta σ H Es) (hz : xs.length + Es.length ≤ 100000)
    (k : ∀ l' H' ys, Ex H H' → H' l' = some (.lst ys) → ys.length = xs.length + Es.length → ErrsAt H' ys (Ds ++ Es) → tz En (σ.set i (some (.ref l'))) H') : tSeq (tAsg (tOp rCat (tVar i) (tLst ta)) (gName i)) tz En σ H := by
  refine ⟨_, hi, ha H (Ex.refl H) _ fun ys H2 e2 hY => ?_⟩
  have z := Paired.length hY
  refine ⟨sz_of (by omega), fun p hp => ?_⟩
  have e3 := e2.trans (Ex.new (o := .lst ys) hp)
  refine ⟨l, p, xs, ys, rfl, rfl, e3 _ _ hl, upd_same, sz_of (by omega), fun r hr => ?_⟩
  have e4 := e3.trans (Ex.new (o := .lst (xs ++ ys)) hr)
  exact k r _ (xs ++ ys) e4 upd_same (by rw [List.length_append, z]) (errs_app (hE.ext e4) (hY.ext ((Ex.new (o := .lst ys) hp).trans (Ex.new (o := .lst (xs ++ ys)) hr))))
end
theorem eqv_ints : ∀ (xs ys : List Int), PyData.eqvAll (xs.map PyData.int) (ys.map PyData.int) = decide (xs = ys)
  | [], [] => rfl
  | [], _ :: _ => rfl
  | _ :: _, [] => rfl
  | x :: xs, y :: ys => by
    show (PyData.eqv (.int x) (.int y) && PyData.eqvAll (xs.map PyData.int) (ys.map PyData.int)) = decide (x :: xs = y :: ys)
    rw [eqv_ints xs ys]
    show ((x == y) && decide (xs = ys)) = decide (x :: xs = y :: ys)
    by_cases h : x = y <;> by_cases h2 : xs = ys <;> simp [h, h2]
theorem rv_ints {K : PySem.W.Frag} {H : Hp} {p q : Addr} {xs ys : List Int} (hp : SqL K H p (xs.map V.int)) (hq : SqL K H q (ys.map V.int)) : RV (rEqD K) (.ref p) (.ref q) H (.bl (decide (xs = ys))) := fun H1 e Q k =>
  ⟨_, _, .lst (ex_l e hp) (Pen.dp_ints xs), .lst (ex_l e hq) (Pen.dp_ints ys), Pen.shaped_ints xs, Pen.shaped_ints ys, by
    show Q (.bl (PyData.eqvAll (xs.map PyData.int) (ys.map PyData.int))) H1
    rw [eqv_ints]
    exact k H1 (Ex.refl H1)⟩
/-- all(xs) of a new list of truths -/
theorem ev_all {K : PySem.W.Frag} {σ : L2.St} {H : Hp} {te : TE} {bs : List Bool} (h : EvL te σ H (bs.map V.bl)) : Ev (tCB (rAll K) (tCons te tNil)) σ H (.bl (bs.all id)) := fun H1 e Q q =>
  h H1 e _ fun p H2 _ e2 hp => ⟨p, bs, rfl, SqL.of hp, q H2 e2⟩
theorem all_true {α : Type} : ∀ (xs : List α), (xs.map fun _ => true).all id = true
  | [] => rfl
  | _ :: xs => by
    show (true && (xs.map fun _ => true).all id) = true
    rw [all_true xs]
    rfl
/-- len(x) -/
def rLenX (K : PySem.W.Frag) : List V → Hp → VK → Prop := fun xs H Q => ∃ x n, xs = [x] ∧ LenV K x H n ∧ Q (.int n) H
theorem ev_lenX {K : PySem.W.Frag} {σ : L2.St} {H : Hp} {ta : TE} {a : Addr} {xs : List V} (ha : Ev ta σ H (.ref a)) (h : SqL K H a xs) : Ev (tCB (rLenX K) (tCons ta tNil)) σ H (.int (xs.length : Int)) := fun H1 e Q q =>
  ha H1 e _ fun H2 e2 => ⟨_, xs.length, rfl, .inl ⟨xs, ex_l (e.trans e2) h, rfl⟩, q H2 e2⟩
theorem el_eq {te : TE} {σ : L2.St} {H : Hp} {xs ys : List V} (h : EvL te σ H xs) (e : xs = ys) : EvL te σ H ys := by
  rw [← e]
  exact h
end EV2

set_option Elab.async false
set_option linter.all false
set_option maxRecDepth 100000
set_option maxHeartbeats 4000000
/-! Raising own errors: without an __init__ and arguments, with keywords. -/
namespace EV2
open PySem PySem.Spec PyProof.Rows L2 Evl
/-- C(), made to be raised -/
theorem pmk_0 {X : Cx} {C : Addr} {bmB : List Value} {B newId initId : String} {x : Str} {p pos : Pos} (F : ExcBaseFacts B newId initId bmB) (q : PySem.W.excIn X.K C bmB newId = true) (gC : X.mg x = some (.ref C)) (kC : PySem.W.keepIn X.K (.ref C) = true) (r : Raises X (.ref C)) (hg : Gl X x)
    (hdb : (x == ("__debug__" : Str)) = false := by decide) : PMk X (.Call (.Name x p) [] [] pos) (fun _ H Q => Q (.ref C) none H) := by
  intro pins s σ H Q I h
  refine wpAny_Call_Name_kw (ld_glob I hg gC ?_ hdb)
  refine PySem.W.callWith_K0 I.kIn kC ?_
  show wpAny _ _ (call (.ref C) []) _ _ _
  obtain ⟨bm, N, nm, qn, bs, hdct, sn, sub, ab, col, dd, k0, k1, k2, k3, k5, mN, hC, hN, hni, T⟩ := exc_obj I.kIn q
  refine wpAny_call_exc_subT F T hC hN hni (fun h' e hm => ?_) (by show 0 ≤ sizeLine; rw [sizeLine_eq]; omega)
  exact mk_of I hm r h (I.hok.gone hm.new)
/-- C(e, .., k = v, ..), made to be raised -/
def tMkR (C : Addr) (n m : Nat) (sp : Sp) (gV : List V → List V → List V) (t tk : TA) : L2.St → Hp → XK → Prop := fun σ H Q => t σ H fun vs H1 => tk σ H1 fun zs H2 => vs.length = n ∧ zs.length = m ∧ n ≤ 1000 ∧
  ∀ a, H2 a = none → sp (gV (.ref a :: vs) zs) (upd H2 a (exo a C none))
    (fun v H3 => v = .non ∧ ∃ (d : Addr) (fs : List (Str × V)), H3 a = some (exo a C (some d)) ∧ H3 d = some (exd d fs) ∧ H2 d = none ∧ Q (.ref C) (some d) (upd (del H3 a) d (.xd fs))) fun _ _ _ => False
section
variable {X : Cx} {CX : CXT} {k n : Nat} {fI C : Addr} {fd : FuncData} {ps ks : List Str} {sp : Sp} {x : Str} {p pos : Pos} {e : Expr} {es : List Expr} {kws : List Keyword} {t tk : TA} {g : List Value → List Value → List Value} {gV : List V → List V → List V}
theorem run_mkR {pins : List (Addr × Obj)} {σ : L2.St} {H : Hp} {s : Shared} {Q : XK} {us ws : List Value} {vs zs : List V} (T : ErrC X.K C fI) (F : FnOk X.prog X.w X.K X.mg X.base CX k fI fd ps sp) (hr : Room (k + 1) X.A) (hb : KBn X.K fd ps (n + 1) ks g gV)
    (hx : Passes CX X fun _ _ _ => False) (I : Inv X pins σ H s) (r : Vals vs us) (rz : Vals zs ws) (l1 : vs.length = n) (l2 : zs.length = ks.length) (hn : n ≤ 1000)
    (h : ∀ a, H a = none → sp (gV (.ref a :: vs) zs) (upd H a (exo a C none))
      (fun v H3 => v = .non ∧ ∃ (d : Addr) (fs : List (Str × V)), H3 a = some (exo a C (some d)) ∧ H3 d = some (exd d fs) ∧ H d = none ∧ Q (.ref C) (some d) (upd (del H3 a) d (.xd fs))) fun _ _ _ => False) :
    wpAny (model X.prog X.w) X.A (call (.ref C) us (ks.zip ws)) (MkP X pins σ Q) X.xe s := by
  obtain ⟨nm, q, N, bs, bm, sn, sub, ab, col, dd, k0, k1, k2, k3, k5, hC, hbm⟩ := T.ox.cls
  obtain ⟨hp, gg, dr, tt, os⟩ := s
  have hsz : hp.objs.size ≤ hp.objs.size + 1 := Nat.le_succ _
  have nn : H (hp.objs.size + 1) = none := I.hok.fresh hsz
  have hq := h (hp.objs.size + 1) nn
  have kk : ∀ b o, hp.get? b = some o → ((hp.push (PySem.W.kdv_tup us)).push (PySem.HandSPX.excO C hp.objs.size)).get? b = some o := fun b o e => Heap.get?_push_of_some _ (Heap.get?_push_of_some _ e)
  have gt : ((hp.push (PySem.W.kdv_tup us)).push (PySem.HandSPX.excO C hp.objs.size)).get? (hp.objs.size + 1) = some (PySem.HandSPX.excO C hp.objs.size) := by heap_get
  have J : Inv X pins σ (upd H (hp.objs.size + 1) (exo (hp.objs.size + 1) C none)) ⟨(hp.push (PySem.W.kdv_tup us)).push (PySem.HandSPX.excO C hp.objs.size), gg, dr, tt, os⟩ :=
    I.laid (t' := tt) (a := hp.objs.size + 1) (o := exo (hp.objs.size + 1) C none) (h' := (hp.push (PySem.W.kdv_tup us)).push (PySem.HandSPX.excO C hp.objs.size)) kk hsz (exo_ok gt)
  have r1 : Vals (V.ref (hp.objs.size + 1) :: vs) (Value.ref (hp.objs.size + 1) :: us) := .cons rfl r
  have r2 := hb.rel r1 rz
  have n1 : (Value.ref (hp.objs.size + 1) :: us).length = n + 1 := by rw [List.length_cons, ← r.length, l1]
  have lu : us.length ≤ sizeLine := by
    rw [← r.length, l1, sizeLine_eq]
    omega
  refine wpAny_call (PySem.EV.call_kw PySem.F.excBase_ValueError (fun Y => PySem.HandSPX.refsVE_contains Y bm hbm) (I.kIn _ _ hC) (PySem.W.looks_findIn I.kIn T.ini) (fun me => PySem.W.bind_fn I.kIn me T.ty) lu
    (codeAny_mono (FnOk.run F _ X.stack _ _ ⟨Value.ref (hp.objs.size + 1) :: us, ks.zip ws⟩ (g (Value.ref (hp.objs.size + 1) :: us) ws) _ _ (fun _ _ _ => False) (hr.make C us (ks.zip ws)) (J.env0.make C us (ks.zip ws)) (hb.to _ (Value.ref (hp.objs.size + 1) :: us) ws J.kIn n1 (rz.length.symm.trans l2)) r2 hq) fun r s' hq' => ?_))
  cases r with
  | error e => exact hx pins σ _ _ e s' J hq'
  | ok fl =>
    cases fl with
    | ret u =>
      obtain ⟨v, H2, os2, bare2, un2, hok2, rv, ev, d, fs, ea, ed, hd1, q2⟩ := hq'
      subst ev
      obtain ⟨h2, g2, d2, t2, os'⟩ := s'
      exact ⟨rv, mk_end (raises_own T.ox.exC T.ox.tyC) I hsz kk un2 hok2 os2 bare2 ea ed hd1 q2⟩
    | next => exact False.elim hq'
    | brk => exact False.elim hq'
    | cont => exact False.elim hq'
theorem pmk_R (T : ErrC X.K C fI) (F : FnOk X.prog X.w X.K X.mg X.base CX k fI fd ps sp) (hr : Room (k + 1) X.A) (hg : Gl X x) (hm : X.mg x = some (.ref C)) (hb : KBn X.K fd ps (n + 1) [] g gV) (hx : Passes CX X fun _ _ _ => False) (ha : PA X (e :: es) t)
    (hdb : (x == ("__debug__" : Str)) = false := by decide) (he : starEach (e :: es) X.env = (false, eval e X.env) :: starEach es X.env := by rfl) (hpl : (backTo pos (starEach es X.env)).any (·.1) = false := by rfl) :
    PMk X (.Call (.Name x p) (e :: es) [] pos) (tMkR C n 0 sp gV t tNil) := by
  intro pins s σ H Q I h
  refine wpAny_Call_Name_kw (ld_glob I hg hm ?_ hdb)
  refine PySem.W.callWith_K (h₀ := X.base) I.ok.mod.kin T.ox.kC (thn (ha.run pos pins s σ H _ I h) fun us s1 ⟨vs, H1, I1, r, l1, _, hn, q⟩ => ⟨I1.kIn, ?_⟩) he hpl
  exact run_mkR (ks := []) (ws := []) (zs := []) T F hr hb hx I1 r .nil l1 rfl hn q
theorem pmk_RK0 (T : ErrC X.K C fI) (F : FnOk X.prog X.w X.K X.mg X.base CX k fI fd ps sp) (hr : Room (k + 1) X.A) (hg : Gl X x) (hm : X.mg x = some (.ref C)) (hb : KBn X.K fd ps 1 ks g gV) (hx : Passes CX X fun _ _ _ => False) (hkw : PK X kws tk)
    (hall : (backToKw pos (keywordEach kws X.env)).all (·.1.isSome) = true := by rfl) (hks : (backToKw pos (keywordEach kws X.env)).filterMap (·.1) = ks := by rfl) (hdb : (x == ("__debug__" : Str)) = false := by decide)
    (hpl : ((backTo pos (starEach [] X.env)).any (·.1) || (backToKw pos (keywordEach kws X.env)).any (·.1.isNone)) = false := by rfl) :
    PMk X (.Call (.Name x p) [] kws pos) (tMkR C 0 ks.length sp gV tNil tk) := by
  intro pins s σ H Q I h
  refine wpAny_Call_Name_kw (ld_glob I hg hm ?_ hdb)
  refine PySem.W.callWith_KW0 (h₀ := X.base) I.ok.mod.kin T.ox.kC hall ?_ hpl
  refine thn (hkw.run pos pins s σ H _ I h) fun ws s2 ⟨zs, H2, I2, rz, l1, l2, hn, q2⟩ => ⟨I2.kIn, ?_⟩
  rw [hks]
  exact run_mkR (us := []) (vs := []) T F hr hb hx I2 .nil rz rfl l2 hn q2
end
/-- what stands behind raise C(..) of an error with one field, with two: the error's own dict at d -/
theorem rr_e1 {H : Hp} {Q : XK} {E : XK} {C : Addr} {f : Str} {v : V} (k : ∀ d H', H d = none → Same H H' → H' d = some (.xd [(f, v)]) → Q (.ref C) (some d) H') :
    ∀ a, H a = none → spI1 C f [.ref a, v] (upd H a (exo a C none)) (fun z H3 => z = .non ∧ ∃ (d : Addr) (fs : List (Str × V)), H3 a = some (exo a C (some d)) ∧ H3 d = some (exd d fs) ∧ H d = none ∧ Q (.ref C) (some d) (upd (del H3 a) d (.xd fs))) E := fun a ha =>
  ⟨a, v, rfl, upd_same, fun d hd ne => ⟨rfl, d, _, upd_same, by rw [upd_ne ne, upd_same], by rw [upd_ne ne] at hd; exact hd, by
    have hd' : H d = none := by rw [upd_ne ne] at hd; exact hd
    refine k d _ hd' (fun b o e => ?_) upd_same
    have n1 : b ≠ a := ne_of_none e ha
    have n2 : b ≠ d := ne_of_none e hd'
    rw [upd_ne n2, del_ne n1, upd_ne n1, upd_ne n2, upd_ne n1]
    exact e⟩⟩
theorem rr_e2 {H : Hp} {Q : XK} {E : XK} {C : Addr} {f g : Str} {v u : V} (k : ∀ d H', H d = none → Same H H' → H' d = some (.xd [(g, u), (f, v)]) → Q (.ref C) (some d) H') :
    ∀ a, H a = none → spI2 C f g [.ref a, v, u] (upd H a (exo a C none)) (fun z H3 => z = .non ∧ ∃ (d : Addr) (fs : List (Str × V)), H3 a = some (exo a C (some d)) ∧ H3 d = some (exd d fs) ∧ H d = none ∧ Q (.ref C) (some d) (upd (del H3 a) d (.xd fs))) E := fun a ha =>
  ⟨a, v, u, rfl, upd_same, fun d hd ne => ⟨rfl, d, _, by rw [upd_ne (Ne.symm ne), upd_same], upd_same, by rw [upd_ne ne] at hd; exact hd, by
    have hd' : H d = none := by rw [upd_ne ne] at hd; exact hd
    refine k d _ hd' (fun b o e => ?_) upd_same
    have n1 : b ≠ a := ne_of_none e ha
    have n2 : b ≠ d := ne_of_none e hd'
    rw [upd_ne n2, del_ne n1, upd_ne n2, upd_ne n1, upd_ne n2, upd_ne n1]
    exact e⟩⟩
/-- except S, C right below S -/
theorem exm_below {K : PySem.W.Frag} {S C : Addr} (h : LineOf K S C) (bS : PySem.W.subIn K (.ref S) (.type "BaseException") = some true) (dS : PySem.W.hasDictIn K S = true) (tS : PySem.W.typeIn K (.ref S) = some (.type "type")) : PySem.W.exmOne K (.ref C) (.ref S) = some true :=
  PySem.W.exm_ref bS dS tS (by
    show PySem.W.mroIn K C (.ref S) = some true
    rw [h.mro]
    congr 1
    simp only [BM, List.contains_cons]
    rw [show (Value.ref S == Value.ref S) = true from by rw [ref_beq]; simp]
    simp)
end EV2

set_option Elab.async false
set_option linter.all false
set_option maxRecDepth 100000
set_option maxHeartbeats 4000000
/-! The drawn values of a law: plain ones, small tuples and lists, an empty dict; compared with themselves. -/
namespace EV2
open PySem PySem.Spec PyProof.Rows L2 Evl
/-- != of data or of dicts that hold the same -/
def rNeAny (K : PySem.W.Frag) : R2 := fun x y H Q => rNeD K x y H Q ∨ rNeDA x y H Q
theorem op_neAny {X : Cx} (hu : X.A.units + 64 < cLine) : OpR X (compareOp .NotEq) (rNeAny X.K) := by
  intro pins s σ H x y v u Q I rx ry h
  rcases h with h | h
  · exact op_neD hu pins s σ H x y v u Q I rx ry h
  · exact op_ne_dictA (by omega) pins s σ H x y v u Q I rx ry h
inductive Gd (H : Hp) : V → Prop
  | non : Gd H .non
  | bl (b : Bool) : Gd H (.bl b)
  | int (i : Int) : Gd H (.int i)
  | str (s : Str) : SeqAt.shaped (.str s) = true → Gd H (.str s)
  | two {a : Addr} (i j : Int) : H a = some (.tup [.int i, .int j]) → Gd H (.ref a)
  | one {a : Addr} (s : Str) : SeqAt.shaped (.list [.str s]) = true → H a = some (.lst [.str s]) → Gd H (.ref a)
  | emp {a : Addr} : H a = some (.dK []) → Gd H (.ref a)
  | deep {a b : Addr} (i j k : Int) : H a = some (.tup [.ref b, .int k]) → H b = some (.tup [.int i, .int j]) → Gd H (.ref a)
theorem Gd.ext {H H' : Hp} {v : V} (e : Ex H H') (g : Gd H v) : Gd H' v := by
  cases g with
  | non => exact .non
  | bl b => exact .bl b
  | int i => exact .int i
  | str s hs => exact .str s hs
  | two i j h => exact .two i j (e _ _ h)
  | one s hs h => exact .one s hs (e _ _ h)
  | emp h => exact .emp (e _ _ h)
  | deep i j k h h2 => exact .deep i j k (e _ _ h) (e _ _ h2)
theorem Gd.sib {p : Addr} {q : Key × V} {kv : List (Key × V)} {H H' : Hp} {v : V} (hp : H p = some (.dK (q :: kv))) (e : Pen.Sib p H H') (g : Gd H v) : Gd H' v := by
  cases g with
  | non => exact .non
  | bl b => exact .bl b
  | int i => exact .int i
  | str s hs => exact .str s hs
  | two i j h => exact .two i j (e _ _ (ne_of h hp (by intro z; cases z)) h)
  | one s hs h => exact .one s hs (e _ _ (ne_of h hp (by intro z; cases z)) h)
  | emp h => exact .emp (e _ _ (ne_of h hp (by intro z; cases z)) h)
  | deep i j k h h2 => exact .deep i j k (e _ _ (ne_of h hp (by intro z; cases z)) h) (e _ _ (ne_of h2 hp (by intro z; cases z)) h2)
section
variable {K : PySem.W.Frag} {H : Hp} {v : V}
theorem rv_data {d : PyData} (h : ∀ H1, Ex H H1 → Dp K H1 v d) (hs : SeqAt.shaped d = true) (he : PyData.eqv d d = true) : RV (rNeAny K) v v H (.bl false) := fun H1 e Q q =>
  .inl ⟨d, d, h H1 e, h H1 e, hs, hs, by
    rw [he]
    exact q H1 (Ex.refl H1)⟩
theorem rv_self (g : Gd H v) : RV (rNeAny K) v v H (.bl false) := by
  cases g with
  | non => exact rv_data (fun _ _ => .non) rfl rfl
  | bl b => exact rv_data (fun _ _ => .bl b) rfl (by cases b <;> rfl)
  | int i => exact rv_data (fun _ _ => .int i) rfl (by show (i == i) = true; simp)
  | str s hs => exact rv_data (fun _ _ => .str s) hs (by show (s == s) = true; simp)
  | two i j h => exact rv_data (fun H1 e => .tup (st_of (e _ _ h)) (.cons (.int i) (.cons (.int j) .nil))) rfl (by show ((i == i) && ((j == j) && true)) = true; simp)
  | one s hs h => exact rv_data (fun H1 e => .lst (sq_of (e _ _ h)) (.cons (.str s) .nil)) hs (by show ((s == s) && true) = true; simp)
  | emp h => exact fun H1 e Q q => .inr ⟨_, _, [], [], rfl, rfl, e _ _ h, e _ _ h, rfl, (fun p hp => by cases hp), q H1 (Ex.refl H1)⟩
  | deep i j k h h2 => exact rv_data (fun H1 e => .tup (st_of (e _ _ h)) (.cons (.tup (st_of (e _ _ h2)) (.cons (.int i) (.cons (.int j) .nil))) (.cons (.int k) .nil))) rfl (by show (((i == i) && ((j == j) && true)) && ((k == k) && true)) = true; simp)
theorem gd_ty (g : Gd H v) : ∃ n b, kitB n "bool" = some b ∧ ∀ H1, Ex H H1 → TyX K H1 v (.type n) := by
  cases g with
  | non => exact ⟨"NoneType", false, by decide +kernel, fun _ _ => .base .non⟩
  | bl b => exact ⟨"bool", true, by decide +kernel, fun _ _ => .base (.bl b)⟩
  | int i => exact ⟨"int", false, by decide +kernel, fun _ _ => .base (.int i)⟩
  | str s hs => exact ⟨"str", false, by decide +kernel, fun _ _ => .base (.str s)⟩
  | two i j h => exact ⟨"tuple", false, by decide +kernel, fun _ e => .base (.tup (e _ _ h))⟩
  | one s hs h => exact ⟨"list", false, by decide +kernel, fun _ e => .base (.lst (e _ _ h))⟩
  | emp h => exact ⟨"dict", false, by decide +kernel, fun _ e => .base (.dK (e _ _ h))⟩
  | deep i j k h h2 => exact ⟨"tuple", false, by decide +kernel, fun _ e => .base (.tup (e _ _ h))⟩
end
section
variable {K : PySem.W.Frag} {σ : L2.St} {H : Hp} {ta tb tc te : TE} {v : V} {tr ts : TA} {l : Addr} {xs : List V}
/-- isinstance(v, bool) twice, told apart -/
theorem et_isi (g : Gd H v) (ha : Ev ta σ H v) (hb : Ev tb σ H v) : EvT (tTest (tOp rNe (tCB (rIsi K) (tCons ta (tCons (tC (.ty "bool")) tNil))) (tCB (rIsi K) (tCons tb (tCons (tC (.ty "bool")) tNil))))) σ H false := by
  obtain ⟨n, b, hk, ty⟩ := gd_ty (K := K) g
  have one : ∀ {t : TE}, Ev t σ H v → Ev (tCB (rIsi K) (tCons t (tCons (tC (.ty "bool")) tNil))) σ H (.bl b) := fun h H1 e Q q =>
    h H1 e _ fun H2 e2 => ⟨v, .ty "bool", .type n, .type "bool", b, rfl, .ty "bool", ty H2 (e.trans e2), kit_ty hk, q H2 e2⟩
  have z := ev_op (one ha) (one hb) (rv_ne (x := .bl b) (y := .bl b) rfl)
  refine et_is (et_test z) ?_
  simp
/-- what is made is one of the drawn values -/
def EvG (te : TE) (σ : L2.St) (H : Hp) : Prop := ∀ H1, Ex H H1 → ∀ Q : VK, (∀ v H2, Ex H1 H2 → Gd H2 v → Q v H2) → te σ H1 Q
def EvGs (ta : TA) (σ : L2.St) (H : Hp) (n : Nat) : Prop := ∀ H1, Ex H H1 → ∀ Q : List V → Hp → Prop, (∀ vs H2, Ex H1 H2 → vs.length = n → (∀ v ∈ vs, Gd H2 v) → Q vs H2) → ta σ H1 Q
theorem eg_v (h : Ev te σ H v) (g : Gd H v) : EvG te σ H := fun H1 e Q q => h H1 e _ fun H2 e2 => q v H2 e2 (g.ext (e.trans e2))
theorem eg_c (g : ∀ H, Gd H v) : EvG (tC v) σ H := fun H1 e Q q => q v H1 (Ex.refl H1) (g H1)
theorem eg_two {i j : Int} (h : EvA tr σ H [.int i, .int j]) : EvG (tTup tr) σ H := fun H1 e Q q => h H1 e _ fun H2 e2 => ⟨by show 2 ≤ sizeLine; decide, fun p hp => q _ _ (e2.trans (Ex.new hp)) (.two i j upd_same)⟩
theorem eg_one {s : Str} (hs : SeqAt.shaped (.list [.str s]) = true) (h : EvA tr σ H [.str s]) : EvG (tLst tr) σ H := fun H1 e Q q => h H1 e _ fun H2 e2 => ⟨by show 1 ≤ sizeLine; decide, fun p hp => q _ _ (e2.trans (Ex.new hp)) (.one s hs upd_same)⟩
theorem eg_emp : EvG tDNewK σ H := fun H1 e Q q => fun p hp => q _ _ (Ex.new hp) (.emp upd_same)
theorem eg_deep {i j k : Int} (h : EvU ta σ H [.int i, .int j]) (hb : Ev tb σ H (.int k)) : EvG (tTup (tCons ta (tCons tb tNil))) σ H := fun H1 e Q q =>
  h H1 e _ fun p H2 _ e2 hp => hb H2 (e.trans e2) _ fun H3 e3 => ⟨by show 2 ≤ sizeLine; decide, fun r hr => q _ _ ((e2.trans e3).trans (Ex.new hr)) (.deep i j k upd_same (Ex.new hr _ _ (e3 _ _ hp)))⟩
theorem egs_nil : EvGs tNil σ H 0 := fun H1 _ Q q => q [] H1 (Ex.refl H1) rfl fun v hv => by cases hv
theorem egs_cons {n : Nat} (h : EvG te σ H) (hr : EvGs tr σ H n) : EvGs (tCons te tr) σ H (n + 1) := fun H1 e Q q =>
  h H1 e _ fun v H2 e2 g => hr H2 (e.trans e2) _ fun vs H3 e3 hl hg => q (v :: vs) H3 (e2.trans e3) (by rw [List.length_cons, hl]) fun u hu => by
    rcases List.mem_cons.mp hu with z | z
    · rw [z]
      exact g.ext e3
    · exact hg u z
theorem rd_gs {n : Nat} {Q : VK} (h : EvGs tr σ H n) (hz : n ≤ 100000) (q : ∀ l vs H2, H l = none → Ex H H2 → H2 l = some (.lst vs) → vs.length = n → (∀ v ∈ vs, Gd H2 v) → Q (.ref l) H2) : tLst tr σ H Q :=
  h H (Ex.refl H) _ fun vs H2 e2 hl hg => ⟨sz_of (by omega), fun p hp => q p vs _ (fresh_back e2 hp) (e2.trans (Ex.new hp)) upd_same hl fun v hv => (hg v hv).ext (Ex.new hp)⟩
theorem q_gs {n i : Nat} {tz : TS} {D : Ends} (h : EvGs tr σ H n) (hz : n ≤ 100000) (k : ∀ l vs H2, H l = none → Ex H H2 → H2 l = some (.lst vs) → vs.length = n → (∀ v ∈ vs, Gd H2 v) → tz D (σ.set i (some (.ref l))) H2) : tSeq (tAsg (tLst tr) (gName i)) tz D σ H :=
  rd_gs (Q := fun v H2 => tz D (σ.set i (some v)) H2) h hz k
theorem q_asgK {i : Nat} {tz : TS} {D : Ends} (h : te σ H fun v H1 => tz D (σ.set i (some v)) H1) : tSeq (tAsg te (gName i)) tz D σ H := h
def rMin2 : List V → Hp → VK → Prop := fun xs H Q => ∃ i j, xs = [.int i, .int j] ∧ Q (.int (if j < i then j else i)) H
theorem ev_min2 {i j : Int} (ha : Ev ta σ H (.int i)) (hb : Ev tb σ H (.int j)) : Ev (tCB rMin2 (tCons ta (tCons tb tNil))) σ H (.int (if j < i then j else i)) := fun H1 e Q q =>
  ha H1 e _ fun H2 e2 => hb H2 (e.trans e2) _ fun H3 e3 => ⟨i, j, rfl, q H3 (e2.trans e3)⟩
end
end EV2

set_option Elab.async false
set_option linter.all false
set_option maxRecDepth 100000
set_option maxHeartbeats 4000000
/-! Texts of ascii signs: upper, lower, letters, lists of them. -/
namespace TX
open PySem PySem.Spec PyProof.Rows L2 Evl
abbrev S (l : List Nat) : Str := ⟨l.toArray⟩
theorem len_S (l : List Nat) : (S l).length = l.length := by
  show l.toArray.size = l.length
  simp
theorem app_S (a b : List Nat) : S a ++ S b = S (a ++ b) := by
  show (⟨a.toArray ++ b.toArray⟩ : Str) = ⟨(a ++ b).toArray⟩
  simp
theorem S_inj {a b : List Nat} (h : S a = S b) : a = b := by
  have h2 : a.toArray = b.toArray := congrArg Str.cps h
  have h3 := congrArg Array.toList h2
  simpa using h3
def up (c : Nat) : Nat := if 97 ≤ c ∧ c ≤ 122 then c - 32 else c
def low (c : Nat) : Nat := if 65 ≤ c ∧ c ≤ 90 then c + 32 else c
def let1 (c : Nat) : Bool := decide (65 ≤ up c ∧ up c ≤ 90)
def A26 : Str := "ABCDEFGHIJKLMNOPQRSTUVWXYZ"
theorem up_of : ∀ c, c < 128 → Unicode.upperOf c = [up c] := by decide +kernel
theorem low_of : ∀ c, c < 128 → Txt.lower (S [c]) = S [low c] := by decide +kernel
theorem alpha_of : ∀ c, c < 128 → Unicode.isAlpha c = let1 c := by decide +kernel
theorem in_of : ∀ c, c < 128 → decide (c ∈ A26.cps.toList) = decide (65 ≤ c ∧ c ≤ 90) := by decide +kernel
theorem ix_of : ∀ c, c < 128 → 65 ≤ c → c ≤ 90 → Txt.index0 A26 (S [c]) = some (c - 65) := by decide +kernel
theorem at_of : ∀ c : Nat, c < 26 → atI A26.cps.toList (c : Int) = (some (65 + c) : Option Nat) := by decide +kernel
theorem up_lt {c : Nat} (h : c < 128) : up c < 128 := by
  unfold up
  split <;> omega
theorem up_S {l : List Nat} (h : ∀ c ∈ l, c < 128) : Txt.upper (S l) = S (l.map up) := by
  have e : ∀ l : List Nat, (placed (S l) fun _ c => Unicode.upperOf c) = (l.flatMap Unicode.upperOf).toArray := fun l => by
    have m : (l.toArray.mapIdx fun (_ : Nat) c => (Unicode.upperOf c).toArray) = (l.map fun c => (Unicode.upperOf c).toArray).toArray := by
      apply Array.ext_getElem?
      intro i
      simp
    show (l.toArray.mapIdx fun (_ : Nat) c => (Unicode.upperOf c).toArray).flatten = _
    rw [m]
    apply Array.toList_inj.mp
    rw [Array.toList_flatten]
    simp only [List.map_map, List.flatMap, List.map_toArray]
    congr 1
  have e2 : l.flatMap Unicode.upperOf = l.map up := by
    induction l with
    | nil => rfl
    | cons x l ih =>
      rw [List.flatMap_cons, up_of x (h x (List.mem_cons_self ..)), ih fun c hc => h c (List.mem_cons_of_mem _ hc)]
      rfl
  show (⟨placed (S l) fun _ c => Unicode.upperOf c⟩ : Str) = _
  rw [e, e2]
theorem alpha_S {l : List Nat} (h : ∀ c ∈ l, c < 128) : Txt.isalpha (S l) = (decide (0 < l.length) && l.all let1) := by
  unfold Txt.isalpha
  rw [len_S]
  congr 1
  show l.toArray.all Unicode.isAlpha = _
  rw [List.all_toArray]
  induction l with
  | nil => rfl
  | cons x l ih =>
    rw [List.all_cons, List.all_cons, alpha_of x (h x (List.mem_cons_self ..)), ih fun c hc => h c (List.mem_cons_of_mem _ hc)]
theorem ascii_S {l : List Nat} (h : ∀ c ∈ l, c < 128) : Txt.isascii (S l) = true := by
  show l.toArray.all (fun c => c < 128) = true
  rw [List.all_toArray]
  exact List.all_eq_true.mpr fun c hc => decide_eq_true (h c hc)

/-! ### lists of signs, walks over texts -/
abbrev sg (c : Nat) : V := .str (S [c])
def rLstS : List V → Hp → VK → Prop := fun xs H Q => ∃ z : Str, xs = [.str z] ∧ z.length ≤ sizeLine ∧ ∀ l, H l = none → Q (.ref l) (upd H l (.lst (z.cps.toList.map sg)))
theorem call_listS {X : Cx} (hc : X.calm = true) : CallR X (.type "list") rLstS := by
  intro pins s σ H xs us Q I r h
  obtain ⟨z, rfl, hz, q⟩ := h
  obtain ⟨u, rfl, t, rfl⟩ := vals1 r
  refine call_list_str (I.ok.hd hc) z t (fun h' tk acc c' hk e hi => ?_) hz
  refine ⟨.ref s.heap.objs.size, upd H s.heap.objs.size (.lst (z.cps.toList.map sg)), I.laid hk (Nat.le_refl _) ⟨by rw [List.length_map]; exact hz, acc.toList, c', ?_, by rw [Array.toArray_toList]; exact e⟩, rfl, q _ (I.hok.fresh (Nat.le_refl _))⟩
  refine vals_of_idx _ _ (by rw [List.length_map, Array.length_toList, Array.length_toList]; exact hi.1) fun j u hj => ?_
  obtain ⟨c, t', hc, rfl⟩ := hi.2 j u (by rw [← Array.getElem?_toList]; exact hj)
  refine ⟨sg c, ?_, ⟨_, rfl⟩⟩
  rw [List.getElem?_map, Array.getElem?_toList, hc]
  rfl
section
variable {K : PySem.W.Frag} {σ : L2.St} {H : Hp} {te ta tb : TE} {g : TG} {tu tz : TS} {D : Ends} {l m : List Nat} {a b : Str}
theorem el_listS (h : Ev te σ H (.str (S l))) (hl : l.length ≤ 100000) : EvL (tCB rLstS (tCons te tNil)) σ H (l.map sg) := fun H1 e Q q =>
  h H1 e _ fun H2 e2 => ⟨S l, rfl, by rw [len_S]; exact sz_of hl, fun p hp => q p _ (fresh_back e2 hp) (e2.trans (Ex.new hp)) upd_same⟩
/-- for c in text -/
theorem q_forS (h : Ev te σ H (.str (S l))) (Pv : Nat → L2.St → Hp → Prop) (h0 : ∀ H1, Ex H H1 → Pv 0 σ H1)
    (hs : ∀ i c σ' H', l[i]? = some c → Pv i σ' H' → g (sg c) σ' H' fun σ2 H2 => tu { D with nx := Pv (i + 1), ct := Pv (i + 1), bk := tz D } σ2 H2) (hd : ∀ σ' H', Pv l.length σ' H' → tz D σ' H') : tSeq (tFor (iStr te) g tu) tz D σ H :=
  h H (Ex.refl H) _ fun H1 e1 => ⟨S l, rfl, fun i m σ' H' => m = l.length - i ∧ i ≤ l.length ∧ Pv i σ' H', ⟨l.length, by simp, Nat.zero_le _, h0 H1 e1⟩, by
    rintro i m σ' H' ⟨rfl, hi, p⟩
    have sz : (S l).cps.size = l.length := len_S l
    by_cases hlt : i < l.length
    · refine .inr ⟨by show i < (S l).cps.size; rw [sz]; exact hlt, Pv (i + 1), fun σ' H' p' => ⟨l.length - (i + 1), by omega, rfl, hlt, p'⟩, fun x H'' y => ?_⟩
      obtain ⟨e, c, hc, ex⟩ := y
      subst e
      subst ex
      refine hs i c _ _ ?_ p
      have hc' : l.toArray[i]? = some c := hc
      simpa using hc'
    · have e : i = l.length := by omega
      subst e
      exact .inl ⟨by show (S l).cps.size ≤ _; rw [sz]; exact Nat.le_refl _, hd _ _ p⟩⟩
/-- texts put together, upper and lower, letters -/
theorem rv_addS (hz : a.length + b.length ≤ 100000) : RV (fun x y H Q => ∃ i j : Str, x = .str i ∧ y = .str j ∧ i.length + j.length ≤ sizeLine ∧ Q (.str (i ++ j)) H) (.str a) (.str b) H (.str (a ++ b)) := fun H1 _ _ q => ⟨a, b, rfl, rfl, sz_of hz, q H1 (Ex.refl H1)⟩
theorem ev_addS (ha : Ev ta σ H (.str (S l))) (hb : Ev tb σ H (.str (S m))) (hz : l.length + m.length ≤ 100000) : Ev (tOp (fun x y H Q => ∃ i j : Str, x = .str i ∧ y = .str j ∧ i.length + j.length ≤ sizeLine ∧ Q (.str (i ++ j)) H) ta tb) σ H (.str (S (l ++ m))) := by
  have z := ev_op ha hb (rv_addS (H := H) (a := S l) (b := S m) (by rw [len_S, len_S]; exact hz))
  rw [app_S] at z
  exact z
end
end TX

set_option Elab.async false
set_option linter.all false
set_option maxRecDepth 100000
set_option maxHeartbeats 4000000
/-! try with several clauses that bind one name. -/
namespace TX
open PySem PySem.Spec PyProof.Rows L2 Evl
/-- an exception of the body on its way through the clauses: sI is the state ahead of it, s the one now -/
structure Air (X : Cx) (pins : List (Addr × Obj)) (σ : L2.St) (H : Hp) (a : Addr) (cls : Value) (d : Option Addr) (B : Heap) (sI s : Shared) : Prop where
  st : X.stack = X.env :: X.outer
  fr : X.env.frame = some X.env.locals
  J : Inv X pins σ H sI
  nb : ∀ b o, sI.heap.get? b = some o → b ∉ frs X.stack → B.get? b = some o
  up : sI.heap.UpToSlots s.heap
  fl : HandSPX.FlyingZ B (X.env :: X.outer) a (Zc cls d) s.heap
  na : H a = none
  os : s.os = sI.os
  ag : AllBare s.gens
section
variable {X : Cx} {pins : List (Addr × Obj)} {σ : L2.St} {H : Hp} {a : Addr} {cls : Value} {d : Option Addr} {B : Heap} {sI s : Shared} {Wout : WX}
theorem Air.to (x : Air X pins σ H a cls d B sI s) {h : Heap} (fl : HandSPX.FlyingZ B (X.env :: X.outer) a (Zc cls d) h) (u : s.heap.UpToSlots h) : Air X pins σ H a cls d B sI { s with heap := h } :=
  ⟨x.st, x.fr, x.J, x.nb, x.up.trans u, fl, x.na, x.os, x.ag⟩
theorem Air.inv (x : Air X pins σ H a cls d B sI s) : Inv X pins σ H s := x.J.landed x.nb x.fl.1 x.up x.os x.ag
/-- no frame is the exception -/
theorem Air.apart (x : Air X pins σ H a cls d B sI s) {o : Obj} {vs : Array Value} (e : s.heap.get? a = some o) (q : o.data = .fields vs) : a ∉ frs (X.env :: X.outer) := fun m => by
  obtain ⟨_, o2, e2, no⟩ := x.fl.2.2.1.mem m
  rw [e2] at e
  cases e
  exact no _ q
theorem Air.into (x : Air X pins σ H a cls d B sI s) : ∃ oe : Obj, s.heap.get? a = some oe ∧ Zc cls d oe ∧ (∃ vs, oe.data = .fields vs) ∧ Inv (X.suite a ((a, oe) :: (X.pn ++ pins))) [] σ H s := by
  obtain ⟨oe, vs, e, z, q⟩ := x.fl.there
  have ap := x.apart e q
  refine ⟨oe, e, z, ⟨vs, q⟩, x.inv.suite e q x.na (fun w => ap ?_) fun w => ap ?_⟩
  · exact List.mem_filterMap.mpr ⟨X.env, List.mem_cons_self, by rw [x.fr, w]⟩
  · obtain ⟨en, m, r⟩ := List.mem_filterMap.mp w
    exact List.mem_filterMap.mpr ⟨en, List.mem_cons_of_mem _ m, r⟩
/-- no clause takes it -/
theorem Air.on (x : Air X pins σ H a cls d B sI s) (tk : Takes X Wout) {D : Ends} (w : Wout cls d σ H) : wpAny (model X.prog X.w) X.A (handleBy (.ref a) X.env []) (SP X pins D) X.xe s := by
  have away : wpAny (model X.prog X.w) X.A (setFlight (.ref a) X.env.frame) (fun _ s4 => wpAny (model X.prog X.w) X.A (throw (.ref a) : Sem Flow) (SP X pins D) X.xe s4) X.xe s := by
    rw [x.fr]
    exact HandSPX.setFlight_upZ x.fl fun h2 hd2 u2 => wpAny_throw (tk _ _ ⟨a, B, sI, pins, σ, H, cls, d, rfl, x.J, x.nb, x.up.trans u2, .inr (.inr (by rw [x.st]; exact hd2)), x.na, x.os, x.ag, w⟩)
  refine wpAny_handleBy_nil ?_
  obtain ⟨_, _, _, oe, vs, T, oT, tt, e, z, q, v1, r⟩ := x.fl
  unfold PySem.passOn
  refine wpAny_bind (wpAny_field e q v1 ?_)
  rw [if_neg (fun g => by simp at g)]
  first
    | exact wpAny_bind (wpAny_pure (wpAny_bind away))
    | exact wpAny_bind away
end
/-- the ends, slot i forgotten -/
abbrev offE (i : Nat) (D : Ends) : Ends := { nx := fun σ' H' => D.nx (σ'.set i none) H', rt := D.rt, bk := fun σ' H' => D.bk (σ'.set i none) H', ct := fun σ' H' => D.ct (σ'.set i none) H' }
abbrev Clause := Value × (Addr → Value → Option Addr → TS)
/-- what the clauses wish -/
def wAsM (K : PySem.W.Frag) (i : Nat) (Wout : WX) (D : Ends) : List Clause → WX
  | [] => Wout
  | (c, ts) :: r => fun cls d σ H => ∃ b, PySem.W.exmOne K cls c = some b ∧ (b = true → ∀ a, H a = none → ts a cls d (offE i D) (σ.set i (some (.ref a))) H) ∧ (b = false → wAsM K i Wout D r cls d σ H)
inductive HdAs (X : Cx) (n : Str) : List ExceptHandler → List Clause → Prop
  | nil : HdAs X n [] []
  | cons {x : Str} {c : Value} {ts : Addr → Value → Option Addr → TS} {b0 : Stmt} {suite : List Stmt} {np hp : Pos} {hds : List ExceptHandler} {l : List Clause} (hc : Names X x c)
      (hsu : ∀ (a : Addr) (oe : Obj) (cls : Value) (d : Option Addr) (pn : List (Addr × Obj)), Zc cls d oe → (∃ vs, oe.data = .fields vs) → PSs (X.suite a ((a, oe) :: pn)) (b0 :: suite) (ts a cls d)) (r : HdAs X n hds l) :
      HdAs X n (.ExceptHandler (some (.Name x np)) (some n) (b0 :: suite) hp :: hds) ((c, ts) :: l)
section
variable {X : Cx} {pins : List (Addr × Obj)} {σ : L2.St} {H : Hp} {a : Addr} {cls : Value} {d : Option Addr} {B : Heap} {sI s : Shared} {Wout : WX} {i : Nat} {n : Str}
/-- the clauses, one by one -/
theorem Air.clauses (hN : X.N.Nodup) (hi : X.N[i]? = some n) (hln : X.env.kindOf n = some .local) (tk : Takes X Wout) {D : Ends} : ∀ {hds : List ExceptHandler} {l : List Clause}, HdAs X n hds l → ∀ {s : Shared}, Air X pins σ H a cls d B sI s →
    wAsM X.K i Wout D l cls d σ H → wpAny (model X.prog X.w) X.A (handleBy (.ref a) X.env hds) (SP X pins D) X.xe s := by
  intro hds l hk
  induction hk with
  | nil => exact fun x w => x.on tk w
  | @cons x c ts b0 suite np hp hds l hc hsu r ih =>
    intro s A w
    obtain ⟨b, e1, yes, no⟩ := w
    obtain ⟨oe, eo, z, hf, S⟩ := A.into
    refine wpAny_handleBy_cons (codeAny_handlers_test ?_) (by intro q; cases q)
    have named : ∀ {Q : Value → Shared → Prop} {E : Value → Shared → Prop}, Q c s → wpAny (model X.prog X.w) (X.A.mark (some (.ref a))) (eval (.Name x np) X.env) Q E s := fun {Q E} q => by
      rcases hc with ⟨g, db, m | ⟨m, v, nn⟩⟩
      · exact ld_glob (X := X.suite a ((a, oe) :: (X.pn ++ pins))) S g m q db
      · exact ld_blt (X := X.suite a ((a, oe) :: (X.pn ++ pins))) S g m v q nn db
    have looks : PySem.W.Looks (model X.prog X.w) s.heap (typeOf (.ref a)) cls := fun A Q E s2 k q => wpAny_typeOf_ref (k _ _ eo) (by rw [z.1]; exact q)
    refine named ((PySem.W.exm_one (M := model X.prog X.w) A.inv.kIn looks e1).here ?_)
    cases b with
    | false =>
      show wpAny _ X.A (handleBy (.ref a) X.env hds) _ _ _
      exact ih A (no rfl)
    | true =>
      refine codeAny_handlers_suite_as (HandSPX.lands_againZ A.fl fun h2 fl2 u2 => ?_)
      have A2 := A.to fl2 u2
      obtain ⟨oe2, _, z2, hf2, S2⟩ := A2.into
      refine store_ok (X := X.suite a ((a, oe2) :: (X.pn ++ pins))) (v := .ref a) S2 hN hi (.inl hln) rfl (fun s3 S3 => ?_) (.inr hln)
      have leave : ∀ {σ4 : L2.St} {H4 : Hp} {s4 : Shared} {Q : Shared → Prop}, Inv (X.suite a ((a, oe2) :: (X.pn ++ pins))) [] σ4 H4 s4 → (∀ s5, Inv X pins (σ4.set i none) H4 s5 → Q s5) →
          wpAny (model X.prog X.w) X.A (do bindName X.env n .none; unbindBehindTheSuite X.env n hp) (fun _ s5 => Q s5) X.xe s4 := fun S4 q => gone_ok (S4.unsuite A.J.ok) hN hi hln q
      refine wpAny_mono ((hsu a oe2 cls d _ z2 hf2).run [] s3 _ H _ S3 (yes rfl a A.na)) (fun f s4 o => ?_) fun _ _ q => q.elim
      cases f with
      | ret u =>
        obtain ⟨v, σ4, H4, S4, rv, q⟩ := o
        exact leave S4 fun s5 J5 => ⟨_, _, _, J5, rv, q⟩
      | next => obtain ⟨σ4, H4, S4, q⟩ := o; exact leave S4 fun s5 J5 => ⟨_, _, J5, q⟩
      | brk => obtain ⟨σ4, H4, S4, q⟩ := o; exact leave S4 fun s5 J5 => ⟨_, _, J5, q⟩
      | cont => obtain ⟨σ4, H4, S4, q⟩ := o; exact leave S4 fun s5 J5 => ⟨_, _, J5, q⟩
variable {body : List Stmt} {h0 : ExceptHandler} {hds : List ExceptHandler} {l : List Clause} {pos : Pos} {tb : WX → TS}
theorem ps_try_asM (st : X.stack = X.env :: X.outer) (fr : X.env.frame = some X.env.locals) (hN : X.N.Nodup) (hi : X.N[i]? = some n) (hln : X.env.kindOf n = some .local) (tk : Takes X Wout)
    (hb : ∀ (W : WX) (pn : List (Addr × Obj)) (xe : Value → Shared → Prop), Takes (X.tr pn xe) W → PassesOwn (model X.prog X.w) X.A X.env xe → PSs (X.tr pn xe) body (tb W))
    (hh : HdAs X n (h0 :: hds) l) : PS X (.Try body (h0 :: hds) [] [] pos) (fun D σ H => tb (wAsM X.K i Wout D l) D σ H) := by
  refine ⟨fun pins s σ H D I h => ?_⟩
  have ok := I.ok
  refine wpAny_Try_except ?_
  have inner := hb (wAsM X.K i Wout D l) (X.pn ++ pins) (fun u s1 => wpAny (model X.prog X.w) X.A (noteFrame u X.env) (fun _ s2 => wpAny (model X.prog X.w) X.A (setFlight u none) (fun _ s3 => wpAny (model X.prog X.w) X.A (handleBy u X.env (h0 :: hds)) (SP X pins D) X.xe s3) X.xe s2) X.xe s1)
    (fun u s1 x => by
      obtain ⟨a, B, sI, p2, σ1, H1, cls, d, rfl, J, nb, up, sky, na, os, ag, w⟩ := x
      have sky2 : Sky B (X.env :: X.outer) a (Zc cls d) X.env.locals s1.heap := by rw [← st]; exact sky
      exact Sky.land Zc.steady (by rw [ok.frames, st]) fr sky2 fun h2 fl u2 => Air.clauses hN hi hln tk hh ⟨st, fr, J.ofTry ok, nb, up.trans u2, fl, na, os, ag⟩ w) PassesOwn.looking
  refine wpAny_mono (inner.run [] s σ H D (I.toTry _) h) (fun f s1 o => ?_) fun _ _ q => q
  cases f with
  | next => obtain ⟨σ1, H1, J, q⟩ := o; exact wpAny_execs_nil ⟨σ1, H1, J.ofTry ok, q⟩
  | ret u =>
    obtain ⟨v, σ1, H1, J, rv, q⟩ := o
    exact ⟨v, σ1, H1, J.ofTry ok, rv, q⟩
  | brk => obtain ⟨σ1, H1, J, q⟩ := o; exact ⟨σ1, H1, J.ofTry ok, q⟩
  | cont => obtain ⟨σ1, H1, J, q⟩ := o; exact ⟨σ1, H1, J.ofTry ok, q⟩
end
end TX

set_option Elab.async false
set_option linter.all false
set_option maxRecDepth 100000
set_option maxHeartbeats 4000000
/-! Lambdas handed on: tables kept; a def whose code object is known; siblings caught; what is known of a value's type. -/
namespace TX
open PySem PySem.Spec PyProof.Rows L2 Evl EV2 LamX
/-- except C, e of the class D: both right below S -/
theorem exm_sib {K : PySem.W.Frag} {S C D : Addr} (hD : LineOf K S D) (hC : LineOf K S C) (n : C ≠ S) : PySem.W.exmOne K (.ref D) (.ref C) = some (decide (C = D)) :=
  PySem.W.exm_ref hC.base hC.dict hC.ty (by
    show PySem.W.mroIn K D (.ref C) = some (decide (C = D))
    rw [hD.mro]
    congr 1
    by_cases e : C = D
    · subst e
      simp [List.contains_cons, ref_beq]
    · have n1 : (Value.ref C == Value.ref D) = false := by rw [ref_beq]; exact decide_eq_false e
      have n2 : (Value.ref C == Value.ref S) = false := by rw [ref_beq]; exact decide_eq_false n
      have n3 : ∀ x : String, (Value.ref C == Value.type x) = false := fun x => beq_eq_false_iff_ne.mpr fun q => by cases q
      rw [decide_eq_false e]
      simp only [BM, List.contains_cons, n1, n2, n3, List.contains_nil, Bool.or_false])
/-- tables when a pen is written -/
theorem tabS_sib {p P : Addr} {q : Str} {kv : List (Key × V)} {H H' : Hp} (hp : H p = some (.dK kv)) (e : Pen.Sib p H H') (t : TabS H P q) : TabS H' P q := by
  obtain ⟨ps, h1, h2, h3⟩ := t
  refine ⟨ps, e _ _ (ne_of h1 hp (by intro z; cases z)) h1, h2, fun pos cv hc => ?_⟩
  obtain ⟨c, e1, e2⟩ := h3 pos cv hc
  exact ⟨c, e1, e _ _ (ne_of e2 hp (by intro z; unfold CodeO at z; cases z)) e2⟩
theorem tabs_sib {p : Addr} {T : List (Addr × Str)} {kv : List (Key × V)} {H H' : Hp} (hp : H p = some (.dK kv)) (e : Pen.Sib p H H') (t : Tabs T H) : Tabs T H' := fun x hx => tabS_sib hp e (t x hx)
theorem extN_lst {H H' : Hp} {a : Addr} {xs : List V} (e : ExtN H H') (h : H a = some (.lst xs)) : H' a = some (.lst xs) := e _ _ h (fun ps z => by cases z)
theorem extN_dK {H H' : Hp} {a : Addr} {kv : List (Key × V)} (e : ExtN H H') (h : H a = some (.dK kv)) : H' a = some (.dK kv) := e _ _ h (fun ps z => by cases z)
theorem pen_extN {k1 k2 k3 : Str} {H H' : Hp} {p c : Addr} {cs : List Int} {i r : Int} (P : Pen.At k1 k2 k3 H p c cs i r) (e : ExtN H H') : Pen.At k1 k2 k3 H' p c cs i r := ⟨extN_dK e P.hp, extN_lst e P.hc, P.hl, P.h0, P.h1⟩
/-- a def whose code object stands at c -/
structure FunC (K : PySem.W.Frag) (x qual : Str) (st : Stmt) (f c : Addr) (fd : FuncData) : Prop where
  ex : ∃ (oc : Value) (od : Option Addr) (kV doc pm : Value) (an : Option Addr) (ct : Value) (osl : Array (Option Value)),
    fd = PySem.W.fnOf x qual (defArgs st) (defBody st) (defScope st) .none kV doc pm an (.ref c) ct ∧ K.lookup f = some ⟨oc, od, .func fd, osl⟩ ∧ PySem.W.codeIn K (.ref c) qual = true
  kp : PySem.W.keepIn K (.ref f) = true
section
variable {P : Program} {w : World} {K : PySem.W.Frag} {mg : Str → Option Value} {base : Heap} {x qual : Str} {st : Stmt} {f c : Addr} {fd : FuncData}
theorem FunC.toFun (F : FunC K x qual st f c fd) : Fun K x qual st f fd := by
  obtain ⟨oc, od, kV, doc, pm, an, ct, osl, e, l, q⟩ := F.ex
  exact ⟨⟨oc, od, kV, doc, pm, an, .ref c, ct, osl, e, l, q⟩, F.kp⟩
theorem FunC.ok {N ps : List Str} {k : Nat} {sp : Sp} (F : FunC K x qual st f c fd) (Sc : FnScope N ps (defScope st)) (len : ∀ vs H Q E, sp vs H Q E → vs.length = ps.length)
    (hb : ∀ (A : Around) (outer : List Env) (s : Shared) (H : Hp) (vs : List V) (Q : VK) (E : XK), Room k (A.deeper (envOfC qual (defScope st) s.heap.objs.size f (.ref c))) → sp vs H Q E →
      ∃ t, PSs (cxOf CX0 P w K mg base N qual (defScope st) f (.ref c) A outer s H E).nox (defBody st) t ∧ t { nx := fun _ H' => Q .non H', rt := Q } (start N vs) H) : FnOk P w K mg base CX0 (k + 1) f fd ps sp := by
  obtain ⟨oc, od, kV, doc, pm, an, ct, osl, rfl, l, q⟩ := F.ex
  refine fn_of l q Sc len fun A outer s H vs Q E hr hs => ?_
  obtain ⟨t, a, b⟩ := hb A outer s H vs Q E hr hs
  exact ⟨t, a.nox, b⟩
end
/-! ### kinds of values -/
def Knd (K : PySem.W.Frag) (H : Hp) (v : V) (n : String) : Prop := ∀ H1, Ex H H1 → TyX K H1 v (.type n)
section
variable {K : PySem.W.Frag} {σ : L2.St} {H : Hp} {ta tb : TE} {v : V} {n m : String} {b : Bool}
theorem Knd.ext {H' : Hp} (h : Knd K H v n) (e : Ex H H') : Knd K H' v n := fun H1 e1 => h H1 (e.trans e1)
theorem knd_int {i : Int} : Knd K H (.int i) "int" := fun _ _ => .base (.int i)
theorem knd_bl {b : Bool} : Knd K H (.bl b) "bool" := fun _ _ => .base (.bl b)
theorem knd_non : Knd K H .non "NoneType" := fun _ _ => .base .non
theorem knd_str {s : Str} : Knd K H (.str s) "str" := fun _ _ => .base (.str s)
theorem knd_lst {a : Addr} {xs : List V} (h : H a = some (.lst xs)) : Knd K H (.ref a) "list" := fun _ e => .base (.lst (e _ _ h))
theorem knd_tup {a : Addr} {xs : List V} (h : H a = some (.tup xs)) : Knd K H (.ref a) "tuple" := fun _ e => .base (.tup (e _ _ h))
theorem ev_isi (h : Knd K H v n) (hk : kitB n m = some b) (ha : Ev ta σ H v) : Ev (tCB (rIsi K) (tCons ta (tCons (tC (.ty m)) tNil))) σ H (.bl b) := fun H1 e Q q =>
  ha H1 e _ fun H2 e2 => ⟨v, .ty m, .type n, .type m, b, rfl, .ty m, h H2 (e.trans e2), kit_ty hk, q H2 e2⟩
end
end TX

set_option Elab.async false
set_option linter.all false
set_option maxRecDepth 100000
set_option maxHeartbeats 4000000
/-! Letters of columns: the numbers behind them. -/
namespace TX
open PySem PySem.Spec PyProof.Rows L2 Evl
def letsF : Nat → Nat → List Nat
  | 0, _ => []
  | _ + 1, 0 => []
  | f + 1, n + 1 => letsF f (n / 26) ++ [65 + n % 26]
def bnd : Nat → Nat
  | 0 => 1
  | f + 1 => 26 * bnd f + 1
theorem lets_zero (f : Nat) : letsF f 0 = [] := by cases f <;> rfl
theorem lets_succ (f n : Nat) : letsF (f + 1) (n + 1) = letsF f (n / 26) ++ [65 + n % 26] := rfl
theorem bnd_div {f n : Nat} (h : n + 1 < bnd (f + 1)) : n / 26 < bnd f := by
  have h2 : n + 1 < 26 * bnd f + 1 := h
  exact Nat.div_lt_of_lt_mul (by omega)
theorem lets_len : ∀ (f n : Nat), (letsF f n).length ≤ f
  | 0, _ => Nat.le_refl _
  | f + 1, 0 => Nat.zero_le _
  | f + 1, n + 1 => by
    rw [lets_succ, List.length_append]
    have := lets_len f (n / 26)
    show _ + 1 ≤ _
    omega
theorem lets_rng : ∀ (f n : Nat), ∀ x ∈ letsF f n, 65 ≤ x ∧ x ≤ 90
  | 0, _, x, h => by cases h
  | f + 1, 0, x, h => by cases h
  | f + 1, n + 1, x, h => by
    rw [lets_succ] at h
    rcases List.mem_append.mp h with h | h
    · exact lets_rng f _ x h
    · have e := List.mem_singleton.mp h
      omega
/-- what a text of capital letters stands for -/
def val (l : List Nat) : Int := l.foldl (fun a x => a * 26 + ((x - 65 : Nat) : Int) + 1) 0
theorem val_snoc (l : List Nat) (x : Nat) : val (l ++ [x]) = val l * 26 + ((x - 65 : Nat) : Int) + 1 := by
  unfold val
  rw [List.foldl_append]
  rfl
theorem val_lets : ∀ (f n : Nat), n < bnd f → val (letsF f n) = n
  | 0, n, h => by
    have h2 : n < 1 := h
    have e : n = 0 := by omega
    rw [e]
    rfl
  | f + 1, 0, _ => rfl
  | f + 1, n + 1, h => by
    rw [lets_succ, val_snoc, val_lets f (n / 26) (bnd_div h)]
    have e : 65 + n % 26 - 65 = n % 26 := by omega
    rw [e]
    omega
theorem lets_ne {f n : Nat} : letsF (f + 1) (n + 1) ≠ [] := fun e => by
  rw [lets_succ] at e
  simp at e
theorem len3 {c : Nat} (h1 : 1 ≤ c) (h2 : c ≤ 18278) : (letsF 3 c).length = 1 + (if 26 < c then 1 else 0) + (if 702 < c then 1 else 0) := by
  obtain ⟨n, rfl⟩ : ∃ n, c = n + 1 := ⟨c - 1, by omega⟩
  rw [lets_succ, List.length_append]
  show (letsF 2 (n / 26)).length + 1 = _
  rcases Nat.eq_zero_or_pos (n / 26) with e | e
  · rw [e]
    have : n < 26 := by omega
    rw [if_neg (by omega), if_neg (by omega)]
    rfl
  · obtain ⟨m, hm⟩ : ∃ m, n / 26 = m + 1 := ⟨n / 26 - 1, by omega⟩
    rw [hm, lets_succ, List.length_append]
    show (letsF 1 (m / 26)).length + 1 + 1 = _
    rw [if_pos (by omega)]
    rcases Nat.eq_zero_or_pos (m / 26) with e2 | e2
    · rw [e2, if_neg (by omega)]
      rfl
    · obtain ⟨k, hk⟩ : ∃ k, m / 26 = k + 1 := ⟨m / 26 - 1, by omega⟩
      rw [hk, lets_succ, if_pos (by omega)]
      rfl
/-- the column behind one that does not end with Z -/
theorem lets_next {f n : Nat} (h : n % 26 ≠ 25) : letsF (f + 1) (n + 2) = letsF f (n / 26) ++ [66 + n % 26] := by
  rw [lets_succ]
  have e1 : (n + 1) / 26 = n / 26 := by omega
  have e2 : 65 + (n + 1) % 26 = 66 + n % 26 := by omega
  rw [e1, e2]
end TX

set_option Elab.async false
set_option linter.all false
set_option maxRecDepth 100000
set_option maxHeartbeats 4000000
/-! A caught own error asked for its kind; ends of texts. -/
namespace TX
open PySem PySem.Spec PyProof.Rows L2 Evl EV2 LamX
/-- isinstance(e, c), e the caught error, with a dict of its own -/
def rIsF (K : PySem.W.Frag) (a : Addr) (cls : Value) (d : Option Addr) : List V → Hp → VK → Prop := fun xs H Q => ∃ (D dd : Addr) (fs : List (Str × V)) (c : V) (cv : Value) (b : Bool), cls = .ref D ∧ d = some dd ∧ ExcC K D ∧ H dd = some (.xd fs) ∧
  xs = [.ref a, c] ∧ (∀ u, RelV c u → u = cv) ∧ PySem.W.kitOne K (.ref D) cv = some b ∧ Q (.bl b) H
theorem call_isF {X : Cx} {a : Addr} {oe : Obj} {cls : Value} {d : Option Addr} {pn : List (Addr × Obj)} (hz : Zc cls d oe) (hf : ∃ vs, oe.data = .fields vs) : CallR (X.suite a ((a, oe) :: pn)) (.builtin "isinstance") (rIsF X.K a cls d) := by
  intro pins s σ H xs us Q I r h
  obtain ⟨D, dd, fs, c, cv, b, rfl, rfl, C, ed, rfl, hcv, e, q⟩ := h
  obtain ⟨u1, u2, rfl, r1, r2⟩ := vals2 r
  have ec := hcv _ r2
  subst ec
  obtain rfl : u1 = Value.ref a := r1
  obtain ⟨ha, _⟩ := I.pin (a, oe) (List.mem_append_left _ List.mem_cons_self)
  obtain ⟨vs, hd⟩ := hf
  obtain ⟨mA, hns, _⟩ := (show ObjOk X.prog X.w H s.heap dd (.xd fs) from I.hok dd _ ed)
  obtain ⟨od, ho, _⟩ := lookIn_ns hns
  have J : PySem.W.InstAt s.heap a oe D (some od) := ⟨ha, hz.1, by unfold PySem.W.notCls; rw [hd] <;> rfl, by rw [hz.2]; exact ho⟩
  exact PySem.W.kia_one (PySem.EV.kitx_err C) I.kIn J e (fun z => nomatch z) fun tk => ⟨.bl b, H, I.kept (t' := tk) fun _ _ z => z, rfl, q⟩
/-- the last sign, all but the last -/
theorem at_last (l : List Nat) (x : Nat) : atI (S (l ++ [x])).cps.toList (-1) = some x := by
  have e : (S (l ++ [x])).cps.toList = l ++ [x] := by
    show (l ++ [x]).toArray.toList = _
    simp
  rw [e]
  unfold atI ixN
  rw [if_neg (by decide)]
  have hl : (l ++ [x]).length = l.length + 1 := by simp
  rw [hl]
  rw [if_pos (by omega)]
  have e2 : (-1 + ((l.length + 1 : Nat) : Int)).toNat = l.length := by omega
  have e3 : (((l.length + 1 : Nat) : Int) + -1).toNat = l.length := by omega
  first
    | (rw [Option.bind_some, e2]; simp)
    | (rw [Option.bind_some, e3]; simp)
theorem cut_last (l : List Nat) (x : Nat) : cutS (S (l ++ [x])) none (some (-1)) = S l := by
  unfold cutS
  have e : (S (l ++ [x])).cps.toList = l ++ [x] := by
    show (l ++ [x]).toArray.toList = _
    simp
  have hl : (S (l ++ [x])).length = l.length + 1 := by rw [len_S]; simp
  rw [e, hl]
  have e1 : HT.sIx (l.length + 1) 0 none = 0 := rfl
  have e2 : HT.sIx (l.length + 1) (l.length + 1) (some (-1)) = l.length := by
    unfold HT.sIx
    simp
    try omega
  rw [e1, e2]
  simp
theorem ev_slS {σ : L2.St} {H : Hp} {te : TE} {tl th : TO} {z : Str} {lo hi : Option Int} (h : Ev te σ H (.str z)) (h1 : EvO tl σ H lo) (h2 : EvO th σ H hi) (hl : z.length ≤ 100000) : Ev (tSl rSlS te tl th) σ H (.str (cutS z lo hi)) := fun H1 e Q q =>
  h H1 e _ fun H2 e2 => h1 H2 (e.trans e2) _ fun H3 e3 => h2 H3 ((e.trans e2).trans e3) _ fun H4 e4 => ⟨z, rfl, sz_of hl, q H4 ((e2.trans e3).trans e4)⟩
end TX

set_option Elab.async false
set_option linter.all false
set_option maxRecDepth 100000
set_option maxHeartbeats 4000000
/-! Texts of ascii signs: digits, small letters, prefixes. -/
namespace TX
open PySem PySem.Spec PyProof.Rows L2 Evl EV2 LamX
def dig1 (c : Nat) : Bool := decide (48 ≤ c ∧ c ≤ 57)
def aln1 (c : Nat) : Bool := let1 c || dig1 c
theorem alnum_of : ∀ c, c < 128 → Unicode.isAlnum c = aln1 c := by decide +kernel
theorem digit_of : ∀ c, c < 128 → Unicode.isDigit c = dig1 c := by decide +kernel
theorem lower_of : ∀ c, c < 128 → Unicode.lowerOf c = [low c] := by decide +kernel
theorem all_S {f g : Nat → Bool} : ∀ {l : List Nat}, (∀ c ∈ l, f c = g c) → l.all f = l.all g
  | [], _ => rfl
  | x :: l, h => by
    rw [List.all_cons, List.all_cons, h x (List.mem_cons_self ..), all_S fun c hc => h c (List.mem_cons_of_mem _ hc)]
theorem alnum_S {l : List Nat} (h : ∀ c ∈ l, c < 128) : Txt.isalnum (S l) = (decide (0 < l.length) && l.all aln1) := by
  unfold Txt.isalnum
  rw [len_S]
  congr 1
  show l.toArray.all Unicode.isAlnum = _
  rw [List.all_toArray]
  exact all_S fun c hc => alnum_of c (h c hc)
theorem digit_S {l : List Nat} (h : ∀ c ∈ l, c < 128) : Txt.isdigit (S l) = (decide (0 < l.length) && l.all dig1) := by
  unfold Txt.isdigit
  rw [len_S]
  congr 1
  show l.toArray.all Unicode.isDigit = _
  rw [List.all_toArray]
  exact all_S fun c hc => digit_of c (h c hc)
theorem lower_S {l : List Nat} (h : ∀ c ∈ l, c < 128) : Txt.lower (S l) = S (l.map low) := by
  have e : (l.toArray.mapIdx fun i (_ : Nat) => (Unicode.lowerAt l.toArray i).toArray) = (l.map fun c => [low c].toArray).toArray := by
    apply Array.ext_getElem?
    intro i
    simp only [Array.getElem?_mapIdx, List.getElem?_toArray, List.getElem?_map]
    cases q : l[i]? with
    | none => rfl
    | some c =>
      have hc := h c (List.mem_of_getElem? q)
      have z : Unicode.lowerAt l.toArray i = [low c] := by
        unfold Unicode.lowerAt
        rw [List.getElem?_toArray, q]
        show (if (c == 0x3A3 && Unicode.endsWord l.toArray i) = true then [0x3C2] else Unicode.lowerOf c) = _
        have n : (c == 0x3A3) = false := beq_eq_false_iff_ne.mpr (by omega)
        rw [n, Bool.false_and, if_neg (by decide)]
        exact lower_of c hc
      simp [z]
  show (⟨(l.toArray.mapIdx fun i (_ : Nat) => (Unicode.lowerAt l.toArray i).toArray).flatten⟩ : Str) = _
  rw [e]
  congr 1
  apply Array.toList_inj.mp
  rw [Array.toList_flatten]
  have z : ∀ m : List Nat, ((m.map fun c => [low c].toArray).map Array.toList).flatten = m.map low := fun m => by
    induction m with
    | nil => rfl
    | cons x m ih =>
      rw [List.map_cons, List.map_cons, List.flatten_cons, ih]
      rfl
  exact z l
/-! ### sheets' names, rows -/
def sheetOk (l : List Nat) : Bool := decide (1 ≤ l.length) && decide (l.length ≤ 12) && l.all aln1 && (l.head?.map let1).getD false
def rowText (l : List Nat) : Bool := decide (1 ≤ l.length) && decide (l.length ≤ 7) && l.all dig1 && !decide (l.head? = some 48) && decide (NumText.digitsVal l ≤ 1000000)
/-- a cell's letters, whether they are fixed, its digits, whether they are -/
def cellParts (l : List Nat) : List Nat × Bool × List Nat × Bool :=
  let c := if l.head? = some 36 then l.tail else l
  let r := c.dropWhile let1
  (c.takeWhile let1, decide (l.head? = some 36), if r.head? = some 36 then r.tail else r, decide (r.head? = some 36))
section
variable {K : PySem.W.Frag} {σ : L2.St} {H : Hp} {te ta tb : TE} {l m : List Nat} {c : Nat}
theorem ev_isalnum (h : Ev te σ H (.str (S l))) (ha : ∀ c ∈ l, c < 128) : Ev (tBM0 K "str" (fun x xs H Q => ∃ a, x = .str a ∧ xs = [] ∧ True ∧ Q (.bl (Txt.isalnum a)) H) te) σ H (.bl (decide (0 < l.length) && l.all aln1)) := fun H1 e Q q =>
  h H1 e _ fun H2 e2 => ⟨rfl, S l, rfl, rfl, True.intro, by rw [alnum_S ha]; exact q H2 e2⟩
theorem ev_isdigit (h : Ev te σ H (.str (S l))) (ha : ∀ c ∈ l, c < 128) : Ev (tBM0 K "str" (fun x xs H Q => ∃ a, x = .str a ∧ xs = [] ∧ True ∧ Q (.bl (Txt.isdigit a)) H) te) σ H (.bl (decide (0 < l.length) && l.all dig1)) := fun H1 e Q q =>
  h H1 e _ fun H2 e2 => ⟨rfl, S l, rfl, rfl, True.intro, by rw [digit_S ha]; exact q H2 e2⟩
theorem toList_S (l : List Nat) : (S l).cps.toList = l := by
  show l.toArray.toList = l
  simp
/-- text[i], a written or counted place -/
theorem ev_at {i : Nat} (ha : Ev ta σ H (.str (S l))) (hb : Ev tb σ H (.int (i : Int))) (hc : l[i]? = some c) (hl : l.length ≤ 100000) : Ev (tOp rIxS ta tb) σ H (sg c) :=
  ev_op ha hb (rv_ixS (by rw [len_S]; exact hl) (by rw [toList_S]; exact atI_nat hc))
theorem sl_from {n : Nat} (l : List Nat) (h : n ≤ l.length) : cutS (S l) (some (n : Int)) none = S (l.drop n) := by
  unfold cutS
  have e1 : HT.sIx (S l).length 0 (some (n : Int)) = n := by
    rw [HT.sIx_nat, len_S]
    omega
  have e2 : HT.sIx (S l).length (S l).length none = l.length := by
    show (S l).length = _
    exact len_S l
  rw [e1, e2, toList_S]
  congr 2
  apply List.take_of_length_le
  rw [List.length_drop]
  exact Nat.le_refl _
theorem sl_to {n : Nat} (l : List Nat) (h : n ≤ l.length) : cutS (S l) none (some (n : Int)) = S (l.take n) := by
  unfold cutS
  have e1 : HT.sIx (S l).length 0 none = 0 := rfl
  have e2 : HT.sIx (S l).length (S l).length (some (n : Int)) = n := by
    rw [HT.sIx_nat, len_S]
    omega
  rw [e1, e2, toList_S]
  rfl
end
/-- '$' ahead -/
theorem sub_36 (c : Nat) (l : List Nat) : Builtin.Str.subAt (S (c :: l)) (S [36]) 0 = decide (c = 36) := by
  show ((c :: l).toArray.extract 0 (0 + 1) == [36].toArray) = decide (c = 36)
  have e : (c :: l).toArray.extract 0 (0 + 1) = [c].toArray := by simp
  rw [e]
  by_cases h : c = 36
  · subst h
    rfl
  · rw [decide_eq_false h]
    exact beq_eq_false_iff_ne.mpr fun z => h (by
      have z2 := congrArg Array.toList z
      simpa using z2)
theorem starts_36 (l : List Nat) : Txt.startswith (S l) (S [36]) = decide (l.head? = some 36) := by
  cases l with
  | nil => rfl
  | cons c l =>
    unfold Txt.startswith
    rw [sub_36, len_S, len_S]
    have h : (0 + [36].length ≤ (c :: l).length) := by simp
    rw [decide_eq_true h]
    simp
theorem strip_36 (l : List Nat) : Txt.removeprefix (S l) (S [36]) = S (if l.head? = some 36 then l.tail else l) := by
  rw [StrLaws.removeprefix_eq]
  show (if Txt.startswith (S l) (S [36]) = true then (⟨(((S l).cps.toList.drop (S [36]).length).take ((S l).length - (S [36]).length)).toArray⟩ : Str) else S l) = _
  rw [starts_36, toList_S, len_S, len_S]
  cases l with
  | nil => rfl
  | cons c l =>
    by_cases h : c = 36
    · subst h
      show (⟨((l.take (l.length + 1 - 1))).toArray⟩ : Str) = S l
      have e : l.length + 1 - 1 = l.length := by omega
      rw [e, List.take_length]
    · have n : ¬ (c :: l).head? = some 36 := fun z => h (Option.some.inj z)
      rw [decide_eq_false n, if_neg n, if_neg (by decide)]
end TX

set_option Elab.async false
set_option linter.all false
set_option maxRecDepth 100000
set_option maxHeartbeats 4000000
/-! == and != by an own __eq__, whatever it answers and whatever stands at the right. -/
namespace TX
open PySem PySem.Spec PyProof.Rows L2 Evl
/-- x == y, x an instance of the class at C whose __eq__ keeps the promise sp -/
def rEqO (K : PySem.W.Frag) (C : Addr) (sp : Sp) (E : XK) : R2 := fun x y H Q => ∃ (a dx : Addr) (fs : List (Str × V)) (t : Value), x = .ref a ∧ H a = some (.ins C dx fs) ∧ TyX K H y t ∧ PySem.W.notFirst K C t = true ∧ sp [x, y] H (fun v H' => (∃ b, v = .bl b) ∧ Q v H') E
theorem op_eqO {X : Cx} {CX : CXT} {n : Nat} {C f : Addr} {fd : FuncData} {ps : List Str} {sp : Sp} {E : XK} (F : FnOk X.prog X.w X.K X.mg X.base CX n f fd ps sp) (hs : PySem.W.findIn X.K (.ref C) "__eq__" = some (some (.ref f))) (hf : PySem.W.isFn X.K (.ref f) = true)
    (hb : Binds X.K fd ps []) (hx : Passes CX X E) (hr : Room n X.A) : OpR X (compareOp .Eq) (rEqO X.K C sp E) := by
  intro pins s σ H x y v u Q I rx ry hq
  obtain ⟨a, dx, fs, t, rfl, ha, ty, hn, hsp⟩ := hq
  obtain rfl : v = Value.ref a := rx
  obtain ⟨mA, J, _⟩ := ins_get I.hok ha
  obtain ⟨od, J, _⟩ := J.look
  obtain ⟨Pz, Z, pz, _⟩ := kit_of I ry ty
  obtain ⟨m, hF⟩ := I.fr
  show wpAny (model X.prog X.w) X.A (richCompare .Eq (.ref a) u) (EP X pins σ Q) X.xe s
  refine PySem.W.cmp_K (op := .Eq) (tb := t) hr.units0 hF I.ok.mod.kin J (Z.ty _ _ I.kIn pz) hn hs hf ?_
  refine wpAny_mono (run_fn (vs := [V.ref a, y]) (dvs := []) F hr hb .nil hx I (show Vals [V.ref a, y] [Value.ref a, u] from .cons rfl (.cons ry .nil)) hsp) (fun w s1 o => ?_) fun _ _ q => q
  obtain ⟨z, H1, I1, rz, ⟨b, ez⟩, q⟩ := o
  subst ez
  obtain rfl : w = Value.bool b := rz
  exact ⟨.bl b, H1, I1, rfl, q⟩
end TX
namespace TX
open PySem PySem.Spec PyProof.Rows L2 Evl
theorem ns_some_of {K : PySem.W.Frag} {h : Heap} {N : Addr} {mg : Str → Option Value} {n : Str} {v : Value} (X : K.In h) (G : h.Ns N mg) (e : PySem.W.nsIn K N n = some (some v)) : mg n = some v := by
  obtain ⟨o, es, ep, ho, hd, _, hf⟩ := G
  unfold PySem.W.nsIn at e
  split at e
  · rename_i q
    have z := X _ _ q
    rw [ho] at z
    cases z
    cases hd
    split at e
    · rename_i en he
      rw [← hf]
      unfold nsFind findBy
      rw [← Array.find?_toList, he]
      exact Option.some.inj e
    · split at e <;> cases e
  · cases e
/-- a plain class with an own __eq__ and no __ne__: N its names' table -/
structure EqC (K : PySem.W.Frag) (C N f : Addr) : Prop where
  line : ∃ (nm q : Str) (bs : List Value) (hdct : Bool) (sn : List Str) (sub : List Value) (ab : Bool) (col : Option Bool) (dd : Option Addr) (k0 k1 k2 k3 k5 : Option Value) (newId : String), K.lookup C = some (excClassObj nm q C N bs [.type "object"] hdct sn sub ab col dd k0 k1 k2 k3 k5 newId)
  ok : PySem.W.nsOkIn K N = true
  eq : PySem.W.nsIn K N "__eq__" = some (some (.ref f))
  ne : PySem.W.nsIn K N "__ne__" = some none
  fn : ∃ of, K.lookup f = some of ∧ of.cls = .type "function"
/-- x != y, both instances of that class -/
def rNeO (C : Addr) (sp : Sp) (E : XK) : R2 := fun x y H Q => ∃ (a b dx dy : Addr) (fs gs : List (Str × V)), x = .ref a ∧ y = .ref b ∧ H a = some (.ins C dx fs) ∧ H b = some (.ins C dy gs) ∧ sp [x, y] H (fun v H' => ∃ b, v = .bl b ∧ Q (.bl (!b)) H') E
theorem op_neO {X : Cx} {CX : CXT} {n : Nat} {C N f : Addr} {fd : FuncData} {ps : List Str} {sp : Sp} {E : XK} {yB : Option Value} (F : FnOk X.prog X.w X.K X.mg X.base CX n f fd ps sp) (e : EqC X.K C N f) (hB : typeLookup (.type "object") ("__eq__" : Str) = pure yB)
    (hb : Binds X.K fd ps []) (hx : Passes CX X E) (hr : Room (n + 1) X.A) : OpR X (compareOp .NotEq) (rNeO C sp E) := by
  intro pins s σ H x y v u Q I rx ry hq
  obtain ⟨a, b, dx, dy, fs, gs, rfl, rfl, ha, hb2, hsp⟩ := hq
  obtain rfl : v = Value.ref a := rx
  obtain rfl : u = Value.ref b := ry
  obtain ⟨mA, J, _⟩ := ins_get I.hok ha
  obtain ⟨mB, J2, _⟩ := ins_get I.hok hb2
  obtain ⟨od, J, _⟩ := J.look
  obtain ⟨od2, J2, _⟩ := J2.look
  obtain ⟨nm, q, bs, hdct, sn, sub, ab, col, dd, k0, k1, k2, k3, k5, newId, hC⟩ := e.line
  obtain ⟨of, hof, hfc⟩ := e.fn
  have KX := I.kIn
  have G : s.heap.Ns N (s.heap.nsMap N) := .of_isNs (PySem.W.isNs_of_in KX e.ok)
  have Y : s.heap.OwnEqNoNe a C f "object" [.type "object"] :=
    ⟨_, of, nm, q, N, bs, hdct, sn, sub, ab, col, dd, k0, k1, k2, k3, k5, newId, s.heap.nsMap N, yB, J.at_, J.cls, KX _ _ hC, G, ns_some_of KX G e.eq, KX _ _ hof, hfc, PySem.F.mro_object, hB, PySem.W.ns_none_of KX G e.ne⟩
  have i0 := I.env0
  have e0 : Env0 X.prog X.w X.K X.mg X.base X.A.in1 X.stack s H := ⟨i0.frames, i0.mod, i0.bs, i0.bsz, i0.funs, i0.frf, i0.hok, i0.bare⟩
  have r2 : Vals [V.ref a, V.ref b] [Value.ref a, Value.ref b] := .cons rfl (.cons rfl .nil)
  have hl := F.len _ _ _ _ hsp
  have hcall : wpAny (model X.prog X.w) X.A.in1 (call (.ref f) [.ref a, .ref b]) (fun v s' => ∃ b, v = .bool b ∧ EP X pins σ Q (.bool (!b)) s') X.xe s := by
    refine wpAny_call (codeAny_mono (F.run X.A.in1 X.stack s H ⟨[.ref a, .ref b], []⟩ [.ref a, .ref b] [.ref a, .ref b] _ E hr.in1 e0 (by
      have z := hb s [.ref a, .ref b] I.kIn (by simpa using hl)
      simpa using z) r2 hsp) fun r s1 o => ?_)
    cases r with
    | error ex => exact hx pins σ H s ex s1 I o
    | ok fl =>
      cases fl with
      | ret w =>
        obtain ⟨z, H1, I1, rz, ⟨b, ez, q⟩⟩ := I.after o
        subst ez
        obtain rfl : w = Value.bool b := rz
        exact ⟨b, rfl, .bl (!b), H1, I1, rfl, q⟩
      | next => exact o.elim
      | brk => exact o.elim
      | cont => exact o.elim
  have hu : X.A.units + 1 < cLine := hu_of hr
  obtain ⟨hp, g, d, t, os⟩ := s
  exact compareOp_ne_ownEq PySem.F.cmp_object Y J2.at_ J2.cls hu hcall
end TX

set_option Elab.async false
set_option linter.all false
set_option maxRecDepth 100000
set_option maxHeartbeats 4000000
/-! text.rpartition(sign). -/
namespace TX
open PySem PySem.Spec PyProof.Rows L2 Evl
theorem mt_rpartition {X : Cx} : MtR X "str.rpartition" (fun x xs H Q => ∃ a b, x = .str a ∧ xs = [.str b] ∧ (b.length == 0) = false ∧ a.length ≤ sizeLine ∧
    ∀ p, H p = none → Q (.ref p) (upd H p (.tup [.str (Txt.rpartition a b).1, .str (Txt.rpartition a b).2.1, .str (Txt.rpartition a b).2.2]))) := by
  intro pins s σ H x xs v us Q I rx rs h
  obtain ⟨a, b, rfl, rfl, hb, hz, h⟩ := h
  obtain ⟨t, rfl⟩ := rx
  cases rs with
  | cons r1 rs =>
    cases rs
    obtain ⟨u, rfl⟩ := r1
    refine call_meets F.slot_str_rpartition (typeIs_str _ _ _) F.entry_str_rpartition (F.args_str_rpartition_2 _ _) (meets_str_rpartition a b t u hb hz) ?_
    unfold Txt.rpartition at h
    revert h
    cases Builtin.Str.lastOccurrence a b 0 a.length with
    | none => intro h; exact laid_parts I h
    | some i => intro h; exact laid_parts I h
def lastBang : List Nat → Option (List Nat × List Nat)
  | [] => none
  | c :: r => match lastBang r with
    | some (a, b) => some (c :: a, b)
    | none => if c = 33 then some ([], r) else none
theorem bang_none : ∀ {l : List Nat}, lastBang l = none → 33 ∉ l
  | [], _, h => by cases h
  | c :: r, e, h => by
    unfold lastBang at e
    cases q : lastBang r with
    | some p => rw [q] at e; cases e
    | none =>
      rw [q] at e
      have n : ¬ c = 33 := fun z => by
        rw [if_pos z] at e
        cases e
      rcases List.mem_cons.mp h with z | z
      · exact n z.symm
      · exact bang_none q z
theorem bang_some : ∀ {l a b : List Nat}, lastBang l = some (a, b) → l = a ++ 33 :: b ∧ 33 ∉ b
  | [], a, b, e => by cases e
  | c :: r, a, b, e => by
    unfold lastBang at e
    cases q : lastBang r with
    | some p =>
      obtain ⟨a2, b2⟩ := p
      rw [q] at e
      cases e
      obtain ⟨h1, h2⟩ := bang_some q
      exact ⟨by rw [h1]; rfl, h2⟩
    | none =>
      rw [q] at e
      by_cases z : c = 33
      · have e2 : (if c = 33 then some (([] : List Nat), r) else none) = some (a, b) := e
        rw [if_pos z] at e2
        cases e2
        exact ⟨by rw [z]; rfl, bang_none q⟩
      · have e2 : (if c = 33 then some (([] : List Nat), r) else none) = some (a, b) := e
        rw [if_neg z] at e2
        cases e2
theorem at_33 (l : List Nat) (i : Nat) : StrLaws.At (S l) (S [33]) (S l).length i ↔ l[i]? = some 33 := by
  have hx : ∀ j, ((S l).cps.extract j (j + (S [33]).length)).toList = (l.drop j).take 1 := fun j => by
    have z := StrLaws.strSub_toList (S l) j (j + (S [33]).length)
    rw [toList_S] at z
    have e : j + (S [33]).length - j = 1 := by
      rw [len_S]
      simp
    rw [e] at z
    exact z
  unfold StrLaws.At
  rw [len_S, len_S]
  constructor
  · intro ⟨h1, h2⟩
    have h3 : (S l).cps.extract i (i + (S [33]).length) = (S [33]).cps := eq_of_beq h2
    have h4 := congrArg Array.toList h3
    rw [hx] at h4
    have h5 : (l.drop i).take 1 = [33] := h4
    have h6 : i < l.length := h1
    have h7 : (l[i] :: l.drop (i + 1)).take 1 = [33] := by
      rw [← List.drop_eq_getElem_cons h6]
      exact h5
    have h8 : [l[i]] = [33] := h7
    rw [List.getElem?_eq_getElem h6]
    rw [List.cons.inj h8 |>.1]
  · intro h
    have h6 : i < l.length := (List.getElem?_eq_some_iff.mp h).1
    refine ⟨h6, ?_⟩
    show ((S l).cps.extract i (i + (S [33]).length) == (S [33]).cps) = true
    refine beq_iff_eq.mpr (Array.toList_inj.mp ?_)
    rw [hx, List.drop_eq_getElem_cons h6]
    rw [List.getElem?_eq_getElem h6] at h
    have h7 := Option.some.inj h
    rw [h7]
    rfl
theorem sub_S (l : List Nat) (i j : Nat) : Builtin.Str.strSub (S l) i j = S ((l.drop i).take (j - i)) := by
  have z := StrLaws.mk_of_toList (StrLaws.strSub_toList (S l) i j)
  rw [toList_S] at z
  exact z
theorem rpart_S (l : List Nat) : Txt.rpartition (S l) (S [33]) = match lastBang l with
    | none => (Str.empty, Str.empty, S l)
    | some (a, b) => (S a, S [33], S b) := by
  unfold Txt.rpartition
  cases q : lastBang l with
  | none =>
    rcases StrLaws.last_spec (S l) (S [33]) with ⟨e, _⟩ | ⟨i, e, h, _⟩
    · rw [e]
    · exact absurd (List.mem_of_getElem? ((at_33 l i).mp h)) (bang_none q)
  | some p =>
    obtain ⟨a, b⟩ := p
    obtain ⟨h1, h2⟩ := bang_some q
    have ha : l[a.length]? = some 33 := by
      rw [h1]
      simp
    rcases StrLaws.last_spec (S l) (S [33]) with ⟨_, h⟩ | ⟨i, e, h, hn⟩
    · exact absurd ((at_33 l _).mpr ha) (h _)
    · have hi := (at_33 l i).mp h
      have ei : i = a.length := by
        rcases Nat.lt_trichotomy i a.length with c | c | c
        · exact absurd ((at_33 l _).mpr ha) (hn _ c)
        · exact c
        · exfalso
          rw [h1, List.getElem?_append_right (by omega)] at hi
          have e2 : i - a.length = (i - a.length - 1) + 1 := by omega
          rw [e2, List.getElem?_cons_succ] at hi
          exact h2 (List.mem_of_getElem? hi)
      rw [e, ei]
      show (Builtin.Str.strSub (S l) 0 a.length, S [33], Builtin.Str.strSub (S l) (a.length + (S [33]).length) (S l).length) = (S a, S [33], S b)
      rw [sub_S, sub_S, len_S, len_S]
      have z1 : (l.drop 0).take (a.length - 0) = a := by
        rw [h1]
        simp
      have z2 : (l.drop (a.length + [33].length)).take (l.length - (a.length + [33].length)) = b := by
        rw [h1]
        simp
        have n : a.length + (b.length + 1) - (a.length + 1) = b.length := by omega
        rw [n, List.take_length]
      rw [z1, z2]
def firstBang : List Nat → Option (List Nat × List Nat)
  | [] => none
  | c :: r => if c = 33 then some ([], r) else match firstBang r with
    | some (a, b) => some (c :: a, b)
    | none => none
theorem fbang_none : ∀ {l : List Nat}, firstBang l = none → 33 ∉ l
  | [], _, h => by cases h
  | c :: r, e, h => by
    unfold firstBang at e
    by_cases z : c = 33
    · rw [if_pos z] at e
      cases e
    · rw [if_neg z] at e
      cases q : firstBang r with
      | some p => rw [q] at e; cases e
      | none =>
        rcases List.mem_cons.mp h with y | y
        · exact z y.symm
        · exact fbang_none q y
theorem fbang_some : ∀ {l a b : List Nat}, firstBang l = some (a, b) → l = a ++ 33 :: b ∧ 33 ∉ a
  | [], a, b, e => by cases e
  | c :: r, a, b, e => by
    unfold firstBang at e
    by_cases z : c = 33
    · rw [if_pos z] at e
      cases e
      exact ⟨by rw [z]; rfl, fun h => by cases h⟩
    · rw [if_neg z] at e
      cases q : firstBang r with
      | some p =>
        obtain ⟨a2, b2⟩ := p
        rw [q] at e
        cases e
        obtain ⟨h1, h2⟩ := fbang_some q
        refine ⟨by rw [h1]; rfl, fun h => ?_⟩
        rcases List.mem_cons.mp h with y | y
        · exact z y.symm
        · exact h2 y
      | none => rw [q] at e; cases e
theorem part_S (l : List Nat) : Txt.partition (S l) (S [33]) = match firstBang l with
    | none => (S l, Str.empty, Str.empty)
    | some (a, b) => (S a, S [33], S b) := by
  unfold Txt.partition
  rcases StrLaws.occ_head (S l) (S [33]) 1 (Nat.le_refl _) with ⟨e, h⟩ | ⟨i, r, e, h, hn⟩
  · cases q : firstBang l with
    | none => rw [e]
    | some p =>
      obtain ⟨a, b⟩ := p
      obtain ⟨h1, _⟩ := fbang_some q
      have ha : l[a.length]? = some 33 := by
        rw [h1]
        simp
      exact absurd ((at_33 l _).mpr ha) (h _)
  · have hi := (at_33 l i).mp h
    cases q : firstBang l with
    | none => exact absurd (List.mem_of_getElem? hi) (fbang_none q)
    | some p =>
      obtain ⟨a, b⟩ := p
      obtain ⟨h1, h2⟩ := fbang_some q
      have ha : l[a.length]? = some 33 := by
        rw [h1]
        simp
      have ei : i = a.length := by
        rcases Nat.lt_trichotomy i a.length with c | c | c
        · exfalso
          rw [h1, List.getElem?_append_left c] at hi
          exact h2 (List.mem_of_getElem? hi)
        · exact c
        · exact absurd ((at_33 l _).mpr ha) (hn _ c)
      rw [e, ei]
      show (Builtin.Str.strSub (S l) 0 a.length, S [33], Builtin.Str.strSub (S l) (a.length + (S [33]).length) (S l).length) = (S a, S [33], S b)
      rw [sub_S, sub_S, len_S, len_S]
      have z1 : (l.drop 0).take (a.length - 0) = a := by
        rw [h1]
        simp
      have z2 : (l.drop (a.length + [33].length)).take (l.length - (a.length + [33].length)) = b := by
        rw [h1]
        simp
        have n : a.length + (b.length + 1) - (a.length + 1) = b.length := by omega
        rw [n, List.take_length]
      rw [z1, z2]
end TX

set_option Elab.async false
set_option linter.all false
set_option maxRecDepth 100000
set_option maxHeartbeats 4000000
/-! Lists of values with a property, odd values as data. -/
namespace TX
open PySem PySem.Spec PyProof.Rows L2 Pen EV2 Evl LamX
theorem strOk_S {l : List Nat} (h : ∀ c ∈ l, c < 128) : PyData.strOk (S l) = true := by
  show l.toArray.all (fun c => decide (c < 0x110000)) = true
  rw [List.all_toArray]
  exact List.all_eq_true.mpr fun c hc => decide_eq_true (by have := h c hc; omega)
end TX
namespace TX
open PySem PySem.Spec PyProof.Rows L2 Pen EV2 Evl LamX
/-- what is made has the property P, which stays -/
def EvP (P : Hp → V → Prop) (te : TE) (σ : L2.St) (H : Hp) : Prop := ∀ H1, Ex H H1 → ∀ Q : VK, (∀ v H2, Ex H1 H2 → P H2 v → Q v H2) → te σ H1 Q
def EvPs (P : Hp → V → Prop) (ta : TA) (σ : L2.St) (H : Hp) (n : Nat) : Prop := ∀ H1, Ex H H1 → ∀ Q : List V → Hp → Prop, (∀ vs H2, Ex H1 H2 → vs.length = n → (∀ v ∈ vs, P H2 v) → Q vs H2) → ta σ H1 Q
section
variable {P : Hp → V → Prop} {σ : L2.St} {H : Hp} {te : TE} {tr : TA} {v x : V}
theorem ep_v (h : Ev te σ H v) (p : ∀ H, P H v) : EvP P te σ H := fun H1 e Q q => h H1 e _ fun H2 e2 => q v H2 e2 (p H2)
theorem ep_lst (h : Ev te σ H x) (p : ∀ a H, H a = some (.lst [x]) → P H (.ref a)) : EvP P (tLst (tCons te tNil)) σ H := fun H1 e Q q => h H1 e _ fun H2 e2 => ⟨by show 1 ≤ sizeLine; decide, fun a ha => q _ _ (e2.trans (Ex.new ha)) (p a _ upd_same)⟩
theorem ep_tup (h : Ev te σ H x) (p : ∀ a H, H a = some (.tup [x]) → P H (.ref a)) : EvP P (tTup (tCons te tNil)) σ H := fun H1 e Q q => h H1 e _ fun H2 e2 => ⟨by show 1 ≤ sizeLine; decide, fun a ha => q _ _ (e2.trans (Ex.new ha)) (p a _ upd_same)⟩
theorem eps_nil : EvPs P tNil σ H 0 := fun H1 _ Q q => q [] H1 (Ex.refl H1) rfl fun v hv => by cases hv
theorem eps_cons {n : Nat} (st : ∀ H H' v, Ex H H' → P H v → P H' v) (h : EvP P te σ H) (hr : EvPs P tr σ H n) : EvPs P (tCons te tr) σ H (n + 1) := fun H1 e Q q =>
  h H1 e _ fun v H2 e2 g => hr H2 (e.trans e2) _ fun vs H3 e3 hl hg => q (v :: vs) H3 (e2.trans e3) (by rw [List.length_cons, hl]) fun u hu => by
    rcases List.mem_cons.mp hu with z | z
    · rw [z]
      exact st _ _ _ e3 g
    · exact hg u z
theorem rd_ps {n : Nat} {Q : VK} (st : ∀ H H' v, Ex H H' → P H v → P H' v) (h : EvPs P tr σ H n) (hz : n ≤ 100000) (q : ∀ l vs H2, H l = none → Ex H H2 → H2 l = some (.lst vs) → vs.length = n → (∀ v ∈ vs, P H2 v) → Q (.ref l) H2) : tLst tr σ H Q :=
  h H (Ex.refl H) _ fun vs H2 e2 hl hg => ⟨sz_of (by omega), fun p hp => q p vs _ (fresh_back e2 hp) (e2.trans (Ex.new hp)) upd_same hl fun v hv => st _ _ _ (Ex.new hp) (hg v hv)⟩
end
/-- plain values, lists and tuples of one plain value -/
inductive Bx : V → PyData → Prop
  | int (i : Int) : Bx (.int i) (.int i)
  | str (s : Str) : PyData.strOk s = true → Bx (.str s) (.str s)
inductive Vd (H : Hp) : V → PyData → String → Prop
  | int (i : Int) : Vd H (.int i) (.int i) "int"
  | bl (b : Bool) : Vd H (.bl b) (.bool b) "bool"
  | non : Vd H .non .none "NoneType"
  | str (s : Str) : PyData.strOk s = true → Vd H (.str s) (.str s) "str"
  | lst {a : Addr} {x : V} {d : PyData} : H a = some (.lst [x]) → Bx x d → Vd H (.ref a) (.list [d]) "list"
  | tup {a : Addr} {x : V} {d : PyData} : H a = some (.tup [x]) → Bx x d → Vd H (.ref a) (.tuple [d]) "tuple"
theorem Vd.keep {H H' : Hp} {v : V} {d : PyData} {n : String} (h1 : ∀ a xs, H a = some (.lst xs) → H' a = some (.lst xs)) (h2 : ∀ a xs, H a = some (.tup xs) → H' a = some (.tup xs)) (g : Vd H v d n) : Vd H' v d n := by
  cases g with
  | int i => exact .int i
  | bl b => exact .bl b
  | non => exact .non
  | str s h => exact .str s h
  | lst e b => exact .lst (h1 _ _ e) b
  | tup e b => exact .tup (h2 _ _ e) b
section
variable {K : PySem.W.Frag} {H : Hp} {v x : V} {d : PyData} {n : String}
theorem Vd.ext {H' : Hp} (e : Ex H H') (g : Vd H v d n) : Vd H' v d n := g.keep (fun _ _ h => e _ _ h) fun _ _ h => e _ _ h
theorem Vd.sib {H' : Hp} {p : Addr} {kv : List (Key × V)} (hp : H p = some (.dK kv)) (e : Pen.Sib p H H') (g : Vd H v d n) : Vd H' v d n := g.keep (fun _ _ h => e _ _ (ne_of h hp (by intro z; cases z)) h) fun _ _ h => e _ _ (ne_of h hp (by intro z; cases z)) h
theorem Vd.extN {H' : Hp} (e : ExtN H H') (g : Vd H v d n) : Vd H' v d n := g.keep (fun _ _ h => e _ _ h (fun _ z => by cases z)) fun _ _ h => e _ _ h (fun _ z => by cases z)
theorem Vd.knd (g : Vd H v d n) : Knd K H v n := by
  cases g with
  | int i => exact knd_int
  | bl b => exact knd_bl
  | non => exact knd_non
  | str s h => exact knd_str
  | lst e b => exact knd_lst e
  | tup e b => exact knd_tup e
theorem Bx.dp (b : Bx x d) : Dp K H x d := by
  cases b with
  | int i => exact .int i
  | str s h => exact .str s
theorem Bx.ok (b : Bx x d) : PyData.canLay0 d = true ∧ PyData.depth d = 0 ∧ PyData.eqv d d = true := by
  cases b with
  | int i => exact ⟨rfl, rfl, by show (i == i) = true; simp⟩
  | str s h => exact ⟨h, rfl, by show (s == s) = true; simp⟩
theorem Vd.dp (g : Vd H v d n) : Dp K H v d := by
  cases g with
  | int i => exact .int i
  | bl b => exact .bl b
  | non => exact .non
  | str s h => exact .str s
  | lst e b => exact .lst (sq_of e) (.cons b.dp .nil)
  | tup e b => exact .tup (st_of e) (.cons b.dp .nil)
theorem Vd.ok (g : Vd H v d n) : PyData.canLay0 d = true ∧ PyData.depth d ≤ 1 ∧ PyData.eqv d d = true := by
  cases g with
  | int i => exact ⟨rfl, by show 0 ≤ 1; decide, by show (i == i) = true; simp⟩
  | bl b => exact ⟨rfl, by show 0 ≤ 1; decide, by cases b <;> rfl⟩
  | non => exact ⟨rfl, by show 0 ≤ 1; decide, rfl⟩
  | str s h => exact ⟨h, by show 0 ≤ 1; decide, by show (s == s) = true; simp⟩
  | @lst a x d e b =>
    obtain ⟨h1, h2, h3⟩ := b.ok
    refine ⟨?_, ?_, ?_⟩
    · show (PyData.canLay0 d && true) = true
      rw [h1]
      rfl
    · show max (PyData.depth d) 0 + 1 ≤ 1
      omega
    · show (PyData.eqv d d && true) = true
      rw [h3]
      rfl
  | @tup a x d e b =>
    obtain ⟨h1, h2, h3⟩ := b.ok
    refine ⟨?_, ?_, ?_⟩
    · show (PyData.canLay0 d && true) = true
      rw [h1]
      rfl
    · show max (PyData.depth d) 0 + 1 ≤ 1
      omega
    · show (PyData.eqv d d && true) = true
      rw [h3]
      rfl
end
end TX

set_option Elab.async false
set_option linter.all false
set_option maxRecDepth 100000
set_option maxHeartbeats 4000000
/-! Tuples that are made or there already; slices of texts and tuples from a counted place. -/
namespace TX
open PySem PySem.Spec PyProof.Rows L2 Pen EV2 Evl LamX
/-- evaluates to a tuple of these, new or not -/
def EvR (te : TE) (σ : L2.St) (H : Hp) (xs : List V) : Prop := ∀ H1, Ex H H1 → ∀ Q : VK, (∀ a H2, Ex H1 H2 → H2 a = some (.tup xs) → Q (.ref a) H2) → te σ H1 Q
section
variable {K : PySem.W.Frag} {σ : L2.St} {H H' : Hp} {ta tb te : TE} {xs ys : List V} {a : Addr} {lo hi : Option Int} {tl th : TO}
theorem EvR.mono (e : Ex H H') (h : EvR te σ H xs) : EvR te σ H' xs := fun H1 a Q q => h H1 (e.trans a) Q q
theorem er_of (h : Ev te σ H (.ref a)) (ha : H a = some (.tup xs)) : EvR te σ H xs := fun H1 e Q q => h H1 e _ fun H2 e2 => q a H2 e2 ((e.trans e2) _ _ ha)
theorem er_new (h : EvU te σ H xs) : EvR te σ H xs := fun H1 e Q q => h H1 e _ fun p H2 _ e2 hp => q p H2 e2 hp
theorem er_sl (h : EvR te σ H xs) (h1 : EvO tl σ H lo) (h2 : EvO th σ H hi) : EvR (tSl (rSlA K) te tl th) σ H (cutV xs lo hi) := fun H1 e Q q =>
  h H1 e _ fun a H2 e2 ha => h1 H2 (e.trans e2) _ fun H3 e3 => h2 H3 ((e.trans e2).trans e3) _ fun H4 e4 => ⟨a, xs, rfl, st_of ((e3.trans e4) _ _ ha), fun hw => by
    refine q a H4 ((e2.trans e3).trans e4) ?_
    have z : cutV xs lo hi = xs := by
      unfold cutV
      rw [hw.1, hw.2]
      simp
    rw [z]
    exact (e3.trans e4) _ _ ha, fun _ p hp => q p _ (((e2.trans e3).trans e4).trans (Ex.new hp)) upd_same⟩
theorem er_cat (ha : EvR ta σ H xs) (hb : EvR tb σ H ys) (hl : xs.length + ys.length ≤ 100000) : EvR (tOp (rCatA K) ta tb) σ H (xs ++ ys) := fun H1 e Q q =>
  ha H1 e _ fun a H2 e2 h2 => hb H2 (e.trans e2) _ fun b H3 e3 h3 => ⟨a, b, xs, ys, rfl, rfl, st_of (e3 _ _ h2), st_of h3, sz_of hl, fun z => by
    rw [z, List.nil_append] at q
    exact q b H3 (e2.trans e3) h3, fun _ z => by
    rw [z, List.append_nil] at q
    exact q a H3 (e2.trans e3) (e3 _ _ h2), fun _ _ p hp => q p _ ((e2.trans e3).trans (Ex.new hp)) upd_same⟩
theorem cutV_to {n : Nat} (xs : List V) : cutV xs none (some (n : Int)) = xs.take n := by
  unfold cutV
  rw [HT.sIx_nat]
  have e1 : HT.sIx xs.length 0 none = 0 := rfl
  rw [e1, List.drop_zero, Nat.sub_zero, ← List.take_take, List.take_length]
theorem cutV_from {n : Nat} (xs : List V) : cutV xs (some (n : Int)) none = xs.drop n := by
  unfold cutV
  rw [HT.sIx_nat]
  have e2 : HT.sIx xs.length xs.length none = xs.length := rfl
  rw [e2]
  by_cases h : n ≤ xs.length
  · rw [Nat.min_eq_left h]
    exact List.take_of_length_le (by rw [List.length_drop]; exact Nat.le_refl _)
  · rw [Nat.min_eq_right (by omega), List.drop_of_length_le (Nat.le_refl _), List.drop_of_length_le (by omega)]
    simp
theorem sl_fromA {n : Nat} (l : List Nat) : cutS (S l) (some (n : Int)) none = S (l.drop n) := by
  by_cases h : n ≤ l.length
  · exact sl_from l h
  · unfold cutS
    have e1 : HT.sIx (S l).length 0 (some (n : Int)) = l.length := by
      rw [HT.sIx_nat, len_S]
      omega
    have e2 : HT.sIx (S l).length (S l).length none = l.length := by
      show (S l).length = _
      exact len_S l
    rw [e1, e2, toList_S, List.drop_of_length_le (Nat.le_refl _), List.drop_of_length_le (by omega), List.take_nil]
theorem q_retR {D : Ends} (h : EvR te σ H xs) (k : ∀ a H1, Ex H H1 → H1 a = some (.tup xs) → D.rt (.ref a) H1) : tRet te D σ H := h H (Ex.refl H) _ k
end
end TX

set_option Elab.async false
set_option linter.all false
set_option maxRecDepth 100000
set_option maxHeartbeats 4000000
namespace K16
open PySem PySem.Spec PyProof.Rows L2 Pen
def topS (i : Nat) : Stmt := PySem.Challenge.pw_allinputs_k16_addresses.main.body.getD i (.Pass ⟨0, 0, 0, 0⟩)
abbrev s_l_pen : Stmt := topS 31
abbrev N_l_pen : List Str := ["_law_script"]
abbrev P_l_pen : List Str := ["_law_script"]
theorem sc_l_pen : FnScope N_l_pen P_l_pen (defScope s_l_pen) := ⟨rfl, rfl, rfl, by decide +kernel, rfl, by decide +kernel, by decide +kernel⟩
abbrev s_l_draw : Stmt := topS 32
abbrev N_l_draw : List Str := ["_law_pen_here", "_law_span", "_law_digit", "_law_at", "_law_cell", "_law_mash"]
abbrev P_l_draw : List Str := ["_law_pen_here", "_law_span"]
theorem sc_l_draw : FnScope N_l_draw P_l_draw (defScope s_l_draw) := ⟨rfl, rfl, rfl, by decide +kernel, rfl, by decide +kernel, by decide +kernel⟩
abbrev s_l_pick : Stmt := topS 33
abbrev N_l_pick : List Str := ["_law_pen_here", "_law_menu"]
abbrev P_l_pick : List Str := ["_law_pen_here", "_law_menu"]
theorem sc_l_pick : FnScope N_l_pick P_l_pick (defScope s_l_pick) := ⟨rfl, rfl, rfl, by decide +kernel, rfl, by decide +kernel, by decide +kernel⟩

/-- what the top has written that the pens use -/
structure TxtA (mg : Str → Option Value) : Prop where
  n_list : mg "list" = none
  n_int : mg "int" = none
  n_len : mg "len" = none
abbrev PenAt := Pen.At "cells" "at" "left"
def spPen (K : PySem.W.Frag) : Sp := fun vs H Q _ => ∃ (a : Addr) (ns : List Int), vs = [.ref a] ∧ SqL K H a (ns.map V.int) ∧ ns.length ≤ 63 ∧
  ∀ (p c : Addr) (H' : Hp), H p = none → Same H H' → PenAt H' p c ns 0 0 → Q (.ref p) H'
def spDraw : Sp := fun vs H Q _ => ∃ (p c : Addr) (cs : List Int) (i r m : Int), vs = [.ref p, .int m] ∧ PenAt H p c cs i r ∧ i < 2 ^ 39 ∧ 0 < m ∧ m < 2 ^ 29 ∧
  ∀ (z i' r' : Int) (H' : Hp), 0 ≤ z → z < m → i ≤ i' → i' ≤ i + 1 → Sib p H H' → PenAt H' p c cs i' r' → Q (.int z) H'
/-- one of the items; xs the list's values, l not the pen -/
def spPick (K : PySem.W.Frag) : Sp := fun vs H Q _ => ∃ (p c : Addr) (cs : List Int) (i r : Int) (l : Addr) (xs : List V), vs = [.ref p, .ref l] ∧ PenAt H p c cs i r ∧ i < 2 ^ 39 ∧ SqL K H l xs ∧ 0 < xs.length ∧ xs.length < 2 ^ 29 ∧ l ≠ p ∧
  ∀ (x : V) (i' r' : Int) (H' : Hp), x ∈ xs → i ≤ i' → i' ≤ i + 1 → Sib p H H' → PenAt H' p c cs i' r' → Q x H'
section
variable {P : Program} {w : World} {K : PySem.W.Frag} {mg : Str → Option Value} {base : Heap}
theorem ok_l_pen {f : Addr} {fd : FuncData} (F : Fun K "_law_pen" "_law_pen" s_l_pen f fd) (T : TxtA mg) : FnOk P w K mg base CX0 1 f fd P_l_pen (spPen K) := by
  refine F.ok sc_l_pen (fun vs H Q E h => ?_) (fun cdv A outer s H vs Q E hr h => ?_)
  · obtain ⟨a, ns, rfl, _⟩ := h
    rfl
  · obtain ⟨a, ns, rfl, hS, hl, k⟩ := h
    refine ⟨_, (pss_one (ps_ret (pe_disp (pps_cons pe_str (pe_callTy (T := "list") call_list_of (by rfl) T.n_list (by decide +kernel) (pa_cons (pe_slice sl_list (pv 0) po_none (po_some pe_int)) pa_nil)) (pps_cons pe_str pe_int (pps_cons pe_str pe_int pps_nil))) (by rfl) (by rfl) (fun z => by cases z) (by decide)))), ?_⟩
    intro p hp
    have s1 : Same H (upd H p (.dK [])) := fun b o e => by rw [upd_ne (ne_of_none e hp)]; exact e
    refine ⟨_, rfl, _, rfl, a, _, rfl, s1.seq hS, fun q hq => ?_⟩
    have s2 : Same (upd H p (.dK [])) (upd (upd H p (.dK [])) q (.lst (cutV (ns.map V.int) none (some 63)))) := fun b o e => by rw [upd_ne (ne_of_none e hq)]; exact e
    refine ⟨q, _, rfl, .inl (SqL.of upd_same), fun l hl' => ?_⟩
    have s3 : Same (upd (upd H p (.dK [])) q (.lst (cutV (ns.map V.int) none (some 63)))) (upd (upd (upd H p (.dK [])) q (.lst (cutV (ns.map V.int) none (some 63)))) l (.lst (cutV (ns.map V.int) none (some 63)))) := fun b o e => by rw [upd_ne (ne_of_none e hl')]; exact e
    have hp3 := s3 p _ (s2 p _ upd_same)
    refine ⟨hp3, kvs "cells" "at" "left" l 0 0, rfl, (by show 3 ≤ 15; decide), ?_⟩
    have em : mergeK ([] : List (Key × V)) (kvs "cells" "at" "left" l 0 0) = kvs "cells" "at" "left" l 0 0 := by rfl
    rw [em]
    have np : l ≠ p := ne_of upd_same hp3 (by intro z; cases z)
    refine k p l _ hp (fun b o e => ?_) ⟨upd_same, ?_, by omega, by decide, by decide⟩
    · rw [upd_ne (ne_of_none e hp)]
      exact s3 b o (s2 b o (s1 b o e))
    · rw [upd_ne np, upd_same, show cutV (ns.map V.int) none (some 63) = ns.map V.int from cut_all (n := 63) (by rw [List.length_map]; exact hl)]
theorem ok_l_draw {f : Addr} {fd : FuncData} (F : Fun K "_law_draw" "_law_draw" s_l_draw f fd) (T : TxtA mg) : FnOk P w K mg base CX0 1 f fd P_l_draw spDraw := by
  refine F.ok sc_l_draw (fun vs H Q E h => ?_) (fun cdv A outer s H vs Q E hr h => ?_)
  · obtain ⟨p, c, cs, i, r, m, rfl, _⟩ := h
    rfl
  · obtain ⟨p, c, cs, i, r, m, rfl, D, hi, hm0, hm1, k⟩ := h
    have hu := hu_of hr
    have mok : m ≠ 0 ∧ m.natAbs < 1073741824 := ⟨by omega, by omega⟩
    refine ⟨_, (pss_cons (ps_if (pt_cmpR op_ge (pe_dget hu (pv 0) pe_str (fun _ _ => rfl)) (pv 1) (nomark _)) (pss_cons (ps_set (i := 2) sc_l_draw.nd rfl (Or.inl rfl) (pe_op op_modN (pe_callTy (T := "int") call_int1 (by rfl) T.n_int (by decide +kernel) (pa_cons (pe_dget hu (pv 0) pe_str (fun _ _ => rfl)) pa_nil)) (pv 1)))
      (pss_cons (ps_dput hu (pv 0) pe_str (pe_op op_fdivN (pe_dget hu (pv 0) pe_str (fun _ _ => rfl)) (pv 1)) rfl)
      (pss_one (ps_ret (pv 2))))) pss_nil)
      (pss_cons (ps_set (i := 3) sc_l_draw.nd rfl (Or.inl rfl) (pe_dget hu (pv 0) pe_str (fun _ _ => rfl)))
      (pss_cons (ps_dput hu (pv 0) pe_str (pe_op op_add (pv 3) pe_int) rfl)
      (pss_cons (ps_set (i := 4) sc_l_draw.nd rfl (Or.inl rfl) (pe_op op_add (pe_op op_mul pe_int (pv 3)) pe_int))
      (Evl.pss_cut (ps_if (pt_cmpR (op_neD hr.units) (pe_dget hu (pv 0) pe_str (fun _ _ => rfl)) (pe_lst pa_nil) (nomark _)) (pss_one (ps_set (i := 4) sc_l_draw.nd rfl (Or.inl rfl) (pe_ix ix_list (pe_dget hu (pv 0) pe_str (fun _ _ => rfl)) (pe_op op_modN (pe_callTy (T := "int") call_int1 (by rfl) T.n_int (by decide +kernel) (pa_cons (pv 3) pa_nil)) (pe_callB (id := "len") call_len (by rfl) T.n_len (by decide +kernel) (pa_cons (pe_dget hu (pv 0) pe_str (fun _ _ => rfl)) pa_nil))) (fun _ _ => rfl)))) pss_nil)
      (Evl.pss_cut (ps_if (PW.pt (pw_and (pt_cmpR op_lt (pv 3) (pe_callB (id := "len") call_len (by rfl) T.n_len (by decide +kernel) (pa_cons (pe_dget hu (pv 0) pe_str (fun _ _ => rfl)) pa_nil)) (nomark _)) (pw_and1 (pt_cmpR op_ge (pv 4) (pe_op op_pow pe_int pe_int) (nomark _))))) (pss_cons (ps_dput hu (pv 0) pe_str (pe_op op_fdivN (pe_op op_sub (pv 4) (pe_op op_pow pe_int pe_int)) (pv 1)) rfl)
      (pss_one (ps_ret (pe_op op_modN (pe_callTy (T := "int") call_int1 (by rfl) T.n_int (by decide +kernel) (pa_cons (pe_op op_sub (pv 4) (pe_op op_pow pe_int pe_int)) pa_nil)) (pv 1))))) pss_nil)
      (pss_cons (ps_set (i := 5) sc_l_draw.nd rfl (Or.inl rfl) (pe_op op_add (pe_op op_mul (pe_op op_modN (pe_callTy (T := "int") call_int1 (by rfl) T.n_int (by decide +kernel) (pa_cons (pv 4) pa_nil)) pe_int) pe_int) (pe_op op_mul (pe_op op_mul pe_int (pv 3)) (pv 3))))
      (pss_cons (ps_set (i := 5) sc_l_draw.nd rfl (Or.inl rfl) (pe_op op_modN (pe_callTy (T := "int") call_int1 (by rfl) T.n_int (by decide +kernel) (pa_cons (pe_op op_add (pe_op op_add (pv 5) (pe_op op_mul pe_int (pv 3))) pe_int) pa_nil)) pe_int))
      (pss_cons (ps_set (i := 5) sc_l_draw.nd rfl (Or.inl rfl) (pe_op op_modN (pe_callTy (T := "int") call_int1 (by rfl) T.n_int (by decide +kernel) (pa_cons (pe_op op_add (pe_op op_mul (pv 5) (pe_op op_add (pv 5) pe_int)) (pe_op op_mul pe_int (pv 3))) pa_nil)) pe_int))
      (pss_one (ps_ret (pe_op op_modN (pe_callTy (T := "int") call_int1 (by rfl) T.n_int (by decide +kernel) (pa_cons (pe_op op_fdivN (pe_op op_modN (pe_callTy (T := "int") call_int1 (by rfl) T.n_int (by decide +kernel) (pa_cons (pe_op op_add (pe_op op_mul (pv 5) (pv 5)) (pe_op op_mul pe_int (pv 5))) pa_nil)) pe_int) pe_int) pa_nil)) (pv 1))))))))))))), ?_⟩
    refine ⟨_, rfl, _, _, rfl, get3 D (by decide) (by decide), _, rfl, _, _, rfl, rfl, _, rfl, ?_⟩
    refine ite2 (fun _ => ?_) (fun _ => ?_)
    · refine ⟨_, rfl, _, _, rfl, get3 D (by decide) (by decide), .inl ⟨_, rfl, _, rfl, _, _, rfl, rfl, by omega, ?_⟩⟩
      refine ⟨_, rfl, _, _, rfl, get3 D (by decide) (by decide), _, rfl, _, _, rfl, rfl, mok, _, rfl, _, _, rfl, put3 D (by decide) (by decide) _, ?_⟩
      refine ⟨_, rfl, ?_⟩
      exact k _ _ _ _ (fmod_lo hm0) (fmod_hi hm0) (Int.le_refl _) (by omega) Sib.put (D.to upd_same Sib.put D.h0 D.h1)
    · refine ⟨_, rfl, _, _, rfl, get2 D (by decide), ?_⟩
      refine ⟨_, rfl, _, _, rfl, rfl, _, rfl, _, _, rfl, put2 D (by decide) (by decide) _, ?_⟩
      have D1 : PenAt (upd H p (.dK (kvs "cells" "at" "left" c (i + 1) r))) p c cs (i + 1) r := D.to upd_same Sib.put (by have := D.h0; omega) (by omega)
      refine ⟨_, rfl, _, _, rfl, rfl, .inl ⟨by decide, by decide⟩, _, _, rfl, rfl, ?_⟩
      -- if cells != []: cell = cells[..]
      refine ⟨fun σ' H' => ∃ z : Int, σ' = [some (.ref p), some (.int m), none, some (.int i), some (.int z), none] ∧ Same (upd H p (.dK (kvs "cells" "at" "left" c (i + 1) r))) H', ?_, ?_⟩
      · refine ⟨_, rfl, _, _, rfl, get1 D1, (by decide), fun q hq => ?_⟩
        have sq : Same (upd H p (.dK (kvs "cells" "at" "left" c (i + 1) r))) (upd (upd H p (.dK (kvs "cells" "at" "left" c (i + 1) r))) q (.lst [])) := fun b o e => by rw [upd_ne (ne_of_none e hq)]; exact e
        have D2 := D1.keep sq
        refine ⟨_, _, .lst (SqL.of D2.hc) (dp_ints cs), .lst (SqL.of upd_same) .nil, shaped_ints cs, rfl, _, rfl, ?_⟩
        rw [eqv_nil]
        cases hb : decide (cs = []) with
        | true => exact iteF ⟨_, rfl, sq⟩
        | false =>
          refine iteT ?_
          have ne : cs ≠ [] := of_decide_eq_false hb
          have l0 : 0 < cs.length := by
            cases cs with
            | nil => exact absurd rfl ne
            | cons a l => exact Nat.succ_pos _
          refine ⟨_, rfl, _, _, rfl, get1 D2, ?_⟩
          refine ⟨_, rfl, .inl ⟨_, rfl, _, rfl, _, _, rfl, get1 D2, _, cs.length, rfl, .inl ⟨_, SqL.of D2.hc, (List.length_map _).symm⟩, _, _, rfl, rfl, by omega, ?_⟩⟩
          have b0 : 0 ≤ i.fmod (cs.length : Int) := fmod_lo (by omega)
          have b1 : i.fmod (cs.length : Int) < cs.length := fmod_hi (by omega)
          obtain ⟨z, hz⟩ := at_ints (cs := cs) b0 b1
          exact ⟨_, _, _, _, rfl, rfl, SqL.of D2.hc, hz, z, rfl, sq⟩
      · rintro σ' H' ⟨z, rfl, sH⟩
        have D2 := D1.keep sH
        have sib : Sib p H H' := Sib.trans Sib.put fun b o _ e => sH b o e
        refine ⟨fun σ2 H2 => σ2 = [some (.ref p), some (.int m), none, some (.int i), some (.int z), none] ∧ H2 = H', ?_, ?_⟩
        rotate_left
        · rintro σ2 H2 ⟨rfl, rfl⟩
          have nz : ∀ {a : Int}, a ≠ 0 → a ≠ 0 := fun h => h
          have ib : -(2 ^ 64) < i ∧ i < 2 ^ 64 := ⟨by have := D.h0; omega, by omega⟩
          refine ⟨_, rfl, .inl ⟨_, rfl, _, _, rfl, rfl, (by show (2147481997 : Int) ≠ 0; decide), _, _, rfl, rfl, .inr ⟨by decide, by decide⟩, _, rfl, _, _, rfl, rfl, .inl ⟨by decide, by decide⟩, _, rfl, _, _, rfl, rfl, .inr ib, _, _, rfl, rfl, ?_⟩⟩
          refine ⟨_, rfl, _, rfl, _, _, rfl, rfl, .inl ⟨by decide, by decide⟩, _, _, rfl, rfl, _, _, rfl, rfl, .inl ⟨_, rfl, _, _, rfl, rfl, (by show (2147482063 : Int) ≠ 0; decide), ?_⟩⟩
          refine ⟨_, rfl, _, rfl, _, _, rfl, rfl, _, _, rfl, rfl, .inl (fm64 (by decide) (by decide)), _, rfl, _, _, rfl, rfl, .inl ⟨by decide, by decide⟩, _, _, rfl, rfl, .inl ⟨_, rfl, _, _, rfl, rfl, (by show (2147482121 : Int) ≠ 0; decide), ?_⟩⟩
          refine ⟨_, rfl, _, rfl, _, _, rfl, rfl, .inl (fm64 (by decide) (by decide)), _, rfl, _, _, rfl, rfl, .inl ⟨by decide, by decide⟩, _, _, rfl, rfl, .inl ⟨_, rfl, _, _, rfl, rfl, (by show (2147482223 : Int) ≠ 0; decide), _, _, rfl, rfl, ⟨by decide, by decide⟩, .inl ⟨_, rfl, _, rfl, _, _, rfl, rfl, mok.1, ?_⟩⟩⟩
          exact k _ _ _ _ (fmod_lo hm0) (fmod_hi hm0) (by omega) (Int.le_refl _) sib D2
        refine ⟨_, rfl, _, rfl, _, _, rfl, get1 D2, _, cs.length, rfl, .inl ⟨_, SqL.of D2.hc, (List.length_map _).symm⟩, _, _, rfl, rfl, _, rfl, ?_⟩
        refine ite2 (fun _ => ?_) (fun _ => ?_)
        · refine ⟨_, rfl, _, _, rfl, rfl, ⟨by decide, by decide, by decide⟩, _, _, rfl, rfl, _, rfl, ?_⟩
          refine ite2 (fun _ => ?_) (fun _ => ?_)
          · -- a great cell
            refine ⟨_, rfl, _, _, rfl, rfl, ⟨by decide, by decide, by decide⟩, _, _, rfl, rfl, _, rfl, _, _, rfl, rfl, mok, _, rfl, _, _, rfl, put3 D2 (by decide) (by decide) _, ?_⟩
            refine ⟨_, rfl, _, _, rfl, rfl, ⟨by decide, by decide, by decide⟩, _, _, rfl, rfl, .inl ⟨_, rfl, _, rfl, _, _, rfl, rfl, by omega, ?_⟩⟩
            exact k _ _ _ _ (fmod_lo hm0) (fmod_hi hm0) (by omega) (Int.le_refl _) (Sib.trans sib Sib.put) (D2.to upd_same Sib.put D2.h0 D2.h1)
          · exact ⟨rfl, rfl⟩
        · exact ⟨rfl, rfl⟩
theorem ok_l_pick {f fD : Addr} {fd fdD : FuncData} (F : Fun K "_law_pick" "_law_pick" s_l_pick f fd) (T : TxtA mg) (FD : Fun K "_law_draw" "_law_draw" s_l_draw fD fdD) (b_l_draw : Binds K fdD P_l_draw []) (mgD : mg "_law_draw" = some (.ref fD)) : FnOk P w K mg base CX0 2 f fd P_l_pick (spPick K) := by
  have G_l_draw : FnOk P w K mg base CX0 1 fD fdD P_l_draw spDraw := ok_l_draw FD T
  refine F.ok sc_l_pick (fun vs H Q E h => ?_) (fun cdv A outer s H vs Q E hr h => ?_)
  · obtain ⟨p, c, cs, i, r, l, xs, rfl, _⟩ := h
    rfl
  · obtain ⟨p, c, cs, i, r, l, xs, rfl, D, hi, hL, x0, x1, ne, k⟩ := h
    refine ⟨_, (pss_one (ps_ret (pe_ix ix_list (pv 1) (pe_call G_l_draw (hr.mono (by decide)) (by rfl) mgD FD.kp b_l_draw .nil pass0 (pa_cons (pv 0) (pa_cons (pe_callB (id := "len") call_len (by rfl) T.n_len (by decide +kernel) (pa_cons (pv 1) pa_nil)) pa_nil))) (fun _ _ => rfl)))), ?_⟩
    refine ⟨_, rfl, _, rfl, _, rfl, _, xs.length, rfl, .inl ⟨_, hL, rfl⟩, p, c, cs, i, r, _, rfl, D, hi, by omega, by omega, fun z i' r' H' z0 z1 i0 i1 sib D' => ?_⟩
    have hk : z.toNat < xs.length := by omega
    have hz : atI xs z = some xs[z.toNat] := by
      unfold atI ixN
      rw [if_pos z0, if_pos z1, Option.bind_some, List.getElem?_eq_getElem hk]
    exact ⟨_, _, _, _, rfl, rfl, SqL_sib hL sib (fun e => ne e), hz, k _ i' r' H' (List.getElem_mem hk) i0 i1 sib D'⟩
end
end K16

set_option Elab.async false
set_option linter.all false
set_option maxRecDepth 100000
set_option maxHeartbeats 4000000
namespace K16
open PySem PySem.Spec PyProof.Rows L2 Pen EV2 Evl TX LamX
theorem hx0 {X : Cx} : Passes CX0 X fun _ _ _ => False := fun _ _ _ _ _ _ _ h => h.elim
section
variable {P : Program} {w : World} {K : PySem.W.Frag} {mg : Str → Option Value} {base : Heap} {f C : Addr} {fd : FuncData}
abbrev s_BadValue_init : Stmt := inClass (topS 2) 0
abbrev N_BadValue_init : List Str := ["self", "value"]
abbrev P_BadValue_init : List Str := ["self", "value"]
theorem sc_BadValue_init : FnScope N_BadValue_init P_BadValue_init (defScope s_BadValue_init) := ⟨rfl, rfl, rfl, by decide +kernel, rfl, by decide +kernel, by decide +kernel⟩
theorem ok_BadValue_init (F : Fun K "__init__" "BadValue.__init__" s_BadValue_init f fd) (O : OexC K C) (no : PySem.W.findIn K (.ref C) "value" = some none) : FnOk P w K mg base CX0 1 f fd P_BadValue_init (spI1 C "value") := by
  refine F.ok sc_BadValue_init (fun vs H Q E h => ?_) (fun cdv A outer s H vs Q E hr h => ?_)
  · obtain ⟨a, v, rfl, _⟩ := h
    rfl
  · obtain ⟨a, v, rfl, e, k⟩ := h
    exact ⟨_, pss_one (ps_ost (pv 0) (pv 1)), _, rfl, _, rfl, a, C, rfl, O, no, .inl ⟨e, k⟩⟩
theorem kp_BadValue_init (F : Fun K "__init__" "BadValue.__init__" s_BadValue_init f fd) : KBn K fd P_BadValue_init 2 [] (fun us ws => us) (fun vs zs => vs) :=
  kbn_of F (fun _ _ _ _ _ _ us ws l1 l2 => match us, ws, l1, l2 with | [_, _], [], _, _ => rfl) fun r _ => r
abbrev s_NotAName_init : Stmt := inClass (topS 4) 0
abbrev N_NotAName_init : List Str := ["self", "name"]
abbrev P_NotAName_init : List Str := ["self", "name"]
theorem sc_NotAName_init : FnScope N_NotAName_init P_NotAName_init (defScope s_NotAName_init) := ⟨rfl, rfl, rfl, by decide +kernel, rfl, by decide +kernel, by decide +kernel⟩
theorem ok_NotAName_init (F : Fun K "__init__" "NotAName.__init__" s_NotAName_init f fd) (O : OexC K C) (no : PySem.W.findIn K (.ref C) "name" = some none) : FnOk P w K mg base CX0 1 f fd P_NotAName_init (spI1 C "name") := by
  refine F.ok sc_NotAName_init (fun vs H Q E h => ?_) (fun cdv A outer s H vs Q E hr h => ?_)
  · obtain ⟨a, v, rfl, _⟩ := h
    rfl
  · obtain ⟨a, v, rfl, e, k⟩ := h
    exact ⟨_, pss_one (ps_ost (pv 0) (pv 1)), _, rfl, _, rfl, a, C, rfl, O, no, .inl ⟨e, k⟩⟩
theorem kp_NotAName_init (F : Fun K "__init__" "NotAName.__init__" s_NotAName_init f fd) : KBn K fd P_NotAName_init 2 [] (fun us ws => us) (fun vs zs => vs) :=
  kbn_of F (fun _ _ _ _ _ _ us ws l1 l2 => match us, ws, l1, l2 with | [_, _], [], _, _ => rfl) fun r _ => r
abbrev s_is_integer : Stmt := topS 7
abbrev N_is_integer : List Str := ["value"]
abbrev P_is_integer : List Str := ["value"]
theorem sc_is_integer : FnScope N_is_integer P_is_integer (defScope s_is_integer) := ⟨rfl, rfl, rfl, by decide +kernel, rfl, by decide +kernel, by decide +kernel⟩
abbrev s_check_range : Stmt := topS 9
abbrev N_check_range : List Str := ["value", "least", "most"]
abbrev P_check_range : List Str := ["value", "least", "most"]
theorem sc_check_range : FnScope N_check_range P_check_range (defScope s_check_range) := ⟨rfl, rfl, rfl, by decide +kernel, rfl, by decide +kernel, by decide +kernel⟩
abbrev s_check_string : Stmt := topS 11
abbrev N_check_string : List Str := ["value"]
abbrev P_check_string : List Str := ["value"]
theorem sc_check_string : FnScope N_check_string P_check_string (defScope s_check_string) := ⟨rfl, rfl, rfl, by decide +kernel, rfl, by decide +kernel, by decide +kernel⟩
abbrev s_letters_of : Stmt := topS 19
abbrev N_letters_of : List Str := ["column", "letters", "left", "at"]
abbrev P_letters_of : List Str := ["column"]
theorem sc_letters_of : FnScope N_letters_of P_letters_of (defScope s_letters_of) := ⟨rfl, rfl, rfl, by decide +kernel, rfl, by decide +kernel, by decide +kernel⟩
abbrev s_is_letters : Stmt := topS 26
abbrev N_is_letters : List Str := ["text"]
abbrev P_is_letters : List Str := ["text"]
theorem sc_is_letters : FnScope N_is_letters P_is_letters (defScope s_is_letters) := ⟨rfl, rfl, rfl, by decide +kernel, rfl, by decide +kernel, by decide +kernel⟩
abbrev s_is_column_text : Stmt := topS 27
abbrev N_is_column_text : List Str := ["text"]
abbrev P_is_column_text : List Str := ["text"]
theorem sc_is_column_text : FnScope N_is_column_text P_is_column_text (defScope s_is_column_text) := ⟨rfl, rfl, rfl, by decide +kernel, rfl, by decide +kernel, by decide +kernel⟩
abbrev s_column_of : Stmt := topS 20
abbrev N_column_of : List Str := ["letters", "column", "letter"]
abbrev P_column_of : List Str := ["letters"]
theorem sc_column_of : FnScope N_column_of P_column_of (defScope s_column_of) := ⟨rfl, rfl, rfl, by decide +kernel, rfl, by decide +kernel, by decide +kernel⟩
end
/-- an error that the program raises -/
structure Er (K : PySem.W.Frag) (mg : Str → Option Value) (x q : Str) (st : Stmt) (f : Str) (S C fI : Addr) (fd : FuncData) : Prop where
  gC : mg x = some (.ref C)
  ec : ErrC K C fI
  xf : XfC K C
  no : PySem.W.findIn K (.ref C) f = some none
  F : Fun K "__init__" q st fI fd
  ln : LineOf K S C
  nS : C ≠ S
/-- the addresses -/
structure Ads where
  S : Addr
  CB : Addr
  CN : Addr
  iB : Addr
  iN : Addr
  dB : FuncData
  dN : FuncData
  f_is_integer : Addr
  f_check_range : Addr
  f_check_string : Addr
  f_letters_of : Addr
  f_is_letters : Addr
  f_is_column_text : Addr
  f_column_of : Addr
  d_is_integer : FuncData
  d_check_range : FuncData
  d_check_string : FuncData
  d_letters_of : FuncData
  d_is_letters : FuncData
  d_is_column_text : FuncData
  d_column_of : FuncData
structure TxtC (K : PySem.W.Frag) (mg : Str → Option Value) (p : Ads) : Prop where
  BadValue : Er K mg "BadValue" "BadValue.__init__" s_BadValue_init "value" p.S p.CB p.iB p.dB
  NotAName : Er K mg "NotAName" "NotAName.__init__" s_NotAName_init "name" p.S p.CN p.iN p.dN
  nBN : p.CB ≠ p.CN
  n_isinstance : mg "isinstance" = none
  n_int : mg "int" = none
  n_bool : mg "bool" = none
  n_str : mg "str" = none
  n_len : mg "len" = none
  n_divmod : mg "divmod" = none
  mg_COLUMNS : ∃ t, mg "COLUMNS" = some (.int 18278 t)
  mg__LETTERS : ∃ t, mg "_LETTERS" = some (.str A26 t)
  mg_is_integer : mg "is_integer" = some (.ref p.f_is_integer)
  F_is_integer : Fun K "is_integer" "is_integer" s_is_integer p.f_is_integer p.d_is_integer
  b_is_integer : Binds K p.d_is_integer P_is_integer []
  mg_check_range : mg "check_range" = some (.ref p.f_check_range)
  F_check_range : Fun K "check_range" "check_range" s_check_range p.f_check_range p.d_check_range
  b_check_range : Binds K p.d_check_range P_check_range []
  mg_check_string : mg "check_string" = some (.ref p.f_check_string)
  F_check_string : Fun K "check_string" "check_string" s_check_string p.f_check_string p.d_check_string
  b_check_string : Binds K p.d_check_string P_check_string []
  mg_letters_of : mg "letters_of" = some (.ref p.f_letters_of)
  F_letters_of : Fun K "letters_of" "letters_of" s_letters_of p.f_letters_of p.d_letters_of
  b_letters_of : Binds K p.d_letters_of P_letters_of []
  mg_is_letters : mg "is_letters" = some (.ref p.f_is_letters)
  F_is_letters : Fun K "is_letters" "is_letters" s_is_letters p.f_is_letters p.d_is_letters
  b_is_letters : Binds K p.d_is_letters P_is_letters []
  mg_is_column_text : mg "is_column_text" = some (.ref p.f_is_column_text)
  F_is_column_text : Fun K "is_column_text" "is_column_text" s_is_column_text p.f_is_column_text p.d_is_column_text
  b_is_column_text : Binds K p.d_is_column_text P_is_column_text []
  mg_column_of : mg "column_of" = some (.ref p.f_column_of)
  F_column_of : Fun K "column_of" "column_of" s_column_of p.f_column_of p.d_column_of
  b_column_of : Binds K p.d_column_of P_column_of []

def goodK (n : String) (g : Bool) : Prop := ∃ a b, kitB n "int" = some a ∧ kitB n "bool" = some b ∧ g = (a && !b)
def spIsInt (K : PySem.W.Frag) : Sp := fun vs H Q _ => ∃ (v : V) (n : String) (g : Bool), vs = [v] ∧ Knd K H v n ∧ goodK n g ∧ ∀ H', Same H H' → Q (.bl g) H'
/-- raises BadValue of v, NotAName of v -/
def bad (C : Addr) (f : Str) (H : Hp) (v : V) (E : XK) : Prop := ∀ d H', Same H H' → H d = none → H' d = some (.xd [(f, v)]) → E (.ref C) (some d) H'
theorem bad.at {C : Addr} {f : Str} {H H' : Hp} {v : V} {E : XK} (b : bad C f H v E) (e : Ex H H') : bad C f H' v E := fun d H2 s n x => b d H2 (e.trans s) (fresh_back e n) x
def spRange (K : PySem.W.Frag) (CB : Addr) : Sp := fun vs H Q E => ∃ (v : V) (lo hi : Int) (n : String) (g : Bool), vs = [v, .int lo, .int hi] ∧ Knd K H v n ∧ goodK n g ∧
  ((∃ i, v = .int i ∧ g = true ∧ lo ≤ i ∧ i ≤ hi ∧ ∀ H', Same H H' → Q .non H') ∨ ((g = true → ∃ i, v = .int i ∧ (i < lo ∨ hi < i)) ∧ bad CB "value" H v E))
def spString (K : PySem.W.Frag) (CB : Addr) : Sp := fun vs H Q E => ∃ (v : V) (n : String) (g : Bool), vs = [v] ∧ Knd K H v n ∧ kitB n "str" = some g ∧
  (g = true → ∀ H', Same H H' → Q .non H') ∧ (g = false → bad CB "value" H v E)
section
variable {P : Program} {w : World} {K : PySem.W.Frag} {mg : Str → Option Value} {base : Heap} {p : Ads}
theorem ok_is_integer (T : TxtC K mg p) : FnOk P w K mg base CX0 1 p.f_is_integer p.d_is_integer P_is_integer (spIsInt K) := by
  refine T.F_is_integer.ok sc_is_integer (fun vs H Q E h => ?_) (fun cdv A outer s H vs Q E hr h => ?_)
  · obtain ⟨v, n, g, rfl, _⟩ := h
    rfl
  · obtain ⟨v, n, g, rfl, kn, ⟨a, b, ha, hb, rfl⟩, k⟩ := h
    refine ⟨_, (pss_one (ps_ret (pe_and (pe_callB (id := "isinstance") call_isi (by rfl) T.n_isinstance (by decide +kernel) (pa_cons (pv 0) (pa_cons (pe_bltn (v := .ty "int") (by rfl) T.n_int (by decide +kernel) rfl) pa_nil))) (pe_one (pe_not (pe_callB (id := "isinstance") call_isi (by rfl) T.n_isinstance (by decide +kernel) (pa_cons (pv 0) (pa_cons (pe_bltn (v := .ty "bool") (by rfl) T.n_bool (by decide +kernel) rfl) pa_nil)))))))), ?_⟩
    exact (ev_andV (ev_isi kn ha (ev_var rfl)) fun _ => ev_notV (ev_isi kn hb (ev_var rfl))) H (Ex.refl H) _ fun H' e => k H' e
theorem ok_check_range (T : TxtC K mg p) : FnOk P w K mg base (L2.CX P w) 3 p.f_check_range p.d_check_range P_check_range (spRange K p.CB) := by
  have G_is_integer : FnOk P w K mg base CX0 1 p.f_is_integer p.d_is_integer P_is_integer (spIsInt K) := ok_is_integer T
  refine T.F_check_range.okX sc_check_range (fun vs H Q E h => ?_) (fun cdv A outer s H vs Q E hr h => ?_)
  · obtain ⟨v, lo, hi, n, g, rfl, _⟩ := h
    rfl
  · obtain ⟨v, lo, hi, n, g, rfl, kn, hg, h⟩ := h
    refine ⟨_, (pss_one (ps_if (PW.pt (pw_or (pt_not (pt_val (pe_call G_is_integer (hr.mono (by decide)) (by rfl) T.mg_is_integer T.F_is_integer.kp T.b_is_integer .nil pass0 (pa_cons (pv 0) pa_nil)))) (pw_or (pt_cmpR op_lt (pv 0) (pv 1) (nomark _)) (pw_or1 (pt_cmpR op_gt (pv 0) (pv 2) (nomark _)))))) (pss_one (ps_raise rfl (takes_of rfl rfl rfl rfl) (pmk_R (n := 1) T.BadValue.ec (ok_BadValue_init T.BadValue.F T.BadValue.ec.ox T.BadValue.no) (hr.mono (by decide)) (by rfl) T.BadValue.gC (kp_BadValue_init T.BadValue.F) hx0 (pa_cons (pv 0) pa_nil)))) pss_nil)), ?_⟩
    have ei : Ev (tCall (spIsInt K) [] E0 (tCons (tVar 0) tNil)) [some v, some (.int lo), some (.int hi)] H (.bl g) := fun H1 e Q q => ⟨_, rfl, v, n, g, rfl, kn.ext e, hg, fun H' s => q H' s⟩
    rcases h with ⟨i, rfl, rfl, h1, h2, k⟩ | ⟨h1, k⟩
    · refine s_when (b := false) (et_is (et_or (et_not (et_B ei)) fun _ => et_or (et_test (ev_op (ev_var rfl) (ev_var rfl) rv_I0)) fun _ => et_test (ev_op (ev_var rfl) (ev_var rfl) rv_I0)) ?_) (fun z => nomatch z) fun _ H1 e1 => k H1 e1
      show (!true || (decide (i < lo) || decide (hi < i))) = false
      simp
      omega
    · cases g with
      | false =>
        refine s_when (b := true) (et_is (et_or (b := true) (et_not (et_B ei)) fun z => nomatch z) rfl) (fun _ H1 e1 => ?_) fun z => nomatch z
        exact ⟨_, rfl, rfl, rfl, by decide, rr_e1 (Q := E) fun d H' nd sm hd => k d H' (e1.trans sm) (fresh_back e1 nd) hd⟩
      | true =>
        obtain ⟨i, rfl, h2⟩ := h1 rfl
        refine s_when (b := true) (et_is (et_or (et_not (et_B ei)) fun _ => et_or (et_test (ev_op (ev_var rfl) (ev_var rfl) rv_I0)) fun _ => et_test (ev_op (ev_var rfl) (ev_var rfl) rv_I0)) ?_) (fun _ H1 e1 => ?_) fun z => nomatch z
        · show (!true || (decide (i < lo) || decide (hi < i))) = true
          simp
          omega
        · exact ⟨_, rfl, rfl, rfl, by decide, rr_e1 (Q := E) fun d H' nd sm hd => k d H' (e1.trans sm) (fresh_back e1 nd) hd⟩
theorem ok_check_string (T : TxtC K mg p) : FnOk P w K mg base (L2.CX P w) 3 p.f_check_string p.d_check_string P_check_string (spString K p.CB) := by
  refine T.F_check_string.okX sc_check_string (fun vs H Q E h => ?_) (fun cdv A outer s H vs Q E hr h => ?_)
  · obtain ⟨v, n, g, rfl, _⟩ := h
    rfl
  · obtain ⟨v, n, g, rfl, kn, hk, h1, h2⟩ := h
    refine ⟨_, (pss_one (ps_if (pt_not (pt_val (pe_callB (id := "isinstance") call_isi (by rfl) T.n_isinstance (by decide +kernel) (pa_cons (pv 0) (pa_cons (pe_bltn (v := .ty "str") (by rfl) T.n_str (by decide +kernel) rfl) pa_nil))))) (pss_one (ps_raise rfl (takes_of rfl rfl rfl rfl) (pmk_R (n := 1) T.BadValue.ec (ok_BadValue_init T.BadValue.F T.BadValue.ec.ox T.BadValue.no) (hr.mono (by decide)) (by rfl) T.BadValue.gC (kp_BadValue_init T.BadValue.F) hx0 (pa_cons (pv 0) pa_nil)))) pss_nil)), ?_⟩
    have ei := ev_isi (σ := [some v]) kn hk (ev_var (i := 0) rfl)
    cases g with
    | true => exact s_when (b := false) (et_is (et_not (et_B ei)) rfl) (fun z => nomatch z) fun _ H1 e1 => h1 rfl H1 e1
    | false =>
      refine s_when (b := true) (et_is (et_not (et_B ei)) rfl) (fun _ H1 e1 => ?_) fun z => nomatch z
      exact ⟨_, rfl, rfl, rfl, by decide, rr_e1 (Q := E) fun d H' nd sm hd => h2 rfl d H' (e1.trans sm) (fresh_back e1 nd) hd⟩
end
end K16

set_option Elab.async false
set_option linter.all false
set_option maxRecDepth 100000
set_option maxHeartbeats 4000000
namespace TX
open PySem PySem.Spec PyProof.Rows L2 Pen EV2 Evl LamX
section
variable {K : PySem.W.Frag} {σ : L2.St} {H : Hp} {ta tb tc te : TE} {r r' : R2} {x y w z : V} {k : Bool} {l : List Nat}
theorem ev_chain (ha : Ev ta σ H x) (hb : Ev tb σ H y) (hr : RV r x y H (.bl k)) (h1 : k = true → Ev tc σ H w ∧ RV r' y w H z) (h0 : k = false → z = .bl false) : Ev (tChain r r' ta tb tc) σ H z := fun H1 e Q q =>
  ha H1 e _ fun H2 e2 => hb H2 (e.trans e2) _ fun H3 e3 => hr H3 ((e.trans e2).trans e3) _ fun H4 e4 => ⟨k, rfl, by
    have e5 := (e2.trans e3).trans e4
    cases k with
    | true => exact (h1 rfl).1 H4 (e.trans e5) _ fun H5 e6 => (h1 rfl).2 H5 ((e.trans e5).trans e6) Q fun H6 e7 => q H6 ((e5.trans e6).trans e7)
    | false =>
      have g := q H4 e5
      rw [h0 rfl] at g
      exact g⟩
theorem ev_lenS (h : Ev ta σ H (.str (S l))) (hl : l.length ≤ 100000) : Ev (tCB (rLenX K) (tCons ta tNil)) σ H (.int l.length) := fun H1 e Q q =>
  h H1 e _ fun H2 e2 => ⟨_, l.length, rfl, ⟨by rw [len_S]; exact sz_of hl, (len_S l).symm⟩, q H2 e2⟩
theorem ev_len26 (h : Ev ta σ H (.str A26)) : Ev (tCB (rLenX K) (tCons ta tNil)) σ H (.int 26) := fun H1 e Q q =>
  h H1 e _ fun H2 e2 => ⟨_, 26, rfl, ⟨by decide +kernel, by decide +kernel⟩, q H2 e2⟩
theorem q_cbK {r : List V → Hp → VK → Prop} {tr : TA} {vs : List V} {g : TG} {tz : TS} {D : Ends} (h : EvA tr σ H vs) (k : ∀ H1, Ex H H1 → r vs H1 fun x H2 => g x σ H2 (tz D)) : tSeq (tAsg (tCB r tr) g) tz D σ H :=
  h H (Ex.refl H) _ fun H1 e => k H1 e
def rUpper : V → List V → Hp → VK → Prop := fun x xs H Q => ∃ a, x = .str a ∧ xs = [] ∧ a.length ≤ 5592405 ∧ Q (.str (Txt.upper a)) H
theorem ev_upper (h : Ev te σ H (.str (S l))) (ha : ∀ c ∈ l, c < 128) (hl : l.length ≤ 100000) : Ev (tBM0 K "str" rUpper te) σ H (.str (S (l.map up))) := fun H1 e Q q =>
  h H1 e _ fun H2 e2 => ⟨rfl, S l, rfl, rfl, by rw [len_S]; omega, by rw [up_S ha]; exact q H2 e2⟩
theorem ev_isascii (h : Ev te σ H (.str (S l))) (ha : ∀ c ∈ l, c < 128) : Ev (tBM0 K "str" (fun x xs H Q => ∃ a, x = .str a ∧ xs = [] ∧ True ∧ Q (.bl (Txt.isascii a)) H) te) σ H (.bl true) := fun H1 e Q q =>
  h H1 e _ fun H2 e2 => ⟨rfl, S l, rfl, rfl, True.intro, by rw [ascii_S ha]; exact q H2 e2⟩
theorem ev_isalpha (h : Ev te σ H (.str (S l))) (ha : ∀ c ∈ l, c < 128) : Ev (tBM0 K "str" (fun x xs H Q => ∃ a, x = .str a ∧ xs = [] ∧ True ∧ Q (.bl (Txt.isalpha a)) H) te) σ H (.bl (decide (0 < l.length) && l.all let1)) := fun H1 e Q q =>
  h H1 e _ fun H2 e2 => ⟨rfl, S l, rfl, rfl, True.intro, by rw [alpha_S ha]; exact q H2 e2⟩
theorem ev_index {W : WX} {c : Nat} (ha : Ev ta σ H (.str A26)) (hb : Ev tb σ H (sg c)) (h1 : 65 ≤ c) (h2 : c ≤ 90) : Ev (tBMS K "str" (rIndexX W) ta (tCons tb tNil)) σ H (.int ((c - 65 : Nat) : Int)) := fun H1 e Q q =>
  ha H1 e _ fun H2 e2 => ⟨rfl, hb H2 (e.trans e2) _ fun H3 e3 => ⟨A26, S [c], rfl, rfl, fun k hk => by
    rw [ix_of c (by omega) h1 h2] at hk
    rw [← Option.some.inj hk]
    exact q H3 (e2.trans e3), fun hn => by
    rw [ix_of c (by omega) h1 h2] at hn
    cases hn⟩⟩
end
def colText (l : List Nat) : Bool := decide (1 ≤ l.length) && decide (l.length ≤ 3) && l.all let1
theorem up_rng {l : List Nat} (h : l.all let1 = true) : ∀ c ∈ l.map up, 65 ≤ c ∧ c ≤ 90 := fun c hc => by
  obtain ⟨x, hx, rfl⟩ := List.mem_map.mp hc
  exact of_decide_eq_true (List.all_eq_true.mp h x hx)
end TX
namespace K16
open PySem PySem.Spec PyProof.Rows L2 Pen EV2 Evl TX LamX
def spLettersOf (K : PySem.W.Frag) (CB : Addr) : Sp := fun vs H Q E => ∃ v : V, vs = [v] ∧ ((∃ c : Nat, v = .int c ∧ 1 ≤ c ∧ c ≤ 18278 ∧ ∀ H', Same H H' → Q (.str (S (letsF 3 c))) H') ∨
  (∃ (n : String) (g : Bool), Knd K H v n ∧ goodK n g ∧ (g = true → ∃ i, v = .int i ∧ (i < 1 ∨ 18278 < i)) ∧ bad CB "value" H v E))
def spAlpha (f : List Nat → Bool) : Sp := fun vs H Q _ => ∃ l : List Nat, vs = [.str (S l)] ∧ (∀ c ∈ l, c < 128) ∧ l.length ≤ 1000 ∧ ∀ H', Same H H' → Q (.bl (f l)) H'
def spColumnOf (K : PySem.W.Frag) (CB CN : Addr) : Sp := fun vs H Q E => ∃ v : V, vs = [v] ∧
  ((∃ l : List Nat, v = .str (S l) ∧ (∀ c ∈ l, c < 128) ∧ l.length ≤ 1000 ∧ (colText l = true → ∀ H', Same H H' → Q (.int (val (l.map up))) H') ∧ (colText l = false → bad CN "name" H v E)) ∨
  (∃ n : String, Knd K H v n ∧ kitB n "str" = some false ∧ bad CB "value" H v E))
section
variable {P : Program} {w : World} {K : PySem.W.Frag} {mg : Str → Option Value} {base : Heap} {p : Ads}
theorem ok_letters_of (T : TxtC K mg p) : FnOk P w K mg base (L2.CX P w) 4 p.f_letters_of p.d_letters_of P_letters_of (spLettersOf K p.CB) := by
  have G_check_range : FnOk P w K mg base (L2.CX P w) 3 p.f_check_range p.d_check_range P_check_range (spRange K p.CB) := ok_check_range T
  obtain ⟨tC, hCOL⟩ := T.mg_COLUMNS
  obtain ⟨tL, hLET⟩ := T.mg__LETTERS
  refine T.F_letters_of.okX sc_letters_of (fun vs H Q E h => ?_) (fun cdv A outer s H vs Q E hr h => ?_)
  · obtain ⟨v, rfl, _⟩ := h
    rfl
  · obtain ⟨v, rfl, h⟩ := h
    refine ⟨_, (pss_cons (ps_expr (pe_call G_check_range (hr.mono (by decide)) (by rfl) T.mg_check_range T.F_check_range.kp T.b_check_range .nil (passes_call (takes_of rfl rfl rfl rfl) fun _ _ _ _ h => h) (pa_cons (pv 0) (pa_cons pe_int (pa_cons (pe_glob (v := .int 18278) (by rfl) hCOL ⟨_, rfl⟩) pa_nil)))))
      (pss_cons (ps_set (i := 1) sc_letters_of.nd rfl (Or.inl rfl) pe_str)
      (pss_cons (ps_set (i := 2) sc_letters_of.nd rfl (Or.inl rfl) (pv 0))
      (pss_cons (ps_while (passes_of rfl) (pt_cmpR op_gt (pv 2) pe_int (nomark _)) (pss_cons (ps_asg (pe_callB (id := "divmod") call_divmod (by rfl) T.n_divmod (by decide +kernel) (pa_cons (pe_op op_sub (pv 2) pe_int) (pa_cons (pe_callB (id := "len") call_len (by rfl) T.n_len (by decide +kernel) (pa_cons (pe_glob (v := .str A26) (by rfl) hLET ⟨_, rfl⟩) pa_nil)) pa_nil))) (pg_tup (by rfl) (pgs_cons (pg_name (i := 2) sc_letters_of.nd rfl (Or.inl rfl)) (pgs_cons (pg_name (i := 3) sc_letters_of.nd rfl (Or.inl rfl)) pgs_nil))))
      (pss_one (ps_set (i := 1) sc_letters_of.nd rfl (Or.inl rfl) (pe_op op_add_str (pe_ix ix_str (pe_glob (v := .str A26) (by rfl) hLET ⟨_, rfl⟩) (pv 3) (fun _ _ => rfl)) (pv 1))))))
      (pss_one (ps_ret (pv 1))))))), ?_⟩
    rcases h with ⟨c, rfl, c1, c2, k⟩ | ⟨n, g, kn, hg, h1, k⟩
    · refine q_drop (v := .non) (fun H1 e Q q => ⟨_, rfl, .int c, 1, 18278, "int", true, rfl, knd_int, ⟨true, false, by decide +kernel, by decide +kernel, rfl⟩, .inl ⟨c, rfl, rfl, by omega, by omega, fun H' s => q H' s⟩⟩) fun H1 e1 => ?_
      refine q_asg ev_c fun H2 e2 => ?_
      refine q_asg (ev_var rfl) fun H3 e3 => ?_
      have e03 := (e1.trans e2).trans e3
      refine q_while (fun m σ' H' => ∃ (l f : Nat) (acc : List Nat) (at_ : Option V), σ' = [some (.int c), some (.str (S acc)), some (.int l), at_] ∧ letsF f l ++ acc = letsF 3 c ∧ l < bnd f ∧ l = m ∧ Ex H H') c ⟨c, 3, [], none, rfl, List.append_nil _, by show c < 18279; omega, rfl, e03⟩ ?_
      rintro m σ' H4 ⟨l, f, acc, at_, rfl, hL, hb, rfl, e4⟩
      refine ⟨_, et_test (ev_op (ev_var rfl) ev_c rv_I0), fun ht H5 e5 => ?_, fun hf H5 e5 => ?_⟩
      · have hl : (0 : Int) < l := of_decide_eq_true ht
        obtain ⟨n, rfl⟩ : ∃ n, l = n + 1 := ⟨l - 1, by omega⟩
        obtain ⟨f, rfl⟩ : ∃ g, f = g + 1 := by
          cases f with
          | zero => exact absurd hb (by show ¬ n + 1 < 1; omega)
          | succ g => exact ⟨g, rfl⟩
        have hacc : acc.length ≤ 3 := by
          have z := congrArg List.length hL
          rw [List.length_append] at z
          have := lets_len 3 c
          omega
        refine ⟨_, fun σ2 H2 n => n, ?_⟩
        have q1 : ((n + 1 : Nat) : Int) - 1 = (n : Int) := by omega
        refine q_cbK (ea_cons (ev_op (ev_var rfl) ev_c rv_I0) (ea_cons (ev_len26 (K := K) ev_c) ea_nil)) fun H6 e6 => ⟨_, _, rfl, ⟨by decide, by decide⟩, fun t ht => ?_⟩
        refine ⟨t, _, rfl, st_of upd_same, rfl, _, _, rfl, _, _, rfl, rfl, ?_⟩
        have e7 := (e4.trans e5).trans (e6.trans (Ex.new (o := .tup [.int ((((n + 1 : Nat) : Int) - 1) / 26), .int ((((n + 1 : Nat) : Int) - 1) % 26)]) ht))
        have hm : n % 26 < 26 := Nat.mod_lt _ (by decide)
        show tAsg _ _ _ _ _
        have q2 : (((n + 1 : Nat) : Int) - 1) % 26 = ((n % 26 : Nat) : Int) := by omega
        have q3 : (((n + 1 : Nat) : Int) - 1) / 26 = ((n / 26 : Nat) : Int) := by omega
        rw [q2, q3]
        refine s_asg (v := .str (S ([65 + n % 26] ++ acc))) ?hv fun H8 e8 => ?hk
        case hv =>
          refine ev_addS (l := [65 + n % 26]) (m := acc) ?_ (ev_var rfl) (by show 1 + acc.length ≤ 100000; omega)
          exact ev_op ev_c (ev_var rfl) (rv_ixS (w := A26) (by decide +kernel) (at_of _ hm))
        case hk =>
          rw [q2, q3] at e7
          refine ⟨n / 26, by omega, n / 26, f, [65 + n % 26] ++ acc, _, rfl, ?_, bnd_div hb, rfl, e7.trans e8⟩
          rw [← List.append_assoc, ← lets_succ]
          exact hL
      · have hl : l = 0 := by
          have : ¬ (0 : Int) < l := of_decide_eq_false hf
          omega
        subst hl
        rw [lets_zero] at hL
        have hL : acc = letsF 3 c := hL
        subst hL
        exact ⟨_, rfl, k H5 (e4.trans e5)⟩
    · exact ⟨_, rfl, v, 1, 18278, n, g, rfl, kn, hg, .inr ⟨h1, k⟩⟩
theorem ok_is_letters (T : TxtC K mg p) : FnOk P w K mg base CX0 1 p.f_is_letters p.d_is_letters P_is_letters (spAlpha fun l => decide (0 < l.length) && l.all let1) := by
  refine T.F_is_letters.ok sc_is_letters (fun vs H Q E h => ?_) (fun cdv A outer s H vs Q E hr h => ?_)
  · obtain ⟨l, rfl, _⟩ := h
    rfl
  · obtain ⟨l, rfl, ha, hl, k⟩ := h
    refine ⟨_, (pss_one (ps_ret (pe_and (pe_bm0 PySem.F.plainAttrs_str PySem.F.slot_str_isascii PySem.F.type_str_isascii mt_isascii (pv 0)) (pe_one (pe_bm0 PySem.F.plainAttrs_str PySem.F.slot_str_isalpha PySem.F.type_str_isalpha mt_isalpha (pv 0)))))), ?_⟩
    exact (ev_andV (ev_isascii (K := K) (ev_var rfl) ha) fun _ => ev_isalpha (K := K) (ev_var rfl) ha) H (Ex.refl H) _ fun H' e => k H' e
theorem ok_is_column_text (T : TxtC K mg p) : FnOk P w K mg base CX0 2 p.f_is_column_text p.d_is_column_text P_is_column_text (spAlpha colText) := by
  have G_is_letters : FnOk P w K mg base CX0 1 p.f_is_letters p.d_is_letters P_is_letters (spAlpha fun l => decide (0 < l.length) && l.all let1) := ok_is_letters T
  refine T.F_is_column_text.ok sc_is_column_text (fun vs H Q E h => ?_) (fun cdv A outer s H vs Q E hr h => ?_)
  · obtain ⟨l, rfl, _⟩ := h
    rfl
  · obtain ⟨l, rfl, ha, hl, k⟩ := h
    refine ⟨_, (pss_one (ps_ret (pe_and (pe_chain op_le op_le pe_int (pe_callB (id := "len") call_len (by rfl) T.n_len (by decide +kernel) (pa_cons (pv 0) pa_nil)) pe_int) (pe_one (pe_call G_is_letters (hr.mono (by decide)) (by rfl) T.mg_is_letters T.F_is_letters.kp T.b_is_letters .nil pass0 (pa_cons (pv 0) pa_nil)))))), ?_⟩
    have e1 : Ev (tCall (spAlpha fun l => decide (0 < l.length) && l.all let1) [] E0 (tCons (tVar 0) tNil)) [some (.str (S l))] H (.bl (decide (0 < l.length) && l.all let1)) := fun H1 e Q q => ⟨_, rfl, l, rfl, ha, hl, fun H' s => q H' s⟩
    refine (ev_andV (a := decide (1 ≤ l.length) && decide (l.length ≤ 3)) (ev_chain (k := decide ((1 : Int) ≤ l.length)) ev_c (ev_lenS (K := K) (ev_var rfl) (by omega)) rv_I0 (fun h1 => ⟨ev_c, fun H1 e Q q => ⟨_, _, rfl, rfl, ?g1⟩⟩) (fun h0 => ?g2)) fun _ => e1) H (Ex.refl H) _ fun H' e => ?g3
    case g1 =>
      have z : decide ((l.length : Int) ≤ 3) = (decide (1 ≤ l.length) && decide (l.length ≤ 3)) := by
        have h2 : (1 : Int) ≤ l.length := of_decide_eq_true h1
        have h3 : 1 ≤ l.length := by omega
        rw [decide_eq_true h3, Bool.true_and]
        exact decide_eq_decide.mpr (by omega)
      show Q (.bl (decide ((l.length : Int) ≤ 3))) H1
      rw [z]
      exact q H1 (Ex.refl H1)
    case g2 =>
      have h2 : ¬ (1 : Int) ≤ l.length := of_decide_eq_false h0
      rw [decide_eq_false (show ¬ 1 ≤ l.length by omega)]
      rfl
    case g3 =>
      have z : (decide (1 ≤ l.length) && decide (l.length ≤ 3) && (decide (0 < l.length) && l.all let1)) = colText l := by
        unfold colText
        by_cases h : 1 ≤ l.length
        · rw [decide_eq_true (show 0 < l.length from h)]
          simp
        · rw [decide_eq_false h]
          simp
      have g := k H' e
      rw [← z] at g
      exact g
theorem ok_column_of (T : TxtC K mg p) : FnOk P w K mg base (L2.CX P w) 4 p.f_column_of p.d_column_of P_column_of (spColumnOf K p.CB p.CN) := by
  have G_check_string : FnOk P w K mg base (L2.CX P w) 3 p.f_check_string p.d_check_string P_check_string (spString K p.CB) := ok_check_string T
  have G_is_column_text : FnOk P w K mg base CX0 2 p.f_is_column_text p.d_is_column_text P_is_column_text (spAlpha colText) := ok_is_column_text T
  obtain ⟨tL, hLET⟩ := T.mg__LETTERS
  refine T.F_column_of.okX sc_column_of (fun vs H Q E h => ?_) (fun cdv A outer s H vs Q E hr h => ?_)
  · obtain ⟨v, rfl, _⟩ := h
    rfl
  · obtain ⟨v, rfl, h⟩ := h
    refine ⟨_, (pss_cons (ps_expr (pe_call G_check_string (hr.mono (by decide)) (by rfl) T.mg_check_string T.F_check_string.kp T.b_check_string .nil (passes_call (takes_of rfl rfl rfl rfl) fun _ _ _ _ h => h) (pa_cons (pv 0) pa_nil)))
      (pss_cons (ps_if (pt_not (pt_val (pe_call G_is_column_text (hr.mono (by decide)) (by rfl) T.mg_is_column_text T.F_is_column_text.kp T.b_is_column_text .nil pass0 (pa_cons (pv 0) pa_nil)))) (pss_one (ps_raise rfl (takes_of rfl rfl rfl rfl) (pmk_R (n := 1) T.NotAName.ec (ok_NotAName_init T.NotAName.F T.NotAName.ec.ox T.NotAName.no) (hr.mono (by decide)) (by rfl) T.NotAName.gC (kp_NotAName_init T.NotAName.F) hx0 (pa_cons (pv 0) pa_nil)))) pss_nil)
      (pss_cons (ps_set (i := 1) sc_column_of.nd rfl (Or.inl rfl) pe_int)
      (pss_cons (ps_for (passes_of rfl) rfl (pi_str (pe_bm0 PySem.F.plainAttrs_str PySem.F.slot_str_upper PySem.F.type_str_upper mt_upper (pv 0))) (pg_name (i := 2) sc_column_of.nd rfl (Or.inl rfl)) (pss_one (ps_set (i := 1) sc_column_of.nd rfl (Or.inl rfl) (pe_op op_add (pe_op op_add (pe_op op_mul (pv 1) (pe_callB (id := "len") call_len (by rfl) T.n_len (by decide +kernel) (pa_cons (pe_glob (v := .str A26) (by rfl) hLET ⟨_, rfl⟩) pa_nil))) (pe_bmS PySem.F.plainAttrs_str PySem.F.slot_str_index PySem.F.type_str_index (mt_indexX rfl (takes_of rfl rfl rfl rfl)) (pe_glob (v := .str A26) (by rfl) hLET ⟨_, rfl⟩) (pa_cons (pv 2) pa_nil))) pe_int))))
      (pss_one (ps_ret (pv 1))))))), ?_⟩
    rcases h with ⟨l, rfl, ha, hl, h1, h2⟩ | ⟨n, kn, hk, h1⟩
    · refine q_drop (v := .non) (fun H1 e Q q => ⟨_, rfl, .str (S l), "str", true, rfl, knd_str, by decide +kernel, fun _ H' s => q H' s, fun z => nomatch z⟩) fun H1 e1 => ?_
      have ec : Ev (tCall (spAlpha colText) [] E0 (tCons (tVar 0) tNil)) [some (.str (S l)), none, none] H1 (.bl (colText l)) := fun H2 e Q q => ⟨_, rfl, l, rfl, ha, hl, fun H' s => q H' s⟩
      refine q_when (et_not (et_B ec)) (fun hb H2 e2 => ?_) (fun hb H2 e2 => ?_)
      · have hb : colText l = false := by simpa using hb
        exact ⟨_, rfl, rfl, rfl, by decide, rr_e1 (Q := E) fun d H' nd sm hd => h2 hb d H' ((e1.trans e2).trans sm) (fresh_back (e1.trans e2) nd) hd⟩
      · have hb : colText l = true := by simpa using hb
        have hall : l.all let1 = true := by
          unfold colText at hb
          simp only [Bool.and_eq_true] at hb
          exact hb.2
        have rng := up_rng hall
        refine q_asg ev_c fun H3 e3 => ?_
        have e03 := (e1.trans e2).trans e3
        refine q_forS (ev_upper (K := K) (ev_var rfl) ha (by omega)) (fun i σ' H' => ∃ lt : Option V, σ' = [some (.str (S l)), some (.int (val ((l.map up).take i))), lt] ∧ Ex H H') (fun H4 e4 => ⟨_, rfl, e03.trans e4⟩) ?_ ?_
        · rintro i c σ' H4 hc ⟨lt, rfl, e4⟩
          have hm := rng c (List.mem_of_getElem? hc)
          have tk : (l.map up).take (i + 1) = (l.map up).take i ++ [c] := by
            rw [List.take_add_one, hc]
            rfl
          refine s_asg (v := .int (val ((l.map up).take (i + 1)))) ?_ fun H5 e5 => ⟨_, rfl, e4.trans e5⟩
          rw [tk, val_snoc]
          exact ev_op (ev_op (ev_op (ev_var rfl) (ev_len26 (K := K) ev_c) (rv_I (.inr ⟨by decide, by decide⟩))) (ev_index (K := K) ev_c (ev_var rfl) hm.1 hm.2) rv_I0) ev_c rv_I0
        · rintro σ' H4 ⟨lt, rfl, e4⟩
          rw [List.take_length]
          exact ⟨_, rfl, h1 hb H4 e4⟩
    · exact ⟨_, rfl, v, n, false, rfl, kn, hk, (fun z => nomatch z), fun _ => h1⟩
end
end K16

set_option Elab.async false
set_option linter.all false
set_option maxRecDepth 100000
set_option maxHeartbeats 4000000
namespace TX
open PySem PySem.Spec PyProof.Rows L2 Pen EV2 Evl LamX
section
variable {K : PySem.W.Frag} {σ : L2.St} {H : Hp} {ta tb tc te : TE} {t : TT} {v : V} {b : Bool} {l : List Nat} {c : Nat}
theorem ev_if (h : EvT t σ H b) (h1 : b = true → Ev ta σ H v) (h2 : b = false → Ev tb σ H v) : Ev (tIf t ta tb) σ H v := fun H1 e Q q =>
  h H1 e _ fun H2 e2 => by
    cases b with
    | true => exact h1 rfl H2 (e.trans e2) Q fun H3 e3 => q H3 (e2.trans e3)
    | false => exact h2 rfl H2 (e.trans e2) Q fun H3 e3 => q H3 (e2.trans e3)
theorem ev_inA (ha : Ev ta σ H (sg c)) (hb : Ev tb σ H (.str A26)) (hc : c < 128) : Ev (tOp rInS ta tb) σ H (.bl (decide (65 ≤ c ∧ c ≤ 90))) := fun H1 e Q q =>
  ha H1 e _ fun H2 e2 => hb H2 (e.trans e2) _ fun H3 e3 => ⟨c, A26, rfl, rfl, by
    rw [in_of c hc]
    exact q H3 (e2.trans e3)⟩
theorem inV_false (f : Nat → Bool) : ∀ l : List Nat, (!inV (.bl false) (l.map fun c => V.bl (f c))) = l.all f
  | [] => rfl
  | c :: l => by
    have ih := inV_false f l
    show (!(eqV (.bl (f c)) (.bl false) || inV (.bl false) (l.map fun c => V.bl (f c)))) = (f c && l.all f)
    rw [← ih]
    cases f c <;> cases inV (.bl false) (l.map fun c => V.bl (f c)) <;> rfl
theorem flat_bls (f : Nat → Bool) : ∀ l : List Nat, (l.map fun c => V.bl (f c)).all flatV = true
  | [] => rfl
  | c :: l => by
    show (flatV (.bl (f c)) && (l.map fun c => V.bl (f c)).all flatV) = true
    rw [flat_bls f l]
    rfl
def rLower : V → List V → Hp → VK → Prop := fun x xs H Q => ∃ a, x = .str a ∧ xs = [] ∧ a.length ≤ 5592405 ∧ Q (.str (Txt.lower a)) H
theorem ev_lower (h : Ev te σ H (sg c)) (hc : c < 128) : Ev (tBM0 K "str" rLower te) σ H (sg (low c)) := fun H1 e Q q =>
  h H1 e _ fun H2 e2 => ⟨rfl, S [c], rfl, rfl, by rw [len_S]; show 1 ≤ 5592405; decide, by rw [low_of c hc]; exact q H2 e2⟩
theorem up_low {c : Nat} (h : 65 ≤ c ∧ c ≤ 90) : up (low c) = c ∧ low c < 128 := by
  unfold up low
  rw [if_pos h, if_pos (by omega)]
  omega
theorem up_cap {c : Nat} (h : 65 ≤ c ∧ c ≤ 90) : up c = c ∧ c < 128 := by
  unfold up
  rw [if_neg (by omega)]
  omega
end
end TX
namespace K16
open PySem PySem.Spec PyProof.Rows L2 Pen EV2 Evl TX LamX
abbrev s_l_signs : Stmt := topS 35
abbrev N_l_signs : List Str := []
abbrev P_l_signs : List Str := []
theorem sc_l_signs : FnScope N_l_signs P_l_signs (defScope s_l_signs) := ⟨rfl, rfl, rfl, by decide +kernel, rfl, by decide +kernel, by decide +kernel⟩
abbrev s_l_letters : Stmt := topS 36
abbrev N_l_letters : List Str := ["_law_column_here", "_law_found", "_law_left", "_law_turn"]
abbrev P_l_letters : List Str := ["_law_column_here"]
theorem sc_l_letters : FnScope N_l_letters P_l_letters (defScope s_l_letters) := ⟨rfl, rfl, rfl, by decide +kernel, rfl, by decide +kernel, by decide +kernel⟩
abbrev s_l_column : Stmt := topS 37
abbrev N_l_column : List Str := ["_law_letters_here", "_law_found", "_law_sign"]
abbrev P_l_column : List Str := ["_law_letters_here"]
theorem sc_l_column : FnScope N_l_column P_l_column (defScope s_l_column) := ⟨rfl, rfl, rfl, by decide +kernel, rfl, by decide +kernel, by decide +kernel⟩
abbrev s_l_is_letters : Stmt := topS 38
abbrev N_l_is_letters : List Str := ["_law_text", "_law_sign"]
abbrev P_l_is_letters : List Str := ["_law_text"]
theorem sc_l_is_letters : FnScope N_l_is_letters P_l_is_letters (defScope s_l_is_letters) := ⟨rfl, rfl, rfl, by decide +kernel, rfl, by decide +kernel, by decide +kernel⟩
abbrev s_l_mixed_case : Stmt := topS 40
abbrev N_l_mixed_case : List Str := ["_law_pen_here", "_law_text", "_law_found", "_law_sign"]
abbrev P_l_mixed_case : List Str := ["_law_pen_here", "_law_text"]
theorem sc_l_mixed_case : FnScope N_l_mixed_case P_l_mixed_case (defScope s_l_mixed_case) := ⟨rfl, rfl, rfl, by decide +kernel, rfl, by decide +kernel, by decide +kernel⟩
abbrev s_l_told : Stmt := topS 43
abbrev N_l_told : List Str := ["_law_call", "_law_told_here", "e"]
abbrev P_l_told : List Str := ["_law_call"]
theorem sc_l_told : FnScope N_l_told P_l_told (defScope s_l_told) := ⟨rfl, rfl, rfl, by decide +kernel, rfl, by decide +kernel, by decide +kernel⟩
structure AdL where
  f_signs : Addr
  d_signs : FuncData
  f_letters : Addr
  d_letters : FuncData
  f_column : Addr
  d_column : FuncData
  f_is_letters : Addr
  d_is_letters : FuncData
  f_mixed_case : Addr
  d_mixed_case : FuncData
  f_pick : Addr
  d_pick : FuncData
  f_draw : Addr
  d_draw : FuncData
  f_pen : Addr
  d_pen : FuncData
structure TxtH (K : PySem.W.Frag) (mg : Str → Option Value) (p : AdL) : Prop where
  n_list : mg "list" = none
  n_int : mg "int" = none
  n_len : mg "len" = none
  n_range : mg "range" = none
  n_min : mg "min" = none
  n_max : mg "max" = none
  mg_l_signs : mg "_law_signs" = some (.ref p.f_signs)
  F_l_signs : Fun K "_law_signs" "_law_signs" s_l_signs p.f_signs p.d_signs
  b_l_signs : Binds K p.d_signs P_l_signs []
  mg_l_letters : mg "_law_letters" = some (.ref p.f_letters)
  F_l_letters : Fun K "_law_letters" "_law_letters" s_l_letters p.f_letters p.d_letters
  b_l_letters : Binds K p.d_letters P_l_letters []
  mg_l_column : mg "_law_column" = some (.ref p.f_column)
  F_l_column : Fun K "_law_column" "_law_column" s_l_column p.f_column p.d_column
  b_l_column : Binds K p.d_column P_l_column []
  mg_l_is_letters : mg "_law_is_letters" = some (.ref p.f_is_letters)
  F_l_is_letters : Fun K "_law_is_letters" "_law_is_letters" s_l_is_letters p.f_is_letters p.d_is_letters
  b_l_is_letters : Binds K p.d_is_letters P_l_is_letters []
  mg_l_mixed_case : mg "_law_mixed_case" = some (.ref p.f_mixed_case)
  F_l_mixed_case : Fun K "_law_mixed_case" "_law_mixed_case" s_l_mixed_case p.f_mixed_case p.d_mixed_case
  b_l_mixed_case : Binds K p.d_mixed_case P_l_mixed_case []
  mg_l_pick : mg "_law_pick" = some (.ref p.f_pick)
  F_l_pick : Fun K "_law_pick" "_law_pick" s_l_pick p.f_pick p.d_pick
  b_l_pick : Binds K p.d_pick P_l_pick []
  mg_l_draw : mg "_law_draw" = some (.ref p.f_draw)
  F_l_draw : Fun K "_law_draw" "_law_draw" s_l_draw p.f_draw p.d_draw
  b_l_draw : Binds K p.d_draw P_l_draw []
  mg_l_pen : mg "_law_pen" = some (.ref p.f_pen)
  F_l_pen : Fun K "_law_pen" "_law_pen" s_l_pen p.f_pen p.d_pen
  b_l_pen : Binds K p.d_pen P_l_pen []

def spSigns : Sp := fun vs H Q _ => vs = [] ∧ ∀ H', Same H H' → Q (.str A26) H'
def spLetters : Sp := fun vs H Q _ => ∃ c : Nat, vs = [.int c] ∧ 1 ≤ c ∧ c ≤ 18278 ∧ ∀ H', Same H H' → Q (.str (S (letsF 3 c))) H'
def spColumn : Sp := fun vs H Q _ => ∃ l : List Nat, vs = [.str (S l)] ∧ (∀ c ∈ l, c < 128) ∧ l.length ≤ 1000 ∧ l.all let1 = true ∧ ∀ H', Same H H' → Q (.int (val (l.map up))) H'
/-- capital letters, some of them made small -/
def spMixed : Sp := fun vs H Q _ => ∃ (q c : Addr) (cs : List Int) (i r : Int) (l : List Nat), vs = [.ref q, .str (S l)] ∧ PenAt H q c cs i r ∧ i < 2 ^ 38 ∧ (∀ x ∈ l, 65 ≤ x ∧ x ≤ 90) ∧ l.length ≤ 1000 ∧
  ∀ (m : List Nat) (i' r' : Int) (H' : Hp), m.map up = l → (∀ x ∈ m, x < 128) → i ≤ i' → i' ≤ i + l.length → Sib q H H' → PenAt H' q c cs i' r' → Q (.str (S m)) H'
section
variable {P : Program} {w : World} {K : PySem.W.Frag} {mg : Str → Option Value} {base : Heap} {p : AdL}
theorem ok_l_signs (T : TxtH K mg p) : FnOk P w K mg base CX0 1 p.f_signs p.d_signs P_l_signs spSigns := by
  refine T.F_l_signs.ok sc_l_signs (fun vs H Q E h => ?_) (fun cdv A outer s H vs Q E hr h => ?_)
  · obtain ⟨rfl, _⟩ := h
    rfl
  · obtain ⟨rfl, k⟩ := h
    refine ⟨_, (pss_one (ps_ret pe_str)), ?_⟩
    exact k H (Same.refl H)
theorem ev_signs {σ : L2.St} {H : Hp} : Ev (tCall spSigns [] E0 tNil) σ H (.str A26) := fun H1 e Q q => ⟨rfl, fun H' s => q H' s⟩
theorem ok_l_letters (T : TxtH K mg p) : FnOk P w K mg base CX0 2 p.f_letters p.d_letters P_l_letters spLetters := by
  have G_l_signs : FnOk P w K mg base CX0 1 p.f_signs p.d_signs P_l_signs spSigns := ok_l_signs T
  refine T.F_l_letters.ok sc_l_letters (fun vs H Q E h => ?_) (fun cdv A outer s H vs Q E hr h => ?_)
  · obtain ⟨c, rfl, _⟩ := h
    rfl
  · obtain ⟨c, rfl, c1, c2, k⟩ := h
    refine ⟨_, (pss_cons (ps_par (i := 1) (j := 2) (by rfl) sc_l_letters.nd rfl rfl (by decide) rfl rfl (pa_cons pe_str (pa_cons (pv 0) pa_nil)) (by rfl))
      (pss_cons (ps_for PassesOwn.never rfl (pi_range1 (by rfl) T.n_range (pa_cons pe_int pa_nil)) (pg_name (i := 3) sc_l_letters.nd rfl (Or.inl rfl)) (pss_one (ps_if (pt_cmpR op_gt (pv 2) pe_int (nomark _)) (pss_cons (ps_set (i := 1) sc_l_letters.nd rfl (Or.inl rfl) (pe_op op_add_str (pe_ix ix_str (pe_call0 G_l_signs (hr.mono (by decide)) (by rfl) T.mg_l_signs T.F_l_signs.kp T.b_l_signs .nil pass0) (pe_op op_modN (pe_callTy (T := "int") call_int1 (by rfl) T.n_int (by decide +kernel) (pa_cons (pe_op op_sub (pv 2) pe_int) pa_nil)) pe_int) (fun _ _ => rfl)) (pv 1)))
      (pss_one (ps_set (i := 2) sc_l_letters.nd rfl (Or.inl rfl) (pe_op op_fdivN (pe_op op_sub (pv 2) pe_int) pe_int)))) pss_nil)))
      (pss_one (ps_ret (pv 1))))), ?_⟩
    refine ⟨_, rfl, _, _, rfl, ?_⟩
    dsimp only
    refine q_forR1 (n := 3) (ea_cons ev_c ea_nil) (by decide) (fun i σ' H' => ∃ (l f : Nat) (acc : List Nat) (t : Option V), σ' = [some (.int c), some (.str (S acc)), some (.int l), t] ∧ letsF f l ++ acc = letsF 3 c ∧ l < bnd f ∧ f + i = 3 ∧ Ex H H')
      (fun H1 e1 => ⟨c, 3, [], none, rfl, List.append_nil _, by show c < 18279; omega, rfl, e1⟩) ?_ ?_
    · rintro i σ' H1 hi ⟨l, f, acc, t, rfl, hL, hb, hf, e1⟩
      obtain ⟨f, rfl⟩ : ∃ g, f = g + 1 := ⟨f - 1, by omega⟩
      refine s_when (et_test (ev_op (ev_var rfl) ev_c rv_I0)) (fun ht H2 e2 => ?_) (fun hn H2 e2 => ?_)
      · have hl : (0 : Int) < l := of_decide_eq_true ht
        obtain ⟨n, rfl⟩ : ∃ n, l = n + 1 := ⟨l - 1, by omega⟩
        have hacc : acc.length ≤ 3 := by
          have z := congrArg List.length hL
          rw [List.length_append] at z
          have := lets_len 3 c
          omega
        have hm : n % 26 < 26 := Nat.mod_lt _ (by decide)
        have q1 : (((n + 1 : Nat) : Int) - 1) = n := by omega
        refine q_asg (v := .str (S ([65 + n % 26] ++ acc))) ?hv fun H3 e3 => ?hk
        case hv =>
          refine ev_addS (l := [65 + n % 26]) (m := acc) ?_ (ev_var rfl) (by show 1 + acc.length ≤ 100000; omega)
          refine ev_op ev_signs (ev_op (ev_intI (ev_op (ev_var rfl) ev_c rv_I0)) ev_c (rv_I (by decide))) ?_
          have q2 : (((n + 1 : Nat) : Int) - 1).fmod 26 = ((n % 26 : Nat) : Int) := by
            rw [q1, Int.fmod_eq_emod_of_nonneg _ (by decide)]
            omega
          show RV _ _ (.int ((((n + 1 : Nat) : Int) - 1).fmod 26)) _ _
          rw [q2]
          exact rv_ixS (w := A26) (by decide +kernel) (at_of _ hm)
        case hk =>
          refine s_asg (v := .int ((n / 26 : Nat) : Int)) ?_ fun H4 e4 => ?_
          · have q3 : (((n + 1 : Nat) : Int) - 1).fdiv 26 = ((n / 26 : Nat) : Int) := by
              rw [q1, Int.fdiv_eq_ediv_of_nonneg _ (by decide)]
              omega
            rw [← q3]
            exact ev_op (ev_op (ev_var rfl) ev_c rv_I0) ev_c (rv_I ⟨by decide, by decide⟩)
          · refine ⟨n / 26, f, [65 + n % 26] ++ acc, _, rfl, ?_, bnd_div hb, by omega, (e1.trans e2).trans (e3.trans e4)⟩
            rw [← List.append_assoc, ← lets_succ]
            exact hL
      · have hl : l = 0 := by
          have : ¬ (0 : Int) < l := of_decide_eq_false hn
          omega
        subst hl
        refine ⟨0, f, acc, _, rfl, ?_, ?_, by omega, e1.trans e2⟩
        · rw [lets_zero] at hL ⊢
          exact hL
        · cases f with
          | zero => decide
          | succ g => exact Nat.succ_pos _
    · rintro σ' H1 ⟨l, f, acc, t, rfl, hL, hb, hf, e1⟩
      have hf0 : f = 0 := by
        have : (3 : Int).toNat = 3 := rfl
        omega
      subst hf0
      have hL : acc = letsF 3 c := hL
      subst hL
      exact ⟨_, rfl, k H1 e1⟩
theorem ok_l_column (T : TxtH K mg p) : FnOk P w K mg base CX0 2 p.f_column p.d_column P_l_column spColumn := by
  have G_l_signs : FnOk P w K mg base CX0 1 p.f_signs p.d_signs P_l_signs spSigns := ok_l_signs T
  refine T.F_l_column.ok sc_l_column (fun vs H Q E h => ?_) (fun cdv A outer s H vs Q E hr h => ?_)
  · obtain ⟨l, rfl, _⟩ := h
    rfl
  · obtain ⟨l, rfl, ha, hl, hall, k⟩ := h
    refine ⟨_, (pss_cons (ps_set (i := 1) sc_l_column.nd rfl (Or.inl rfl) pe_int)
      (pss_cons (ps_for PassesOwn.never rfl (pi_str (pe_bm0 (r := rUpper) PySem.F.plainAttrs_str PySem.F.slot_str_upper PySem.F.type_str_upper mt_upper (pv 0))) (pg_name (i := 2) sc_l_column.nd rfl (Or.inl rfl)) (pss_one (ps_set (i := 1) sc_l_column.nd rfl (Or.inl rfl) (pe_op op_add (pe_op op_add (pe_op op_mul (pv 1) pe_int) pe_int) (pe_bmS PySem.F.plainAttrs_str PySem.F.slot_str_index PySem.F.type_str_index (mt_indexX rfl takes_none5) (pe_call0 G_l_signs (hr.mono (by decide)) (by rfl) T.mg_l_signs T.F_l_signs.kp T.b_l_signs .nil pass0) (pa_cons (pv 2) pa_nil))))))
      (pss_one (ps_ret (pv 1))))), ?_⟩
    have rng := up_rng hall
    refine q_asg ev_c fun H0 e0 => ?_
    refine q_forS (ev_upper (K := K) (ev_var rfl) ha (by omega)) (fun i σ' H' => ∃ lt : Option V, σ' = [some (.str (S l)), some (.int (val ((l.map up).take i))), lt] ∧ Ex H H') (fun H4 e4 => ⟨_, rfl, e0.trans e4⟩) ?_ ?_
    · rintro i c σ' H4 hc ⟨lt, rfl, e4⟩
      have hm := rng c (List.mem_of_getElem? hc)
      have tk : (l.map up).take (i + 1) = (l.map up).take i ++ [c] := by
        rw [List.take_add_one, hc]
        rfl
      refine s_asg (v := .int (val ((l.map up).take (i + 1)))) ?_ fun H5 e5 => ⟨_, rfl, e4.trans e5⟩
      have z : val ((l.map up).take (i + 1)) = val ((l.map up).take i) * 26 + 1 + ((c - 65 : Nat) : Int) := by
        rw [tk, val_snoc]
        omega
      rw [z]
      exact ev_op (ev_op (ev_op (ev_var rfl) ev_c (rv_I (.inr ⟨by decide, by decide⟩))) ev_c rv_I0) (ev_index (K := K) ev_signs (ev_var rfl) hm.1 hm.2) rv_I0
    · rintro σ' H4 ⟨lt, rfl, e4⟩
      rw [List.take_length]
      exact ⟨_, rfl, k H4 e4⟩
theorem ok_l_is_letters (T : TxtH K mg p) : FnOk P w K mg base CX0 2 p.f_is_letters p.d_is_letters P_l_is_letters (spAlpha fun l => l.all let1) := by
  have G_l_signs : FnOk P w K mg base CX0 1 p.f_signs p.d_signs P_l_signs spSigns := ok_l_signs T
  refine T.F_l_is_letters.ok sc_l_is_letters (fun vs H Q E h => ?_) (fun cdv A outer s H vs Q E hr h => ?_)
  · obtain ⟨l, rfl, _⟩ := h
    rfl
  · obtain ⟨l, rfl, ha, hl, k⟩ := h
    refine ⟨_, (pss_one (ps_ret (pe_cmpR op_notIn_seq pe_bl (pe_lc (own := [("_law_sign", 1)]) (g := gName 1) (tt := tYes) (te := tOp rInS (tBM0 K "str" rUpper (tVar 1)) (tCall spSigns [] E0 tNil)) rfl sc_l_is_letters.nd (pi_list (pe_callTy (T := "list") (call_listS rfl) (by rfl) T.n_list (by decide +kernel) (pa_cons (pv 0) pa_nil))) (blkOk_by (own := [("_law_sign", 1)]) (N := N_l_is_letters) (sc := defScope s_l_is_letters) (by decide +kernel)) (fun _ _ _ _ _ => pg_name (i := 1) sc_l_is_letters.nd rfl (Or.inl rfl)) (fun _ _ _ _ _ => pts_nil) (fun _ _ _ _ _ => (pe_cmpR (r := rInS) op_inS (pe_bm0 (r := rUpper) PySem.F.plainAttrs_str PySem.F.slot_str_upper PySem.F.type_str_upper mt_upper (pv 1)) (pe_call0 G_l_signs (hr.mono (by decide)) (by rfl) T.mg_l_signs T.F_l_signs.kp T.b_l_signs .nil pass0) rfl))) rfl))), ?_⟩
    have el : EvL (tLc (iList K (tCB rLstS (tCons (tVar 0) tNil))) (gName 1) tYes (tOp rInS (tBM0 K "str" rUpper (tVar 1)) (tCall spSigns [] E0 tNil)) [1]) [some (.str (S l)), none] H (l.map fun c => V.bl (let1 c)) := by
      refine el_eq (el_lcNL (K := K) (xs := l.map sg) (fun _ => true) (fun i => (l[i]?.map fun c => V.bl (let1 c)).getD .non) (el_listS (ev_var rfl) (by omega)) (by rw [List.length_map]; omega) (fun _ => rfl) (fun _ _ _ _ _ => et_yes) fun i x H1 e1 hx _ => ?_) (by rw [List.length_map, given_map])
      rw [List.getElem?_map] at hx
      cases q : l[i]? with
      | none => rw [q] at hx; cases hx
      | some c =>
        rw [q] at hx
        have e2 : sg c = x := Option.some.inj hx
        subst e2
        have hc := ha c (List.mem_of_getElem? q)
        have z := ev_upper (K := K) (σ := [some (.str (S l)), some (sg c)]) (H := H1) (l := [c]) (ev_var (i := 1) rfl) (fun x hx => by rw [List.mem_singleton.mp hx]; exact hc) (by show 1 ≤ 100000; decide)
        exact ev_inA (c := up c) z ev_signs (up_lt hc)
    refine (ev_opL (ev_c (v := .bl false)) el fun p1 H1 h1 _ => rv_niL (K := K) (sq_of h1) rfl (flat_bls let1 l)) H (Ex.refl H) _ fun H' e => ?_
    rw [inV_false]
    exact k H' e
theorem ok_l_mixed_case (T : TxtH K mg p) : FnOk P w K mg base CX0 2 p.f_mixed_case p.d_mixed_case P_l_mixed_case spMixed := by
  have TA : TxtA mg := ⟨T.n_list, T.n_int, T.n_len⟩
  have G_l_draw : FnOk P w K mg base CX0 1 p.f_draw p.d_draw P_l_draw spDraw := ok_l_draw T.F_l_draw TA
  refine T.F_l_mixed_case.ok sc_l_mixed_case (fun vs H Q E h => ?_) (fun cdv A outer s H vs Q E hr h => ?_)
  · obtain ⟨q, c, cs, i, r, l, rfl, _⟩ := h
    rfl
  · obtain ⟨q, c, cs, i, r, l, rfl, D, hi, hc, hl, k⟩ := h
    refine ⟨_, (pss_cons (ps_set (i := 2) sc_l_mixed_case.nd rfl (Or.inl rfl) pe_str)
      (pss_cons (ps_for PassesOwn.never rfl (pi_str (pv 1)) (pg_name (i := 3) sc_l_mixed_case.nd rfl (Or.inl rfl)) (pss_one (ps_set (i := 2) sc_l_mixed_case.nd rfl (Or.inl rfl) (pe_op op_add_str (pv 2) (pe_ifExp (pt_cmpR op_eq (pe_call G_l_draw (hr.mono (by decide)) (by rfl) T.mg_l_draw T.F_l_draw.kp T.b_l_draw .nil pass0 (pa_cons (pv 0) (pa_cons pe_int pa_nil))) pe_int (nomark _)) (pe_bm0 PySem.F.plainAttrs_str PySem.F.slot_str_lower PySem.F.type_str_lower mt_lower (pv 3)) (pv 3))))))
      (pss_one (ps_ret (pv 2))))), ?_⟩
    refine q_asg (v := .str (S [])) ev_c fun H0 e0 => ?_
    refine q_forS (l := l) (ev_var rfl) (fun j σ' H' => ∃ (m : List Nat) (i' r' : Int) (t : Option V), σ' = [some (.ref q), some (.str (S l)), some (.str (S m)), t] ∧ m.map up = l.take j ∧ (∀ x ∈ m, x < 128) ∧ i ≤ i' ∧ i' ≤ i + j ∧ Sib q H H' ∧ PenAt H' q c cs i' r')
      (fun H1 e1 => ⟨[], i, r, none, rfl, rfl, (fun x hx => by cases hx), Int.le_refl _, by omega, fun b o _ h => (e0.trans e1) b o h, D.keep (e0.trans e1)⟩) ?_ ?_
    · rintro j x σ' H1 hx ⟨m, i1, r1, t, rfl, hm, ha, h1, h2, sb, D1⟩
      have hj : j < l.length := (List.getElem?_eq_some_iff.mp hx).1
      have hxr := hc x (List.mem_of_getElem? hx)
      have ml : m.length ≤ j := by
        have z := congrArg List.length hm
        rw [List.length_map, List.length_take] at z
        omega
      refine ⟨_, rfl, _, rfl, q, c, cs, i1, r1, 2, rfl, D1, by omega, by decide, by decide, fun z i2 r2 H2 z0 z1 j0 j1 sb2 D2 => ?_⟩
      refine ⟨rfl, _, rfl, ?_⟩
      have tk : l.take (j + 1) = l.take j ++ [x] := by
        rw [List.take_add_one, hx]
        rfl
      have fin : ∀ y : Nat, up y = x → y < 128 → ∃ (m' : List Nat) (i' r' : Int) (t : Option V), [some (V.ref q), some (.str (S l)), some (.str (S (m ++ [y]))), some (sg x)] = [some (V.ref q), some (.str (S l)), some (.str (S m')), t] ∧ m'.map up = l.take (j + 1) ∧ (∀ x ∈ m', x < 128) ∧ i ≤ i' ∧ i' ≤ i + ((j + 1 : Nat) : Int) ∧ Sib q H H2 ∧ PenAt H2 q c cs i' r' := fun y e1 e2 =>
        ⟨m ++ [y], i2, r2, _, rfl, by rw [List.map_append, hm, tk, ← e1]; rfl, fun u hu => by
          rcases List.mem_append.mp hu with h | h
          · exact ha u h
          · rw [List.mem_singleton.mp h]; exact e2, by omega, by omega, sb.trans sb2, D2⟩
      refine ite2 (fun _ => ?_) (fun _ => ?_)
      · have u := up_low hxr
        have g := fin (low x) u.1 u.2
        refine ⟨_, rfl, rfl, S [x], rfl, rfl, by rw [len_S]; show 1 ≤ 5592405; decide, S m, _, rfl, rfl, ?_, ?_⟩
        · rw [low_of x (by omega), len_S, len_S]
          exact sz_of (by show m.length + 1 ≤ 100000; omega)
        · rw [low_of x (by omega), app_S]
          exact g
      · have u := up_cap hxr
        have g := fin x u.1 u.2
        refine ⟨_, rfl, S m, S [x], rfl, rfl, ?_, ?_⟩
        · rw [len_S, len_S]
          exact sz_of (by show m.length + 1 ≤ 100000; omega)
        · rw [app_S]
          exact g
    · rintro σ' H1 ⟨m, i1, r1, t, rfl, hm, ha, h1, h2, sb, D1⟩
      rw [List.take_length] at hm
      exact ⟨_, rfl, k m i1 r1 H1 hm ha h1 h2 sb D1⟩
end
end K16

set_option Elab.async false
set_option linter.all false
set_option maxRecDepth 100000
set_option maxHeartbeats 4000000
namespace K16
open PySem PySem.Spec PyProof.Rows L2 Pen EV2 Evl TX LamX
abbrev s_check_integer : Stmt := topS 8
abbrev N_check_integer : List Str := ["value"]
abbrev P_check_integer : List Str := ["value"]
theorem sc_check_integer : FnScope N_check_integer P_check_integer (defScope s_check_integer) := ⟨rfl, rfl, rfl, by decide +kernel, rfl, by decide +kernel, by decide +kernel⟩
abbrev s_check_truth : Stmt := topS 10
abbrev N_check_truth : List Str := ["value"]
abbrev P_check_truth : List Str := ["value"]
theorem sc_check_truth : FnScope N_check_truth P_check_truth (defScope s_check_truth) := ⟨rfl, rfl, rfl, by decide +kernel, rfl, by decide +kernel, by decide +kernel⟩
abbrev s_is_on_grid : Stmt := topS 23
abbrev N_is_on_grid : List Str := ["row", "column"]
abbrev P_is_on_grid : List Str := ["row", "column"]
theorem sc_is_on_grid : FnScope N_is_on_grid P_is_on_grid (defScope s_is_on_grid) := ⟨rfl, rfl, rfl, by decide +kernel, rfl, by decide +kernel, by decide +kernel⟩
abbrev s_is_sheet_name : Stmt := topS 24
abbrev N_is_sheet_name : List Str := ["name"]
abbrev P_is_sheet_name : List Str := ["name"]
theorem sc_is_sheet_name : FnScope N_is_sheet_name P_is_sheet_name (defScope s_is_sheet_name) := ⟨rfl, rfl, rfl, by decide +kernel, rfl, by decide +kernel, by decide +kernel⟩
abbrev s_small_letters : Stmt := topS 13
abbrev N_small_letters : List Str := ["text", "sign"]
abbrev P_small_letters : List Str := ["text"]
theorem sc_small_letters : FnScope N_small_letters P_small_letters (defScope s_small_letters) := ⟨rfl, rfl, rfl, by decide +kernel, rfl, by decide +kernel, by decide +kernel⟩
abbrev s_alike_sheets : Stmt := topS 25
abbrev N_alike_sheets : List Str := ["one", "other"]
abbrev P_alike_sheets : List Str := ["one", "other"]
theorem sc_alike_sheets : FnScope N_alike_sheets P_alike_sheets (defScope s_alike_sheets) := ⟨rfl, rfl, rfl, by decide +kernel, rfl, by decide +kernel, by decide +kernel⟩
abbrev s_is_row_text : Stmt := topS 28
abbrev N_is_row_text : List Str := ["text"]
abbrev P_is_row_text : List Str := ["text"]
theorem sc_is_row_text : FnScope N_is_row_text P_is_row_text (defScope s_is_row_text) := ⟨rfl, rfl, rfl, by decide +kernel, rfl, by decide +kernel, by decide +kernel⟩
abbrev s_split_cell : Stmt := topS 29
abbrev N_split_cell : List Str := ["text", "fixed_column", "column", "many", "row"]
abbrev P_split_cell : List Str := ["text"]
theorem sc_split_cell : FnScope N_split_cell P_split_cell (defScope s_split_cell) := ⟨rfl, rfl, rfl, by decide +kernel, rfl, by decide +kernel, by decide +kernel⟩
structure AdG where
  f_check_integer : Addr
  d_check_integer : FuncData
  f_check_truth : Addr
  d_check_truth : FuncData
  f_is_on_grid : Addr
  d_is_on_grid : FuncData
  f_is_sheet_name : Addr
  d_is_sheet_name : FuncData
  f_small_letters : Addr
  d_small_letters : FuncData
  f_alike_sheets : Addr
  d_alike_sheets : FuncData
  f_is_row_text : Addr
  d_is_row_text : FuncData
  f_split_cell : Addr
  d_split_cell : FuncData
structure TxtG (K : PySem.W.Frag) (mg : Str → Option Value) (p : AdG) : Prop where
  mg_ROWS : ∃ t, mg "ROWS" = some (.int 1000000 t)
  mg_check_integer : mg "check_integer" = some (.ref p.f_check_integer)
  F_check_integer : Fun K "check_integer" "check_integer" s_check_integer p.f_check_integer p.d_check_integer
  b_check_integer : Binds K p.d_check_integer P_check_integer []
  mg_check_truth : mg "check_truth" = some (.ref p.f_check_truth)
  F_check_truth : Fun K "check_truth" "check_truth" s_check_truth p.f_check_truth p.d_check_truth
  b_check_truth : Binds K p.d_check_truth P_check_truth []
  mg_is_on_grid : mg "is_on_grid" = some (.ref p.f_is_on_grid)
  F_is_on_grid : Fun K "is_on_grid" "is_on_grid" s_is_on_grid p.f_is_on_grid p.d_is_on_grid
  b_is_on_grid : Binds K p.d_is_on_grid P_is_on_grid []
  mg_is_sheet_name : mg "is_sheet_name" = some (.ref p.f_is_sheet_name)
  F_is_sheet_name : Fun K "is_sheet_name" "is_sheet_name" s_is_sheet_name p.f_is_sheet_name p.d_is_sheet_name
  b_is_sheet_name : Binds K p.d_is_sheet_name P_is_sheet_name []
  mg_small_letters : mg "small_letters" = some (.ref p.f_small_letters)
  F_small_letters : Fun K "small_letters" "small_letters" s_small_letters p.f_small_letters p.d_small_letters
  b_small_letters : Binds K p.d_small_letters P_small_letters []
  mg_alike_sheets : mg "alike_sheets" = some (.ref p.f_alike_sheets)
  F_alike_sheets : Fun K "alike_sheets" "alike_sheets" s_alike_sheets p.f_alike_sheets p.d_alike_sheets
  b_alike_sheets : Binds K p.d_alike_sheets P_alike_sheets []
  mg_is_row_text : mg "is_row_text" = some (.ref p.f_is_row_text)
  F_is_row_text : Fun K "is_row_text" "is_row_text" s_is_row_text p.f_is_row_text p.d_is_row_text
  b_is_row_text : Binds K p.d_is_row_text P_is_row_text []
  mg_split_cell : mg "split_cell" = some (.ref p.f_split_cell)
  F_split_cell : Fun K "split_cell" "split_cell" s_split_cell p.f_split_cell p.d_split_cell
  b_split_cell : Binds K p.d_split_cell P_split_cell []

def spInt (K : PySem.W.Frag) (CB : Addr) : Sp := fun vs H Q E => ∃ (v : V) (n : String) (g : Bool), vs = [v] ∧ Knd K H v n ∧ goodK n g ∧ (g = true → ∀ H', Same H H' → Q .non H') ∧ (g = false → bad CB "value" H v E)
def spTruth (K : PySem.W.Frag) (CB : Addr) : Sp := fun vs H Q E => ∃ (v : V) (n : String) (g : Bool), vs = [v] ∧ Knd K H v n ∧ kitB n "bool" = some g ∧ (g = true → ∀ H', Same H H' → Q .non H') ∧ (g = false → bad CB "value" H v E)
def gridOk (r c : Int) : Bool := decide (1 ≤ r ∧ r ≤ 1000000) && decide (1 ≤ c ∧ c ≤ 18278)
def spGrid : Sp := fun vs H Q _ => ∃ r c : Int, vs = [.int r, .int c] ∧ ∀ H', Same H H' → Q (.bl (gridOk r c)) H'
def spSheetName (K : PySem.W.Frag) : Sp := fun vs H Q _ => ∃ v : V, vs = [v] ∧ ((∃ l : List Nat, v = .str (S l) ∧ (∀ c ∈ l, c < 128) ∧ l.length ≤ 1000 ∧ ∀ H', Same H H' → Q (.bl (sheetOk l)) H') ∨ (∃ n : String, Knd K H v n ∧ kitB n "str" = some false ∧ ∀ H', Same H H' → Q (.bl false) H'))
def spSmall : Sp := fun vs H Q _ => ∃ l : List Nat, vs = [.str (S l)] ∧ (∀ c ∈ l, c < 128) ∧ l.length ≤ 1000 ∧ ∀ H', Same H H' → Q (.str (S (l.map low))) H'
/-- a sheet or none -/
def shV : Option (List Nat) → V
  | none => .non
  | some l => .str (S l)
def shOk : Option (List Nat) → Prop
  | none => True
  | some l => (∀ c ∈ l, c < 128) ∧ l.length ≤ 1000
def alike : Option (List Nat) → Option (List Nat) → Bool
  | none, none => true
  | some a, some b => decide (a.map low = b.map low)
  | _, _ => false
def spAlike : Sp := fun vs H Q _ => ∃ a b : Option (List Nat), vs = [shV a, shV b] ∧ shOk a ∧ shOk b ∧ ∀ H', Same H H' → Q (.bl (alike a b)) H'
def spSplit : Sp := fun vs H Q _ => ∃ l : List Nat, vs = [.str (S l)] ∧ (∀ c ∈ l, c < 128) ∧ l.length ≤ 1000 ∧ ∀ t H', H t = none → Same H H' → H' t = some (.tup [.str (S (cellParts l).1), .bl (cellParts l).2.1, .str (S (cellParts l).2.2.1), .bl (cellParts l).2.2.2]) → Q (.ref t) H'
section
variable {P : Program} {w : World} {K : PySem.W.Frag} {mg : Str → Option Value} {base : Heap} {pc : Ads} {p : AdG} {σ : L2.St} {H : Hp} {ta tb te : TE}
theorem ok_check_integer (TC : TxtC K mg pc) (T : TxtG K mg p) : FnOk P w K mg base (L2.CX P w) 3 p.f_check_integer p.d_check_integer P_check_integer (spInt K pc.CB) := by
  have G_is_integer : FnOk P w K mg base CX0 1 pc.f_is_integer pc.d_is_integer P_is_integer (spIsInt K) := ok_is_integer TC
  refine T.F_check_integer.okX sc_check_integer (fun vs H Q E h => ?_) (fun cdv A outer s H vs Q E hr h => ?_)
  · obtain ⟨v, n, g, rfl, _⟩ := h
    rfl
  · obtain ⟨v, n, g, rfl, kn, hg, h1, h2⟩ := h
    refine ⟨_, (pss_one (ps_if (pt_not (pt_val (pe_call G_is_integer (hr.mono (by decide)) (by rfl) TC.mg_is_integer TC.F_is_integer.kp TC.b_is_integer .nil pass0 (pa_cons (pv 0) pa_nil)))) (pss_one (ps_raise rfl (takes_of rfl rfl rfl rfl) (pmk_R (n := 1) TC.BadValue.ec (ok_BadValue_init TC.BadValue.F TC.BadValue.ec.ox TC.BadValue.no) (hr.mono (by decide)) (by rfl) TC.BadValue.gC (kp_BadValue_init TC.BadValue.F) hx0 (pa_cons (pv 0) pa_nil)))) pss_nil)), ?_⟩
    have ei : Ev (tCall (spIsInt K) [] E0 (tCons (tVar 0) tNil)) [some v] H (.bl g) := fun H1 e Q q => ⟨_, rfl, v, n, g, rfl, kn.ext e, hg, fun H' s => q H' s⟩
    cases g with
    | true => exact s_when (b := false) (et_is (et_not (et_B ei)) rfl) (fun z => nomatch z) fun _ H1 e1 => h1 rfl H1 e1
    | false =>
      refine s_when (b := true) (et_is (et_not (et_B ei)) rfl) (fun _ H1 e1 => ?_) fun z => nomatch z
      exact ⟨_, rfl, rfl, rfl, by decide, rr_e1 (Q := E) fun d H' nd sm hd => h2 rfl d H' (e1.trans sm) (fresh_back e1 nd) hd⟩
theorem ok_check_truth (TC : TxtC K mg pc) (T : TxtG K mg p) : FnOk P w K mg base (L2.CX P w) 3 p.f_check_truth p.d_check_truth P_check_truth (spTruth K pc.CB) := by
  refine T.F_check_truth.okX sc_check_truth (fun vs H Q E h => ?_) (fun cdv A outer s H vs Q E hr h => ?_)
  · obtain ⟨v, n, g, rfl, _⟩ := h
    rfl
  · obtain ⟨v, n, g, rfl, kn, hk, h1, h2⟩ := h
    refine ⟨_, (pss_one (ps_if (pt_not (pt_val (pe_callB (id := "isinstance") call_isi (by rfl) TC.n_isinstance (by decide +kernel) (pa_cons (pv 0) (pa_cons (pe_bltn (v := .ty "bool") (by rfl) TC.n_bool (by decide +kernel) rfl) pa_nil))))) (pss_one (ps_raise rfl (takes_of rfl rfl rfl rfl) (pmk_R (n := 1) TC.BadValue.ec (ok_BadValue_init TC.BadValue.F TC.BadValue.ec.ox TC.BadValue.no) (hr.mono (by decide)) (by rfl) TC.BadValue.gC (kp_BadValue_init TC.BadValue.F) hx0 (pa_cons (pv 0) pa_nil)))) pss_nil)), ?_⟩
    have ei := ev_isi (σ := [some v]) kn hk (ev_var (i := 0) rfl)
    cases g with
    | true => exact s_when (b := false) (et_is (et_not (et_B ei)) rfl) (fun z => nomatch z) fun _ H1 e1 => h1 rfl H1 e1
    | false =>
      refine s_when (b := true) (et_is (et_not (et_B ei)) rfl) (fun _ H1 e1 => ?_) fun z => nomatch z
      exact ⟨_, rfl, rfl, rfl, by decide, rr_e1 (Q := E) fun d H' nd sm hd => h2 rfl d H' (e1.trans sm) (fresh_back e1 nd) hd⟩
/-- lo <= x <= hi -/
theorem ev_between {x lo hi : Int} (ha : Ev ta σ H (.int lo)) (hb : Ev tb σ H (.int x)) (hc : Ev te σ H (.int hi)) : Ev (tChain (rI0 fun i j => .bl (decide (i ≤ j))) (rI0 fun i j => .bl (decide (i ≤ j))) ta tb te) σ H (.bl (decide (lo ≤ x ∧ x ≤ hi))) := by
  refine ev_chain (k := decide (lo ≤ x)) ha hb rv_I0 (fun h1 => ⟨hc, fun H1 e Q q => ⟨_, _, rfl, rfl, ?g1⟩⟩) (fun h0 => ?g2)
  case g1 =>
    have h2 : lo ≤ x := of_decide_eq_true h1
    have z : decide (x ≤ hi) = decide (lo ≤ x ∧ x ≤ hi) := decide_eq_decide.mpr (by omega)
    show Q (.bl (decide (x ≤ hi))) H1
    rw [z]
    exact q H1 (Ex.refl H1)
  case g2 =>
    have h2 : ¬ lo ≤ x := of_decide_eq_false h0
    rw [decide_eq_false (show ¬ (lo ≤ x ∧ x ≤ hi) by omega)]
theorem ok_is_on_grid (TC : TxtC K mg pc) (T : TxtG K mg p) : FnOk P w K mg base CX0 1 p.f_is_on_grid p.d_is_on_grid P_is_on_grid spGrid := by
  obtain ⟨tC, hCOL⟩ := TC.mg_COLUMNS
  obtain ⟨tR, hROW⟩ := T.mg_ROWS
  refine T.F_is_on_grid.ok sc_is_on_grid (fun vs H Q E h => ?_) (fun cdv A outer s H vs Q E hr h => ?_)
  · obtain ⟨r, c, rfl, _⟩ := h
    rfl
  · obtain ⟨r, c, rfl, k⟩ := h
    refine ⟨_, (pss_one (ps_ret (pe_and (pe_chain op_le op_le pe_int (pv 0) (pe_glob (v := .int 1000000) (by rfl) hROW ⟨_, rfl⟩)) (pe_one (pe_chain op_le op_le pe_int (pv 1) (pe_glob (v := .int 18278) (by rfl) hCOL ⟨_, rfl⟩)))))), ?_⟩
    exact (ev_andV (ev_between ev_c (ev_var rfl) ev_c) fun _ => ev_between ev_c (ev_var rfl) ev_c) H (Ex.refl H) _ fun H' e => k H' e
theorem ok_is_sheet_name (TC : TxtC K mg pc) (T : TxtG K mg p) : FnOk P w K mg base CX0 1 p.f_is_sheet_name p.d_is_sheet_name P_is_sheet_name (spSheetName K) := by
  refine T.F_is_sheet_name.ok sc_is_sheet_name (fun vs H Q E h => ?_) (fun cdv A outer s H vs Q E hr h => ?_)
  · obtain ⟨v, rfl, _⟩ := h
    rfl
  · obtain ⟨v, rfl, h⟩ := h
    refine ⟨_, (pss_cons (ps_if (PW.pt (pw_or (pt_not (pt_val (pe_callB (id := "isinstance") call_isi (by rfl) TC.n_isinstance (by decide +kernel) (pa_cons (pv 0) (pa_cons (pe_bltn (v := .ty "str") (by rfl) TC.n_str (by decide +kernel) rfl) pa_nil))))) (pw_or (pt_cmpR op_lt (pe_callB (id := "len") call_len (by rfl) TC.n_len (by decide +kernel) (pa_cons (pv 0) pa_nil)) pe_int (nomark _)) (pw_or1 (pt_cmpR op_gt (pe_callB (id := "len") call_len (by rfl) TC.n_len (by decide +kernel) (pa_cons (pv 0) pa_nil)) pe_int (nomark _)))))) (pss_one (ps_ret pe_bl)) pss_nil)
      (pss_one (ps_ret (pe_and (pe_bm0 PySem.F.plainAttrs_str PySem.F.slot_str_isascii PySem.F.type_str_isascii mt_isascii (pv 0)) (pe_and (pe_bm0 PySem.F.plainAttrs_str PySem.F.slot_str_isalnum PySem.F.type_str_isalnum mt_isalnum (pv 0)) (pe_one (pe_bm0 PySem.F.plainAttrs_str PySem.F.slot_str_isalpha PySem.F.type_str_isalpha mt_isalpha (pe_ix ix_str (pv 0) pe_int (fun _ _ => rfl))))))))), ?_⟩
    rcases h with ⟨l, rfl, ha, hl, k⟩ | ⟨n, kn, hk, k⟩
    · refine q_when (et_or (et_not (et_B (ev_isi (K := K) (b := true) knd_str (by decide +kernel) (ev_var rfl)))) fun _ => et_or (et_test (ev_op (ev_lenS (K := K) (ev_var rfl) (by omega)) ev_c rv_I0)) fun _ => et_test (ev_op (ev_lenS (K := K) (ev_var rfl) (by omega)) ev_c rv_I0)) (fun hb H1 e1 => ?_) (fun hb H1 e1 => ?_)
      · have z : sheetOk l = false := by
          have hb : (false || (decide ((l.length : Int) < 1) || decide ((12 : Int) < l.length))) = true := hb
          simp only [Bool.false_or, Bool.or_eq_true, decide_eq_true_eq] at hb
          unfold sheetOk
          rcases hb with h | h
          · rw [decide_eq_false (show ¬ 1 ≤ l.length by omega)]
            rfl
          · rw [decide_eq_false (show ¬ l.length ≤ 12 by omega)]
            simp
        have g := k H1 e1
        rw [z] at g
        exact g
      · have hb : (false || (decide ((l.length : Int) < 1) || decide ((12 : Int) < l.length))) = false := hb
        simp only [Bool.false_or, Bool.or_eq_false_iff, decide_eq_false_iff_not] at hb
        cases l with
        | nil => exact absurd hb.1 (by decide)
        | cons c l =>
          have hc := ha c (List.mem_cons_self ..)
          have e0 : Ev (tOp rIxS (tVar 0) (tC (.int 0))) [some (.str (S (c :: l)))] H1 (.str (S [c])) := ev_at (l := c :: l) (i := 0) (ev_var rfl) ev_c rfl (by omega)
          refine (ev_andV (ev_isascii (K := K) (l := c :: l) (ev_var rfl) ha) fun _ => ev_andV (ev_isalnum (K := K) (l := c :: l) (ev_var rfl) ha) fun _ => ev_isalpha (K := K) (l := [c]) e0 (fun x hx => by rw [List.mem_singleton.mp hx]; exact hc)) H1 (Ex.refl H1) _ fun H2 e2 => ?_
          have g := k H2 (e1.trans e2)
          have z : sheetOk (c :: l) = (true && (decide (0 < (c :: l).length) && (c :: l).all aln1 && (decide (0 < [c].length) && [c].all let1))) := by
            have z1 : 1 ≤ (c :: l).length := by simp
            have z2 : (c :: l).length ≤ 12 := by omega
            unfold sheetOk
            rw [decide_eq_true z1, decide_eq_true z2, decide_eq_true (show 0 < (c :: l).length from z1)]
            simp
          rw [z] at g
          exact g
    · refine q_when (b := true) (et_is (et_or (b := true) (et_not (et_B (ev_isi (K := K) (b := false) kn hk (ev_var rfl)))) fun z => nomatch z) rfl) (fun _ H1 e1 => k H1 e1) fun z => nomatch z
theorem ok_small_letters (TC : TxtC K mg pc) (T : TxtG K mg p) : FnOk P w K mg base CX0 4 p.f_small_letters p.d_small_letters P_small_letters spSmall := by
  have G_check_string : FnOk P w K mg base (L2.CX P w) 3 pc.f_check_string pc.d_check_string P_check_string (spString K pc.CB) := ok_check_string TC
  refine T.F_small_letters.ok sc_small_letters (fun vs H Q E h => ?_) (fun cdv A outer s H vs Q E hr h => ?_)
  · obtain ⟨l, rfl, _⟩ := h
    rfl
  · obtain ⟨l, rfl, ha, hl, k⟩ := h
    refine ⟨_, (pss_cons (ps_expr (pe_call G_check_string (hr.mono (by decide)) (by rfl) TC.mg_check_string TC.F_check_string.kp TC.b_check_string .nil passL (pa_cons (pv 0) pa_nil)))
      (pss_cons (ps_if (pt_val (pe_bm0 PySem.F.plainAttrs_str PySem.F.slot_str_isascii PySem.F.type_str_isascii mt_isascii (pv 0))) (pss_one (ps_ret (pe_bm0 PySem.F.plainAttrs_str PySem.F.slot_str_lower PySem.F.type_str_lower mt_lower (pv 0)))) pss_nil)
      (pss_one (ps_ret (pe_join pe_str (pe_lc (own := [("sign", 1)]) (g := gName 1) (tt := tYes) (te := tIf (tB (tBM0 K "str" (fun x xs H Q => ∃ a, x = .str a ∧ xs = [] ∧ True ∧ Q (.bl (Txt.isascii a)) H) (tVar 1))) (tBM0 K "str" rLower (tVar 1)) (tVar 1)) rfl sc_small_letters.nd (pi_str (pv 0)) (blkOk_by (own := [("sign", 1)]) (N := N_small_letters) (sc := defScope s_small_letters) (by decide +kernel)) (fun _ _ _ _ _ => pg_name (i := 1) sc_small_letters.nd rfl (Or.inl rfl)) (fun _ _ _ _ _ => pts_nil) (fun _ _ _ _ _ => (pe_ifExp (pt_val (pe_bm0 PySem.F.plainAttrs_str PySem.F.slot_str_isascii PySem.F.type_str_isascii mt_isascii (pv 1))) (pe_bm0 PySem.F.plainAttrs_str PySem.F.slot_str_lower PySem.F.type_str_lower mt_lower (pv 1)) (pv 1))))))))), ?_⟩
    refine q_drop (v := .non) (fun H1 e Q q => ⟨_, rfl, .str (S l), "str", true, rfl, knd_str, by decide +kernel, fun _ H' s => q H' s, fun z => nomatch z⟩) fun H1 e1 => ?_
    refine q_when (b := true) (et_B (ev_isascii (K := K) (ev_var rfl) ha)) (fun _ H2 e2 => ?_) fun z => nomatch z
    exact ⟨_, rfl, rfl, S l, rfl, rfl, by rw [len_S]; omega, by rw [lower_S ha]; exact k H2 (e1.trans e2)⟩
theorem ok_alike_sheets (TC : TxtC K mg pc) (T : TxtG K mg p) : FnOk P w K mg base CX0 5 p.f_alike_sheets p.d_alike_sheets P_alike_sheets spAlike := by
  have G_small_letters : FnOk P w K mg base CX0 4 p.f_small_letters p.d_small_letters P_small_letters spSmall := ok_small_letters TC T
  refine T.F_alike_sheets.ok sc_alike_sheets (fun vs H Q E h => ?_) (fun cdv A outer s H vs Q E hr h => ?_)
  · obtain ⟨a, b, rfl, _⟩ := h
    rfl
  · obtain ⟨a, b, rfl, ha, hb, k⟩ := h
    refine ⟨_, (pss_cons (ps_if (PW.pt (pw_or (pt_cmpR op_isN1 (pv 0) pe_non (nomark _)) (pw_or1 (pt_cmpR op_isN1 (pv 1) pe_non (nomark _))))) (pss_one (ps_ret (pe_and (pe_cmpR op_isN1 (pv 0) pe_non (nomark _)) (pe_one (pe_cmpR op_isN1 (pv 1) pe_non (nomark _)))))) pss_nil)
      (pss_one (ps_ret (pe_cmpR op_eq (pe_call G_small_letters (hr.mono (by decide)) (by rfl) T.mg_small_letters T.F_small_letters.kp T.b_small_letters .nil pass0 (pa_cons (pv 0) pa_nil)) (pe_call G_small_letters (hr.mono (by decide)) (by rfl) T.mg_small_letters T.F_small_letters.kp T.b_small_letters .nil pass0 (pa_cons (pv 1) pa_nil)) (nomark _))))), ?_⟩
    have en : ∀ {σ : L2.St} {H : Hp} {te : TE} {v : V}, Ev te σ H v → Ev (tOp rIsN te (tC .non)) σ H (.bl (decide (v = .non))) := fun h => ev_op h ev_c fun H1 _ Q q => ⟨rfl, q H1 (Ex.refl H1)⟩
    refine q_when (et_or (et_test (en (ev_var rfl))) fun _ => et_test (en (ev_var rfl))) (fun hc H1 e1 => ?_) (fun hc H1 e1 => ?_)
    · refine (ev_andV (en (ev_var rfl)) fun _ => en (ev_var rfl)) H1 (Ex.refl H1) _ fun H2 e2 => ?_
      have z : (decide (shV a = .non) && decide (shV b = .non)) = alike a b := by
        cases a <;> cases b <;> first | rfl | (exact absurd hc (by decide)) | simp [shV, alike] | skip
        all_goals
          exfalso
          simp [shV] at hc
      rw [z]
      exact k H2 (e1.trans e2)
    · cases a with
      | none => simp [shV] at hc
      | some a =>
        cases b with
        | none => simp [shV] at hc
        | some b =>
          have es : ∀ {σ : L2.St} {te : TE} {l : List Nat}, Ev te σ H1 (.str (S l)) → (∀ c ∈ l, c < 128) → l.length ≤ 1000 → Ev (tCall spSmall [] E0 (tCons te tNil)) σ H1 (.str (S (l.map low))) := fun h h1 h2 H3 e Q q => h H3 e _ fun H4 e4 => ⟨_, rfl, h1, h2, fun H' s => q H' (e4.trans s)⟩
          refine (ev_op (es (ev_var rfl) ha.1 ha.2) (es (ev_var rfl) hb.1 hb.2) (rv_eq rfl)) H1 (Ex.refl H1) _ fun H2 e2 => ?_
          have z : decide (V.str (S (a.map low)) = V.str (S (b.map low))) = alike (some a) (some b) := decide_eq_decide.mpr ⟨fun q => S_inj (V.str.inj q), fun q => by rw [q]⟩
          rw [z]
          exact k H2 (e1.trans e2)
theorem ok_is_row_text (TC : TxtC K mg pc) (T : TxtG K mg p) : FnOk P w K mg base CX0 1 p.f_is_row_text p.d_is_row_text P_is_row_text (spAlpha rowText) := by
  obtain ⟨tR, hROW⟩ := T.mg_ROWS
  refine T.F_is_row_text.ok sc_is_row_text (fun vs H Q E h => ?_) (fun cdv A outer s H vs Q E hr h => ?_)
  · obtain ⟨l, rfl, _⟩ := h
    rfl
  · obtain ⟨l, rfl, ha, hl, k⟩ := h
    refine ⟨_, (pss_cons (ps_if (PW.pt (pw_or (pt_cmpR op_gt (pe_callB (id := "len") call_len (by rfl) TC.n_len (by decide +kernel) (pa_cons (pv 0) pa_nil)) (pe_callB (id := "len") call_len (by rfl) TC.n_len (by decide +kernel) (pa_cons (pe_callTy (T := "str") call_str_int (by rfl) TC.n_str (by decide +kernel) (pa_cons (pe_glob (v := .int 1000000) (by rfl) hROW ⟨_, rfl⟩) pa_nil)) pa_nil)) (nomark _)) (pw_or (pt_not (pt_val (pe_bm0 PySem.F.plainAttrs_str PySem.F.slot_str_isascii PySem.F.type_str_isascii mt_isascii (pv 0)))) (pw_or1 (pt_not (pt_val (pe_bm0 PySem.F.plainAttrs_str PySem.F.slot_str_isdigit PySem.F.type_str_isdigit mt_isdigit (pv 0)))))))) (pss_one (ps_ret pe_bl)) pss_nil)
      (pss_one (ps_ret (pe_and (pe_cmpR op_ne (pe_ix ix_str (pv 0) pe_int (fun _ _ => rfl)) pe_str (nomark _)) (pe_one (pe_cmpR op_le (pe_callTy (T := "int") call_int_str (by rfl) TC.n_int (by decide +kernel) (pa_cons (pv 0) pa_nil)) (pe_glob (v := .int 1000000) (by rfl) hROW ⟨_, rfl⟩) (nomark _))))))), ?_⟩
    have e7 : ∀ {σ : L2.St} {H : Hp}, Ev (tCB (rLenX K) (tCons (tCB (fun xs H Q => ∃ i, xs = [V.int i] ∧ i.natAbs.log2 < 1920 ∧ Q (.str (toString i)) H) (tCons (tC (.int 1000000)) tNil)) tNil)) σ H (.int 7) := fun H1 e Q q =>
      ⟨_, rfl, by decide +kernel, _, 7, rfl, ⟨by decide +kernel, by decide +kernel⟩, q H1 (Ex.refl H1)⟩
    refine q_when (et_or (et_test (ev_op (ev_lenS (K := K) (ev_var rfl) (by omega)) e7 rv_I0)) fun _ => et_or (et_not (et_B (ev_isascii (K := K) (ev_var rfl) ha))) fun _ => et_not (et_B (ev_isdigit (K := K) (ev_var rfl) ha))) (fun hb H1 e1 => ?_) (fun hb H1 e1 => ?_)
    · have hb : (decide ((7 : Int) < l.length) || (false || !(decide (0 < l.length) && l.all dig1))) = true := hb
      have z : rowText l = false := by
        unfold rowText
        simp only [Bool.false_or, Bool.or_eq_true, decide_eq_true_eq, Bool.not_eq_true', Bool.and_eq_false_iff, decide_eq_false_iff_not] at hb
        rcases hb with h | h | h
        · rw [decide_eq_false (show ¬ l.length ≤ 7 by omega)]
          simp
        · rw [decide_eq_false (show ¬ 1 ≤ l.length by omega)]
          rfl
        · rw [h]
          simp
      have g := k H1 e1
      rw [z] at g
      exact g
    · have hb : (decide ((7 : Int) < l.length) || (false || !(decide (0 < l.length) && l.all dig1))) = false := hb
      simp only [Bool.false_or, Bool.or_eq_false_iff, decide_eq_false_iff_not, Bool.not_eq_false', Bool.and_eq_true, decide_eq_true_eq] at hb
      obtain ⟨b1, b2, b3⟩ := hb
      cases l with
      | nil => exact absurd b2 (by decide)
      | cons c l =>
        have e0 : Ev (tOp rIxS (tVar 0) (tC (.int 0))) [some (.str (S (c :: l)))] H1 (.str (S [c])) := ev_at (l := c :: l) (i := 0) (ev_var rfl) ev_c rfl (by omega)
        have ed : PySem.intText? (S (c :: l)) = some ((NumText.digitsVal (c :: l) : Nat) : Int) := by
          have z := PySem.intText_digits (x := S (c :: l)) (by rw [toList_S]; intro d hd; exact of_decide_eq_true (List.all_eq_true.mp b3 d hd)) (by rw [toList_S]; simp) (by rw [len_S]; omega)
          rw [toList_S] at z
          exact z
        have ei : Ev (tCB (fun xs H Q => ∃ a n, xs = [V.str a] ∧ PySem.intText? a = some n ∧ a.length ≤ 640 ∧ Q (.int n) H) (tCons (tVar 0) tNil)) [some (.str (S (c :: l)))] H1 (.int (NumText.digitsVal (c :: l) : Nat)) := fun H2 e Q q => ⟨_, rfl, _, _, rfl, ed, by rw [len_S]; omega, q H2 (Ex.refl H2)⟩
        refine (ev_andV (ev_op e0 ev_c (rv_ne rfl)) fun _ => ev_op ei ev_c rv_I0) H1 (Ex.refl H1) _ fun H2 e2 => ?_
        have z : rowText (c :: l) = (!decide (V.str (S [c]) = V.str (Str.ofString "0")) && decide (((NumText.digitsVal (c :: l) : Nat) : Int) ≤ 1000000)) := by
          have z1 : 1 ≤ (c :: l).length := by simp
          have z2 : (c :: l).length ≤ 7 := by omega
          have z3 : decide (V.str (S [c]) = V.str (Str.ofString "0")) = decide ((c :: l).head? = some 48) := decide_eq_decide.mpr ⟨fun q => by
            have q2 : S [c] = S [48] := V.str.inj q
            have q3 := S_inj q2
            simpa using q3, fun q => by
            have q2 : c = 48 := Option.some.inj q
            rw [q2]
            rfl⟩
          have z4 : decide (((NumText.digitsVal (c :: l) : Nat) : Int) ≤ 1000000) = decide (NumText.digitsVal (c :: l) ≤ 1000000) := decide_eq_decide.mpr (by omega)
          unfold rowText
          rw [decide_eq_true z1, decide_eq_true z2, b3, z3, z4]
          simp
        have g := k H2 (e1.trans e2)
        rw [z] at g
        exact g
end
end K16

set_option Elab.async false
set_option linter.all false
set_option maxRecDepth 100000
set_option maxHeartbeats 4000000
namespace TX
open PySem PySem.Spec PyProof.Rows L2 Evl EV2 LamX
theorem tw_len {p : Nat → Bool} : ∀ (c : List Nat) (k : Nat), k ≤ (c.takeWhile p).length → (decide (k < c.length) && (c[k]?.map p).getD false) = decide (k < (c.takeWhile p).length)
  | [], k, h => by
    have h2 : k ≤ 0 := h
    have e : k = 0 := by omega
    subst e
    rfl
  | x :: c, k, h => by
    rw [List.takeWhile_cons] at h ⊢
    cases hp : p x with
    | false =>
      rw [hp] at h
      have e : k = 0 := by
        have h2 : k ≤ 0 := h
        omega
      subst e
      simp [hp]
    | true =>
      rw [hp] at h
      cases k with
      | zero => simp [hp]
      | succ k =>
        have h2 : k ≤ (c.takeWhile p).length := by
          have h3 : k + 1 ≤ (x :: c.takeWhile p).length := h
          simpa using h3
        have ih := tw_len (p := p) c k h2
        simpa using ih
theorem tw_take {p : Nat → Bool} (c : List Nat) : c.take (c.takeWhile p).length = c.takeWhile p := by
  have e := List.takeWhile_append_dropWhile (p := p) (l := c)
  conv => lhs; rw [← e]
  rw [List.take_left']
  rw [e]
theorem tw_drop {p : Nat → Bool} (c : List Nat) : c.drop (c.takeWhile p).length = c.dropWhile p := by
  have e := List.takeWhile_append_dropWhile (p := p) (l := c)
  conv => lhs; rw [← e]
  rw [List.drop_left']
  rw [e]
theorem tw_le {p : Nat → Bool} (c : List Nat) : (c.takeWhile p).length ≤ c.length := by
  have e := congrArg List.length (List.takeWhile_append_dropWhile (p := p) (l := c))
  rw [List.length_append] at e
  omega
section
variable {K : PySem.W.Frag} {σ : L2.St} {H : Hp} {te : TE} {l : List Nat}
theorem ev_starts (h : Ev te σ H (.str (S l))) : Ev (tBM K "str" (fun x xs H Q => ∃ a b, x = .str a ∧ xs = [.str b] ∧ Q (.bl (Txt.startswith a b)) H) te (tCons (tC (.str (Str.ofString "$"))) tNil)) σ H (.bl (decide (l.head? = some 36))) := fun H1 e Q q =>
  h H1 e _ fun H2 e2 => ⟨rfl, S l, S [36], rfl, rfl, by rw [starts_36]; exact q H2 e2⟩
theorem ev_strip (h : Ev te σ H (.str (S l))) (hl : l.length ≤ 1000) : Ev (tBM K "str" (fun x xs H Q => ∃ a b, x = .str a ∧ xs = [.str b] ∧ a.length ≤ sizeLine ∧ Q (.str (Txt.removeprefix a b)) H) te (tCons (tC (.str (Str.ofString "$"))) tNil)) σ H (.str (S (if l.head? = some 36 then l.tail else l))) := fun H1 e Q q =>
  h H1 e _ fun H2 e2 => ⟨rfl, S l, S [36], rfl, rfl, by rw [len_S]; exact sz_of (by omega), by rw [strip_36]; exact q H2 e2⟩
end
end TX
namespace K16
open PySem PySem.Spec PyProof.Rows L2 Pen EV2 Evl TX LamX
section
variable {P : Program} {w : World} {K : PySem.W.Frag} {mg : Str → Option Value} {base : Heap} {pc : Ads} {p : AdG}
theorem oksplit_cell (TC : TxtC K mg pc) (T : TxtG K mg p) : FnOk P w K mg base CX0 2 p.f_split_cell p.d_split_cell P_split_cell spSplit := by
  have G_is_letters : FnOk P w K mg base CX0 1 pc.f_is_letters pc.d_is_letters P_is_letters (spAlpha fun l => decide (0 < l.length) && l.all let1) := ok_is_letters TC
  refine T.F_split_cell.ok sc_split_cell (fun vs H Q E h => ?_) (fun cdv A outer s H vs Q E hr h => ?_)
  · obtain ⟨l, rfl, _⟩ := h
    rfl
  · obtain ⟨l, rfl, ha, hl, k⟩ := h
    refine ⟨_, (pss_cons (ps_set (i := 1) sc_split_cell.nd rfl (Or.inl rfl) (pe_bm PySem.F.plainAttrs_str PySem.F.slot_str_startswith PySem.F.type_str_startswith mt_startswith (pv 0) (pa_cons pe_str pa_nil)))
      (pss_cons (ps_set (i := 2) sc_split_cell.nd rfl (Or.inl rfl) (pe_bm PySem.F.plainAttrs_str PySem.F.slot_str_removeprefix PySem.F.type_str_removeprefix mt_removeprefix (pv 0) (pa_cons pe_str pa_nil)))
      (pss_cons (ps_set (i := 3) sc_split_cell.nd rfl (Or.inl rfl) pe_int)
      (pss_cons (ps_while PassesOwn.never (PW.pt (pw_and (pt_cmpR op_lt (pv 3) (pe_callB (id := "len") call_len (by rfl) TC.n_len (by decide +kernel) (pa_cons (pv 2) pa_nil)) (nomark _)) (pw_and1 (pt_val (pe_call G_is_letters (hr.mono (by decide)) (by rfl) TC.mg_is_letters TC.F_is_letters.kp TC.b_is_letters .nil pass0 (pa_cons (pe_ix ix_str (pv 2) (pv 3) (fun _ _ => rfl)) pa_nil)))))) (pss_one (ps_set (i := 3) sc_split_cell.nd rfl (Or.inl rfl) (pe_op op_add (pv 3) pe_int))))
      (pss_cons (ps_set (i := 4) sc_split_cell.nd rfl (Or.inl rfl) (pe_slice sl_str (pv 2) (po_some (pv 3)) po_none))
      (pss_one (ps_ret (pe_tup (pa_cons (pe_slice sl_str (pv 2) po_none (po_some (pv 3))) (pa_cons (pv 1) (pa_cons (pe_bm PySem.F.plainAttrs_str PySem.F.slot_str_removeprefix PySem.F.type_str_removeprefix mt_removeprefix (pv 4) (pa_cons pe_str pa_nil)) (pa_cons (pe_bm PySem.F.plainAttrs_str PySem.F.slot_str_startswith PySem.F.type_str_startswith mt_startswith (pv 4) (pa_cons pe_str pa_nil)) pa_nil)))))))))))), ?_⟩
    refine q_asg (ev_starts (K := K) (l := l) (ev_var rfl)) fun H1 e1 => ?_
    refine q_asg (ev_strip (K := K) (l := l) (ev_var rfl) hl) fun H2 e2 => ?_
    refine q_asg ev_c fun H3 e3 => ?_
    have hcl : (if l.head? = some 36 then l.tail else l).length ≤ 1000 := by
      split
      · rw [List.length_tail]; omega
      · exact hl
    have hca : ∀ x ∈ (if l.head? = some 36 then l.tail else l), x < 128 := fun x hx => by
      split at hx
      · exact ha x (List.mem_of_mem_tail hx)
      · exact ha x hx
    have hparts : cellParts l = (((if l.head? = some 36 then l.tail else l)).takeWhile let1, decide (l.head? = some 36), (if (((if l.head? = some 36 then l.tail else l)).dropWhile let1).head? = some 36 then (((if l.head? = some 36 then l.tail else l)).dropWhile let1).tail else ((if l.head? = some 36 then l.tail else l)).dropWhile let1), decide ((((if l.head? = some 36 then l.tail else l)).dropWhile let1).head? = some 36)) := rfl
    generalize hc : (if l.head? = some 36 then l.tail else l) = c at hcl hca hparts
    refine q_while (fun m σ' H' => ∃ j : Nat, σ' = [some (.str (S l)), some (.bl (decide (l.head? = some 36))), some (.str (S c)), some (.int j), none] ∧ j ≤ (c.takeWhile let1).length ∧ c.length - j = m ∧ Ex H H') (c.length - 0) ⟨0, rfl, Nat.zero_le _, rfl, (e1.trans e2).trans e3⟩ ?_
    rintro m σ' H4 ⟨j, rfl, hj, hm, e4⟩
    have cond : EvT (tAnd (tTest (tOp (rI0 fun i j => .bl (decide (i < j))) (tVar 3) (tCB (rLenX K) (tCons (tVar 2) tNil)))) (tB (tCall (spAlpha fun l => decide (0 < l.length) && l.all let1) [] E0 (tCons (tOp rIxS (tVar 2) (tVar 3)) tNil)))) [some (.str (S l)), some (.bl (decide (l.head? = some 36))), some (.str (S c)), some (.int j), none] H4 (decide (j < (c.takeWhile let1).length)) := by
      rw [← tw_len c j hj]
      have z0 : decide (j < c.length) = decide ((j : Int) < c.length) := decide_eq_decide.mpr (by omega)
      rw [z0]
      refine et_and (et_test (ev_op (ev_var rfl) (ev_lenS (K := K) (ev_var rfl) (by omega)) rv_I0)) fun h1 => ?_
      have h2 : j < c.length := by
        have z : (j : Int) < c.length := of_decide_eq_true h1
        omega
      have hx : c[j]? = some c[j] := List.getElem?_eq_getElem h2
      rw [hx]
      have ex := ev_at (σ := [some (.str (S l)), some (.bl (decide (l.head? = some 36))), some (.str (S c)), some (.int j), none]) (H := H4) (ta := tVar 2) (tb := tVar 3) (ev_var rfl) (ev_var rfl) hx (by omega)
      refine et_B fun H5 e5 Q q => ?_
      refine ex H5 e5 _ fun H6 e6 => ⟨[c[j]], rfl, fun x hx => ?_, by simp, fun H' s => ?_⟩
      · rw [List.mem_singleton.mp hx]
        exact hca _ (List.getElem_mem h2)
      · have g := q H' (e6.trans s)
        have z : (decide (0 < [c[j]].length) && [c[j]].all let1) = (Option.map let1 (some c[j])).getD false := by simp
        rw [← z] at g
        exact g
    refine ⟨_, cond, fun ht H5 e5 => ?_, fun hf H5 e5 => ?_⟩
    · have h1 : j < (c.takeWhile let1).length := of_decide_eq_true ht
      have h2 := tw_le (p := let1) c
      refine ⟨_, fun σ2 H2 n => n, ?_⟩
      refine s_asg (v := .int ((j + 1 : Nat) : Int)) (ev_is (ev_op (ev_var rfl) ev_c rv_I0) (by show V.int ((j : Int) + 1) = _; congr 1)) fun H6 e6 => ?_
      exact ⟨c.length - (j + 1), by omega, j + 1, rfl, h1, rfl, e4.trans (e5.trans e6)⟩
    · have h1 : ¬ j < (c.takeWhile let1).length := of_decide_eq_false hf
      have ej : j = (c.takeWhile let1).length := by omega
      have h2 := tw_le (p := let1) c
      subst ej
      have er : cutS (S c) (some (((c.takeWhile let1).length : Nat) : Int)) none = S (c.dropWhile let1) := by rw [sl_from c h2, tw_drop]
      have el : cutS (S c) none (some (((c.takeWhile let1).length : Nat) : Int)) = S (c.takeWhile let1) := by rw [sl_to c h2, tw_take]
      have hrl : (c.dropWhile let1).length ≤ 1000 := by
        rw [← tw_drop, List.length_drop]
        omega
      refine q_asg (v := .str (S (c.dropWhile let1))) (ev_is (ev_slS (ev_var rfl) (eo_some (ev_var rfl)) eo_none (by rw [len_S]; omega)) (congrArg V.str er)) fun H6 e6 => ?_
      refine (eu_tup (ea_cons (ev_is (ev_slS (ev_var rfl) eo_none (eo_some (ev_var rfl)) (by rw [len_S]; omega)) (congrArg V.str el)) (ea_cons (ev_var rfl) (ea_cons (ev_strip (K := K) (l := c.dropWhile let1) (ev_var rfl) hrl) (ea_cons (ev_starts (K := K) (l := c.dropWhile let1) (ev_var rfl)) ea_nil)))) (by show 4 ≤ 100000; decide)) H6 (Ex.refl H6) _ fun t H7 ht e7 h7 => ?_
      have e47 := (e4.trans e5).trans (e6.trans e7)
      have e46 := (e4.trans e5).trans e6
      refine k t H7 (fresh_back e46 ht) e47 ?_
      rw [h7, hparts]
end
end K16

set_option Elab.async false
set_option linter.all false
set_option maxRecDepth 100000
set_option maxHeartbeats 4000000
namespace K16
open PySem PySem.Spec PyProof.Rows L2 Pen EV2 Evl TX LamX
section
variable {P : Program} {w : World} {K : PySem.W.Frag} {mg : Str → Option Value} {base : Heap} {f C : Addr} {fd : FuncData}
abbrev s_OffGrid_init : Stmt := inClass (topS 5) 0
abbrev N_OffGrid_init : List Str := ["self", "row", "column"]
abbrev P_OffGrid_init : List Str := ["self", "row", "column"]
theorem sc_OffGrid_init : FnScope N_OffGrid_init P_OffGrid_init (defScope s_OffGrid_init) := ⟨rfl, rfl, rfl, by decide +kernel, rfl, by decide +kernel, by decide +kernel⟩
theorem ok_OffGrid_init (F : Fun K "__init__" "OffGrid.__init__" s_OffGrid_init f fd) (O : OexC K C) (no : PySem.W.findIn K (.ref C) "row" = some none) (no2 : PySem.W.findIn K (.ref C) "column" = some none) : FnOk P w K mg base CX0 1 f fd P_OffGrid_init (spI2 C "row" "column") := by
  refine F.ok sc_OffGrid_init (fun vs H Q E h => ?_) (fun cdv A outer s H vs Q E hr h => ?_)
  · obtain ⟨a, v, u, rfl, _⟩ := h
    rfl
  · obtain ⟨a, v, u, rfl, e, k⟩ := h
    refine ⟨_, pss_cons (ps_ost (pv 0) (pv 1)) (pss_one (ps_ost (pv 0) (pv 2))), _, rfl, _, rfl, a, C, rfl, O, no, .inl ⟨e, fun d hd ne => ?_⟩⟩
    exact ⟨_, rfl, _, rfl, a, C, rfl, O, no2, .inr ⟨d, _, upd_same, by rw [upd_ne ne, upd_same], by show 1 ≤ 900; decide, k d hd ne⟩⟩
theorem kp_OffGrid_init (F : Fun K "__init__" "OffGrid.__init__" s_OffGrid_init f fd) : KBn K fd P_OffGrid_init 3 [] (fun us ws => us) (fun vs zs => vs) :=
  kbn_of F (fun _ _ _ _ _ _ us ws l1 l2 => match us, ws, l1, l2 with | [_, _, _], [], _, _ => rfl) fun r _ => r
end
abbrev s_Address_init : Stmt := inClass (topS 18) 0
abbrev N_Address_init : List Str := ["self", "row", "column", "fixed_row", "fixed_column", "sheet"]
abbrev P_Address_init : List Str := ["self", "row", "column", "fixed_row", "fixed_column", "sheet"]
theorem sc_Address_init : FnScope N_Address_init P_Address_init (defScope s_Address_init) := ⟨rfl, rfl, rfl, by decide +kernel, rfl, by decide +kernel, by decide +kernel⟩
abbrev s_Address___eq__ : Stmt := inClass (topS 18) 1
abbrev N_Address___eq__ : List Str := ["self", "other"]
abbrev P_Address___eq__ : List Str := ["self", "other"]
theorem sc_Address___eq__ : FnScope N_Address___eq__ P_Address___eq__ (defScope s_Address___eq__) := ⟨rfl, rfl, rfl, by decide +kernel, rfl, by decide +kernel, by decide +kernel⟩
abbrev s_Address_pushed : Stmt := inClass (topS 18) 2
abbrev N_Address_pushed : List Str := ["self", "rows", "columns"]
abbrev P_Address_pushed : List Str := ["self", "rows", "columns"]
theorem sc_Address_pushed : FnScope N_Address_pushed P_Address_pushed (defScope s_Address_pushed) := ⟨rfl, rfl, rfl, by decide +kernel, rfl, by decide +kernel, by decide +kernel⟩
abbrev s_Address_bare : Stmt := inClass (topS 18) 3
abbrev N_Address_bare : List Str := ["self"]
abbrev P_Address_bare : List Str := ["self"]
theorem sc_Address_bare : FnScope N_Address_bare P_Address_bare (defScope s_Address_bare) := ⟨rfl, rfl, rfl, by decide +kernel, rfl, by decide +kernel, by decide +kernel⟩
theorem upd_twice {H : Hp} {a : Addr} {o o' : HO} : upd (upd H a o) a o' = upd H a o' := by
  funext b
  by_cases h : b = a
  · rw [h, upd_same, upd_same]
  · rw [upd_ne h, upd_ne h, upd_ne h]
structure ErO (K : PySem.W.Frag) (mg : Str → Option Value) (S C fI : Addr) (fd : FuncData) : Prop where
  gC : mg "OffGrid" = some (.ref C)
  ec : ErrC K C fI
  xf : XfC K C
  no : PySem.W.findIn K (.ref C) "row" = some none
  no2 : PySem.W.findIn K (.ref C) "column" = some none
  F : Fun K "__init__" "OffGrid.__init__" s_OffGrid_init fI fd
  ln : LineOf K S C
  nS : C ≠ S
structure AdC where
  C : Addr
  CO : Addr
  iO : Addr
  dO : FuncData
  f_init : Addr
  f_eq : Addr
  f_pushed : Addr
  f_bare : Addr
  d_init : FuncData
  d_eq : FuncData
  d_pushed : FuncData
  d_bare : FuncData
structure TxtA6 (K : PySem.W.Frag) (mg : Str → Option Value) (S : Addr) (p : AdC) : Prop where
  O : ErO K mg S p.CO p.iO p.dO
  mg_Address : mg "Address" = some (.ref p.C)
  cl : Cls K p.C
  n_row : NoAttr K p.C "row"
  n_column : NoAttr K p.C "column"
  n_fixed_row : NoAttr K p.C "fixed_row"
  n_fixed_column : NoAttr K p.C "fixed_column"
  n_sheet : NoAttr K p.C "sheet"
  F_init : Fun K "__init__" "Address.__init__" s_Address_init p.f_init p.d_init
def flds (r c : Int) (fr fc : Bool) (sh : Option (List Nat)) : List (Str × V) := [("row", .int r), ("column", .int c), ("fixed_row", .bl fr), ("fixed_column", .bl fc), ("sheet", shV sh)]
def shGood : Option (List Nat) → Bool
  | none => true
  | some l => sheetOk l
/-- what stands behind a call of __init__ with any values -/
structure InitOk (K : PySem.W.Frag) (p : AdC) (CB : Addr) (H : Hp) (x : Addr) (v0 v1 v2 v3 v4 : V) (n0 n1 n2 n3 : String) (g0 g1 g2 g3 g4 : Bool) : Prop where
  k0 : Knd K H v0 n0
  k1 : Knd K H v1 n1
  k2 : Knd K H v2 n2
  k3 : Knd K H v3 n3
  h0 : goodK n0 g0
  h1 : goodK n1 g1
  h2 : kitB n2 "bool" = some g2
  h3 : kitB n3 "bool" = some g3
  i0 : g0 = true → ∃ r, v0 = .int r
  i1 : g1 = true → ∃ c, v1 = .int c
  i2 : g2 = true → ∃ b, v2 = .bl b
  i3 : g3 = true → ∃ b, v3 = .bl b
  h4 : (∃ sh, v4 = shV sh ∧ shOk sh ∧ g4 = shGood sh) ∨ (∃ n4 : String, Knd K H v4 n4 ∧ kitB n4 "str" = some false ∧ v4 ≠ .non ∧ g4 = false)
theorem InitOk.ext {K : PySem.W.Frag} {p : AdC} {CB : Addr} {H H' : Hp} {x : Addr} {v0 v1 v2 v3 v4 : V} {n0 n1 n2 n3 : String} {g0 g1 g2 g3 g4 : Bool} (h : InitOk K p CB H x v0 v1 v2 v3 v4 n0 n1 n2 n3 g0 g1 g2 g3 g4) (e : Ex H H') : InitOk K p CB H' x v0 v1 v2 v3 v4 n0 n1 n2 n3 g0 g1 g2 g3 g4 :=
  ⟨h.k0.ext e, h.k1.ext e, h.k2.ext e, h.k3.ext e, h.h0, h.h1, h.h2, h.h3, h.i0, h.i1, h.i2, h.i3, by
    rcases h.h4 with q | ⟨n4, a, b, c, d⟩
    · exact .inl q
    · exact .inr ⟨n4, a.ext e, b, c, d⟩⟩
/-- raises OffGrid of r, c -/
def badG (CO : Addr) (H : Hp) (r c : Int) (E : XK) : Prop := ∀ d H', Same H H' → H d = none → H' d = some (.xd [("column", .int c), ("row", .int r)]) → E (.ref CO) (some d) H'
def spInit (K : PySem.W.Frag) (p : AdC) (CB : Addr) : Sp := fun vs H Q E => ∃ (x dx : Addr) (v0 v1 v2 v3 v4 : V) (n0 n1 n2 n3 : String) (g0 g1 g2 g3 g4 : Bool), vs = [.ref x, v0, v1, v2, v3, v4] ∧ H x = some (.ins p.C dx []) ∧ InitOk K p CB H x v0 v1 v2 v3 v4 n0 n1 n2 n3 g0 g1 g2 g3 g4 ∧
  (g0 = false → bad CB "value" H v0 E) ∧ (g0 = true → g1 = false → bad CB "value" H v1 E) ∧ (g0 = true → g1 = true → g2 = false → bad CB "value" H v2 E) ∧ (g0 = true → g1 = true → g2 = true → g3 = false → bad CB "value" H v3 E) ∧
  (g0 = true → g1 = true → g2 = true → g3 = true → g4 = false → bad CB "value" H v4 E) ∧
  (∀ r c fr fc sh, v0 = .int r → v1 = .int c → v2 = .bl fr → v3 = .bl fc → v4 = shV sh → g4 = true → (gridOk r c = false → badG p.CO H r c E) ∧ (gridOk r c = true → ∀ H', Ex H H' → Q .non (upd H' x (.ins p.C dx (flds r c fr fc sh)))))
section
variable {P : Program} {w : World} {K : PySem.W.Frag} {mg : Str → Option Value} {base : Heap} {pc : Ads} {pg : AdG} {p : AdC}
theorem ok_Address_init (TC : TxtC K mg pc) (TG : TxtG K mg pg) (T : TxtA6 K mg pc.S p) : FnOk P w K mg base (L2.CX P w) 4 p.f_init p.d_init P_Address_init (spInit K p pc.CB) := by
  have G_check_integer : FnOk P w K mg base (L2.CX P w) 3 pg.f_check_integer pg.d_check_integer P_check_integer (spInt K pc.CB) := ok_check_integer TC TG
  have G_check_truth : FnOk P w K mg base (L2.CX P w) 3 pg.f_check_truth pg.d_check_truth P_check_truth (spTruth K pc.CB) := ok_check_truth TC TG
  have G_is_sheet_name : FnOk P w K mg base CX0 1 pg.f_is_sheet_name pg.d_is_sheet_name P_is_sheet_name (spSheetName K) := ok_is_sheet_name TC TG
  have G_is_on_grid : FnOk P w K mg base CX0 1 pg.f_is_on_grid pg.d_is_on_grid P_is_on_grid spGrid := ok_is_on_grid TC TG
  refine T.F_init.okX sc_Address_init (fun vs H Q E h => ?_) (fun cdv A outer s H vs Q E hr h => ?_)
  · obtain ⟨x, dx, v0, v1, v2, v3, v4, n0, n1, n2, n3, g0, g1, g2, g3, g4, rfl, _⟩ := h
    rfl
  · obtain ⟨x, dx, v0, v1, v2, v3, v4, n0, n1, n2, n3, g0, g1, g2, g3, g4, rfl, hx, I, b0, b1, b2, b3, b4, k⟩ := h
    refine ⟨_, (pss_cons (ps_expr (pe_call G_check_integer (hr.mono (by decide)) (by rfl) TG.mg_check_integer TG.F_check_integer.kp TG.b_check_integer .nil (passes_call (takes_of rfl rfl rfl rfl) fun _ _ _ _ h => h) (pa_cons (pv 1) pa_nil)))
      (pss_cons (ps_expr (pe_call G_check_integer (hr.mono (by decide)) (by rfl) TG.mg_check_integer TG.F_check_integer.kp TG.b_check_integer .nil (passes_call (takes_of rfl rfl rfl rfl) fun _ _ _ _ h => h) (pa_cons (pv 2) pa_nil)))
      (pss_cons (ps_expr (pe_call G_check_truth (hr.mono (by decide)) (by rfl) TG.mg_check_truth TG.F_check_truth.kp TG.b_check_truth .nil (passes_call (takes_of rfl rfl rfl rfl) fun _ _ _ _ h => h) (pa_cons (pv 3) pa_nil)))
      (pss_cons (ps_expr (pe_call G_check_truth (hr.mono (by decide)) (by rfl) TG.mg_check_truth TG.F_check_truth.kp TG.b_check_truth .nil (passes_call (takes_of rfl rfl rfl rfl) fun _ _ _ _ h => h) (pa_cons (pv 4) pa_nil)))
      (pss_cons (ps_if (PW.pt (pw_and (pt_cmpR op_notN1 (pv 5) pe_non (nomark _)) (pw_and1 (pt_not (pt_val (pe_call G_is_sheet_name (hr.mono (by decide)) (by rfl) TG.mg_is_sheet_name TG.F_is_sheet_name.kp TG.b_is_sheet_name .nil pass0 (pa_cons (pv 5) pa_nil))))))) (pss_one (ps_raise rfl (takes_of rfl rfl rfl rfl) (pmk_R (n := 1) TC.BadValue.ec (ok_BadValue_init TC.BadValue.F TC.BadValue.ec.ox TC.BadValue.no) (hr.mono (by decide)) (by rfl) TC.BadValue.gC (kp_BadValue_init TC.BadValue.F) hx0 (pa_cons (pv 5) pa_nil)))) pss_nil)
      (pss_cons (ps_if (pt_not (pt_val (pe_call G_is_on_grid (hr.mono (by decide)) (by rfl) TG.mg_is_on_grid TG.F_is_on_grid.kp TG.b_is_on_grid .nil pass0 (pa_cons (pv 1) (pa_cons (pv 2) pa_nil))))) (pss_one (ps_raise rfl (takes_of rfl rfl rfl rfl) (pmk_R (n := 2) T.O.ec (ok_OffGrid_init T.O.F T.O.ec.ox T.O.no T.O.no2) (hr.mono (by decide)) (by rfl) T.O.gC (kp_OffGrid_init T.O.F) hx0 (pa_cons (pv 1) (pa_cons (pv 2) pa_nil))))) pss_nil)
      (pss_cons (ps_fld (pv 0) (pv 1) rfl)
      (pss_cons (ps_fld (pv 0) (pv 2) rfl)
      (pss_cons (ps_fld (pv 0) (pv 3) rfl)
      (pss_cons (ps_fld (pv 0) (pv 4) rfl)
      (pss_one (ps_fld (pv 0) (pv 5) rfl)))))))))))), ?_⟩
    cases g0 with
    | false => exact ⟨_, rfl, v0, n0, false, rfl, I.k0, I.h0, (fun z => nomatch z), fun _ => b0 rfl⟩
    | true =>
      refine q_drop (v := .non) (fun H1 e Q q => ⟨_, rfl, v0, n0, true, rfl, I.k0.ext e, I.h0, fun _ H' s => q H' s, fun z => nomatch z⟩) fun H1 e1 => ?_
      cases g1 with
      | false => exact ⟨_, rfl, v1, n1, false, rfl, I.k1.ext e1, I.h1, (fun z => nomatch z), fun _ => (b1 rfl rfl).at e1⟩
      | true =>
        refine q_drop (v := .non) (fun H2 e Q q => ⟨_, rfl, v1, n1, true, rfl, I.k1.ext (e1.trans e), I.h1, fun _ H' s => q H' s, fun z => nomatch z⟩) fun H2 e2 => ?_
        have e12 := e1.trans e2
        cases g2 with
        | false => exact ⟨_, rfl, v2, n2, false, rfl, I.k2.ext e12, I.h2, (fun z => nomatch z), fun _ => (b2 rfl rfl rfl).at e12⟩
        | true =>
          refine q_drop (v := .non) (fun H3 e Q q => ⟨_, rfl, v2, n2, true, rfl, I.k2.ext (e12.trans e), I.h2, fun _ H' s => q H' s, fun z => nomatch z⟩) fun H3 e3 => ?_
          have e13 := e12.trans e3
          cases g3 with
          | false => exact ⟨_, rfl, v3, n3, false, rfl, I.k3.ext e13, I.h3, (fun z => nomatch z), fun _ => (b3 rfl rfl rfl rfl).at e13⟩
          | true =>
            refine q_drop (v := .non) (fun H4 e Q q => ⟨_, rfl, v3, n3, true, rfl, I.k3.ext (e13.trans e), I.h3, fun _ H' s => q H' s, fun z => nomatch z⟩) fun H4 e4 => ?_
            have e14 := e13.trans e4
            obtain ⟨r, rfl⟩ := I.i0 rfl
            obtain ⟨c, rfl⟩ := I.i1 rfl
            obtain ⟨fr, rfl⟩ := I.i2 rfl
            obtain ⟨fc, rfl⟩ := I.i3 rfl
            have cond : EvT (tAnd (tTest (tOp rNotN (tVar 5) (tC .non))) (tNot (tB (tCall (spSheetName K) [] E0 (tCons (tVar 5) tNil))))) [some (.ref x), some (.int r), some (.int c), some (.bl fr), some (.bl fc), some v4] H4 (!g4) := by
              have en : Ev (tOp rNotN (tVar 5) (tC .non)) [some (.ref x), some (.int r), some (.int c), some (.bl fr), some (.bl fc), some v4] H4 (.bl (!decide (v4 = .non))) := ev_op (ev_var rfl) ev_c fun H1 _ Q q => ⟨rfl, q H1 (Ex.refl H1)⟩
              rcases I.h4 with ⟨sh, rfl, ho, hg⟩ | ⟨n4, kn, hk, hne, hg⟩
              · cases sh with
                | none =>
                  refine et_is (et_and (b := true) (et_test en) fun z => absurd z (by decide)) ?_
                  rw [hg]
                  rfl
                | some l =>
                  refine et_is (et_and (et_test en) fun _ => et_not (et_B (b := sheetOk l) fun H5 e5 Q q => ⟨_, rfl, .str (S l), rfl, .inl ⟨l, rfl, ho.1, ho.2, fun H' s => q H' s⟩⟩)) ?_
                  rw [hg]
                  rfl
              · refine et_is (et_and (et_test en) fun _ => et_not (et_B (b := false) fun H5 e5 Q q => ⟨_, rfl, v4, rfl, .inr ⟨n4, kn.ext (e14.trans e5), hk, fun H' s => q H' s⟩⟩)) ?_
                rw [hg, decide_eq_false hne]
                rfl
            refine q_when cond (fun hb H5 e5 => ?_) (fun hb H5 e5 => ?_)
            · have hg : g4 = false := by simpa using hb
              exact ⟨_, rfl, rfl, rfl, by decide, rr_e1 (Q := E) fun d H' nd sm hd => ((b4 rfl rfl rfl rfl hg).at (e14.trans e5)) d H' sm nd hd⟩
            · have hg : g4 = true := by simpa using hb
              have e15 := e14.trans e5
              obtain ⟨sh, rfl⟩ : ∃ sh, v4 = shV sh := by
                rcases I.h4 with ⟨sh, h, _⟩ | ⟨n4, _, _, _, h⟩
                · exact ⟨sh, h⟩
                · rw [hg] at h
                  cases h
              obtain ⟨kb, kg⟩ := k r c fr fc sh rfl rfl rfl rfl rfl hg
              refine q_when (b := !gridOk r c) (et_not (et_B fun H6 e6 Q q => ⟨_, rfl, _, rfl, r, c, rfl, fun H' s => q H' s⟩)) (fun hb H6 e6 => ?_) (fun hb H6 e6 => ?_)
              · have hg2 : gridOk r c = false := by simpa using hb
                refine ⟨_, rfl, _, rfl, rfl, rfl, by decide, rr_e2 (Q := E) fun d H' nd sm hd => kb hg2 d H' ((e15.trans e6).trans sm) (fresh_back (e15.trans e6) nd) hd⟩
              · have hg2 : gridOk r c = true := by simpa using hb
                have e16 := e15.trans e6
                have hx6 := e16 _ _ hx
                refine ⟨_, rfl, _, rfl, x, p.C, dx, _, rfl, hx6, T.cl, T.n_row, by decide, ?_⟩
                refine ⟨_, rfl, _, rfl, x, p.C, dx, _, rfl, upd_same, T.cl, T.n_column, by show 1 < 1000; decide, ?_⟩
                refine ⟨_, rfl, _, rfl, x, p.C, dx, _, rfl, upd_same, T.cl, T.n_fixed_row, by show 2 < 1000; decide, ?_⟩
                refine ⟨_, rfl, _, rfl, x, p.C, dx, _, rfl, upd_same, T.cl, T.n_fixed_column, by show 3 < 1000; decide, ?_⟩
                refine ⟨_, rfl, _, rfl, x, p.C, dx, _, rfl, upd_same, T.cl, T.n_sheet, by show 4 < 1000; decide, ?_⟩
                have g := kg hg2 H6 e16
                rw [upd_twice, upd_twice, upd_twice, upd_twice]
                exact g
end
end K16

set_option Elab.async false
set_option linter.all false
set_option maxRecDepth 100000
set_option maxHeartbeats 4000000
namespace K16
open PySem PySem.Spec PyProof.Rows L2 Pen EV2 Evl TX LamX
/-- what the class Address must say beside -/
structure TxtB (K : PySem.W.Frag) (mg : Str → Option Value) (p : AdC) (D : Addr) : Prop where
  mkA : Mk K p.C p.f_init
  F_eq : Fun K "__eq__" "Address.__eq__" s_Address___eq__ p.f_eq p.d_eq
  F_pushed : Fun K "pushed" "Address.pushed" s_Address_pushed p.f_pushed p.d_pushed
  F_bare : Fun K "bare" "Address.bare" s_Address_bare p.f_bare p.d_bare
  ha : PySem.W.findIn K (.ref p.C) "__class__" = some (some (.builtin "object.__class__"))
  hn : PySem.W.specialIn K (.builtin "object.__class__") "__get__" = some (some (.builtin "getset_descriptor.__get__"))
  ht : PySem.W.takesIn K (.builtin "object.__class__") = some true
  hm : PySem.W.mroIn K p.C (.type "object") = some true
section
variable {P : Program} {w : World} {K : PySem.W.Frag} {mg : Str → Option Value} {base : Heap} {pc : Ads} {pg : AdG} {p : AdC} {D : Addr} {S : Addr} {σ : L2.St} {H : Hp} {te : TE} {a dx : Addr} {r c : Int} {fr fc : Bool} {sh : Option (List Nat)}
theorem adr_ty (T : TxtA6 K mg S p) (Z : TxtB K mg p D) (h : H a = some (.ins p.C dx (flds r c fr fc sh))) : TyX K H (.ref a) (.ref p.C) := .base (.ins h T.cl Z.ha Z.hn Z.ht Z.hm)
theorem ev_fld {f : Str} {v : V} (he : Ev te σ H (.ref a)) (h : H a = some (.ins p.C dx (flds r c fr fc sh))) (cl : Cls K p.C) (n : NoAttr K p.C f) (hl : (flds r c fr fc sh).lookup f = some v) : Ev (tFld K te f) σ H v := fun H1 e Q q =>
  he H1 e _ fun H2 e2 => ⟨a, p.C, dx, _, v, rfl, (e.trans e2) _ _ h, cl, n, hl, q H2 e2⟩
/-- a new Address -/
def EvNew (C : Addr) (te : TE) (σ : L2.St) (H : Hp) (fs : List (Str × V)) : Prop := ∀ H1, Ex H H1 → ∀ Q : VK, (∀ x dx H2, H1 x = none → Ex H1 H2 → H2 x = some (.ins C dx fs) → Q (.ref x) H2) → te σ H1 Q
theorem kb_Address {f : Addr} {fd : FuncData} (F : Fun K "__init__" "Address.__init__" s_Address_init f fd) : KBn K fd P_Address_init 3 ["fixed_row", "fixed_column", "sheet"] (fun us ws => us ++ ws) (fun vs zs => vs ++ zs) :=
  kbn_of F (fun _ _ _ _ _ _ us ws l1 l2 => match us, ws, l1, l2 with | [_, _, _], [_, _, _], _, _ => rfl) fun r q => r.append q
theorem init_good {CB : Addr} {H1 H3 : Hp} {E : XK} {Q : VK} (hs : shOk sh) (hg : shGood sh = true) (hr : gridOk r c = true) (e : Ex H1 H3) (q : ∀ x dx H2, H1 x = none → Ex H1 H2 → H2 x = some (.ins p.C dx (flds r c fr fc sh)) → Q (.ref x) H2) :
    ∀ x dx, H3 x = none → H3 dx = none → dx ≠ x → spInit K p CB [.ref x, .int r, .int c, .bl fr, .bl fc, shV sh] (upd (upd H3 dx (.own x)) x (.ins p.C dx [])) (fun v H4 => v = .non ∧ Q (.ref x) H4) E := fun x dx nx ndx ne =>
  ⟨x, dx, _, _, _, _, _, "int", "int", "bool", "bool", true, true, true, true, true, rfl, upd_same,
    ⟨knd_int, knd_int, knd_bl, knd_bl, ⟨true, false, by decide +kernel, by decide +kernel, rfl⟩, ⟨true, false, by decide +kernel, by decide +kernel, rfl⟩, by decide +kernel, by decide +kernel, fun _ => ⟨r, rfl⟩, fun _ => ⟨c, rfl⟩, fun _ => ⟨fr, rfl⟩, fun _ => ⟨fc, rfl⟩, .inl ⟨sh, rfl, hs, hg.symm⟩⟩,
    (fun z => nomatch z), (fun _ z => nomatch z), (fun _ _ z => nomatch z), (fun _ _ _ z => nomatch z), (fun _ _ _ _ z => nomatch z), by
      intro r2 c2 fr2 fc2 sh2 h0 h1 h2 h3 h4 _
      cases h0
      cases h1
      cases h2
      cases h3
      have h5 : sh = sh2 := by
        cases sh <;> cases sh2 <;> first | rfl | (simp [shV] at h4; try exact congrArg some h4)
      subst h5
      refine ⟨fun z => absurd (hr.symm.trans z) (by decide), fun _ H4 e4 => ⟨rfl, q x dx _ (fresh_back e nx) (fun b o hb => ?_) upd_same⟩⟩
      have hb3 := e _ _ hb
      have n1 : b ≠ x := ne_of_none hb3 nx
      have n2 : b ≠ dx := ne_of_none hb3 ndx
      rw [upd_ne n1]
      refine e4 _ _ ?_
      rw [upd_ne n1, upd_ne n2]
      exact hb3⟩
theorem en_make {CB : Addr} {E : XK} {ta tk : TA} (ha : EvA ta σ H [.int r, .int c]) (hk : EvA tk σ H [.bl fr, .bl fc, shV sh]) (hs : shOk sh) (hg : shGood sh = true) (hr : gridOk r c = true) :
    EvNew p.C (tMakeK p.C 2 3 (spInit K p CB) (fun vs zs => vs ++ zs) E ta tk) σ H (flds r c fr fc sh) := fun H1 e Q q =>
  ha H1 e _ fun H2 e2 => hk H2 (e.trans e2) _ fun H3 e3 => ⟨rfl, rfl, init_good hs hg hr (e2.trans e3) q⟩
def spPushed (C CO : Addr) : Sp := fun vs H Q E => ∃ (a dx : Addr) (r c dr dc : Int) (fr fc : Bool) (sh : Option (List Nat)), vs = [.ref a, .int dr, .int dc] ∧ H a = some (.ins C dx (flds r c fr fc sh)) ∧ shOk sh ∧ shGood sh = true ∧
  (gridOk (r + dr) (c + dc) = true → ∀ x dx H', H x = none → Same H H' → H' x = some (.ins C dx (flds (r + dr) (c + dc) fr fc sh)) → Q (.ref x) H') ∧ (gridOk (r + dr) (c + dc) = false → badG CO H (r + dr) (c + dc) E)
def spAeq (K : PySem.W.Frag) (C : Addr) : Sp := fun vs H Q _ => ∃ (a dx : Addr) (r c : Int) (fr fc : Bool) (sh : Option (List Nat)) (y : V), vs = [.ref a, y] ∧ H a = some (.ins C dx (flds r c fr fc sh)) ∧ shOk sh ∧
  ((∃ (b dy : Addr) (r2 c2 : Int) (fr2 fc2 : Bool) (sh2 : Option (List Nat)), y = .ref b ∧ H b = some (.ins C dy (flds r2 c2 fr2 fc2 sh2)) ∧ shOk sh2 ∧ ∀ H', Same H H' → Q (.bl (decide (r = r2) && decide (c = c2) && alike sh sh2 && decide (fr = fr2) && decide (fc = fc2))) H') ∨
   (∃ n : String, Knd K H y n ∧ PySem.W.kitOne K (.type n) (.ref C) = some false ∧ ∀ H', Same H H' → Q (.bl false) H'))
end
section
variable {P : Program} {w : World} {K : PySem.W.Frag} {mg : Str → Option Value} {base : Heap} {pc : Ads} {pg : AdG} {p : AdC} {D : Addr}
theorem ok_Address_eq (TC : TxtC K mg pc) (TG : TxtG K mg pg) (T : TxtA6 K mg pc.S p) (Z : TxtB K mg p D) : FnOk P w K mg base CX0 6 p.f_eq p.d_eq P_Address___eq__ (spAeq K p.C) := by
  have G_alike_sheets : FnOk P w K mg base CX0 5 pg.f_alike_sheets pg.d_alike_sheets P_alike_sheets spAlike := ok_alike_sheets TC TG
  refine Z.F_eq.ok sc_Address___eq__ (fun vs H Q E h => ?_) (fun cdv A outer s H vs Q E hr h => ?_)
  · obtain ⟨a, dx, r, c, fr, fc, sh, y, rfl, _⟩ := h
    rfl
  · obtain ⟨a, dx, r, c, fr, fc, sh, y, rfl, ha, hs, h⟩ := h
    refine ⟨_, (pss_cons (ps_if (pt_not (pt_val (pe_callB (id := "isinstance") call_isi (by rfl) TC.n_isinstance (by decide +kernel) (pa_cons (pv 1) (pa_cons (pe_glob (v := .ref p.C) (by rfl) T.mg_Address rfl) pa_nil))))) (pss_one (ps_ret pe_bl)) pss_nil)
      (pss_cons (ps_if (PW.pt (pw_or (pt_cmpR op_ne (pe_fld (pv 0) rfl) (pe_fld (pv 1) rfl) (nomark _)) (pw_or (pt_cmpR op_ne (pe_fld (pv 0) rfl) (pe_fld (pv 1) rfl) (nomark _)) (pw_or1 (pt_not (pt_val (pe_call G_alike_sheets (hr.mono (by decide)) (by rfl) TG.mg_alike_sheets TG.F_alike_sheets.kp TG.b_alike_sheets .nil pass0 (pa_cons (pe_fld (pv 0) rfl) (pa_cons (pe_fld (pv 1) rfl) pa_nil))))))))) (pss_one (ps_ret pe_bl)) pss_nil)
      (pss_one (ps_ret (pe_and (pe_cmpR op_eq (pe_fld (pv 0) rfl) (pe_fld (pv 1) rfl) (nomark _)) (pe_one (pe_cmpR op_eq (pe_fld (pv 0) rfl) (pe_fld (pv 1) rfl) (nomark _)))))))), ?_⟩
    rcases h with ⟨b, dy, r2, c2, fr2, fc2, sh2, rfl, hb, hs2, k⟩ | ⟨n, kn, hk, k⟩
    · have me : PySem.W.kitOne K (.ref p.C) (.ref p.C) = some true := by
        unfold PySem.W.kitOne
        rw [if_pos (by simp)]
      have ei : Ev (tCB (rIsi K) (tCons (tVar 1) (tCons (tC (.ref p.C)) tNil))) [some (.ref a), some (.ref b)] H (.bl true) := fun H1 e Q q => ⟨_, rfl, .ref b, .ref p.C, .ref p.C, .ref p.C, true, rfl, .own p.C, adr_ty T Z (e _ _ hb), me, q H1 (Ex.refl H1)⟩
      refine q_when (b := false) (et_is (et_not (et_B ei)) rfl) (fun z => nomatch z) fun _ H1 e1 => ?_
      have ha1 := e1 _ _ ha
      have hb1 := e1 _ _ hb
      have fa : ∀ {f : Str} {v : V}, NoAttr K p.C f → (flds r c fr fc sh).lookup f = some v → Ev (tFld K (tVar 0) f) [some (.ref a), some (.ref b)] H1 v := fun n hl => ev_fld (ev_var rfl) ha1 T.cl n hl
      have fb : ∀ {f : Str} {v : V}, NoAttr K p.C f → (flds r2 c2 fr2 fc2 sh2).lookup f = some v → Ev (tFld K (tVar 1) f) [some (.ref a), some (.ref b)] H1 v := fun n hl => ev_fld (ev_var rfl) hb1 T.cl n hl
      have el : Ev (tCall spAlike [] E0 (tCons (tFld K (tVar 0) "sheet") (tCons (tFld K (tVar 1) "sheet") tNil))) [some (.ref a), some (.ref b)] H1 (.bl (alike sh sh2)) :=
        ev_call (ea_cons (fa T.n_sheet rfl) (ea_cons (fb T.n_sheet rfl) ea_nil)) fun H2 e Q q E => ⟨sh, sh2, rfl, hs, hs2, fun H' s => q H' s⟩
      refine q_when (et_or (et_test (ev_op (fa T.n_row rfl) (fb T.n_row rfl) (rv_ne rfl))) fun _ => et_or (et_test (ev_op (fa T.n_column rfl) (fb T.n_column rfl) (rv_ne rfl))) fun _ => et_not (et_B el)) (fun hc H2 e2 => ?_) (fun hc H2 e2 => ?_)
      · have z : (decide (r = r2) && decide (c = c2) && alike sh sh2 && decide (fr = fr2) && decide (fc = fc2)) = false := by
          simp only [Bool.or_eq_true, Bool.not_eq_true', decide_eq_false_iff_not] at hc
          rcases hc with h | h | h
          · rw [decide_eq_false (fun q => h (by rw [q]))]
            rfl
          · rw [decide_eq_false (show ¬ c = c2 from fun q => h (by rw [q]))]
            simp
          · rw [h]
            simp
        have g := k H2 (e1.trans e2)
        rw [z] at g
        exact g
      · simp only [Bool.or_eq_false_iff, Bool.not_eq_false', decide_eq_true_eq] at hc
        obtain ⟨h1, h2, h3⟩ := hc
        cases h1
        cases h2
        refine (ev_andV (ev_op ((fa T.n_fixed_row rfl).mono e2) ((fb T.n_fixed_row rfl).mono e2) (rv_eq rfl)) fun _ => ev_op ((fa T.n_fixed_column rfl).mono e2) ((fb T.n_fixed_column rfl).mono e2) (rv_eq rfl)) H2 (Ex.refl H2) _ fun H3 e3 => ?_
        have g := k H3 ((e1.trans e2).trans e3)
        have z : (decide (r = r) && decide (c = c) && alike sh sh2 && decide (fr = fr2) && decide (fc = fc2)) = (decide (V.bl fr = V.bl fr2) && decide (V.bl fc = V.bl fc2)) := by
          rw [h3]
          simp
        rw [z] at g
        exact g
    · have ei : Ev (tCB (rIsi K) (tCons (tVar 1) (tCons (tC (.ref p.C)) tNil))) [some (.ref a), some y] H (.bl false) := fun H1 e Q q => ⟨_, rfl, y, .ref p.C, .type n, .ref p.C, false, rfl, .own p.C, kn H1 e, hk, q H1 (Ex.refl H1)⟩
      exact q_when (b := true) (et_is (et_not (et_B ei)) rfl) (fun _ H1 e1 => k H1 e1) fun z => nomatch z
end
end K16

set_option Elab.async false
set_option linter.all false
set_option maxRecDepth 100000
set_option maxHeartbeats 4000000
namespace K16
open PySem PySem.Spec PyProof.Rows L2 Pen EV2 Evl TX LamX
theorem s_makeK {C : Addr} {n m : Nat} {sp : Sp} {gV : List V → List V → List V} {E : XK} {ta tk : TA} {σ : L2.St} {H : Hp} {D : Ends} {vs zs : List V} (ha : EvA ta σ H vs) (hk : EvA tk σ H zs) (l1 : vs.length = n) (l2 : zs.length = m)
    (k : ∀ H3, Ex H H3 → ∀ x dx, H3 x = none → H3 dx = none → dx ≠ x → sp (gV (.ref x :: vs) zs) (upd (upd H3 dx (.own x)) x (.ins C dx [])) (fun v H4 => v = .non ∧ D.rt (.ref x) H4) E) : tRet (tMakeK C n m sp gV E ta tk) D σ H :=
  ha H (Ex.refl H) _ fun H1 e1 => hk H1 e1 _ fun H2 e2 => ⟨l1, l2, k H2 (e1.trans e2)⟩
abbrev kwA : List (Str × V) := [("fixed_row", .bl false), ("fixed_column", .bl false), ("sheet", .non)]
theorem kb0_of {K : PySem.W.Frag} {f : Addr} {fd : FuncData} (F : FunD K "__init__" "Address.__init__" (defArgs s_Address_init) (defBody s_Address_init) (defScope s_Address_init) [] kwA f fd) :
    ∃ mv : List Value, KBn K fd P_Address_init 3 [] (fun us ws => us ++ mv) (fun vs zs => vs ++ [.bl false, .bl false, .non]) :=
  F.kbinds0 3 [] kwA (fun us mv ws => us ++ mv) (by simp) (fun q h => h) (fun r1 r2 r3 => r1.append r2) (fun D doc pm an cdv ct us mv ws l1 l2 l3 => match us, mv, ws, l1, l2, l3 with
    | [_, _, _], [_, _, _], [], _, _, _ => ⟨_, _, _, _, _, _, rfl, rfl, _, _, _, _, _, _, rfl, rfl, _, _, _, _, _, _, rfl, rfl, rfl⟩)
section
variable {P : Program} {w : World} {K : PySem.W.Frag} {mg : Str → Option Value} {base : Heap} {pc : Ads} {pg : AdG} {p : AdC} {D : Addr}
def spBare (C : Addr) : Sp := fun vs H Q _ => ∃ (a dx : Addr) (r c : Int) (fr fc : Bool) (sh : Option (List Nat)), vs = [.ref a] ∧ H a = some (.ins C dx (flds r c fr fc sh)) ∧ gridOk r c = true ∧
  ∀ x dx H', H x = none → Same H H' → H' x = some (.ins C dx (flds r c false false none)) → Q (.ref x) H'
theorem ok_Address_bare (TC : TxtC K mg pc) (TG : TxtG K mg pg) (T : TxtA6 K mg pc.S p) (Z : TxtB K mg p D) {mv : List Value} (kb0 : KBn K p.d_init P_Address_init 3 [] (fun us ws => us ++ mv) (fun vs zs => vs ++ [.bl false, .bl false, .non])) : FnOk P w K mg base CX0 6 p.f_bare p.d_bare P_Address_bare (spBare p.C) := by
  refine Z.F_bare.ok sc_Address_bare (fun vs H Q E h => ?_) (fun cdv A outer s H vs Q E hr h => ?_)
  · obtain ⟨a, dx, r, c, fr, fc, sh, rfl, _⟩ := h
    rfl
  · obtain ⟨a, dx, r, c, fr, fc, sh, rfl, ha, hg, k⟩ := h
    refine ⟨_, (pss_one (ps_ret (pe_makeK (n := 2) Z.mkA (ok_Address_init TC TG T) (hr.mono (by decide)) (by rfl) T.mg_Address kb0 passL (pa_cons (pe_fld (pv 0) rfl) (pa_cons (pe_fld (pv 0) rfl) pa_nil)) pk_nil))), ?_⟩
    refine s_makeK (ea_cons (ev_fld (p := p) (v := .int r) (ev_var rfl) ha T.cl T.n_row rfl) (ea_cons (ev_fld (p := p) (v := .int c) (ev_var rfl) ha T.cl T.n_column rfl) ea_nil)) ea_nil rfl rfl fun H1 e1 => ?_
    exact init_good (p := p) (sh := none) (fr := false) (fc := false) True.intro rfl hg e1 fun x dx H2 nx e2 h2 => k x dx H2 nx e2 h2
theorem init_bad {CB : Addr} {H1 H3 : Hp} {E : XK} {Q : VK} {r c : Int} {fr fc : Bool} {sh : Option (List Nat)} (hs : shOk sh) (hg : shGood sh = true) (hr : gridOk r c = false) (e : Ex H1 H3) (q : badG p.CO H1 r c E) :
    ∀ x dx, H3 x = none → H3 dx = none → dx ≠ x → spInit K p CB [.ref x, .int r, .int c, .bl fr, .bl fc, shV sh] (upd (upd H3 dx (.own x)) x (.ins p.C dx [])) (fun v H4 => v = .non ∧ Q (.ref x) H4) E := fun x dx nx ndx ne =>
  ⟨x, dx, _, _, _, _, _, "int", "int", "bool", "bool", true, true, true, true, true, rfl, upd_same,
    ⟨knd_int, knd_int, knd_bl, knd_bl, ⟨true, false, by decide +kernel, by decide +kernel, rfl⟩, ⟨true, false, by decide +kernel, by decide +kernel, rfl⟩, by decide +kernel, by decide +kernel, fun _ => ⟨r, rfl⟩, fun _ => ⟨c, rfl⟩, fun _ => ⟨fr, rfl⟩, fun _ => ⟨fc, rfl⟩, .inl ⟨sh, rfl, hs, hg.symm⟩⟩,
    (fun z => nomatch z), (fun _ z => nomatch z), (fun _ _ z => nomatch z), (fun _ _ _ z => nomatch z), (fun _ _ _ _ z => nomatch z), by
      intro r2 c2 fr2 fc2 sh2 h0 h1 h2 h3 h4 _
      cases h0
      cases h1
      refine ⟨fun _ d H4 s4 nd hd => q d H4 (fun b o hb => ?_) ?_ hd, fun z => absurd (hr.symm.trans z) (by decide)⟩
      · have hb3 := e _ _ hb
        have n1 : b ≠ x := ne_of_none hb3 nx
        have n2 : b ≠ dx := ne_of_none hb3 ndx
        refine s4 _ _ ?_
        rw [upd_ne n1, upd_ne n2]
        exact hb3
      · have n1 : d ≠ x := fun z => by
          rw [z, upd_same] at nd
          cases nd
        have n2 : d ≠ dx := fun z => by
          rw [z, upd_ne ne, upd_same] at nd
          cases nd
        rw [upd_ne n1, upd_ne n2] at nd
        exact fresh_back e nd⟩
theorem ok_Address_pushed (TC : TxtC K mg pc) (TG : TxtG K mg pg) (T : TxtA6 K mg pc.S p) (Z : TxtB K mg p D) : FnOk P w K mg base (L2.CX P w) 6 p.f_pushed p.d_pushed P_Address_pushed (spPushed p.C p.CO) := by
  have G_check_integer : FnOk P w K mg base (L2.CX P w) 3 pg.f_check_integer pg.d_check_integer P_check_integer (spInt K pc.CB) := ok_check_integer TC TG
  refine Z.F_pushed.okX sc_Address_pushed (fun vs H Q E h => ?_) (fun cdv A outer s H vs Q E hr h => ?_)
  · obtain ⟨a, dx, r, c, dr, dc, fr, fc, sh, rfl, _⟩ := h
    rfl
  · obtain ⟨a, dx, r, c, dr, dc, fr, fc, sh, rfl, ha, hs, hg, k1, k2⟩ := h
    refine ⟨_, (pss_cons (ps_expr (pe_call G_check_integer (hr.mono (by decide)) (by rfl) TG.mg_check_integer TG.F_check_integer.kp TG.b_check_integer .nil (passes_call (takes_of rfl rfl rfl rfl) fun _ _ _ _ h => h) (pa_cons (pv 1) pa_nil)))
      (pss_cons (ps_expr (pe_call G_check_integer (hr.mono (by decide)) (by rfl) TG.mg_check_integer TG.F_check_integer.kp TG.b_check_integer .nil (passes_call (takes_of rfl rfl rfl rfl) fun _ _ _ _ h => h) (pa_cons (pv 2) pa_nil)))
      (pss_one (ps_ret (pe_makeK (n := 2) Z.mkA (ok_Address_init TC TG T) (hr.mono (by decide)) (by rfl) T.mg_Address (kb_Address T.F_init) (passes_call (takes_of rfl rfl rfl rfl) fun _ _ _ _ h => h) (pa_cons (pe_op op_add (pe_fld (pv 0) rfl) (pv 1)) (pa_cons (pe_op op_add (pe_fld (pv 0) rfl) (pv 2)) pa_nil)) (pk_cons (pe_fld (pv 0) rfl) (pk_cons (pe_fld (pv 0) rfl) (pk_cons (pe_fld (pv 0) rfl) pk_nil)))))))), ?_⟩
    refine q_drop (v := .non) (fun H1 e Q q => ⟨_, rfl, .int dr, "int", true, rfl, knd_int, ⟨true, false, by decide +kernel, by decide +kernel, rfl⟩, fun _ H' s => q H' s, fun z => nomatch z⟩) fun H1 e1 => ?_
    refine q_drop (v := .non) (fun H2 e Q q => ⟨_, rfl, .int dc, "int", true, rfl, knd_int, ⟨true, false, by decide +kernel, by decide +kernel, rfl⟩, fun _ H' s => q H' s, fun z => nomatch z⟩) fun H2 e2 => ?_
    have e12 := e1.trans e2
    have ha2 := e12 _ _ ha
    have fa : ∀ {f : Str} {v : V}, NoAttr K p.C f → (flds r c fr fc sh).lookup f = some v → Ev (tFld K (tVar 0) f) [some (.ref a), some (.int dr), some (.int dc)] H2 v := fun n hl => ev_fld (ev_var rfl) ha2 T.cl n hl
    refine s_makeK (vs := [.int (r + dr), .int (c + dc)]) (zs := [.bl fr, .bl fc, shV sh]) (ea_cons (ev_op (fa T.n_row rfl) (ev_var (i := 1) rfl) rv_I0) (ea_cons (ev_op (fa T.n_column rfl) (ev_var (i := 2) rfl) rv_I0) ea_nil))
      (ea_cons (fa T.n_fixed_row rfl) (ea_cons (fa T.n_fixed_column rfl) (ea_cons (fa T.n_sheet rfl) ea_nil))) rfl rfl fun H4 e24 => ?_
    cases hgr : gridOk (r + dr) (c + dc) with
    | true => exact init_good (p := p) hs hg hgr (e12.trans e24) fun x dx H5 nx e5 h5 => k1 hgr x dx H5 nx e5 h5
    | false => exact init_bad (p := p) hs hg hgr (e12.trans e24) (k2 hgr)
end
end K16

set_option Elab.async false
set_option linter.all false
set_option maxRecDepth 100000
set_option maxHeartbeats 4000000
namespace TX
open PySem PySem.Spec PyProof.Rows L2 Evl
section
variable {σ : L2.St} {H : Hp} {t te : TE} {ts : List TE} {acc y : Str} {Q : Str → Hp → Prop} {l m : List Nat} {i : Int}
theorem js_cons (h : Ev t σ H (.str (S m))) (hl : l.length + m.length ≤ 100000) (r : ∀ H1, Ex H H1 → tJs ts (S (l ++ m)) σ H1 Q) : tJs (t :: ts) (S l) σ H Q := h H (Ex.refl H) _ fun H1 e1 => ⟨S m, rfl, by rw [app_S, len_S, List.length_append]; exact sz_of hl, by rw [app_S]; exact r H1 e1⟩
theorem ev_fmtS (h : Ev te σ H (.str (S m))) (hl : m.length ≤ 100000) : Ev (tFmt te) σ H (.str (S m)) := fun H1 e Q q => h H1 e _ fun H2 e2 => .inl ⟨S m, rfl, by rw [len_S]; exact sz_of hl, q H2 e2⟩
theorem num_S (n : Nat) : Str.ofString (toString ((n : Nat) : Int)) = S (TL.numL n) := StrLaws.mk_of_toList (TL.tl_num n)
theorem ev_fmtN {n : Nat} (h : Ev te σ H (.int n)) (hl : n.log2 < 1920) : Ev (tFmt te) σ H (.str (S (TL.numL n))) := fun H1 e Q q => h H1 e _ fun H2 e2 => .inr ⟨n, rfl, hl, by
  have z : (toString ((n : Nat) : Int) : String) = toString ((n : Nat) : Int) := rfl
  show Q (.str (Str.ofString (toString ((n : Nat) : Int)))) H2
  rw [num_S]
  exact q H2 e2⟩
theorem ev_lettersE {K : PySem.W.Frag} {CB : Addr} {E : XK} {m : Nat} (h : Ev te σ H (.int m)) (h1 : 1 ≤ m) (h2 : m ≤ 18278) : Ev (tCall (K16.spLettersOf K CB) [] E (tCons te tNil)) σ H (.str (S (letsF 3 m))) := fun H1 e Q q => h H1 e _ fun H2 e2 => ⟨_, rfl, .inl ⟨m, rfl, h1, h2, fun H3 e3 => q H3 (e2.trans e3)⟩⟩
end
end TX
namespace K16
open PySem PySem.Spec PyProof.Rows L2 Pen EV2 Evl TX LamX
abbrev s_address_text : Stmt := topS 21
abbrev N_address_text : List Str := ["address", "sheet", "column", "row"]
abbrev P_address_text : List Str := ["address"]
theorem sc_address_text : FnScope N_address_text P_address_text (defScope s_address_text) := ⟨rfl, rfl, rfl, by decide +kernel, rfl, by decide +kernel, by decide +kernel⟩
abbrev s_read_address : Stmt := topS 22
abbrev N_read_address : List Str := ["text", "sheet", "mark", "cell", "letters", "fixed_column", "digits", "fixed_row"]
abbrev P_read_address : List Str := ["text"]
theorem sc_read_address : FnScope N_read_address P_read_address (defScope s_read_address) := ⟨rfl, rfl, rfl, by decide +kernel, rfl, by decide +kernel, by decide +kernel⟩

def adrText (n m : Nat) (fr fc : Bool) (sh : Option (List Nat)) : List Nat :=
  (match sh with | none => [] | some l => l ++ [33]) ++ (if fc = true then [36] else []) ++ letsF 3 m ++ (if fr = true then [36] else []) ++ TL.numL n
def spAdrText (K : PySem.W.Frag) (C CB : Addr) : Sp := fun vs H Q E => ∃ y : V, vs = [y] ∧
  ((∃ (a dx : Addr) (n m : Nat) (fr fc : Bool) (sh : Option (List Nat)), y = .ref a ∧ H a = some (.ins C dx (flds n m fr fc sh)) ∧ 1 ≤ n ∧ n ≤ 1000000 ∧ 1 ≤ m ∧ m ≤ 18278 ∧ shOk sh ∧ ∀ H', Same H H' → Q (.str (S (adrText n m fr fc sh))) H') ∨
   (∃ n : String, Knd K H y n ∧ PySem.W.kitOne K (.type n) (.ref C) = some false ∧ bad CB "value" H y E))
section
variable {P : Program} {w : World} {K : PySem.W.Frag} {mg : Str → Option Value} {base : Heap} {pc : Ads} {pg : AdG} {p : AdC} {D : Addr} {f : Addr} {fd : FuncData}
theorem ok_address_text (TC : TxtC K mg pc) (TG : TxtG K mg pg) (T : TxtA6 K mg pc.S p) (Z : TxtB K mg p D) (F : Fun K "address_text" "address_text" s_address_text f fd) : FnOk P w K mg base (L2.CX P w) 5 f fd P_address_text (spAdrText K p.C pc.CB) := by
  have G_letters_of : FnOk P w K mg base (L2.CX P w) 4 pc.f_letters_of pc.d_letters_of P_letters_of (spLettersOf K pc.CB) := ok_letters_of TC
  refine F.okX sc_address_text (fun vs H Q E h => ?_) (fun cdv A outer s H vs Q E hr h => ?_)
  · obtain ⟨y, rfl, _⟩ := h
    rfl
  · obtain ⟨y, rfl, h⟩ := h
    refine ⟨_, (pss_cons (ps_if (pt_not (pt_val (pe_callB (id := "isinstance") call_isi (by rfl) TC.n_isinstance (by decide +kernel) (pa_cons (pv 0) (pa_cons (pe_glob (v := .ref p.C) (by rfl) T.mg_Address rfl) pa_nil))))) (pss_one (ps_raise rfl (takes_of rfl rfl rfl rfl) (pmk_R (n := 1) TC.BadValue.ec (ok_BadValue_init TC.BadValue.F TC.BadValue.ec.ox TC.BadValue.no) (hr.mono (by decide)) (by rfl) TC.BadValue.gC (kp_BadValue_init TC.BadValue.F) hx0 (pa_cons (pv 0) pa_nil)))) pss_nil)
      (pss_cons (ps_set (i := 1) sc_address_text.nd rfl (Or.inl rfl) (pe_ifExp (pt_cmpR op_isN1 (pe_fld (pv 0) rfl) pe_non (nomark _)) pe_str (pe_joined (PJ.cons (pe_fmt (pe_fld (pv 0) rfl)) (PJ.cons pe_str PJ.nil)))))
      (pss_cons (ps_set (i := 2) sc_address_text.nd rfl (Or.inl rfl) (pe_ifExp (pt_val (pe_fld (pv 0) rfl)) pe_str pe_str))
      (pss_cons (ps_set (i := 3) sc_address_text.nd rfl (Or.inl rfl) (pe_ifExp (pt_val (pe_fld (pv 0) rfl)) pe_str pe_str))
      (pss_one (ps_ret (pe_joined (PJ.cons (pe_fmt (pv 1)) (PJ.cons (pe_fmt (pv 2)) (PJ.cons (pe_fmt (pe_call G_letters_of (hr.mono (by decide)) (by rfl) TC.mg_letters_of TC.F_letters_of.kp TC.b_letters_of .nil (passes_call (takes_of rfl rfl rfl rfl) fun _ _ _ _ h => h) (pa_cons (pe_fld (pv 0) rfl) pa_nil))) (PJ.cons (pe_fmt (pv 3)) (PJ.cons (pe_fmt (pe_fld (pv 0) rfl)) PJ.nil)))))))))))), ?_⟩
    rcases h with ⟨a, dx, n, m, fr, fc, sh, rfl, ha, n1, n2, m1, m2, hs, k⟩ | ⟨n, kn, hk, hb⟩
    · have me : PySem.W.kitOne K (.ref p.C) (.ref p.C) = some true := by
        unfold PySem.W.kitOne
        rw [if_pos (by simp)]
      have ei : Ev (tCB (rIsi K) (tCons (tVar 0) (tCons (tC (.ref p.C)) tNil))) [some (.ref a), none, none, none] H (.bl true) := fun H1 e Q q => ⟨_, rfl, .ref a, .ref p.C, .ref p.C, .ref p.C, true, rfl, .own p.C, adr_ty T Z (e _ _ ha), me, q H1 (Ex.refl H1)⟩
      refine q_when (b := false) (et_is (et_not (et_B ei)) rfl) (fun z => nomatch z) fun _ H1 e1 => ?_
      have fa : ∀ {σ : L2.St} {H' : Hp} {f : Str} {v : V}, Ex H H' → σ[0]? = some (some (.ref a)) → NoAttr K p.C f → (flds n m fr fc sh).lookup f = some v → Ev (tFld K (tVar 0) f) σ H' v := fun e h0 n hl => ev_fld (ev_var h0) (e _ _ ha) T.cl n hl
      have en : ∀ {σ : L2.St} {H : Hp} {te : TE} {v : V}, Ev te σ H v → Ev (tOp rIsN te (tC .non)) σ H (.bl (decide (v = .non))) := fun h => ev_op h ev_c fun H1 _ Q q => ⟨rfl, q H1 (Ex.refl H1)⟩
      have hlen : ∀ l, sh = some l → l.length ≤ 1000 := fun l e => by
        subst e
        exact hs.2
      refine q_asg (v := .str (S (match sh with | none => [] | some l => l ++ [33]))) (Evl.ev_if (b := decide (shV sh = .non)) (et_test (en (fa e1 rfl T.n_sheet rfl))) (fun hb => ?_) (fun hb => ?_)) fun H2 e2 => ?_
      · cases sh with
        | none => exact ev_c
        | some l => simp [shV] at hb
      · cases sh with
        | none => simp [shV] at hb
        | some l =>
          have hl := hlen l rfl
          have fl : Ev (tFld K (tVar 0) "sheet") [some (.ref a), none, none, none] H1 (.str (S l)) := fa e1 rfl T.n_sheet rfl
          refine fun H3 e3 Q q => ?_
          refine js_cons (l := []) (m := l) ((ev_fmtS fl (by omega)).mono e3) (by show 0 + l.length ≤ 100000; omega) fun H4 e4 => ?_
          refine js_cons (l := l) (m := [33]) ev_c (by show l.length + 1 ≤ 100000; omega) fun H5 e5 => ?_
          exact q H5 (e4.trans e5)
      refine q_asg (v := .str (S (if fc = true then [36] else []))) (Evl.ev_if (b := fc) (et_B (fa (e1.trans e2) rfl T.n_fixed_column rfl)) (fun hb => by rw [hb]; exact ev_c) (fun hb => by rw [hb]; exact ev_c)) fun H3 e3 => ?_
      refine q_asg (v := .str (S (if fr = true then [36] else []))) (Evl.ev_if (b := fr) (et_B (fa ((e1.trans e2).trans e3) rfl T.n_fixed_row rfl)) (fun hb => by rw [hb]; exact ev_c) (fun hb => by rw [hb]; exact ev_c)) fun H4 e4 => ?_
      have e14 := ((e1.trans e2).trans e3).trans e4
      have hsl : (match sh with | none => [] | some l => l ++ [33]).length ≤ 1001 := by
        cases sh with
        | none => decide
        | some l =>
          have := hlen l rfl
          show (l ++ [33]).length ≤ 1001
          rw [List.length_append]
          show l.length + 1 ≤ 1001
          omega
      have hf1 : ∀ b : Bool, (if b = true then [36] else ([] : List Nat)).length ≤ 1 := fun b => by cases b <;> decide
      have h1 := hf1 fc
      have h2 := hf1 fr
      have h3 := lets_len 3 m
      have h4 : (TL.numL n).length ≤ 7 := TL.numL_len (by decide) (by omega)
      have hlog : n.log2 < 1920 := (Nat.log2_lt (by omega)).2 (Nat.lt_of_le_of_lt n2 (by decide))
      show tRet _ _ _ _
      refine js_cons (l := []) (ev_fmtS (ev_var rfl) (by omega)) (by show 0 + _ ≤ 100000; omega) fun H5 e5 => ?_
      refine js_cons (ev_fmtS (ev_var rfl) (by omega)) (by rw [List.nil_append]; omega) fun H6 e6 => ?_
      have e16 := (e14.trans e5).trans e6
      refine js_cons (ev_fmtS (ev_lettersE (fa e16 rfl T.n_column rfl) m1 m2) (by omega)) (by simp only [List.nil_append, List.length_append]; omega) fun H7 e7 => ?_
      refine js_cons (ev_fmtS (ev_var rfl) (by omega)) (by simp only [List.nil_append, List.length_append]; omega) fun H8 e8 => ?_
      have e18 := (e16.trans e7).trans e8
      refine js_cons (ev_fmtN (fa e18 rfl T.n_row rfl) hlog) (by simp only [List.nil_append, List.length_append]; omega) fun H9 e9 => ?_
      exact k H9 (e18.trans e9)
    · have ei : Ev (tCB (rIsi K) (tCons (tVar 0) (tCons (tC (.ref p.C)) tNil))) [some y, none, none, none] H (.bl false) := fun H1 e Q q => ⟨_, rfl, y, .ref p.C, .type n, .ref p.C, false, rfl, .own p.C, kn H1 e, hk, q H1 (Ex.refl H1)⟩
      refine q_when (b := true) (et_is (et_not (et_B ei)) rfl) (fun _ H1 e1 => ?_) fun z => nomatch z
      exact ⟨_, rfl, rfl, rfl, by decide, rr_e1 (Q := E) fun d H' nd sm hd => hb d H' (e1.trans sm) (fresh_back e1 nd) hd⟩
end
end K16

set_option Elab.async false
set_option linter.all false
set_option maxRecDepth 100000
set_option maxHeartbeats 4000000
namespace TX
open PySem PySem.Spec PyProof.Rows L2 Evl
section
variable {K : PySem.W.Frag} {σ : L2.St} {H : Hp} {te : TE} {l : List Nat}
abbrev rRp : V → List V → Hp → VK → Prop := fun x xs H Q => ∃ a b, x = .str a ∧ xs = [.str b] ∧ (b.length == 0) = false ∧ a.length ≤ sizeLine ∧
    ∀ p, H p = none → Q (.ref p) (upd H p (.tup [.str (Txt.rpartition a b).1, .str (Txt.rpartition a b).2.1, .str (Txt.rpartition a b).2.2]))
/-- the text before the last '!', that sign, the text behind it -/
def rParts (l : List Nat) : List Nat × List Nat × List Nat := match lastBang l with
  | none => ([], [], l)
  | some (a, b) => (a, [33], b)
theorem rpart_P (l : List Nat) : Txt.rpartition (S l) (S [33]) = (S (rParts l).1, S (rParts l).2.1, S (rParts l).2.2) := by
  rw [rpart_S]
  unfold rParts
  cases lastBang l with
  | none => rfl
  | some p => rfl
theorem q_rp {g : TG} {tz : TS} {D : Ends} (h : Ev te σ H (.str (S l))) (hl : l.length ≤ 100000) (k : ∀ t H1, H t = none → Ex H H1 → H1 t = some (.tup [.str (S (rParts l).1), .str (S (rParts l).2.1), .str (S (rParts l).2.2)]) → g (.ref t) σ H1 (tz D)) :
    tSeq (tAsg (tBM K "str" rRp te (tCons (tC (.str (Str.ofString "!"))) tNil)) g) tz D σ H :=
  h H (Ex.refl H) _ fun H1 e1 => ⟨rfl, S l, S [33], rfl, rfl, rfl, by rw [len_S]; exact sz_of hl, fun t ht => k t _ (fresh_back e1 ht) (e1.trans (Ex.new ht)) (by rw [upd_same, rpart_P])⟩
theorem et_truS {m : List Nat} (hl : m.length ≤ 100000) (h : Ev te σ H (.str (S m))) : EvT (fun σ H Q => te σ H fun x H' => ∃ k, TruV K x H' k ∧ Q k H') σ H (decide (0 < m.length)) := fun H1 e _ q => h H1 e _ fun H2 e2 => ⟨_, ⟨by rw [len_S]; exact sz_of hl, by
  rw [len_S]
  cases m with
  | nil => rfl
  | cons c m =>
    have z : ((((c :: m).length : Nat) : Int) != 0) = true := by
      rw [List.length_cons]
      exact bne_iff_ne.mpr (by omega)
    rw [z]
    exact decide_eq_true (by rw [List.length_cons]; omega)⟩, q H2 e2⟩
end
theorem q_whenN {t : TT} {b : Bool} {σ : L2.St} {H : Hp} {tu tz : TS} {D : Ends} {r : VK} (h : EvT t σ H b) (h1 : b = true → ∀ H1, Ex H H1 → tu { D with nx := tz D } σ H1) (h2 : b = false → ∀ H1, Ex H H1 → tz D σ H1) : Ends.nx { nx := tSeq (tIfS t tu tNext) tz D, rt := r } σ H := q_when h h1 h2
theorem fold_ge : ∀ (l : List Nat) (a : Nat), a ≤ l.foldl (fun acc c => acc * 10 + (c - 48)) a
  | [], a => Nat.le_refl a
  | c :: l, a => Nat.le_trans (by omega) (fold_ge l (a * 10 + (c - 48)))
end TX
namespace K16
open PySem PySem.Spec PyProof.Rows L2 Pen EV2 Evl TX LamX
theorem colVal {l : List Nat} (h : colText l = true) : 1 ≤ val (l.map up) ∧ val (l.map up) ≤ 18278 := by
  unfold colText at h
  simp only [Bool.and_eq_true, decide_eq_true_eq] at h
  obtain ⟨⟨h1, h2⟩, h3⟩ := h
  have rng := up_rng h3
  match l, h1, h2, rng with
  | [a], _, _, rng =>
    have ra := rng (up a) (by simp)
    show 1 ≤ (0 * 26 + ((up a - 65 : Nat) : Int) + 1) ∧ (0 * 26 + ((up a - 65 : Nat) : Int) + 1) ≤ 18278
    omega
  | [a, b], _, _, rng =>
    have ra := rng (up a) (by simp)
    have rb := rng (up b) (by simp)
    show 1 ≤ ((0 * 26 + ((up a - 65 : Nat) : Int) + 1) * 26 + ((up b - 65 : Nat) : Int) + 1) ∧ ((0 * 26 + ((up a - 65 : Nat) : Int) + 1) * 26 + ((up b - 65 : Nat) : Int) + 1) ≤ 18278
    omega
  | [a, b, c], _, _, rng =>
    have ra := rng (up a) (by simp)
    have rb := rng (up b) (by simp)
    have rc := rng (up c) (by simp)
    show 1 ≤ (((0 * 26 + ((up a - 65 : Nat) : Int) + 1) * 26 + ((up b - 65 : Nat) : Int) + 1) * 26 + ((up c - 65 : Nat) : Int) + 1) ∧ (((0 * 26 + ((up a - 65 : Nat) : Int) + 1) * 26 + ((up b - 65 : Nat) : Int) + 1) * 26 + ((up c - 65 : Nat) : Int) + 1) ≤ 18278
    omega
  | a :: b :: c :: d :: r, _, h2, _ => exact absurd h2 (by show ¬ r.length + 4 ≤ 3; omega)
def numVal (l : List Nat) : Int := (NumText.digitsVal l : Nat)
theorem rowVal {l : List Nat} (h : rowText l = true) : PySem.intText? (S l) = some (numVal l) ∧ l.length ≤ 7 ∧ 1 ≤ numVal l ∧ numVal l ≤ 1000000 := by
  unfold rowText at h
  simp only [Bool.and_eq_true, decide_eq_true_eq] at h
  obtain ⟨⟨⟨⟨h1, h2⟩, h3⟩, h4⟩, h5⟩ := h
  have ne : l ≠ [] := fun e => by
    subst e
    cases h1
  have z := PySem.intText_digits (x := S l) (by rw [toList_S]; intro d hd; exact of_decide_eq_true (List.all_eq_true.mp h3 d hd)) (by rw [toList_S]; exact ne) (by rw [len_S]; omega)
  rw [toList_S] at z
  refine ⟨z, h2, ?_, by unfold numVal; omega⟩
  cases l with
  | nil => exact absurd rfl ne
  | cons c l =>
    have hc : 48 ≤ c ∧ c ≤ 57 := of_decide_eq_true (List.all_eq_true.mp h3 c (List.mem_cons_self ..))
    have hn : c ≠ 48 := fun z => by
      rw [z] at h4
      simp at h4
    have g := fold_ge l (0 * 10 + (c - 48))
    unfold numVal
    have g2 : 0 * 10 + (c - 48) ≤ NumText.digitsVal (c :: l) := g
    omega
/-- a cell's text -/
def parseC (b : List Nat) (sh : Option (List Nat)) : Option (Int × Int × Bool × Bool × Option (List Nat)) :=
  if colText (cellParts b).1 = true ∧ rowText (cellParts b).2.2.1 = true then some (numVal (cellParts b).2.2.1, val ((cellParts b).1.map up), (cellParts b).2.2.2, (cellParts b).2.1, sh) else none
def parseA (l : List Nat) : Option (Int × Int × Bool × Bool × Option (List Nat)) := match lastBang l with
  | none => parseC l none
  | some (a, b) => if sheetOk a = true then parseC b (some a) else none
def spReadA (K : PySem.W.Frag) (C CB CN : Addr) : Sp := fun vs H Q E => ∃ v : V, vs = [v] ∧
  ((∃ l : List Nat, v = .str (S l) ∧ (∀ c ∈ l, c < 128) ∧ l.length ≤ 1000 ∧ (∀ r c fr fc sh, parseA l = some (r, c, fr, fc, sh) → ∀ x dx H', H x = none → Same H H' → H' x = some (.ins C dx (flds r c fr fc sh)) → Q (.ref x) H') ∧ (parseA l = none → bad CN "name" H v E)) ∨
  (∃ n : String, Knd K H v n ∧ kitB n "str" = some false ∧ bad CB "value" H v E))
theorem parts_asc {l : List Nat} (h : ∀ c ∈ l, c < 128) : (∀ c ∈ (cellParts l).1, c < 128) ∧ (∀ c ∈ (cellParts l).2.2.1, c < 128) ∧ (cellParts l).1.length ≤ l.length ∧ (cellParts l).2.2.1.length ≤ l.length := by
  have hs : ∀ c : List Nat, (if c.head? = some 36 then c.tail else c).Sublist c := fun c => by
    by_cases z : c.head? = some 36
    · rw [if_pos z]
      exact List.tail_sublist c
    · rw [if_neg z]
      exact List.Sublist.refl c
  have s1 : (cellParts l).1.Sublist l := (List.takeWhile_sublist _).trans (hs l)
  have s2 : (cellParts l).2.2.1.Sublist l := (hs _).trans ((List.dropWhile_sublist _).trans (hs l))
  exact ⟨fun c hc => h c (s1.subset hc), fun c hc => h c (s2.subset hc), s1.length_le, s2.length_le⟩
section
variable {P : Program} {w : World} {K : PySem.W.Frag} {mg : Str → Option Value} {base : Heap} {pc : Ads} {pg : AdG} {p : AdC} {D : Addr} {f : Addr} {fd : FuncData}
theorem ok_read_address (TC : TxtC K mg pc) (TG : TxtG K mg pg) (T : TxtA6 K mg pc.S p) (Z : TxtB K mg p D) (F : Fun K "read_address" "read_address" s_read_address f fd) : FnOk P w K mg base (L2.CX P w) 6 f fd P_read_address (spReadA K p.C pc.CB pc.CN) := by
  have G_check_string : FnOk P w K mg base (L2.CX P w) 3 pc.f_check_string pc.d_check_string P_check_string (spString K pc.CB) := ok_check_string TC
  have G_is_column_text : FnOk P w K mg base CX0 2 pc.f_is_column_text pc.d_is_column_text P_is_column_text (spAlpha colText) := ok_is_column_text TC
  have G_column_of : FnOk P w K mg base (L2.CX P w) 4 pc.f_column_of pc.d_column_of P_column_of (spColumnOf K pc.CB pc.CN) := ok_column_of TC
  have G_is_sheet_name : FnOk P w K mg base CX0 1 pg.f_is_sheet_name pg.d_is_sheet_name P_is_sheet_name (spSheetName K) := ok_is_sheet_name TC TG
  have G_split_cell : FnOk P w K mg base CX0 2 pg.f_split_cell pg.d_split_cell P_split_cell spSplit := oksplit_cell TC TG
  have G_is_row_text : FnOk P w K mg base CX0 1 pg.f_is_row_text pg.d_is_row_text P_is_row_text (spAlpha rowText) := ok_is_row_text TC TG
  refine F.okX sc_read_address (fun vs H Q E h => ?_) (fun cdv A outer s H vs Q E hr h => ?_)
  · obtain ⟨y, rfl, _⟩ := h
    rfl
  · obtain ⟨y, rfl, h⟩ := h
    refine ⟨_, (pss_cons (ps_expr (pe_call G_check_string (hr.mono (by decide)) (by rfl) TC.mg_check_string TC.F_check_string.kp TC.b_check_string .nil (passes_call (takes_of rfl rfl rfl rfl) fun _ _ _ _ h => h) (pa_cons (pv 0) pa_nil)))
      (pss_cons (ps_asg (pe_bm PySem.F.plainAttrs_str PySem.F.slot_str_rpartition PySem.F.type_str_rpartition mt_rpartition (pv 0) (pa_cons pe_str pa_nil)) (pg_tup (by rfl) (pgs_cons (pg_name (i := 1) sc_read_address.nd rfl (Or.inl rfl)) (pgs_cons (pg_name (i := 2) sc_read_address.nd rfl (Or.inl rfl)) (pgs_cons (pg_name (i := 3) sc_read_address.nd rfl (Or.inl rfl)) pgs_nil)))))
      (pss_cons (ps_if (PW.pt (pw_and (pt_truth (pv 2) (by intro _; rfl)) (pw_and1 (pt_not (pt_val (pe_call G_is_sheet_name (hr.mono (by decide)) (by rfl) TG.mg_is_sheet_name TG.F_is_sheet_name.kp TG.b_is_sheet_name .nil pass0 (pa_cons (pv 1) pa_nil))))))) (pss_one (ps_raise rfl (takes_of rfl rfl rfl rfl) (pmk_R (n := 1) TC.NotAName.ec (ok_NotAName_init TC.NotAName.F TC.NotAName.ec.ox TC.NotAName.no) (hr.mono (by decide)) (by rfl) TC.NotAName.gC (kp_NotAName_init TC.NotAName.F) hx0 (pa_cons (pv 0) pa_nil)))) pss_nil)
      (pss_cons (ps_asg (pe_call G_split_cell (hr.mono (by decide)) (by rfl) TG.mg_split_cell TG.F_split_cell.kp TG.b_split_cell .nil pass0 (pa_cons (pv 3) pa_nil)) (pg_tup (by rfl) (pgs_cons (pg_name (i := 4) sc_read_address.nd rfl (Or.inl rfl)) (pgs_cons (pg_name (i := 5) sc_read_address.nd rfl (Or.inl rfl)) (pgs_cons (pg_name (i := 6) sc_read_address.nd rfl (Or.inl rfl)) (pgs_cons (pg_name (i := 7) sc_read_address.nd rfl (Or.inl rfl)) pgs_nil))))))
      (pss_cons (ps_if (PW.pt (pw_or (pt_not (pt_val (pe_call G_is_column_text (hr.mono (by decide)) (by rfl) TC.mg_is_column_text TC.F_is_column_text.kp TC.b_is_column_text .nil pass0 (pa_cons (pv 4) pa_nil)))) (pw_or1 (pt_not (pt_val (pe_call G_is_row_text (hr.mono (by decide)) (by rfl) TG.mg_is_row_text TG.F_is_row_text.kp TG.b_is_row_text .nil pass0 (pa_cons (pv 6) pa_nil))))))) (pss_one (ps_raise rfl (takes_of rfl rfl rfl rfl) (pmk_R (n := 1) TC.NotAName.ec (ok_NotAName_init TC.NotAName.F TC.NotAName.ec.ox TC.NotAName.no) (hr.mono (by decide)) (by rfl) TC.NotAName.gC (kp_NotAName_init TC.NotAName.F) hx0 (pa_cons (pv 0) pa_nil)))) pss_nil)
      (pss_one (ps_ret (pe_makeK (n := 2) Z.mkA (ok_Address_init TC TG T) (hr.mono (by decide)) (by rfl) T.mg_Address (kb_Address T.F_init) (passes_call (takes_of rfl rfl rfl rfl) fun _ _ _ _ h => h) (pa_cons (pe_callTy (T := "int") call_int_str (by rfl) TC.n_int (by decide +kernel) (pa_cons (pv 6) pa_nil)) (pa_cons (pe_call G_column_of (hr.mono (by decide)) (by rfl) TC.mg_column_of TC.F_column_of.kp TC.b_column_of .nil (passes_call (takes_of rfl rfl rfl rfl) fun _ _ _ _ h => h) (pa_cons (pv 4) pa_nil)) pa_nil)) (pk_cons (pv 7) (pk_cons (pv 5) (pk_cons (pe_ifExp (pt_truth (pv 2) (by intro _; rfl)) (pv 1) pe_non) pk_nil))))))))))), ?_⟩
    rcases h with ⟨l, rfl, ha, hl, h1, h2⟩ | ⟨n, kn, hk, h1⟩
    · refine q_drop (v := .non) (fun H1 e Q q => ⟨_, rfl, .str (S l), "str", true, rfl, knd_str, by decide +kernel, fun _ H' s => q H' s, fun z => nomatch z⟩) fun H1 e1 => ?_
      refine q_rp (K := K) (ev_var rfl) (by omega) fun t H2 nt e2 ht => ?_
      have hP : (∀ c ∈ (rParts l).1, c < 128) ∧ (rParts l).1.length ≤ 1000 ∧ (rParts l).2.1.length ≤ 1 ∧ (∀ c ∈ (rParts l).2.2, c < 128) ∧ (rParts l).2.2.length ≤ 1000 ∧
          parseA l = if 0 < (rParts l).2.1.length then (if sheetOk (rParts l).1 = true then parseC (rParts l).2.2 (some (rParts l).1) else none) else parseC (rParts l).2.2 none := by
        unfold rParts parseA
        cases q : lastBang l with
        | none => exact ⟨fun c h => by simp at h, Nat.zero_le _, Nat.zero_le _, ha, hl, rfl⟩
        | some p =>
          obtain ⟨a, b⟩ := p
          obtain ⟨g1, _⟩ := bang_some q
          have gl := congrArg List.length g1
          rw [List.length_append, List.length_cons] at gl
          exact ⟨fun c h => ha c (by rw [g1]; exact List.mem_append_left _ h), by show a.length ≤ 1000; omega, Nat.le_refl 1, fun c h => ha c (by rw [g1]; exact List.mem_append_right _ (List.mem_cons_of_mem _ h)), by show b.length ≤ 1000; omega, rfl⟩
      generalize (rParts l).1 = a at hP ht
      generalize (rParts l).2.1 = mk at hP ht
      generalize (rParts l).2.2 = b at hP ht
      obtain ⟨aa, al, ml, ba, bl, hpa⟩ := hP
      rw [hpa] at h1 h2
      refine ⟨t, _, rfl, st_of ht, rfl, _, _, rfl, _, _, rfl, _, _, rfl, rfl, ?_⟩
      have e12 := e1.trans e2
      have eS : Ev (tCall (spSheetName K) [] E0 (tCons (tVar 1) tNil)) [some (.str (S l)), some (.str (S a)), some (.str (S mk)), some (.str (S b)), none, none, none, none] H2 (.bl (sheetOk a)) := fun H3 e Q q => ⟨_, rfl, .str (S a), rfl, .inl ⟨a, rfl, aa, al, fun H' s => q H' s⟩⟩
      refine q_when (et_and (et_truS (K := K) (m := mk) (by omega) (ev_var rfl)) fun _ => et_not (et_B eS)) (fun hb H3 e3 => ?_) (fun hb H3 e3 => ?_)
      · have e13 := e12.trans e3
        simp only [Bool.and_eq_true, decide_eq_true_eq, Bool.not_eq_true'] at hb
        rw [if_pos hb.1, hb.2] at h2
        exact ⟨_, rfl, rfl, rfl, by decide, rr_e1 (Q := E) fun d H' nd sm hd => h2 rfl d H' (e13.trans sm) (fresh_back e13 nd) hd⟩
      · have e13 := e12.trans e3
        have hz : ∃ sh, shOk sh ∧ shGood sh = true ∧ (if 0 < mk.length then (if sheetOk a = true then parseC b (some a) else none) else parseC b none) = parseC b sh ∧ sh = if 0 < mk.length then some a else none := by
          by_cases m0 : 0 < mk.length
          · have g : sheetOk a = true := by
              rw [decide_eq_true m0] at hb
              simpa using hb
            exact ⟨some a, ⟨aa, al⟩, g, by rw [if_pos m0, if_pos g], by rw [if_pos m0]⟩
          · exact ⟨none, True.intro, rfl, by rw [if_neg m0], by rw [if_neg m0]⟩
        obtain ⟨sh, so, sg2, hpc, hsh⟩ := hz
        rw [hpc] at h1 h2
        obtain ⟨pa1, pa2, pl1, pl2⟩ := parts_asc ba
        refine ⟨_, rfl, b, rfl, ba, bl, fun u H4 nu sm hu => ?_⟩
        have e14 : Ex H H4 := e13.trans sm
        revert h1 h2
        unfold parseC
        generalize (cellParts b).1 = x at *
        generalize (cellParts b).2.1 = fc at *
        generalize (cellParts b).2.2.1 = y at *
        generalize (cellParts b).2.2.2 = fr at *
        intro h2 h1
        refine ⟨u, _, rfl, st_of hu, rfl, _, _, rfl, _, _, rfl, _, _, rfl, _, _, rfl, rfl, ?_⟩
        have eX : Ev (tCall (spAlpha colText) [] E0 (tCons (tVar 4) tNil)) [some (.str (S l)), some (.str (S a)), some (.str (S mk)), some (.str (S b)), some (.str (S x)), some (.bl fc), some (.str (S y)), some (.bl fr)] H4 (.bl (colText x)) := fun H5 e Q q => ⟨_, rfl, x, rfl, pa1, by omega, fun H' s => q H' s⟩
        have eY : Ev (tCall (spAlpha rowText) [] E0 (tCons (tVar 6) tNil)) [some (.str (S l)), some (.str (S a)), some (.str (S mk)), some (.str (S b)), some (.str (S x)), some (.bl fc), some (.str (S y)), some (.bl fr)] H4 (.bl (rowText y)) := fun H5 e Q q => ⟨_, rfl, y, rfl, pa2, by omega, fun H' s => q H' s⟩
        refine q_whenN (et_or (et_not (et_B eX)) fun _ => et_not (et_B eY)) (fun hb H5 e5 => ?_) (fun hb H5 e5 => ?_)
        · have e15 := e14.trans e5
          have hn : ¬ (colText x = true ∧ rowText y = true) := fun z => by
            rw [z.1, z.2] at hb
            cases hb
          rw [if_neg hn] at h2
          exact ⟨_, rfl, rfl, rfl, by decide, rr_e1 (Q := E) fun d H' nd sm hd => h2 rfl d H' (e15.trans sm) (fresh_back e15 nd) hd⟩
        · have e15 := e14.trans e5
          have hx : colText x = true ∧ rowText y = true := by
            simpa using hb
          rw [if_pos hx] at h1
          obtain ⟨r1, r2, r3, r4⟩ := rowVal hx.2
          obtain ⟨c1, c2⟩ := colVal hx.1
          have eI : ∀ {Ha : Hp}, Ev (tCB (fun xs H Q => ∃ a n, xs = [V.str a] ∧ PySem.intText? a = some n ∧ a.length ≤ 640 ∧ Q (.int n) H) (tCons (tVar 6) tNil)) [some (.str (S l)), some (.str (S a)), some (.str (S mk)), some (.str (S b)), some (.str (S x)), some (.bl fc), some (.str (S y)), some (.bl fr)] Ha (.int (numVal y)) := fun Hb e Q q => ⟨_, rfl, _, _, rfl, r1, by rw [len_S]; omega, q Hb (Ex.refl Hb)⟩
          have eC : ∀ {Ha : Hp}, Ev (tCall (spColumnOf K pc.CB pc.CN) [] E (tCons (tVar 4) tNil)) [some (.str (S l)), some (.str (S a)), some (.str (S mk)), some (.str (S b)), some (.str (S x)), some (.bl fc), some (.str (S y)), some (.bl fr)] Ha (.int (val (x.map up))) := fun Hb e Q q => ⟨_, rfl, .str (S x), rfl, .inl ⟨x, rfl, pa1, by omega, fun _ H' s => q H' s, fun z => absurd (hx.1.symm.trans z) (by decide)⟩⟩
          refine s_makeK (vs := [.int (numVal y), .int (val (x.map up))]) (zs := [.bl fr, .bl fc, shV sh]) (ea_cons eI (ea_cons eC ea_nil)) (ea_cons (ev_var rfl) (ea_cons (ev_var rfl) (ea_cons (Evl.ev_if (et_truS (K := K) (m := mk) (by omega) (ev_var rfl)) (fun m0 => ?_) (fun m0 => ?_)) ea_nil))) rfl rfl fun H6 e6 => ?_
          · have m0 := of_decide_eq_true m0
            rw [if_pos m0] at hsh
            rw [hsh]
            exact ev_var rfl
          · have m0 := of_decide_eq_false m0
            rw [if_neg m0] at hsh
            rw [hsh]
            exact ev_c
          · have hg : gridOk (numVal y) (val (x.map up)) = true := by
              unfold gridOk
              rw [decide_eq_true ⟨r3, r4⟩, decide_eq_true ⟨c1, c2⟩]
              rfl
            exact init_good (p := p) so sg2 hg (e15.trans e6) fun z dz H7 nz e7 h7 => h1 _ _ _ _ _ rfl z dz H7 nz e7 h7
    · exact ⟨_, rfl, y, n, false, rfl, kn, hk, (fun z => nomatch z), fun _ => h1⟩
end
end K16

set_option Elab.async false
set_option linter.all false
set_option maxRecDepth 100000
set_option maxHeartbeats 4000000
namespace TX
/-- a text with some of its letters small -/
inductive Mx : List Nat → List Nat → Prop
  | nil : Mx [] []
  | cons (x y : Nat) {l m : List Nat} : (y = x ∨ y = low x) → Mx l m → Mx (x :: l) (y :: m)
theorem Mx.snoc {l m : List Nat} {x y : Nat} (h : Mx l m) (e : y = x ∨ y = low x) : Mx (l ++ [x]) (m ++ [y]) := by
  induction h with
  | nil => exact .cons x y e .nil
  | cons a b q _ ih => exact .cons a b q ih
theorem Mx.len {l m : List Nat} (h : Mx l m) : m.length = l.length := by
  induction h with
  | nil => rfl
  | cons a b q _ ih => rw [List.length_cons, List.length_cons, ih]
theorem low_lt {c : Nat} (h : c < 128) : low c < 128 := by
  unfold low
  split <;> omega
theorem Mx.asc {l m : List Nat} (h : Mx l m) (ha : ∀ c ∈ l, c < 128) : ∀ c ∈ m, c < 128 := by
  induction h with
  | nil => intro c hc; cases hc
  | cons a b q _ ih =>
    intro c hc
    have h1 := ha a (List.mem_cons_self ..)
    rcases List.mem_cons.mp hc with z | z
    · rw [z]
      rcases q with q | q
      · rw [q]; exact h1
      · rw [q]; exact low_lt h1
    · exact ih (fun d hd => ha d (List.mem_cons_of_mem _ hd)) c z
theorem Mx.split : ∀ {a b m : List Nat}, Mx (a ++ b) m → ∃ u v, m = u ++ v ∧ Mx a u ∧ Mx b v
  | [], b, m, h => ⟨[], m, rfl, .nil, h⟩
  | x :: a, b, _, .cons _ y e h => by
    obtain ⟨u, v, rfl, h1, h2⟩ := Mx.split h
    exact ⟨y :: u, v, rfl, .cons x y e h1, h2⟩
end TX
namespace K16
open PySem PySem.Spec PyProof.Rows L2 Pen EV2 Evl TX LamX
def spMixA : Sp := fun vs H Q _ => ∃ (q c : Addr) (cs : List Int) (i r : Int) (l : List Nat), vs = [.ref q, .str (S l)] ∧ PenAt H q c cs i r ∧ i < 2 ^ 38 ∧ (∀ x ∈ l, x < 128) ∧ l.length ≤ 1000 ∧
  ∀ (m : List Nat) (i' r' : Int) (H' : Hp), Mx l m → i ≤ i' → i' ≤ i + l.length → Sib q H H' → PenAt H' q c cs i' r' → Q (.str (S m)) H'
section
variable {P : Program} {w : World} {K : PySem.W.Frag} {mg : Str → Option Value} {base : Heap} {p : AdL}
theorem ok_mixed (T : TxtH K mg p) : FnOk P w K mg base CX0 2 p.f_mixed_case p.d_mixed_case P_l_mixed_case spMixA := by
  have TA : TxtA mg := ⟨T.n_list, T.n_int, T.n_len⟩
  have G_l_draw : FnOk P w K mg base CX0 1 p.f_draw p.d_draw P_l_draw spDraw := ok_l_draw T.F_l_draw TA
  refine T.F_l_mixed_case.ok sc_l_mixed_case (fun vs H Q E h => ?_) (fun cdv A outer s H vs Q E hr h => ?_)
  · obtain ⟨q, c, cs, i, r, l, rfl, _⟩ := h
    rfl
  · obtain ⟨q, c, cs, i, r, l, rfl, D, hi, hc, hl, k⟩ := h
    refine ⟨_, (pss_cons (ps_set (i := 2) sc_l_mixed_case.nd rfl (Or.inl rfl) pe_str)
      (pss_cons (ps_for PassesOwn.never rfl (pi_str (pv 1)) (pg_name (i := 3) sc_l_mixed_case.nd rfl (Or.inl rfl)) (pss_one (ps_set (i := 2) sc_l_mixed_case.nd rfl (Or.inl rfl) (pe_op op_add_str (pv 2) (pe_ifExp (pt_cmpR op_eq (pe_call G_l_draw (hr.mono (by decide)) (by rfl) T.mg_l_draw T.F_l_draw.kp T.b_l_draw .nil pass0 (pa_cons (pv 0) (pa_cons pe_int pa_nil))) pe_int (nomark _)) (pe_bm0 PySem.F.plainAttrs_str PySem.F.slot_str_lower PySem.F.type_str_lower mt_lower (pv 3)) (pv 3))))))
      (pss_one (ps_ret (pv 2))))), ?_⟩
    refine q_asg (v := .str (S [])) ev_c fun H0 e0 => ?_
    refine q_forS (l := l) (ev_var rfl) (fun j σ' H' => ∃ (m : List Nat) (i' r' : Int) (t : Option V), σ' = [some (.ref q), some (.str (S l)), some (.str (S m)), t] ∧ Mx (l.take j) m ∧ i ≤ i' ∧ i' ≤ i + j ∧ Sib q H H' ∧ PenAt H' q c cs i' r')
      (fun H1 e1 => ⟨[], i, r, none, rfl, .nil, Int.le_refl _, by omega, fun b o _ h => (e0.trans e1) b o h, D.keep (e0.trans e1)⟩) ?_ ?_
    · rintro j x σ' H1 hx ⟨m, i1, r1, t, rfl, hm, h1, h2, sb, D1⟩
      have hj : j < l.length := (List.getElem?_eq_some_iff.mp hx).1
      have hxr := hc x (List.mem_of_getElem? hx)
      have ml : m.length ≤ j := by
        rw [hm.len, List.length_take]
        omega
      refine ⟨_, rfl, _, rfl, q, c, cs, i1, r1, 2, rfl, D1, by omega, by decide, by decide, fun z i2 r2 H2 z0 z1 j0 j1 sb2 D2 => ?_⟩
      refine ⟨rfl, _, rfl, ?_⟩
      have tk : l.take (j + 1) = l.take j ++ [x] := by
        rw [List.take_add_one, hx]
        rfl
      have fin : ∀ y : Nat, (y = x ∨ y = low x) → ∃ (m' : List Nat) (i' r' : Int) (t : Option V), [some (V.ref q), some (.str (S l)), some (.str (S (m ++ [y]))), some (sg x)] = [some (V.ref q), some (.str (S l)), some (.str (S m')), t] ∧ Mx (l.take (j + 1)) m' ∧ i ≤ i' ∧ i' ≤ i + ((j + 1 : Nat) : Int) ∧ Sib q H H2 ∧ PenAt H2 q c cs i' r' := fun y e1 =>
        ⟨m ++ [y], i2, r2, _, rfl, by rw [tk]; exact hm.snoc e1, by omega, by omega, sb.trans sb2, D2⟩
      refine ite2 (fun _ => ?_) (fun _ => ?_)
      · have g := fin (low x) (.inr rfl)
        refine ⟨_, rfl, rfl, S [x], rfl, rfl, by rw [len_S]; show 1 ≤ 5592405; decide, S m, _, rfl, rfl, ?_, ?_⟩
        · rw [low_of x (by omega), len_S, len_S]
          exact sz_of (by show m.length + 1 ≤ 100000; omega)
        · rw [low_of x (by omega), app_S]
          exact g
      · have g := fin x (.inl rfl)
        refine ⟨_, rfl, S m, S [x], rfl, rfl, ?_, ?_⟩
        · rw [len_S, len_S]
          exact sz_of (by show m.length + 1 ≤ 100000; omega)
        · rw [app_S]
          exact g
    · rintro σ' H1 ⟨m, i1, r1, t, rfl, hm, h1, h2, sb, D1⟩
      rw [List.take_length] at hm
      exact ⟨_, rfl, k m i1 r1 H1 hm h1 h2 sb D1⟩
end
end K16

set_option Elab.async false
set_option linter.all false
set_option maxRecDepth 100000
set_option maxHeartbeats 4000000
namespace K16
open PySem PySem.Spec PyProof.Rows L2 Pen EV2 Evl TX LamX
abbrev s_l_row_text : Stmt := topS 47
abbrev N_l_row_text : List Str := ["_law_number", "_law_is_fixed"]
abbrev P_l_row_text : List Str := ["_law_number", "_law_is_fixed"]
theorem sc_l_row_text : FnScope N_l_row_text P_l_row_text (defScope s_l_row_text) := ⟨rfl, rfl, rfl, by decide +kernel, rfl, by decide +kernel, by decide +kernel⟩
abbrev s_l_column_text : Stmt := topS 48
abbrev N_l_column_text : List Str := ["_law_number", "_law_is_fixed"]
abbrev P_l_column_text : List Str := ["_law_number", "_law_is_fixed"]
theorem sc_l_column_text : FnScope N_l_column_text P_l_column_text (defScope s_l_column_text) := ⟨rfl, rfl, rfl, by decide +kernel, rfl, by decide +kernel, by decide +kernel⟩
abbrev s_l_sheet_text : Stmt := topS 49
abbrev N_l_sheet_text : List Str := ["_law_sheet"]
abbrev P_l_sheet_text : List Str := ["_law_sheet"]
theorem sc_l_sheet_text : FnScope N_l_sheet_text P_l_sheet_text (defScope s_l_sheet_text) := ⟨rfl, rfl, rfl, by decide +kernel, rfl, by decide +kernel, by decide +kernel⟩
abbrev s_l_cell_text : Stmt := topS 50
abbrev N_l_cell_text : List Str := ["_law_place_here"]
abbrev P_l_cell_text : List Str := ["_law_place_here"]
theorem sc_l_cell_text : FnScope N_l_cell_text P_l_cell_text (defScope s_l_cell_text) := ⟨rfl, rfl, rfl, by decide +kernel, rfl, by decide +kernel, by decide +kernel⟩
structure AdN where
  f_row_text : Addr
  d_row_text : FuncData
  f_column_text : Addr
  d_column_text : FuncData
  f_sheet_text : Addr
  d_sheet_text : FuncData
  f_cell_text : Addr
  d_cell_text : FuncData
structure TxtN (K : PySem.W.Frag) (mg : Str → Option Value) (p : AdN) : Prop where
  n_str : mg "str" = none
  mg_l_row_text : mg "_law_row_text" = some (.ref p.f_row_text)
  F_l_row_text : Fun K "_law_row_text" "_law_row_text" s_l_row_text p.f_row_text p.d_row_text
  b_l_row_text : Binds K p.d_row_text P_l_row_text []
  mg_l_column_text : mg "_law_column_text" = some (.ref p.f_column_text)
  F_l_column_text : Fun K "_law_column_text" "_law_column_text" s_l_column_text p.f_column_text p.d_column_text
  b_l_column_text : Binds K p.d_column_text P_l_column_text []
  mg_l_sheet_text : mg "_law_sheet_text" = some (.ref p.f_sheet_text)
  F_l_sheet_text : Fun K "_law_sheet_text" "_law_sheet_text" s_l_sheet_text p.f_sheet_text p.d_sheet_text
  b_l_sheet_text : Binds K p.d_sheet_text P_l_sheet_text []
  mg_l_cell_text : mg "_law_cell_text" = some (.ref p.f_cell_text)
  F_l_cell_text : Fun K "_law_cell_text" "_law_cell_text" s_l_cell_text p.f_cell_text p.d_cell_text
  b_l_cell_text : Binds K p.d_cell_text P_l_cell_text []

/-- a text of a row, of a column, with the sign of a fixed one -/
def rowT (n : Nat) (fr : Bool) : List Nat := (if fr = true then [36] else []) ++ TL.numL n
def colT (m : Nat) (fc : Bool) : List Nat := (if fc = true then [36] else []) ++ letsF 3 m
def shT : Option (List Nat) → List Nat
  | none => []
  | some l => l ++ [33]
theorem adr_text (n m : Nat) (fr fc : Bool) (sh : Option (List Nat)) : shT sh ++ (colT m fc ++ rowT n fr) = adrText n m fr fc sh := by
  unfold adrText colT rowT
  cases sh with
  | none => simp [shT]
  | some l => simp [shT]
def spRowT : Sp := fun vs H Q _ => ∃ (n : Nat) (fr : Bool), vs = [.int n, .bl fr] ∧ n ≤ 1000000 ∧ ∀ H', Same H H' → Q (.str (S (rowT n fr))) H'
def spColT : Sp := fun vs H Q _ => ∃ (m : Nat) (fc : Bool), vs = [.int m, .bl fc] ∧ 1 ≤ m ∧ m ≤ 18278 ∧ ∀ H', Same H H' → Q (.str (S (colT m fc))) H'
def spShT : Sp := fun vs H Q _ => ∃ sh : Option (List Nat), vs = [shV sh] ∧ shOk sh ∧ ∀ H', Same H H' → Q (.str (S (shT sh))) H'
/-- a place: row, column, their signs, the sheet -/
def plc (n m : Int) (fr fc : Bool) (sh : Option (List Nat)) : List V := [.int n, .int m, .bl fr, .bl fc, shV sh]
def spCellT : Sp := fun vs H Q _ => ∃ (t : Addr) (n m : Nat) (fr fc : Bool) (sh : Option (List Nat)), vs = [.ref t] ∧ H t = some (.tup (plc n m fr fc sh)) ∧ n ≤ 1000000 ∧ 1 ≤ m ∧ m ≤ 18278 ∧ ∀ H', Same H H' → Q (.str (S (colT m fc ++ rowT n fr))) H'
theorem len36 (b : Bool) : (if b = true then [36] else ([] : List Nat)).length ≤ 1 := by cases b <;> decide
section
variable {P : Program} {w : World} {K : PySem.W.Frag} {mg : Str → Option Value} {base : Heap} {ph : AdL} {p : AdN}
theorem ok_row_text (T : TxtN K mg p) : FnOk P w K mg base CX0 1 p.f_row_text p.d_row_text P_l_row_text spRowT := by
  refine T.F_l_row_text.ok sc_l_row_text (fun vs H Q E h => ?_) (fun cdv A outer s H vs Q E hr h => ?_)
  · obtain ⟨n, fr, rfl, _⟩ := h
    rfl
  · obtain ⟨n, fr, rfl, h1, k⟩ := h
    refine ⟨_, (pss_one (ps_ret (pe_op op_add_str (pe_ifExp (pt_val (pv 1)) pe_str pe_str) (pe_callTy (T := "str") call_str_int (by rfl) T.n_str (by decide +kernel) (pa_cons (pv 0) pa_nil))))), ?_⟩
    have h4 : (TL.numL n).length ≤ 7 := TL.numL_len (by decide) (by omega)
    have hlog : (((n : Nat) : Int).natAbs).log2 < 1920 := by
      show n.log2 < 1920
      by_cases z : n = 0
      · subst z
        decide
      · exact (Nat.log2_lt z).2 (Nat.lt_of_le_of_lt h1 (by decide))
    have l6 := len36 fr
    refine ev_addS (l := if fr = true then [36] else []) (m := TL.numL n) (Evl.ev_if (b := fr) (et_B (ev_var rfl)) (fun hb => by rw [hb]; exact ev_c) (fun hb => by rw [hb]; exact ev_c)) (fun H1 e Q q => ⟨_, rfl, n, rfl, hlog, by
      show Q (.str (Str.ofString (toString ((n : Nat) : Int)))) H1
      rw [TX.num_S]
      exact q H1 (Ex.refl H1)⟩) (by omega) H (Ex.refl H) _ fun H1 e1 => k H1 e1
theorem ok_column_text (TH : TxtH K mg ph) (T : TxtN K mg p) : FnOk P w K mg base CX0 3 p.f_column_text p.d_column_text P_l_column_text spColT := by
  have G_l_letters : FnOk P w K mg base CX0 2 ph.f_letters ph.d_letters P_l_letters spLetters := ok_l_letters TH
  refine T.F_l_column_text.ok sc_l_column_text (fun vs H Q E h => ?_) (fun cdv A outer s H vs Q E hr h => ?_)
  · obtain ⟨m, fc, rfl, _⟩ := h
    rfl
  · obtain ⟨m, fc, rfl, h1, h2, k⟩ := h
    refine ⟨_, (pss_one (ps_ret (pe_op op_add_str (pe_ifExp (pt_val (pv 1)) pe_str pe_str) (pe_call G_l_letters (hr.mono (by decide)) (by rfl) TH.mg_l_letters TH.F_l_letters.kp TH.b_l_letters .nil pass0 (pa_cons (pv 0) pa_nil))))), ?_⟩
    have l6 := len36 fc
    have l3 := lets_len 3 m
    refine ev_addS (l := if fc = true then [36] else []) (m := letsF 3 m) (Evl.ev_if (b := fc) (et_B (ev_var rfl)) (fun hb => by rw [hb]; exact ev_c) (fun hb => by rw [hb]; exact ev_c)) (fun H1 e Q q => ⟨_, rfl, m, rfl, h1, h2, fun H' s => q H' s⟩) (by omega) H (Ex.refl H) _ fun H1 e1 => k H1 e1
theorem ok_sheet_text (T : TxtN K mg p) : FnOk P w K mg base CX0 1 p.f_sheet_text p.d_sheet_text P_l_sheet_text spShT := by
  refine T.F_l_sheet_text.ok sc_l_sheet_text (fun vs H Q E h => ?_) (fun cdv A outer s H vs Q E hr h => ?_)
  · obtain ⟨sh, rfl, _⟩ := h
    rfl
  · obtain ⟨sh, rfl, h1, k⟩ := h
    refine ⟨_, (pss_one (ps_ret (pe_ifExp (pt_cmpR op_isN1 (pv 0) pe_non (nomark _)) pe_str (pe_op op_add_str (pv 0) pe_str)))), ?_⟩
    have en : ∀ {σ : L2.St} {H : Hp} {te : TE} {v : V}, Ev te σ H v → Ev (tOp rIsN te (tC .non)) σ H (.bl (decide (v = .non))) := fun h => ev_op h ev_c fun H1 _ Q q => ⟨rfl, q H1 (Ex.refl H1)⟩
    cases sh with
    | none => exact Evl.ev_if (v := .str (S [])) (b := true) (et_is (et_test (en (ev_var (v := .non) rfl))) rfl) (fun _ => ev_c) (fun z => nomatch z) H (Ex.refl H) _ fun H1 e1 => k H1 e1
    | some l => exact Evl.ev_if (v := .str (S (l ++ [33]))) (b := false) (et_is (et_test (en (ev_var (v := .str (S l)) rfl))) rfl) (fun z => nomatch z) (fun _ => ev_addS (l := l) (m := [33]) (ev_var rfl) ev_c (by have := h1.2; show l.length + 1 ≤ 100000; omega)) H (Ex.refl H) _ fun H1 e1 => k H1 e1
theorem ok_cell_text (TH : TxtH K mg ph) (T : TxtN K mg p) : FnOk P w K mg base CX0 4 p.f_cell_text p.d_cell_text P_l_cell_text spCellT := by
  have G_l_column_text : FnOk P w K mg base CX0 3 p.f_column_text p.d_column_text P_l_column_text spColT := ok_column_text TH T
  have G_l_row_text : FnOk P w K mg base CX0 1 p.f_row_text p.d_row_text P_l_row_text spRowT := ok_row_text T
  refine T.F_l_cell_text.ok sc_l_cell_text (fun vs H Q E h => ?_) (fun cdv A outer s H vs Q E hr h => ?_)
  · obtain ⟨t, n, m, fr, fc, sh, rfl, _⟩ := h
    rfl
  · obtain ⟨t, n, m, fr, fc, sh, rfl, ht, h1, h2, h3, k⟩ := h
    refine ⟨_, (pss_one (ps_ret (pe_op op_add_str (pe_call G_l_column_text (hr.mono (by decide)) (by rfl) T.mg_l_column_text T.F_l_column_text.kp T.b_l_column_text .nil pass0 (pa_cons (pe_ix ix_tup (pv 0) pe_int (fun _ _ => rfl)) (pa_cons (pe_ix ix_tup (pv 0) pe_int (fun _ _ => rfl)) pa_nil))) (pe_call G_l_row_text (hr.mono (by decide)) (by rfl) T.mg_l_row_text T.F_l_row_text.kp T.b_l_row_text .nil pass0 (pa_cons (pe_ix ix_tup (pv 0) pe_int (fun _ _ => rfl)) (pa_cons (pe_ix ix_tup (pv 0) pe_int (fun _ _ => rfl)) pa_nil)))))), ?_⟩
    have ix : ∀ {H' : Hp} {i : Int} {v : V}, Ex H H' → atI (plc n m fr fc sh) i = some v → Ev (tOp (rIxT K) (tVar 0) (tC (.int i))) [some (.ref t)] H' v := fun e h => ev_op (ev_var rfl) ev_c (rv_ixT (st_of (e _ _ ht)) h)
    have l1 := len36 fr
    have l2 := len36 fc
    have l3 := lets_len 3 m
    have l4 : (TL.numL n).length ≤ 7 := TL.numL_len (by decide) (by omega)
    have l5 : (colT m fc).length ≤ 4 := by unfold colT; rw [List.length_append]; omega
    have l6 : (rowT n fr).length ≤ 8 := by unfold rowT; rw [List.length_append]; omega
    refine ev_addS (l := colT m fc) (m := rowT n fr) (fun H1 e Q q => ?_) (fun H1 e Q q => ?_) (by omega) H (Ex.refl H) _ fun H1 e1 => k H1 e1
    · exact (ea_cons (ix e (i := 1) rfl) (ea_cons (ix e (i := 3) rfl) ea_nil)) H1 (Ex.refl H1) _ fun H2 e2 => ⟨m, fc, rfl, h2, h3, fun H' s => q H' (e2.trans s)⟩
    · exact (ea_cons (ix e (i := 0) rfl) (ea_cons (ix e (i := 2) rfl) ea_nil)) H1 (Ex.refl H1) _ fun H2 e2 => ⟨n, fr, rfl, h1, fun H' s => q H' (e2.trans s)⟩
end
end K16

set_option Elab.async false
set_option linter.all false
set_option maxRecDepth 100000
set_option maxHeartbeats 4000000
namespace TX
open PySem PySem.Spec PyProof.Rows L2 Evl
abbrev D10 : Str := Str.ofString "0123456789"
theorem inD_of : ∀ c, c < 128 → decide (c ∈ D10.cps.toList) = dig1 c := by decide +kernel
section
variable {σ : L2.St} {H : Hp} {ta tb : TE} {c : Nat}
theorem ev_inD (ha : Ev ta σ H (sg c)) (hb : Ev tb σ H (.str D10)) (hc : c < 128) : Ev (tOp rInS ta tb) σ H (.bl (dig1 c)) := fun H1 e Q q =>
  ha H1 e _ fun H2 e2 => hb H2 (e.trans e2) _ fun H3 e3 => ⟨c, D10, rfl, rfl, by
    rw [inD_of c hc]
    exact q H3 (e2.trans e3)⟩
end
end TX
namespace K16
open PySem PySem.Spec PyProof.Rows L2 Pen EV2 Evl TX LamX
abbrev s_l_is_digits : Stmt := topS 39
abbrev N_l_is_digits : List Str := ["_law_text", "_law_sign"]
abbrev P_l_is_digits : List Str := ["_law_text"]
theorem sc_l_is_digits : FnScope N_l_is_digits P_l_is_digits (defScope s_l_is_digits) := ⟨rfl, rfl, rfl, by decide +kernel, rfl, by decide +kernel, by decide +kernel⟩
abbrev s_l_is_sheet : Stmt := topS 41
abbrev N_l_is_sheet : List Str := ["_law_text", "_law_sign"]
abbrev P_l_is_sheet : List Str := ["_law_text"]
theorem sc_l_is_sheet : FnScope N_l_is_sheet P_l_is_sheet (defScope s_l_is_sheet) := ⟨rfl, rfl, rfl, by decide +kernel, rfl, by decide +kernel, by decide +kernel⟩
structure AdN2 where
  f_is_digits : Addr
  d_is_digits : FuncData
  f_is_sheet : Addr
  d_is_sheet : FuncData
structure TxtN2 (K : PySem.W.Frag) (mg : Str → Option Value) (p : AdN2) : Prop where
  mg_l_is_digits : mg "_law_is_digits" = some (.ref p.f_is_digits)
  F_l_is_digits : Fun K "_law_is_digits" "_law_is_digits" s_l_is_digits p.f_is_digits p.d_is_digits
  b_l_is_digits : Binds K p.d_is_digits P_l_is_digits []
  mg_l_is_sheet : mg "_law_is_sheet" = some (.ref p.f_is_sheet)
  F_l_is_sheet : Fun K "_law_is_sheet" "_law_is_sheet" s_l_is_sheet p.f_is_sheet p.d_is_sheet
  b_l_is_sheet : Binds K p.d_is_sheet P_l_is_sheet []
section
variable {P : Program} {w : World} {K : PySem.W.Frag} {mg : Str → Option Value} {base : Heap} {ph : AdL} {p : AdN2}
theorem ok_l_is_digits (TH : TxtH K mg ph) (T : TxtN2 K mg p) : FnOk P w K mg base CX0 1 p.f_is_digits p.d_is_digits P_l_is_digits (spAlpha fun l => l.all dig1) := by
  refine T.F_l_is_digits.ok sc_l_is_digits (fun vs H Q E h => ?_) (fun cdv A outer s H vs Q E hr h => ?_)
  · obtain ⟨l, rfl, _⟩ := h
    rfl
  · obtain ⟨l, rfl, ha, hl, k⟩ := h
    refine ⟨_, (pss_one (ps_ret (pe_cmpR op_notIn_seq pe_bl (pe_lc (own := [("_law_sign", 1)]) (g := gName 1) (tt := tYes) (te := tOp rInS (tVar 1) (tC (.str (Str.ofString "0123456789")))) rfl sc_l_is_digits.nd (pi_list (pe_callTy (T := "list") (call_listS rfl) (by rfl) TH.n_list (by decide +kernel) (pa_cons (pv 0) pa_nil))) (blkOk_by (own := [("_law_sign", 1)]) (N := N_l_is_digits) (sc := defScope s_l_is_digits) (by decide +kernel)) (fun _ _ _ _ _ => pg_name (i := 1) sc_l_is_digits.nd rfl (Or.inl rfl)) (fun _ _ _ _ _ => pts_nil) (fun _ _ _ _ _ => (pe_cmpR (r := rInS) op_inS (pv 1) pe_str rfl))) rfl))), ?_⟩
    have el : EvL (tLc (iList K (tCB rLstS (tCons (tVar 0) tNil))) (gName 1) tYes (tOp rInS (tVar 1) (tC (.str (Str.ofString "0123456789")))) [1]) [some (.str (S l)), none] H (l.map fun c => V.bl (dig1 c)) := by
      refine el_eq (el_lcNL (K := K) (xs := l.map sg) (fun _ => true) (fun i => (l[i]?.map fun c => V.bl (dig1 c)).getD .non) (el_listS (ev_var rfl) (by omega)) (by rw [List.length_map]; omega) (fun _ => rfl) (fun _ _ _ _ _ => et_yes) fun i x H1 e1 hx _ => ?_) (by rw [List.length_map, given_map])
      rw [List.getElem?_map] at hx
      cases q : l[i]? with
      | none => rw [q] at hx; cases hx
      | some c =>
        rw [q] at hx
        have e2 : sg c = x := Option.some.inj hx
        subst e2
        have hc := ha c (List.mem_of_getElem? q)
        exact ev_inD (ev_var (i := 1) rfl) ev_c hc
    refine (ev_opL (ev_c (v := .bl false)) el fun p1 H1 h1 _ => rv_niL (K := K) (sq_of h1) rfl (flat_bls dig1 l)) H (Ex.refl H) _ fun H' e => ?_
    rw [inV_false]
    exact k H' e
theorem ok_l_is_sheet (TH : TxtH K mg ph) (T : TxtN2 K mg p) : FnOk P w K mg base CX0 3 p.f_is_sheet p.d_is_sheet P_l_is_sheet (spAlpha sheetOk) := by
  have G_l_is_letters : FnOk P w K mg base CX0 2 ph.f_is_letters ph.d_is_letters P_l_is_letters (spAlpha fun l => l.all let1) := ok_l_is_letters TH
  have G_l_is_digits : FnOk P w K mg base CX0 1 p.f_is_digits p.d_is_digits P_l_is_digits (spAlpha fun l => l.all dig1) := ok_l_is_digits TH T
  refine T.F_l_is_sheet.ok sc_l_is_sheet (fun vs H Q E h => ?_) (fun cdv A outer s H vs Q E hr h => ?_)
  · obtain ⟨l, rfl, _⟩ := h
    rfl
  · obtain ⟨l, rfl, ha, hl, k⟩ := h
    refine ⟨_, (pss_cons (ps_if (PW.pt (pw_or (pt_not (pt_chain op_le op_le pe_int (pe_callB (id := "len") call_len (by rfl) TH.n_len (by decide +kernel) (pa_cons (pv 0) pa_nil)) pe_int)) (pw_or1 (pt_not (pt_val (pe_call G_l_is_letters (hr.mono (by decide)) (by rfl) TH.mg_l_is_letters TH.F_l_is_letters.kp TH.b_l_is_letters .nil pass0 (pa_cons (pe_ix ix_str (pv 0) pe_int (fun _ _ => rfl)) pa_nil))))))) (pss_one (ps_ret pe_bl)) pss_nil)
      (pss_one (ps_ret (pe_cmpR op_notIn_seq pe_bl (pe_lc (own := [("_law_sign", 1)]) (g := gName 1) (tt := tYes) (te := tOrV (tCall (spAlpha fun l => l.all let1) [] E0 (tCons (tVar 1) tNil)) (tCall (spAlpha fun l => l.all dig1) [] E0 (tCons (tVar 1) tNil))) rfl sc_l_is_sheet.nd (pi_list (pe_callTy (T := "list") (call_listS rfl) (by rfl) TH.n_list (by decide +kernel) (pa_cons (pv 0) pa_nil))) (blkOk_by (own := [("_law_sign", 1)]) (N := N_l_is_sheet) (sc := defScope s_l_is_sheet) (by decide +kernel)) (fun _ _ _ _ _ => pg_name (i := 1) sc_l_is_sheet.nd rfl (Or.inl rfl)) (fun _ _ _ _ _ => pts_nil) (fun _ _ _ _ _ => (pe_or (pe_call G_l_is_letters (hr.mono (by decide)) (by rfl) TH.mg_l_is_letters TH.F_l_is_letters.kp TH.b_l_is_letters .nil pass0 (pa_cons (pv 1) pa_nil)) (pe_one (pe_call G_l_is_digits (hr.mono (by decide)) (by rfl) T.mg_l_is_digits T.F_l_is_digits.kp T.b_l_is_digits .nil pass0 (pa_cons (pv 1) pa_nil)))))) rfl)))), ?_⟩
    have eA : ∀ {f : List Nat → Bool} {te : TE} {σ : L2.St} {H : Hp} {m : List Nat}, Ev te σ H (.str (S m)) → (∀ c ∈ m, c < 128) → m.length ≤ 1000 → Ev (tCall (spAlpha f) [] E0 (tCons te tNil)) σ H (.bl (f m)) := fun h ha hl H1 e Q q => h H1 e _ fun H2 e2 => ⟨_, rfl, ha, hl, fun H' s => q H' (e2.trans s)⟩
    refine q_when (b := !decide (1 ≤ l.length ∧ l.length ≤ 12) || !(l.head?.map let1).getD false) (et_or (et_is (et_not (et_test (ev_between (lo := 1) (hi := 12) ev_c (ev_lenS (K := K) (ev_var rfl) (by omega)) ev_c))) (by congr 1; exact decide_eq_decide.mpr (by omega))) fun hb => et_not (et_B ?_)) (fun hb H1 e1 => ?_) (fun hb H1 e1 => ?_)
    · cases l with
      | nil => exact absurd hb (by decide)
      | cons c l =>
        have hc := ha c (List.mem_cons_self ..)
        have e0 : Ev (tOp rIxS (tVar 0) (tC (.int 0))) [some (.str (S (c :: l))), none] H (.str (S [c])) := ev_at (l := c :: l) (i := 0) (ev_var rfl) ev_c rfl (by omega)
        have g := eA (f := fun l => l.all let1) e0 (fun x hx => by rw [List.mem_singleton.mp hx]; exact hc) (by show 1 ≤ 1000; decide)
        have z : [c].all let1 = ((c :: l).head?.map let1).getD false := by simp
        rw [← z]
        exact g
    · have z : sheetOk l = false := by
        unfold sheetOk
        cases h1 : decide (1 ≤ l.length) with
        | false => rfl
        | true =>
          cases h2 : decide (l.length ≤ 12) with
          | false => rfl
          | true =>
            rw [decide_eq_true ⟨of_decide_eq_true h1, of_decide_eq_true h2⟩] at hb
            have hb : (!(l.head?.map let1).getD false) = true := by simpa using hb
            have hb2 : (l.head?.map let1).getD false = false := by simpa using hb
            rw [hb2]
            simp
      have g := k H1 e1
      rw [z] at g
      exact g
    · have el : EvL (tLc (iList K (tCB rLstS (tCons (tVar 0) tNil))) (gName 1) tYes (tOrV (tCall (spAlpha fun l => l.all let1) [] E0 (tCons (tVar 1) tNil)) (tCall (spAlpha fun l => l.all dig1) [] E0 (tCons (tVar 1) tNil))) [1]) [some (.str (S l)), none] H1 (l.map fun c => V.bl (aln1 c)) := by
        refine el_eq (el_lcNL (K := K) (xs := l.map sg) (fun _ => true) (fun i => (l[i]?.map fun c => V.bl (aln1 c)).getD .non) (el_listS (ev_var rfl) (by omega)) (by rw [List.length_map]; omega) (fun _ => rfl) (fun _ _ _ _ _ => et_yes) fun i x H2 e2 hx _ => ?_) (by rw [List.length_map, given_map])
        rw [List.getElem?_map] at hx
        cases q : l[i]? with
        | none => rw [q] at hx; cases hx
        | some c =>
          rw [q] at hx
          have e3 : sg c = x := Option.some.inj hx
          subst e3
          have hc := ha c (List.mem_of_getElem? q)
          have as : ∀ x ∈ [c], x < 128 := fun x hx => by rw [List.mem_singleton.mp hx]; exact hc
          have g := ev_orV (eA (f := fun l => l.all let1) (m := [c]) (σ := [some (.str (S l)), some (sg c)]) (H := H2) (ev_var (i := 1) rfl) as (by show 1 ≤ 1000; decide)) (fun _ => eA (f := fun l => l.all dig1) (m := [c]) (ev_var (i := 1) rfl) as (by show 1 ≤ 1000; decide))
          have z : ([c].all let1 || [c].all dig1) = aln1 c := by simp [aln1]
          have z2 : ((some c).map fun c => V.bl (aln1 c)).getD .non = V.bl ([c].all let1 || [c].all dig1) := by rw [z]; rfl
          show Ev _ _ _ (((some c).map fun c => V.bl (aln1 c)).getD .non)
          rw [z2]
          exact g
      refine (ev_opL (ev_c (v := .bl false)) el fun p1 H2 h1 _ => rv_niL (K := K) (sq_of h1) rfl (flat_bls aln1 l)) H1 (Ex.refl H1) _ fun H' e => ?_
      rw [inV_false]
      have g := k H' (e1.trans e)
      have z : sheetOk l = l.all aln1 := by
        simp only [Bool.or_eq_false_iff, Bool.not_eq_false', decide_eq_true_eq] at hb
        unfold sheetOk
        rw [decide_eq_true hb.1.1, decide_eq_true hb.1.2, hb.2]
        simp
      rw [z] at g
      exact g
end
end K16

set_option Elab.async false
set_option linter.all false
set_option maxRecDepth 100000
set_option maxHeartbeats 4000000
namespace TX
open PySem PySem.Spec PyProof.Rows L2 Pen EV2 Evl LamX
/-- any reading that is enough for the one asked -/
theorem pe_weak {X : Cx} {e : Expr} {te : TE} (h : PE X e te) : PE X e (fun σ H Q => ∃ Q0 : VK, te σ H Q0 ∧ ∀ v H', Q0 v H' → Q v H') := by
  refine ⟨fun pins s σ H Q I ⟨Q0, h0, hq⟩ => ?_⟩
  exact thn (h.run pins s σ H Q0 I h0) fun v s1 ⟨x, H1, I1, r1, q1⟩ => ⟨x, H1, I1, r1, hq _ _ q1⟩
/-- the slots of the def that is left are as many as its names -/
theorem takes_len {X : Cx} {W : WX} {n : Nat} (tk : Takes X W) (hn : X.N.length = n) : Takes X (fun cls d σ H => σ.length = n → W cls d σ H) := fun u s' ⟨a, B, sI, pins, σ, H, cls, d, e, I, nb, up, sky, na, os, ag, w⟩ =>
  tk u s' ⟨a, B, sI, pins, σ, H, cls, d, e, I, nb, up, sky, na, os, ag, w (I.len.trans hn)⟩
theorem pss_ex {X : Cx} {body : List Stmt} {α : Type} {C : α → Prop} {t : α → TS} (h : ∀ a, C a → PSs X body (t a)) : PSs X body (fun D σ H => ∃ a, C a ∧ t a D σ H) :=
  ⟨fun pins s σ H D I ⟨a, c, q⟩ => (h a c).run pins s σ H D I q⟩
end TX
namespace K16
open PySem PySem.Spec PyProof.Rows L2 Pen EV2 Evl TX LamX
/-- what is told of a call: its answer, its error's fields -/
def TT5 (CB CN CO : Addr) : (XK → Hp → VK → Prop) → Hp → VK → Prop := fun tl H Q => ∀ t0, H t0 = none →
  tl (fun cls d H' => ∃ (C dd : Addr) (fs : List (Str × V)), cls = .ref C ∧ d = some dd ∧ H' dd = some (.xd fs) ∧
      ((∃ (nm f : Str) (v : V), ((C = CB ∧ nm = "BadValue" ∧ f = "value") ∨ (C = CN ∧ nm = "NotAName" ∧ f = "name")) ∧ fs.lookup f = some v ∧ ∀ p, H' p = none → Q (.ref p) (upd H' p (.tup [.str nm, v]))) ∨
       (C = CO ∧ ∃ u v : V, fs.lookup ("row" : Str) = some u ∧ fs.lookup ("column" : Str) = some v ∧ ∀ p, H' p = none → Q (.ref p) (upd H' p (.tup [.str "OffGrid", u, v])))))
    (upd H t0 (.tup [.str "nothing"])) (fun v H' => ∀ p, H' p = none → Q (.ref p) (upd H' p (.tup [.str "told", v])))
structure TxtT (K : PySem.W.Frag) (mg : Str → Option Value) (pc : Ads) (CO CM iO : Addr) (dO : FuncData) : Prop where
  B : Er K mg "BadValue" "BadValue.__init__" s_BadValue_init "value" pc.S pc.CB pc.iB pc.dB
  N : Er K mg "NotAName" "NotAName.__init__" s_NotAName_init "name" pc.S pc.CN pc.iN pc.dN
  O : ErO K mg pc.S CO iO dO
  nBN : pc.CB ≠ pc.CN
  nBO : pc.CB ≠ CO
  nNO : pc.CN ≠ CO
  gM : mg "TooMany" = some (.ref CM)
  xM : XfC K CM
  nm : PySem.W.findIn K (.ref CM) "most" = some none
theorem told_gives {X : Cx} {g CO CM iO : Addr} {dO : FuncData} {cdg : Value} {q : Str} {pc : Ads} (T : TxtT X.K X.mg pc CO CM iO dO) : GivesTo X N_l_told "_law_told" (defScope s_l_told) g cdg (defBody s_l_told) "_law_call" q (TT5 pc.CB pc.CN CO) := by
  intro f c' s H Q tl act hc h
  refine ⟨_, pss_cons (ps_set (i := 1) sc_l_told.nd rfl (Or.inl rfl) (pe_tup (pa_cons pe_str pa_nil)))
    (pss_cons (ps_try_asM (i := 2) (n := "e") (tb := fun W => fun D σ H => ∃ Ech : XK, (∀ cls d σ' H', Ech cls d H' → σ'.length = 3 → W cls d σ' H') ∧
        tAsg (tTup (tCons (tC (.str "told")) (tCons (fun σ H Q => ∃ Q0 : VK, (σ[0]? = some (some (.ref f)) ∧ H c' = some (CodeO c' q) ∧ tl Ech H Q0) ∧ ∀ v H', Q0 v H' → Q v H') tNil))) (gName 1) D σ H)
      rfl rfl sc_l_told.nd rfl rfl takes_none5 (fun W pn xe tk _ => ?body)
      (HdAs.cons ⟨by rfl, by decide, .inl T.B.gC⟩ (fun a oe cls d pn hz hf => pss_one (ps_set (i := 1) sc_l_told.nd rfl (Or.inl rfl) (pe_tup (pa_cons pe_str (pa_cons (pe_xf T.B.xf T.B.no hz hf (pv 2)) pa_nil)))))
      (HdAs.cons ⟨by rfl, by decide, .inl T.N.gC⟩ (fun a oe cls d pn hz hf => pss_one (ps_set (i := 1) sc_l_told.nd rfl (Or.inl rfl) (pe_tup (pa_cons pe_str (pa_cons (pe_xf T.N.xf T.N.no hz hf (pv 2)) pa_nil)))))
      (HdAs.cons ⟨by rfl, by decide, .inl T.O.gC⟩ (fun a oe cls d pn hz hf => pss_one (ps_set (i := 1) sc_l_told.nd rfl (Or.inl rfl) (pe_tup (pa_cons pe_str (pa_cons (pe_xf T.O.xf T.O.no hz hf (pv 2)) (pa_cons (pe_xf T.O.xf T.O.no2 hz hf (pv 2)) pa_nil))))))
      (HdAs.cons ⟨by rfl, by decide, .inl T.gM⟩ (fun a oe cls d pn hz hf => pss_one (ps_set (i := 1) sc_l_told.nd rfl (Or.inl rfl) (pe_tup (pa_cons pe_str (pa_cons (pe_xf T.xM T.nm hz hf (pv 2)) pa_nil)))))
      HdAs.nil)))))
    (pss_one (ps_ret (pv 1)))), ?read⟩
  case body =>
    exact pss_ex fun Ech hW => pss_one (ps_set (i := 1) sc_l_told.nd rfl (Or.inl rfl) (pe_tup (pa_cons pe_str (pa_cons (pe_weak (act _ pn xe Ech _ _ (takes_len (n := 3) tk rfl) hW)) pa_nil))))
  case read =>
    refine ⟨by show 1 ≤ sizeLine; decide, fun t0 ht0 => ?_⟩
    refine ⟨_, ?_, _, ⟨rfl, by rw [upd_ne (ne_of_none hc ht0)]; exact hc, h t0 ht0⟩, fun v H' hq => ⟨by show 2 ≤ sizeLine; decide, fun p hp => ⟨_, rfl, hq p hp⟩⟩⟩
    · rintro cls d σ' H' ⟨C, dd, fs, rfl, rfl, hx, hk⟩ h3
      obtain ⟨x0, x1, x2, rfl⟩ : ∃ x0 x1 x2, σ' = [x0, x1, x2] := by
        match σ', h3 with
        | [x0, x1, x2], _ => exact ⟨x0, x1, x2, rfl⟩
      rcases hk with ⟨nm, fl, v, hC, hl, k⟩ | ⟨rfl, u, v, hl1, hl2, k⟩
      · rcases hC with ⟨rfl, rfl, rfl⟩ | ⟨rfl, rfl, rfl⟩
        · refine ⟨true, (exm_sib (K := X.K) T.B.ln T.B.ln T.B.nS).trans (by simp), fun _ a ha => ?_, fun z => nomatch z⟩
          refine ⟨_, rfl, rfl, rfl, dd, fs, v, rfl, hx, hl, by show 2 ≤ sizeLine; decide, fun p hp => ⟨_, rfl, k p hp⟩⟩
        · refine ⟨false, (exm_sib (K := X.K) T.N.ln T.B.ln T.B.nS).trans (by rw [decide_eq_false T.nBN]), (fun z => nomatch z), fun _ => ?_⟩
          refine ⟨true, (exm_sib (K := X.K) T.N.ln T.N.ln T.N.nS).trans (by simp), fun _ a ha => ?_, fun z => nomatch z⟩
          refine ⟨_, rfl, rfl, rfl, dd, fs, v, rfl, hx, hl, by show 2 ≤ sizeLine; decide, fun p hp => ⟨_, rfl, k p hp⟩⟩
      · refine ⟨false, (exm_sib (K := X.K) T.O.ln T.B.ln T.B.nS).trans (by rw [decide_eq_false T.nBO]), (fun z => nomatch z), fun _ => ?_⟩
        refine ⟨false, (exm_sib (K := X.K) T.O.ln T.N.ln T.N.nS).trans (by rw [decide_eq_false T.nNO]), (fun z => nomatch z), fun _ => ?_⟩
        refine ⟨true, (exm_sib (K := X.K) T.O.ln T.O.ln T.O.nS).trans (by simp), fun _ a ha => ?_, fun z => nomatch z⟩
        refine ⟨_, rfl, rfl, rfl, dd, fs, u, rfl, hx, hl1, _, rfl, rfl, rfl, dd, fs, v, rfl, hx, hl2, by show 3 ≤ sizeLine; decide, fun p hp => ⟨_, rfl, k p hp⟩⟩
end K16

set_option Elab.async false
set_option linter.all false
set_option maxRecDepth 100000
set_option maxHeartbeats 4000000
namespace K16
open PySem PySem.Spec PyProof.Rows L2 Pen EV2 Evl TX LamX
theorem strip_mem {l : List Nat} {c : Nat} (h : c ∈ l) (n : c ≠ 36) : c ∈ (if l.head? = some 36 then l.tail else l) := by
  by_cases z : l.head? = some 36
  · rw [if_pos z]
    cases l with
    | nil => cases h
    | cons a l =>
      rcases List.mem_cons.mp h with q | q
      · exact absurd (q.trans (Option.some.inj z)) n
      · exact q
  · rw [if_neg z]
    exact h
/-- a cell's text has no '!' -/
theorem cell_bang {b : List Nat} {sh : Option (List Nat)} (h : 33 ∈ b) : parseC b sh = none := by
  unfold parseC
  refine if_neg fun ⟨hx, hy⟩ => ?_
  have h1 := strip_mem h (by decide)
  have e := List.takeWhile_append_dropWhile (p := let1) (l := if b.head? = some 36 then b.tail else b)
  rw [← e] at h1
  rcases List.mem_append.mp h1 with q | q
  · have hall : ((cellParts b).1).all let1 = true := by
      unfold colText at hx
      simp only [Bool.and_eq_true] at hx
      exact hx.2
    have z := List.all_eq_true.mp hall 33 q
    exact absurd z (by decide)
  · have h2 := strip_mem q (by decide)
    have hall : ((cellParts b).2.2.1).all dig1 = true := by
      unfold rowText at hy
      simp only [Bool.and_eq_true] at hy
      exact hy.1.1.2
    have z := List.all_eq_true.mp hall 33 h2
    exact absurd z (by decide)
theorem sheet_bang {a : List Nat} (h : 33 ∈ a) : sheetOk a = false := by
  cases q : sheetOk a with
  | false => rfl
  | true =>
    unfold sheetOk at q
    simp only [Bool.and_eq_true] at q
    exact absurd (List.all_eq_true.mp q.1.2 33 h) (by decide)
/-- read from the first '!' on -/
def parseF (l : List Nat) : Option (Int × Int × Bool × Bool × Option (List Nat)) := match firstBang l with
  | none => parseC l none
  | some (a, b) => if sheetOk a = true then parseC b (some a) else none
theorem bang_eq : ∀ {l a b : List Nat}, l = a ++ 33 :: b → 33 ∉ b → lastBang l = some (a, b) := fun {l a b} e n => by
  cases q : lastBang l with
  | none => exact absurd (by rw [e]; simp) (bang_none q)
  | some p =>
    obtain ⟨a2, b2⟩ := p
    obtain ⟨e2, n2⟩ := bang_some q
    have r1 := congrArg List.reverse (e.symm.trans e2)
    rw [List.reverse_append, List.reverse_append, List.reverse_cons, List.reverse_cons, List.append_assoc, List.append_assoc] at r1
    have key : ∀ (u v s t : List Nat), 33 ∉ u → 33 ∉ v → u ++ ([33] ++ s) = v ++ ([33] ++ t) → u = v ∧ s = t := by
      intro u
      induction u with
      | nil =>
        intro v s t _ hv h
        cases v with
        | nil => exact ⟨rfl, by simpa using h⟩
        | cons x v =>
          have h2 : 33 :: s = x :: (v ++ ([33] ++ t)) := h
          exact absurd (List.mem_cons.mpr (.inl (List.cons.inj h2).1)) hv
      | cons y u ih =>
        intro v s t hu hv h
        cases v with
        | nil =>
          have h2 : y :: (u ++ ([33] ++ s)) = 33 :: t := h
          exact absurd (List.mem_cons.mpr (.inl (List.cons.inj h2).1.symm)) hu
        | cons x v =>
          have h2 : y :: (u ++ ([33] ++ s)) = x :: (v ++ ([33] ++ t)) := h
          obtain ⟨h3, h4⟩ := List.cons.inj h2
          obtain ⟨h5, h6⟩ := ih v s t (fun z => hu (List.mem_cons_of_mem _ z)) (fun z => hv (List.mem_cons_of_mem _ z)) h4
          exact ⟨by rw [h3, h5], h6⟩
    obtain ⟨k1, k2⟩ := key b.reverse b2.reverse a.reverse a2.reverse (fun z => n (List.mem_reverse.mp z)) (fun z => n2 (List.mem_reverse.mp z)) r1
    rw [List.reverse_inj.mp k1, List.reverse_inj.mp k2]
theorem parse_same (l : List Nat) : parseF l = parseA l := by
  unfold parseF
  cases q : firstBang l with
  | none =>
    have n := fbang_none q
    unfold parseA
    cases q2 : lastBang l with
    | none => rfl
    | some p =>
      obtain ⟨a, b⟩ := p
      exact absurd (by rw [(bang_some q2).1]; simp) n
  | some p =>
    obtain ⟨a, b⟩ := p
    obtain ⟨e, n⟩ := fbang_some q
    by_cases hb : 33 ∈ b
    · have z1 : (if sheetOk a = true then parseC b (some a) else none) = none := by
        rw [cell_bang hb]
        exact ite_self none
      show (if sheetOk a = true then parseC b (some a) else none) = _
      rw [z1]
      unfold parseA
      cases q2 : lastBang l with
      | none => exact absurd (by rw [e]; simp) (bang_none q2)
      | some p =>
        obtain ⟨a2, b2⟩ := p
        obtain ⟨e2, n2⟩ := bang_some q2
        have h33 : 33 ∈ a2 := by
          apply Classical.byContradiction
          intro h
          -- with no '!' in a2 the first is the last
          have e3 := e.symm.trans e2
          have key : ∀ (u v s t : List Nat), 33 ∉ u → 33 ∉ v → u ++ 33 :: s = v ++ 33 :: t → s = t := by
            intro u
            induction u with
            | nil =>
              intro v s t _ hv h
              cases v with
              | nil => exact (List.cons.inj h).2
              | cons x v => exact absurd (List.mem_cons.mpr (.inl (List.cons.inj h).1)) hv
            | cons y u ih =>
              intro v s t hu hv h
              cases v with
              | nil => exact absurd (List.mem_cons.mpr (.inl (List.cons.inj h).1.symm)) hu
              | cons x v => exact ih v s t (fun z => hu (List.mem_cons_of_mem _ z)) (fun z => hv (List.mem_cons_of_mem _ z)) (List.cons.inj h).2
          have hh := key a a2 b b2 n h e3
          exact n2 (hh ▸ hb)
        show none = (if sheetOk a2 = true then parseC b2 (some a2) else none)
        rw [sheet_bang h33]
        rfl
    · unfold parseA
      rw [bang_eq e hb]
end K16

set_option Elab.async false
set_option linter.all false
set_option maxRecDepth 100000
set_option maxHeartbeats 4000000
namespace TX
open PySem PySem.Spec PyProof.Rows L2 Evl
/-- a text without a '$' ahead -/
def strip36 (l : List Nat) : List Nat := if l.head? = some 36 then l.tail else l
theorem strip36_sub (l : List Nat) : (strip36 l).Sublist l := by
  unfold strip36
  by_cases z : l.head? = some 36
  · rw [if_pos z]
    exact List.tail_sublist l
  · rw [if_neg z]
    exact List.Sublist.refl l
theorem cut1 (l : List Nat) : cutS (S l) none (some 1) = S (l.take 1) := by
  cases l with
  | nil => decide +kernel
  | cons c l => exact sl_to (n := 1) (c :: l) (by simp)
theorem cut1r (l : List Nat) : cutS (S l) (some 1) none = S (l.drop 1) := by
  cases l with
  | nil => decide +kernel
  | cons c l => exact sl_from (n := 1) (c :: l) (by simp)
theorem take1 (l : List Nat) : decide (V.str (S (l.take 1)) = V.str (Str.ofString "$")) = decide (l.head? = some 36) := decide_eq_decide.mpr ⟨fun q => by
    have q3 : l.take 1 = [36] := S_inj (V.str.inj q)
    cases l with
    | nil => cases q3
    | cons c l =>
      have q4 : [c] = [36] := q3
      rw [(List.cons.inj q4).1]
      rfl, fun q => by
    cases l with
    | nil => cases q
    | cons c l =>
      have q2 : c = 36 := Option.some.inj q
      rw [q2]
      rfl⟩
end TX
namespace K16
open PySem PySem.Spec PyProof.Rows L2 Pen EV2 Evl TX LamX
abbrev s_l_read_row : Stmt := topS 52
abbrev N_l_read_row : List Str := ["_law_text", "_law_digits"]
abbrev P_l_read_row : List Str := ["_law_text"]
theorem sc_l_read_row : FnScope N_l_read_row P_l_read_row (defScope s_l_read_row) := ⟨rfl, rfl, rfl, by decide +kernel, rfl, by decide +kernel, by decide +kernel⟩
abbrev s_l_read_column : Stmt := topS 53
abbrev N_l_read_column : List Str := ["_law_text", "_law_letters_here"]
abbrev P_l_read_column : List Str := ["_law_text"]
theorem sc_l_read_column : FnScope N_l_read_column P_l_read_column (defScope s_l_read_column) := ⟨rfl, rfl, rfl, by decide +kernel, rfl, by decide +kernel, by decide +kernel⟩
abbrev s_l_read_cell : Stmt := topS 54
abbrev N_l_read_cell : List Str := ["_law_text", "_law_sheet", "_law_many", "_law_turn", "_law_column_here", "_law_row"]
abbrev P_l_read_cell : List Str := ["_law_text", "_law_sheet"]
theorem sc_l_read_cell : FnScope N_l_read_cell P_l_read_cell (defScope s_l_read_cell) := ⟨rfl, rfl, rfl, by decide +kernel, rfl, by decide +kernel, by decide +kernel⟩
structure AdN3 where
  f_read_row : Addr
  d_read_row : FuncData
  f_read_column : Addr
  d_read_column : FuncData
  f_read_cell : Addr
  d_read_cell : FuncData
structure TxtN3 (K : PySem.W.Frag) (mg : Str → Option Value) (p : AdN3) : Prop where
  mg_l_read_row : mg "_law_read_row" = some (.ref p.f_read_row)
  F_l_read_row : Fun K "_law_read_row" "_law_read_row" s_l_read_row p.f_read_row p.d_read_row
  b_l_read_row : Binds K p.d_read_row P_l_read_row []
  mg_l_read_column : mg "_law_read_column" = some (.ref p.f_read_column)
  F_l_read_column : Fun K "_law_read_column" "_law_read_column" s_l_read_column p.f_read_column p.d_read_column
  b_l_read_column : Binds K p.d_read_column P_l_read_column []
  mg_l_read_cell : mg "_law_read_cell" = some (.ref p.f_read_cell)
  F_l_read_cell : Fun K "_law_read_cell" "_law_read_cell" s_l_read_cell p.f_read_cell p.d_read_cell
  b_l_read_cell : Binds K p.d_read_cell P_l_read_cell []
def spReadC : Sp := fun vs H Q _ => ∃ l : List Nat, vs = [.str (S l)] ∧ (∀ c ∈ l, c < 128) ∧ l.length ≤ 1000 ∧ (colText (strip36 l) = false → ∀ H', Same H H' → Q .non H') ∧
  (colText (strip36 l) = true → ∀ t H', H t = none → Same H H' → H' t = some (.tup [.int (val ((strip36 l).map up)), .bl (decide (l.head? = some 36))]) → Q (.ref t) H')
section
variable {P : Program} {w : World} {K : PySem.W.Frag} {mg : Str → Option Value} {base : Heap} {ph : AdL} {p2 : AdN2} {p : AdN3}
theorem ok_l_read_column (TH : TxtH K mg ph) (T : TxtN3 K mg p) : FnOk P w K mg base CX0 3 p.f_read_column p.d_read_column P_l_read_column spReadC := by
  have G_l_is_letters : FnOk P w K mg base CX0 2 ph.f_is_letters ph.d_is_letters P_l_is_letters (spAlpha fun l => l.all let1) := ok_l_is_letters TH
  have G_l_column : FnOk P w K mg base CX0 2 ph.f_column ph.d_column P_l_column spColumn := ok_l_column TH
  refine T.F_l_read_column.ok sc_l_read_column (fun vs H Q E h => ?_) (fun cdv A outer s H vs Q E hr h => ?_)
  · obtain ⟨l, rfl, _⟩ := h
    rfl
  · obtain ⟨l, rfl, ha, hl, h0, h1⟩ := h
    refine ⟨_, (pss_cons (ps_set (i := 1) sc_l_read_column.nd rfl (Or.inl rfl) (pe_ifExp (pt_cmpR op_eq (pe_slice sl_str (pv 0) po_none (po_some pe_int)) pe_str (nomark _)) (pe_slice sl_str (pv 0) (po_some pe_int) po_none) (pv 0)))
      (pss_cons (ps_if (PW.pt (pw_or (pt_not (pt_chain op_le op_le pe_int (pe_callB (id := "len") call_len (by rfl) TH.n_len (by decide +kernel) (pa_cons (pv 1) pa_nil)) pe_int)) (pw_or1 (pt_not (pt_val (pe_call G_l_is_letters (hr.mono (by decide)) (by rfl) TH.mg_l_is_letters TH.F_l_is_letters.kp TH.b_l_is_letters .nil pass0 (pa_cons (pv 1) pa_nil))))))) (pss_one (ps_ret pe_non)) pss_nil)
      (pss_one (ps_ret (pe_tup (pa_cons (pe_call G_l_column (hr.mono (by decide)) (by rfl) TH.mg_l_column TH.F_l_column.kp TH.b_l_column .nil pass0 (pa_cons (pv 1) pa_nil)) (pa_cons (pe_cmpR op_eq (pe_slice sl_str (pv 0) po_none (po_some pe_int)) pe_str (nomark _)) pa_nil))))))), ?_⟩
    have eD : ∀ {x : Option V} {H : Hp}, Ev (tOp rEq (tSl rSlS (tVar 0) tNoPart (tPart (tC (.int 1)))) (tC (.str (Str.ofString "$")))) [some (.str (S l)), x] H (.bl (decide (l.head? = some 36))) := fun {x H} => by
      have g := ev_op (ev_slS (σ := [some (.str (S l)), x]) (H := H) (z := S l) (ev_var (i := 0) rfl) eo_none (eo_some (ev_c (v := .int 1))) (by rw [len_S]; omega)) (ev_c (v := .str (Str.ofString "$"))) (rv_eq rfl)
      rw [cut1, take1] at g
      exact g
    have eA : ∀ {σ : L2.St} {H : Hp} {te : TE} {m : List Nat}, Ev te σ H (.str (S m)) → (∀ c ∈ m, c < 128) → m.length ≤ 1000 → Ev (tCall (spAlpha fun l => l.all let1) [] E0 (tCons te tNil)) σ H (.bl (m.all let1)) := fun h ha hl H1 e Q q => h H1 e _ fun H2 e2 => ⟨_, rfl, ha, hl, fun H' s => q H' (e2.trans s)⟩
    refine q_asg (v := .str (S (strip36 l))) (Evl.ev_if (b := decide (l.head? = some 36)) (et_test eD) (fun hb => ?_) (fun hb => ?_)) fun H1 e1 => ?_
    · have g := ev_slS (σ := [some (.str (S l)), none]) (H := H) (z := S l) (ev_var (i := 0) rfl) (eo_some (ev_c (v := .int 1))) eo_none (by rw [len_S]; omega)
      rw [cut1r] at g
      unfold strip36
      rw [if_pos (of_decide_eq_true hb), ← List.drop_one]
      exact g
    · unfold strip36
      rw [if_neg (of_decide_eq_false hb)]
      exact ev_var rfl
    have sb := strip36_sub l
    have ya : ∀ c ∈ strip36 l, c < 128 := fun c hc => ha c (sb.subset hc)
    have yl : (strip36 l).length ≤ 1000 := Nat.le_trans sb.length_le hl
    generalize strip36 l = y at *
    have z : colText y = (decide (1 ≤ y.length ∧ y.length ≤ 3) && y.all let1) := by
      unfold colText
      rw [Bool.decide_and]
    refine q_when (b := !colText y) (et_is (et_or (et_not (et_test (ev_between (lo := 1) (hi := 3) ev_c (ev_lenS (K := K) (l := y) (ev_var rfl) (by omega)) ev_c))) fun _ => et_not (et_B (eA (ev_var rfl) ya yl))) ?_) (fun hb H2 e2 => ?_) (fun hb H2 e2 => ?_)
    · rw [z, Bool.not_and]
      congr 2
      exact decide_eq_decide.mpr (by omega)
    · exact h0 (by simpa using hb) H2 (e1.trans e2)
    · have hb : colText y = true := by simpa using hb
      have hall : y.all let1 = true := by
        rw [hb] at z
        have z2 := z.symm
        simp only [Bool.and_eq_true] at z2
        exact z2.2
      refine (eu_tup (ea_cons (fun H3 e3 Q q => ⟨_, rfl, y, rfl, ya, yl, hall, fun H' s => q H' s⟩) (ea_cons eD ea_nil)) (by show 2 ≤ 100000; decide)) H2 (Ex.refl H2) _ fun t H3 nt e3 ht => ?_
      exact h1 hb t H3 (fresh_back (e1.trans e2) nt) ((e1.trans e2).trans e3) ht
def spReadR : Sp := fun vs H Q _ => ∃ l : List Nat, vs = [.str (S l)] ∧ (∀ c ∈ l, c < 128) ∧ l.length ≤ 1000 ∧ (rowText (strip36 l) = false → ∀ H', Same H H' → Q .non H') ∧
  (rowText (strip36 l) = true → ∀ t H', H t = none → Same H H' → H' t = some (.tup [.int (numVal (strip36 l)), .bl (decide (l.head? = some 36))]) → Q (.ref t) H')
theorem ok_l_read_row (TH : TxtH K mg ph) (T2 : TxtN2 K mg p2) (T : TxtN3 K mg p) : FnOk P w K mg base CX0 3 p.f_read_row p.d_read_row P_l_read_row spReadR := by
  have G_l_is_digits : FnOk P w K mg base CX0 1 p2.f_is_digits p2.d_is_digits P_l_is_digits (spAlpha fun l => l.all dig1) := ok_l_is_digits TH T2
  refine T.F_l_read_row.ok sc_l_read_row (fun vs H Q E h => ?_) (fun cdv A outer s H vs Q E hr h => ?_)
  · obtain ⟨l, rfl, _⟩ := h
    rfl
  · obtain ⟨l, rfl, ha, hl, h0, h1⟩ := h
    refine ⟨_, (pss_cons (ps_set (i := 1) sc_l_read_row.nd rfl (Or.inl rfl) (pe_ifExp (pt_cmpR op_eq (pe_slice sl_str (pv 0) po_none (po_some pe_int)) pe_str (nomark _)) (pe_slice sl_str (pv 0) (po_some pe_int) po_none) (pv 0)))
      (pss_cons (ps_if (PW.pt (pw_or (pt_not (pt_chain op_le op_le pe_int (pe_callB (id := "len") call_len (by rfl) TH.n_len (by decide +kernel) (pa_cons (pv 1) pa_nil)) pe_int)) (pw_or (pt_not (pt_val (pe_call G_l_is_digits (hr.mono (by decide)) (by rfl) T2.mg_l_is_digits T2.F_l_is_digits.kp T2.b_l_is_digits .nil pass0 (pa_cons (pv 1) pa_nil)))) (pw_or (pt_cmpR op_eq (pe_ix ix_str (pv 1) pe_int (fun _ _ => rfl)) pe_str (nomark _)) (pw_or1 (pt_cmpR op_gt (pe_callTy (T := "int") call_int_str (by rfl) TH.n_int (by decide +kernel) (pa_cons (pv 1) pa_nil)) pe_int (nomark _))))))) (pss_one (ps_ret pe_non)) pss_nil)
      (pss_one (ps_ret (pe_tup (pa_cons (pe_callTy (T := "int") call_int_str (by rfl) TH.n_int (by decide +kernel) (pa_cons (pv 1) pa_nil)) (pa_cons (pe_cmpR op_eq (pe_slice sl_str (pv 0) po_none (po_some pe_int)) pe_str (nomark _)) pa_nil))))))), ?_⟩
    have eD : ∀ {x : Option V} {H : Hp}, Ev (tOp rEq (tSl rSlS (tVar 0) tNoPart (tPart (tC (.int 1)))) (tC (.str (Str.ofString "$")))) [some (.str (S l)), x] H (.bl (decide (l.head? = some 36))) := fun {x H} => by
      have g := ev_op (ev_slS (σ := [some (.str (S l)), x]) (H := H) (z := S l) (ev_var (i := 0) rfl) eo_none (eo_some (ev_c (v := .int 1))) (by rw [len_S]; omega)) (ev_c (v := .str (Str.ofString "$"))) (rv_eq rfl)
      rw [cut1, take1] at g
      exact g
    have eA : ∀ {σ : L2.St} {H : Hp} {te : TE} {m : List Nat}, Ev te σ H (.str (S m)) → (∀ c ∈ m, c < 128) → m.length ≤ 1000 → Ev (tCall (spAlpha fun l => l.all dig1) [] E0 (tCons te tNil)) σ H (.bl (m.all dig1)) := fun h ha hl H1 e Q q => h H1 e _ fun H2 e2 => ⟨_, rfl, ha, hl, fun H' s => q H' (e2.trans s)⟩
    refine q_asg (v := .str (S (strip36 l))) (Evl.ev_if (b := decide (l.head? = some 36)) (et_test eD) (fun hb => ?_) (fun hb => ?_)) fun H1 e1 => ?_
    · have g := ev_slS (σ := [some (.str (S l)), none]) (H := H) (z := S l) (ev_var (i := 0) rfl) (eo_some (ev_c (v := .int 1))) eo_none (by rw [len_S]; omega)
      rw [cut1r] at g
      unfold strip36
      rw [if_pos (of_decide_eq_true hb), ← List.drop_one]
      exact g
    · unfold strip36
      rw [if_neg (of_decide_eq_false hb)]
      exact ev_var rfl
    have sb := strip36_sub l
    have ya : ∀ c ∈ strip36 l, c < 128 := fun c hc => ha c (sb.subset hc)
    have yl : (strip36 l).length ≤ 1000 := Nat.le_trans sb.length_le hl
    generalize strip36 l = y at *
    have z : rowText y = (decide (1 ≤ y.length ∧ y.length ≤ 7) && (y.all dig1 && (!decide (y.head? = some 48) && decide (numVal y ≤ 1000000)))) := by
      have z1 : decide (numVal y ≤ 1000000) = decide (NumText.digitsVal y ≤ 1000000) := decide_eq_decide.mpr (by unfold numVal; omega)
      unfold rowText
      rw [Bool.decide_and, z1]
      simp only [Bool.and_assoc]
    have eI : (1 ≤ y.length ∧ y.length ≤ 7) → y.all dig1 = true → ∀ {σ : L2.St} {Ha : Hp}, σ[1]? = some (some (.str (S y))) → Ev (tCB (fun xs H Q => ∃ a n, xs = [V.str a] ∧ PySem.intText? a = some n ∧ a.length ≤ 640 ∧ Q (.int n) H) (tCons (tVar 1) tNil)) σ Ha (.int (numVal y)) := fun hn hd σ Ha hs Hb e Q q => by
      have ne : y ≠ [] := fun e => by
        subst e
        exact absurd hn.1 (by decide)
      have z := PySem.intText_digits (x := S y) (by rw [toList_S]; intro d hd2; exact of_decide_eq_true (List.all_eq_true.mp hd d hd2)) (by rw [toList_S]; exact ne) (by rw [len_S]; omega)
      rw [toList_S] at z
      exact ⟨_, hs, _, _, rfl, z, by rw [len_S]; omega, q Hb (Ex.refl Hb)⟩
    have hn1 : (!decide ((1 : Int) ≤ (y.length : Int) ∧ (y.length : Int) ≤ 7)) = !decide (1 ≤ y.length ∧ y.length ≤ 7) := by
      congr 1
      exact decide_eq_decide.mpr (by omega)
    refine q_when (b := !rowText y) (et_is (et_or (et_is (et_not (et_test (ev_between (lo := 1) (hi := 7) ev_c (ev_lenS (K := K) (l := y) (ev_var rfl) (by omega)) ev_c))) hn1) fun q1 => et_or (et_not (et_B (eA (ev_var rfl) ya yl))) fun q2 => et_or (b := decide (1000000 < numVal y)) (a := decide (y.head? = some 48)) (et_test ?e0) fun _ => et_test (ev_op (eI (by simpa using q1) (by simpa using q2) rfl) ev_c rv_I0)) ?_) (fun hb H2 e2 => ?_) (fun hb H2 e2 => ?_)
    case e0 =>
      have hn : 1 ≤ y.length ∧ y.length ≤ 7 := by simpa using q1
      cases y with
      | nil => exact absurd hn.1 (by decide)
      | cons c y =>
        have e0 : Ev (tOp rIxS (tVar 1) (tC (.int 0))) [some (.str (S l)), some (.str (S (c :: y)))] H1 (.str (S [c])) := ev_at (l := c :: y) (i := 0) (ev_var rfl) ev_c rfl (by omega)
        have g := ev_op e0 (ev_c (v := .str (Str.ofString "0"))) (rv_eq rfl)
        have z3 : decide (V.str (S [c]) = V.str (Str.ofString "0")) = decide ((c :: y).head? = some 48) := decide_eq_decide.mpr ⟨fun q => by
            have q3 : [c] = [48] := S_inj (V.str.inj q)
            rw [(List.cons.inj q3).1]
            rfl, fun q => by
            have q2 : c = 48 := Option.some.inj q
            rw [q2]
            rfl⟩
        rw [z3] at g
        exact g
    · have z5 : decide (1000000 < numVal y) = !decide (numVal y ≤ 1000000) := by
        rw [← decide_not]
        exact decide_eq_decide.mpr (by omega)
      rw [z, z5]
      simp only [Bool.not_and, Bool.not_not]
    · exact h0 (by simpa using hb) H2 (e1.trans e2)
    · have hb : rowText y = true := by simpa using hb
      have hb2 := hb
      rw [z] at hb2
      simp only [Bool.and_eq_true, decide_eq_true_eq] at hb2
      refine (eu_tup (ea_cons (eI hb2.1 hb2.2.1 rfl) (ea_cons eD ea_nil)) (by show 2 ≤ 100000; decide)) H2 (Ex.refl H2) _ fun t H3 nt e3 ht => ?_
      exact h1 hb t H3 (fresh_back (e1.trans e2) nt) ((e1.trans e2).trans e3) ht
end
end K16

set_option Elab.async false
set_option linter.all false
set_option maxRecDepth 100000
set_option maxHeartbeats 4000000
namespace K16
open PySem PySem.Spec PyProof.Rows L2 Pen EV2 Evl TX LamX
def dol (b : List Nat) : Nat := if b.head? = some 36 then 1 else 0
theorem dol_drop (b : List Nat) : b.drop (dol b) = strip36 b := by
  unfold dol strip36
  by_cases z : b.head? = some 36
  · rw [if_pos z, if_pos z, List.drop_one]
  · rw [if_neg z, if_neg z, List.drop_zero]
theorem dol_le (b : List Nat) : dol b + (strip36 b).length = b.length := by
  unfold dol strip36
  by_cases z : b.head? = some 36
  · rw [if_pos z, if_pos z]
    cases b with
    | nil => cases z
    | cons c b => show 1 + b.length = b.length + 1; omega
  · rw [if_neg z, if_neg z]
    omega
/-- so many letters, four at most -/
def many (b : List Nat) : Nat := min 4 ((strip36 b).takeWhile let1).length
theorem take_many (b : List Nat) {k : Nat} (hk : k ≤ ((strip36 b).takeWhile let1).length) : strip36 (b.take (dol b + k)) = (strip36 b).take k ∧ ((b.take (dol b + k)).head? = some 36 ↔ b.head? = some 36) := by
  by_cases z : b.head? = some 36
  · cases b with
    | nil => cases z
    | cons c b =>
      have e : dol (c :: b) = 1 := if_pos z
      have s : strip36 (c :: b) = b := if_pos z
      rw [e, s, Nat.add_comm, List.take_succ_cons]
      exact ⟨if_pos z, Iff.rfl⟩
  · have e : dol b = 0 := if_neg z
    have s : strip36 b = b := if_neg z
    rw [s] at hk
    rw [e, s, Nat.zero_add]
    have hh : ¬ (b.take k).head? = some 36 := by
      cases k with
      | zero => intro q; cases q
      | succ k =>
        cases b with
        | nil => intro q; cases q
        | cons c b =>
          intro q
          exact z q
    exact ⟨if_neg hh, fun q => absurd q hh, fun q => absurd q z⟩
theorem drop_many (b : List Nat) (k : Nat) : b.drop (dol b + k) = (strip36 b).drop k := by rw [← List.drop_drop, dol_drop]
theorem parse_many (b : List Nat) (sh : Option (List Nat)) : parseC b sh = if colText ((strip36 b).take (many b)) = true ∧ rowText (strip36 ((strip36 b).drop (many b))) = true then
    some (numVal (strip36 ((strip36 b).drop (many b))), val (((strip36 b).take (many b)).map up), decide (((strip36 b).drop (many b)).head? = some 36), decide (b.head? = some 36), sh) else none := by
  unfold parseC
  have c1 : (cellParts b).1 = (strip36 b).takeWhile let1 := rfl
  have c2 : (cellParts b).2.2.1 = strip36 ((strip36 b).dropWhile let1) := rfl
  have c3 : (cellParts b).2.2.2 = decide (((strip36 b).dropWhile let1).head? = some 36) := rfl
  have c4 : (cellParts b).2.1 = decide (b.head? = some 36) := rfl
  rw [c1, c2, c3, c4]
  by_cases h : ((strip36 b).takeWhile let1).length ≤ 4
  · have m : many b = ((strip36 b).takeWhile let1).length := by unfold many; omega
    rw [m, tw_take, tw_drop]
  · have m : many b = 4 := by unfold many; omega
    have n1 : ¬ colText ((strip36 b).takeWhile let1) = true := fun q => by
      unfold colText at q
      simp only [Bool.and_eq_true, decide_eq_true_eq] at q
      omega
    have n2 : ¬ colText ((strip36 b).take (many b)) = true := fun q => by
      have hl := tw_le (p := let1) (strip36 b)
      unfold colText at q
      simp only [Bool.and_eq_true, decide_eq_true_eq, List.length_take] at q
      omega
    rw [if_neg fun q => n1 q.1, if_neg fun q => n2 q.1]
def spReadCell : Sp := fun vs H Q _ => ∃ (b : List Nat) (sh : Option (List Nat)), vs = [.str (S b), shV sh] ∧ (∀ c ∈ b, c < 128) ∧ b.length ≤ 1000 ∧ (parseC b sh = none → ∀ H', Same H H' → Q .non H') ∧
  (∀ r c fr fc s, parseC b sh = some (r, c, fr, fc, s) → ∀ t H', H t = none → Same H H' → H' t = some (.tup (plc r c fr fc s)) → Q (.ref t) H')
section
variable {P : Program} {w : World} {K : PySem.W.Frag} {mg : Str → Option Value} {base : Heap} {ph : AdL} {p2 : AdN2} {p : AdN3}
theorem ok_l_read_cell (TH : TxtH K mg ph) (T2 : TxtN2 K mg p2) (T : TxtN3 K mg p) : FnOk P w K mg base CX0 4 p.f_read_cell p.d_read_cell P_l_read_cell spReadCell := by
  have G_l_is_letters : FnOk P w K mg base CX0 2 ph.f_is_letters ph.d_is_letters P_l_is_letters (spAlpha fun l => l.all let1) := ok_l_is_letters TH
  have G_l_read_column : FnOk P w K mg base CX0 3 p.f_read_column p.d_read_column P_l_read_column spReadC := ok_l_read_column TH T
  have G_l_read_row : FnOk P w K mg base CX0 3 p.f_read_row p.d_read_row P_l_read_row spReadR := ok_l_read_row TH T2 T
  refine T.F_l_read_cell.ok sc_l_read_cell (fun vs H Q E h => ?_) (fun cdv A outer s H vs Q E hr h => ?_)
  · obtain ⟨b, sh, rfl, _⟩ := h
    rfl
  · obtain ⟨b, sh, rfl, ha, hl, h0, h1⟩ := h
    refine ⟨_, (pss_cons (ps_set (i := 2) sc_l_read_cell.nd rfl (Or.inl rfl) (pe_ifExp (pt_cmpR op_eq (pe_slice sl_str (pv 0) po_none (po_some pe_int)) pe_str (nomark _)) pe_int pe_int))
      (pss_cons (ps_for PassesOwn.never rfl (pi_range1 (by rfl) TH.n_range (pa_cons pe_int pa_nil)) (pg_name (i := 3) sc_l_read_cell.nd rfl (Or.inl rfl)) (pss_one (ps_if (PW.pt (pw_and (pt_cmpR op_lt (pv 2) (pe_callB (id := "len") call_len (by rfl) TH.n_len (by decide +kernel) (pa_cons (pv 0) pa_nil)) (nomark _)) (pw_and1 (pt_val (pe_call G_l_is_letters (hr.mono (by decide)) (by rfl) TH.mg_l_is_letters TH.F_l_is_letters.kp TH.b_l_is_letters .nil pass0 (pa_cons (pe_ix ix_str (pv 0) (pv 2) (fun _ _ => rfl)) pa_nil)))))) (pss_one (ps_set (i := 2) sc_l_read_cell.nd rfl (Or.inl rfl) (pe_op op_add (pv 2) pe_int))) pss_nil)))
      (pss_cons (ps_par (i := 4) (j := 5) (by rfl) sc_l_read_cell.nd rfl rfl (by decide) rfl rfl (pa_cons (pe_call G_l_read_column (hr.mono (by decide)) (by rfl) T.mg_l_read_column T.F_l_read_column.kp T.b_l_read_column .nil pass0 (pa_cons (pe_slice sl_str (pv 0) po_none (po_some (pv 2))) pa_nil)) (pa_cons (pe_call G_l_read_row (hr.mono (by decide)) (by rfl) T.mg_l_read_row T.F_l_read_row.kp T.b_l_read_row .nil pass0 (pa_cons (pe_slice sl_str (pv 0) (po_some (pv 2)) po_none) pa_nil)) pa_nil)) (by rfl))
      (pss_cons (ps_if (PW.pt (pw_or (pt_cmpR op_isN1 (pv 4) pe_non (nomark _)) (pw_or1 (pt_cmpR op_isN1 (pv 5) pe_non (nomark _))))) (pss_one (ps_ret pe_non)) pss_nil)
      (pss_one (ps_ret (pe_tup (pa_cons (pe_ix ix_tup (pv 5) pe_int (fun _ _ => rfl)) (pa_cons (pe_ix ix_tup (pv 4) pe_int (fun _ _ => rfl)) (pa_cons (pe_ix ix_tup (pv 5) pe_int (fun _ _ => rfl)) (pa_cons (pe_ix ix_tup (pv 4) pe_int (fun _ _ => rfl)) (pa_cons (pv 1) pa_nil)))))))))))), ?_⟩
    have eA : ∀ {σ : L2.St} {H : Hp} {te : TE} {m : List Nat}, Ev te σ H (.str (S m)) → (∀ c ∈ m, c < 128) → m.length ≤ 1000 → Ev (tCall (spAlpha fun l => l.all let1) [] E0 (tCons te tNil)) σ H (.bl (m.all let1)) := fun h ha hl H1 e Q q => h H1 e _ fun H2 e2 => ⟨_, rfl, ha, hl, fun H' s => q H' (e2.trans s)⟩
    have hb := dol_le b
    have sb := strip36_sub b
    have hw := tw_le (p := let1) (strip36 b)
    refine q_asg (v := .int (dol b : Nat)) (Evl.ev_if (b := decide (b.head? = some 36)) (et_test ?eD) (fun hb => ?_) (fun hb => ?_)) fun H1 e1 => ?_
    case eD =>
      have g := ev_op (ev_slS (σ := [some (.str (S b)), some (shV sh), none, none, none, none]) (H := H) (z := S b) (ev_var (i := 0) rfl) eo_none (eo_some (ev_c (v := .int 1))) (by rw [len_S]; omega)) (ev_c (v := .str (Str.ofString "$"))) (rv_eq rfl)
      rw [cut1, take1] at g
      exact g
    · have z : dol b = 1 := if_pos (of_decide_eq_true hb)
      rw [z]
      exact ev_c
    · have z : dol b = 0 := if_neg (of_decide_eq_false hb)
      rw [z]
      exact ev_c
    refine q_forR1 (n := 4) (ea_cons ev_c ea_nil) (by decide) (fun i σ' H' => ∃ t : Option V, σ' = [some (.str (S b)), some (shV sh), some (.int ((dol b + min i ((strip36 b).takeWhile let1).length : Nat) : Int)), t, none, none] ∧ Ex H H')
      (fun H2 e2 => ⟨none, by rw [Nat.zero_min]; rfl, e1.trans e2⟩) ?_ ?_
    · rintro i σ' H2 hi ⟨t, rfl, e2⟩
      have key := tw_len (p := let1) (strip36 b) (min i ((strip36 b).takeWhile let1).length) (Nat.min_le_right _ _)
      have at_ : b[dol b + min i ((strip36 b).takeWhile let1).length]? = (strip36 b)[min i ((strip36 b).takeWhile let1).length]? := by
        rw [← dol_drop, List.getElem?_drop]
      generalize hk : min i ((strip36 b).takeWhile let1).length = k at *
      refine s_when (b := decide (k < ((strip36 b).takeWhile let1).length)) (et_is (et_and (et_test (ev_op (ev_var rfl) (ev_lenS (K := K) (l := b) (ev_var rfl) (by omega)) rv_I0)) fun hlt => et_B (b := ((strip36 b)[k]?.map let1).getD false) ?_) ?_) (fun ht H3 e3 => ?_) (fun hf H3 e3 => ?_)
      · have hlt : ((dol b + k : Nat) : Int) < (b.length : Int) := of_decide_eq_true hlt
        have hx : (strip36 b)[k]? = some ((strip36 b)[k]'(by omega)) := List.getElem?_eq_getElem _
        rw [hx] at at_
        have e0 := ev_at (σ := [some (.str (S b)), some (shV sh), some (.int ((dol b + k : Nat) : Int)), some (.int (i : Int)), none, none]) (H := H2) (l := b) (i := dol b + k) (ev_var (i := 0) rfl) (ev_var (i := 2) rfl) at_ (by omega)
        have g := eA (m := [(strip36 b)[k]'(by omega)]) e0 (fun x hx => by rw [List.mem_singleton.mp hx]; exact ha _ (List.mem_of_getElem? at_)) (by show 1 ≤ 1000; decide)
        rw [hx]
        have z : [(strip36 b)[k]'(by omega)].all let1 = ((some ((strip36 b)[k]'(by omega))).map let1).getD false := by simp
        rw [← z]
        exact g
      · rw [← key]
        congr 1
        exact decide_eq_decide.mpr (by omega)
      · have ht := of_decide_eq_true ht
        refine s_asg (v := .int ((dol b + k + 1 : Nat) : Int)) (ev_op (ev_var rfl) ev_c rv_I0) fun H4 e4 => ⟨some (.int (i : Int)), ?_, (e2.trans e3).trans e4⟩
        have z : min (i + 1) ((strip36 b).takeWhile let1).length = k + 1 := by omega
        rw [z]
        rfl
      · have hf := of_decide_eq_false hf
        refine ⟨some (.int (i : Int)), ?_, e2.trans e3⟩
        have z : min (i + 1) ((strip36 b).takeWhile let1).length = k := by omega
        rw [z]
        rfl
    · rintro σ' H2 ⟨t, rfl, e2⟩
      have hm : many b ≤ ((strip36 b).takeWhile let1).length := by unfold many; omega
      have hmn : min (4 : Int).toNat ((strip36 b).takeWhile let1).length = many b := rfl
      rw [hmn]
      obtain ⟨tm1, tm2⟩ := take_many b hm
      have tm3 : decide ((b.take (dol b + many b)).head? = some 36) = decide (b.head? = some 36) := decide_eq_decide.mpr tm2
      have dm := drop_many b (many b)
      have pm := parse_many b sh
      have xa : ∀ c ∈ b.take (dol b + many b), c < 128 := fun c hc => ha c ((List.take_sublist _ _).subset hc)
      have xl : (b.take (dol b + many b)).length ≤ 1000 := by rw [List.length_take]; omega
      have ya : ∀ c ∈ b.drop (dol b + many b), c < 128 := fun c hc => ha c ((List.drop_sublist _ _).subset hc)
      have yl : (b.drop (dol b + many b)).length ≤ 1000 := by rw [List.length_drop]; omega
      have sX : ∀ {H3 : Hp}, Ev (tSl rSlS (tVar 0) tNoPart (tPart (tVar 2))) [some (.str (S b)), some (shV sh), some (.int ((dol b + many b : Nat) : Int)), t, none, none] H3 (.str (S (b.take (dol b + many b)))) := fun {H3} => by
        have g := ev_slS (σ := [some (.str (S b)), some (shV sh), some (.int ((dol b + many b : Nat) : Int)), t, none, none]) (H := H3) (z := S b) (ev_var (i := 0) rfl) eo_none (eo_some (ev_var (i := 2) rfl)) (by rw [len_S]; omega)
        rw [sl_to b (by omega)] at g
        exact g
      have sY : ∀ {H3 : Hp}, Ev (tSl rSlS (tVar 0) (tPart (tVar 2)) tNoPart) [some (.str (S b)), some (shV sh), some (.int ((dol b + many b : Nat) : Int)), t, none, none] H3 (.str (S (b.drop (dol b + many b)))) := fun {H3} => by
        have g := ev_slS (σ := [some (.str (S b)), some (shV sh), some (.int ((dol b + many b : Nat) : Int)), t, none, none]) (H := H3) (z := S b) (ev_var (i := 0) rfl) (eo_some (ev_var (i := 2) rfl)) eo_none (by rw [len_S]; omega)
        rw [sl_from b (by omega)] at g
        exact g
      rw [dm] at sY ya yl
      generalize b.take (dol b + many b) = X at *
      rw [← tm1] at pm
      rw [← tm3] at pm
      generalize (strip36 b).drop (many b) = Y at *
      rw [pm] at h0 h1
      have en : ∀ {σ : L2.St} {H : Hp} {te : TE} {v : V}, Ev te σ H v → Ev (tOp rIsN te (tC .non)) σ H (.bl (decide (v = .non))) := fun h => ev_op h ev_c fun H1 _ Q q => ⟨rfl, q H1 (Ex.refl H1)⟩
      cases hx : colText (strip36 X) with
      | false =>
        have g0 := h0 (if_neg fun q => absurd (hx.symm.trans q.1) (by decide))
        refine sX H2 (Ex.refl H2) _ fun H3 e3 => ⟨X, rfl, xa, xl, fun _ H4 e4 => ?_, fun z => absurd (hx.symm.trans z) (by decide)⟩
        cases hy : rowText (strip36 Y) with
        | false =>
          refine sY H4 (Ex.refl H4) _ fun H5 e5 => ⟨Y, rfl, ya, yl, fun _ H6 e6 => ?_, fun z => absurd (hy.symm.trans z) (by decide)⟩
          refine ⟨_, _, rfl, ?_⟩
          dsimp only
          refine q_when (b := true) (et_is (et_or (b := true) (et_test (en (ev_var (v := .non) rfl))) fun z => nomatch z) rfl) (fun _ H7 e7 => ?_) fun z => nomatch z
          exact g0 H7 (((((e2.trans e3).trans e4).trans e5).trans e6).trans e7)
        | true =>
          refine sY H4 (Ex.refl H4) _ fun H5 e5 => ⟨Y, rfl, ya, yl, fun z => absurd (hy.symm.trans z) (by decide), fun _ u H6 nu e6 hu => ?_⟩
          refine ⟨_, _, rfl, ?_⟩
          dsimp only
          refine q_when (b := true) (et_is (et_or (b := true) (et_test (en (ev_var (v := .non) rfl))) fun z => nomatch z) rfl) (fun _ H7 e7 => ?_) fun z => nomatch z
          exact g0 H7 (((((e2.trans e3).trans e4).trans e5).trans e6).trans e7)
      | true =>
        refine sX H2 (Ex.refl H2) _ fun H3 e3 => ⟨X, rfl, xa, xl, fun z => absurd (hx.symm.trans z) (by decide), fun _ u H4 nu e4 hu => ?_⟩
        cases hy : rowText (strip36 Y) with
        | false =>
          have g0 := h0 (if_neg fun q => absurd (hy.symm.trans q.2) (by decide))
          refine sY H4 (Ex.refl H4) _ fun H5 e5 => ⟨Y, rfl, ya, yl, fun _ H6 e6 => ?_, fun z => absurd (hy.symm.trans z) (by decide)⟩
          refine ⟨_, _, rfl, ?_⟩
          dsimp only
          refine q_when (b := true) (et_is (et_or (b := true) (et_test (en (ev_var (v := .ref u) rfl))) fun _ => et_test (en (ev_var (v := .non) rfl))) rfl) (fun _ H7 e7 => ?_) fun z => nomatch z
          exact g0 H7 (((((e2.trans e3).trans e4).trans e5).trans e6).trans e7)
        | true =>
          have g1 := h1 _ _ _ _ _ (if_pos ⟨hx, hy⟩)
          refine sY H4 (Ex.refl H4) _ fun H5 e5 => ⟨Y, rfl, ya, yl, fun z => absurd (hy.symm.trans z) (by decide), fun _ v H6 nv e6 hv => ?_⟩
          refine ⟨_, _, rfl, ?_⟩
          dsimp only
          refine q_when (b := false) (et_is (et_or (et_test (en (ev_var (v := .ref u) rfl))) fun _ => et_test (en (ev_var (v := .ref v) rfl))) rfl) (fun z => nomatch z) (fun _ H7 e7 => ?_)
          have hu7 := e7 _ _ (e6 _ _ (e5 _ _ hu))
          have hv7 := e7 _ _ hv
          have e27 := (((e2.trans e3).trans e4).trans e5).trans (e6.trans e7)
          have ix : ∀ {σ : L2.St} {j : Nat} {a : Addr} {xs : List V} {i : Int} {x : V}, σ[j]? = some (some (.ref a)) → H7 a = some (.tup xs) → atI xs i = some x → Ev (tOp (rIxT K) (tVar j) (tC (.int i))) σ H7 x := fun h ht hi => ev_op (ev_var h) ev_c (rv_ixT (st_of ht) hi)
          refine (eu_tup (ea_cons (ix rfl hv7 (i := 0) rfl) (ea_cons (ix rfl hu7 (i := 0) rfl) (ea_cons (ix rfl hv7 (i := 1) rfl) (ea_cons (ix rfl hu7 (i := 1) rfl) (ea_cons (ev_var rfl) ea_nil))))) (by show 5 ≤ 100000; decide)) H7 (Ex.refl H7) _ fun t H8 nt e8 ht => ?_
          exact g1 t H8 (fresh_back e27 nt) (e27.trans e8) ht
end
end K16

set_option Elab.async false
set_option linter.all false
set_option maxRecDepth 100000
set_option maxHeartbeats 4000000
namespace K16
open PySem PySem.Spec PyProof.Rows L2 Pen EV2 Evl TX LamX
abbrev s_l_number_up_to : Stmt := topS 34
abbrev N_l_number_up_to : List Str := ["_law_pen_here", "_law_most", "_law_path"]
abbrev P_l_number_up_to : List Str := ["_law_pen_here", "_law_most"]
theorem sc_l_number_up_to : FnScope N_l_number_up_to P_l_number_up_to (defScope s_l_number_up_to) := ⟨rfl, rfl, rfl, by decide +kernel, rfl, by decide +kernel, by decide +kernel⟩
abbrev s_l_sheet_name : Stmt := topS 42
abbrev N_l_sheet_name : List Str := ["_law_pen_here", "_law_found", "_law_turn"]
abbrev P_l_sheet_name : List Str := ["_law_pen_here"]
theorem sc_l_sheet_name : FnScope N_l_sheet_name P_l_sheet_name (defScope s_l_sheet_name) := ⟨rfl, rfl, rfl, by decide +kernel, rfl, by decide +kernel, by decide +kernel⟩
abbrev s_l_place : Stmt := topS 45
abbrev N_l_place : List Str := ["_law_pen_here", "_law_row", "_law_column_here", "_law_sheet"]
abbrev P_l_place : List Str := ["_law_pen_here"]
theorem sc_l_place : FnScope N_l_place P_l_place (defScope s_l_place) := ⟨rfl, rfl, rfl, by decide +kernel, rfl, by decide +kernel, by decide +kernel⟩
structure AdN4 where
  f_number_up_to : Addr
  d_number_up_to : FuncData
  f_sheet_name : Addr
  d_sheet_name : FuncData
  f_place : Addr
  d_place : FuncData
structure TxtN4 (K : PySem.W.Frag) (mg : Str → Option Value) (p : AdN4) : Prop where
  mg_l_number_up_to : mg "_law_number_up_to" = some (.ref p.f_number_up_to)
  F_l_number_up_to : Fun K "_law_number_up_to" "_law_number_up_to" s_l_number_up_to p.f_number_up_to p.d_number_up_to
  b_l_number_up_to : Binds K p.d_number_up_to P_l_number_up_to []
  mg_l_sheet_name : mg "_law_sheet_name" = some (.ref p.f_sheet_name)
  F_l_sheet_name : Fun K "_law_sheet_name" "_law_sheet_name" s_l_sheet_name p.f_sheet_name p.d_sheet_name
  b_l_sheet_name : Binds K p.d_sheet_name P_l_sheet_name []
  mg_l_place : mg "_law_place" = some (.ref p.f_place)
  F_l_place : Fun K "_law_place" "_law_place" s_l_place p.f_place p.d_place
  b_l_place : Binds K p.d_place P_l_place []

abbrev rAdS : R2 := fun x y H Q => ∃ i j : Str, x = .str i ∧ y = .str j ∧ i.length + j.length ≤ sizeLine ∧ Q (.str (i ++ j)) H
def spNum : Sp := fun vs H Q _ => ∃ (q c : Addr) (cs : List Int) (i r : Int) (m : Nat), vs = [.ref q, .int m] ∧ PenAt H q c cs i r ∧ i < 2 ^ 38 ∧ 1 ≤ m ∧ m ≤ 1000000 ∧
  ∀ (n : Nat) (i' r' : Int) (H' : Hp), 1 ≤ n → n ≤ m → i ≤ i' → i' ≤ i + 2 → Sib q H H' → PenAt H' q c cs i' r' → Q (.int n) H'
def spSheetN : Sp := fun vs H Q _ => ∃ (q c : Addr) (cs : List Int) (i r : Int), vs = [.ref q] ∧ PenAt H q c cs i r ∧ i < 2 ^ 37 ∧
  ∀ (l : List Nat) (i' r' : Int) (H' : Hp), shOk (some l) → sheetOk l = true → i ≤ i' → i' ≤ i + 20 → Sib q H H' → PenAt H' q c cs i' r' → Q (.str (S l)) H'
def spPlace : Sp := fun vs H Q _ => ∃ (q c : Addr) (cs : List Int) (i r : Int), vs = [.ref q] ∧ PenAt H q c cs i r ∧ i < 2 ^ 36 ∧
  ∀ (t : Addr) (n m : Nat) (fr fc : Bool) (sh : Option (List Nat)) (i' r' : Int) (H' : Hp), H' t = some (.tup (plc n m fr fc sh)) → 1 ≤ n → n ≤ 1000000 → 1 ≤ m → m ≤ 18278 → shOk sh → shGood sh = true → i ≤ i' → i' ≤ i + 30 → Sib q H H' → PenAt H' q c cs i' r' → Q (.ref t) H'
section
variable {P : Program} {w : World} {K : PySem.W.Frag} {mg : Str → Option Value} {base : Heap} {ph : AdL} {p : AdN4}
theorem ok_l_number_up_to (TH : TxtH K mg ph) (T : TxtN4 K mg p) : FnOk P w K mg base CX0 2 p.f_number_up_to p.d_number_up_to P_l_number_up_to spNum := by
  have TA : TxtA mg := ⟨TH.n_list, TH.n_int, TH.n_len⟩
  have G_l_draw : FnOk P w K mg base CX0 1 ph.f_draw ph.d_draw P_l_draw spDraw := ok_l_draw TH.F_l_draw TA
  refine T.F_l_number_up_to.ok sc_l_number_up_to (fun vs H Q E h => ?_) (fun cdv A outer s H vs Q E hr h => ?_)
  · obtain ⟨q, c, cs, i, r, m, rfl, _⟩ := h
    rfl
  · obtain ⟨q, c, cs, i, r, m, rfl, D, hi, m1, m2, k⟩ := h
    refine ⟨_, (pss_cons (ps_set (i := 2) sc_l_number_up_to.nd rfl (Or.inl rfl) (pe_call G_l_draw (hr.mono (by decide)) (by rfl) TH.mg_l_draw TH.F_l_draw.kp TH.b_l_draw .nil pass0 (pa_cons (pv 0) (pa_cons pe_int pa_nil))))
      (pss_cons (ps_if (pt_cmpR op_lt (pv 2) pe_int (nomark _)) (pss_one (ps_ret (pe_op op_add pe_int (pe_call G_l_draw (hr.mono (by decide)) (by rfl) TH.mg_l_draw TH.F_l_draw.kp TH.b_l_draw .nil pass0 (pa_cons (pv 0) (pa_cons (pe_callB (id := "min") (call_min2 rfl) (by rfl) TH.n_min (by decide +kernel) (pa_cons pe_int (pa_cons (pv 1) pa_nil))) pa_nil)))))) pss_nil)
      (pss_one (ps_ret (pe_ifExp (pt_cmpR op_eq (pv 2) pe_int (nomark _)) (pe_op op_sub (pv 1) (pe_call G_l_draw (hr.mono (by decide)) (by rfl) TH.mg_l_draw TH.F_l_draw.kp TH.b_l_draw .nil pass0 (pa_cons (pv 0) (pa_cons (pe_callB (id := "min") (call_min2 rfl) (by rfl) TH.n_min (by decide +kernel) (pa_cons pe_int (pa_cons (pv 1) pa_nil))) pa_nil)))) (pe_op op_add pe_int (pe_call G_l_draw (hr.mono (by decide)) (by rfl) TH.mg_l_draw TH.F_l_draw.kp TH.b_l_draw .nil pass0 (pa_cons (pv 0) (pa_cons (pv 1) pa_nil))))))))), ?_⟩
    refine q_asgK ⟨_, rfl, q, c, cs, i, r, 6, rfl, D, by omega, by decide, by decide, fun z i1 r1 H1 z0 z1 j0 j1 sb D1 => ?_⟩
    have fin : ∀ (y i2 r2 : Int) (H2 : Hp), 1 ≤ y → y ≤ m → i1 ≤ i2 → i2 ≤ i1 + 1 → Sib q H1 H2 → PenAt H2 q c cs i2 r2 → Q (.int y) H2 := fun y i2 r2 H2 y1 y2 j2 j3 sb2 D2 => by
      have e : y = ((y.toNat : Nat) : Int) := by omega
      rw [e]
      exact k y.toNat i2 r2 H2 (by omega) (by omega) (by omega) (by omega) (sb.trans sb2) D2
    have mn : (1 : Int) ≤ (if (m : Int) < 9 then (m : Int) else 9) ∧ (if (m : Int) < 9 then (m : Int) else 9) ≤ m ∧ (if (m : Int) < 9 then (m : Int) else 9) ≤ 9 := by
      by_cases h : (m : Int) < 9
      · rw [if_pos h]; omega
      · rw [if_neg h]; omega
    refine ⟨_, rfl, _, _, rfl, rfl, _, rfl, ?_⟩
    refine ite2 (fun _ => ?_) (fun _ => ?_)
    · refine ⟨_, rfl, _, rfl, 9, m, rfl, q, c, cs, i1, r1, _, rfl, D1, by omega, by omega, by omega, fun y i2 r2 H2 y0 y1 j2 j3 sb2 D2 => ⟨_, _, rfl, rfl, ?_⟩⟩
      exact fin _ i2 r2 H2 (by omega) (by omega) j2 j3 sb2 D2
    · refine ⟨_, rfl, ?_⟩
      refine ⟨rfl, _, rfl, ?_⟩
      refine ite2 (fun _ => ?_) (fun _ => ?_)
      · refine ⟨_, rfl, _, rfl, _, rfl, 9, m, rfl, q, c, cs, i1, r1, _, rfl, D1, by omega, by omega, by omega, fun y i2 r2 H2 y0 y1 j2 j3 sb2 D2 => ⟨_, _, rfl, rfl, ?_⟩⟩
        exact fin _ i2 r2 H2 (by omega) (by omega) j2 j3 sb2 D2
      · refine ⟨_, rfl, _, rfl, q, c, cs, i1, r1, m, rfl, D1, by omega, by omega, by omega, fun y i2 r2 H2 y0 y1 j2 j3 sb2 D2 => ⟨_, _, rfl, rfl, ?_⟩⟩
        exact fin _ i2 r2 H2 (by omega) (by omega) j2 j3 sb2 D2
/-- a name that a sheet may have, as it is written -/
def nmB (x : Str) : Bool := (x.cps.toList.all fun c => decide (c < 128)) && decide (x.cps.toList.length ≤ 12) && sheetOk x.cps.toList
def nmP (_ : Hp) (v : V) : Prop := ∃ x : Str, v = .str x ∧ nmB x = true
theorem nm_st : ∀ H H' v, Ex H H' → nmP H v → nmP H' v := fun _ _ _ _ h => h
def pool1 : List Nat := [65, 66, 67, 68, 69, 70, 71, 72, 73, 74, 75, 76, 77, 78, 79, 80, 81, 82, 83, 84, 85, 86, 87, 88, 89, 90, 97, 98, 99, 120, 121, 122]
def pool2 : List Nat := [97, 65, 122, 90, 48, 57, 109, 53]
theorem ok_l_sheet_name (TH : TxtH K mg ph) (T : TxtN4 K mg p) : FnOk P w K mg base CX0 3 p.f_sheet_name p.d_sheet_name P_l_sheet_name spSheetN := by
  have TA : TxtA mg := ⟨TH.n_list, TH.n_int, TH.n_len⟩
  have G_l_signs : FnOk P w K mg base CX0 1 ph.f_signs ph.d_signs P_l_signs spSigns := ok_l_signs TH
  have G_l_draw : FnOk P w K mg base CX0 1 ph.f_draw ph.d_draw P_l_draw spDraw := ok_l_draw TH.F_l_draw TA
  have G_l_pick : FnOk P w K mg base CX0 2 ph.f_pick ph.d_pick P_l_pick (spPick K) := ok_l_pick TH.F_l_pick TA TH.F_l_draw TH.b_l_draw TH.mg_l_draw
  refine T.F_l_sheet_name.ok sc_l_sheet_name (fun vs H Q E h => ?_) (fun cdv A outer s H vs Q E hr h => ?_)
  · obtain ⟨q, c, cs, i, r, rfl, _⟩ := h
    rfl
  · obtain ⟨q, c, cs, i, r, rfl, D, hi, k⟩ := h
    refine ⟨_, (pss_cons (ps_if (pt_cmpR op_eq (pe_call G_l_draw (hr.mono (by decide)) (by rfl) TH.mg_l_draw TH.F_l_draw.kp TH.b_l_draw .nil pass0 (pa_cons (pv 0) (pa_cons pe_int pa_nil))) pe_int (nomark _)) (pss_one (ps_ret (pe_call G_l_pick (hr.mono (by decide)) (by rfl) TH.mg_l_pick TH.F_l_pick.kp TH.b_l_pick .nil pass0 (pa_cons (pv 0) (pa_cons (pe_lst (pa_cons pe_str (pa_cons pe_str (pa_cons pe_str (pa_cons pe_str (pa_cons pe_str pa_nil)))))) pa_nil))))) pss_nil)
      (pss_cons (ps_set (i := 1) sc_l_sheet_name.nd rfl (Or.inl rfl) (pe_call G_l_pick (hr.mono (by decide)) (by rfl) TH.mg_l_pick TH.F_l_pick.kp TH.b_l_pick .nil pass0 (pa_cons (pv 0) (pa_cons (pe_callTy (T := "list") (call_listS rfl) (by rfl) TH.n_list (by decide +kernel) (pa_cons (pe_op op_add_str (pe_call0 G_l_signs (hr.mono (by decide)) (by rfl) TH.mg_l_signs TH.F_l_signs.kp TH.b_l_signs .nil pass0) pe_str) pa_nil)) pa_nil))))
      (pss_cons (ps_for PassesOwn.never rfl (pi_range1 (by rfl) TH.n_range (pa_cons (pe_call G_l_draw (hr.mono (by decide)) (by rfl) TH.mg_l_draw TH.F_l_draw.kp TH.b_l_draw .nil pass0 (pa_cons (pv 0) (pa_cons pe_int pa_nil))) pa_nil)) (pg_name (i := 2) sc_l_sheet_name.nd rfl (Or.inl rfl)) (pss_one (ps_set (i := 1) sc_l_sheet_name.nd rfl (Or.inl rfl) (pe_op op_add_str (pv 1) (pe_call G_l_pick (hr.mono (by decide)) (by rfl) TH.mg_l_pick TH.F_l_pick.kp TH.b_l_pick .nil pass0 (pa_cons (pv 0) (pa_cons (pe_callTy (T := "list") (call_listS rfl) (by rfl) TH.n_list (by decide +kernel) (pa_cons pe_str pa_nil)) pa_nil)))))))
      (pss_one (ps_ret (pv 1)))))), ?_⟩
    refine ⟨_, rfl, q, c, cs, i, r, 2, rfl, D, by omega, by decide, by decide, fun z i1 r1 H1 z0 z1 j0 j1 sb D1 => ⟨rfl, _, rfl, ?_⟩⟩
    refine ite2 (fun _ => ?_) (fun _ => ?_)
    · refine ⟨_, rfl, rd_ps (P := nmP) (n := 5) nm_st ?hv (by decide) fun l vs H2 hl e2 hL hlen hP => ?_⟩
      case hv =>
        refine eps_cons nm_st (ep_v ev_c fun _ => ⟨_, rfl, by decide +kernel⟩) ?_
        refine eps_cons nm_st (ep_v ev_c fun _ => ⟨_, rfl, by decide +kernel⟩) ?_
        refine eps_cons nm_st (ep_v ev_c fun _ => ⟨_, rfl, by decide +kernel⟩) ?_
        refine eps_cons nm_st (ep_v ev_c fun _ => ⟨_, rfl, by decide +kernel⟩) ?_
        refine eps_cons nm_st (ep_v ev_c fun _ => ⟨_, rfl, by decide +kernel⟩) ?_
        exact eps_nil
      have D2 := D1.keep e2
      refine ⟨q, c, cs, i1, r1, l, vs, rfl, D2, by omega, SqL.of hL, by omega, by omega, ne_of hL D2.hp (by intro z; cases z), fun x i2 r2 H3 hx j2 j3 sb2 D3 => ?_⟩
      obtain ⟨x, rfl, hB⟩ := hP x hx
      unfold nmB at hB
      simp only [Bool.and_eq_true, List.all_eq_true, decide_eq_true_eq] at hB
      have e : (V.str x : V) = .str (S x.cps.toList) := by
        show V.str x = V.str ⟨x.cps.toList.toArray⟩
        simp
      rw [e]
      exact k x.cps.toList i2 r2 H3 ⟨hB.1.1, by omega⟩ hB.2 (by omega) (by omega) (sb.trans (Sib.trans (fun b o _ h => e2 b o h) sb2)) D3
    · unfold tNext
      dsimp only
      refine q_asgK ?_
      have el : ∀ {σ : L2.St} {H : Hp}, EvL (tCB rLstS (tCons (tOp rAdS (tCall spSigns [] E0 tNil) (tC (.str (Str.ofString "abcxyz")))) tNil)) σ H (pool1.map sg) := fun {σ H} => el_listS (ev_is (ev_addS (l := [65, 66, 67, 68, 69, 70, 71, 72, 73, 74, 75, 76, 77, 78, 79, 80, 81, 82, 83, 84, 85, 86, 87, 88, 89, 90]) (m := [97, 98, 99, 120, 121, 122]) (ev_is ev_signs (by decide +kernel)) (ev_is ev_c (by decide +kernel)) (by decide)) (by decide +kernel)) (by decide)
      refine ⟨_, rfl, el H1 (Ex.refl H1) _ fun l H2 hl e2 hL => ?_⟩
      have D2 := D1.keep e2
      refine ⟨q, c, cs, i1, r1, l, _, rfl, D2, by omega, SqL.of hL, by decide, by decide, ne_of hL D2.hp (by intro z; cases z), fun x i2 r2 H3 hx j2 j3 sb2 D3 => ?_⟩
      obtain ⟨y, hy, rfl⟩ := List.mem_map.mp hx
      have p1 : ∀ y ∈ pool1, let1 y = true ∧ y < 128 := by decide +kernel
      have p2 : ∀ y ∈ pool2, aln1 y = true ∧ y < 128 := by decide +kernel
      have sb3 : Sib q H H3 := sb.trans (Sib.trans (fun b o _ h => e2 b o h) sb2)
      refine ⟨_, rfl, q, c, cs, i2, r2, 12, rfl, D3, by omega, by decide, by decide, fun z i3 r3 H4 z0 z1 j4 j5 sb4 D4 => ?_⟩
      refine ⟨z, rfl, by omega, by omega, for_range (n := z.toNat) (fun j σ' H' => ∃ (w : List Nat) (i' r' : Int) (t : Option V), σ' = [some (.ref q), some (.str (S w)), t] ∧ PenAt H' q c cs i' r' ∧ Sib q H H' ∧ (∀ x ∈ w, x < 128) ∧ w.length ≤ 1 + j ∧ 1 ≤ w.length ∧ w.all aln1 = true ∧ (w.head?.map let1).getD false = true ∧ i ≤ i' ∧ i' ≤ i + 3 + j) ⟨[y], i3, r3, _, rfl, D4, sb3.trans sb4, (fun x hx => by rw [List.mem_singleton.mp hx]; exact (p1 y hy).2), Nat.le_refl _, Nat.le_refl _, by simp [aln1, (p1 y hy).1], by simp [(p1 y hy).1], by omega, by omega⟩ ?_ ?_⟩
      · rintro j σ' H5 hj ⟨w, i4, r4, t, rfl, D5, sb5, ha, w1, w2, w3, w4, j6, j7⟩
        have el2 : ∀ {σ : L2.St} {H : Hp}, EvL (tCB rLstS (tCons (tC (.str (Str.ofString "aAzZ09m5"))) tNil)) σ H (pool2.map sg) := fun {σ H} => el_listS (l := pool2) (ev_is ev_c (by decide +kernel)) (by decide)
        refine ⟨_, rfl, _, rfl, el2 H5 (Ex.refl H5) _ fun l H6 hl e6 hL6 => ?_⟩
        have D6 := D5.keep e6
        refine ⟨q, c, cs, i4, r4, l, _, rfl, D6, by omega, SqL.of hL6, by decide, by decide, ne_of hL6 D6.hp (by intro z; cases z), fun x i5 r5 H7 hx7 j8 j9 sb7 D7 => ?_⟩
        obtain ⟨u, hu, rfl⟩ := List.mem_map.mp hx7
        have hz : w.length ≤ 13 := by omega
        refine ⟨S w, S [u], rfl, rfl, ?_, ?_⟩
        · rw [len_S, len_S]
          exact sz_of (by show w.length + 1 ≤ 100000; omega)
        · rw [app_S]
          refine ⟨w ++ [u], i5, r5, _, rfl, D7, sb5.trans (Sib.trans (fun b o _ h => e6 b o h) sb7), fun x hx => ?_, by rw [List.length_append]; show w.length + 1 ≤ 1 + (j + 1); omega, by rw [List.length_append]; omega, ?_, ?_, by omega, by omega⟩
          · rcases List.mem_append.mp hx with h | h
            · exact ha x h
            · rw [List.mem_singleton.mp h]
              exact (p2 u hu).2
          · rw [List.all_append, w3]
            simp [(p2 u hu).1]
          · cases w with
            | nil => exact absurd w2 (by decide)
            | cons a w => exact w4
      · rintro σ' H5 ⟨w, i4, r4, t, rfl, D5, sb5, ha, w1, w2, w3, w4, j6, j7⟩
        refine ⟨_, rfl, k w i4 r4 H5 ⟨ha, by omega⟩ ?_ (by omega) (by omega) sb5 D5⟩
        unfold sheetOk
        rw [decide_eq_true w2, decide_eq_true (show w.length ≤ 12 by omega), w3, w4]
        rfl
theorem ok_l_place (TH : TxtH K mg ph) (T : TxtN4 K mg p) : FnOk P w K mg base CX0 4 p.f_place p.d_place P_l_place spPlace := by
  have TA : TxtA mg := ⟨TH.n_list, TH.n_int, TH.n_len⟩
  have G_l_draw : FnOk P w K mg base CX0 1 ph.f_draw ph.d_draw P_l_draw spDraw := ok_l_draw TH.F_l_draw TA
  have G_l_number_up_to : FnOk P w K mg base CX0 2 p.f_number_up_to p.d_number_up_to P_l_number_up_to spNum := ok_l_number_up_to TH T
  have G_l_sheet_name : FnOk P w K mg base CX0 3 p.f_sheet_name p.d_sheet_name P_l_sheet_name spSheetN := ok_l_sheet_name TH T
  refine T.F_l_place.ok sc_l_place (fun vs H Q E h => ?_) (fun cdv A outer s H vs Q E hr h => ?_)
  · obtain ⟨q, c, cs, i, r, rfl, _⟩ := h
    rfl
  · obtain ⟨q, c, cs, i, r, rfl, D, hi, k⟩ := h
    refine ⟨_, (pss_cons (ps_par (i := 1) (j := 2) (by rfl) sc_l_place.nd rfl rfl (by decide) rfl rfl (pa_cons (pe_call G_l_number_up_to (hr.mono (by decide)) (by rfl) T.mg_l_number_up_to T.F_l_number_up_to.kp T.b_l_number_up_to .nil pass0 (pa_cons (pv 0) (pa_cons pe_int pa_nil))) (pa_cons (pe_call G_l_number_up_to (hr.mono (by decide)) (by rfl) T.mg_l_number_up_to T.F_l_number_up_to.kp T.b_l_number_up_to .nil pass0 (pa_cons (pv 0) (pa_cons pe_int pa_nil))) pa_nil)) (by rfl))
      (pss_cons (ps_set (i := 3) sc_l_place.nd rfl (Or.inl rfl) (pe_ifExp (pt_cmpR op_eq (pe_call G_l_draw (hr.mono (by decide)) (by rfl) TH.mg_l_draw TH.F_l_draw.kp TH.b_l_draw .nil pass0 (pa_cons (pv 0) (pa_cons pe_int pa_nil))) pe_int (nomark _)) (pe_call G_l_sheet_name (hr.mono (by decide)) (by rfl) T.mg_l_sheet_name T.F_l_sheet_name.kp T.b_l_sheet_name .nil pass0 (pa_cons (pv 0) pa_nil)) pe_non))
      (pss_one (ps_ret (pe_tup (pa_cons (pv 1) (pa_cons (pv 2) (pa_cons (pe_cmpR op_eq (pe_call G_l_draw (hr.mono (by decide)) (by rfl) TH.mg_l_draw TH.F_l_draw.kp TH.b_l_draw .nil pass0 (pa_cons (pv 0) (pa_cons pe_int pa_nil))) pe_int (nomark _)) (pa_cons (pe_cmpR op_eq (pe_call G_l_draw (hr.mono (by decide)) (by rfl) TH.mg_l_draw TH.F_l_draw.kp TH.b_l_draw .nil pass0 (pa_cons (pv 0) (pa_cons pe_int pa_nil))) pe_int (nomark _)) (pa_cons (pv 3) pa_nil)))))))))), ?_⟩
    refine ⟨_, rfl, q, c, cs, i, r, 1000000, rfl, D, by omega, by decide, by decide, fun n i1 r1 H1 n1 n2 j0 j1 sb1 D1 => ?_⟩
    refine ⟨_, rfl, q, c, cs, i1, r1, 18278, rfl, D1, by omega, by decide, by decide, fun m i2 r2 H2 m1 m2 j2 j3 sb2 D2 => ⟨_, _, rfl, ?_⟩⟩
    dsimp only
    refine q_asgK ?_
    have fin : ∀ (sh : Option (List Nat)) (i3 r3 : Int) (H3 : Hp), shOk sh → shGood sh = true → i2 ≤ i3 → i3 ≤ i2 + 21 → Sib q H2 H3 → PenAt H3 q c cs i3 r3 → tRet (tTup (tCons (tVar 1) (tCons (tVar 2) (tCons (tOp rEq (tCall spDraw [] E0 (tCons (tVar 0) (tCons (tC (.int 2)) tNil))) (tC (.int 0))) (tCons (tOp rEq (tCall spDraw [] E0 (tCons (tVar 0) (tCons (tC (.int 2)) tNil))) (tC (.int 0))) (tCons (tVar 3) tNil)))))) { nx := fun x H' => Q V.non H', rt := Q } [some (.ref q), some (.int (n : Int)), some (.int (m : Int)), some (shV sh)] H3 := fun sh i3 r3 H3 s1 s2 j4 j5 sb3 D3 => by
      refine ⟨_, rfl, _, rfl, ?_⟩
      refine ⟨_, rfl, q, c, cs, i3, r3, 2, rfl, D3, by omega, by decide, by decide, fun z i4 r4 H4 z0 z1 j6 j7 sb4 D4 => ⟨rfl, ?_⟩⟩
      refine ⟨_, rfl, q, c, cs, i4, r4, 2, rfl, D4, by omega, by decide, by decide, fun y i5 r5 H5 y0 y1 j8 j9 sb5 D5 => ⟨rfl, ?_⟩⟩
      refine ⟨_, rfl, by show 5 ≤ sizeLine; decide, fun t ht => ?_⟩
      exact k t n m _ _ sh i5 r5 _ upd_same n1 n2 m1 m2 s1 s2 (by omega) (by omega) ((((sb1.trans sb2).trans sb3).trans (sb4.trans sb5)).trans (Sib.new ht)) (D5.new ht)
    refine ⟨_, rfl, q, c, cs, i2, r2, 3, rfl, D2, by omega, by decide, by decide, fun z i3 r3 H3 z0 z1 j4 j5 sb3 D3 => ⟨rfl, _, rfl, ?_⟩⟩
    refine ite2 (fun _ => ?_) (fun _ => ?_)
    · refine ⟨_, rfl, q, c, cs, i3, r3, rfl, D3, by omega, fun l i4 r4 H4 s1 s2 j6 j7 sb4 D4 => ?_⟩
      exact fin (some l) i4 r4 H4 s1 s2 (by omega) (by omega) (sb3.trans sb4) D4
    · exact fin none i3 r3 H3 True.intro rfl (by omega) (by omega) sb3 D3
end
end K16

set_option Elab.async false
set_option linter.all false
set_option maxRecDepth 100000
set_option maxHeartbeats 4000000
namespace K16
open PySem PySem.Spec PyProof.Rows L2 Pen EV2 Evl TX LamX
abbrev s_l_spoilt : Stmt := topS 44
abbrev N_l_spoilt : List Str := ["_law_pen_here", "_law_text", "_law_signs_here", "_law_at", "_law_sign", "_law_path"]
abbrev P_l_spoilt : List Str := ["_law_pen_here", "_law_text", "_law_signs_here"]
theorem sc_l_spoilt : FnScope N_l_spoilt P_l_spoilt (defScope s_l_spoilt) := ⟨rfl, rfl, rfl, by decide +kernel, rfl, by decide +kernel, by decide +kernel⟩
abbrev s_l_other : Stmt := topS 56
abbrev N_l_other : List Str := ["_law_pen_here", "_law_place_here", "_law_at", "_law_row", "_law_column_here", "_law_sheet", "_law_changed"]
abbrev P_l_other : List Str := ["_law_pen_here", "_law_place_here"]
theorem sc_l_other : FnScope N_l_other P_l_other (defScope s_l_other) := ⟨rfl, rfl, rfl, by decide +kernel, rfl, by decide +kernel, by decide +kernel⟩
abbrev s_l_parted : Stmt := topS 55
abbrev N_l_parted : List Str := ["_law_text", "_law_ahead", "_law_sign", "_law_rest"]
abbrev P_l_parted : List Str := ["_law_text"]
theorem sc_l_parted : FnScope N_l_parted P_l_parted (defScope s_l_parted) := ⟨rfl, rfl, rfl, by decide +kernel, rfl, by decide +kernel, by decide +kernel⟩
structure AdN5 where
  f_spoilt : Addr
  d_spoilt : FuncData
  f_other : Addr
  d_other : FuncData
  f_parted : Addr
  d_parted : FuncData
structure TxtN5 (K : PySem.W.Frag) (mg : Str → Option Value) (p : AdN5) : Prop where
  mg_l_spoilt : mg "_law_spoilt" = some (.ref p.f_spoilt)
  F_l_spoilt : Fun K "_law_spoilt" "_law_spoilt" s_l_spoilt p.f_spoilt p.d_spoilt
  b_l_spoilt : Binds K p.d_spoilt P_l_spoilt []
  mg_l_other : mg "_law_other" = some (.ref p.f_other)
  F_l_other : Fun K "_law_other" "_law_other" s_l_other p.f_other p.d_other
  b_l_other : Binds K p.d_other P_l_other []
  mg_l_parted : mg "_law_parted" = some (.ref p.f_parted)
  F_l_parted : Fun K "_law_parted" "_law_parted" s_l_parted p.f_parted p.d_parted
  b_l_parted : Binds K p.d_parted P_l_parted []

def spSpoilt : Sp := fun vs H Q _ => ∃ (q c : Addr) (cs : List Int) (i r : Int) (l m : List Nat), vs = [.ref q, .str (S l), .str (S m)] ∧ PenAt H q c cs i r ∧ i < 2 ^ 38 ∧ (∀ x ∈ l, x < 128) ∧ (∀ x ∈ m, x < 128) ∧ l.length ≤ 900 ∧ 0 < m.length ∧ m.length ≤ 1000 ∧
  ∀ (l' : List Nat) (i' r' : Int) (H' : Hp), (∀ x ∈ l', x < 128) → l'.length ≤ l.length + 1 → i ≤ i' → i' ≤ i + 3 → Sib q H H' → PenAt H' q c cs i' r' → Q (.str (S l')) H'
/-- == of two places as Addresses -/
def eqA (n m : Int) (fr fc : Bool) (sh : Option (List Nat)) (n2 m2 : Int) (fr2 fc2 : Bool) (sh2 : Option (List Nat)) : Bool := decide (n = n2) && decide (m = m2) && alike sh sh2 && decide (fr = fr2) && decide (fc = fc2)
def shO : Option (List Nat) → Option (List Nat)
  | none => some [79, 116, 104, 101, 114, 49]
  | some _ => none
theorem atI_n {xs : List V} {j : Nat} {v : V} (h : xs[j]? = some v) : atI xs (j : Int) = some v := by
  have hl : j < xs.length := (List.getElem?_eq_some_iff.mp h).1
  unfold atI ixN
  rw [if_pos (by omega), if_pos (by omega), Option.bind_some]
  exact h
/-- a place with one part changed -/
def chg (n m : Nat) (fr fc : Bool) (sh : Option (List Nat)) : List V := [.int ((if 1 < n then n - 1 else 2 : Nat) : Int), .int ((if m < 18278 then m + 1 else 1 : Nat) : Int), .bl (!fr), .bl (!fc), shV (shO sh)]
theorem chg_plc {n m : Nat} {fr fc : Bool} {sh : Option (List Nat)} {j : Nat} {v : V} (hj : (chg n m fr fc sh)[j]? = some v) (n1 : 1 ≤ n) (n2 : n ≤ 1000000) (m1 : 1 ≤ m) (m2 : m ≤ 18278) (so : shOk sh) (sg2 : shGood sh = true) :
    ∃ (a b : Nat) (x y : Bool) (s : Option (List Nat)), (plc n m fr fc sh).take j ++ [v] ++ (plc n m fr fc sh).drop (j + 1) = plc a b x y s ∧ 1 ≤ a ∧ a ≤ 1000000 ∧ 1 ≤ b ∧ b ≤ 18278 ∧ shOk s ∧ shGood s = true ∧ eqA a b x y s n m fr fc sh = false := by
  match j with
  | 0 =>
    cases hj
    refine ⟨if 1 < n then n - 1 else 2, m, fr, fc, sh, rfl, ?_, ?_, m1, m2, so, sg2, ?_⟩
    · by_cases h : 1 < n
      · rw [if_pos h]; omega
      · rw [if_neg h]; omega
    · by_cases h : 1 < n
      · rw [if_pos h]; omega
      · rw [if_neg h]; omega
    · unfold eqA
      have z : ¬ (((if 1 < n then n - 1 else 2 : Nat) : Int) = (n : Int)) := by
        by_cases h : 1 < n
        · rw [if_pos h]; omega
        · rw [if_neg h]; omega
      rw [decide_eq_false z]
      rfl
  | 1 =>
    cases hj
    refine ⟨n, if m < 18278 then m + 1 else 1, fr, fc, sh, rfl, n1, n2, ?_, ?_, so, sg2, ?_⟩
    · by_cases h : m < 18278
      · rw [if_pos h]; omega
      · rw [if_neg h]; omega
    · by_cases h : m < 18278
      · rw [if_pos h]; omega
      · rw [if_neg h]; omega
    · unfold eqA
      have z : ¬ (((if m < 18278 then m + 1 else 1 : Nat) : Int) = (m : Int)) := by
        by_cases h : m < 18278
        · rw [if_pos h]; omega
        · rw [if_neg h]; omega
      rw [decide_eq_false z]
      simp
  | 2 =>
    cases hj
    exact ⟨n, m, !fr, fc, sh, rfl, n1, n2, m1, m2, so, sg2, by unfold eqA; cases fr <;> simp⟩
  | 3 =>
    cases hj
    exact ⟨n, m, fr, !fc, sh, rfl, n1, n2, m1, m2, so, sg2, by unfold eqA; cases fc <;> simp⟩
  | 4 =>
    cases hj
    cases sh with
    | none => exact ⟨n, m, fr, fc, some [79, 116, 104, 101, 114, 49], rfl, n1, n2, m1, m2, ⟨by decide, by decide⟩, by decide, by unfold eqA; simp [alike]⟩
    | some l => exact ⟨n, m, fr, fc, none, rfl, n1, n2, m1, m2, True.intro, rfl, by unfold eqA; simp [alike]⟩
  | j + 5 => cases hj
def spOther : Sp := fun vs H Q _ => ∃ (q c : Addr) (cs : List Int) (i r : Int) (t : Addr) (n m : Nat) (fr fc : Bool) (sh : Option (List Nat)), vs = [.ref q, .ref t] ∧ PenAt H q c cs i r ∧ i < 2 ^ 38 ∧ H t = some (.tup (plc n m fr fc sh)) ∧ 1 ≤ n ∧ n ≤ 1000000 ∧ 1 ≤ m ∧ m ≤ 18278 ∧ shOk sh ∧ shGood sh = true ∧
  ∀ (t' : Addr) (n2 m2 : Nat) (fr2 fc2 : Bool) (sh2 : Option (List Nat)) (i' r' : Int) (H' : Hp), H' t' = some (.tup (plc n2 m2 fr2 fc2 sh2)) → 1 ≤ n2 → n2 ≤ 1000000 → 1 ≤ m2 → m2 ≤ 18278 → shOk sh2 → shGood sh2 = true → eqA n2 m2 fr2 fc2 sh2 n m fr fc sh = false → i ≤ i' → i' ≤ i + 1 → Sib q H H' → PenAt H' q c cs i' r' → Q (.ref t') H'
/-- a text at its first '!' -/
def partV (l : List Nat) : List V := match firstBang l with
  | none => [.non, .str (S l)]
  | some (a, b) => if sheetOk a = true then [.str (S a), .str (S b)] else [.non, .non]
def spParted : Sp := fun vs H Q _ => ∃ l : List Nat, vs = [.str (S l)] ∧ (∀ c ∈ l, c < 128) ∧ l.length ≤ 1000 ∧ ∀ t H', Same H H' → H' t = some (.tup (partV l)) → Q (.ref t) H'
def pParts (l : List Nat) : List Nat × List Nat × List Nat := match firstBang l with
  | none => (l, [], [])
  | some (a, b) => (a, [33], b)
theorem part_P (l : List Nat) : Txt.partition (S l) (S [33]) = (S (pParts l).1, S (pParts l).2.1, S (pParts l).2.2) := by
  rw [part_S]
  unfold pParts
  cases firstBang l with
  | none => rfl
  | some p => rfl
abbrev rPt : V → List V → Hp → VK → Prop := fun x xs H Q => ∃ a b, x = .str a ∧ xs = [.str b] ∧ (b.length == 0) = false ∧ a.length ≤ sizeLine ∧
    ∀ p, H p = none → Q (.ref p) (upd H p (.tup [.str (Txt.partition a b).1, .str (Txt.partition a b).2.1, .str (Txt.partition a b).2.2]))
theorem q_pt {K : PySem.W.Frag} {σ : L2.St} {H : Hp} {te : TE} {l : List Nat} {g : TG} {tz : TS} {D : Ends} (h : Ev te σ H (.str (S l))) (hl : l.length ≤ 100000) (k : ∀ t H1, H t = none → Ex H H1 → H1 t = some (.tup [.str (S (pParts l).1), .str (S (pParts l).2.1), .str (S (pParts l).2.2)]) → g (.ref t) σ H1 (tz D)) :
    tSeq (tAsg (tBM K "str" rPt te (tCons (tC (.str (Str.ofString "!"))) tNil)) g) tz D σ H :=
  h H (Ex.refl H) _ fun H1 e1 => ⟨rfl, S l, S [33], rfl, rfl, rfl, by rw [len_S]; exact sz_of hl, fun t ht => k t _ (fresh_back e1 ht) (e1.trans (Ex.new ht)) (by rw [upd_same, part_P])⟩
section
variable {P : Program} {w : World} {K : PySem.W.Frag} {mg : Str → Option Value} {base : Heap} {ph : AdL} {p2 : AdN2} {p : AdN5}
theorem ok_l_spoilt (TH : TxtH K mg ph) (T : TxtN5 K mg p) : FnOk P w K mg base CX0 3 p.f_spoilt p.d_spoilt P_l_spoilt spSpoilt := by
  have TA : TxtA mg := ⟨TH.n_list, TH.n_int, TH.n_len⟩
  have G_l_draw : FnOk P w K mg base CX0 1 ph.f_draw ph.d_draw P_l_draw spDraw := ok_l_draw TH.F_l_draw TA
  have G_l_pick : FnOk P w K mg base CX0 2 ph.f_pick ph.d_pick P_l_pick (spPick K) := ok_l_pick TH.F_l_pick TA TH.F_l_draw TH.b_l_draw TH.mg_l_draw
  refine T.F_l_spoilt.ok sc_l_spoilt (fun vs H Q E h => ?_) (fun cdv A outer s H vs Q E hr h => ?_)
  · obtain ⟨q, c, cs, i, r, l, m, rfl, _⟩ := h
    rfl
  · obtain ⟨q, c, cs, i, r, l, m, rfl, D, hi, la, ma, ll, m0, ml, k⟩ := h
    refine ⟨_, (pss_cons (ps_par (i := 3) (j := 4) (by rfl) sc_l_spoilt.nd rfl rfl (by decide) rfl rfl (pa_cons (pe_call G_l_draw (hr.mono (by decide)) (by rfl) TH.mg_l_draw TH.F_l_draw.kp TH.b_l_draw .nil pass0 (pa_cons (pv 0) (pa_cons (pe_op op_add (pe_callB (id := "len") call_len (by rfl) TH.n_len (by decide +kernel) (pa_cons (pv 1) pa_nil)) pe_int) pa_nil))) (pa_cons (pe_call G_l_pick (hr.mono (by decide)) (by rfl) TH.mg_l_pick TH.F_l_pick.kp TH.b_l_pick .nil pass0 (pa_cons (pv 0) (pa_cons (pe_callTy (T := "list") (call_listS rfl) (by rfl) TH.n_list (by decide +kernel) (pa_cons (pv 2) pa_nil)) pa_nil))) pa_nil)) (by rfl))
      (pss_cons (ps_set (i := 5) sc_l_spoilt.nd rfl (Or.inl rfl) (pe_call G_l_draw (hr.mono (by decide)) (by rfl) TH.mg_l_draw TH.F_l_draw.kp TH.b_l_draw .nil pass0 (pa_cons (pv 0) (pa_cons pe_int pa_nil))))
      (pss_cons (ps_if (pt_cmpR op_eq (pv 5) pe_int (nomark _)) (pss_one (ps_ret (pe_op op_add_str (pe_op op_add_str (pe_slice sl_str (pv 1) po_none (po_some (pv 3))) (pv 4)) (pe_slice sl_str (pv 1) (po_some (pv 3)) po_none)))) pss_nil)
      (pss_one (ps_ret (pe_ifExp (pt_cmpR op_eq (pv 5) pe_int (nomark _)) (pe_op op_add_str (pe_slice sl_str (pv 1) po_none (po_some (pv 3))) (pe_slice sl_str (pv 1) (po_some (pe_op op_add (pv 3) pe_int)) po_none)) (pe_op op_add_str (pe_op op_add_str (pe_slice sl_str (pv 1) po_none (po_some (pv 3))) (pv 4)) (pe_slice sl_str (pv 1) (po_some (pe_op op_add (pv 3) pe_int)) po_none)))))))), ?_⟩
    refine ⟨_, rfl, (ev_op (ev_lenS (K := K) (l := l) (ev_var rfl) (by omega)) ev_c rv_I0) H (Ex.refl H) _ fun H0 e0 => ?_⟩
    have D0 := D.keep e0
    refine ⟨q, c, cs, i, r, _, rfl, D0, by omega, by omega, by omega, fun z i1 r1 H1 z0 z1 j0 j1 sb1 D1 => ?_⟩
    refine ⟨_, rfl, (el_listS (l := m) (ev_var rfl) (by omega)) H1 (Ex.refl H1) _ fun u H2 hu e2 hU => ?_⟩
    have D2 := D1.keep e2
    refine ⟨q, c, cs, i1, r1, u, _, rfl, D2, by omega, SqL.of hU, by rw [List.length_map]; omega, by rw [List.length_map]; omega, ne_of hU D2.hp (by intro z; cases z), fun x i2 r2 H3 hx j2 j3 sb3 D3 => ⟨_, _, rfl, ?_⟩⟩
    obtain ⟨y, hy, rfl⟩ := List.mem_map.mp hx
    have ya := ma y hy
    obtain ⟨n, rfl⟩ : ∃ n : Nat, z = n := ⟨z.toNat, by omega⟩
    have hn : n ≤ l.length := by omega
    dsimp only
    refine q_asgK ⟨_, rfl, q, c, cs, i2, r2, 3, rfl, D3, by omega, by decide, by decide, fun y2 i3 r3 H4 y0 y1 j4 j5 sb4 D4 => ?_⟩
    have sbA : Sib q H H4 := Sib.trans (fun b o _ h => e0 b o h) (sb1.trans (Sib.trans (fun b o _ h => e2 b o h) (sb3.trans sb4)))
    have s0 : ∀ {a : Int} {v : V} {H : Hp}, Ev (tSl rSlS (tVar 1) tNoPart (tPart (tVar 3))) [some (.ref q), some (.str (S l)), some (.str (S m)), some (.int (n : Int)), some (sg y), some v] H (.str (S (l.take n))) := fun {a v H} => by
      have g := ev_slS (σ := [some (.ref q), some (.str (S l)), some (.str (S m)), some (.int (n : Int)), some (sg y), some v]) (H := H) (z := S l) (ev_var (i := 1) rfl) eo_none (eo_some (ev_var (i := 3) rfl)) (by rw [len_S]; omega)
      rw [sl_to l hn] at g
      exact g
    have s1 : ∀ {v : V} {H : Hp}, Ev (tSl rSlS (tVar 1) (tPart (tVar 3)) tNoPart) [some (.ref q), some (.str (S l)), some (.str (S m)), some (.int (n : Int)), some (sg y), some v] H (.str (S (l.drop n))) := fun {v H} => by
      have g := ev_slS (σ := [some (.ref q), some (.str (S l)), some (.str (S m)), some (.int (n : Int)), some (sg y), some v]) (H := H) (z := S l) (ev_var (i := 1) rfl) (eo_some (ev_var (i := 3) rfl)) eo_none (by rw [len_S]; omega)
      rw [sl_fromA l] at g
      exact g
    have s2 : ∀ {v : V} {H : Hp}, Ev (tSl rSlS (tVar 1) (tPart (tOp (rI0 fun i j => .int (i + j)) (tVar 3) (tC (.int 1)))) tNoPart) [some (.ref q), some (.str (S l)), some (.str (S m)), some (.int (n : Int)), some (sg y), some v] H (.str (S (l.drop (n + 1)))) := fun {v H} => by
      have g := ev_slS (σ := [some (.ref q), some (.str (S l)), some (.str (S m)), some (.int (n : Int)), some (sg y), some v]) (H := H) (z := S l) (ev_var (i := 1) rfl) (eo_some (i := ((n + 1 : Nat) : Int)) (ev_op (ev_var (i := 3) rfl) (ev_c (v := .int 1)) (rv_I0 (g := fun i j => .int (i + j))))) eo_none (by rw [len_S]; omega)
      rw [sl_fromA l] at g
      exact g
    have t1 : ∀ x ∈ l.take n, x < 128 := fun x hx => la x ((List.take_sublist _ _).subset hx)
    have d1 : ∀ k, ∀ x ∈ l.drop k, x < 128 := fun k x hx => la x ((List.drop_sublist _ _).subset hx)
    have L1 : (l.take n).length = n := by rw [List.length_take]; omega
    have L2 : (l.drop n).length = l.length - n := List.length_drop ..
    have L3 : (l.drop (n + 1)).length = l.length - (n + 1) := List.length_drop ..
    have fin : ∀ (l' : List Nat) (H5 : Hp), Ex H4 H5 → (∀ x ∈ l', x < 128) → l'.length ≤ l.length + 1 → Q (.str (S l')) H5 := fun l' H5 e5 a b => k l' i3 r3 H5 a b (by omega) (by omega) (sbA.trans fun b o _ h => e5 b o h) (D4.keep e5)
    have asc : ∀ (k : Nat) (b : Bool), ∀ x ∈ (l.take n ++ (if b = true then [y] else [])) ++ l.drop k, x < 128 := fun k b x hx => by
      rcases List.mem_append.mp hx with h | h
      · rcases List.mem_append.mp h with h | h
        · exact t1 x h
        · cases b with
          | true => rw [List.mem_singleton.mp h]; exact ya
          | false => cases h
      · exact d1 k x h
    refine q_when (b := decide (V.int y2 = V.int 0)) (et_test (ev_op (ev_var rfl) ev_c (rv_eq rfl))) (fun hb H5 e5 => ?_) (fun hb H5 e5 => ?_)
    · refine (ev_addS (l := l.take n ++ [y]) (m := l.drop n) (ev_addS (l := l.take n) (m := [y]) (s0 (a := 0)) (ev_var rfl) (by rw [L1]; show n + 1 ≤ 100000; omega)) s1 (by rw [List.length_append, L1, L2]; show n + 1 + _ ≤ 100000; omega)) H5 (Ex.refl H5) _ fun H6 e6 => ?_
      exact fin _ H6 (e5.trans e6) (asc n true) (by rw [List.length_append, List.length_append, L1, L2]; show n + 1 + _ ≤ _; omega)
    · refine (Evl.ev_if (v := .str (S (l.take n ++ (if y2 = 1 then [] else [y]) ++ l.drop (n + 1)))) (et_test (ev_op (ev_var rfl) ev_c (rv_eq rfl))) (fun hb => ?_) (fun hb => ?_)) H5 (Ex.refl H5) _ fun H6 e6 => ?_
      · have hb : y2 = 1 := V.int.inj (of_decide_eq_true hb)
        rw [if_pos hb, List.append_nil]
        exact ev_addS (s0 (a := 0)) s2 (by rw [L1, L3]; omega)
      · have hb : ¬ y2 = 1 := fun z => of_decide_eq_false hb (by rw [z])
        rw [if_neg hb]
        exact ev_addS (l := l.take n ++ [y]) (m := l.drop (n + 1)) (ev_addS (l := l.take n) (m := [y]) (s0 (a := 0)) (ev_var rfl) (by rw [L1]; show n + 1 ≤ 100000; omega)) s2 (by rw [List.length_append, L1, L3]; show n + 1 + _ ≤ 100000; omega)
      · refine fin _ H6 (e5.trans e6) ?_ ?_
        · by_cases hb : y2 = 1
          · rw [if_pos hb]
            exact asc (n + 1) false
          · rw [if_neg hb]
            exact asc (n + 1) true
        · rw [List.length_append, List.length_append, L1, L3]
          by_cases hb : y2 = 1
          · rw [if_pos hb]
            show n + 0 + _ ≤ _
            omega
          · rw [if_neg hb]
            show n + 1 + _ ≤ _
            omega
theorem ok_l_parted (TH : TxtH K mg ph) (T2 : TxtN2 K mg p2) (T : TxtN5 K mg p) : FnOk P w K mg base CX0 4 p.f_parted p.d_parted P_l_parted spParted := by
  have G_l_is_sheet : FnOk P w K mg base CX0 3 p2.f_is_sheet p2.d_is_sheet P_l_is_sheet (spAlpha sheetOk) := ok_l_is_sheet TH T2
  refine T.F_l_parted.ok sc_l_parted (fun vs H Q E h => ?_) (fun cdv A outer s H vs Q E hr h => ?_)
  · obtain ⟨l, rfl, _⟩ := h
    rfl
  · obtain ⟨l, rfl, ha, hl, k⟩ := h
    refine ⟨_, (pss_cons (ps_asg (pe_bm PySem.F.plainAttrs_str PySem.F.slot_str_partition PySem.F.type_str_partition mt_partition (pv 0) (pa_cons pe_str pa_nil)) (pg_tup (by rfl) (pgs_cons (pg_name (i := 1) sc_l_parted.nd rfl (Or.inl rfl)) (pgs_cons (pg_name (i := 2) sc_l_parted.nd rfl (Or.inl rfl)) (pgs_cons (pg_name (i := 3) sc_l_parted.nd rfl (Or.inl rfl)) pgs_nil)))))
      (pss_cons (ps_if (pt_cmpR op_eq (pv 2) pe_str (nomark _)) (pss_one (ps_ret (pe_tup (pa_cons pe_non (pa_cons (pv 0) pa_nil))))) pss_nil)
      (pss_one (ps_ret (pe_ifExp (pt_val (pe_call G_l_is_sheet (hr.mono (by decide)) (by rfl) T2.mg_l_is_sheet T2.F_l_is_sheet.kp T2.b_l_is_sheet .nil pass0 (pa_cons (pv 1) pa_nil))) (pe_tup (pa_cons (pv 1) (pa_cons (pv 3) pa_nil))) (pe_tup (pa_cons pe_non (pa_cons pe_non pa_nil)))))))), ?_⟩
    refine q_pt (K := K) (ev_var rfl) (by omega) fun t H1 nt e1 ht => ?_
    have hP : (∀ c ∈ (pParts l).1, c < 128) ∧ (pParts l).1.length ≤ 1000 ∧ partV l = if (pParts l).2.1 = [] then [.non, .str (S l)] else if sheetOk (pParts l).1 = true then [.str (S (pParts l).1), .str (S (pParts l).2.2)] else [.non, .non] := by
      unfold pParts partV
      cases q : firstBang l with
      | none => exact ⟨ha, hl, rfl⟩
      | some p =>
        obtain ⟨a, b⟩ := p
        obtain ⟨g1, _⟩ := fbang_some q
        have gl := congrArg List.length g1
        rw [List.length_append, List.length_cons] at gl
        exact ⟨fun c h => ha c (by rw [g1]; exact List.mem_append_left _ h), by show a.length ≤ 1000; omega, rfl⟩
    generalize (pParts l).1 = a at hP ht
    generalize (pParts l).2.1 = mk at hP ht
    generalize (pParts l).2.2 = b at hP ht
    obtain ⟨aa, al, hv⟩ := hP
    refine ⟨t, _, rfl, st_of ht, rfl, _, _, rfl, _, _, rfl, _, _, rfl, rfl, ?_⟩
    have zm : decide (V.str (S mk) = V.str (Str.ofString "")) = decide (mk = []) := decide_eq_decide.mpr ⟨fun q => S_inj (V.str.inj q), fun q => by rw [q]; rfl⟩
    refine q_when (b := decide (mk = [])) (et_is (et_test (ev_op (ev_var rfl) ev_c (rv_eq rfl))) zm) (fun hb H2 e2 => ?_) (fun hb H2 e2 => ?_)
    · rw [if_pos (of_decide_eq_true hb)] at hv
      refine (eu_tup (ea_cons ev_c (ea_cons (ev_var rfl) ea_nil)) (by show 2 ≤ 100000; decide)) H2 (Ex.refl H2) _ fun u H3 nu e3 hu => ?_
      exact k u H3 ((e1.trans e2).trans e3) (by rw [hv]; exact hu)
    · rw [if_neg (of_decide_eq_false hb)] at hv
      have eS : Ev (tCall (spAlpha sheetOk) [] E0 (tCons (tVar 1) tNil)) [some (.str (S l)), some (.str (S a)), some (.str (S mk)), some (.str (S b))] H2 (.bl (sheetOk a)) := fun H3 e Q q => ⟨_, rfl, a, rfl, aa, al, fun H' s => q H' s⟩
      refine (et_B eS) H2 (Ex.refl H2) _ fun H3 e3 => ?_
      cases hs : sheetOk a with
      | true =>
        rw [hs, if_pos rfl] at hv
        refine (eu_tup (ea_cons (ev_var rfl) (ea_cons (ev_var rfl) ea_nil)) (by show 2 ≤ 100000; decide)) H3 (Ex.refl H3) _ fun u H4 nu e4 hu => ?_
        exact k u H4 (((e1.trans e2).trans e3).trans e4) (by rw [hv]; exact hu)
      | false =>
        rw [hs, if_neg (by decide)] at hv
        refine (eu_tup (ea_cons ev_c (ea_cons ev_c ea_nil)) (by show 2 ≤ 100000; decide)) H3 (Ex.refl H3) _ fun u H4 nu e4 hu => ?_
        exact k u H4 (((e1.trans e2).trans e3).trans e4) (by rw [hv]; exact hu)
theorem ok_l_other (TH : TxtH K mg ph) (T : TxtN5 K mg p) : FnOk P w K mg base CX0 2 p.f_other p.d_other P_l_other spOther := by
  have TA : TxtA mg := ⟨TH.n_list, TH.n_int, TH.n_len⟩
  have G_l_draw : FnOk P w K mg base CX0 1 ph.f_draw ph.d_draw P_l_draw spDraw := ok_l_draw TH.F_l_draw TA
  refine T.F_l_other.ok sc_l_other (fun vs H Q E h => ?_) (fun cdv A outer s H vs Q E hr h => ?_)
  · obtain ⟨q, c, cs, i, r, t, n, m, fr, fc, sh, rfl, _⟩ := h
    rfl
  · obtain ⟨q, c, cs, i, r, t, n, m, fr, fc, sh, rfl, D, hi, ht, n1, n2, m1, m2, so, sg2, k⟩ := h
    refine ⟨_, (pss_cons (ps_set (i := 2) sc_l_other.nd rfl (Or.inl rfl) (pe_call G_l_draw (hr.mono (by decide)) (by rfl) TH.mg_l_draw TH.F_l_draw.kp TH.b_l_draw .nil pass0 (pa_cons (pv 0) (pa_cons pe_int pa_nil))))
      (pss_cons (ps_set (i := 3) sc_l_other.nd rfl (Or.inl rfl) (pe_ifExp (pt_cmpR op_gt (pe_ix ix_tup (pv 1) pe_int (fun _ _ => rfl)) pe_int (nomark _)) (pe_op op_sub (pe_ix ix_tup (pv 1) pe_int (fun _ _ => rfl)) pe_int) pe_int))
      (pss_cons (ps_set (i := 4) sc_l_other.nd rfl (Or.inl rfl) (pe_ifExp (pt_cmpR op_lt (pe_ix ix_tup (pv 1) pe_int (fun _ _ => rfl)) pe_int (nomark _)) (pe_op op_add (pe_ix ix_tup (pv 1) pe_int (fun _ _ => rfl)) pe_int) pe_int))
      (pss_cons (ps_set (i := 5) sc_l_other.nd rfl (Or.inl rfl) (pe_ifExp (pt_cmpR op_isN1 (pe_ix ix_tup (pv 1) pe_int (fun _ _ => rfl)) pe_non (nomark _)) pe_str pe_non))
      (pss_cons (ps_set (i := 6) sc_l_other.nd rfl (Or.inl rfl) (pe_lst (pa_cons (pv 3) (pa_cons (pv 4) (pa_cons (pe_not (pe_ix ix_tup (pv 1) pe_int (fun _ _ => rfl))) (pa_cons (pe_not (pe_ix ix_tup (pv 1) pe_int (fun _ _ => rfl))) (pa_cons (pv 5) pa_nil)))))))
      (pss_one (ps_ret (pe_op op_catA (pe_op op_catA (pe_slice sl_tupA (pv 1) po_none (po_some (pv 2))) (pe_tup (pa_cons (pe_ix ix_list (pv 6) (pv 2) (fun _ _ => rfl)) pa_nil))) (pe_slice sl_tupA (pv 1) (po_some (pe_op op_add (pv 2) pe_int)) po_none))))))))), ?_⟩
    refine q_asgK ⟨_, rfl, q, c, cs, i, r, 5, rfl, D, by omega, by decide, by decide, fun z i1 r1 H1 z0 z1 j0 j1 sb D1 => ?_⟩
    have ht1 := sb _ _ (ne_of ht D.hp (by intro z; cases z)) ht
    obtain ⟨j, rfl⟩ : ∃ j : Nat, z = j := ⟨z.toNat, by omega⟩
    have hj : j < 5 := by omega
    have ix : ∀ {H' : Hp} {i : Int} {v : V} {a b e f g : Option V}, Ex H1 H' → atI (plc n m fr fc sh) i = some v → Ev (tOp (rIxT K) (tVar 1) (tC (.int i))) [a, some (.ref t), b, e, f, g, none] H' v := fun e h => ev_op (ev_var rfl) ev_c (rv_ixT (st_of (e _ _ ht1)) h)
    have en : ∀ {σ : L2.St} {H : Hp} {te : TE} {v : V}, Ev te σ H v → Ev (tOp rIsN te (tC .non)) σ H (.bl (decide (v = .non))) := fun h => ev_op h ev_c fun H1 _ Q q => ⟨rfl, q H1 (Ex.refl H1)⟩
    refine q_asg (v := .int ((if 1 < n then n - 1 else 2 : Nat) : Int)) (Evl.ev_if (b := decide (1 < n)) (et_is (et_test (ev_op (ix (Ex.refl _) (i := 0) rfl) ev_c rv_I0)) (decide_eq_decide.mpr (by omega))) (fun hb => ?_) (fun hb => ?_)) fun H2 e2 => ?_
    · have hb : 1 < n := of_decide_eq_true hb
      rw [if_pos hb]
      refine ev_is (ev_op (ix (Ex.refl _) (i := 0) rfl) ev_c (rv_I0 (g := fun i j => .int (i - j)))) ?_
      congr 1
      omega
    · have hb : ¬ 1 < n := of_decide_eq_false hb
      rw [if_neg hb]
      exact ev_c
    refine q_asg (v := .int ((if m < 18278 then m + 1 else 1 : Nat) : Int)) (Evl.ev_if (b := decide (m < 18278)) (et_is (et_test (ev_op (ix e2 (i := 1) rfl) ev_c rv_I0)) (decide_eq_decide.mpr (by omega))) (fun hb => ?_) (fun hb => ?_)) fun H3 e3 => ?_
    · have hb : m < 18278 := of_decide_eq_true hb
      rw [if_pos hb]
      refine ev_is (ev_op (ix e2 (i := 1) rfl) ev_c (rv_I0 (g := fun i j => .int (i + j)))) ?_
      congr 1
    · have hb : ¬ m < 18278 := of_decide_eq_false hb
      rw [if_neg hb]
      exact ev_c
    refine q_asg (v := shV (shO sh)) ?_ fun H4 e4 => ?_
    · cases sh with
      | none => exact Evl.ev_if (b := true) (et_is (et_test (en (ix (e2.trans e3) (i := 4) rfl))) rfl) (fun _ => ev_is ev_c (by decide +kernel)) (fun z => nomatch z)
      | some l => exact Evl.ev_if (b := false) (et_is (et_test (en (ix (e2.trans e3) (i := 4) rfl))) rfl) (fun z => nomatch z) (fun _ => ev_c)
    have e24 := (e2.trans e3).trans e4
    refine q_asgK ((el_lst (vs := chg n m fr fc sh) (ea_cons (ev_var rfl) (ea_cons (ev_var rfl) (ea_cons (ev_notV (ix e24 (i := 2) rfl)) (ea_cons (ev_notV (ix e24 (i := 3) rfl)) (ea_cons (ev_var rfl) ea_nil))))) (by show 5 ≤ 100000; decide)) H4 (Ex.refl H4) _ fun l H5 nl e5 hL => ?_)
    have ht5 := (e24.trans e5) _ _ ht1
    obtain ⟨v, hv⟩ : ∃ v, (chg n m fr fc sh)[j]? = some v := ⟨_, List.getElem?_eq_getElem (by show j < 5; omega)⟩
    obtain ⟨a, b, x, y, s2, he, a1, a2, b1, b2, so2, sg3, hne⟩ := chg_plc hv n1 n2 m1 m2 so sg2
    refine q_retR (er_cat (er_cat (er_sl (er_of (ev_var rfl) ht5) eo_none (eo_some (i := (j : Int)) (ev_var rfl))) (er_new (eu_tup (ea_cons (ev_op (ev_var rfl) (ev_var rfl) (rv_ixL (sq_of hL) (atI_n hv))) ea_nil) (by show 1 ≤ 100000; decide))) (Nat.le_trans (Nat.add_le_add_right (cutV_length _ _ _) _) (by show 5 + 1 ≤ 100000; decide))) (er_sl (er_of (ev_var rfl) ht5) (eo_some (i := ((j + 1 : Nat) : Int)) (ev_op (ev_var rfl) (ev_c (v := .int 1)) (rv_I0 (g := fun i j => .int (i + j))))) eo_none) ?_) fun u H6 e6 hu => ?_
    · rw [List.length_append]
      have h1 := cutV_length (plc n m fr fc sh) none (some (j : Int))
      have h2 := cutV_length (plc n m fr fc sh) (some ((j + 1 : Nat) : Int)) none
      have h3 : (plc n m fr fc sh).length = 5 := rfl
      show _ + 1 + _ ≤ 100000
      omega
    · rw [cutV_to, cutV_from, he] at hu
      have e16 := (e24.trans e5).trans e6
      exact k u a b x y s2 i1 r1 H6 hu a1 a2 b1 b2 so2 sg3 hne j0 j1 (sb.trans fun b o _ h => e16 b o h) (D1.keep e16)
end
end K16

set_option Elab.async false
set_option linter.all false
set_option maxRecDepth 100000
set_option maxHeartbeats 4000000
namespace TX
open PySem PySem.Spec PyProof.Rows L2 Evl
theorem Mx.refl : ∀ l : List Nat, Mx l l
  | [] => .nil
  | x :: l => .cons x x (.inl rfl) (Mx.refl l)
theorem Mx.fix {l m : List Nat} (h : Mx l m) (f : ∀ x ∈ l, low x = x) : m = l := by
  induction h with
  | nil => rfl
  | cons a b q _ ih =>
    have e : b = a := by
      rcases q with q | q
      · exact q
      · rw [q, f a (List.mem_cons_self ..)]
    rw [e, ih fun d hd => f d (List.mem_cons_of_mem _ hd)]
theorem Mx.map {β : Type} {l m : List Nat} {g : Nat → β} (h : Mx l m) (f : ∀ x ∈ l, g (low x) = g x) : m.map g = l.map g := by
  induction h with
  | nil => rfl
  | cons a b q _ ih =>
    have e : g b = g a := by
      rcases q with q | q
      · rw [q]
      · rw [q, f a (List.mem_cons_self ..)]
    rw [List.map_cons, List.map_cons, e, ih fun d hd => f d (List.mem_cons_of_mem _ hd)]
theorem all_map (g : Nat → Bool) : ∀ l : List Nat, l.all g = (l.map g).all id
  | [] => rfl
  | x :: l => by rw [List.all_cons, List.map_cons, List.all_cons, all_map g l]; rfl
theorem Mx.all {l m : List Nat} {g : Nat → Bool} (h : Mx l m) (f : ∀ x ∈ l, g (low x) = g x) : m.all g = l.all g := by
  rw [all_map, all_map, h.map f]
theorem let1_low : ∀ x, x < 128 → let1 (low x) = let1 x := by decide +kernel
theorem aln1_low : ∀ x, x < 128 → aln1 (low x) = aln1 x := by decide +kernel
theorem low_low : ∀ x, x < 128 → low (low x) = low x := by decide +kernel
theorem up_lowA : ∀ x, x < 128 → up (low x) = up x := by decide +kernel
theorem head_Mx {l m : List Nat} {g : Nat → Bool} (h : Mx l m) (f : ∀ x ∈ l, g (low x) = g x) : (m.head?.map g).getD false = (l.head?.map g).getD false := by
  have z := h.map f
  have e : ∀ k : List Nat, (k.head?.map g).getD false = ((k.map g).head?).getD false := fun k => by cases k <;> rfl
  rw [e, e, z]
theorem num_head : ∀ n : Nat, 1 ≤ n → ¬ (TL.numL n).head? = some 48 := by
  intro n
  induction n using Nat.strongRecOn with
  | _ n ih =>
    intro h
    by_cases h2 : n < 10
    · rw [TL.numL_lt h2]
      intro z
      have := Option.some.inj z
      omega
    · rw [TL.numL_step (by omega)]
      intro z
      have ne := TL.numL_ne (n / 10)
      refine ih (n / 10) (by omega) (by omega) ?_
      cases q : TL.numL (n / 10) with
      | nil => exact absurd q ne
      | cons a l =>
        rw [q] at z
        exact z
theorem num_row {n : Nat} (h1 : 1 ≤ n) (h2 : n ≤ 1000000) : rowText (TL.numL n) = true := by
  have a := TL.numL_ne n
  have b : (TL.numL n).length ≤ 7 := TL.numL_len (by decide) (by omega)
  have c := num_head n h1
  have d : (TL.numL n).all dig1 = true := List.all_eq_true.mpr fun x hx => decide_eq_true (TL.numL_digits n x hx)
  have l : 1 ≤ (TL.numL n).length := by
    cases q : TL.numL n with
    | nil => exact absurd q a
    | cons x y => exact Nat.succ_le_succ (Nat.zero_le _)
  unfold rowText
  rw [decide_eq_true l, decide_eq_true b, d, decide_eq_false c, TL.numL_val, decide_eq_true h2]
  rfl
theorem lets_ok {m : Nat} (h1 : 1 ≤ m) (h2 : m ≤ 18278) : 1 ≤ (letsF 3 m).length ∧ (letsF 3 m).length ≤ 3 ∧ (∀ x ∈ letsF 3 m, 65 ≤ x ∧ x ≤ 90) ∧ val (letsF 3 m) = m := by
  refine ⟨?_, lets_len 3 m, lets_rng 3 m, val_lets 3 m (by show m < 18279; omega)⟩
  obtain ⟨k, rfl⟩ : ∃ k, m = k + 1 := ⟨m - 1, by omega⟩
  have := lets_ne (f := 2) (n := k)
  cases q : letsF 3 (k + 1) with
  | nil => exact absurd q this
  | cons a l => exact Nat.succ_le_succ (Nat.zero_le _)
end TX
namespace K16
open PySem PySem.Spec PyProof.Rows L2 Pen EV2 Evl TX LamX
def dl (b : Bool) : List Nat := if b = true then [36] else []
theorem dl_fix (b : Bool) : ∀ x ∈ dl b, low x = x := by cases b <;> decide
theorem num_fix (n : Nat) : ∀ x ∈ TL.numL n, low x = x := fun x hx => by
  have := TL.numL_digits n x hx
  unfold low
  rw [if_neg (by omega)]
theorem tw_app {p : Nat → Bool} : ∀ {u v : List Nat}, u.all p = true → (v.head?.map p).getD false = false → (u ++ v).takeWhile p = u ∧ (u ++ v).dropWhile p = v
  | [], v, _, h => by
    cases v with
    | nil => exact ⟨rfl, rfl⟩
    | cons x v =>
      have hx : p x = false := h
      show (x :: v).takeWhile p = [] ∧ (x :: v).dropWhile p = x :: v
      rw [List.takeWhile_cons, List.dropWhile_cons, hx]
      exact ⟨rfl, rfl⟩
  | x :: u, v, hu, h => by
    rw [List.all_cons, Bool.and_eq_true] at hu
    obtain ⟨h1, h2⟩ := tw_app hu.2 h
    show (x :: (u ++ v)).takeWhile p = x :: u ∧ (x :: (u ++ v)).dropWhile p = v
    rw [List.takeWhile_cons, List.dropWhile_cons, hu.1]
    exact ⟨by rw [if_pos rfl, h1], by rw [if_pos rfl]; exact h2⟩
/-- the letters of a column, some small -/
theorem parse_cell {n m : Nat} {fr fc : Bool} {u : List Nat} {sh : Option (List Nat)} (n1 : 1 ≤ n) (n2 : n ≤ 1000000) (m1 : 1 ≤ m) (m2 : m ≤ 18278) (hu : Mx (letsF 3 m) u) :
    parseC (dl fc ++ (u ++ (dl fr ++ TL.numL n))) sh = some ((n : Int), (m : Int), fr, fc, sh) := by
  obtain ⟨l1, l2, l3, l4⟩ := lets_ok m1 m2
  have asc : ∀ x ∈ letsF 3 m, x < 128 := fun x hx => by have := l3 x hx; omega
  have ul := hu.len
  have uall : u.all let1 = true := by
    rw [hu.all fun x hx => let1_low x (asc x hx)]
    exact List.all_eq_true.mpr fun x hx => by
      have := l3 x hx
      unfold let1 up
      rw [if_neg (by omega)]
      exact decide_eq_true this
  have uval : val (u.map up) = m := by
    rw [hu.map fun x hx => up_lowA x (asc x hx), show (letsF 3 m).map up = letsF 3 m from by
      have : ∀ k : List Nat, (∀ x ∈ k, 65 ≤ x ∧ x ≤ 90) → k.map up = k := fun k => by
        induction k with
        | nil => intro _; rfl
        | cons a k ih =>
          intro h
          rw [List.map_cons, (up_cap (h a (List.mem_cons_self ..))).1, ih fun x hx => h x (List.mem_cons_of_mem _ hx)]
      exact this _ l3]
    exact l4
  obtain ⟨a, u', rfl⟩ : ∃ a u', u = a :: u' := by
    cases u with
    | nil => rw [← ul] at l1; cases l1
    | cons a u' => exact ⟨a, u', rfl⟩
  have a36 : a ≠ 36 := fun z => by
    rw [List.all_cons, z, Bool.and_eq_true] at uall
    exact absurd uall.1 (by decide)
  obtain ⟨d, v', hd⟩ : ∃ d v', TL.numL n = d :: v' := by
    cases q : TL.numL n with
    | nil => exact absurd q (TL.numL_ne n)
    | cons d v' => exact ⟨d, v', rfl⟩
  have hdd := TL.numL_digits n d (by rw [hd]; exact List.mem_cons_self ..)
  have d36 : d ≠ 36 := by omega
  have hv : ((dl fr ++ TL.numL n).head?.map let1).getD false = false := by
    rw [hd]
    cases fr with
    | true => rfl
    | false =>
      show let1 d = false
      unfold let1 up
      rw [if_neg (by omega)]
      exact decide_eq_false (by omega)
  obtain ⟨t1, t2⟩ := tw_app uall hv
  have c0 : (if (dl fc ++ ((a :: u') ++ (dl fr ++ TL.numL n))).head? = some 36 then (dl fc ++ ((a :: u') ++ (dl fr ++ TL.numL n))).tail else (dl fc ++ ((a :: u') ++ (dl fr ++ TL.numL n)))) = (a :: u') ++ (dl fr ++ TL.numL n) := by
    cases fc with
    | true => rfl
    | false => exact if_neg fun z => a36 (Option.some.inj z)
  have f0 : decide ((dl fc ++ ((a :: u') ++ (dl fr ++ TL.numL n))).head? = some 36) = fc := by
    cases fc with
    | true => rfl
    | false => exact decide_eq_false fun z => a36 (Option.some.inj z)
  have r0 : (if (dl fr ++ TL.numL n).head? = some 36 then (dl fr ++ TL.numL n).tail else (dl fr ++ TL.numL n)) = TL.numL n := by
    rw [hd]
    cases fr with
    | true => rfl
    | false => exact if_neg fun z => d36 (Option.some.inj z)
  have f1 : decide ((dl fr ++ TL.numL n).head? = some 36) = fr := by
    rw [hd]
    cases fr with
    | true => rfl
    | false => exact decide_eq_false fun z => d36 (Option.some.inj z)
  have hp : cellParts (dl fc ++ ((a :: u') ++ (dl fr ++ TL.numL n))) = (a :: u', fc, TL.numL n, fr) := by
    unfold cellParts
    dsimp only
    rw [c0, t1, t2, f0, r0, f1]
  unfold parseC
  rw [hp]
  dsimp only
  have ct : colText (a :: u') = true := by
    unfold colText
    rw [ul, decide_eq_true l1, decide_eq_true l2, uall]
    rfl
  rw [if_pos ⟨ct, num_row n1 n2⟩, uval]
  have z : numVal (TL.numL n) = (n : Int) := by
    unfold numVal
    rw [TL.numL_val]
  rw [z]
theorem cell_no33 {n m : Nat} {fr fc : Bool} {u : List Nat} (m1 : 1 ≤ m) (m2 : m ≤ 18278) (hu : Mx (letsF 3 m) u) : 33 ∉ dl fc ++ (u ++ (dl fr ++ TL.numL n)) := fun h => by
  obtain ⟨l1, l2, l3, l4⟩ := lets_ok m1 m2
  have asc : ∀ x ∈ letsF 3 m, x < 128 := fun x hx => by have := l3 x hx; omega
  have uall : u.all let1 = true := by
    rw [hu.all fun x hx => let1_low x (asc x hx)]
    exact List.all_eq_true.mpr fun x hx => by
      have := l3 x hx
      unfold let1 up
      rw [if_neg (by omega)]
      exact decide_eq_true this
  have nd : ∀ b : Bool, 33 ∉ dl b := by decide
  rcases List.mem_append.mp h with h | h
  · exact nd _ h
  · rcases List.mem_append.mp h with h | h
    · exact absurd (List.all_eq_true.mp uall 33 h) (by decide)
    · rcases List.mem_append.mp h with h | h
      · exact nd _ h
      · have := TL.numL_digits n 33 h
        omega
theorem lastBang_no {l : List Nat} (h : 33 ∉ l) : lastBang l = none := by
  cases q : lastBang l with
  | none => rfl
  | some p =>
    obtain ⟨a, b⟩ := p
    exact absurd (by rw [(bang_some q).1]; simp) h
/-- an address's text, some letters small, is read back -/
theorem parse_adr {n m : Nat} {fr fc : Bool} {sh : Option (List Nat)} {t : List Nat} (n1 : 1 ≤ n) (n2 : n ≤ 1000000) (m1 : 1 ≤ m) (m2 : m ≤ 18278) (so : shOk sh) (sg2 : shGood sh = true) (h : Mx (adrText n m fr fc sh) t) :
    parseA t = some ((n : Int), (m : Int), fr, fc, sh.map fun l => t.take l.length) ∧ shOk (sh.map fun l => t.take l.length) ∧ shGood (sh.map fun l => t.take l.length) = true ∧ alike sh (sh.map fun l => t.take l.length) = true := by
  have e : adrText n m fr fc sh = shT sh ++ (dl fc ++ (letsF 3 m ++ (dl fr ++ TL.numL n))) := by
    rw [← adr_text]
    unfold colT rowT dl
    rw [List.append_assoc]
  rw [e] at h
  obtain ⟨s, t1, rfl, hs, h⟩ := h.split
  obtain ⟨d, t2, rfl, hd, h⟩ := h.split
  obtain ⟨u, t3, rfl, hu, h⟩ := h.split
  obtain ⟨r, k, rfl, hr, hk⟩ := h.split
  obtain rfl := hd.fix (dl_fix fc)
  obtain rfl := hr.fix (dl_fix fr)
  obtain rfl := hk.fix (num_fix n)
  have no := cell_no33 (n := n) (fr := fr) (fc := fc) m1 m2 hu
  have pc := fun sh => parse_cell (fr := fr) (fc := fc) (sh := sh) n1 n2 m1 m2 hu
  cases sh with
  | none =>
    cases hs
    unfold parseA
    rw [List.nil_append, lastBang_no no]
    exact ⟨pc none, True.intro, rfl, rfl⟩
  | some l =>
    obtain ⟨l', x, rfl, hl, hx⟩ := Mx.split (a := l) (b := [33]) hs
    obtain rfl := hx.fix (by decide)
    have ll := hl.len
    have asc := so.1
    have tk : ((l' ++ [33]) ++ (dl fc ++ (u ++ (dl fr ++ TL.numL n)))).take l.length = l' := by
      rw [List.append_assoc, ← ll, List.take_left]
    have ok : sheetOk l' = true := by
      have g : sheetOk l = true := sg2
      unfold sheetOk at g ⊢
      rw [ll, hl.all fun x hx => aln1_low x (asc x hx), head_Mx hl fun x hx => let1_low x (asc x hx)]
      exact g
    have z : (some l).map (fun l => ((l' ++ [33]) ++ (dl fc ++ (u ++ (dl fr ++ TL.numL n)))).take l.length) = some l' := by
      exact congrArg some tk
    rw [z]
    refine ⟨?_, ⟨hl.asc asc, by rw [ll]; exact so.2⟩, ok, ?_⟩
    · unfold parseA
      rw [bang_eq (a := l') (b := dl fc ++ (u ++ (dl fr ++ TL.numL n))) (by rw [List.append_assoc]; rfl) no]
      show (if sheetOk l' = true then _ else _) = _
      rw [if_pos ok]
      exact pc (some l')
    · show decide (l.map low = l'.map low) = true
      rw [hl.map fun x hx => low_low x (asc x hx)]
      exact decide_eq_true rfl
end K16

set_option Elab.async false
set_option linter.all false
set_option maxRecDepth 100000
set_option maxHeartbeats 4000000
namespace K16
open PySem PySem.Spec PyProof.Rows L2 Pen EV2 Evl TX LamX
abbrev s_l_made : Stmt := topS 46
abbrev N_l_made : List Str := ["_law_place_here"]
abbrev P_l_made : List Str := ["_law_place_here"]
theorem sc_l_made : FnScope N_l_made P_l_made (defScope s_l_made) := ⟨rfl, rfl, rfl, by decide +kernel, rfl, by decide +kernel, by decide +kernel⟩
abbrev s_l_is : Stmt := topS 51
abbrev N_l_is : List Str := ["_law_address", "_law_place_here", "_law_fields"]
abbrev P_l_is : List Str := ["_law_address", "_law_place_here"]
theorem sc_l_is : FnScope N_l_is P_l_is (defScope s_l_is) := ⟨rfl, rfl, rfl, by decide +kernel, rfl, by decide +kernel, by decide +kernel⟩
structure AdN6 where
  f_made : Addr
  d_made : FuncData
  f_is : Addr
  d_is : FuncData
structure TxtN6 (K : PySem.W.Frag) (mg : Str → Option Value) (p : AdN6) : Prop where
  mg_l_made : mg "_law_made" = some (.ref p.f_made)
  F_l_made : Fun K "_law_made" "_law_made" s_l_made p.f_made p.d_made
  b_l_made : Binds K p.d_made P_l_made []
  mg_l_is : mg "_law_is" = some (.ref p.f_is)
  F_l_is : Fun K "_law_is" "_law_is" s_l_is p.f_is p.d_is
  b_l_is : Binds K p.d_is P_l_is []

/-- Address of five values of a tuple or a list -/
def spMade (K : PySem.W.Frag) (p : AdC) (CB : Addr) : Sp := fun vs H Q E => ∃ (t : Addr) (v0 v1 v2 v3 v4 : V) (n0 n1 n2 n3 : String) (g0 g1 g2 g3 g4 : Bool), vs = [.ref t] ∧ (H t = some (.tup [v0, v1, v2, v3, v4]) ∨ H t = some (.lst [v0, v1, v2, v3, v4])) ∧ InitOk K p CB H t v0 v1 v2 v3 v4 n0 n1 n2 n3 g0 g1 g2 g3 g4 ∧
  (g0 = false → bad CB "value" H v0 E) ∧ (g0 = true → g1 = false → bad CB "value" H v1 E) ∧ (g0 = true → g1 = true → g2 = false → bad CB "value" H v2 E) ∧ (g0 = true → g1 = true → g2 = true → g3 = false → bad CB "value" H v3 E) ∧
  (g0 = true → g1 = true → g2 = true → g3 = true → g4 = false → bad CB "value" H v4 E) ∧
  (∀ r c fr fc sh, v0 = .int r → v1 = .int c → v2 = .bl fr → v3 = .bl fc → v4 = shV sh → g4 = true → (gridOk r c = false → badG p.CO H r c E) ∧ (gridOk r c = true → ∀ x dx H', H x = none → Same H H' → H' x = some (.ins p.C dx (flds r c fr fc sh)) → Q (.ref x) H'))
def shD : Option (List Nat) → PyData
  | none => .none
  | some l => .str (S l)
def plcD (r c : Int) (fr fc : Bool) (sh : Option (List Nat)) : List PyData := [.int r, .int c, .bool fr, .bool fc, shD sh]
theorem plc_dp {K : PySem.W.Frag} {H : Hp} {r c : Int} {fr fc : Bool} {sh : Option (List Nat)} : DpAll K H (plc r c fr fc sh) (plcD r c fr fc sh) := by
  refine .cons (.int r) (.cons (.int c) (.cons (.bl fr) (.cons (.bl fc) (.cons ?_ .nil))))
  cases sh with
  | none => exact .non
  | some l => exact .str _
theorem plc_shaped {r c : Int} {fr fc : Bool} {sh : Option (List Nat)} (so : shOk sh) : SeqAt.shaped (.tuple (plcD r c fr fc sh)) = true := by
  unfold SeqAt.shaped plcD
  cases sh with
  | none => rfl
  | some l =>
    refine Bool.and_eq_true_iff.mpr ⟨?_, decide_eq_true ?_⟩
    · show (true && (true && (true && (true && (PyData.strOk (S l) && true))))) = true
      rw [strOk_S so.1]
      rfl
    · show max 0 (max 0 (max 0 (max 0 (max 0 0)))) + 1 ≤ 64
      decide
theorem plc_eqv {r c : Int} {fr fc : Bool} {sh : Option (List Nat)} : PyData.eqv (.tuple (plcD r c fr fc sh)) (.tuple (plcD r c fr fc sh)) = true := by
  have e : PyData.eqv (shD sh) (shD sh) = true := by
    cases sh with
    | none => rfl
    | some l => show (S l == S l) = true; simp
  have e1 : PyData.eqv (.bool fr) (.bool fr) = true := by cases fr <;> rfl
  have e2 : PyData.eqv (.bool fc) (.bool fc) = true := by cases fc <;> rfl
  show ((r == r) && ((c == c) && (PyData.eqv (.bool fr) (.bool fr) && (PyData.eqv (.bool fc) (.bool fc) && (PyData.eqv (shD sh) (shD sh) && true))))) = true
  rw [e, e1, e2]
  simp
theorem InitOk.to {K : PySem.W.Frag} {p : AdC} {CB : Addr} {H : Hp} {x y : Addr} {v0 v1 v2 v3 v4 : V} {n0 n1 n2 n3 : String} {g0 g1 g2 g3 g4 : Bool} (h : InitOk K p CB H x v0 v1 v2 v3 v4 n0 n1 n2 n3 g0 g1 g2 g3 g4) : InitOk K p CB H y v0 v1 v2 v3 v4 n0 n1 n2 n3 g0 g1 g2 g3 g4 :=
  ⟨h.k0, h.k1, h.k2, h.k3, h.h0, h.h1, h.h2, h.h3, h.i0, h.i1, h.i2, h.i3, h.h4⟩
theorem badG.at {CO : Addr} {H H' : Hp} {r c : Int} {E : XK} (b : badG CO H r c E) (e : Ex H H') : badG CO H' r c E := fun d H2 s n x => b d H2 (e.trans s) (fresh_back e n) x
/-- is the same five parts -/
def spIs (C : Addr) : Sp := fun vs H Q _ => ∃ (a dx t : Addr) (r c : Int) (fr fc : Bool) (sh : Option (List Nat)), vs = [.ref a, .ref t] ∧ H a = some (.ins C dx (flds r c fr fc sh)) ∧ H t = some (.tup (plc r c fr fc sh)) ∧ shOk sh ∧ ∀ H', Same H H' → Q (.bl true) H'
section
variable {P : Program} {w : World} {K : PySem.W.Frag} {mg : Str → Option Value} {base : Heap} {pc : Ads} {pg : AdG} {pa : AdC} {D : Addr} {p : AdN6}
theorem ok_l_made (TC : TxtC K mg pc) (TG : TxtG K mg pg) (TA : TxtA6 K mg pc.S pa) (Z : TxtB K mg pa D) (T : TxtN6 K mg p) : FnOk P w K mg base (L2.CX P w) 6 p.f_made p.d_made P_l_made (spMade K pa pc.CB) := by
  refine T.F_l_made.okX sc_l_made (fun vs H Q E h => ?_) (fun cdv A outer s H vs Q E hr h => ?_)
  · obtain ⟨t, v0, v1, v2, v3, v4, n0, n1, n2, n3, g0, g1, g2, g3, g4, rfl, _⟩ := h
    rfl
  · obtain ⟨t, v0, v1, v2, v3, v4, n0, n1, n2, n3, g0, g1, g2, g3, g4, rfl, ht, I, b0, b1, b2, b3, b4, k⟩ := h
    have main : ∀ {r : R2}, (∀ {H' : Hp} {i : Int} {v : V}, Ex H H' → atI [v0, v1, v2, v3, v4] i = some v → Ev (tOp r (tVar 0) (tC (.int i))) [some (.ref t)] H' v) → tRet (tMakeK pa.C 2 3 (spInit K pa pc.CB) (fun vs zs => vs ++ zs) E (tCons (tOp r (tVar 0) (tC (.int 0))) (tCons (tOp r (tVar 0) (tC (.int 1))) tNil)) (tCons (tOp r (tVar 0) (tC (.int 2))) (tCons (tOp r (tVar 0) (tC (.int 3))) (tCons (tOp r (tVar 0) (tC (.int 4))) tNil)))) { nx := fun x H' => Q V.non H', rt := Q } [some (.ref t)] H := fun ix => by
      refine s_makeK (vs := [v0, v1]) (zs := [v2, v3, v4]) (ea_cons (ix (Ex.refl H) rfl) (ea_cons (ix (Ex.refl H) rfl) ea_nil)) (ea_cons (ix (Ex.refl H) rfl) (ea_cons (ix (Ex.refl H) rfl) (ea_cons (ix (Ex.refl H) rfl) ea_nil))) rfl rfl fun H3 e3 x dx nx ndx ne => ?_
      have nx2 : (upd H3 dx (.own x)) x = none := by rw [upd_ne fun z => ne z.symm]; exact nx
      have e4 : Ex H (upd (upd H3 dx (.own x)) x (.ins pa.C dx [])) := e3.trans ((Ex.new ndx).trans (Ex.new nx2))
      refine ⟨x, dx, v0, v1, v2, v3, v4, n0, n1, n2, n3, g0, g1, g2, g3, g4, rfl, upd_same, (I.ext e4).to, fun a => (b0 a).at e4, fun a b => (b1 a b).at e4, fun a b c => (b2 a b c).at e4, fun a b c d => (b3 a b c d).at e4, fun a b c d e => (b4 a b c d e).at e4, fun r c fr fc sh h0 h1 h2 h3 h4 h5 => ?_⟩
      obtain ⟨kb, kg⟩ := k r c fr fc sh h0 h1 h2 h3 h4 h5
      refine ⟨fun z => (kb z).at e4, fun z H5 e5 => ⟨rfl, kg z x dx _ (fresh_back e3 nx) (fun b o hb => ?_) upd_same⟩⟩
      have hb3 := e3 _ _ hb
      rw [upd_ne (ne_of_none hb3 nx)]
      exact e5 _ _ (e4 _ _ hb)
    rcases ht with ht | ht
    · refine ⟨_, (pss_one (ps_ret (pe_makeK (n := 2) Z.mkA (ok_Address_init TC TG TA) (hr.mono (by decide)) (by rfl) TA.mg_Address (kb_Address TA.F_init) (passes_call (takes_of rfl rfl rfl rfl) fun _ _ _ _ h => h) (pa_cons (pe_ix ix_tup (pv 0) pe_int (fun _ _ => rfl)) (pa_cons (pe_ix ix_tup (pv 0) pe_int (fun _ _ => rfl)) pa_nil)) (pk_cons (pe_ix ix_tup (pv 0) pe_int (fun _ _ => rfl)) (pk_cons (pe_ix ix_tup (pv 0) pe_int (fun _ _ => rfl)) (pk_cons (pe_ix ix_tup (pv 0) pe_int (fun _ _ => rfl)) pk_nil)))))), ?_⟩
      exact main fun e h => ev_op (ev_var rfl) ev_c (rv_ixT (st_of (e _ _ ht)) h)
    · refine ⟨_, (pss_one (ps_ret (pe_makeK (n := 2) Z.mkA (ok_Address_init TC TG TA) (hr.mono (by decide)) (by rfl) TA.mg_Address (kb_Address TA.F_init) (passes_call (takes_of rfl rfl rfl rfl) fun _ _ _ _ h => h) (pa_cons (pe_ix ix_list (pv 0) pe_int (fun _ _ => rfl)) (pa_cons (pe_ix ix_list (pv 0) pe_int (fun _ _ => rfl)) pa_nil)) (pk_cons (pe_ix ix_list (pv 0) pe_int (fun _ _ => rfl)) (pk_cons (pe_ix ix_list (pv 0) pe_int (fun _ _ => rfl)) (pk_cons (pe_ix ix_list (pv 0) pe_int (fun _ _ => rfl)) pk_nil)))))), ?_⟩
      exact main fun e h => ev_op (ev_var rfl) ev_c (rv_ixL (sq_of (e _ _ ht)) h)
theorem ok_l_is (TC : TxtC K mg pc) (TA : TxtA6 K mg pc.S pa) (Z : TxtB K mg pa D) (T : TxtN6 K mg p) : FnOk P w K mg base CX0 1 p.f_is p.d_is P_l_is (spIs pa.C) := by
  refine T.F_l_is.ok sc_l_is (fun vs H Q E h => ?_) (fun cdv A outer s H vs Q E hr h => ?_)
  · obtain ⟨a, dx, t, r, c, fr, fc, sh, rfl, _⟩ := h
    rfl
  · obtain ⟨a, dx, t, r, c, fr, fc, sh, rfl, ha, ht, so, k⟩ := h
    refine ⟨_, (pss_cons (ps_if (PW.pt (pw_or (pt_not (pt_val (pe_callB (id := "isinstance") call_isi (by rfl) TC.n_isinstance (by decide +kernel) (pa_cons (pv 0) (pa_cons (pe_glob (v := .ref pa.C) (by rfl) TA.mg_Address rfl) pa_nil))))) (pw_or (pt_val (pe_callB (id := "isinstance") call_isi (by rfl) TC.n_isinstance (by decide +kernel) (pa_cons (pe_fld (pv 0) rfl) (pa_cons (pe_bltn (v := .ty "bool") (by rfl) TC.n_bool (by decide +kernel) rfl) pa_nil)))) (pw_or1 (pt_val (pe_callB (id := "isinstance") call_isi (by rfl) TC.n_isinstance (by decide +kernel) (pa_cons (pe_fld (pv 0) rfl) (pa_cons (pe_bltn (v := .ty "bool") (by rfl) TC.n_bool (by decide +kernel) rfl) pa_nil)))))))) (pss_one (ps_ret pe_bl)) pss_nil)
      (pss_cons (ps_if (PW.pt (pw_or (pt_not (pt_val (pe_callB (id := "isinstance") call_isi (by rfl) TC.n_isinstance (by decide +kernel) (pa_cons (pe_fld (pv 0) rfl) (pa_cons (pe_bltn (v := .ty "bool") (by rfl) TC.n_bool (by decide +kernel) rfl) pa_nil))))) (pw_or1 (pt_not (pt_val (pe_callB (id := "isinstance") call_isi (by rfl) TC.n_isinstance (by decide +kernel) (pa_cons (pe_fld (pv 0) rfl) (pa_cons (pe_bltn (v := .ty "bool") (by rfl) TC.n_bool (by decide +kernel) rfl) pa_nil)))))))) (pss_one (ps_ret pe_bl)) pss_nil)
      (pss_cons (ps_set (i := 2) sc_l_is.nd rfl (Or.inl rfl) (pe_tup (pa_cons (pe_fld (pv 0) rfl) (pa_cons (pe_fld (pv 0) rfl) (pa_cons (pe_fld (pv 0) rfl) (pa_cons (pe_fld (pv 0) rfl) (pa_cons (pe_fld (pv 0) rfl) pa_nil)))))))
      (pss_one (ps_ret (pe_cmpR (op_eqD hr.units) (pv 2) (pv 1) (nomark _))))))), ?_⟩
    have me : PySem.W.kitOne K (.ref pa.C) (.ref pa.C) = some true := by
      unfold PySem.W.kitOne
      rw [if_pos (by simp)]
    have ei : Ev (tCB (rIsi K) (tCons (tVar 0) (tCons (tC (.ref pa.C)) tNil))) [some (.ref a), some (.ref t), none] H (.bl true) := fun H1 e Q q => ⟨_, rfl, .ref a, .ref pa.C, .ref pa.C, .ref pa.C, true, rfl, .own pa.C, adr_ty TA Z (e _ _ ha), me, q H1 (Ex.refl H1)⟩
    have fa : ∀ {H' : Hp} {x y : Option V} {f : Str} {v : V}, Ex H H' → NoAttr K pa.C f → (flds r c fr fc sh).lookup f = some v → Ev (tFld K (tVar 0) f) [some (.ref a), x, y] H' v := fun e n hl => ev_fld (ev_var rfl) (e _ _ ha) TA.cl n hl
    refine q_when (b := false) (et_is (et_or (et_not (et_B ei)) fun _ => et_or (et_B (ev_isi (b := false) knd_int (by decide +kernel) (fa (v := .int r) (Ex.refl H) TA.n_row rfl))) fun _ => et_B (ev_isi (b := false) knd_int (by decide +kernel) (fa (v := .int c) (Ex.refl H) TA.n_column rfl))) rfl) (fun z => nomatch z) fun _ H1 e1 => ?_
    refine q_when (b := false) (et_is (et_or (et_not (et_B (ev_isi (b := true) knd_bl (by decide +kernel) (fa (v := .bl fr) e1 TA.n_fixed_row rfl)))) fun _ => et_not (et_B (ev_isi (b := true) knd_bl (by decide +kernel) (fa (v := .bl fc) e1 TA.n_fixed_column rfl)))) rfl) (fun z => nomatch z) fun _ H2 e2 => ?_
    have e12 := e1.trans e2
    refine q_asgU (eu_tup (vs := plc r c fr fc sh) (ea_cons (fa e12 TA.n_row rfl) (ea_cons (fa e12 TA.n_column rfl) (ea_cons (fa e12 TA.n_fixed_row rfl) (ea_cons (fa e12 TA.n_fixed_column rfl) (ea_cons (fa e12 TA.n_sheet rfl) ea_nil))))) (by show 5 ≤ 100000; decide)) fun u H3 nu e3 hu => ?_
    refine ⟨_, rfl, _, rfl, _, _, .tup (st_of hu) plc_dp, .tup (st_of ((e12.trans e3) _ _ ht)) plc_dp, plc_shaped so, plc_shaped so, ?_⟩
    rw [plc_eqv]
    exact k H3 (e12.trans e3)
end
end K16

set_option Elab.async false
set_option linter.all false
set_option maxRecDepth 100000
set_option maxHeartbeats 4000000
namespace K16
open PySem PySem.Spec PyProof.Rows L2 Pen EV2 Evl TX LamX
abbrev s_l_address_right : Stmt := topS 57
abbrev N_l_address_right : List Str := ["_law_pen_here", "_law_place_here", "_law_address", "_law_text", "_law_small", "_law_sheet", "_law_back", "_law_other_here"]
abbrev P_l_address_right : List Str := ["_law_pen_here", "_law_place_here"]
theorem sc_l_address_right : FnScope N_l_address_right P_l_address_right (defScope s_l_address_right) := ⟨rfl, rfl, rfl, by decide +kernel, rfl, by decide +kernel, by decide +kernel⟩
structure AdN7 where
  f_address_right : Addr
  d_address_right : FuncData
structure TxtN7 (K : PySem.W.Frag) (mg : Str → Option Value) (p : AdN7) : Prop where
  mg_l_address_right : mg "_law_address_right" = some (.ref p.f_address_right)
  F_l_address_right : Fun K "_law_address_right" "_law_address_right" s_l_address_right p.f_address_right p.d_address_right
  b_l_address_right : Binds K p.d_address_right P_l_address_right []

structure TxtF (K : PySem.W.Frag) (mg : Str → Option Value) (fR fA : Addr) (dR dA : FuncData) : Prop where
  mg_read_address : mg "read_address" = some (.ref fR)
  F_read_address : Fun K "read_address" "read_address" s_read_address fR dR
  b_read_address : Binds K dR P_read_address []
  mg_address_text : mg "address_text" = some (.ref fA)
  F_address_text : Fun K "address_text" "address_text" s_address_text fA dA
  b_address_text : Binds K dA P_address_text []
/-- Address's methods and kinds -/
structure TxtM (K : PySem.W.Frag) (p : AdC) (NC : Addr) (mv : List Value) : Prop where
  hs : PySem.W.findIn K (.ref p.C) "__eq__" = some (some (.ref p.f_eq))
  hf : PySem.W.isFn K (.ref p.f_eq) = true
  b_eq : Binds K p.d_eq P_Address___eq__ []
  eqc : EqC K p.C NC p.f_eq
  hB : ∃ yB : Option Value, typeLookup (.type "object") ("__eq__" : Str) = pure yB
  m_bare : Meth K p.C "bare" p.f_bare
  m_pushed : Meth K p.C "pushed" p.f_pushed
  b_bare : Binds K p.d_bare P_Address_bare []
  b_pushed : Binds K p.d_pushed P_Address_pushed []
  kb0 : KBn K p.d_init P_Address_init 3 [] (fun us ws => us ++ mv) (fun vs zs => vs ++ [.bl false, .bl false, .non])
  z_str : PySem.W.kitOne K (.type "str") (.ref p.C) = some false
  z_tup : PySem.W.kitOne K (.type "tuple") (.ref p.C) = some false
  f_str : PySem.W.notFirst K p.C (.type "str") = true
  f_tup : PySem.W.notFirst K p.C (.type "tuple") = true
theorem gridOk_of {n m : Nat} (n1 : 1 ≤ n) (n2 : n ≤ 1000000) (m1 : 1 ≤ m) (m2 : m ≤ 18278) : gridOk n m = true := by
  unfold gridOk
  rw [decide_eq_true (show (1 : Int) ≤ n ∧ (n : Int) ≤ 1000000 by omega), decide_eq_true (show (1 : Int) ≤ m ∧ (m : Int) ≤ 18278 by omega)]
  rfl
theorem shV_inj {a b : Option (List Nat)} (h : shV a = shV b) : a = b := by
  cases a with
  | none => cases b with
    | none => rfl
    | some l => cases h
  | some k => cases b with
    | none => cases h
    | some l => exact congrArg some (S_inj (V.str.inj h))
section
variable {K : PySem.W.Frag} {p : AdC} {CB : Addr} {σ : L2.St} {H : Hp} {te : TE} {t : Addr} {r c : Int} {fr fc : Bool} {sh : Option (List Nat)}
theorem made_ok {Q : VK} {E : XK} (ht : H t = some (.tup (plc r c fr fc sh)) ∨ H t = some (.lst (plc r c fr fc sh))) (so : shOk sh) (sg2 : shGood sh = true) (k1 : gridOk r c = true → ∀ x dx H', H x = none → Same H H' → H' x = some (.ins p.C dx (flds r c fr fc sh)) → Q (.ref x) H') (k0 : gridOk r c = false → badG p.CO H r c E) : spMade K p CB [.ref t] H Q E :=
  ⟨t, _, _, _, _, _, "int", "int", "bool", "bool", true, true, true, true, true, rfl, ht,
    ⟨knd_int, knd_int, knd_bl, knd_bl, ⟨true, false, by decide +kernel, by decide +kernel, rfl⟩, ⟨true, false, by decide +kernel, by decide +kernel, rfl⟩, by decide +kernel, by decide +kernel, fun _ => ⟨r, rfl⟩, fun _ => ⟨c, rfl⟩, fun _ => ⟨fr, rfl⟩, fun _ => ⟨fc, rfl⟩, .inl ⟨sh, rfl, so, sg2.symm⟩⟩,
    (fun z => nomatch z), (fun _ z => nomatch z), (fun _ _ z => nomatch z), (fun _ _ _ z => nomatch z), (fun _ _ _ _ z => nomatch z), by
      intro r2 c2 fr2 fc2 sh2 h0 h1 h2 h3 h4 _
      cases h0
      cases h1
      cases h2
      cases h3
      have h5 := shV_inj h4
      subst h5
      exact ⟨k0, k1⟩⟩
theorem en_made {E : XK} (h : Ev te σ H (.ref t)) (ht : H t = some (.tup (plc r c fr fc sh))) (so : shOk sh) (sg2 : shGood sh = true) (g : gridOk r c = true) : EvNew p.C (tCall (spMade K p CB) [] E (tCons te tNil)) σ H (flds r c fr fc sh) := fun H1 e Q q =>
  h H1 e _ fun H2 e2 => made_ok (.inl ((e.trans e2) _ _ ht)) so sg2 (fun _ x dx H' nx s h2 => q x dx H' (fresh_back e2 nx) (e2.trans s) h2) fun z => absurd (g.symm.trans z) (by decide)
theorem en_read {CN : Addr} {E : XK} {l : List Nat} (h : Ev te σ H (.str (S l))) (ha : ∀ c ∈ l, c < 128) (hl : l.length ≤ 1000) (hp : parseA l = some (r, c, fr, fc, sh)) : EvNew p.C (tCall (spReadA K p.C CB CN) [] E (tCons te tNil)) σ H (flds r c fr fc sh) := fun H1 e Q q =>
  h H1 e _ fun H2 e2 => ⟨_, rfl, .inl ⟨l, rfl, ha, hl, fun r2 c2 fr2 fc2 sh2 h2 x dx H' nx s hx => by
    rw [hp] at h2
    cases h2
    exact q x dx H' (fresh_back e2 nx) (e2.trans s) hx, fun z => by rw [hp] at z; cases z⟩⟩
end
theorem tr0 {α : Type} (a : α) : a = a := rfl
def spAR : Sp := fun vs H Q _ => ∃ (q c : Addr) (cs : List Int) (i r : Int) (t : Addr) (n m : Nat) (fr fc : Bool) (sh : Option (List Nat)), vs = [.ref q, .ref t] ∧ PenAt H q c cs i r ∧ i < 2 ^ 36 ∧ H t = some (.tup (plc n m fr fc sh)) ∧ 1 ≤ n ∧ n ≤ 1000000 ∧ 1 ≤ m ∧ m ≤ 18278 ∧ shOk sh ∧ shGood sh = true ∧
  ∀ (i' r' : Int) (H' : Hp), i ≤ i' → i' ≤ i + 2000 → Sib q H H' → PenAt H' q c cs i' r' → Q (.bl true) H'
section
variable {P : Program} {w : World} {K : PySem.W.Frag} {mg : Str → Option Value} {base : Heap} {ph : AdL} {pc : Ads} {pg : AdG} {pa : AdC} {D NC : Addr} {mv : List Value} {px : AdN} {p5 : AdN5} {p6 : AdN6} {p : AdN7} {fR fA : Addr} {dR dA : FuncData}
theorem ok_l_address_right (TH : TxtH K mg ph) (TC : TxtC K mg pc) (TG : TxtG K mg pg) (TA : TxtA6 K mg pc.S pa) (Z : TxtB K mg pa D) (M : TxtM K pa NC mv) (TX : TxtN K mg px) (TR : TxtN5 K mg p5) (TM : TxtN6 K mg p6) (TF : TxtF K mg fR fA dR dA) (T : TxtN7 K mg p) : FnOk P w K mg base CX0 9 p.f_address_right p.d_address_right P_l_address_right spAR := by
  have G_l_made : FnOk P w K mg base (L2.CX P w) 6 p6.f_made p6.d_made P_l_made (spMade K pa pc.CB) := ok_l_made TC TG TA Z TM
  have G_l_is : FnOk P w K mg base CX0 1 p6.f_is p6.d_is P_l_is (spIs pa.C) := ok_l_is TC TA Z TM
  have G_l_sheet_text : FnOk P w K mg base CX0 1 px.f_sheet_text px.d_sheet_text P_l_sheet_text spShT := ok_sheet_text TX
  have G_l_cell_text : FnOk P w K mg base CX0 4 px.f_cell_text px.d_cell_text P_l_cell_text spCellT := ok_cell_text TH TX
  have G_address_text : FnOk P w K mg base (L2.CX P w) 5 fA dA P_address_text (spAdrText K pa.C pc.CB) := ok_address_text TC TG TA Z TF.F_address_text
  have G_read_address : FnOk P w K mg base (L2.CX P w) 6 fR dR P_read_address (spReadA K pa.C pc.CB pc.CN) := ok_read_address TC TG TA Z TF.F_read_address
  have G_l_mixed_case : FnOk P w K mg base CX0 2 ph.f_mixed_case ph.d_mixed_case P_l_mixed_case spMixA := ok_mixed TH
  have G_l_other : FnOk P w K mg base CX0 2 p5.f_other p5.d_other P_l_other spOther := ok_l_other TH TR
  have G_Address_eq : FnOk P w K mg base CX0 6 pa.f_eq pa.d_eq P_Address___eq__ (spAeq K pa.C) := ok_Address_eq TC TG TA Z
  have G_Address_bare : FnOk P w K mg base CX0 6 pa.f_bare pa.d_bare P_Address_bare (spBare pa.C) := ok_Address_bare TC TG TA Z M.kb0
  obtain ⟨yB, hB⟩ := M.hB
  refine T.F_l_address_right.ok sc_l_address_right (fun vs H Q E h => ?_) (fun cdv A outer s H vs Q E hr h => ?_)
  · obtain ⟨q, c, cs, i, r, t, n, m, fr, fc, sh, rfl, _⟩ := h
    rfl
  · obtain ⟨q, c, cs, i, r, t, n, m, fr, fc, sh, rfl, D0, hi, ht, n1, n2, m1, m2, so, sg2, k⟩ := h
    refine ⟨_, (pss_cons (ps_set (i := 2) sc_l_address_right.nd rfl (Or.inl rfl) (pe_call G_l_made (hr.mono (by decide)) (by rfl) TM.mg_l_made TM.F_l_made.kp TM.b_l_made .nil passL (pa_cons (pv 1) pa_nil)))
      (pss_cons (ps_set (i := 3) sc_l_address_right.nd rfl (Or.inl rfl) (pe_op op_add_str (pe_call G_l_sheet_text (hr.mono (by decide)) (by rfl) TX.mg_l_sheet_text TX.F_l_sheet_text.kp TX.b_l_sheet_text .nil pass0 (pa_cons (pe_ix ix_tup (pv 1) pe_int (fun _ _ => rfl)) pa_nil)) (pe_call G_l_cell_text (hr.mono (by decide)) (by rfl) TX.mg_l_cell_text TX.F_l_cell_text.kp TX.b_l_cell_text .nil pass0 (pa_cons (pv 1) pa_nil))))
      (pss_cons (ps_if (PW.pt (pw_or (pt_not (pt_val (pe_call G_l_is (hr.mono (by decide)) (by rfl) TM.mg_l_is TM.F_l_is.kp TM.b_l_is .nil pass0 (pa_cons (pv 2) (pa_cons (pv 1) pa_nil))))) (pw_or1 (pt_cmpR op_ne (pe_call G_address_text (hr.mono (by decide)) (by rfl) TF.mg_address_text TF.F_address_text.kp TF.b_address_text .nil passL (pa_cons (pv 2) pa_nil)) (pv 3) (nomark _))))) (pss_one (ps_ret pe_bl)) pss_nil)
      (pss_cons (ps_if (pt_not (pt_val (pe_call G_l_is (hr.mono (by decide)) (by rfl) TM.mg_l_is TM.F_l_is.kp TM.b_l_is .nil pass0 (pa_cons (pe_call G_read_address (hr.mono (by decide)) (by rfl) TF.mg_read_address TF.F_read_address.kp TF.b_read_address .nil passL (pa_cons (pv 3) pa_nil)) (pa_cons (pv 1) pa_nil))))) (pss_one (ps_ret pe_bl)) pss_nil)
      (pss_cons (ps_set (i := 4) sc_l_address_right.nd rfl (Or.inl rfl) (pe_call G_l_mixed_case (hr.mono (by decide)) (by rfl) TH.mg_l_mixed_case TH.F_l_mixed_case.kp TH.b_l_mixed_case .nil pass0 (pa_cons (pv 0) (pa_cons (pv 3) pa_nil))))
      (pss_cons (ps_set (i := 5) sc_l_address_right.nd rfl (Or.inl rfl) (pe_ifExp (pt_cmpR op_isN1 (pe_ix ix_tup (pv 1) pe_int (fun _ _ => rfl)) pe_non (nomark _)) pe_non (pe_slice sl_str (pv 4) po_none (po_some (pe_callB (id := "len") call_len (by rfl) TH.n_len (by decide +kernel) (pa_cons (pe_ix ix_tup (pv 1) pe_int (fun _ _ => rfl)) pa_nil))))))
      (pss_cons (ps_set (i := 6) sc_l_address_right.nd rfl (Or.inl rfl) (pe_call G_read_address (hr.mono (by decide)) (by rfl) TF.mg_read_address TF.F_read_address.kp TF.b_read_address .nil passL (pa_cons (pv 4) pa_nil)))
      (pss_cons (ps_if (PW.pt (pw_or (pt_not (pt_val (pe_call G_l_is (hr.mono (by decide)) (by rfl) TM.mg_l_is TM.F_l_is.kp TM.b_l_is .nil pass0 (pa_cons (pv 6) (pa_cons (pe_op op_catA (pe_slice sl_tupA (pv 1) po_none (po_some pe_int)) (pe_tup (pa_cons (pv 5) pa_nil))) pa_nil))))) (pw_or (pt_not (pt_cmpR (op_eqO G_Address_eq M.hs M.hf M.b_eq pass0 (hr.mono (by decide))) (pv 6) (pv 2) (nomark _))) (pw_or1 (pt_cmpR (op_neO G_Address_eq M.eqc hB M.b_eq pass0 (hr.mono (by decide))) (pv 2) (pv 6) (nomark _)))))) (pss_one (ps_ret pe_bl)) pss_nil)
      (pss_cons (ps_set (i := 7) sc_l_address_right.nd rfl (Or.inl rfl) (pe_call G_l_made (hr.mono (by decide)) (by rfl) TM.mg_l_made TM.F_l_made.kp TM.b_l_made .nil passL (pa_cons (pe_call G_l_other (hr.mono (by decide)) (by rfl) TR.mg_l_other TR.F_l_other.kp TR.b_l_other .nil pass0 (pa_cons (pv 0) (pa_cons (pv 1) pa_nil))) pa_nil)))
      (pss_cons (ps_if (PW.pt (pw_or (pt_cmpR (op_eqO G_Address_eq M.hs M.hf M.b_eq pass0 (hr.mono (by decide))) (pv 7) (pv 2) (nomark _)) (pw_or (pt_cmpR (op_eqO G_Address_eq M.hs M.hf M.b_eq pass0 (hr.mono (by decide))) (pv 2) (pv 3) (nomark _)) (pw_or1 (pt_cmpR (op_eqO G_Address_eq M.hs M.hf M.b_eq pass0 (hr.mono (by decide))) (pv 2) (pv 1) (nomark _)))))) (pss_one (ps_ret pe_bl)) pss_nil)
      (pss_one (ps_ret (pe_call G_l_is (hr.mono (by decide)) (by rfl) TM.mg_l_is TM.F_l_is.kp TM.b_l_is .nil pass0 (pa_cons (pe_meth0 (pv 2) TA.cl M.m_bare G_Address_bare (hr.mono (by decide)) M.b_bare .nil pass0) (pa_cons (pe_tup (pa_cons (pe_ix ix_tup (pv 1) pe_int (fun _ _ => rfl)) (pa_cons (pe_ix ix_tup (pv 1) pe_int (fun _ _ => rfl)) (pa_cons pe_bl (pa_cons pe_bl (pa_cons pe_non pa_nil)))))) pa_nil))))))))))))))), ?_⟩
    have gok := gridOk_of n1 n2 m1 m2
    have me : PySem.W.notFirst K pa.C (.ref pa.C) = true := by
      unfold PySem.W.notFirst
      simp
    have adT : ∀ {n m : Nat} {sh : Option (List Nat)} {fr fc : Bool}, (∀ l, sh = some l → l.length ≤ 1000) → n ≤ 1000000 → (adrText n m fr fc sh).length ≤ 1001 + 4 + 8 ∧ (shT sh).length ≤ 1001 ∧ (colT m fc).length ≤ 4 ∧ (rowT n fr).length ≤ 8 := fun {n m sh fr fc} hs hn => by
      have l1 := len36 fr
      have l2 := len36 fc
      have l3 := lets_len 3 m
      have l4 : (TL.numL n).length ≤ 7 := TL.numL_len (by decide) (by omega)
      have l5 : (colT m fc).length ≤ 4 := by unfold colT; rw [List.length_append]; omega
      have l6 : (rowT n fr).length ≤ 8 := by unfold rowT; rw [List.length_append]; omega
      have l7 : (shT sh).length ≤ 1001 := by
        cases sh with
        | none => exact Nat.zero_le _
        | some l =>
          have := hs l rfl
          show (l ++ [33]).length ≤ 1001
          rw [List.length_append]
          show l.length + 1 ≤ 1001
          omega
      refine ⟨?_, l7, l5, l6⟩
      rw [← adr_text, List.length_append, List.length_append]
      omega
    have shl : ∀ l, sh = some l → l.length ≤ 12 := fun l e => by
      subst e
      have g : sheetOk l = true := sg2
      unfold sheetOk at g
      simp only [Bool.and_eq_true, decide_eq_true_eq] at g
      exact g.1.1.2
    obtain ⟨tl0, tl1, tl2, tl3⟩ := adT (fr := fr) (fc := fc) (m := m) (n := n) (fun l e => Nat.le_trans (shl l e) (by decide)) n2
    have tl9 : (adrText n m fr fc sh).length ≤ 1000 := by
      have z : (shT sh).length ≤ 13 := by
        cases sh with
        | none => exact Nat.zero_le _
        | some l =>
          have := shl l rfl
          show (l ++ [33]).length ≤ 13
          rw [List.length_append]
          show l.length + 1 ≤ 13
          omega
      rw [← adr_text, List.length_append, List.length_append]
      omega
    have txa : ∀ c ∈ adrText n m fr fc sh, c < 128 := fun c hc => by
      rw [← adr_text] at hc
      have nd : ∀ b : Bool, ∀ c ∈ (if b = true then [36] else ([] : List Nat)), c < 128 := by decide
      rcases List.mem_append.mp hc with h | h
      · cases sh with
        | none => cases h
        | some l =>
          rcases List.mem_append.mp h with h | h
          · exact so.1 c h
          · rw [List.mem_singleton.mp h]; decide
      · rcases List.mem_append.mp h with h | h
        · rcases List.mem_append.mp h with h | h
          · exact nd _ c h
          · have := lets_rng 3 m c h; omega
        · rcases List.mem_append.mp h with h | h
          · exact nd _ c h
          · have := TL.numL_digits n c h; omega
    -- address, text
    refine q_asgK ((en_made (ev_var rfl) ht so sg2 gok) H (Ex.refl H) _ fun x dx H1 nx e1 hx => ?_)
    have ht1 := e1 _ _ ht
    refine q_asg (v := .str (S (adrText n m fr fc sh))) ?_ fun H2 e2 => ?_
    · rw [← adr_text]
      refine ev_addS (l := shT sh) (m := colT m fc ++ rowT n fr) (fun H' e Q q => ?_) (fun H' e Q q => ?_) (by rw [List.length_append]; omega)
      · exact (ea_cons (ev_op (ev_var rfl) ev_c (rv_ixT (st_of (e _ _ ht1)) (i := 4) rfl)) ea_nil) H' (Ex.refl H') _ fun H3 e3 => ⟨sh, rfl, so, fun H4 s4 => q H4 (e3.trans s4)⟩
      · exact ⟨_, rfl, t, n, m, fr, fc, sh, rfl, e _ _ ht1, n2, m1, m2, fun H4 s4 => q H4 s4⟩
    have ht2 := e2 _ _ ht1
    have hx2 := e2 _ _ hx
    refine q_when (b := false) (et_is (et_or (et_not (et_B (b := true) fun H' e Q q => ⟨_, rfl, _, rfl, x, dx, t, n, m, fr, fc, sh, rfl, e _ _ hx2, e _ _ ht2, so, fun H4 s4 => q H4 s4⟩)) fun _ => et_test (ev_op (x := .str (S (adrText n m fr fc sh))) (fun H' e Q q => ⟨_, rfl, _, rfl, .inl ⟨x, dx, n, m, fr, fc, sh, rfl, e _ _ hx2, n1, n2, m1, m2, so, fun H4 s4 => q H4 s4⟩⟩) (ev_var rfl) (rv_ne rfl))) (by simp)) (fun z => nomatch z) fun _ H3 e3 => ?_
    have ht3 := e3 _ _ ht2
    have hx3 := e3 _ _ hx2
    obtain ⟨pr0, so0, sg0, al0⟩ := parse_adr n1 n2 m1 m2 so sg2 (Mx.refl (adrText n m fr fc sh))
    have sh0 : (sh.map fun l => (adrText n m fr fc sh).take l.length) = sh := by
      cases sh with
      | none => rfl
      | some l =>
        refine congrArg some ?_
        rw [← adr_text]
        show ((l ++ [33]) ++ _).take l.length = l
        rw [List.append_assoc, List.take_left]
    rw [sh0] at pr0
    refine q_when (b := false) (et_is (et_not (et_B (b := true) fun H' e Q kq => (en_read (p := pa) (CB := pc.CB) (CN := pc.CN) (E := E0) (σ := [some (.ref q), some (.ref t), some (.ref x), some (.str (S (adrText n m fr fc sh))), none, none, none, none]) (te := tVar 3) (ev_var rfl) txa tl9 pr0) H' (Ex.refl H') _ fun y dy H4 ny e4 hy => ⟨_, rfl, y, dy, t, n, m, fr, fc, sh, rfl, hy, (e.trans e4) _ _ ht3, so, fun H5 s5 => kq H5 (e4.trans s5)⟩)) rfl) (fun z => nomatch z) fun _ H4 e4 => ?_
    have e04 := ((e1.trans e2).trans e3).trans e4
    have D4 := D0.keep e04
    have ht4 := e4 _ _ ht3
    have hx4 := e4 _ _ hx3
    -- small
    refine q_asgK ⟨_, rfl, _, rfl, q, c, cs, i, r, _, rfl, D4, by omega, txa, tl9, fun u i1 r1 H5 hM j0 j1 sb5 D5 => ?_⟩
    have ht5 := sb5 _ _ (ne_of ht4 D4.hp (by intro z; cases z)) ht4
    have hx5 := sb5 _ _ (ne_of hx4 D4.hp (by intro z; cases z)) hx4
    obtain ⟨pr, so2, sg3, al⟩ := parse_adr n1 n2 m1 m2 so sg2 hM
    have ul := hM.len
    have ua := hM.asc txa
    generalize hsh : (sh.map fun l => u.take l.length) = sh2 at *
    have en : ∀ {σ : L2.St} {H : Hp} {te : TE} {v : V}, Ev te σ H v → Ev (tOp rIsN te (tC .non)) σ H (.bl (decide (v = .non))) := fun h => ev_op h ev_c fun H1 _ Q q => ⟨rfl, q H1 (Ex.refl H1)⟩
    have i4 : ∀ {a b d e f : Option V}, Ev (tOp (rIxT K) (tVar 1) (tC (.int 4))) [a, some (.ref t), b, d, e, f, none, none] H5 (shV sh) := fun {a b d e f} => ev_op (ev_var rfl) ev_c (rv_ixT (st_of ht5) (i := 4) rfl)
    refine q_asg (v := shV sh2) ?_ fun H6 e6 => ?_
    · cases sh with
      | none =>
        subst hsh
        exact Evl.ev_if (b := true) (et_is (et_test (en i4)) rfl) (fun _ => ev_c) (fun z => nomatch z)
      | some l =>
        subst hsh
        refine Evl.ev_if (b := false) (et_is (et_test (en i4)) rfl) (fun z => nomatch z) (fun _ => ?_)
        have hl : l.length ≤ u.length := by
          rw [ul, ← adr_text]
          show l.length ≤ ((l ++ [33]) ++ _).length
          rw [List.length_append, List.length_append]
          omega
        have g := ev_slS (σ := [some (.ref q), some (.ref t), some (.ref x), some (.str (S (adrText n m fr fc (some l)))), some (.str (S u)), none, none, none]) (H := H5) (z := S u) (ev_var (i := 4) rfl) eo_none (eo_some (ev_lenS (K := K) (l := l) i4 (by have := shl l rfl; omega))) (by rw [len_S]; omega)
        rw [sl_to u hl] at g
        exact g
    have ht6 := e6 _ _ ht5
    have hx6 := e6 _ _ hx5
    refine q_asgK ((en_read (p := pa) (CB := pc.CB) (CN := pc.CN) (E := E0) (ev_var rfl) ua (by rw [ul]; exact tl9) pr) H6 (Ex.refl H6) _ fun y dy H7 ny e7 hy => ?_)
    have ht7 := e7 _ _ ht6
    have hx7 := e7 _ _ hx6
    have alx : alike sh2 sh = true := by
      cases sh with
      | none => subst hsh; rfl
      | some l =>
        subst hsh
        have g : decide (l.map low = (u.take l.length).map low) = true := al
        show decide ((u.take l.length).map low = l.map low) = true
        rw [of_decide_eq_true g]
        exact decide_eq_true rfl
    have eqv : ∀ {a b da db : Addr} {H' : Hp} {s1 s2 : Option (List Nat)} {v w : TE} {σ : L2.St} {r1 r2 c1 c2 : Int} {x1 x2 y1 y2 : Bool}, H' a = some (.ins pa.C da (flds r1 c1 x1 y1 s1)) → H' b = some (.ins pa.C db (flds r2 c2 x2 y2 s2)) → shOk s1 → shOk s2 → Ev v σ H' (.ref a) → Ev w σ H' (.ref b) → Ev (tOp (rEqO K pa.C (spAeq K pa.C) E0) v w) σ H' (.bl (eqA r1 c1 x1 y1 s1 r2 c2 x2 y2 s2)) := fun h1 h2 o1 o2 ev ew => ev_op ev ew fun H1 e1 Q kq =>
      ⟨_, _, _, .ref pa.C, rfl, e1 _ _ h1, adr_ty TA Z (e1 _ _ h2), me, _, _, _, _, _, _, _, _, rfl, e1 _ _ h1, o1, .inl ⟨_, _, _, _, _, _, _, rfl, e1 _ _ h2, o2, fun H2 s2 => ⟨⟨_, rfl⟩, kq H2 s2⟩⟩⟩
    refine q_when (b := false) (et_is (et_or (et_not (et_B (b := true) fun H' e Q kq => ⟨_, rfl, (er_cat (K := K) (er_sl (er_of (ev_var rfl) (e _ _ ht7)) eo_none (eo_some (i := ((4 : Nat) : Int)) ev_c)) (er_new (eu_tup (ea_cons (x := shV sh2) (ev_var rfl) ea_nil) (by show 1 ≤ 100000; decide))) (by have := cutV_length (plc n m fr fc sh) none (some ((4 : Nat) : Int)); show _ + 1 ≤ 100000; have z : (plc n m fr fc sh).length = 5 := rfl; omega)) H' (Ex.refl H') _ fun b H8 e8 hb => ?isb⟩)) fun _ => et_or (et_not (et_test (eqv hy hx7 so2 so (ev_var rfl) (ev_var rfl)))) fun _ => et_test (b := false) (ev_op (x := .ref x) (y := .ref y) (ev_var rfl) (ev_var rfl) fun H1 e1 Q kq => ?neb)) ?val) (fun z => nomatch z) fun _ H8 e8 => ?_
    case isb =>
      rw [cutV_to] at hb
      exact ⟨y, dy, b, n, m, fr, fc, sh2, rfl, (e.trans e8) _ _ hy, hb, so2, fun H9 s9 => kq H9 (e8.trans s9)⟩
    case neb =>
      refine ⟨x, y, dx, dy, _, _, rfl, rfl, e1 _ _ hx7, e1 _ _ hy, x, dx, n, m, fr, fc, sh, .ref y, rfl, e1 _ _ hx7, so, .inl ⟨y, dy, n, m, fr, fc, sh2, rfl, e1 _ _ hy, so2, fun H2 s2 => ⟨_, rfl, ?_⟩⟩⟩
      have z : (decide ((n : Int) = n) && decide ((m : Int) = m) && alike sh sh2 && decide (fr = fr) && decide (fc = fc)) = true := by
        rw [al]
        simp
      rw [z]
      exact kq H2 s2
    case val =>
      unfold eqA
      rw [alx]
      simp
    have e58 := (e6.trans e7).trans e8
    have D8 := D5.keep e58
    have ht8 := e8 _ _ ht7
    have hx8 := e8 _ _ hx7
    -- other
    refine q_asgK ⟨_, rfl, _, rfl, q, c, cs, i1, r1, t, n, m, fr, fc, sh, rfl, D8, by omega, ht8, n1, n2, m1, m2, so, sg2, fun t3 n3 m3 fr3 fc3 sh3 i2 r2 H9 ht3 a1 a2 b1 b2 so3 sg4 hne j2 j3 sb9 D9 => ?_⟩
    unfold tNil
    dsimp only [List.cons_append, List.nil_append]
    refine made_ok (.inl ht3) so3 sg4 (fun _ z dz H10 nz e10 hz => ?_) (fun zz => absurd ((gridOk_of a1 a2 b1 b2).symm.trans zz) (by decide))
    have D10 := D9.keep e10
    have ht9 := sb9 _ _ (ne_of ht8 D8.hp (by intro z; cases z)) ht8
    have hx9 := sb9 _ _ (ne_of hx8 D8.hp (by intro z; cases z)) hx8
    have ht10 := e10 _ _ ht9
    have hx10 := e10 _ _ hx9
    have nev : ∀ {y : V} {k : String} {v w : TE} {σ : L2.St}, Knd K H10 y k → PySem.W.kitOne K (.type k) (.ref pa.C) = some false → PySem.W.notFirst K pa.C (.type k) = true → Ev v σ H10 (.ref x) → Ev w σ H10 y → Ev (tOp (rEqO K pa.C (spAeq K pa.C) E0) v w) σ H10 (.bl false) := fun hk h1 h2 ev ew => ev_op ev ew fun H1 e1 Q kq =>
      ⟨_, _, _, .type _, rfl, e1 _ _ hx10, hk H1 e1, h2, _, _, _, _, _, _, _, _, rfl, e1 _ _ hx10, so, .inr ⟨_, hk.ext e1, h1, fun H2 s2 => ⟨⟨_, rfl⟩, kq H2 s2⟩⟩⟩
    refine q_when (b := false) (et_is (et_or (et_test (eqv hz hx10 so3 so (ev_var rfl) (ev_var rfl))) fun _ => et_or (et_test (nev knd_str M.z_str M.f_str (ev_var rfl) (ev_var rfl))) fun _ => et_test (nev (knd_tup ht10) M.z_tup M.f_tup (ev_var rfl) (ev_var rfl))) (by rw [hne]; rfl)) (fun z => nomatch z) fun _ H11 e11 => ?_
    have D11 := D10.keep e11
    have ht11 := e11 _ _ ht10
    have hx11 := e11 _ _ hx10
    refine ⟨_, rfl, x, dx, _, rfl, hx11, rfl, x, dx, n, m, fr, fc, sh, rfl, hx11, gok, fun y2 dy2 H12 ny2 e12 hy2 => ?_⟩
    have ht12 := e12 _ _ ht11
    have i5 : ∀ {v : V} {σ : L2.St} {j : Int}, σ[1]? = some (some (.ref t)) → atI (plc n m fr fc sh) j = some v → Ev (tOp (rIxT K) (tVar 1) (tC (.int j))) σ H12 v := fun h1 h2 => ev_op (ev_var h1) ev_c (rv_ixT (st_of ht12) h2)
    refine (eu_tup (vs := plc n m false false none) (ea_cons (i5 (j := 0) rfl rfl) (ea_cons (i5 (j := 1) rfl rfl) (ea_cons ev_c (ea_cons ev_c (ea_cons ev_c ea_nil))))) (by show 5 ≤ 100000; decide)) H12 (Ex.refl H12) _ fun u2 H13 nu2 e13 hu2 => ?_
    refine ⟨y2, dy2, u2, n, m, false, false, none, rfl, e13 _ _ hy2, hu2, True.intro, fun H14 e14 => ?_⟩
    have e104 := ((e11.trans e12).trans e13).trans e14
    have s04 : Sib q H H4 := fun b o _ h => e04 b o h
    have s58 : Sib q H5 H8 := fun b o _ h => e58 b o h
    have s910 : Sib q H9 H10 := fun b o _ h => e10 b o h
    have s1014 : Sib q H10 H14 := fun b o _ h => e104 b o h
    exact k i2 r2 H14 (by omega) (by omega) ((((s04.trans sb5).trans s58).trans sb9).trans (s910.trans s1014)) (D10.keep e104)
end
end K16

set_option Elab.async false
set_option linter.all false
set_option maxRecDepth 100000
set_option maxHeartbeats 4000000
namespace K16
open PySem PySem.Spec PyProof.Rows L2 Pen EV2 Evl TX LamX
abbrev s_l_step_right : Stmt := topS 58
abbrev N_l_step_right : List Str := ["_law_pen_here", "_law_place_here", "_law_most", "_law_at", "_law_to", "_law_row", "_law_column_here", "_law_told_here", "_law_steps"]
abbrev P_l_step_right : List Str := ["_law_pen_here", "_law_place_here"]
theorem sc_l_step_right : FnScope N_l_step_right P_l_step_right (defScope s_l_step_right) := ⟨rfl, rfl, rfl, by decide +kernel, rfl, by decide +kernel, by decide +kernel⟩

abbrev qOf (x : Str) : Str := (x ++ ".<locals>.") ++ "<lambda>"
structure TxtR (K : PySem.W.Frag) (mg : Str → Option Value) (pc : Ads) (CO CM iO : Addr) (dO : FuncData) (fT : Addr) (dT : FuncData) : Prop where
  mg_told : mg "_law_told" = some (.ref fT)
  F_told : Fun K "_law_told" "_law_told" s_l_told fT dT
  b_told : Binds K dT P_l_told []
  RT : TxtT K mg pc CO CM iO dO
theorem q_parT {σ : L2.St} {H : Hp} {ta : TA} {i j : Nat} {tz : TS} {D : Ends} {v w : V} (h : EvA ta σ H [v, w]) (k : ∀ H1, Ex H H1 → tz D ((σ.set i (some v)).set j (some w)) H1) : tSeq (tPar i j ta) tz D σ H := h H (Ex.refl H) _ fun H1 e1 => ⟨v, w, rfl, k H1 e1⟩
theorem off_dp {K : PySem.W.Frag} {H : Hp} {a b : Int} : DpAll K H [.str "OffGrid", .int a, .int b] [.str "OffGrid", .int a, .int b] := .cons (.str _) (.cons (.int _) (.cons (.int _) .nil))
theorem off_shaped {a b : Int} : SeqAt.shaped (.tuple [.str "OffGrid", .int a, .int b]) = true := by
  unfold SeqAt.shaped
  refine Bool.and_eq_true_iff.mpr ⟨?_, decide_eq_true ?_⟩
  · show (PyData.strOk ("OffGrid" : Str) && (true && (true && true))) = true
    have z : PyData.strOk ("OffGrid" : Str) = true := by decide +kernel
    rw [z]
    rfl
  · show max 0 (max 0 (max 0 0)) + 1 ≤ 64
    decide
theorem off_eqv {a b : Int} : PyData.eqv (.tuple [.str "OffGrid", .int a, .int b]) (.tuple [.str "OffGrid", .int a, .int b]) = true := by
  show (((("OffGrid" : Str) == "OffGrid")) && ((a == a) && ((b == b) && true))) = true
  simp
/-- tuples stay -/
def KpT (H H' : Hp) : Prop := ∀ a xs, H a = some (.tup xs) → H' a = some (.tup xs)
theorem KpT.trans {H H1 H2 : Hp} (a : KpT H H1) (b : KpT H1 H2) : KpT H H2 := fun c xs h => b c xs (a c xs h)
theorem KpT.ex {H H' : Hp} (e : Ex H H') : KpT H H' := fun a xs h => e _ _ h
theorem KpT.extN {H H' : Hp} (e : ExtN H H') : KpT H H' := fun a xs h => e _ _ h (fun _ z => by cases z)
theorem KpT.sib {H H' : Hp} {p : Addr} {kv : List (Key × V)} (hp : H p = some (.dK kv)) (e : Sib p H H') : KpT H H' := fun a xs h => e _ _ (ne_of h hp (by intro z; cases z)) h
theorem KpT.put {H : Hp} {l : Addr} {xs ys : List V} (hl : H l = some (.lst xs)) : KpT H (upd H l (.lst ys)) := fun a zs h => by
  rw [upd_ne (ne_of h hl (by intro z; cases z))]
  exact h
theorem tabs_put {T : List (Addr × Str)} {H : Hp} {l : Addr} {xs ys : List V} (hl : H l = some (.lst xs)) (t : Tabs T H) : Tabs T (upd H l (.lst ys)) := fun x hx => by
  obtain ⟨ps, h1, h2, h3⟩ := t x hx
  refine ⟨ps, ?_, h2, fun pos cv hc => ?_⟩
  · rw [upd_ne (ne_of h1 hl (by intro z; cases z))]
    exact h1
  · obtain ⟨c, e1, e2⟩ := h3 pos cv hc
    refine ⟨c, e1, ?_⟩
    rw [upd_ne (ne_of e2 hl (by intro z; unfold CodeO at z; cases z))]
    exact e2
theorem pen_put {H : Hp} {q c l : Addr} {cs : List Int} {i r : Int} {xs ys : List V} (D : PenAt H q c cs i r) (hl : H l = some (.lst xs)) (n : l ≠ c) : PenAt (upd H l (.lst ys)) q c cs i r :=
  ⟨by rw [upd_ne (ne_of D.hp hl (by intro z; cases z))]; exact D.hp, by rw [upd_ne n.symm]; exact D.hc, D.hl, D.h0, D.h1⟩
def spRt (TT : List (Addr × Str)) (b : Int) : Sp := fun vs H Q _ => ∃ (q c : Addr) (cs : List Int) (i r : Int) (t : Addr) (n m : Nat) (fr fc : Bool) (sh : Option (List Nat)), vs = [.ref q, .ref t] ∧ PenAt H q c cs i r ∧ i < 2 ^ 36 ∧ H t = some (.tup (plc n m fr fc sh)) ∧ 1 ≤ n ∧ n ≤ 1000000 ∧ 1 ≤ m ∧ m ≤ 18278 ∧ shOk sh ∧ shGood sh = true ∧ Tabs TT H ∧
  ∀ (i' r' : Int) (H' : Hp), i ≤ i' → i' ≤ i + b → KpT H H' → Tabs TT H' → PenAt H' q c cs i' r' → Q (.bl true) H'
section
variable {P : Program} {w : World} {K : PySem.W.Frag} {mg : Str → Option Value} {base : Heap} {ph : AdL} {pc : Ads} {pg : AdG} {pa : AdC} {D NC : Addr} {mv : List Value} {p4 : AdN4} {p6 : AdN6} {CM fT : Addr} {dT : FuncData} {TT : List (Addr × Str)}
theorem ok_l_step_right (TH : TxtH K mg ph) (TC : TxtC K mg pc) (TG : TxtG K mg pg) (TA : TxtA6 K mg pc.S pa) (Z : TxtB K mg pa D) (M : TxtM K pa NC mv) (TP : TxtN4 K mg p4) (TM : TxtN6 K mg p6) (R : TxtR K mg pc pa.CO CM pa.iO pa.dO fT dT) {f c P1 : Addr} {fd : FuncData} (F : FunC K "_law_step_right" "_law_step_right" s_l_step_right f c fd)
    (hTB : TabB base mg c P1) (hmT : (P1, qOf "_law_step_right") ∈ TT) (hu : ∀ x ∈ TT, x.1 = P1 → x.2 = qOf "_law_step_right") : FnOk P w K mg base CX0 10 f fd P_l_step_right (spRt TT 10) := by
  have TAa : TxtA mg := ⟨TH.n_list, TH.n_int, TH.n_len⟩
  have G_l_made : FnOk P w K mg base (L2.CX P w) 6 p6.f_made p6.d_made P_l_made (spMade K pa pc.CB) := ok_l_made TC TG TA Z TM
  have G_l_is : FnOk P w K mg base CX0 1 p6.f_is p6.d_is P_l_is (spIs pa.C) := ok_l_is TC TA Z TM
  have G_l_draw : FnOk P w K mg base CX0 1 ph.f_draw ph.d_draw P_l_draw spDraw := ok_l_draw TH.F_l_draw TAa
  have G_l_pick : FnOk P w K mg base CX0 2 ph.f_pick ph.d_pick P_l_pick (spPick K) := ok_l_pick TH.F_l_pick TAa TH.F_l_draw TH.b_l_draw TH.mg_l_draw
  have G_l_number_up_to : FnOk P w K mg base CX0 2 p4.f_number_up_to p4.d_number_up_to P_l_number_up_to spNum := ok_l_number_up_to TH TP
  have G_Address_pushed : FnOk P w K mg base (L2.CX P w) 6 pa.f_pushed pa.d_pushed P_Address_pushed (spPushed pa.C pa.CO) := ok_Address_pushed TC TG TA Z
  have RT := R.RT
  have hbT := R.b_told
  obtain ⟨oc, od, kV, doc, pm, an, cdv, ct, osl, hfd, lk, hcg⟩ := R.F_told.ex
  subst hfd
  refine F.ok sc_l_step_right (fun vs H Q E h => ?_) (fun A outer s H vs Q E hr h => ?_)
  · obtain ⟨q, c, cs, i, r, t, n, m, fr, fc, sh, rfl, _⟩ := h
    rfl
  · obtain ⟨q, c0, cs, i, r, t, n, m, fr, fc, sh, rfl, D0, hi, ht, n1, n2, m1, m2, so, sg2, hT, k⟩ := h
    refine ⟨_, (pss_cons (ps_set (i := 8) sc_l_step_right.nd rfl (Or.inr rfl) (pe_lst pa_nil))
      (pss_cons (ps_for PassesOwn.never rfl (pi_tup (pe_tup (pa_cons (pe_tup (pa_cons pe_int (pa_cons (pe_ix ix_tup (pv 1) pe_int (fun _ _ => rfl)) pa_nil))) (pa_cons (pe_tup (pa_cons pe_int (pa_cons (pe_ix ix_tup (pv 1) pe_int (fun _ _ => rfl)) pa_nil))) pa_nil)))) (pg_tup (by rfl) (pgs_cons (pg_name (i := 2) sc_l_step_right.nd rfl (Or.inl rfl)) (pgs_cons (pg_name (i := 3) sc_l_step_right.nd rfl (Or.inl rfl)) pgs_nil))) (pss_cons (ps_set (i := 4) sc_l_step_right.nd rfl (Or.inl rfl) (pe_call G_l_pick (hr.mono (by decide)) (by rfl) TH.mg_l_pick TH.F_l_pick.kp TH.b_l_pick .nil pass0 (pa_cons (pv 0) (pa_cons (pe_lst (pa_cons (pe_call G_l_number_up_to (hr.mono (by decide)) (by rfl) TP.mg_l_number_up_to TP.F_l_number_up_to.kp TP.b_l_number_up_to .nil pass0 (pa_cons (pv 0) (pa_cons (pv 2) pa_nil))) (pa_cons pe_int (pa_cons (pe_op op_add (pv 2) pe_int) (pa_cons (pv 3) (pa_cons (pv 3) (pa_cons (pe_un un_neg (pe_op op_pow pe_int pe_int)) (pa_cons (pe_op op_pow pe_int pe_int) pa_nil)))))))) pa_nil))))
      (pss_one (ps_expr (pe_bm PySem.F.plainAttrs_list PySem.F.slot_list_append PySem.F.type_list_append mt_append (pv 8) (pa_cons (pe_op op_sub (pv 4) (pv 3)) pa_nil))))))
      (pss_cons (ps_par (i := 5) (j := 6) (by rfl) sc_l_step_right.nd rfl rfl (by decide) rfl rfl (pa_cons (pe_op op_add (pe_ix ix_tup (pv 1) pe_int (fun _ _ => rfl)) (pe_ix ix_list (pv 8) pe_int (fun _ _ => rfl))) (pa_cons (pe_op op_add (pe_ix ix_tup (pv 1) pe_int (fun _ _ => rfl)) (pe_ix ix_list (pv 8) pe_int (fun _ _ => rfl))) pa_nil)) (by rfl))
      (pss_cons (ps_set (i := 7) sc_l_step_right.nd rfl (Or.inl rfl) (pe_lamcall (T := TT) (TT := TT5 pc.CB pc.CN pa.CO) (t := fun E => tMeth pa.C "pushed" (spPushed pa.C pa.CO) [] E (tCall (spMade K pa pc.CB) [] E (tCons (tVar 1) tNil)) (tCons (tOp (rIxL K) (tVar 8) (tC (.int 0))) (tCons (tOp (rIxL K) (tVar 8) (tC (.int 1))) tNil))) (k := 6) (by rfl) R.mg_told R.F_told.kp lk hcg hbT sc_l_told rfl (Or.inl rfl) (told_gives RT) hTB rfl hmT hu (hr.mono (by decide)) (lamS_by (sc := defScope s_l_step_right) (by decide +kernel)) rfl (fun _ _ _ _ _ => rfl)
        (fun A outer s H E f c' hr2 => (pe_meth (pe_call G_l_made (hr2.mono (by decide)) (by rfl) TM.mg_l_made TM.F_l_made.kp TM.b_l_made .nil (passes_call (takes_of rfl rfl rfl rfl) fun _ _ _ _ h => h) (pa_cons (pv 1) pa_nil)) TA.cl M.m_pushed G_Address_pushed (hr2.mono (by decide)) M.b_pushed .nil (passes_call (takes_of rfl rfl rfl rfl) fun _ _ _ _ h => h) (pa_cons (pe_ix ix_list (pv 8) pe_int (fun _ _ => rfl)) (pa_cons (pe_ix ix_list (pv 8) pe_int (fun _ _ => rfl)) pa_nil))))))
      (pss_cons (ps_if (PW.pt (pw_and (pt_chain op_le op_le pe_int (pv 5) pe_int) (pw_and1 (pt_chain op_le op_le pe_int (pv 6) pe_int)))) (pss_one (ps_ret (pe_and (pe_cmpR op_eq (pe_ix ix_tup (pv 7) pe_int (fun _ _ => rfl)) pe_str (nomark _)) (pe_one (pe_call G_l_is (hr.mono (by decide)) (by rfl) TM.mg_l_is TM.F_l_is.kp TM.b_l_is .nil pass0 (pa_cons (pe_ix ix_tup (pv 7) pe_int (fun _ _ => rfl)) (pa_cons (pe_op op_catA (pe_tup (pa_cons (pv 5) (pa_cons (pv 6) pa_nil))) (pe_slice sl_tupA (pv 1) (po_some pe_int) po_none)) pa_nil))))))) pss_nil)
      (pss_one (ps_ret (pe_cmpR (op_eqD hr.units) (pv 7) (pe_tup (pa_cons pe_str (pa_cons (pv 5) (pa_cons (pv 6) pa_nil)))) (nomark _))))))))), ?_⟩
    refine q_asgK ⟨by decide, fun l hl => ?_⟩
    have e0 : Ex H (upd H l (.lst [])) := Ex.new hl
    have hl0 : (upd H l (.lst [])) l = some (.lst []) := upd_same
    have hnc : l ≠ c0 := fun z => by rw [z, D0.hc] at hl; cases hl
    have ht0 := e0 _ _ ht
    have D1 := D0.keep e0
    have hT1 := hT.ext e0
    have kp0 : KpT H (upd H l (.lst [])) := KpT.ex e0
    generalize (upd H l (.lst [])) = H1 at *
    have ix : ∀ {σ : L2.St} {H' : Hp} {j : Int} {v : V}, KpT H1 H' → σ[1]? = some (some (.ref t)) → atI (plc n m fr fc sh) j = some v → Ev (tOp (rIxT K) (tVar 1) (tC (.int j))) σ H' v := fun e h1 h2 => ev_op (ev_var h1) ev_c (rv_ixT (st_of (e _ _ ht0)) h2)
    refine ⟨_, rfl, t, _, 0, _, rfl, rfl, st_of ht0, rfl, by show 2 ≤ sizeLine; decide, fun p1 np1 => ?_⟩
    have e2 : Ex H1 (upd H1 p1 (.tup [.int 1000000, .int (n : Int)])) := Ex.new np1
    have hp1 : (upd H1 p1 (.tup [.int 1000000, .int (n : Int)])) p1 = some (.tup [.int ((1000000 : Nat) : Int), .int (n : Int)]) := upd_same
    generalize (upd H1 p1 (.tup [.int 1000000, .int (n : Int)])) = H2 at *
    refine ⟨_, rfl, t, _, 1, _, rfl, rfl, st_of (e2 _ _ ht0), rfl, by show 2 ≤ sizeLine; decide, fun p2 np2 => ?_⟩
    have e3 : Ex H2 (upd H2 p2 (.tup [.int 18278, .int (m : Int)])) := Ex.new np2
    have hp2 : (upd H2 p2 (.tup [.int 18278, .int (m : Int)])) p2 = some (.tup [.int ((18278 : Nat) : Int), .int (m : Int)]) := upd_same
    generalize (upd H2 p2 (.tup [.int 18278, .int (m : Int)])) = H3 at *
    refine ⟨by show 2 ≤ sizeLine; decide, fun p hp => ⟨p, rfl, ⟨_, st_of upd_same⟩, ?_⟩⟩
    have e4 := (e2.trans e3).trans (Ex.new (o := .tup [.ref p1, .ref p2]) hp)
    have hpp : (upd H3 p (.tup [.ref p1, .ref p2])) p = some (.tup [.ref p1, .ref p2]) := upd_same
    have hp14 := ((e3.trans (Ex.new (o := .tup [.ref p1, .ref p2]) hp)) _ _ hp1)
    have hp24 := ((Ex.new (o := .tup [.ref p1, .ref p2]) hp) _ _ hp2)
    have hl4 := e4 _ _ hl0
    have D4 := D1.keep e4
    have hT4 := hT1.ext e4
    have kp4 : KpT H1 (upd H3 p (.tup [.ref p1, .ref p2])) := KpT.ex e4
    generalize (upd H3 p (.tup [.ref p1, .ref p2])) = H4 at *
    refine for_tup (xs := [.ref p1, .ref p2]) (fun j σ' H' => ∃ (ss : List Int) (i' r' : Int) (x2 x3 x4 : Option V), σ' = [some (.ref q), some (.ref t), x2, x3, x4, none, none, none, some (.ref l)] ∧ H' l = some (.lst (ss.map V.int)) ∧ ss.length = j ∧ PenAt H' q c0 cs i' r' ∧ KpT H4 H' ∧ Tabs TT H' ∧ i ≤ i' ∧ i' ≤ i + 3 * j)
      ⟨[], i, r, none, none, none, rfl, hl4, rfl, D4, (fun a xs h => h), hT4, by omega, by omega⟩ (fun j σ' H' hj ⟨ss, i', r', x2, x3, x4, e, h1, h2, h3, h4, h5⟩ => st_of (h4 _ _ hpp)) ?_ ?_
    · rintro j x σ' H5 hx ⟨ss, i5, r5, x2, x3, x4, rfl, hl5, hss, D5, kp5, hT5, j5, j6⟩
      obtain ⟨pp, MM, at_, rfl, hpx, M1, M2⟩ : ∃ (pp : Addr) (MM at_ : Nat), x = .ref pp ∧ H4 pp = some (.tup [.int (MM : Int), .int (at_ : Int)]) ∧ 1 ≤ MM ∧ MM ≤ 1000000 := by
        match j with
        | 0 => cases hx; exact ⟨p1, 1000000, n, rfl, hp14, by decide, by decide⟩
        | 1 => cases hx; exact ⟨p2, 18278, m, rfl, hp24, by decide, by decide⟩
        | j + 2 => cases hx
      have hjl : j < 2 := (List.getElem?_eq_some_iff.mp hx).1
      refine ⟨pp, _, rfl, st_of (kp5 _ _ hpx), rfl, _, _, rfl, _, _, rfl, rfl, ?_⟩
      dsimp only
      refine q_asgK ⟨_, rfl, _, rfl, _, rfl, q, c0, cs, i5, r5, MM, rfl, D5, by omega, M1, M2, fun z i6 r6 H6 z1 z2 j7 j8 sb6 D6 => ?_⟩
      have hl6 := sb6 _ _ (ne_of hl5 D5.hp (by intro z; cases z)) hl5
      have hT6 := tabs_sib D5.hp sb6 hT5
      have kp6 := kp5.trans (KpT.sib D5.hp sb6)
      refine (ea_cons (ev_c (v := .int 0)) (ea_cons (ev_op (x := .int (MM : Int)) (ev_var rfl) (ev_c (v := .int 1)) (rv_I0 (g := fun i j => .int (i + j)))) (ea_cons (ev_var rfl) (ea_cons (ev_var rfl) (ea_cons (x := .int (-(10 ^ 20))) ?e1 (ea_cons (x := .int (10 ^ 20)) ?e2 ea_nil)))))) H6 (Ex.refl H6) _ fun H7 e7 => ⟨by show 7 ≤ sizeLine; decide, fun u hu => ?_⟩
      case e1 => exact ev_is (ev_un (ev_op (ev_c (v := .int 10)) (ev_c (v := .int 20)) (rv_I ⟨by decide, by decide, by decide⟩)) ru_neg) (by decide +kernel)
      case e2 => exact ev_is (ev_op (ev_c (v := .int 10)) (ev_c (v := .int 20)) (rv_I ⟨by decide, by decide, by decide⟩)) (by decide +kernel)
      have e8 := e7.trans (Ex.new (o := .lst [.int z, .int 0, .int ((MM : Int) + 1), .int (at_ : Int), .int (at_ : Int), .int (-(10 ^ 20)), .int (10 ^ 20)]) hu)
      refine ⟨q, c0, cs, i6, r6, u, _, rfl, D6.keep e8, by omega, SqL.of upd_same, by show 0 < 7; decide, by show 7 < 2 ^ 29; decide, ne_of upd_same (e8 _ _ D6.hp) (by intro z; cases z), fun x i9 r9 H9 hx9 j9 j10 sb9 D9 => ?_⟩
      obtain ⟨y, _, rfl⟩ := List.mem_map.mp (show x ∈ ([(z : Int), 0, (MM : Int) + 1, at_, at_, -(10 ^ 20), 10 ^ 20] : List Int).map V.int from hx9)
      have hl8 := e8 _ _ hl6
      have hl9 := sb9 _ _ (ne_of hl8 (e8 _ _ D6.hp) (by intro z; cases z)) hl8
      have hT9 := tabs_sib (e8 _ _ D6.hp) sb9 (hT6.ext e8)
      have kp9 := kp6.trans ((KpT.ex e8).trans (KpT.sib (e8 _ _ D6.hp) sb9))
      refine ⟨_, rfl, .inl ⟨rfl, _, SqL.of hl9⟩, ?_⟩
      refine (ev_op (ev_var rfl) (ev_var rfl) rv_I0) H9 (Ex.refl H9) _ fun H10 e10 => ⟨l, _, _, rfl, rfl, e10 _ _ hl9, ?_, ?_⟩
      · rw [List.length_map, hss]
        exact Nat.lt_trans hjl (by decide)
      · have hl10 := e10 _ _ hl9
        have D10 := D9.keep e10
        refine ⟨ss ++ [y - at_], i9, r9, _, _, _, rfl, ?_, by rw [List.length_append, hss]; rfl, pen_put D10 hl10 hnc, (kp9.trans (KpT.ex e10)).trans (KpT.put hl10), tabs_put hl10 (hT9.ext e10), by omega, by omega⟩
        rw [upd_same, List.map_append]
        rfl
    · rintro σ' H5 ⟨ss, i5, r5, x2, x3, x4, rfl, hl5, hss, D5, kp5, hT5, j5, j6⟩
      obtain ⟨s0, s1, rfl⟩ : ∃ s0 s1, ss = [s0, s1] := by
        match ss, hss with
        | [a, b], _ => exact ⟨a, b, rfl⟩
      have hl5 : H5 l = some (.lst [.int s0, .int s1]) := hl5
      have kp05 := (kp0.trans kp4).trans kp5
      have ht5 := kp05 _ _ ht
      have j6 : i5 ≤ i + 6 := by simpa using j6
      have ixT : ∀ {σ : L2.St} {H' : Hp} {j : Int} {v : V}, KpT H5 H' → σ[1]? = some (some (.ref t)) → atI (plc n m fr fc sh) j = some v → Ev (tOp (rIxT K) (tVar 1) (tC (.int j))) σ H' v := fun e h1 h2 => ev_op (ev_var h1) ev_c (rv_ixT (st_of (e _ _ ht5)) h2)
      have ixL : ∀ {σ : L2.St} {H' : Hp} {j : Int} {v : V}, H' l = some (.lst [.int s0, .int s1]) → σ[8]? = some (some (.ref l)) → atI [V.int s0, V.int s1] j = some v → Ev (tOp (rIxL K) (tVar 8) (tC (.int j))) σ H' v := fun e h1 h2 => ev_op (ev_var h1) ev_c (rv_ixL (sq_of e) h2)
      have eRC : EvA (tCons (tOp (rI0 fun i j => V.int (i + j)) (tOp (rIxT K) (tVar 1) (tC (.int 0))) (tOp (rIxL K) (tVar 8) (tC (.int 0)))) (tCons (tOp (rI0 fun i j => V.int (i + j)) (tOp (rIxT K) (tVar 1) (tC (.int 1))) (tOp (rIxL K) (tVar 8) (tC (.int 1)))) tNil)) [some (.ref q), some (.ref t), x2, x3, x4, none, none, none, some (.ref l)] H5 [.int ((n : Int) + s0), .int ((m : Int) + s1)] :=
        ea_cons (ev_op (ixT (fun a xs h => h) rfl (j := 0) rfl) (ixL hl5 rfl (j := 0) rfl) (rv_I0 (g := fun i j => V.int (i + j)))) (ea_cons (ev_op (ixT (fun a xs h => h) rfl (j := 1) rfl) (ixL hl5 rfl (j := 1) rfl) (rv_I0 (g := fun i j => V.int (i + j)))) ea_nil)
      dsimp only
      refine q_parT eRC fun H6 e6 => ?_
      have hT6 := hT5.ext e6
      refine q_asgK ⟨hT6, fun H7 eN hT7 t0 nt0 => ?_⟩
      have e8 : Ex H7 (upd H7 t0 (.tup [.str "nothing"])) := Ex.new nt0
      have kp7 : KpT H5 H7 := (KpT.ex e6).trans (KpT.extN eN)
      have kp8 : KpT H5 (upd H7 t0 (.tup [.str "nothing"])) := kp7.trans (KpT.ex e8)
      have hl8 := e8 _ _ (extN_lst eN (e6 _ _ hl5))
      have D8 := (pen_extN (D5.keep e6) eN).keep e8
      have hT8 := hT7.ext e8
      have ht8 := kp8 _ _ ht5
      generalize (upd H7 t0 (.tup [.str "nothing"])) = H8 at *
      refine ⟨_, rfl, ?_⟩
      unfold tNil
      dsimp only [List.cons_append, List.nil_append]
      refine made_ok (.inl ht8) so sg2 (fun _ x dx H9 nx e9 hx => ?_) (fun zz => absurd ((gridOk_of n1 n2 m1 m2).symm.trans zz) (by decide))
      refine ⟨x, dx, _, rfl, hx, rfl, ?_⟩
      have eS : EvA (tCons (tOp (rIxL K) (tVar 8) (tC (.int 0))) (tCons (tOp (rIxL K) (tVar 8) (tC (.int 1))) tNil)) [some (.ref q), some (.ref t), x2, x3, x4, some (.int ((n : Int) + s0)), some (.int ((m : Int) + s1)), none, some (.ref l)] H9 [.int s0, .int s1] :=
        ea_cons (ixL (e9 _ _ hl8) rfl (j := 0) rfl) (ea_cons (ixL (e9 _ _ hl8) rfl (j := 1) rfl) ea_nil)
      have fin : ∀ H', Ex H8 H' → Q (.bl true) H' := fun H' e => k i5 r5 H' (by omega) (by omega) ((kp05.trans kp8).trans (KpT.ex e)) (hT8.ext e) (D8.keep e)
      have cond : ∀ {H' : Hp} {v : V}, EvT (tAnd (tTest (tChain (rI0 fun i j => .bl (decide (i ≤ j))) (rI0 fun i j => .bl (decide (i ≤ j))) (tC (.int 1)) (tVar 5) (tC (.int 1000000)))) (tTest (tChain (rI0 fun i j => .bl (decide (i ≤ j))) (rI0 fun i j => .bl (decide (i ≤ j))) (tC (.int 1)) (tVar 6) (tC (.int 18278))))) [some (.ref q), some (.ref t), x2, x3, x4, some (.int ((n : Int) + s0)), some (.int ((m : Int) + s1)), some v, some (.ref l)] H' (gridOk ((n : Int) + s0) ((m : Int) + s1)) := fun {H' v} => et_and (et_test (ev_between ev_c (ev_var rfl) ev_c)) fun _ => et_test (ev_between ev_c (ev_var rfl) ev_c)
      refine eS H9 (Ex.refl H9) _ fun H10 e10 => ⟨x, dx, n, m, s0, s1, fr, fc, sh, rfl, e10 _ _ hx, so, sg2, fun hg y dy H11 ny e11 hy => ?_, fun hg d H11 e11 nd hd => ?_⟩
      · intro pr hpr
        have e12 := ((e9.trans e10).trans e11).trans (Ex.new (o := .tup [.str "told", .ref y]) hpr)
        have hp12 : (upd H11 pr (.tup [.str "told", .ref y])) pr = some (.tup [.str "told", .ref y]) := upd_same
        have hy12 := (Ex.new (o := .tup [.str "told", .ref y]) hpr) _ _ hy
        generalize (upd H11 pr (.tup [.str "told", .ref y])) = H12 at *
        refine q_when (b := true) (et_is cond hg) (fun _ H13 e13 => ?_) fun z => nomatch z
        have hp13 := e13 _ _ hp12
        have ixp : ∀ {H' : Hp} {j : Int} {v : V}, Ex H13 H' → atI [V.str "told", V.ref y] j = some v → Ev (tOp (rIxT K) (tVar 7) (tC (.int j))) [some (.ref q), some (.ref t), x2, x3, x4, some (.int ((n : Int) + s0)), some (.int ((m : Int) + s1)), some (.ref pr), some (.ref l)] H' v := fun e h2 => ev_op (ev_var rfl) ev_c (rv_ixT (st_of (e _ _ hp13)) h2)
        have ht13 := (((e9.trans e10).trans e11) |> fun e => (e12.trans e13)) _ _ ht8
        have eIs : ∀ {H' : Hp}, Ex H13 H' → Ev (tCall (spIs pa.C) [] E0 (tCons (tOp (rIxT K) (tVar 7) (tC (.int 1))) (tCons (tOp (rCatA K) (tTup (tCons (tVar 5) (tCons (tVar 6) tNil))) (tSl (rSlA K) (tVar 1) (tPart (tC (.int 2))) tNoPart)) tNil))) [some (.ref q), some (.ref t), x2, x3, x4, some (.int ((n : Int) + s0)), some (.int ((m : Int) + s1)), some (.ref pr), some (.ref l)] H' (.bl true) := fun {H'} e0 H1 e Q kq => by
          refine (ixp (e0.trans e) (j := 1) rfl) H1 (Ex.refl H1) _ fun H2 e2 => ?_
          refine (er_cat (K := K) (er_new (eu_tup (vs := [.int ((n : Int) + s0), .int ((m : Int) + s1)]) (ea_cons (ev_var rfl) (ea_cons (ev_var rfl) ea_nil)) (by show 2 ≤ 100000; decide))) (er_sl (er_of (ev_var rfl) (((e0.trans e).trans e2) _ _ ht13)) (eo_some (i := ((2 : Nat) : Int)) ev_c) eo_none) (by have := cutV_length (plc n m fr fc sh) (some ((2 : Nat) : Int)) none; have z : (plc n m fr fc sh).length = 5 := rfl; show 2 + _ ≤ 100000; omega)) H2 (Ex.refl H2) _ fun b H3 e3 hb => ?_
          rw [cutV_from] at hb
          exact ⟨y, dy, b, (n : Int) + s0, (m : Int) + s1, fr, fc, sh, rfl, (((e13.trans e0).trans e).trans (e2.trans e3)) _ _ hy12, hb, so, fun H4 s4 => kq H4 ((e2.trans e3).trans s4)⟩
        refine (show Ev _ _ _ (.bl true) from ev_is (ev_andV (b := true) (ev_op (ixp (Ex.refl _) (j := 0) (v := .str "told") rfl) (ev_c (v := .str "told")) (rv_eq rfl)) fun _ => eIs (Ex.refl _)) (by simp)) H13 (Ex.refl H13) _ fun H14 e14 => ?_
        exact fin H14 ((e12.trans e13).trans e14)
      · refine ⟨pa.CO, d, _, rfl, rfl, hd, .inr ⟨rfl, .int ((n : Int) + s0), .int ((m : Int) + s1), rfl, rfl, fun pr hpr => ?_⟩⟩
        have e12 := ((e9.trans e10).trans e11).trans (Ex.new (o := .tup [.str "OffGrid", .int ((n : Int) + s0), .int ((m : Int) + s1)]) hpr)
        have hp12 : (upd H11 pr (.tup [.str "OffGrid", .int ((n : Int) + s0), .int ((m : Int) + s1)])) pr = some (.tup [.str "OffGrid", .int ((n : Int) + s0), .int ((m : Int) + s1)]) := upd_same
        generalize (upd H11 pr (.tup [.str "OffGrid", .int ((n : Int) + s0), .int ((m : Int) + s1)])) = H12 at *
        refine q_when (b := false) (et_is cond hg) (fun z => nomatch z) fun _ H13 e13 => ?_
        refine ⟨_, rfl, ?_⟩
        refine (eu_tup (σ := [some (.ref q), some (.ref t), x2, x3, x4, some (.int ((n : Int) + s0)), some (.int ((m : Int) + s1)), some (.ref pr), some (.ref l)]) (vs := [.str "OffGrid", .int ((n : Int) + s0), .int ((m : Int) + s1)]) (ea_cons ev_c (ea_cons (ev_var (i := 5) rfl) (ea_cons (ev_var (i := 6) rfl) ea_nil))) (by show 3 ≤ 100000; decide)) H13 (Ex.refl H13) _ fun u H14 nu e14 hu14 => ?_
        refine ⟨_, _, .tup (st_of ((e13.trans e14) _ _ hp12)) off_dp, .tup (st_of hu14) off_dp, off_shaped, off_shaped, ?_⟩
        rw [off_eqv]
        exact fin H14 ((e12.trans e13).trans e14)
end
end K16

set_option Elab.async false
set_option linter.all false
set_option maxRecDepth 100000
set_option maxHeartbeats 4000000
namespace K16
open PySem PySem.Spec PyProof.Rows L2 Pen EV2 Evl TX LamX
abbrev s_l_text_right : Stmt := topS 59
abbrev N_l_text_right : List Str := ["_law_pen_here", "_law_place_here", "_law_turn", "_law_sheet", "_law_rest", "_law_due", "_law_told_here", "_law_text"]
abbrev P_l_text_right : List Str := ["_law_pen_here", "_law_place_here"]
theorem sc_l_text_right : FnScope N_l_text_right P_l_text_right (defScope s_l_text_right) := ⟨rfl, rfl, rfl, by decide +kernel, rfl, by decide +kernel, by decide +kernel⟩

theorem adr_facts {n m : Nat} {fr fc : Bool} {sh : Option (List Nat)} (n2 : n ≤ 1000000) (so : shOk sh) (sg2 : shGood sh = true) : (adrText n m fr fc sh).length ≤ 30 ∧ (∀ c ∈ adrText n m fr fc sh, c < 128) ∧ (shT sh).length ≤ 13 ∧ (colT m fc).length ≤ 4 ∧ (rowT n fr).length ≤ 8 := by
  have l1 := len36 fr
  have l2 := len36 fc
  have l3 := lets_len 3 m
  have l4 : (TL.numL n).length ≤ 7 := TL.numL_len (by decide) (by omega)
  have l5 : (colT m fc).length ≤ 4 := by unfold colT; rw [List.length_append]; omega
  have l6 : (rowT n fr).length ≤ 8 := by unfold rowT; rw [List.length_append]; omega
  have l7 : (shT sh).length ≤ 13 := by
    cases sh with
    | none => exact Nat.zero_le _
    | some l =>
      have g : sheetOk l = true := sg2
      unfold sheetOk at g
      simp only [Bool.and_eq_true, decide_eq_true_eq] at g
      have := g.1.1.2
      show (l ++ [33]).length ≤ 13
      rw [List.length_append]
      show l.length + 1 ≤ 13
      omega
  refine ⟨?_, fun c hc => ?_, l7, l5, l6⟩
  · rw [← adr_text, List.length_append, List.length_append]
    omega
  · rw [← adr_text] at hc
    have nd : ∀ b : Bool, ∀ c ∈ (if b = true then [36] else ([] : List Nat)), c < 128 := by decide
    rcases List.mem_append.mp hc with h | h
    · cases sh with
      | none => cases h
      | some l =>
        rcases List.mem_append.mp h with h | h
        · exact so.1 c h
        · rw [List.mem_singleton.mp h]; decide
    · rcases List.mem_append.mp h with h | h
      · rcases List.mem_append.mp h with h | h
        · exact nd _ c h
        · have := lets_rng 3 m c h; omega
      · rcases List.mem_append.mp h with h | h
        · exact nd _ c h
        · have := TL.numL_digits n c h; omega
theorem parseC_sh {b : List Nat} {sh s : Option (List Nat)} {r c : Int} {fr fc : Bool} (h : parseC b sh = some (r, c, fr, fc, s)) : s = sh := by
  unfold parseC at h
  split at h
  · cases h
    rfl
  · cases h
theorem part_cases {l : List Nat} (ha : ∀ c ∈ l, c < 128) (hl : l.length ≤ 1000) : ∃ v3 v4 : V, partV l = [v3, v4] ∧ ((v4 = .non ∧ parseA l = none) ∨ (∃ (b : List Nat) (sh : Option (List Nat)), v4 = .str (S b) ∧ v3 = shV sh ∧ shOk sh ∧ (∀ c ∈ b, c < 128) ∧ b.length ≤ 1000 ∧ parseA l = parseC b sh)) := by
  rw [← parse_same]
  unfold partV parseF
  cases q : firstBang l with
  | none => exact ⟨.non, .str (S l), rfl, .inr ⟨l, none, rfl, rfl, True.intro, ha, hl, rfl⟩⟩
  | some p =>
    obtain ⟨a, b⟩ := p
    obtain ⟨g1, _⟩ := fbang_some q
    have gl := congrArg List.length g1
    rw [List.length_append, List.length_cons] at gl
    by_cases hs : sheetOk a = true
    · refine ⟨.str (S a), .str (S b), if_pos hs, .inr ⟨b, some a, rfl, rfl, ⟨fun c h => ha c (by rw [g1]; exact List.mem_append_left _ h), by omega⟩, fun c h => ha c (by rw [g1]; exact List.mem_append_right _ (List.mem_cons_of_mem _ h)), by omega, if_pos hs⟩⟩
    · exact ⟨.non, .non, if_neg hs, .inl ⟨rfl, if_neg hs⟩⟩
theorem q_asgP {σ : L2.St} {H : Hp} {te : TE} {i : Nat} {tz : TS} {D : Ends} (R : V → Hp → Prop) (h : ∀ Q : VK, (∀ v H1, Ex H H1 → R v H1 → Q v H1) → te σ H Q) (k : ∀ v H1, Ex H H1 → R v H1 → tz D (σ.set i (some v)) H1) : tSeq (tAsg te (gName i)) tz D σ H := h _ k
theorem nan_dp {K : PySem.W.Frag} {H : Hp} {l : List Nat} : DpAll K H [.str "NotAName", .str (S l)] [.str "NotAName", .str (S l)] := .cons (.str _) (.cons (.str _) .nil)
theorem nan_shaped {l : List Nat} (h : ∀ c ∈ l, c < 128) : SeqAt.shaped (.tuple [.str "NotAName", .str (S l)]) = true := by
  unfold SeqAt.shaped
  refine Bool.and_eq_true_iff.mpr ⟨?_, decide_eq_true ?_⟩
  · show (PyData.strOk ("NotAName" : Str) && (PyData.strOk (S l) && true)) = true
    have z : PyData.strOk ("NotAName" : Str) = true := by decide +kernel
    rw [z, strOk_S h]
    rfl
  · show max 0 (max 0 0) + 1 ≤ 64
    decide
theorem nan_eqv {l : List Nat} : PyData.eqv (.tuple [.str "NotAName", .str (S l)]) (.tuple [.str "NotAName", .str (S l)]) = true := by
  show (((("NotAName" : Str) == "NotAName")) && ((S l == S l) && true)) = true
  simp
def pool3 : List Nat := [36, 36, 33, 48, 49, 97, 90, 58, 32, 35, 46, 91, 65, 57]
theorem pool3_eq : (Str.ofString "$$!01aZ: #.[A9") = S pool3 := by decide +kernel
section
variable {P : Program} {w : World} {K : PySem.W.Frag} {mg : Str → Option Value} {base : Heap} {ph : AdL} {pc : Ads} {pg : AdG} {pa : AdC} {D NC : Addr} {mv : List Value} {px : AdN} {p2 : AdN2} {p3 : AdN3} {p5 : AdN5} {p6 : AdN6} {fR fA : Addr} {dR dA : FuncData} {CM fT : Addr} {dT : FuncData} {TT : List (Addr × Str)}
theorem ok_l_text_right (TH : TxtH K mg ph) (TC : TxtC K mg pc) (TG : TxtG K mg pg) (TA : TxtA6 K mg pc.S pa) (Z : TxtB K mg pa D) (TX : TxtN K mg px) (T2 : TxtN2 K mg p2) (T3 : TxtN3 K mg p3) (TR : TxtN5 K mg p5) (TM : TxtN6 K mg p6) (TF : TxtF K mg fR fA dR dA) (R : TxtR K mg pc pa.CO CM pa.iO pa.dO fT dT) {f c P1 : Addr} {fd : FuncData} (F : FunC K "_law_text_right" "_law_text_right" s_l_text_right f c fd)
    (hTB : TabB base mg c P1) (hmT : (P1, qOf "_law_text_right") ∈ TT) (hu : ∀ x ∈ TT, x.1 = P1 → x.2 = qOf "_law_text_right") : FnOk P w K mg base CX0 10 f fd P_l_text_right (spRt TT 10) := by
  have TAa : TxtA mg := ⟨TH.n_list, TH.n_int, TH.n_len⟩
  have G_l_is : FnOk P w K mg base CX0 1 p6.f_is p6.d_is P_l_is (spIs pa.C) := ok_l_is TC TA Z TM
  have G_l_draw : FnOk P w K mg base CX0 1 ph.f_draw ph.d_draw P_l_draw spDraw := ok_l_draw TH.F_l_draw TAa
  have G_l_spoilt : FnOk P w K mg base CX0 3 p5.f_spoilt p5.d_spoilt P_l_spoilt spSpoilt := ok_l_spoilt TH TR
  have G_l_parted : FnOk P w K mg base CX0 4 p5.f_parted p5.d_parted P_l_parted spParted := ok_l_parted TH T2 TR
  have G_l_read_cell : FnOk P w K mg base CX0 4 p3.f_read_cell p3.d_read_cell P_l_read_cell spReadCell := ok_l_read_cell TH T2 T3
  have G_l_sheet_text : FnOk P w K mg base CX0 1 px.f_sheet_text px.d_sheet_text P_l_sheet_text spShT := ok_sheet_text TX
  have G_l_cell_text : FnOk P w K mg base CX0 4 px.f_cell_text px.d_cell_text P_l_cell_text spCellT := ok_cell_text TH TX
  have G_read_address : FnOk P w K mg base (L2.CX P w) 6 fR dR P_read_address (spReadA K pa.C pc.CB pc.CN) := ok_read_address TC TG TA Z TF.F_read_address
  have RT := R.RT
  have hbT := R.b_told
  obtain ⟨oc, od, kV, doc, pm, an, cdv, ct, osl, hfd, lk, hcg⟩ := R.F_told.ex
  subst hfd
  refine F.ok sc_l_text_right (fun vs H Q E h => ?_) (fun A outer s H vs Q E hr h => ?_)
  · obtain ⟨q, c, cs, i, r, t, n, m, fr, fc, sh, rfl, _⟩ := h
    rfl
  · obtain ⟨q, c0, cs, i, r, t, n, m, fr, fc, sh, rfl, D0, hi, ht, n1, n2, m1, m2, so, sg2, hT, k⟩ := h
    refine ⟨_, (pss_cons (ps_set (i := 7) sc_l_text_right.nd rfl (Or.inr rfl) (pe_op op_add_str (pe_call G_l_sheet_text (hr.mono (by decide)) (by rfl) TX.mg_l_sheet_text TX.F_l_sheet_text.kp TX.b_l_sheet_text .nil pass0 (pa_cons (pe_ix ix_tup (pv 1) pe_int (fun _ _ => rfl)) pa_nil)) (pe_call G_l_cell_text (hr.mono (by decide)) (by rfl) TX.mg_l_cell_text TX.F_l_cell_text.kp TX.b_l_cell_text .nil pass0 (pa_cons (pv 1) pa_nil))))
      (pss_cons (ps_for PassesOwn.never rfl (pi_range1 (by rfl) TH.n_range (pa_cons (pe_op op_add pe_int (pe_call G_l_draw (hr.mono (by decide)) (by rfl) TH.mg_l_draw TH.F_l_draw.kp TH.b_l_draw .nil pass0 (pa_cons (pv 0) (pa_cons pe_int pa_nil)))) pa_nil)) (pg_name (i := 2) sc_l_text_right.nd rfl (Or.inl rfl)) (pss_one (ps_set (i := 7) sc_l_text_right.nd rfl (Or.inr rfl) (pe_call G_l_spoilt (hr.mono (by decide)) (by rfl) TR.mg_l_spoilt TR.F_l_spoilt.kp TR.b_l_spoilt .nil pass0 (pa_cons (pv 0) (pa_cons (pv 7) (pa_cons pe_str pa_nil)))))))
      (pss_cons (ps_asg (pe_call G_l_parted (hr.mono (by decide)) (by rfl) TR.mg_l_parted TR.F_l_parted.kp TR.b_l_parted .nil pass0 (pa_cons (pv 7) pa_nil)) (pg_tup (by rfl) (pgs_cons (pg_name (i := 3) sc_l_text_right.nd rfl (Or.inl rfl)) (pgs_cons (pg_name (i := 4) sc_l_text_right.nd rfl (Or.inl rfl)) pgs_nil))))
      (pss_cons (ps_set (i := 5) sc_l_text_right.nd rfl (Or.inl rfl) (pe_ifExp (pt_cmpR op_isN1 (pv 4) pe_non (nomark _)) pe_non (pe_call G_l_read_cell (hr.mono (by decide)) (by rfl) T3.mg_l_read_cell T3.F_l_read_cell.kp T3.b_l_read_cell .nil pass0 (pa_cons (pv 4) (pa_cons (pv 3) pa_nil)))))
      (pss_cons (ps_set (i := 6) sc_l_text_right.nd rfl (Or.inl rfl) (pe_lamcall (T := TT) (TT := TT5 pc.CB pc.CN pa.CO) (t := fun E => tCall (spReadA K pa.C pc.CB pc.CN) [] E (tCons (tVar 7) tNil)) (k := 6) (by rfl) R.mg_told R.F_told.kp lk hcg hbT sc_l_told rfl (Or.inl rfl) (told_gives RT) hTB rfl hmT hu (hr.mono (by decide)) (lamS_by (sc := defScope s_l_text_right) (by decide +kernel)) rfl (fun _ _ _ _ _ => rfl)
        (fun A outer s H E f c' hr2 => (pe_call G_read_address (hr2.mono (by decide)) (by rfl) TF.mg_read_address TF.F_read_address.kp TF.b_read_address .nil (passes_call (takes_of rfl rfl rfl rfl) fun _ _ _ _ h => h) (pa_cons (pv 7) pa_nil)))))
      (pss_cons (ps_if (pt_cmpR op_isN1 (pv 5) pe_non (nomark _)) (pss_one (ps_ret (pe_cmpR (op_eqD hr.units) (pv 6) (pe_tup (pa_cons pe_str (pa_cons (pv 7) pa_nil))) (nomark _)))) pss_nil)
      (pss_one (ps_ret (pe_and (pe_cmpR op_eq (pe_ix ix_tup (pv 6) pe_int (fun _ _ => rfl)) pe_str (nomark _)) (pe_one (pe_call G_l_is (hr.mono (by decide)) (by rfl) TM.mg_l_is TM.F_l_is.kp TM.b_l_is .nil pass0 (pa_cons (pe_ix ix_tup (pv 6) pe_int (fun _ _ => rfl)) (pa_cons (pv 5) pa_nil))))))))))))), ?_⟩
    obtain ⟨tl0, ta0, tl1, tl2, tl3⟩ := adr_facts (m := m) (fr := fr) (fc := fc) n2 so sg2
    refine q_asg (v := .str (S (adrText n m fr fc sh))) ?_ fun H1 e1 => ?_
    · rw [← adr_text]
      refine ev_addS (l := shT sh) (m := colT m fc ++ rowT n fr) (fun H' e Q q => ?_) (fun H' e Q q => ?_) (by rw [List.length_append]; omega)
      · exact (ea_cons (ev_op (ev_var rfl) ev_c (rv_ixT (st_of (e _ _ ht)) (i := 4) rfl)) ea_nil) H' (Ex.refl H') _ fun H3 e3 => ⟨sh, rfl, so, fun H4 s4 => q H4 (e3.trans s4)⟩
      · exact ⟨_, rfl, t, n, m, fr, fc, sh, rfl, e _ _ ht, n2, m1, m2, fun H4 s4 => q H4 s4⟩
    have D1 := D0.keep e1
    refine ⟨_, rfl, q, c0, cs, i, r, 2, rfl, D1, by omega, by decide, by decide, fun z i2 r2 H2 z0 z1 j0 j1 sb2 D2 => ⟨1, z, rfl, rfl, ?_⟩⟩
    have hT2 := tabs_sib D1.hp sb2 (hT.ext e1)
    have kp2 := (KpT.ex e1).trans (KpT.sib D1.hp sb2)
    refine ⟨1 + z, rfl, by omega, by omega, for_range (n := (1 + z).toNat) (fun j σ' H' => ∃ (w : List Nat) (i' r' : Int) (tv : Option V), σ' = [some (.ref q), some (.ref t), tv, none, none, none, none, some (.str (S w))] ∧ (∀ x ∈ w, x < 128) ∧ w.length ≤ 30 + j ∧ PenAt H' q c0 cs i' r' ∧ KpT H H' ∧ Tabs TT H' ∧ i ≤ i' ∧ i' ≤ i + 1 + 3 * j) ⟨_, i2, r2, none, rfl, ta0, by omega, D2, kp2, hT2, by omega, by omega⟩ ?_ ?_⟩
    · rintro j σ' H3 hj ⟨w, i3, r3, tv, rfl, wa, wl, D3, kp3, hT3, j3, j4⟩
      refine ⟨_, rfl, _, rfl, q, c0, cs, i3, r3, w, pool3, congrArg (fun z => [V.ref q, V.str (S w), V.str z]) pool3_eq, D3, by omega, wa, by decide, by omega, by decide, by decide, fun w2 i4 r4 H4 wa2 wl2 j5 j6 sb4 D4 => ?_⟩
      exact ⟨w2, i4, r4, _, rfl, wa2, by omega, D4, kp3.trans (KpT.sib D3.hp sb4), tabs_sib D3.hp sb4 hT3, by omega, by omega⟩
    · rintro σ' H3 ⟨w, i3, r3, tv, rfl, wa, wl, D3, kp3, hT3, j3, j4⟩
      have wl : w.length ≤ 1000 := by omega
      obtain ⟨v3, v4, hpv, hp⟩ := part_cases wa wl
      refine ⟨_, rfl, w, rfl, wa, wl, fun u H4 e4 hu4 => ?_⟩
      rw [hpv] at hu4
      refine ⟨u, _, rfl, st_of hu4, rfl, _, _, rfl, _, _, rfl, rfl, ?_⟩
      dsimp only
      have en : ∀ {σ : L2.St} {H : Hp} {te : TE} {v : V}, Ev te σ H v → Ev (tOp rIsN te (tC .non)) σ H (.bl (decide (v = .non))) := fun h => ev_op h ev_c fun H1 _ Q q => ⟨rfl, q H1 (Ex.refl H1)⟩
      refine q_asgP (fun v H' => (v = .non ∧ parseA w = none) ∨ (∃ (td : Addr) (r c : Int) (fr fc : Bool) (s : Option (List Nat)), v = .ref td ∧ H' td = some (.tup (plc r c fr fc s)) ∧ parseA w = some (r, c, fr, fc, s) ∧ shOk s)) (fun Q kq => ?_) fun dv H5 e5 hdv => ?_
      · rcases hp with ⟨rfl, hn⟩ | ⟨b, s2, rfl, rfl, so2, ba, bl, hpa⟩
        · refine (et_is (et_test (en (ev_var rfl))) (show decide (V.non = V.non) = true from rfl)) H4 (Ex.refl H4) _ fun H5 e5 => ?_
          exact kq .non H5 e5 (.inl ⟨rfl, hn⟩)
        · refine (et_is (et_test (en (ev_var rfl))) (show decide (V.str (S b) = V.non) = false from rfl)) H4 (Ex.refl H4) _ fun H5 e5 => ?_
          refine ⟨_, rfl, _, rfl, b, s2, rfl, ba, bl, fun hn H6 e6 => kq .non H6 (e5.trans e6) (.inl ⟨rfl, hpa.trans hn⟩), fun r c fr fc s hs td H6 ntd e6 htd => kq (.ref td) H6 (e5.trans e6) (.inr ⟨td, r, c, fr, fc, s, rfl, htd, hpa.trans hs, by rw [parseC_sh hs]; exact so2⟩)⟩
      have e35 := e4.trans e5
      have hT5 := hT3.ext e35
      have D5 := D3.keep e35
      have kp5 := kp3.trans (KpT.ex e35)
      refine q_asgK ⟨hT5, fun H7 eN hT7 t0 nt0 => ?_⟩
      have e8 : Ex H7 (upd H7 t0 (.tup [.str "nothing"])) := Ex.new nt0
      have kp58 : KpT H5 (upd H7 t0 (.tup [.str "nothing"])) := (KpT.extN eN).trans (KpT.ex e8)
      have D8 := (pen_extN D5 eN).keep e8
      have hT8 := hT7.ext e8
      generalize (upd H7 t0 (.tup [.str "nothing"])) = H8 at *
      have fin : ∀ H', Ex H8 H' → Q (.bl true) H' := fun H' e => k i3 r3 H' (by omega) (by omega) ((kp5.trans kp58).trans (KpT.ex e)) (hT8.ext e) (D8.keep e)
      rcases hdv with ⟨rfl, hn⟩ | ⟨td, r2, c2, fr2, fc2, s2, rfl, htd, hsm, so2⟩
      · refine ⟨_, rfl, _, rfl, .inl ⟨w, rfl, wa, wl, (fun r c fr fc sh hs => by rw [hn] at hs; cases hs), fun _ d H9 e9 nd hd => ?_⟩⟩
        refine ⟨pc.CN, d, _, rfl, rfl, hd, .inl ⟨"NotAName", "name", _, .inr ⟨rfl, rfl, rfl⟩, rfl, fun pr hpr => ?_⟩⟩
        have e12 := e9.trans (Ex.new (o := .tup [.str "NotAName", .str (S w)]) hpr)
        have hp12 : (upd H9 pr (.tup [.str "NotAName", .str (S w)])) pr = some (.tup [.str "NotAName", .str (S w)]) := upd_same
        generalize (upd H9 pr (.tup [.str "NotAName", .str (S w)])) = H12 at *
        refine q_when (b := true) (et_is (et_test (en (ev_var (v := .non) rfl))) rfl) (fun _ H13 e13 => ?_) fun z => nomatch z
        refine ⟨_, rfl, ?_⟩
        refine (eu_tup (σ := [some (.ref q), some (.ref t), tv, some v3, some v4, some .non, some (.ref pr), some (.str (S w))]) (vs := [.str "NotAName", .str (S w)]) (ea_cons ev_c (ea_cons (ev_var (i := 7) rfl) ea_nil)) (by show 2 ≤ 100000; decide)) H13 (Ex.refl H13) _ fun u H14 nu e14 hu14 => ?_
        refine ⟨_, _, .tup (st_of ((e13.trans e14) _ _ hp12)) nan_dp, .tup (st_of hu14) nan_dp, nan_shaped wa, nan_shaped wa, ?_⟩
        rw [nan_eqv]
        exact fin H14 ((e12.trans e13).trans e14)
      · refine ⟨_, rfl, _, rfl, .inl ⟨w, rfl, wa, wl, (fun r c fr fc sh hs x dx H9 nx e9 hx => ?_), fun hn => by rw [hsm] at hn; cases hn⟩⟩
        rw [hsm] at hs
        cases hs
        intro pr hpr
        have e12 := e9.trans (Ex.new (o := .tup [.str "told", .ref x]) hpr)
        have hp12 : (upd H9 pr (.tup [.str "told", .ref x])) pr = some (.tup [.str "told", .ref x]) := upd_same
        have hx12 := (Ex.new (o := .tup [.str "told", .ref x]) hpr) _ _ hx
        have htd12 := e12 _ _ (kp58 _ _ htd)
        generalize (upd H9 pr (.tup [.str "told", .ref x])) = H12 at *
        refine q_when (b := false) (et_is (et_test (en (ev_var (v := .ref td) rfl))) rfl) (fun z => nomatch z) fun _ H13 e13 => ?_
        have hp13 := e13 _ _ hp12
        have ixp : ∀ {H' : Hp} {j : Int} {v : V}, Ex H13 H' → atI [V.str "told", V.ref x] j = some v → Ev (tOp (rIxT K) (tVar 6) (tC (.int j))) [some (.ref q), some (.ref t), tv, some v3, some v4, some (.ref td), some (.ref pr), some (.str (S w))] H' v := fun e h2 => ev_op (ev_var rfl) ev_c (rv_ixT (st_of (e _ _ hp13)) h2)
        have eIs : ∀ {H' : Hp}, Ex H13 H' → Ev (tCall (spIs pa.C) [] E0 (tCons (tOp (rIxT K) (tVar 6) (tC (.int 1))) (tCons (tVar 5) tNil))) [some (.ref q), some (.ref t), tv, some v3, some v4, some (.ref td), some (.ref pr), some (.str (S w))] H' (.bl true) := fun {H'} e0 H1 e Q kq => by
          refine (ixp (e0.trans e) (j := 1) rfl) H1 (Ex.refl H1) _ fun H2 e2 => ?_
          exact ⟨_, rfl, x, dx, td, _, _, _, _, _, rfl, (((e13.trans e0).trans e).trans e2) _ _ hx12, (((e13.trans e0).trans e).trans e2) _ _ htd12, so2, fun H4 s4 => kq H4 (e2.trans s4)⟩
        refine (show Ev _ _ _ (.bl true) from ev_is (ev_andV (b := true) (ev_op (ixp (Ex.refl _) (j := 0) (v := .str "told") rfl) (ev_c (v := .str "told")) (rv_eq rfl)) fun _ => eIs (Ex.refl _)) (by simp)) H13 (Ex.refl H13) _ fun H14 e14 => ?_
        exact fin H14 ((e12.trans e13).trans e14)
end
end K16

set_option Elab.async false
set_option linter.all false
set_option maxRecDepth 100000
set_option maxHeartbeats 4000000
namespace K16
open PySem PySem.Spec PyProof.Rows L2 Pen EV2 Evl TX LamX
/-- a drawn odd value whose kind is told -/
def PV (C : V → String → Prop) (H : Hp) (v : V) : Prop := ∃ d n, Vd H v d n ∧ C v n
theorem PV.st {C : V → String → Prop} : ∀ H H' v, Ex H H' → PV C H v → PV C H' v := fun H H' v e ⟨d, n, g, h⟩ => ⟨d, n, g.ext e, h⟩
theorem PV.ex {C : V → String → Prop} {H H' : Hp} {v : V} (h : PV C H v) (e : Ex H H') : PV C H' v := PV.st H H' v e h
theorem PV.sib {C : V → String → Prop} {H H' : Hp} {v : V} {p : Addr} {kv : List (Key × V)} (hp : H p = some (.dK kv)) (e : Sib p H H') (h : PV C H v) : PV C H' v := by
  obtain ⟨d, n, g, c⟩ := h
  exact ⟨d, n, g.sib hp e, c⟩
theorem PV.extN {C : V → String → Prop} {H H' : Hp} {v : V} (e : ExtN H H') (h : PV C H v) : PV C H' v := by
  obtain ⟨d, n, g, c⟩ := h
  exact ⟨d, n, g.extN e, c⟩
theorem PV.put {C : V → String → Prop} {H : Hp} {v : V} {l : Addr} {xs ys : List V} (hl : H l = some (.lst xs)) (h1 : xs.length ≠ 1) (h : PV C H v) : PV C (upd H l (.lst ys)) v := by
  obtain ⟨d, n, g, c⟩ := h
  refine ⟨d, n, ?_, c⟩
  cases g with
  | int i => exact .int i
  | bl b => exact .bl b
  | non => exact .non
  | str s h => exact .str s h
  | lst e b => exact .lst (by rw [upd_ne (ne_of e hl (by intro z; cases z; exact h1 rfl))]; exact e) b
  | tup e b => exact .tup (by rw [upd_ne (ne_of e hl (by intro z; cases z))]; exact e) b
theorem PV.mp {C C' : V → String → Prop} {H : Hp} {v : V} (h : PV C H v) (hc : ∀ v n, C v n → C' v n) : PV C' H v := by
  obtain ⟨d, n, g, c⟩ := h
  exact ⟨d, n, g, hc v n c⟩
def C01 (_ : V) (n : String) : Prop := goodK n false
def C23 (_ : V) (n : String) : Prop := kitB n "bool" = some false
def C0 (v : V) (n : String) : Prop := C01 v n ∧ C23 v n
def C4 (v : V) (n : String) : Prop := (∃ l, v = .str (S l) ∧ (∀ c ∈ l, c < 128) ∧ l.length ≤ 1000 ∧ sheetOk l = false) ∨ (kitB n "str" = some false ∧ v ≠ .non)
def C5 (_ : V) (n : String) : Prop := kitB n "str" = some false ∧ (n = "NoneType" ∨ n = "int" ∨ n = "bool" ∨ n = "list" ∨ n = "tuple")
theorem c01_non {v : V} : C01 v "NoneType" := ⟨false, false, by decide +kernel, by decide +kernel, rfl⟩
theorem c01_str {v : V} : C01 v "str" := ⟨false, false, by decide +kernel, by decide +kernel, rfl⟩
theorem c01_lst {v : V} : C01 v "list" := ⟨false, false, by decide +kernel, by decide +kernel, rfl⟩
theorem c01_tup {v : V} : C01 v "tuple" := ⟨false, false, by decide +kernel, by decide +kernel, rfl⟩
theorem c01_bl {v : V} : C01 v "bool" := ⟨true, true, by decide +kernel, by decide +kernel, rfl⟩

section
variable {K : PySem.W.Frag} {σ : L2.St} {H : Hp} {q c : Addr} {cs : List Int} {i r : Int} {Q : VK} {tr : TA}
theorem pk_cat {C C' : V → String → Prop} {lo : Addr} {vs : List V} (ex : List V) (hC : ∀ v n, C v n → C' v n) (D : PenAt H q c cs i r) (hi : i < 2 ^ 38) (hlo : H lo = some (.lst vs)) (hP : ∀ v ∈ vs, PV C H v) (hl : vs.length ≤ 100)
    (he : EvA tr σ H ex) (hex : ∀ v ∈ ex, PV C' H v) (hel : ex.length ≤ 100) (h0 : 0 < ex.length) (v0 : σ[0]? = some (some (.ref q))) (v2 : σ[2]? = some (some (.ref lo)))
    (k : ∀ x i' r' H', PV C' H' x → i ≤ i' → i' ≤ i + 1 → Sib q H H' → PenAt H' q c cs i' r' → Q x H') : tCall (spPick K) [] E0 (tCons (tVar 0) (tCons (tOp rCat (tVar 2) (tLst tr)) tNil)) σ H Q := by
  refine ⟨_, v0, _, v2, he H (Ex.refl H) _ fun H1 e1 => ⟨sz_of (by omega), fun m hm => ⟨lo, m, vs, ex, rfl, rfl, ?_, upd_same, sz_of (by omega), fun u hu => ?_⟩⟩⟩
  · rw [upd_ne (ne_of_none (e1 _ _ hlo) hm)]
    exact e1 _ _ hlo
  · have e2 : Ex H (upd (upd H1 m (.lst ex)) u (.lst (vs ++ ex))) := e1.trans ((Ex.new hm).trans (Ex.new hu))
    have D2 := D.keep e2
    refine ⟨q, c, cs, i, r, u, vs ++ ex, rfl, D2, by omega, SqL.of upd_same, by rw [List.length_append]; omega, by rw [List.length_append]; omega, ne_of upd_same D2.hp (by intro z; cases z), fun x i' r' H' hx j0 j1 sb D' => ?_⟩
    have sbA : Sib q H H' := Sib.trans (fun b o _ h => e2 b o h) sb
    refine k x i' r' H' (PV.sib D.hp sbA ?_) j0 j1 sbA D'
    rcases List.mem_append.mp hx with h | h
    · exact (hP x h).mp hC
    · exact hex x h
theorem pk_lst {C : V → String → Prop} (n : Nat) (D : PenAt H q c cs i r) (hi : i < 2 ^ 38) (h : EvPs (PV C) tr σ H n) (hn : n ≤ 100) (h0 : 0 < n) (v0 : σ[0]? = some (some (.ref q)))
    (k : ∀ x i' r' H', PV C H' x → i ≤ i' → i' ≤ i + 1 → Sib q H H' → PenAt H' q c cs i' r' → Q x H') : tCall (spPick K) [] E0 (tCons (tVar 0) (tCons (tLst tr) tNil)) σ H Q := by
  refine ⟨_, v0, rd_ps PV.st h (by omega) fun l vs H1 hl e1 hL hlen hP => ?_⟩
  have D1 := D.keep e1
  refine ⟨q, c, cs, i, r, l, vs, rfl, D1, by omega, SqL.of hL, by omega, by omega, ne_of hL D1.hp (by intro z; cases z), fun x i' r' H' hx j0 j1 sb D' => ?_⟩
  exact k x i' r' H' (PV.sib D1.hp sb (hP x hx)) j0 j1 (Sib.trans (fun b o _ h => e1 b o h) sb) D'
theorem pk_var {C : V → String → Prop} {ls : Addr} {vs : List V} (j : Nat) (D : PenAt H q c cs i r) (hi : i < 2 ^ 38) (hL : H ls = some (.lst vs)) (hP : ∀ v ∈ vs, PV C H v) (hn : vs.length ≤ 100) (h0 : 0 < vs.length) (v0 : σ[0]? = some (some (.ref q))) (vj : σ[j]? = some (some (.ref ls)))
    (k : ∀ x i' r' H', PV C H' x → i ≤ i' → i' ≤ i + 1 → Sib q H H' → PenAt H' q c cs i' r' → Q x H') : tCall (spPick K) [] E0 (tCons (tVar 0) (tCons (tVar j) tNil)) σ H Q := by
  refine ⟨_, v0, _, vj, q, c, cs, i, r, ls, vs, rfl, D, by omega, SqL.of hL, h0, by omega, ne_of hL D.hp (by intro z; cases z), fun x i' r' H' hx j0 j1 sb D' => ?_⟩
  exact k x i' r' H' (PV.sib D.hp sb (hP x hx)) j0 j1 sb D'
end
/-- the facts that stay while odd things are drawn -/
structure Od (Hb : Hp) (TT : List (Addr × Str)) (q c t lo : Addr) (cs : List Int) (pl vs : List V) (H : Hp) (i r : Int) : Prop where
  D : PenAt H q c cs i r
  hT : Tabs TT H
  ht : H t = some (.tup pl)
  hlo : H lo = some (.lst vs)
  hP : ∀ v ∈ vs, PV C0 H v
  kp : KpT Hb H
section
variable {Hb : Hp} {TT : List (Addr × Str)} {q c t lo : Addr} {cs : List Int} {pl vs : List V} {H H' : Hp} {i r i' r' : Int}
theorem Od.ex (o : Od Hb TT q c t lo cs pl vs H i r) (e : Ex H H') : Od Hb TT q c t lo cs pl vs H' i r := ⟨o.D.keep e, o.hT.ext e, e _ _ o.ht, e _ _ o.hlo, fun v hv => (o.hP v hv).ex e, o.kp.trans (KpT.ex e)⟩
theorem Od.sib (o : Od Hb TT q c t lo cs pl vs H i r) (e : Sib q H H') (D' : PenAt H' q c cs i' r') : Od Hb TT q c t lo cs pl vs H' i' r' :=
  ⟨D', tabs_sib o.D.hp e o.hT, e _ _ (ne_of o.ht o.D.hp (by intro z; cases z)) o.ht, e _ _ (ne_of o.hlo o.D.hp (by intro z; cases z)) o.hlo, fun v hv => PV.sib o.D.hp e (o.hP v hv), o.kp.trans (KpT.sib o.D.hp e)⟩
end
/-- one of five values: a good one, a bad one -/
def I01 (K : PySem.W.Frag) (H : Hp) (v : V) (n : String) (g : Bool) : Prop := Knd K H v n ∧ goodK n g ∧ (g = true → ∃ r, v = .int r) ∧ (g = false → ∀ r, v ≠ .int r)
def I23 (K : PySem.W.Frag) (H : Hp) (v : V) (n : String) (g : Bool) : Prop := Knd K H v n ∧ kitB n "bool" = some g ∧ (g = true → ∃ b, v = .bl b) ∧ (g = false → ∀ b, v ≠ .bl b)
def I4 (K : PySem.W.Frag) (H : Hp) (v : V) (g : Bool) : Prop := (∃ sh, v = shV sh ∧ shOk sh ∧ g = shGood sh) ∨ (∃ n4 : String, Knd K H v n4 ∧ kitB n4 "str" = some false ∧ v ≠ .non ∧ g = false)
theorem i01_int {K : PySem.W.Frag} {H : Hp} {z : Int} : I01 K H (.int z) "int" true := ⟨knd_int, ⟨true, false, by decide +kernel, by decide +kernel, rfl⟩, fun _ => ⟨z, rfl⟩, fun z => nomatch z⟩
theorem i01_bad {K : PySem.W.Frag} {H : Hp} {v : V} (h : PV C01 H v) : ∃ n, I01 K H v n false := by
  obtain ⟨d, n, g, hc⟩ := h
  refine ⟨n, g.knd, hc, (fun z => nomatch z), fun _ r z => ?_⟩
  subst z
  cases g with
  | int i =>
    obtain ⟨a, b, h1, h2, h3⟩ := hc
    have z1 : kitB "int" "int" = some true := by decide +kernel
    have z2 : kitB "int" "bool" = some false := by decide +kernel
    rw [z1] at h1
    rw [z2] at h2
    cases h1
    cases h2
    cases h3
theorem i23_bl {K : PySem.W.Frag} {H : Hp} {b : Bool} : I23 K H (.bl b) "bool" true := ⟨knd_bl, by decide +kernel, fun _ => ⟨b, rfl⟩, fun z => nomatch z⟩
theorem i23_bad {K : PySem.W.Frag} {H : Hp} {v : V} (h : PV C23 H v) : ∃ n, I23 K H v n false := by
  obtain ⟨d, n, g, hc⟩ := h
  refine ⟨n, g.knd, hc, (fun z => nomatch z), fun _ r z => ?_⟩
  subst z
  cases g with
  | bl b =>
    have z1 : kitB "bool" "bool" = some true := by decide +kernel
    have hc : kitB "bool" "bool" = some false := hc
    rw [z1] at hc
    cases hc
theorem i4_sh {K : PySem.W.Frag} {H : Hp} {sh : Option (List Nat)} (so : shOk sh) (sg2 : shGood sh = true) : I4 K H (shV sh) true := .inl ⟨sh, rfl, so, sg2.symm⟩
theorem i4_bad {K : PySem.W.Frag} {H : Hp} {v : V} (h : PV C4 H v) : I4 K H v false := by
  obtain ⟨d, n, g, hc⟩ := h
  rcases hc with ⟨l, rfl, a, b, c⟩ | ⟨h1, h2⟩
  · exact .inl ⟨some l, rfl, ⟨a, b⟩, c.symm⟩
  · exact .inr ⟨n, g.knd, h1, h2, rfl⟩
/-- Address of five values one of which is bad: the first bad one is told -/
theorem made_any {K : PySem.W.Frag} {p : AdC} {CB : Addr} {H : Hp} {Q : VK} {E : XK} {t : Addr} {v0 v1 v2 v3 v4 : V} {n0 n1 n2 n3 : String} {g0 g1 g2 g3 g4 : Bool} (ht : H t = some (.lst [v0, v1, v2, v3, v4])) (h0 : I01 K H v0 n0 g0) (h1 : I01 K H v1 n1 g1) (h2 : I23 K H v2 n2 g2) (h3 : I23 K H v3 n3 g3) (h4 : I4 K H v4 g4)
    (b0 : g0 = false → bad CB "value" H v0 E) (b1 : g0 = true → g1 = false → bad CB "value" H v1 E) (b2 : g0 = true → g1 = true → g2 = false → bad CB "value" H v2 E) (b3 : g0 = true → g1 = true → g2 = true → g3 = false → bad CB "value" H v3 E) (b4 : g0 = true → g1 = true → g2 = true → g3 = true → g4 = false → bad CB "value" H v4 E)
    (bk : ¬ (g0 = true ∧ g1 = true ∧ g2 = true ∧ g3 = true ∧ g4 = true)) : spMade K p CB [.ref t] H Q E := by
  refine ⟨t, v0, v1, v2, v3, v4, n0, n1, n2, n3, g0, g1, g2, g3, g4, rfl, .inr ht, ⟨h0.1, h1.1, h2.1, h3.1, h0.2.1, h1.2.1, h2.2.1, h3.2.1, h0.2.2.1, h1.2.2.1, h2.2.2.1, h3.2.2.1, h4⟩, b0, b1, b2, b3, b4, ?_⟩
  intro r c fr fc sh e0 e1 e2 e3 e4 e5
  exfalso
  refine bk ⟨?_, ?_, ?_, ?_, e5⟩
  · cases g0 with
    | true => rfl
    | false => exact absurd e0 (h0.2.2.2 rfl r)
  · cases g1 with
    | true => rfl
    | false => exact absurd e1 (h1.2.2.2 rfl c)
  · cases g2 with
    | true => rfl
    | false => exact absurd e2 (h2.2.2.2 rfl fr)
  · cases g3 with
    | true => rfl
    | false => exact absurd e3 (h3.2.2.2 rfl fc)
theorem shaped2 {x : Str} {d : PyData} (hx : PyData.strOk x = true) (hd : PyData.canLay0 d = true) (h1 : PyData.depth d ≤ 1) : SeqAt.shaped (.tuple [.str x, d]) = true := by
  unfold SeqAt.shaped
  refine Bool.and_eq_true_iff.mpr ⟨?_, decide_eq_true ?_⟩
  · show (PyData.strOk x && (PyData.canLay0 d && true)) = true
    rw [hx, hd]
    rfl
  · show max 0 (max (PyData.depth d) 0) + 1 ≤ 64
    omega
theorem bad_eqv {d : PyData} (h : PyData.eqv d d = true) : PyData.eqv (.tuple [.str "BadValue", d]) (.tuple [.str "BadValue", d]) = true := by
  show ((("BadValue" : Str) == "BadValue") && (PyData.eqv d d && true)) = true
  rw [h]
  simp
end K16

set_option Elab.async false
set_option linter.all false
set_option maxRecDepth 100000
set_option maxHeartbeats 4000000
namespace K16
open PySem PySem.Spec PyProof.Rows L2 Pen EV2 Evl TX LamX
abbrev s_l_odd_right : Stmt := topS 60
abbrev N_l_odd_right : List Str := ["_law_pen_here", "_law_place_here", "_law_odds", "_law_bad", "_law_sheets", "_law_at", "_law_off", "_law_k", "_law_fields", "_law_thing"]
abbrev P_l_odd_right : List Str := ["_law_pen_here", "_law_place_here"]
theorem sc_l_odd_right : FnScope N_l_odd_right P_l_odd_right (defScope s_l_odd_right) := ⟨rfl, rfl, rfl, by decide +kernel, rfl, by decide +kernel, by decide +kernel⟩

/-- kinds beside Address -/
structure TxtK (K : PySem.W.Frag) (C : Addr) : Prop where
  z_non : PySem.W.kitOne K (.type "NoneType") (.ref C) = some false
  z_int : PySem.W.kitOne K (.type "int") (.ref C) = some false
  z_bool : PySem.W.kitOne K (.type "bool") (.ref C) = some false
  z_list : PySem.W.kitOne K (.type "list") (.ref C) = some false
def CR (hi : Int) (v : V) (_ : String) : Prop := ∃ z : Int, v = .int z ∧ (z < 1 ∨ hi < z)
structure Of (Hb : Hp) (TT : List (Addr × Str)) (q c t lc : Addr) (cs : List Int) (pl : List V) (b0 b1 b2 b3 b4 : V) (H : Hp) (i r : Int) : Prop where
  D : PenAt H q c cs i r
  hT : Tabs TT H
  ht : H t = some (.tup pl)
  hlc : H lc = some (.lst [b0, b1, b2, b3, b4])
  p0 : PV C01 H b0
  p1 : PV C01 H b1
  p2 : PV C23 H b2
  p3 : PV C23 H b3
  p4 : PV C4 H b4
  kp : KpT Hb H
section
variable {Hb : Hp} {TT : List (Addr × Str)} {q c t lc lf : Addr} {cs : List Int} {pl : List V} {b0 b1 b2 b3 b4 : V} {H H' : Hp} {i r i' r' : Int}
theorem Of.ex (o : Of Hb TT q c t lc cs pl b0 b1 b2 b3 b4 H i r) (e : Ex H H') : Of Hb TT q c t lc cs pl b0 b1 b2 b3 b4 H' i r := ⟨o.D.keep e, o.hT.ext e, e _ _ o.ht, e _ _ o.hlc, o.p0.ex e, o.p1.ex e, o.p2.ex e, o.p3.ex e, o.p4.ex e, o.kp.trans (KpT.ex e)⟩
theorem Of.extN (o : Of Hb TT q c t lc cs pl b0 b1 b2 b3 b4 H i r) (e : ExtN H H') (hT : Tabs TT H') : Of Hb TT q c t lc cs pl b0 b1 b2 b3 b4 H' i r := ⟨pen_extN o.D e, hT, e _ _ o.ht (fun _ z => by cases z), extN_lst e o.hlc, o.p0.extN e, o.p1.extN e, o.p2.extN e, o.p3.extN e, o.p4.extN e, o.kp.trans (KpT.extN e)⟩
theorem Of.sib (o : Of Hb TT q c t lc cs pl b0 b1 b2 b3 b4 H i r) (e : Sib q H H') (D' : PenAt H' q c cs i' r') : Of Hb TT q c t lc cs pl b0 b1 b2 b3 b4 H' i' r' :=
  ⟨D', tabs_sib o.D.hp e o.hT, e _ _ (ne_of o.ht o.D.hp (by intro z; cases z)) o.ht, e _ _ (ne_of o.hlc o.D.hp (by intro z; cases z)) o.hlc, PV.sib o.D.hp e o.p0, PV.sib o.D.hp e o.p1, PV.sib o.D.hp e o.p2, PV.sib o.D.hp e o.p3, PV.sib o.D.hp e o.p4, o.kp.trans (KpT.sib o.D.hp e)⟩
theorem Of.put (o : Of Hb TT q c t lc cs pl b0 b1 b2 b3 b4 H i r) {xs ys : List V} (hl : H lf = some (.lst xs)) (h1 : xs.length ≠ 1) (n1 : lf ≠ c) (n2 : lc ≠ lf) : Of Hb TT q c t lc cs pl b0 b1 b2 b3 b4 (upd H lf (.lst ys)) i r :=
  ⟨pen_put o.D hl n1, tabs_put hl o.hT, KpT.put hl _ _ o.ht, by rw [upd_ne n2]; exact o.hlc, PV.put hl h1 o.p0, PV.put hl h1 o.p1, PV.put hl h1 o.p2, PV.put hl h1 o.p3, PV.put hl h1 o.p4, o.kp.trans (KpT.put hl)⟩
end
section
variable {P : Program} {w : World} {K : PySem.W.Frag} {mg : Str → Option Value} {base : Heap} {ph : AdL} {pc : Ads} {pg : AdG} {pa : AdC} {D NC : Addr} {mv : List Value} {p6 : AdN6} {fR fA : Addr} {dR dA : FuncData} {CM fT : Addr} {dT : FuncData} {TT : List (Addr × Str)}
theorem ok_l_odd_right (TH : TxtH K mg ph) (TC : TxtC K mg pc) (TG : TxtG K mg pg) (TA : TxtA6 K mg pc.S pa) (Z : TxtB K mg pa D) (M : TxtM K pa NC mv) (KK : TxtK K pa.C) (TM : TxtN6 K mg p6) (TF : TxtF K mg fR fA dR dA) (R : TxtR K mg pc pa.CO CM pa.iO pa.dO fT dT) {f c P1 : Addr} {fd : FuncData} (F : FunC K "_law_odd_right" "_law_odd_right" s_l_odd_right f c fd)
    (hTB : TabB base mg c P1) (hmT : (P1, qOf "_law_odd_right") ∈ TT) (hu : ∀ x ∈ TT, x.1 = P1 → x.2 = qOf "_law_odd_right") : FnOk P w K mg base CX0 10 f fd P_l_odd_right (spRt TT 30) := by
  have TAa : TxtA mg := ⟨TH.n_list, TH.n_int, TH.n_len⟩
  have G_l_made : FnOk P w K mg base (L2.CX P w) 6 p6.f_made p6.d_made P_l_made (spMade K pa pc.CB) := ok_l_made TC TG TA Z TM
  have G_l_draw : FnOk P w K mg base CX0 1 ph.f_draw ph.d_draw P_l_draw spDraw := ok_l_draw TH.F_l_draw TAa
  have G_l_pick : FnOk P w K mg base CX0 2 ph.f_pick ph.d_pick P_l_pick (spPick K) := ok_l_pick TH.F_l_pick TAa TH.F_l_draw TH.b_l_draw TH.mg_l_draw
  have G_address_text : FnOk P w K mg base (L2.CX P w) 5 fA dA P_address_text (spAdrText K pa.C pc.CB) := ok_address_text TC TG TA Z TF.F_address_text
  have G_read_address : FnOk P w K mg base (L2.CX P w) 6 fR dR P_read_address (spReadA K pa.C pc.CB pc.CN) := ok_read_address TC TG TA Z TF.F_read_address
  have RT := R.RT
  have hbT := R.b_told
  obtain ⟨oc, od, kV, doc, pm, an, cdv, ct, osl, hfd, lk, hcg⟩ := R.F_told.ex
  subst hfd
  refine F.ok sc_l_odd_right (fun vs H Q E h => ?_) (fun A outer s H vs Q E hr h => ?_)
  · obtain ⟨q, c, cs, i, r, t, n, m, fr, fc, sh, rfl, _⟩ := h
    rfl
  · obtain ⟨q, c0, cs, i, r, t, n, m, fr, fc, sh, rfl, D0, hi, ht, n1, n2, m1, m2, so, sg2, hT, k⟩ := h
    refine ⟨_, (pss_cons (ps_set (i := 2) sc_l_odd_right.nd rfl (Or.inl rfl) (pe_lst (pa_cons pe_non (pa_cons pe_str (pa_cons (pe_lst (pa_cons pe_int pa_nil)) (pa_cons (pe_tup (pa_cons pe_int pa_nil)) pa_nil))))))
      (pss_cons (ps_set (i := 3) sc_l_odd_right.nd rfl (Or.inl rfl) (pe_lst (pa_cons (pe_call G_l_pick (hr.mono (by decide)) (by rfl) TH.mg_l_pick TH.F_l_pick.kp TH.b_l_pick .nil pass0 (pa_cons (pv 0) (pa_cons (pe_op op_cat (pv 2) (pe_lst (pa_cons pe_bl pa_nil))) pa_nil))) (pa_cons (pe_call G_l_pick (hr.mono (by decide)) (by rfl) TH.mg_l_pick TH.F_l_pick.kp TH.b_l_pick .nil pass0 (pa_cons (pv 0) (pa_cons (pe_op op_cat (pv 2) (pe_lst (pa_cons pe_bl pa_nil))) pa_nil))) (pa_cons (pe_call G_l_pick (hr.mono (by decide)) (by rfl) TH.mg_l_pick TH.F_l_pick.kp TH.b_l_pick .nil pass0 (pa_cons (pv 0) (pa_cons (pe_op op_cat (pv 2) (pe_lst (pa_cons pe_int (pa_cons pe_int pa_nil)))) pa_nil))) pa_nil)))))
      (pss_cons (ps_set (i := 4) sc_l_odd_right.nd rfl (Or.inl rfl) (pe_lst (pa_cons pe_str (pa_cons pe_str (pa_cons pe_str (pa_cons pe_str (pa_cons pe_str (pa_cons pe_int (pa_cons pe_bl (pa_cons (pe_lst (pa_cons pe_str pa_nil)) pa_nil))))))))))
      (pss_cons (ps_set (i := 3) sc_l_odd_right.nd rfl (Or.inl rfl) (pe_op op_cat (pv 3) (pe_lst (pa_cons (pe_call G_l_pick (hr.mono (by decide)) (by rfl) TH.mg_l_pick TH.F_l_pick.kp TH.b_l_pick .nil pass0 (pa_cons (pv 0) (pa_cons (pe_op op_cat (pv 2) (pe_lst (pa_cons pe_int (pa_cons pe_int pa_nil)))) pa_nil))) (pa_cons (pe_call G_l_pick (hr.mono (by decide)) (by rfl) TH.mg_l_pick TH.F_l_pick.kp TH.b_l_pick .nil pass0 (pa_cons (pv 0) (pa_cons (pv 4) pa_nil))) pa_nil)))))
      (pss_cons (ps_par (i := 5) (j := 6) (by rfl) sc_l_odd_right.nd rfl rfl (by decide) rfl rfl (pa_cons (pe_call G_l_draw (hr.mono (by decide)) (by rfl) TH.mg_l_draw TH.F_l_draw.kp TH.b_l_draw .nil pass0 (pa_cons (pv 0) (pa_cons pe_int pa_nil))) (pa_cons (pe_tup (pa_cons (pe_call G_l_pick (hr.mono (by decide)) (by rfl) TH.mg_l_pick TH.F_l_pick.kp TH.b_l_pick .nil pass0 (pa_cons (pv 0) (pa_cons (pe_lst (pa_cons pe_int (pa_cons (pe_un un_neg pe_int) (pa_cons pe_int pa_nil)))) pa_nil))) (pa_cons (pe_call G_l_pick (hr.mono (by decide)) (by rfl) TH.mg_l_pick TH.F_l_pick.kp TH.b_l_pick .nil pass0 (pa_cons (pv 0) (pa_cons (pe_lst (pa_cons pe_int (pa_cons pe_int pa_nil))) pa_nil))) pa_nil))) pa_nil)) (by rfl))
      (pss_cons (ps_set (i := 8) sc_l_odd_right.nd rfl (Or.inr rfl) (pe_lst (pa_cons (pe_ix ix_tup (pv 6) pe_int (fun _ _ => rfl)) (pa_cons (pe_ix ix_tup (pv 6) pe_int (fun _ _ => rfl)) (pa_cons (pe_ix ix_tup (pv 1) pe_int (fun _ _ => rfl)) (pa_cons (pe_ix ix_tup (pv 1) pe_int (fun _ _ => rfl)) (pa_cons (pe_ix ix_tup (pv 1) pe_int (fun _ _ => rfl)) pa_nil)))))))
      (pss_cons (ps_if (pt_cmpR (op_neD hr.units) (pe_lamcall (T := TT) (TT := TT5 pc.CB pc.CN pa.CO) (t := fun E => tCall (spMade K pa pc.CB) [] E (tCons (tVar 8) tNil)) (k := 6) (by rfl) R.mg_told R.F_told.kp lk hcg hbT sc_l_told rfl (Or.inl rfl) (told_gives RT) hTB rfl hmT hu (hr.mono (by decide)) (lamS_by (sc := defScope s_l_odd_right) (by decide +kernel)) rfl (fun _ _ _ _ _ => rfl)
        (fun A outer s H E f c' hr2 => (pe_call G_l_made (hr2.mono (by decide)) (by rfl) TM.mg_l_made TM.F_l_made.kp TM.b_l_made .nil (passes_call (takes_of rfl rfl rfl rfl) fun _ _ _ _ h => h) (pa_cons (pv 8) pa_nil)))) (pe_tup (pa_cons pe_str (pa_cons (pe_ix ix_tup (pv 6) pe_int (fun _ _ => rfl)) (pa_cons (pe_ix ix_tup (pv 6) pe_int (fun _ _ => rfl)) pa_nil)))) (nomark _)) (pss_one (ps_ret pe_bl)) pss_nil)
      (pss_cons (ps_for PassesOwn.never rfl (pi_range2 (by rfl) TH.n_range (pa_cons (pv 5) (pa_cons pe_int pa_nil))) (pg_name (i := 7) sc_l_odd_right.nd rfl (Or.inl rfl)) (pss_one (ps_if (PW.pt (pw_or (pt_cmpR op_eq (pv 7) (pv 5) (nomark _)) (pw_or1 (pt_cmpR op_eq (pe_call G_l_draw (hr.mono (by decide)) (by rfl) TH.mg_l_draw TH.F_l_draw.kp TH.b_l_draw .nil pass0 (pa_cons (pv 0) (pa_cons pe_int pa_nil))) pe_int (nomark _))))) (pss_one (ps_asg (pe_ix ix_list (pv 3) (pv 7) (fun _ _ => rfl)) (pg_sub (pv 8) (pv 7) set_list))) pss_nil)))
      (pss_cons (ps_if (pt_cmpR (op_neD hr.units) (pe_lamcall (T := TT) (TT := TT5 pc.CB pc.CN pa.CO) (t := fun E => tCall (spMade K pa pc.CB) [] E (tCons (tVar 8) tNil)) (k := 6) (by rfl) R.mg_told R.F_told.kp lk hcg hbT sc_l_told rfl (Or.inl rfl) (told_gives RT) hTB rfl hmT hu (hr.mono (by decide)) (lamS_by (sc := defScope s_l_odd_right) (by decide +kernel)) rfl (fun _ _ _ _ _ => rfl)
        (fun A outer s H E f c' hr2 => (pe_call G_l_made (hr2.mono (by decide)) (by rfl) TM.mg_l_made TM.F_l_made.kp TM.b_l_made .nil (passes_call (takes_of rfl rfl rfl rfl) fun _ _ _ _ h => h) (pa_cons (pv 8) pa_nil)))) (pe_tup (pa_cons pe_str (pa_cons (pe_ix ix_list (pv 3) (pv 5) (fun _ _ => rfl)) pa_nil))) (nomark _)) (pss_one (ps_ret pe_bl)) pss_nil)
      (pss_cons (ps_set (i := 9) sc_l_odd_right.nd rfl (Or.inr rfl) (pe_call G_l_pick (hr.mono (by decide)) (by rfl) TH.mg_l_pick TH.F_l_pick.kp TH.b_l_pick .nil pass0 (pa_cons (pv 0) (pa_cons (pe_lst (pa_cons pe_non (pa_cons pe_int (pa_cons pe_bl (pa_cons (pe_lst (pa_cons pe_str pa_nil)) (pa_cons (pe_tup (pa_cons pe_str pa_nil)) pa_nil)))))) pa_nil))))
      (pss_cons (ps_if (pt_cmpR (op_neD hr.units) (pe_lamcall (T := TT) (TT := TT5 pc.CB pc.CN pa.CO) (t := fun E => tCall (spReadA K pa.C pc.CB pc.CN) [] E (tCons (tVar 9) tNil)) (k := 6) (by rfl) R.mg_told R.F_told.kp lk hcg hbT sc_l_told rfl (Or.inl rfl) (told_gives RT) hTB rfl hmT hu (hr.mono (by decide)) (lamS_by (sc := defScope s_l_odd_right) (by decide +kernel)) rfl (fun _ _ _ _ _ => rfl)
        (fun A outer s H E f c' hr2 => (pe_call G_read_address (hr2.mono (by decide)) (by rfl) TF.mg_read_address TF.F_read_address.kp TF.b_read_address .nil (passes_call (takes_of rfl rfl rfl rfl) fun _ _ _ _ h => h) (pa_cons (pv 9) pa_nil)))) (pe_tup (pa_cons pe_str (pa_cons (pv 9) pa_nil))) (nomark _)) (pss_one (ps_ret pe_bl)) pss_nil)
      (pss_one (ps_ret (pe_cmpR (op_eqD hr.units) (pe_lamcall (T := TT) (TT := TT5 pc.CB pc.CN pa.CO) (t := fun E => tCall (spAdrText K pa.C pc.CB) [] E (tCons (tVar 9) tNil)) (k := 6) (by rfl) R.mg_told R.F_told.kp lk hcg hbT sc_l_told rfl (Or.inl rfl) (told_gives RT) hTB rfl hmT hu (hr.mono (by decide)) (lamS_by (sc := defScope s_l_odd_right) (by decide +kernel)) rfl (fun _ _ _ _ _ => rfl)
        (fun A outer s H E f c' hr2 => (pe_call G_address_text (hr2.mono (by decide)) (by rfl) TF.mg_address_text TF.F_address_text.kp TF.b_address_text .nil (passes_call (takes_of rfl rfl rfl rfl) fun _ _ _ _ h => h) (pa_cons (pv 9) pa_nil)))) (pe_tup (pa_cons pe_str (pa_cons (pv 9) pa_nil))) (nomark _))))))))))))))), ?_⟩
    -- odds
    refine q_asgK ?_
    refine rd_ps (P := PV C0) (n := 4) PV.st ?h0 (by decide) fun lo vs H1 nlo e1 hlo hlen hP => ?_
    case h0 =>
      refine eps_cons PV.st (ep_v ev_c fun _ => ⟨_, _, .non, c01_non, (by show kitB "NoneType" "bool" = some false; decide +kernel)⟩) ?_
      refine eps_cons PV.st (ep_v ev_c fun _ => ⟨_, _, .str _ (by decide +kernel), c01_str, (by show kitB "str" "bool" = some false; decide +kernel)⟩) ?_
      refine eps_cons PV.st (ep_lst ev_c fun a H h => ⟨_, _, .lst h (.int 1), c01_lst, (by show kitB "list" "bool" = some false; decide +kernel)⟩) ?_
      refine eps_cons PV.st (ep_tup ev_c fun a H h => ⟨_, _, .tup h (.int 2), c01_tup, (by show kitB "tuple" "bool" = some false; decide +kernel)⟩) ?_
      exact eps_nil
    have O1 : Od H TT q c0 t lo cs (plc n m fr fc sh) vs H1 i r := ⟨D0.keep e1, hT.ext e1, e1 _ _ ht, hlo, hP, KpT.ex e1⟩
    have z01 : ∀ v n, C0 v n → C01 v n := fun v n h => h.1
    have z23 : ∀ v n, C0 v n → C23 v n := fun v n h => h.2
    have exb : ∀ {H : Hp} {b : Bool}, ∀ v ∈ [V.bl b], PV C01 H v := fun {H b} v hv => by
      rw [List.mem_singleton.mp hv]
      exact ⟨_, _, .bl b, c01_bl⟩
    have exi : ∀ {H : Hp}, ∀ v ∈ [V.int 1, V.int 0], PV C23 H v := fun {H} v hv => by
      rcases List.mem_cons.mp hv with h | h
      · rw [h]; exact ⟨_, _, .int 1, (by show kitB "int" "bool" = some false; decide +kernel)⟩
      · rw [List.mem_singleton.mp h]; exact ⟨_, _, .int 0, (by show kitB "int" "bool" = some false; decide +kernel)⟩
    -- bad
    refine q_asgK ?_
    refine pk_cat (K := K) [.bl true] z01 O1.D (by omega) O1.hlo O1.hP (by omega) (ea_cons ev_c ea_nil) exb (by decide) (by decide) (by rfl) (by rfl) fun b0 i2 r2 H2 p0 j0 j1 sb2 D2 => ?_
    have O2 := O1.sib sb2 D2
    refine pk_cat (K := K) [.bl false] z01 O2.D (by omega) O2.hlo O2.hP (by omega) (ea_cons ev_c ea_nil) exb (by decide) (by decide) (by rfl) (by rfl) fun b1 i3 r3 H3 p1 j2 j3 sb3 D3 => ?_
    have O3 := O2.sib sb3 D3
    have p0 := PV.sib O2.D.hp sb3 p0
    refine pk_cat (K := K) [.int 1, .int 0] z23 O3.D (by omega) O3.hlo O3.hP (by omega) (ea_cons ev_c (ea_cons ev_c ea_nil)) exi (by decide) (by decide) (by rfl) (by rfl) fun b2 i4 r4 H4 p2 j4 j5 sb4 D4 => ?_
    have O4 := O3.sib sb4 D4
    have p0 := PV.sib O3.D.hp sb4 p0
    have p1 := PV.sib O3.D.hp sb4 p1
    refine ⟨by show 3 ≤ sizeLine; decide, fun lb nlb => ?_⟩
    have e5 : Ex H4 (upd H4 lb (.lst [b0, b1, b2])) := Ex.new nlb
    have hlb : (upd H4 lb (.lst [b0, b1, b2])) lb = some (.lst [b0, b1, b2]) := upd_same
    generalize (upd H4 lb (.lst [b0, b1, b2])) = H5 at *
    have O5 := O4.ex e5
    have p0 := p0.ex e5
    have p1 := p1.ex e5
    have p2 := p2.ex e5
    -- sheets
    refine q_asgK ?_
    refine rd_ps (P := PV C4) (n := 8) PV.st ?h1 (by decide) fun ls us H6 nls e6 hls hlen4 hP4 => ?_
    case h1 =>
      have st4 : ∀ {x : Str} {l : List Nat} {H : Hp}, x = S l → (∀ c ∈ l, c < 128) → l.length ≤ 1000 → sheetOk l = false → PyData.strOk x = true → PV C4 H (.str x) := fun e a b c d => ⟨_, _, .str _ d, .inl ⟨_, congrArg V.str e, a, b, c⟩⟩
      refine eps_cons PV.st (ep_v ev_c fun _ => st4 (l := []) (by decide +kernel) (by decide) (by decide) (by decide +kernel) (by decide +kernel)) ?_
      refine eps_cons PV.st (ep_v ev_c fun _ => st4 (l := [49, 97]) (by decide +kernel) (by decide) (by decide) (by decide +kernel) (by decide +kernel)) ?_
      refine eps_cons PV.st (ep_v ev_c fun _ => st4 (l := [97, 32, 98]) (by decide +kernel) (by decide) (by decide) (by decide +kernel) (by decide +kernel)) ?_
      refine eps_cons PV.st (ep_v ev_c fun _ => st4 (l := [97, 98, 99, 100, 101, 102, 103, 104, 105, 106, 107, 108, 109]) (by decide +kernel) (by decide) (by decide) (by decide +kernel) (by decide +kernel)) ?_
      refine eps_cons PV.st (ep_v ev_c fun _ => st4 (l := [65, 33]) (by decide +kernel) (by decide) (by decide) (by decide +kernel) (by decide +kernel)) ?_
      refine eps_cons PV.st (ep_v ev_c fun _ => ⟨_, _, .int 1, .inr ⟨by decide +kernel, fun z => nomatch z⟩⟩) ?_
      refine eps_cons PV.st (ep_v ev_c fun _ => ⟨_, _, .bl true, .inr ⟨by decide +kernel, fun z => nomatch z⟩⟩) ?_
      refine eps_cons PV.st (ep_lst ev_c fun a H h => ⟨_, _, .lst h (.str _ (by decide +kernel)), .inr ⟨by decide +kernel, fun z => nomatch z⟩⟩) ?_
      exact eps_nil
    have O6 := O5.ex e6
    have p0 := p0.ex e6
    have p1 := p1.ex e6
    have p2 := p2.ex e6
    have hlb := e6 _ _ hlb
    -- bad + ..
    refine q_asgK ⟨_, rfl, ?_⟩
    refine pk_cat (K := K) [.int 1, .int 0] z23 O6.D (by omega) O6.hlo O6.hP (by omega) (ea_cons ev_c (ea_cons ev_c ea_nil)) exi (by decide) (by decide) (by rfl) (by rfl) fun b3 i7 r7 H7 p3 j6 j7 sb7 D7 => ?_
    have O7 := O6.sib sb7 D7
    have p0 := PV.sib O6.D.hp sb7 p0
    have p1 := PV.sib O6.D.hp sb7 p1
    have p2 := PV.sib O6.D.hp sb7 p2
    have hlb := sb7 _ _ (ne_of hlb O6.D.hp (by intro z; cases z)) hlb
    have hls := sb7 _ _ (ne_of hls O6.D.hp (by intro z; cases z)) hls
    have hP4 : ∀ v ∈ us, PV C4 H7 v := fun v hv => PV.sib O6.D.hp sb7 (hP4 v hv)
    refine pk_var (K := K) 4 O7.D (by omega) hls hP4 (by omega) (by omega) (by rfl) (by rfl) fun b4 i8 r8 H8 p4 j8 j9 sb8 D8 => ?_
    have O8 := O7.sib sb8 D8
    have p0 := PV.sib O7.D.hp sb8 p0
    have p1 := PV.sib O7.D.hp sb8 p1
    have p2 := PV.sib O7.D.hp sb8 p2
    have p3 := PV.sib O7.D.hp sb8 p3
    have hlb := sb8 _ _ (ne_of hlb O7.D.hp (by intro z; cases z)) hlb
    refine ⟨by show 2 ≤ sizeLine; decide, fun l2 nl2 => ⟨lb, l2, [b0, b1, b2], [b3, b4], rfl, rfl, ?_, upd_same, by show 5 ≤ sizeLine; decide, fun lc nlc => ?_⟩⟩
    · rw [upd_ne (ne_of_none hlb nl2)]
      exact hlb
    have e9 : Ex H8 (upd (upd H8 l2 (.lst [b3, b4])) lc (.lst ([b0, b1, b2] ++ [b3, b4]))) := (Ex.new nl2).trans (Ex.new nlc)
    have hlc : (upd (upd H8 l2 (.lst [b3, b4])) lc (.lst ([b0, b1, b2] ++ [b3, b4]))) lc = some (.lst [b0, b1, b2, b3, b4]) := upd_same
    generalize (upd (upd H8 l2 (.lst [b3, b4])) lc (.lst ([b0, b1, b2] ++ [b3, b4]))) = H9 at *
    have O9 := O8.ex e9
    have p0 := p0.ex e9
    have p1 := p1.ex e9
    have p2 := p2.ex e9
    have p3 := p3.ex e9
    have p4 := p4.ex e9
    have F9 : Of H TT q c0 t lc cs (plc n m fr fc sh) b0 b1 b2 b3 b4 H9 i8 r8 := ⟨O9.D, O9.hT, O9.ht, hlc, p0, p1, p2, p3, p4, O9.kp⟩
    clear O1 O2 O3 O4 O5 O6 O7 O8
    -- at, off
    refine ⟨_, rfl, q, c0, cs, i8, r8, 5, rfl, O9.D, by omega, by decide, by decide, fun z i10 r10 H10 z0 z1 j10 j11 sb10 D10 => ?_⟩
    have F10 := F9.sib sb10 D10
    obtain ⟨at_, rfl⟩ : ∃ at_ : Nat, z = at_ := ⟨z.toNat, by omega⟩
    have hat : at_ < 5 := by omega
    refine pk_lst (K := K) (C := CR 1000000) 3 F10.D (by omega) ?h2 (by decide) (by decide) (by rfl) fun a0 i11 r11 H11 q0 j12 j13 sb11 D11 => ?_
    case h2 =>
      refine eps_cons PV.st (ep_v ev_c fun _ => ⟨_, _, .int 0, 0, rfl, .inl (by decide)⟩) ?_
      refine eps_cons PV.st (ep_v (ev_un ev_c ru_neg) fun _ => ⟨_, _, .int (-3), -3, rfl, .inl (by decide)⟩) ?_
      refine eps_cons PV.st (ep_v ev_c fun _ => ⟨_, _, .int 1000001, 1000001, rfl, .inr (by decide)⟩) ?_
      exact eps_nil
    have F11 := F10.sib sb11 D11
    refine pk_lst (K := K) (C := CR 18278) 2 F11.D (by omega) ?h3 (by decide) (by decide) (by rfl) fun a1 i12 r12 H12 q1 j14 j15 sb12 D12 => ?_
    case h3 =>
      refine eps_cons PV.st (ep_v ev_c fun _ => ⟨_, _, .int 0, 0, rfl, .inl (by decide)⟩) ?_
      refine eps_cons PV.st (ep_v ev_c fun _ => ⟨_, _, .int 18279, 18279, rfl, .inr (by decide)⟩) ?_
      exact eps_nil
    have F12 := F11.sib sb12 D12
    obtain ⟨_, _, _, o0, rfl, ho0⟩ := q0
    obtain ⟨_, _, _, o1, rfl, ho1⟩ := q1
    have hgo : gridOk o0 o1 = false := by
      unfold gridOk
      rw [decide_eq_false (show ¬ (1 ≤ o0 ∧ o0 ≤ 1000000) by omega)]
      rfl
    refine ⟨by show 2 ≤ sizeLine; decide, fun lt nlt => ⟨_, _, rfl, ?_⟩⟩
    have e13 : Ex H12 (upd H12 lt (.tup [.int o0, .int o1])) := Ex.new nlt
    have hlt : (upd H12 lt (.tup [.int o0, .int o1])) lt = some (.tup [.int o0, .int o1]) := upd_same
    generalize (upd H12 lt (.tup [.int o0, .int o1])) = H13 at *
    have F13 := F12.ex e13
    -- fields
    have eF : EvL (tLst (tCons (tOp (rIxT K) (tVar 6) (tC (.int 0))) (tCons (tOp (rIxT K) (tVar 6) (tC (.int 1))) (tCons (tOp (rIxT K) (tVar 1) (tC (.int 2))) (tCons (tOp (rIxT K) (tVar 1) (tC (.int 3))) (tCons (tOp (rIxT K) (tVar 1) (tC (.int 4))) tNil)))))) [some (.ref q), some (.ref t), some (.ref lo), some (.ref lc), some (.ref ls), some (.int (at_ : Int)), some (.ref lt), none, none, none] H13 (plc o0 o1 fr fc sh) :=
      el_lst (ea_cons (ev_op (ev_var rfl) ev_c (rv_ixT (st_of hlt) (i := 0) rfl)) (ea_cons (ev_op (ev_var rfl) ev_c (rv_ixT (st_of hlt) (i := 1) rfl)) (ea_cons (ev_op (ev_var rfl) ev_c (rv_ixT (st_of F13.ht) (i := 2) rfl)) (ea_cons (ev_op (ev_var rfl) ev_c (rv_ixT (st_of F13.ht) (i := 3) rfl)) (ea_cons (ev_op (ev_var rfl) ev_c (rv_ixT (st_of F13.ht) (i := 4) rfl)) ea_nil))))) (by show 5 ≤ 100000; decide)
    try dsimp only
    refine q_asgK (eF H13 (Ex.refl H13) _ fun lf H14 nlf e14 hlf => ?_)
    have F14 := F13.ex e14
    have nlfc : lf ≠ c0 := fun z => by rw [z, F13.D.hc] at nlf; cases nlf
    have nlcf : lc ≠ lf := ne_of_none F13.hlc nlf
    have hlt14 := e14 _ _ hlt
    -- told(lambda: made(fields))
    refine ⟨F14.hT, fun H15 eN hT15 t0 nt0 => ?_⟩
    have F15 := (F14.extN eN hT15).ex (Ex.new (o := .tup [.str "nothing"]) nt0)
    have hlf15 := (Ex.new (o := .tup [.str "nothing"]) nt0) _ _ (extN_lst eN hlf)
    have hlt15 := (Ex.new (o := .tup [.str "nothing"]) nt0) _ _ (eN _ _ hlt14 (fun _ z => by cases z))
    generalize (upd H15 t0 (.tup [.str "nothing"])) = H16 at *
    refine ⟨_, rfl, ?_⟩
    unfold tNil
    dsimp only [List.cons_append, List.nil_append]
    refine made_ok (.inr hlf15) so sg2 (fun zz => absurd (hgo.symm.trans zz) (by decide)) fun _ d H17 e17 nd hd => ?_
    refine ⟨pa.CO, d, _, rfl, rfl, hd, .inr ⟨rfl, .int o0, .int o1, rfl, rfl, fun pr hpr => ?_⟩⟩
    have e18 := e17.trans (Ex.new (o := .tup [.str "OffGrid", .int o0, .int o1]) hpr)
    have hp18 : (upd H17 pr (.tup [.str "OffGrid", .int o0, .int o1])) pr = some (.tup [.str "OffGrid", .int o0, .int o1]) := upd_same
    generalize (upd H17 pr (.tup [.str "OffGrid", .int o0, .int o1])) = H18 at *
    refine (eu_tup (σ := [some (.ref q), some (.ref t), some (.ref lo), some (.ref lc), some (.ref ls), some (.int (at_ : Int)), some (.ref lt), none, some (.ref lf), none]) (vs := [.str "OffGrid", .int o0, .int o1]) (ea_cons ev_c (ea_cons (ev_op (ev_var (i := 6) rfl) ev_c (rv_ixT (st_of (e18 _ _ hlt15)) (i := 0) rfl)) (ea_cons (ev_op (ev_var (i := 6) rfl) ev_c (rv_ixT (st_of (e18 _ _ hlt15)) (i := 1) rfl)) ea_nil))) (by show 3 ≤ 100000; decide)) H18 (Ex.refl H18) _ fun u H19 nu e19 hu19 => ?_
    refine ⟨_, _, .tup (st_of (e19 _ _ hp18)) off_dp, .tup (st_of hu19) off_dp, off_shaped, off_shaped, ?_⟩
    refine ⟨_, rfl, ?_⟩
    try dsimp only
    rw [if_neg (by rw [off_eqv]; decide)]
    try unfold tNext
    try dsimp only
    have F19 := F15.ex (e18.trans e19)
    have hlf19 := (e18.trans e19) _ _ hlf15
    -- the loop
    refine ⟨_, rfl, (at_ : Int), 5, rfl, ⟨by omega, by omega, by decide, by decide⟩, ?_⟩
    refine for_range (lo := (at_ : Int)) (n := ((5 : Int) - at_).toNat) (fun j σ' H' => ∃ (ws : List V) (i' r' : Int) (kk : Option V), σ' = [some (.ref q), some (.ref t), some (.ref lo), some (.ref lc), some (.ref ls), some (.int (at_ : Int)), some (.ref lt), kk, some (.ref lf), none] ∧ H' lf = some (.lst ws) ∧ ws.length = 5 ∧
        (∀ x, x < 5 → ws[x]? = (plc o0 o1 fr fc sh)[x]? ∨ ws[x]? = [b0, b1, b2, b3, b4][x]?) ∧ (∀ x, x < at_ → ws[x]? = (plc o0 o1 fr fc sh)[x]?) ∧ (1 ≤ j → ws[at_]? = [b0, b1, b2, b3, b4][at_]?) ∧ Of H TT q c0 t lc cs (plc n m fr fc sh) b0 b1 b2 b3 b4 H' i' r' ∧ i ≤ i' ∧ i' ≤ i + 10 + j)
      ⟨_, i12, r12, none, rfl, hlf19, rfl, fun x _ => .inl rfl, fun x _ => rfl, (fun z => absurd z (by decide)), F19, by omega, by omega⟩ ?_ ?_
    · rintro j σ' H20 hj ⟨ws, i20, r20, kk, rfl, hlf20, wl, w1, w2, w3, F20, j20, j21⟩
      have hj5 : at_ + j < 5 := by omega
      have store : ∀ (i21 r21 : Int) (H21 : Hp) (Dn : Ends), H21 lf = some (.lst ws) → Of H TT q c0 t lc cs (plc n m fr fc sh) b0 b1 b2 b3 b4 H21 i21 r21 → i ≤ i21 → i21 ≤ i + 10 + (j : Int) + 1 →
          (∀ σ2 H2, (∃ (ws : List V) (i' r' : Int) (kk : Option V), σ2 = [some (.ref q), some (.ref t), some (.ref lo), some (.ref lc), some (.ref ls), some (.int (at_ : Int)), some (.ref lt), kk, some (.ref lf), none] ∧ H2 lf = some (.lst ws) ∧ ws.length = 5 ∧
        (∀ x, x < 5 → ws[x]? = (plc o0 o1 fr fc sh)[x]? ∨ ws[x]? = [b0, b1, b2, b3, b4][x]?) ∧ (∀ x, x < at_ → ws[x]? = (plc o0 o1 fr fc sh)[x]?) ∧ (1 ≤ j + 1 → ws[at_]? = [b0, b1, b2, b3, b4][at_]?) ∧ Of H TT q c0 t lc cs (plc n m fr fc sh) b0 b1 b2 b3 b4 H2 i' r' ∧ i ≤ i' ∧ i' ≤ i + 10 + ((j + 1 : Nat) : Int)) → Dn.nx σ2 H2) →
          tAsg (tOp (rIxL K) (tVar 3) (tVar 7)) (gSub (tVar 8) (tVar 7) rSetL) Dn [some (.ref q), some (.ref t), some (.ref lo), some (.ref lc), some (.ref ls), some (.int (at_ : Int)), some (.ref lt), some (.int ((at_ : Int) + (j : Int))), some (.ref lf), none] H21 := fun i21 r21 H21 Dn hlf21 F21 j22 j23 kn => by
        obtain ⟨bv, hbv⟩ : ∃ bv, [b0, b1, b2, b3, b4][at_ + j]? = some bv := ⟨_, List.getElem?_eq_getElem (by show at_ + j < 5; exact hj5)⟩
        have cast : ((at_ : Int) + (j : Int)) = ((at_ + j : Nat) : Int) := by omega
        refine ⟨_, rfl, _, rfl, lc, _, (at_ : Int) + (j : Int), bv, rfl, rfl, sq_of F21.hlc, by rw [cast]; exact atI_n hbv, _, rfl, _, rfl, lf, ws, (at_ : Int) + (j : Int), at_ + j, rfl, rfl, hlf21, ?_, ?_⟩
        · unfold ixN
          rw [wl, if_pos (by omega), if_pos (by omega)]
          congr 1
        · refine kn _ _ ⟨ws.set (at_ + j) bv, i21, r21, _, rfl, upd_same, by rw [List.length_set]; exact wl, fun x hx => ?_, fun x hx => ?_, fun _ => ?_, F21.put hlf21 (by omega) nlfc nlcf, j22, by omega⟩
          · rw [List.getElem?_set]
            by_cases hx2 : at_ + j = x
            · rw [if_pos hx2, if_pos (by omega), ← hx2]
              exact .inr hbv.symm
            · rw [if_neg hx2]
              exact w1 x hx
          · rw [List.getElem?_set, if_neg (by omega)]
            exact w2 x hx
          · rw [List.getElem?_set]
            by_cases hx2 : at_ + j = at_
            · rw [if_pos hx2, if_pos (by omega), ← hbv, hx2]
            · rw [if_neg hx2]
              exact w3 (by omega)
      refine (et_test (ev_op (ev_var (i := 7) rfl) (ev_var (i := 5) rfl) (rv_eq rfl))) H20 (Ex.refl H20) _ fun H21 e21 => ?_
      have F21 := F20.ex e21
      have hlf21 := e21 _ _ hlf20
      by_cases hj0 : j = 0
      · have z : decide (V.int ((at_ : Int) + (j : Int)) = V.int (at_ : Int)) = true := decide_eq_true (by rw [hj0]; congr 1)
        rw [if_pos z]
        exact store i20 r20 H21 _ hlf21 F21 j20 (by omega) fun σ2 H2 h => h
      · have z : ¬ decide (V.int ((at_ : Int) + (j : Int)) = V.int (at_ : Int)) = true := fun z => by
          have := V.int.inj (of_decide_eq_true z)
          omega
        rw [if_neg z]
        refine ⟨_, rfl, q, c0, cs, i20, r20, 2, rfl, F21.D, by omega, by decide, by decide, fun z i22 r22 H22 z0 z1 j22 j23 sb22 D22 => ⟨rfl, _, rfl, ?_⟩⟩
        have F22 := F21.sib sb22 D22
        have hlf22 := sb22 _ _ (ne_of hlf21 F21.D.hp (by intro z; cases z)) hlf21
        refine ite2 (fun _ => ?_) (fun _ => ?_)
        · exact store i22 r22 H22 _ hlf22 F22 (by omega) (by omega) fun σ2 H2 h => h
        · exact ⟨ws, i22, r22, _, rfl, hlf22, wl, w1, w2, fun _ => w3 (by omega), F22, by omega, by omega⟩
    · rintro σ' H20 ⟨ws, i20, r20, kk, rfl, hlf20, wl, w1, w2, w3, F20, j20, j21⟩
      have w3 := w3 (by omega)
      obtain ⟨x0, x1, x2, x3, x4, rfl⟩ : ∃ x0 x1 x2 x3 x4, ws = [x0, x1, x2, x3, x4] := by
        match ws, wl with
        | [a, b, c, d, e], _ => exact ⟨a, b, c, d, e, rfl⟩
      obtain ⟨bv, hbv⟩ : ∃ bv, [b0, b1, b2, b3, b4][at_]? = some bv := ⟨_, List.getElem?_eq_getElem (by show at_ < 5; exact hat)⟩
      have key : ∀ {H22 : Hp} {Q : VK} {E : XK}, Of H TT q c0 t lc cs (plc n m fr fc sh) b0 b1 b2 b3 b4 H22 i20 r20 → H22 lf = some (.lst [x0, x1, x2, x3, x4]) → bad pc.CB "value" H22 bv E → spMade K pa pc.CB [.ref lf] H22 Q E := fun {H22 Q E} F22 hl hb => by
        have k0 : ∃ n g, I01 K H22 x0 n g := by
          rcases w1 0 (by decide) with h | h
          · cases h; exact ⟨_, _, i01_int⟩
          · cases h; obtain ⟨n, z⟩ := i01_bad (K := K) F22.p0; exact ⟨n, _, z⟩
        have k1 : ∃ n g, I01 K H22 x1 n g := by
          rcases w1 1 (by decide) with h | h
          · cases h; exact ⟨_, _, i01_int⟩
          · cases h; obtain ⟨n, z⟩ := i01_bad (K := K) F22.p1; exact ⟨n, _, z⟩
        have k2 : ∃ n g, I23 K H22 x2 n g := by
          rcases w1 2 (by decide) with h | h
          · cases h; exact ⟨_, _, i23_bl⟩
          · cases h; obtain ⟨n, z⟩ := i23_bad (K := K) F22.p2; exact ⟨n, _, z⟩
        have k3 : ∃ n g, I23 K H22 x3 n g := by
          rcases w1 3 (by decide) with h | h
          · cases h; exact ⟨_, _, i23_bl⟩
          · cases h; obtain ⟨n, z⟩ := i23_bad (K := K) F22.p3; exact ⟨n, _, z⟩
        have k4 : ∃ g, I4 K H22 x4 g := by
          rcases w1 4 (by decide) with h | h
          · cases h; exact ⟨_, i4_sh so sg2⟩
          · cases h; exact ⟨_, i4_bad F22.p4⟩
        match at_, hat, w2, w3, hbv with
        | 0, _, w2, w3, hbv =>
          cases hbv
          cases w3
          obtain ⟨_, z0⟩ := i01_bad (K := K) F22.p0
          obtain ⟨_, _, z1⟩ := k1
          obtain ⟨_, _, z2⟩ := k2
          obtain ⟨_, _, z3⟩ := k3
          obtain ⟨_, z4⟩ := k4
          exact made_any hl z0 z1 z2 z3 z4 (fun _ => hb) (fun z => nomatch z) (fun z => nomatch z) (fun z => nomatch z) (fun z => nomatch z) (fun z => nomatch z.1)
        | 1, _, w2, w3, hbv =>
          cases hbv
          cases w3
          cases w2 0 (by decide)
          obtain ⟨_, z1⟩ := i01_bad (K := K) F22.p1
          obtain ⟨_, _, z2⟩ := k2
          obtain ⟨_, _, z3⟩ := k3
          obtain ⟨_, z4⟩ := k4
          exact made_any hl i01_int z1 z2 z3 z4 (fun z => nomatch z) (fun _ _ => hb) (fun _ z => nomatch z) (fun _ z => nomatch z) (fun _ z => nomatch z) (fun z => nomatch z.2.1)
        | 2, _, w2, w3, hbv =>
          cases hbv
          cases w3
          cases w2 0 (by decide)
          cases w2 1 (by decide)
          obtain ⟨_, z2⟩ := i23_bad (K := K) F22.p2
          obtain ⟨_, _, z3⟩ := k3
          obtain ⟨_, z4⟩ := k4
          exact made_any hl i01_int i01_int z2 z3 z4 (fun z => nomatch z) (fun _ z => nomatch z) (fun _ _ _ => hb) (fun _ _ z => nomatch z) (fun _ _ z => nomatch z) (fun z => nomatch z.2.2.1)
        | 3, _, w2, w3, hbv =>
          cases hbv
          cases w3
          cases w2 0 (by decide)
          cases w2 1 (by decide)
          cases w2 2 (by decide)
          obtain ⟨_, z3⟩ := i23_bad (K := K) F22.p3
          obtain ⟨_, z4⟩ := k4
          exact made_any hl i01_int i01_int i23_bl z3 z4 (fun z => nomatch z) (fun _ z => nomatch z) (fun _ _ z => nomatch z) (fun _ _ _ _ => hb) (fun _ _ _ z => nomatch z) (fun z => nomatch z.2.2.2.1)
        | 4, _, w2, w3, hbv =>
          cases hbv
          cases w3
          cases w2 0 (by decide)
          cases w2 1 (by decide)
          cases w2 2 (by decide)
          cases w2 3 (by decide)
          exact made_any hl i01_int i01_int i23_bl i23_bl (i4_bad F22.p4) (fun z => nomatch z) (fun _ z => nomatch z) (fun _ _ z => nomatch z) (fun _ _ _ z => nomatch z) (fun _ _ _ _ _ => hb) (fun z => nomatch z.2.2.2.2)
      have vbv : ∀ {H22 : Hp}, Of H TT q c0 t lc cs (plc n m fr fc sh) b0 b1 b2 b3 b4 H22 i20 r20 → ∃ d n, Vd H22 bv d n := fun {H22} F22 => by
        match at_, hat, hbv with
        | 0, _, hbv => cases hbv; obtain ⟨d, n, g, _⟩ := F22.p0; exact ⟨d, n, g⟩
        | 1, _, hbv => cases hbv; obtain ⟨d, n, g, _⟩ := F22.p1; exact ⟨d, n, g⟩
        | 2, _, hbv => cases hbv; obtain ⟨d, n, g, _⟩ := F22.p2; exact ⟨d, n, g⟩
        | 3, _, hbv => cases hbv; obtain ⟨d, n, g, _⟩ := F22.p3; exact ⟨d, n, g⟩
        | 4, _, hbv => cases hbv; obtain ⟨d, n, g, _⟩ := F22.p4; exact ⟨d, n, g⟩
      -- told(lambda: made(fields))
      refine ⟨F20.hT, fun H21 eN hT21 t1 nt1 => ?_⟩
      have F22 := (F20.extN eN hT21).ex (Ex.new (o := .tup [.str "nothing"]) nt1)
      have hlf22 := (Ex.new (o := .tup [.str "nothing"]) nt1) _ _ (extN_lst eN hlf20)
      generalize (upd H21 t1 (.tup [.str "nothing"])) = H22 at *
      refine ⟨_, rfl, ?_⟩
      dsimp only [List.cons_append, List.nil_append]
      refine key F22 hlf22 fun d H23 e23 nd hd => ?_
      obtain ⟨db, nb, gb⟩ := vbv F22
      refine ⟨pc.CB, d, _, rfl, rfl, hd, .inl ⟨"BadValue", "value", bv, .inl ⟨rfl, rfl, rfl⟩, rfl, fun pr hpr => ?_⟩⟩
      have e24 := e23.trans (Ex.new (o := .tup [.str "BadValue", bv]) hpr)
      have hp24 : (upd H23 pr (.tup [.str "BadValue", bv])) pr = some (.tup [.str "BadValue", bv]) := upd_same
      generalize (upd H23 pr (.tup [.str "BadValue", bv])) = H24 at *
      have F24 := F22.ex e24
      refine (eu_tup (σ := [some (.ref q), some (.ref t), some (.ref lo), some (.ref lc), some (.ref ls), some (.int (at_ : Int)), some (.ref lt), kk, some (.ref lf), none]) (vs := [.str "BadValue", bv]) (ea_cons ev_c (ea_cons (ev_op (ev_var (i := 3) rfl) (ev_var (i := 5) rfl) (rv_ixL (sq_of F24.hlc) (atI_n hbv))) ea_nil)) (by show 2 ≤ 100000; decide)) H24 (Ex.refl H24) _ fun u H25 nu e25 hu25 => ?_
      have gb25 := gb.ext (e24.trans e25)
      obtain ⟨c1, c2, c3⟩ := gb25.ok
      refine ⟨.tuple [.str "BadValue", db], .tuple [.str "BadValue", db], .tup (st_of (e25 _ _ hp24)) (.cons (.str _) (.cons gb25.dp .nil)), .tup (st_of hu25) (.cons (.str _) (.cons gb25.dp .nil)), shaped2 (by decide +kernel) c1 c2, shaped2 (by decide +kernel) c1 c2, ?_⟩
      refine ⟨_, rfl, ?_⟩
      try dsimp only
      rw [if_neg (by rw [bad_eqv c3]; decide)]
      try unfold tNext
      try dsimp only
      have F25 := F24.ex e25
      have q_ : q = q := rfl
      -- thing
      refine q_asgK ?_
      refine pk_lst (K := K) (C := C5) 5 F25.D (by omega) ?h5 (by decide) (by decide) (by rfl) fun th i26 r26 H26 q5 j26 j27 sb26 D26 => ?_
      case h5 =>
        refine eps_cons PV.st (ep_v ev_c fun _ => ⟨_, _, .non, by decide +kernel, .inl rfl⟩) ?_
        refine eps_cons PV.st (ep_v ev_c fun _ => ⟨_, _, .int 1, by decide +kernel, .inr (.inl rfl)⟩) ?_
        refine eps_cons PV.st (ep_v ev_c fun _ => ⟨_, _, .bl true, by decide +kernel, .inr (.inr (.inl rfl))⟩) ?_
        refine eps_cons PV.st (ep_lst ev_c fun a H h => ⟨_, _, .lst h (.str _ (by decide +kernel)), by decide +kernel, .inr (.inr (.inr (.inl rfl)))⟩) ?_
        refine eps_cons PV.st (ep_tup ev_c fun a H h => ⟨_, _, .tup h (.str _ (by decide +kernel)), by decide +kernel, .inr (.inr (.inr (.inr rfl)))⟩) ?_
        exact eps_nil
      have F26 := F25.sib sb26 D26
      obtain ⟨dt, nt, gt, kst, knt⟩ := q5
      have kC : PySem.W.kitOne K (.type nt) (.ref pa.C) = some false := by
        rcases knt with rfl | rfl | rfl | rfl | rfl
        · exact KK.z_non
        · exact KK.z_int
        · exact KK.z_bool
        · exact KK.z_list
        · exact M.z_tup
      try dsimp only
      -- told(lambda: read_address(thing))
      refine ⟨F26.hT, fun H27 eN2 hT27 t2 nt2 => ?_⟩
      have e28 : Ex H27 (upd H27 t2 (.tup [.str "nothing"])) := Ex.new nt2
      have F28 := (F26.extN eN2 hT27).ex e28
      have g28 := (gt.extN eN2).ext e28
      generalize (upd H27 t2 (.tup [.str "nothing"])) = H28 at *
      refine ⟨_, rfl, th, rfl, .inr ⟨nt, g28.knd, kst, fun d H29 e29 nd hd => ?_⟩⟩
      refine ⟨pc.CB, d, _, rfl, rfl, hd, .inl ⟨"BadValue", "value", th, .inl ⟨rfl, rfl, rfl⟩, rfl, fun pr hpr => ?_⟩⟩
      have e30 := e29.trans (Ex.new (o := .tup [.str "BadValue", th]) hpr)
      have hp30 : (upd H29 pr (.tup [.str "BadValue", th])) pr = some (.tup [.str "BadValue", th]) := upd_same
      generalize (upd H29 pr (.tup [.str "BadValue", th])) = H30 at *
      refine (eu_tup (σ := [some (.ref q), some (.ref t), some (.ref lo), some (.ref lc), some (.ref ls), some (.int (at_ : Int)), some (.ref lt), kk, some (.ref lf), some th]) (vs := [.str "BadValue", th]) (ea_cons ev_c (ea_cons (ev_var (i := 9) rfl) ea_nil)) (by show 2 ≤ 100000; decide)) H30 (Ex.refl H30) _ fun u2 H31 nu2 e31 hu31 => ?_
      have g31 := g28.ext (e30.trans e31)
      obtain ⟨c1, c2, c3⟩ := g31.ok
      refine ⟨.tuple [.str "BadValue", dt], .tuple [.str "BadValue", dt], .tup (st_of (e31 _ _ hp30)) (.cons (.str _) (.cons g31.dp .nil)), .tup (st_of hu31) (.cons (.str _) (.cons g31.dp .nil)), shaped2 (by decide +kernel) c1 c2, shaped2 (by decide +kernel) c1 c2, ?_⟩
      refine ⟨_, rfl, ?_⟩
      try dsimp only
      rw [if_neg (by rw [bad_eqv c3]; decide)]
      try unfold tNext
      try dsimp only
      have F31 := F28.ex (e30.trans e31)
      -- told(lambda: address_text(thing))
      refine ⟨F31.hT, fun H32 eN3 hT32 t3 nt3 => ?_⟩
      have e33 : Ex H32 (upd H32 t3 (.tup [.str "nothing"])) := Ex.new nt3
      have F33 := (F31.extN eN3 hT32).ex e33
      have g33 := (g31.extN eN3).ext e33
      generalize (upd H32 t3 (.tup [.str "nothing"])) = H33 at *
      refine ⟨_, rfl, th, rfl, .inr ⟨nt, g33.knd, kC, fun d H34 e34 nd hd => ?_⟩⟩
      refine ⟨pc.CB, d, _, rfl, rfl, hd, .inl ⟨"BadValue", "value", th, .inl ⟨rfl, rfl, rfl⟩, rfl, fun pr2 hpr2 => ?_⟩⟩
      have e35 := e34.trans (Ex.new (o := .tup [.str "BadValue", th]) hpr2)
      have hp35 : (upd H34 pr2 (.tup [.str "BadValue", th])) pr2 = some (.tup [.str "BadValue", th]) := upd_same
      generalize (upd H34 pr2 (.tup [.str "BadValue", th])) = H35 at *
      refine (eu_tup (σ := [some (.ref q), some (.ref t), some (.ref lo), some (.ref lc), some (.ref ls), some (.int (at_ : Int)), some (.ref lt), kk, some (.ref lf), some th]) (vs := [.str "BadValue", th]) (ea_cons ev_c (ea_cons (ev_var (i := 9) rfl) ea_nil)) (by show 2 ≤ 100000; decide)) H35 (Ex.refl H35) _ fun u3 H36 nu3 e36 hu36 => ?_
      have g36 := g33.ext (e35.trans e36)
      obtain ⟨c1, c2, c3⟩ := g36.ok
      refine ⟨.tuple [.str "BadValue", dt], .tuple [.str "BadValue", dt], .tup (st_of (e36 _ _ hp35)) (.cons (.str _) (.cons g36.dp .nil)), .tup (st_of hu36) (.cons (.str _) (.cons g36.dp .nil)), shaped2 (by decide +kernel) c1 c2, shaped2 (by decide +kernel) c1 c2, ?_⟩
      rw [bad_eqv c3]
      have F36 := F33.ex (e35.trans e36)
      exact k i26 r26 H36 (by omega) (by have h5 : ((5 : Int) - at_).toNat ≤ 5 := (by omega); omega) F36.kp F36.hT F36.D
end
end K16

set_option Elab.async false
set_option linter.all false
set_option maxRecDepth 100000
set_option maxHeartbeats 4000000
namespace K16
open PySem PySem.Spec PyProof.Rows L2 Pen EV2 Evl TX LamX
abbrev s_law : Stmt := topS 61
abbrev N_law : List Str := ["_law_script", "_law_pen_here", "_law_lap", "_law_place_here"]
abbrev P_law : List Str := ["_law_script"]
theorem sc_law : FnScope N_law P_law (defScope s_law) := ⟨rfl, rfl, rfl, by decide +kernel, rfl, by decide +kernel, by decide +kernel⟩

structure AdZ where
  f_step_right : Addr
  d_step_right : FuncData
  c_step_right : Addr
  t_step_right : Addr
  f_text_right : Addr
  d_text_right : FuncData
  c_text_right : Addr
  t_text_right : Addr
  f_odd_right : Addr
  d_odd_right : FuncData
  c_odd_right : Addr
  t_odd_right : Addr
def AdZ.TT (n : AdZ) : List (Addr × Str) := [(n.t_step_right, qOf "_law_step_right"), (n.t_text_right, qOf "_law_text_right"), (n.t_odd_right, qOf "_law_odd_right")]
structure TxtZ (K : PySem.W.Frag) (mg : Str → Option Value) (n : AdZ) : Prop where
  g_step_right : mg "_law_step_right" = some (.ref n.f_step_right)
  F_step_right : FunC K "_law_step_right" "_law_step_right" s_l_step_right n.f_step_right n.c_step_right n.d_step_right
  k_step_right : PySem.W.keepIn K (.ref n.f_step_right) = true
  b_step_right : Binds K n.d_step_right P_l_step_right []
  g_text_right : mg "_law_text_right" = some (.ref n.f_text_right)
  F_text_right : FunC K "_law_text_right" "_law_text_right" s_l_text_right n.f_text_right n.c_text_right n.d_text_right
  k_text_right : PySem.W.keepIn K (.ref n.f_text_right) = true
  b_text_right : Binds K n.d_text_right P_l_text_right []
  g_odd_right : mg "_law_odd_right" = some (.ref n.f_odd_right)
  F_odd_right : FunC K "_law_odd_right" "_law_odd_right" s_l_odd_right n.f_odd_right n.c_odd_right n.d_odd_right
  k_odd_right : PySem.W.keepIn K (.ref n.f_odd_right) = true
  b_odd_right : Binds K n.d_odd_right P_l_odd_right []
  ne1 : n.t_step_right ≠ n.t_text_right
  ne2 : n.t_step_right ≠ n.t_odd_right
  ne3 : n.t_text_right ≠ n.t_odd_right
def spLaw (K : PySem.W.Frag) (TT : List (Addr × Str)) : Sp := fun vs H Q _ => ∃ (a : Addr) (ns : List Int), vs = [.ref a] ∧ SqL K H a (ns.map V.int) ∧ ns.length ≤ 63 ∧ Tabs TT H ∧ ∀ H', Q (.bl true) H'
section
variable {P : Program} {w : World} {K : PySem.W.Frag} {mg : Str → Option Value} {base : Heap} {ph : AdL} {pc : Ads} {pg : AdG} {pa : AdC} {D NC : Addr} {mv : List Value} {px : AdN} {p2 : AdN2} {p3 : AdN3} {p4 : AdN4} {p5 : AdN5} {p6 : AdN6} {p7 : AdN7} {fR fA : Addr} {dR dA : FuncData} {CM fT : Addr} {dT : FuncData} {n : AdZ}
theorem ok_law (TH : TxtH K mg ph) (TC : TxtC K mg pc) (TG : TxtG K mg pg) (TA : TxtA6 K mg pc.S pa) (Z : TxtB K mg pa D) (M : TxtM K pa NC mv) (KK : TxtK K pa.C) (TX : TxtN K mg px) (T2 : TxtN2 K mg p2) (T3 : TxtN3 K mg p3) (TP : TxtN4 K mg p4) (TR : TxtN5 K mg p5) (TM : TxtN6 K mg p6) (T7 : TxtN7 K mg p7) (TF : TxtF K mg fR fA dR dA) (R : TxtR K mg pc pa.CO CM pa.iO pa.dO fT dT) (N : TxtZ K mg n) {f : Addr} {fd : FuncData} (F : Fun K "law" "law" s_law f fd)
    (B1 : TabB base mg n.c_step_right n.t_step_right) (B2 : TabB base mg n.c_text_right n.t_text_right) (B3 : TabB base mg n.c_odd_right n.t_odd_right) : FnOk P w K mg base CX0 11 f fd P_law (spLaw K n.TT) := by
  have TAa : TxtA mg := ⟨TH.n_list, TH.n_int, TH.n_len⟩
  have G_l_pen : FnOk P w K mg base CX0 1 ph.f_pen ph.d_pen P_l_pen (spPen K) := ok_l_pen TH.F_l_pen TAa
  have G_l_place : FnOk P w K mg base CX0 4 p4.f_place p4.d_place P_l_place spPlace := ok_l_place TH TP
  have G_l_address_right : FnOk P w K mg base CX0 9 p7.f_address_right p7.d_address_right P_l_address_right spAR := ok_l_address_right TH TC TG TA Z M TX TR TM TF T7
  have mem : ∀ x ∈ n.TT, x = (n.t_step_right, qOf "_law_step_right") ∨ x = (n.t_text_right, qOf "_law_text_right") ∨ x = (n.t_odd_right, qOf "_law_odd_right") := fun x hx => by
    rcases List.mem_cons.mp hx with h | h
    · exact .inl h
    · rcases List.mem_cons.mp h with h | h
      · exact .inr (.inl h)
      · exact .inr (.inr (List.mem_singleton.mp h))
  have G_l_step_right : FnOk P w K mg base CX0 10 n.f_step_right n.d_step_right P_l_step_right (spRt n.TT 10) := ok_l_step_right TH TC TG TA Z M TP TM R N.F_step_right B1 (List.mem_cons_self ..) fun x hx e => by
    rcases mem x hx with h | h | h
    · rw [h]
    · rw [h] at e; exact absurd e.symm N.ne1
    · rw [h] at e; exact absurd e.symm N.ne2
  have G_l_text_right : FnOk P w K mg base CX0 10 n.f_text_right n.d_text_right P_l_text_right (spRt n.TT 10) := ok_l_text_right TH TC TG TA Z TX T2 T3 TR TM TF R N.F_text_right B2 (List.mem_cons_of_mem _ (List.mem_cons_self ..)) fun x hx e => by
    rcases mem x hx with h | h | h
    · rw [h] at e; exact absurd e N.ne1
    · rw [h]
    · rw [h] at e; exact absurd e.symm N.ne3
  have G_l_odd_right : FnOk P w K mg base CX0 10 n.f_odd_right n.d_odd_right P_l_odd_right (spRt n.TT 30) := ok_l_odd_right TH TC TG TA Z M KK TM TF R N.F_odd_right B3 (List.mem_cons_of_mem _ (List.mem_cons_of_mem _ (List.mem_cons_self ..))) fun x hx e => by
    rcases mem x hx with h | h | h
    · rw [h] at e; exact absurd e N.ne2
    · rw [h] at e; exact absurd e N.ne3
    · rw [h]
  refine F.ok sc_law (fun vs H Q E h => ?_) (fun cdv A outer s H vs Q E hr h => ?_)
  · obtain ⟨a, ns, rfl, _⟩ := h
    rfl
  · obtain ⟨a, ns, rfl, hS, hlen, hT, k⟩ := h
    refine ⟨_, (pss_cons (ps_set (i := 1) sc_law.nd rfl (Or.inl rfl) (pe_call G_l_pen (hr.mono (by decide)) (by rfl) TH.mg_l_pen TH.F_l_pen.kp TH.b_l_pen .nil pass0 (pa_cons (pv 0) pa_nil)))
      (pss_cons (ps_for PassesOwn.never rfl (pi_range1 (by rfl) TH.n_range (pa_cons pe_int pa_nil)) (pg_name (i := 2) sc_law.nd rfl (Or.inl rfl)) (pss_cons (ps_set (i := 3) sc_law.nd rfl (Or.inl rfl) (pe_call G_l_place (hr.mono (by decide)) (by rfl) TP.mg_l_place TP.F_l_place.kp TP.b_l_place .nil pass0 (pa_cons (pv 1) pa_nil)))
      (pss_cons (ps_if (PW.pt (pw_or (pt_not (pt_val (pe_call G_l_address_right (hr.mono (by decide)) (by rfl) T7.mg_l_address_right T7.F_l_address_right.kp T7.b_l_address_right .nil pass0 (pa_cons (pv 1) (pa_cons (pv 3) pa_nil))))) (pw_or1 (pt_not (pt_val (pe_call G_l_step_right (hr.mono (by decide)) (by rfl) N.g_step_right N.k_step_right N.b_step_right .nil pass0 (pa_cons (pv 1) (pa_cons (pv 3) pa_nil)))))))) (pss_one (ps_ret pe_bl)) pss_nil)
      (pss_one (ps_if (PW.pt (pw_or (pt_not (pt_val (pe_call G_l_text_right (hr.mono (by decide)) (by rfl) N.g_text_right N.k_text_right N.b_text_right .nil pass0 (pa_cons (pv 1) (pa_cons (pv 3) pa_nil))))) (pw_or1 (pt_not (pt_val (pe_call G_l_text_right (hr.mono (by decide)) (by rfl) N.g_text_right N.k_text_right N.b_text_right .nil pass0 (pa_cons (pv 1) (pa_cons (pv 3) pa_nil)))))))) (pss_one (ps_ret pe_bl)) pss_nil)))))
      (pss_one (ps_ret (pe_call G_l_odd_right (hr.mono (by decide)) (by rfl) N.g_odd_right N.k_odd_right N.b_odd_right .nil pass0 (pa_cons (pv 1) (pa_cons (pe_call G_l_place (hr.mono (by decide)) (by rfl) TP.mg_l_place TP.F_l_place.kp TP.b_l_place .nil pass0 (pa_cons (pv 1) pa_nil)) pa_nil))))))), ?_⟩
    refine q_asgK ?_
    refine ⟨_, rfl, a, ns, rfl, hS, hlen, fun q c H1 hq s1 P1 => ?_⟩
    show tSeq _ _ _ _ _
    refine q_forR1 (n := 3) (ea_cons ev_c ea_nil) (by decide) (fun i σ' H' => ∃ (ix r : Int) (t u : Option V), σ' = [some (.ref a), some (.ref q), t, u] ∧ PenAt H' q c ns ix r ∧ ix ≤ 2100 * (i : Int) ∧ Tabs n.TT H') (fun H2 e2 => ⟨0, 0, _, _, rfl, P1.keep e2, by omega, (hT.ext s1).ext e2⟩) ?_ ?_
    · rintro i σ' H2 hi ⟨ix, r, t, u, rfl, P2, hix, hT2⟩
      have hi3 : i < 3 := by omega
      refine q_asgK ⟨_, rfl, q, c, ns, ix, r, rfl, P2, by omega, fun tp nn mm fr fc sh i3 r3 H3 ht3 n1 n2 m1 m2 so sg2 j0 j1 sb3 P3 => ?_⟩
      have hT3 := tabs_sib P2.hp sb3 hT2
      refine ⟨_, rfl, _, rfl, q, c, ns, i3, r3, tp, nn, mm, fr, fc, sh, rfl, P3, by omega, ht3, n1, n2, m1, m2, so, sg2, fun i4 r4 H4 j2 j3 sb4 P4 => ⟨_, rfl, ?_⟩⟩
      have hT4 := tabs_sib P3.hp sb4 hT3
      have ht4 := sb4 _ _ (ne_of ht3 P3.hp (by intro z; cases z)) ht3
      refine ⟨_, rfl, _, rfl, q, c, ns, i4, r4, tp, nn, mm, fr, fc, sh, rfl, P4, by omega, ht4, n1, n2, m1, m2, so, sg2, hT4, fun i5 r5 H5 j4 j5 kp5 hT5 P5 => ⟨_, rfl, ?_⟩⟩
      have ht5 := kp5 _ _ ht4
      refine ⟨_, rfl, _, rfl, q, c, ns, i5, r5, tp, nn, mm, fr, fc, sh, rfl, P5, by omega, ht5, n1, n2, m1, m2, so, sg2, hT5, fun i6 r6 H6 j6 j7 kp6 hT6 P6 => ⟨_, rfl, ?_⟩⟩
      have ht6 := kp6 _ _ ht5
      refine ⟨_, rfl, _, rfl, q, c, ns, i6, r6, tp, nn, mm, fr, fc, sh, rfl, P6, by omega, ht6, n1, n2, m1, m2, so, sg2, hT6, fun i7 r7 H7 j8 j9 kp7 hT7 P7 => ⟨_, rfl, ?_⟩⟩
      exact ⟨i7, r7, _, _, rfl, P7, by omega, hT7⟩
    · rintro σ' H2 ⟨ix, r, t, u, rfl, P2, hix, hT2⟩
      have h3 : ((3 : Int).toNat : Int) = 3 := rfl
      refine ⟨_, rfl, _, rfl, q, c, ns, ix, r, rfl, P2, by omega, fun tp nn mm fr fc sh i3 r3 H3 ht3 n1 n2 m1 m2 so sg2 j0 j1 sb3 P3 => ?_⟩
      have hT3 := tabs_sib P2.hp sb3 hT2
      exact ⟨q, c, ns, i3, r3, tp, nn, mm, fr, fc, sh, rfl, P3, by omega, ht3, n1, n2, m1, m2, so, sg2, hT3, fun i4 r4 H4 j2 j3 kp4 hT4 P4 => k H4⟩
end
end K16

set_option Elab.async false
set_option linter.all false
set_option maxRecDepth 100000
set_option maxHeartbeats 4000000
namespace K16
open PySem PySem.Spec PyProof.Rows L2 Pen EV2 Evl TX LamX
theorem kitA {K : PySem.W.Frag} {C N : Addr} {nm q : Str} {bs sub : List Value} {hd : Bool} {sn : List Str} {ab : Bool} {col : Option Bool} {dd : Option Addr} {k0 k1 k2 k3 k5 : Option Value} {nw : String} (L : K.lookup C = some (excClassObj nm q C N bs [.type "object"] hd sn sub ab col dd k0 k1 k2 k3 k5 nw)) (ty : PySem.W.typeIn K (.ref C) = some (.type "type")) {n : String} (s : PySem.W.subIn K (.type n) (.ref C) = some false) : PySem.W.kitOne K (.type n) (.ref C) = some false := by
  have z : (PySem.W.clsIn K C).isSome = true := by
    unfold PySem.W.clsIn
    rw [L] <;> rfl
  unfold PySem.W.kitOne
  rw [if_neg (by simp)]
  unfold PySem.W.kitCls
  dsimp only
  rw [z, ty]
  simpa using s
theorem all_mk {l : PySem.W.OpenLaw} {w : World} {K : PySem.W.Frag} {h : Heap} {mg : Str → Option Value} {fa S C_B C_N C_O C_M C_A N_A D_A f_B f_N f_O f_A m___eq__ m_pushed m_bare c_step_right c_text_right c_odd_right : Addr} (tS tX tO : Addr) {kc kl kr : Tok}
    {g_p_is_integer g_p_check_range g_p_check_string g_p_letters_of g_p_is_letters g_p_is_column_text g_p_column_of g_p_check_integer g_p_check_truth g_p_is_on_grid g_p_is_sheet_name g_p_small_letters g_p_alike_sheets g_p_is_row_text g_p_split_cell g_p_read_address g_p_address_text g_h_signs g_h_letters g_h_column g_h_is_letters g_h_mixed_case g_h_pick g_h_draw g_h_pen g_h_row_text g_h_column_text g_h_sheet_text g_h_cell_text g_h_is_digits g_h_is_sheet g_h_read_row g_h_read_column g_h_read_cell g_h_number_up_to g_h_sheet_name g_h_place g_h_spoilt g_h_other g_h_parted g_h_made g_h_is g_h_address_right g_t_told g_r_step_right g_r_text_right g_r_odd_right g_law : Addr}
    (X : K.In h) (G : h.Ns mainGlobals mg) (hfa : mg "law" = some (.ref fa))
    (a_S : PySem.W.nsIn K mainGlobals "SheetError" = some (some (.ref S)))
    (a_B : PySem.W.nsIn K mainGlobals "BadValue" = some (some (.ref C_B)))
    (a_N : PySem.W.nsIn K mainGlobals "NotAName" = some (some (.ref C_N)))
    (a_O : PySem.W.nsIn K mainGlobals "OffGrid" = some (some (.ref C_O)))
    (a_M : PySem.W.nsIn K mainGlobals "TooMany" = some (some (.ref C_M)))
    (a_A : PySem.W.nsIn K mainGlobals "Address" = some (some (.ref C_A)))
    (a_p_is_integer : PySem.W.nsIn K mainGlobals "is_integer" = some (some (.ref g_p_is_integer)))
    (a_p_check_range : PySem.W.nsIn K mainGlobals "check_range" = some (some (.ref g_p_check_range)))
    (a_p_check_string : PySem.W.nsIn K mainGlobals "check_string" = some (some (.ref g_p_check_string)))
    (a_p_letters_of : PySem.W.nsIn K mainGlobals "letters_of" = some (some (.ref g_p_letters_of)))
    (a_p_is_letters : PySem.W.nsIn K mainGlobals "is_letters" = some (some (.ref g_p_is_letters)))
    (a_p_is_column_text : PySem.W.nsIn K mainGlobals "is_column_text" = some (some (.ref g_p_is_column_text)))
    (a_p_column_of : PySem.W.nsIn K mainGlobals "column_of" = some (some (.ref g_p_column_of)))
    (a_p_check_integer : PySem.W.nsIn K mainGlobals "check_integer" = some (some (.ref g_p_check_integer)))
    (a_p_check_truth : PySem.W.nsIn K mainGlobals "check_truth" = some (some (.ref g_p_check_truth)))
    (a_p_is_on_grid : PySem.W.nsIn K mainGlobals "is_on_grid" = some (some (.ref g_p_is_on_grid)))
    (a_p_is_sheet_name : PySem.W.nsIn K mainGlobals "is_sheet_name" = some (some (.ref g_p_is_sheet_name)))
    (a_p_small_letters : PySem.W.nsIn K mainGlobals "small_letters" = some (some (.ref g_p_small_letters)))
    (a_p_alike_sheets : PySem.W.nsIn K mainGlobals "alike_sheets" = some (some (.ref g_p_alike_sheets)))
    (a_p_is_row_text : PySem.W.nsIn K mainGlobals "is_row_text" = some (some (.ref g_p_is_row_text)))
    (a_p_split_cell : PySem.W.nsIn K mainGlobals "split_cell" = some (some (.ref g_p_split_cell)))
    (a_p_read_address : PySem.W.nsIn K mainGlobals "read_address" = some (some (.ref g_p_read_address)))
    (a_p_address_text : PySem.W.nsIn K mainGlobals "address_text" = some (some (.ref g_p_address_text)))
    (a_h_signs : PySem.W.nsIn K mainGlobals "_law_signs" = some (some (.ref g_h_signs)))
    (a_h_letters : PySem.W.nsIn K mainGlobals "_law_letters" = some (some (.ref g_h_letters)))
    (a_h_column : PySem.W.nsIn K mainGlobals "_law_column" = some (some (.ref g_h_column)))
    (a_h_is_letters : PySem.W.nsIn K mainGlobals "_law_is_letters" = some (some (.ref g_h_is_letters)))
    (a_h_mixed_case : PySem.W.nsIn K mainGlobals "_law_mixed_case" = some (some (.ref g_h_mixed_case)))
    (a_h_pick : PySem.W.nsIn K mainGlobals "_law_pick" = some (some (.ref g_h_pick)))
    (a_h_draw : PySem.W.nsIn K mainGlobals "_law_draw" = some (some (.ref g_h_draw)))
    (a_h_pen : PySem.W.nsIn K mainGlobals "_law_pen" = some (some (.ref g_h_pen)))
    (a_h_row_text : PySem.W.nsIn K mainGlobals "_law_row_text" = some (some (.ref g_h_row_text)))
    (a_h_column_text : PySem.W.nsIn K mainGlobals "_law_column_text" = some (some (.ref g_h_column_text)))
    (a_h_sheet_text : PySem.W.nsIn K mainGlobals "_law_sheet_text" = some (some (.ref g_h_sheet_text)))
    (a_h_cell_text : PySem.W.nsIn K mainGlobals "_law_cell_text" = some (some (.ref g_h_cell_text)))
    (a_h_is_digits : PySem.W.nsIn K mainGlobals "_law_is_digits" = some (some (.ref g_h_is_digits)))
    (a_h_is_sheet : PySem.W.nsIn K mainGlobals "_law_is_sheet" = some (some (.ref g_h_is_sheet)))
    (a_h_read_row : PySem.W.nsIn K mainGlobals "_law_read_row" = some (some (.ref g_h_read_row)))
    (a_h_read_column : PySem.W.nsIn K mainGlobals "_law_read_column" = some (some (.ref g_h_read_column)))
    (a_h_read_cell : PySem.W.nsIn K mainGlobals "_law_read_cell" = some (some (.ref g_h_read_cell)))
    (a_h_number_up_to : PySem.W.nsIn K mainGlobals "_law_number_up_to" = some (some (.ref g_h_number_up_to)))
    (a_h_sheet_name : PySem.W.nsIn K mainGlobals "_law_sheet_name" = some (some (.ref g_h_sheet_name)))
    (a_h_place : PySem.W.nsIn K mainGlobals "_law_place" = some (some (.ref g_h_place)))
    (a_h_spoilt : PySem.W.nsIn K mainGlobals "_law_spoilt" = some (some (.ref g_h_spoilt)))
    (a_h_other : PySem.W.nsIn K mainGlobals "_law_other" = some (some (.ref g_h_other)))
    (a_h_parted : PySem.W.nsIn K mainGlobals "_law_parted" = some (some (.ref g_h_parted)))
    (a_h_made : PySem.W.nsIn K mainGlobals "_law_made" = some (some (.ref g_h_made)))
    (a_h_is : PySem.W.nsIn K mainGlobals "_law_is" = some (some (.ref g_h_is)))
    (a_h_address_right : PySem.W.nsIn K mainGlobals "_law_address_right" = some (some (.ref g_h_address_right)))
    (a_t_told : PySem.W.nsIn K mainGlobals "_law_told" = some (some (.ref g_t_told)))
    (a_r_step_right : PySem.W.nsIn K mainGlobals "_law_step_right" = some (some (.ref g_r_step_right)))
    (a_r_text_right : PySem.W.nsIn K mainGlobals "_law_text_right" = some (some (.ref g_r_text_right)))
    (a_r_odd_right : PySem.W.nsIn K mainGlobals "_law_odd_right" = some (some (.ref g_r_odd_right)))
    (a_law : PySem.W.nsIn K mainGlobals "law" = some (some (.ref g_law)))
    (a_COL : PySem.W.nsIn K mainGlobals "COLUMNS" = some (some (.int 18278 kc)))
    (a_ROWS : PySem.W.nsIn K mainGlobals "ROWS" = some (some (.int 1000000 kr)))
    (a_LET : PySem.W.nsIn K mainGlobals "_LETTERS" = some (some (.str "ABCDEFGHIJKLMNOPQRSTUVWXYZ" kl)))
    (i_B : PySem.W.findIn K (.ref C_B) "__init__" = some (some (.ref f_B)))
    (i_N : PySem.W.findIn K (.ref C_N) "__init__" = some (some (.ref f_N)))
    (i_O : PySem.W.findIn K (.ref C_O) "__init__" = some (some (.ref f_O)))
    (z_list : PySem.W.nsIn K mainGlobals "list" = some none)
    (z_int : PySem.W.nsIn K mainGlobals "int" = some none)
    (z_len : PySem.W.nsIn K mainGlobals "len" = some none)
    (z_range : PySem.W.nsIn K mainGlobals "range" = some none)
    (z_min : PySem.W.nsIn K mainGlobals "min" = some none)
    (z_max : PySem.W.nsIn K mainGlobals "max" = some none)
    (z_isinstance : PySem.W.nsIn K mainGlobals "isinstance" = some none)
    (z_bool : PySem.W.nsIn K mainGlobals "bool" = some none)
    (z_str : PySem.W.nsIn K mainGlobals "str" = some none)
    (z_divmod : PySem.W.nsIn K mainGlobals "divmod" = some none)
    (hn : PySem.W.specialIn K (.builtin "object.__class__") "__get__" = some (some (.builtin "getset_descriptor.__get__")))
    (ht : PySem.W.takesIn K (.builtin "object.__class__") = some true)
    {nm_B q_B : Str} {N_B : Addr} {bs_B sub_B : List Value} {sn_B : List Str} {ab_B : Bool} {col_B : Option Bool} {dd_B : Option Addr} {k0_B k1_B k2_B k3_B k5_B : Option Value}
    (L_B : K.lookup C_B = some (excClassObj nm_B q_B C_B N_B bs_B (BM S) true sn_B sub_B ab_B col_B dd_B k0_B k1_B k2_B k3_B k5_B "ValueError.__new__"))
    (hg_B : PySem.W.findIn K (.ref C_B) "__getattribute__" = some (some (.builtin "BaseException.__getattribute__")))
    (hk_B : PySem.W.findIn K (.ref C_B) "__getattr__" = some none)
    (no0_B : PySem.W.findIn K (.ref C_B) "value" = some none)
    (kC_B : PySem.W.keepIn K (.ref C_B) = true)
    (sa_B : PySem.W.findIn K (.ref C_B) "__setattr__" = some (some (.builtin "object.__setattr__")))
    (ty_B : PySem.W.typeIn K (.ref f_B) = some (.type "function"))
    {oc_iB kV_iB dc_iB pm_iB ct_iB cd_iB : Value} {od_iB an_iB : Option Addr} {sl_iB : Array (Option Value)}
    (l_iB : K.lookup f_B = some ⟨oc_iB, od_iB, .func (PySem.W.fnOf "__init__" "BadValue.__init__" (defArgs s_BadValue_init) (defBody s_BadValue_init) (defScope s_BadValue_init) .none kV_iB dc_iB pm_iB an_iB cd_iB ct_iB), sl_iB⟩) (c_iB : PySem.W.codeIn K cd_iB "BadValue.__init__" = true) (k_iB : PySem.W.keepIn K (.ref f_B) = true)
    {nm_N q_N : Str} {N_N : Addr} {bs_N sub_N : List Value} {sn_N : List Str} {ab_N : Bool} {col_N : Option Bool} {dd_N : Option Addr} {k0_N k1_N k2_N k3_N k5_N : Option Value}
    (L_N : K.lookup C_N = some (excClassObj nm_N q_N C_N N_N bs_N (BM S) true sn_N sub_N ab_N col_N dd_N k0_N k1_N k2_N k3_N k5_N "ValueError.__new__"))
    (hg_N : PySem.W.findIn K (.ref C_N) "__getattribute__" = some (some (.builtin "BaseException.__getattribute__")))
    (hk_N : PySem.W.findIn K (.ref C_N) "__getattr__" = some none)
    (no0_N : PySem.W.findIn K (.ref C_N) "name" = some none)
    (kC_N : PySem.W.keepIn K (.ref C_N) = true)
    (sa_N : PySem.W.findIn K (.ref C_N) "__setattr__" = some (some (.builtin "object.__setattr__")))
    (ty_N : PySem.W.typeIn K (.ref f_N) = some (.type "function"))
    {oc_iN kV_iN dc_iN pm_iN ct_iN cd_iN : Value} {od_iN an_iN : Option Addr} {sl_iN : Array (Option Value)}
    (l_iN : K.lookup f_N = some ⟨oc_iN, od_iN, .func (PySem.W.fnOf "__init__" "NotAName.__init__" (defArgs s_NotAName_init) (defBody s_NotAName_init) (defScope s_NotAName_init) .none kV_iN dc_iN pm_iN an_iN cd_iN ct_iN), sl_iN⟩) (c_iN : PySem.W.codeIn K cd_iN "NotAName.__init__" = true) (k_iN : PySem.W.keepIn K (.ref f_N) = true)
    {nm_O q_O : Str} {N_O : Addr} {bs_O sub_O : List Value} {sn_O : List Str} {ab_O : Bool} {col_O : Option Bool} {dd_O : Option Addr} {k0_O k1_O k2_O k3_O k5_O : Option Value}
    (L_O : K.lookup C_O = some (excClassObj nm_O q_O C_O N_O bs_O (BM S) true sn_O sub_O ab_O col_O dd_O k0_O k1_O k2_O k3_O k5_O "ValueError.__new__"))
    (hg_O : PySem.W.findIn K (.ref C_O) "__getattribute__" = some (some (.builtin "BaseException.__getattribute__")))
    (hk_O : PySem.W.findIn K (.ref C_O) "__getattr__" = some none)
    (no0_O : PySem.W.findIn K (.ref C_O) "row" = some none)
    (no1_O : PySem.W.findIn K (.ref C_O) "column" = some none)
    (kC_O : PySem.W.keepIn K (.ref C_O) = true)
    (sa_O : PySem.W.findIn K (.ref C_O) "__setattr__" = some (some (.builtin "object.__setattr__")))
    (ty_O : PySem.W.typeIn K (.ref f_O) = some (.type "function"))
    {oc_iO kV_iO dc_iO pm_iO ct_iO cd_iO : Value} {od_iO an_iO : Option Addr} {sl_iO : Array (Option Value)}
    (l_iO : K.lookup f_O = some ⟨oc_iO, od_iO, .func (PySem.W.fnOf "__init__" "OffGrid.__init__" (defArgs s_OffGrid_init) (defBody s_OffGrid_init) (defScope s_OffGrid_init) .none kV_iO dc_iO pm_iO an_iO cd_iO ct_iO), sl_iO⟩) (c_iO : PySem.W.codeIn K cd_iO "OffGrid.__init__" = true) (k_iO : PySem.W.keepIn K (.ref f_O) = true)
    {nm_M q_M : Str} {N_M : Addr} {bs_M sub_M : List Value} {sn_M : List Str} {ab_M : Bool} {col_M : Option Bool} {dd_M : Option Addr} {k0_M k1_M k2_M k3_M k5_M : Option Value}
    (L_M : K.lookup C_M = some (excClassObj nm_M q_M C_M N_M bs_M (BM S) true sn_M sub_M ab_M col_M dd_M k0_M k1_M k2_M k3_M k5_M "ValueError.__new__"))
    (hg_M : PySem.W.findIn K (.ref C_M) "__getattribute__" = some (some (.builtin "BaseException.__getattribute__")))
    (hk_M : PySem.W.findIn K (.ref C_M) "__getattr__" = some none)
    (no0_M : PySem.W.findIn K (.ref C_M) "most" = some none)
    {nm_A q_A : Str} {hd_A : Bool} {bs_A sub_A : List Value} {sn_A : List Str} {ab_A : Bool} {col_A : Option Bool} {dd_A : Option Addr} {k0_A k1_A k2_A k3_A k5_A : Option Value} {new_A : String}
    (L_A : K.lookup C_A = some (excClassObj nm_A q_A C_A N_A bs_A [.type "object"] hd_A sn_A sub_A ab_A col_A dd_A k0_A k1_A k2_A k3_A k5_A new_A))
    (pg_A : PySem.W.plainGet K C_A Str.empty = true)
    (hd2_A : PySem.W.hasDictIn K C_A = true)
    (po_A : PySem.W.plainOver K C_A = true)
    (sa_A : PySem.W.findIn K (.ref C_A) "__setattr__" = some (some (.builtin "object.__setattr__")))
    (nA_row : PySem.W.findIn K (.ref C_A) "row" = some none)
    (nA_column : PySem.W.findIn K (.ref C_A) "column" = some none)
    (nA_fixed_row : PySem.W.findIn K (.ref C_A) "fixed_row" = some none)
    (nA_fixed_column : PySem.W.findIn K (.ref C_A) "fixed_column" = some none)
    (nA_sheet : PySem.W.findIn K (.ref C_A) "sheet" = some none)
    (mk_A : PySem.W.makesIn K C_A = true)
    (i_A : PySem.W.findIn K (.ref C_A) "__init__" = some (some (.ref f_A)))
    (if_A : PySem.W.isFn K (.ref f_A) = true)
    (kC_A : PySem.W.keepIn K (.ref C_A) = true)
    (ha_A : PySem.W.findIn K (.ref C_A) "__class__" = some (some (.builtin "object.__class__")))
    (hm_A : PySem.W.mroIn K C_A (.type "object") = some true)
    (ok_A : PySem.W.nsOkIn K N_A = true)
    (eq_A : PySem.W.nsIn K N_A "__eq__" = some (some (.ref m___eq__)))
    (ne_A : PySem.W.nsIn K N_A "__ne__" = some none)
    {oc_iA dc_iA pm_iA ct_iA cd_iA : Value} {od_iA an_iA : Option Addr} {sl_iA : Array (Option Value)}
    (l_iA : K.lookup f_A = some ⟨oc_iA, od_iA, .func (PySem.W.fnOf "__init__" "Address.__init__" (defArgs s_Address_init) (defBody s_Address_init) (defScope s_Address_init) .none (.ref D_A) dc_iA pm_iA an_iA cd_iA ct_iA), sl_iA⟩) (c_iA : PySem.W.codeIn K cd_iA "Address.__init__" = true) (k_iA : PySem.W.keepIn K (.ref f_A) = true)
    (dA_fixed_row : PySem.W.nsIn K D_A "fixed_row" = some (some (.bool false)))
    (dA_fixed_column : PySem.W.nsIn K D_A "fixed_column" = some (some (.bool false)))
    (dA_sheet : PySem.W.nsIn K D_A "sheet" = some (some .none))
    (f___eq__ : PySem.W.findIn K (.ref C_A) "__eq__" = some (some (.ref m___eq__)))
    (if___eq__ : PySem.W.isFn K (.ref m___eq__) = true)
    {kV_m__eq__ dc_m__eq__ pm_m__eq__ ct_m__eq__ cd_m__eq__ : Value} {od_m__eq__ an_m__eq__ : Option Addr} {sl_m__eq__ : Array (Option Value)}
    (l_m__eq__ : K.lookup m___eq__ = some ⟨(.type "function"), od_m__eq__, .func (PySem.W.fnOf "__eq__" "Address.__eq__" (defArgs s_Address___eq__) (defBody s_Address___eq__) (defScope s_Address___eq__) .none kV_m__eq__ dc_m__eq__ pm_m__eq__ an_m__eq__ cd_m__eq__ ct_m__eq__), sl_m__eq__⟩) (c_m__eq__ : PySem.W.codeIn K cd_m__eq__ "Address.__eq__" = true) (k_m__eq__ : PySem.W.keepIn K (.ref m___eq__) = true)
    (f_pushed : PySem.W.findIn K (.ref C_A) "pushed" = some (some (.ref m_pushed)))
    (if_pushed : PySem.W.isFn K (.ref m_pushed) = true)
    {kV_mpushed dc_mpushed pm_mpushed ct_mpushed cd_mpushed : Value} {od_mpushed an_mpushed : Option Addr} {sl_mpushed : Array (Option Value)}
    (l_mpushed : K.lookup m_pushed = some ⟨(.type "function"), od_mpushed, .func (PySem.W.fnOf "pushed" "Address.pushed" (defArgs s_Address_pushed) (defBody s_Address_pushed) (defScope s_Address_pushed) .none kV_mpushed dc_mpushed pm_mpushed an_mpushed cd_mpushed ct_mpushed), sl_mpushed⟩) (c_mpushed : PySem.W.codeIn K cd_mpushed "Address.pushed" = true) (k_mpushed : PySem.W.keepIn K (.ref m_pushed) = true)
    (f_bare : PySem.W.findIn K (.ref C_A) "bare" = some (some (.ref m_bare)))
    (if_bare : PySem.W.isFn K (.ref m_bare) = true)
    {kV_mbare dc_mbare pm_mbare ct_mbare cd_mbare : Value} {od_mbare an_mbare : Option Addr} {sl_mbare : Array (Option Value)}
    (l_mbare : K.lookup m_bare = some ⟨(.type "function"), od_mbare, .func (PySem.W.fnOf "bare" "Address.bare" (defArgs s_Address_bare) (defBody s_Address_bare) (defScope s_Address_bare) .none kV_mbare dc_mbare pm_mbare an_mbare cd_mbare ct_mbare), sl_mbare⟩) (c_mbare : PySem.W.codeIn K cd_mbare "Address.bare" = true) (k_mbare : PySem.W.keepIn K (.ref m_bare) = true)
    (y1_str : PySem.W.subIn K (.type "str") (.ref C_A) = some false)
    (y1_tuple : PySem.W.subIn K (.type "tuple") (.ref C_A) = some false)
    (y1_NoneType : PySem.W.subIn K (.type "NoneType") (.ref C_A) = some false)
    (y1_int : PySem.W.subIn K (.type "int") (.ref C_A) = some false)
    (y1_bool : PySem.W.subIn K (.type "bool") (.ref C_A) = some false)
    (y1_list : PySem.W.subIn K (.type "list") (.ref C_A) = some false)
    (z2_str : PySem.W.notFirst K C_A (.type "str") = true)
    (z2_tuple : PySem.W.notFirst K C_A (.type "tuple") = true)
    (tyA : PySem.W.typeIn K (.ref C_A) = some (.type "type"))
    {oc_p_is_integer kV_p_is_integer dc_p_is_integer pm_p_is_integer ct_p_is_integer cd_p_is_integer : Value} {od_p_is_integer an_p_is_integer : Option Addr} {sl_p_is_integer : Array (Option Value)}
    (l_p_is_integer : K.lookup g_p_is_integer = some ⟨oc_p_is_integer, od_p_is_integer, .func (PySem.W.fnOf "is_integer" "is_integer" (defArgs s_is_integer) (defBody s_is_integer) (defScope s_is_integer) .none kV_p_is_integer dc_p_is_integer pm_p_is_integer an_p_is_integer cd_p_is_integer ct_p_is_integer), sl_p_is_integer⟩) (c_p_is_integer : PySem.W.codeIn K cd_p_is_integer "is_integer" = true) (k_p_is_integer : PySem.W.keepIn K (.ref g_p_is_integer) = true)
    {oc_p_check_range kV_p_check_range dc_p_check_range pm_p_check_range ct_p_check_range cd_p_check_range : Value} {od_p_check_range an_p_check_range : Option Addr} {sl_p_check_range : Array (Option Value)}
    (l_p_check_range : K.lookup g_p_check_range = some ⟨oc_p_check_range, od_p_check_range, .func (PySem.W.fnOf "check_range" "check_range" (defArgs s_check_range) (defBody s_check_range) (defScope s_check_range) .none kV_p_check_range dc_p_check_range pm_p_check_range an_p_check_range cd_p_check_range ct_p_check_range), sl_p_check_range⟩) (c_p_check_range : PySem.W.codeIn K cd_p_check_range "check_range" = true) (k_p_check_range : PySem.W.keepIn K (.ref g_p_check_range) = true)
    {oc_p_check_string kV_p_check_string dc_p_check_string pm_p_check_string ct_p_check_string cd_p_check_string : Value} {od_p_check_string an_p_check_string : Option Addr} {sl_p_check_string : Array (Option Value)}
    (l_p_check_string : K.lookup g_p_check_string = some ⟨oc_p_check_string, od_p_check_string, .func (PySem.W.fnOf "check_string" "check_string" (defArgs s_check_string) (defBody s_check_string) (defScope s_check_string) .none kV_p_check_string dc_p_check_string pm_p_check_string an_p_check_string cd_p_check_string ct_p_check_string), sl_p_check_string⟩) (c_p_check_string : PySem.W.codeIn K cd_p_check_string "check_string" = true) (k_p_check_string : PySem.W.keepIn K (.ref g_p_check_string) = true)
    {oc_p_letters_of kV_p_letters_of dc_p_letters_of pm_p_letters_of ct_p_letters_of cd_p_letters_of : Value} {od_p_letters_of an_p_letters_of : Option Addr} {sl_p_letters_of : Array (Option Value)}
    (l_p_letters_of : K.lookup g_p_letters_of = some ⟨oc_p_letters_of, od_p_letters_of, .func (PySem.W.fnOf "letters_of" "letters_of" (defArgs s_letters_of) (defBody s_letters_of) (defScope s_letters_of) .none kV_p_letters_of dc_p_letters_of pm_p_letters_of an_p_letters_of cd_p_letters_of ct_p_letters_of), sl_p_letters_of⟩) (c_p_letters_of : PySem.W.codeIn K cd_p_letters_of "letters_of" = true) (k_p_letters_of : PySem.W.keepIn K (.ref g_p_letters_of) = true)
    {oc_p_is_letters kV_p_is_letters dc_p_is_letters pm_p_is_letters ct_p_is_letters cd_p_is_letters : Value} {od_p_is_letters an_p_is_letters : Option Addr} {sl_p_is_letters : Array (Option Value)}
    (l_p_is_letters : K.lookup g_p_is_letters = some ⟨oc_p_is_letters, od_p_is_letters, .func (PySem.W.fnOf "is_letters" "is_letters" (defArgs s_is_letters) (defBody s_is_letters) (defScope s_is_letters) .none kV_p_is_letters dc_p_is_letters pm_p_is_letters an_p_is_letters cd_p_is_letters ct_p_is_letters), sl_p_is_letters⟩) (c_p_is_letters : PySem.W.codeIn K cd_p_is_letters "is_letters" = true) (k_p_is_letters : PySem.W.keepIn K (.ref g_p_is_letters) = true)
    {oc_p_is_column_text kV_p_is_column_text dc_p_is_column_text pm_p_is_column_text ct_p_is_column_text cd_p_is_column_text : Value} {od_p_is_column_text an_p_is_column_text : Option Addr} {sl_p_is_column_text : Array (Option Value)}
    (l_p_is_column_text : K.lookup g_p_is_column_text = some ⟨oc_p_is_column_text, od_p_is_column_text, .func (PySem.W.fnOf "is_column_text" "is_column_text" (defArgs s_is_column_text) (defBody s_is_column_text) (defScope s_is_column_text) .none kV_p_is_column_text dc_p_is_column_text pm_p_is_column_text an_p_is_column_text cd_p_is_column_text ct_p_is_column_text), sl_p_is_column_text⟩) (c_p_is_column_text : PySem.W.codeIn K cd_p_is_column_text "is_column_text" = true) (k_p_is_column_text : PySem.W.keepIn K (.ref g_p_is_column_text) = true)
    {oc_p_column_of kV_p_column_of dc_p_column_of pm_p_column_of ct_p_column_of cd_p_column_of : Value} {od_p_column_of an_p_column_of : Option Addr} {sl_p_column_of : Array (Option Value)}
    (l_p_column_of : K.lookup g_p_column_of = some ⟨oc_p_column_of, od_p_column_of, .func (PySem.W.fnOf "column_of" "column_of" (defArgs s_column_of) (defBody s_column_of) (defScope s_column_of) .none kV_p_column_of dc_p_column_of pm_p_column_of an_p_column_of cd_p_column_of ct_p_column_of), sl_p_column_of⟩) (c_p_column_of : PySem.W.codeIn K cd_p_column_of "column_of" = true) (k_p_column_of : PySem.W.keepIn K (.ref g_p_column_of) = true)
    {oc_p_check_integer kV_p_check_integer dc_p_check_integer pm_p_check_integer ct_p_check_integer cd_p_check_integer : Value} {od_p_check_integer an_p_check_integer : Option Addr} {sl_p_check_integer : Array (Option Value)}
    (l_p_check_integer : K.lookup g_p_check_integer = some ⟨oc_p_check_integer, od_p_check_integer, .func (PySem.W.fnOf "check_integer" "check_integer" (defArgs s_check_integer) (defBody s_check_integer) (defScope s_check_integer) .none kV_p_check_integer dc_p_check_integer pm_p_check_integer an_p_check_integer cd_p_check_integer ct_p_check_integer), sl_p_check_integer⟩) (c_p_check_integer : PySem.W.codeIn K cd_p_check_integer "check_integer" = true) (k_p_check_integer : PySem.W.keepIn K (.ref g_p_check_integer) = true)
    {oc_p_check_truth kV_p_check_truth dc_p_check_truth pm_p_check_truth ct_p_check_truth cd_p_check_truth : Value} {od_p_check_truth an_p_check_truth : Option Addr} {sl_p_check_truth : Array (Option Value)}
    (l_p_check_truth : K.lookup g_p_check_truth = some ⟨oc_p_check_truth, od_p_check_truth, .func (PySem.W.fnOf "check_truth" "check_truth" (defArgs s_check_truth) (defBody s_check_truth) (defScope s_check_truth) .none kV_p_check_truth dc_p_check_truth pm_p_check_truth an_p_check_truth cd_p_check_truth ct_p_check_truth), sl_p_check_truth⟩) (c_p_check_truth : PySem.W.codeIn K cd_p_check_truth "check_truth" = true) (k_p_check_truth : PySem.W.keepIn K (.ref g_p_check_truth) = true)
    {oc_p_is_on_grid kV_p_is_on_grid dc_p_is_on_grid pm_p_is_on_grid ct_p_is_on_grid cd_p_is_on_grid : Value} {od_p_is_on_grid an_p_is_on_grid : Option Addr} {sl_p_is_on_grid : Array (Option Value)}
    (l_p_is_on_grid : K.lookup g_p_is_on_grid = some ⟨oc_p_is_on_grid, od_p_is_on_grid, .func (PySem.W.fnOf "is_on_grid" "is_on_grid" (defArgs s_is_on_grid) (defBody s_is_on_grid) (defScope s_is_on_grid) .none kV_p_is_on_grid dc_p_is_on_grid pm_p_is_on_grid an_p_is_on_grid cd_p_is_on_grid ct_p_is_on_grid), sl_p_is_on_grid⟩) (c_p_is_on_grid : PySem.W.codeIn K cd_p_is_on_grid "is_on_grid" = true) (k_p_is_on_grid : PySem.W.keepIn K (.ref g_p_is_on_grid) = true)
    {oc_p_is_sheet_name kV_p_is_sheet_name dc_p_is_sheet_name pm_p_is_sheet_name ct_p_is_sheet_name cd_p_is_sheet_name : Value} {od_p_is_sheet_name an_p_is_sheet_name : Option Addr} {sl_p_is_sheet_name : Array (Option Value)}
    (l_p_is_sheet_name : K.lookup g_p_is_sheet_name = some ⟨oc_p_is_sheet_name, od_p_is_sheet_name, .func (PySem.W.fnOf "is_sheet_name" "is_sheet_name" (defArgs s_is_sheet_name) (defBody s_is_sheet_name) (defScope s_is_sheet_name) .none kV_p_is_sheet_name dc_p_is_sheet_name pm_p_is_sheet_name an_p_is_sheet_name cd_p_is_sheet_name ct_p_is_sheet_name), sl_p_is_sheet_name⟩) (c_p_is_sheet_name : PySem.W.codeIn K cd_p_is_sheet_name "is_sheet_name" = true) (k_p_is_sheet_name : PySem.W.keepIn K (.ref g_p_is_sheet_name) = true)
    {oc_p_small_letters kV_p_small_letters dc_p_small_letters pm_p_small_letters ct_p_small_letters cd_p_small_letters : Value} {od_p_small_letters an_p_small_letters : Option Addr} {sl_p_small_letters : Array (Option Value)}
    (l_p_small_letters : K.lookup g_p_small_letters = some ⟨oc_p_small_letters, od_p_small_letters, .func (PySem.W.fnOf "small_letters" "small_letters" (defArgs s_small_letters) (defBody s_small_letters) (defScope s_small_letters) .none kV_p_small_letters dc_p_small_letters pm_p_small_letters an_p_small_letters cd_p_small_letters ct_p_small_letters), sl_p_small_letters⟩) (c_p_small_letters : PySem.W.codeIn K cd_p_small_letters "small_letters" = true) (k_p_small_letters : PySem.W.keepIn K (.ref g_p_small_letters) = true)
    {oc_p_alike_sheets kV_p_alike_sheets dc_p_alike_sheets pm_p_alike_sheets ct_p_alike_sheets cd_p_alike_sheets : Value} {od_p_alike_sheets an_p_alike_sheets : Option Addr} {sl_p_alike_sheets : Array (Option Value)}
    (l_p_alike_sheets : K.lookup g_p_alike_sheets = some ⟨oc_p_alike_sheets, od_p_alike_sheets, .func (PySem.W.fnOf "alike_sheets" "alike_sheets" (defArgs s_alike_sheets) (defBody s_alike_sheets) (defScope s_alike_sheets) .none kV_p_alike_sheets dc_p_alike_sheets pm_p_alike_sheets an_p_alike_sheets cd_p_alike_sheets ct_p_alike_sheets), sl_p_alike_sheets⟩) (c_p_alike_sheets : PySem.W.codeIn K cd_p_alike_sheets "alike_sheets" = true) (k_p_alike_sheets : PySem.W.keepIn K (.ref g_p_alike_sheets) = true)
    {oc_p_is_row_text kV_p_is_row_text dc_p_is_row_text pm_p_is_row_text ct_p_is_row_text cd_p_is_row_text : Value} {od_p_is_row_text an_p_is_row_text : Option Addr} {sl_p_is_row_text : Array (Option Value)}
    (l_p_is_row_text : K.lookup g_p_is_row_text = some ⟨oc_p_is_row_text, od_p_is_row_text, .func (PySem.W.fnOf "is_row_text" "is_row_text" (defArgs s_is_row_text) (defBody s_is_row_text) (defScope s_is_row_text) .none kV_p_is_row_text dc_p_is_row_text pm_p_is_row_text an_p_is_row_text cd_p_is_row_text ct_p_is_row_text), sl_p_is_row_text⟩) (c_p_is_row_text : PySem.W.codeIn K cd_p_is_row_text "is_row_text" = true) (k_p_is_row_text : PySem.W.keepIn K (.ref g_p_is_row_text) = true)
    {oc_p_split_cell kV_p_split_cell dc_p_split_cell pm_p_split_cell ct_p_split_cell cd_p_split_cell : Value} {od_p_split_cell an_p_split_cell : Option Addr} {sl_p_split_cell : Array (Option Value)}
    (l_p_split_cell : K.lookup g_p_split_cell = some ⟨oc_p_split_cell, od_p_split_cell, .func (PySem.W.fnOf "split_cell" "split_cell" (defArgs s_split_cell) (defBody s_split_cell) (defScope s_split_cell) .none kV_p_split_cell dc_p_split_cell pm_p_split_cell an_p_split_cell cd_p_split_cell ct_p_split_cell), sl_p_split_cell⟩) (c_p_split_cell : PySem.W.codeIn K cd_p_split_cell "split_cell" = true) (k_p_split_cell : PySem.W.keepIn K (.ref g_p_split_cell) = true)
    {oc_p_read_address kV_p_read_address dc_p_read_address pm_p_read_address ct_p_read_address cd_p_read_address : Value} {od_p_read_address an_p_read_address : Option Addr} {sl_p_read_address : Array (Option Value)}
    (l_p_read_address : K.lookup g_p_read_address = some ⟨oc_p_read_address, od_p_read_address, .func (PySem.W.fnOf "read_address" "read_address" (defArgs s_read_address) (defBody s_read_address) (defScope s_read_address) .none kV_p_read_address dc_p_read_address pm_p_read_address an_p_read_address cd_p_read_address ct_p_read_address), sl_p_read_address⟩) (c_p_read_address : PySem.W.codeIn K cd_p_read_address "read_address" = true) (k_p_read_address : PySem.W.keepIn K (.ref g_p_read_address) = true)
    {oc_p_address_text kV_p_address_text dc_p_address_text pm_p_address_text ct_p_address_text cd_p_address_text : Value} {od_p_address_text an_p_address_text : Option Addr} {sl_p_address_text : Array (Option Value)}
    (l_p_address_text : K.lookup g_p_address_text = some ⟨oc_p_address_text, od_p_address_text, .func (PySem.W.fnOf "address_text" "address_text" (defArgs s_address_text) (defBody s_address_text) (defScope s_address_text) .none kV_p_address_text dc_p_address_text pm_p_address_text an_p_address_text cd_p_address_text ct_p_address_text), sl_p_address_text⟩) (c_p_address_text : PySem.W.codeIn K cd_p_address_text "address_text" = true) (k_p_address_text : PySem.W.keepIn K (.ref g_p_address_text) = true)
    {oc_h_signs kV_h_signs dc_h_signs pm_h_signs ct_h_signs cd_h_signs : Value} {od_h_signs an_h_signs : Option Addr} {sl_h_signs : Array (Option Value)}
    (l_h_signs : K.lookup g_h_signs = some ⟨oc_h_signs, od_h_signs, .func (PySem.W.fnOf "_law_signs" "_law_signs" (defArgs s_l_signs) (defBody s_l_signs) (defScope s_l_signs) .none kV_h_signs dc_h_signs pm_h_signs an_h_signs cd_h_signs ct_h_signs), sl_h_signs⟩) (c_h_signs : PySem.W.codeIn K cd_h_signs "_law_signs" = true) (k_h_signs : PySem.W.keepIn K (.ref g_h_signs) = true)
    {oc_h_letters kV_h_letters dc_h_letters pm_h_letters ct_h_letters cd_h_letters : Value} {od_h_letters an_h_letters : Option Addr} {sl_h_letters : Array (Option Value)}
    (l_h_letters : K.lookup g_h_letters = some ⟨oc_h_letters, od_h_letters, .func (PySem.W.fnOf "_law_letters" "_law_letters" (defArgs s_l_letters) (defBody s_l_letters) (defScope s_l_letters) .none kV_h_letters dc_h_letters pm_h_letters an_h_letters cd_h_letters ct_h_letters), sl_h_letters⟩) (c_h_letters : PySem.W.codeIn K cd_h_letters "_law_letters" = true) (k_h_letters : PySem.W.keepIn K (.ref g_h_letters) = true)
    {oc_h_column kV_h_column dc_h_column pm_h_column ct_h_column cd_h_column : Value} {od_h_column an_h_column : Option Addr} {sl_h_column : Array (Option Value)}
    (l_h_column : K.lookup g_h_column = some ⟨oc_h_column, od_h_column, .func (PySem.W.fnOf "_law_column" "_law_column" (defArgs s_l_column) (defBody s_l_column) (defScope s_l_column) .none kV_h_column dc_h_column pm_h_column an_h_column cd_h_column ct_h_column), sl_h_column⟩) (c_h_column : PySem.W.codeIn K cd_h_column "_law_column" = true) (k_h_column : PySem.W.keepIn K (.ref g_h_column) = true)
    {oc_h_is_letters kV_h_is_letters dc_h_is_letters pm_h_is_letters ct_h_is_letters cd_h_is_letters : Value} {od_h_is_letters an_h_is_letters : Option Addr} {sl_h_is_letters : Array (Option Value)}
    (l_h_is_letters : K.lookup g_h_is_letters = some ⟨oc_h_is_letters, od_h_is_letters, .func (PySem.W.fnOf "_law_is_letters" "_law_is_letters" (defArgs s_l_is_letters) (defBody s_l_is_letters) (defScope s_l_is_letters) .none kV_h_is_letters dc_h_is_letters pm_h_is_letters an_h_is_letters cd_h_is_letters ct_h_is_letters), sl_h_is_letters⟩) (c_h_is_letters : PySem.W.codeIn K cd_h_is_letters "_law_is_letters" = true) (k_h_is_letters : PySem.W.keepIn K (.ref g_h_is_letters) = true)
    {oc_h_mixed_case kV_h_mixed_case dc_h_mixed_case pm_h_mixed_case ct_h_mixed_case cd_h_mixed_case : Value} {od_h_mixed_case an_h_mixed_case : Option Addr} {sl_h_mixed_case : Array (Option Value)}
    (l_h_mixed_case : K.lookup g_h_mixed_case = some ⟨oc_h_mixed_case, od_h_mixed_case, .func (PySem.W.fnOf "_law_mixed_case" "_law_mixed_case" (defArgs s_l_mixed_case) (defBody s_l_mixed_case) (defScope s_l_mixed_case) .none kV_h_mixed_case dc_h_mixed_case pm_h_mixed_case an_h_mixed_case cd_h_mixed_case ct_h_mixed_case), sl_h_mixed_case⟩) (c_h_mixed_case : PySem.W.codeIn K cd_h_mixed_case "_law_mixed_case" = true) (k_h_mixed_case : PySem.W.keepIn K (.ref g_h_mixed_case) = true)
    {oc_h_pick kV_h_pick dc_h_pick pm_h_pick ct_h_pick cd_h_pick : Value} {od_h_pick an_h_pick : Option Addr} {sl_h_pick : Array (Option Value)}
    (l_h_pick : K.lookup g_h_pick = some ⟨oc_h_pick, od_h_pick, .func (PySem.W.fnOf "_law_pick" "_law_pick" (defArgs s_l_pick) (defBody s_l_pick) (defScope s_l_pick) .none kV_h_pick dc_h_pick pm_h_pick an_h_pick cd_h_pick ct_h_pick), sl_h_pick⟩) (c_h_pick : PySem.W.codeIn K cd_h_pick "_law_pick" = true) (k_h_pick : PySem.W.keepIn K (.ref g_h_pick) = true)
    {oc_h_draw kV_h_draw dc_h_draw pm_h_draw ct_h_draw cd_h_draw : Value} {od_h_draw an_h_draw : Option Addr} {sl_h_draw : Array (Option Value)}
    (l_h_draw : K.lookup g_h_draw = some ⟨oc_h_draw, od_h_draw, .func (PySem.W.fnOf "_law_draw" "_law_draw" (defArgs s_l_draw) (defBody s_l_draw) (defScope s_l_draw) .none kV_h_draw dc_h_draw pm_h_draw an_h_draw cd_h_draw ct_h_draw), sl_h_draw⟩) (c_h_draw : PySem.W.codeIn K cd_h_draw "_law_draw" = true) (k_h_draw : PySem.W.keepIn K (.ref g_h_draw) = true)
    {oc_h_pen kV_h_pen dc_h_pen pm_h_pen ct_h_pen cd_h_pen : Value} {od_h_pen an_h_pen : Option Addr} {sl_h_pen : Array (Option Value)}
    (l_h_pen : K.lookup g_h_pen = some ⟨oc_h_pen, od_h_pen, .func (PySem.W.fnOf "_law_pen" "_law_pen" (defArgs s_l_pen) (defBody s_l_pen) (defScope s_l_pen) .none kV_h_pen dc_h_pen pm_h_pen an_h_pen cd_h_pen ct_h_pen), sl_h_pen⟩) (c_h_pen : PySem.W.codeIn K cd_h_pen "_law_pen" = true) (k_h_pen : PySem.W.keepIn K (.ref g_h_pen) = true)
    {oc_h_row_text kV_h_row_text dc_h_row_text pm_h_row_text ct_h_row_text cd_h_row_text : Value} {od_h_row_text an_h_row_text : Option Addr} {sl_h_row_text : Array (Option Value)}
    (l_h_row_text : K.lookup g_h_row_text = some ⟨oc_h_row_text, od_h_row_text, .func (PySem.W.fnOf "_law_row_text" "_law_row_text" (defArgs s_l_row_text) (defBody s_l_row_text) (defScope s_l_row_text) .none kV_h_row_text dc_h_row_text pm_h_row_text an_h_row_text cd_h_row_text ct_h_row_text), sl_h_row_text⟩) (c_h_row_text : PySem.W.codeIn K cd_h_row_text "_law_row_text" = true) (k_h_row_text : PySem.W.keepIn K (.ref g_h_row_text) = true)
    {oc_h_column_text kV_h_column_text dc_h_column_text pm_h_column_text ct_h_column_text cd_h_column_text : Value} {od_h_column_text an_h_column_text : Option Addr} {sl_h_column_text : Array (Option Value)}
    (l_h_column_text : K.lookup g_h_column_text = some ⟨oc_h_column_text, od_h_column_text, .func (PySem.W.fnOf "_law_column_text" "_law_column_text" (defArgs s_l_column_text) (defBody s_l_column_text) (defScope s_l_column_text) .none kV_h_column_text dc_h_column_text pm_h_column_text an_h_column_text cd_h_column_text ct_h_column_text), sl_h_column_text⟩) (c_h_column_text : PySem.W.codeIn K cd_h_column_text "_law_column_text" = true) (k_h_column_text : PySem.W.keepIn K (.ref g_h_column_text) = true)
    {oc_h_sheet_text kV_h_sheet_text dc_h_sheet_text pm_h_sheet_text ct_h_sheet_text cd_h_sheet_text : Value} {od_h_sheet_text an_h_sheet_text : Option Addr} {sl_h_sheet_text : Array (Option Value)}
    (l_h_sheet_text : K.lookup g_h_sheet_text = some ⟨oc_h_sheet_text, od_h_sheet_text, .func (PySem.W.fnOf "_law_sheet_text" "_law_sheet_text" (defArgs s_l_sheet_text) (defBody s_l_sheet_text) (defScope s_l_sheet_text) .none kV_h_sheet_text dc_h_sheet_text pm_h_sheet_text an_h_sheet_text cd_h_sheet_text ct_h_sheet_text), sl_h_sheet_text⟩) (c_h_sheet_text : PySem.W.codeIn K cd_h_sheet_text "_law_sheet_text" = true) (k_h_sheet_text : PySem.W.keepIn K (.ref g_h_sheet_text) = true)
    {oc_h_cell_text kV_h_cell_text dc_h_cell_text pm_h_cell_text ct_h_cell_text cd_h_cell_text : Value} {od_h_cell_text an_h_cell_text : Option Addr} {sl_h_cell_text : Array (Option Value)}
    (l_h_cell_text : K.lookup g_h_cell_text = some ⟨oc_h_cell_text, od_h_cell_text, .func (PySem.W.fnOf "_law_cell_text" "_law_cell_text" (defArgs s_l_cell_text) (defBody s_l_cell_text) (defScope s_l_cell_text) .none kV_h_cell_text dc_h_cell_text pm_h_cell_text an_h_cell_text cd_h_cell_text ct_h_cell_text), sl_h_cell_text⟩) (c_h_cell_text : PySem.W.codeIn K cd_h_cell_text "_law_cell_text" = true) (k_h_cell_text : PySem.W.keepIn K (.ref g_h_cell_text) = true)
    {oc_h_is_digits kV_h_is_digits dc_h_is_digits pm_h_is_digits ct_h_is_digits cd_h_is_digits : Value} {od_h_is_digits an_h_is_digits : Option Addr} {sl_h_is_digits : Array (Option Value)}
    (l_h_is_digits : K.lookup g_h_is_digits = some ⟨oc_h_is_digits, od_h_is_digits, .func (PySem.W.fnOf "_law_is_digits" "_law_is_digits" (defArgs s_l_is_digits) (defBody s_l_is_digits) (defScope s_l_is_digits) .none kV_h_is_digits dc_h_is_digits pm_h_is_digits an_h_is_digits cd_h_is_digits ct_h_is_digits), sl_h_is_digits⟩) (c_h_is_digits : PySem.W.codeIn K cd_h_is_digits "_law_is_digits" = true) (k_h_is_digits : PySem.W.keepIn K (.ref g_h_is_digits) = true)
    {oc_h_is_sheet kV_h_is_sheet dc_h_is_sheet pm_h_is_sheet ct_h_is_sheet cd_h_is_sheet : Value} {od_h_is_sheet an_h_is_sheet : Option Addr} {sl_h_is_sheet : Array (Option Value)}
    (l_h_is_sheet : K.lookup g_h_is_sheet = some ⟨oc_h_is_sheet, od_h_is_sheet, .func (PySem.W.fnOf "_law_is_sheet" "_law_is_sheet" (defArgs s_l_is_sheet) (defBody s_l_is_sheet) (defScope s_l_is_sheet) .none kV_h_is_sheet dc_h_is_sheet pm_h_is_sheet an_h_is_sheet cd_h_is_sheet ct_h_is_sheet), sl_h_is_sheet⟩) (c_h_is_sheet : PySem.W.codeIn K cd_h_is_sheet "_law_is_sheet" = true) (k_h_is_sheet : PySem.W.keepIn K (.ref g_h_is_sheet) = true)
    {oc_h_read_row kV_h_read_row dc_h_read_row pm_h_read_row ct_h_read_row cd_h_read_row : Value} {od_h_read_row an_h_read_row : Option Addr} {sl_h_read_row : Array (Option Value)}
    (l_h_read_row : K.lookup g_h_read_row = some ⟨oc_h_read_row, od_h_read_row, .func (PySem.W.fnOf "_law_read_row" "_law_read_row" (defArgs s_l_read_row) (defBody s_l_read_row) (defScope s_l_read_row) .none kV_h_read_row dc_h_read_row pm_h_read_row an_h_read_row cd_h_read_row ct_h_read_row), sl_h_read_row⟩) (c_h_read_row : PySem.W.codeIn K cd_h_read_row "_law_read_row" = true) (k_h_read_row : PySem.W.keepIn K (.ref g_h_read_row) = true)
    {oc_h_read_column kV_h_read_column dc_h_read_column pm_h_read_column ct_h_read_column cd_h_read_column : Value} {od_h_read_column an_h_read_column : Option Addr} {sl_h_read_column : Array (Option Value)}
    (l_h_read_column : K.lookup g_h_read_column = some ⟨oc_h_read_column, od_h_read_column, .func (PySem.W.fnOf "_law_read_column" "_law_read_column" (defArgs s_l_read_column) (defBody s_l_read_column) (defScope s_l_read_column) .none kV_h_read_column dc_h_read_column pm_h_read_column an_h_read_column cd_h_read_column ct_h_read_column), sl_h_read_column⟩) (c_h_read_column : PySem.W.codeIn K cd_h_read_column "_law_read_column" = true) (k_h_read_column : PySem.W.keepIn K (.ref g_h_read_column) = true)
    {oc_h_read_cell kV_h_read_cell dc_h_read_cell pm_h_read_cell ct_h_read_cell cd_h_read_cell : Value} {od_h_read_cell an_h_read_cell : Option Addr} {sl_h_read_cell : Array (Option Value)}
    (l_h_read_cell : K.lookup g_h_read_cell = some ⟨oc_h_read_cell, od_h_read_cell, .func (PySem.W.fnOf "_law_read_cell" "_law_read_cell" (defArgs s_l_read_cell) (defBody s_l_read_cell) (defScope s_l_read_cell) .none kV_h_read_cell dc_h_read_cell pm_h_read_cell an_h_read_cell cd_h_read_cell ct_h_read_cell), sl_h_read_cell⟩) (c_h_read_cell : PySem.W.codeIn K cd_h_read_cell "_law_read_cell" = true) (k_h_read_cell : PySem.W.keepIn K (.ref g_h_read_cell) = true)
    {oc_h_number_up_to kV_h_number_up_to dc_h_number_up_to pm_h_number_up_to ct_h_number_up_to cd_h_number_up_to : Value} {od_h_number_up_to an_h_number_up_to : Option Addr} {sl_h_number_up_to : Array (Option Value)}
    (l_h_number_up_to : K.lookup g_h_number_up_to = some ⟨oc_h_number_up_to, od_h_number_up_to, .func (PySem.W.fnOf "_law_number_up_to" "_law_number_up_to" (defArgs s_l_number_up_to) (defBody s_l_number_up_to) (defScope s_l_number_up_to) .none kV_h_number_up_to dc_h_number_up_to pm_h_number_up_to an_h_number_up_to cd_h_number_up_to ct_h_number_up_to), sl_h_number_up_to⟩) (c_h_number_up_to : PySem.W.codeIn K cd_h_number_up_to "_law_number_up_to" = true) (k_h_number_up_to : PySem.W.keepIn K (.ref g_h_number_up_to) = true)
    {oc_h_sheet_name kV_h_sheet_name dc_h_sheet_name pm_h_sheet_name ct_h_sheet_name cd_h_sheet_name : Value} {od_h_sheet_name an_h_sheet_name : Option Addr} {sl_h_sheet_name : Array (Option Value)}
    (l_h_sheet_name : K.lookup g_h_sheet_name = some ⟨oc_h_sheet_name, od_h_sheet_name, .func (PySem.W.fnOf "_law_sheet_name" "_law_sheet_name" (defArgs s_l_sheet_name) (defBody s_l_sheet_name) (defScope s_l_sheet_name) .none kV_h_sheet_name dc_h_sheet_name pm_h_sheet_name an_h_sheet_name cd_h_sheet_name ct_h_sheet_name), sl_h_sheet_name⟩) (c_h_sheet_name : PySem.W.codeIn K cd_h_sheet_name "_law_sheet_name" = true) (k_h_sheet_name : PySem.W.keepIn K (.ref g_h_sheet_name) = true)
    {oc_h_place kV_h_place dc_h_place pm_h_place ct_h_place cd_h_place : Value} {od_h_place an_h_place : Option Addr} {sl_h_place : Array (Option Value)}
    (l_h_place : K.lookup g_h_place = some ⟨oc_h_place, od_h_place, .func (PySem.W.fnOf "_law_place" "_law_place" (defArgs s_l_place) (defBody s_l_place) (defScope s_l_place) .none kV_h_place dc_h_place pm_h_place an_h_place cd_h_place ct_h_place), sl_h_place⟩) (c_h_place : PySem.W.codeIn K cd_h_place "_law_place" = true) (k_h_place : PySem.W.keepIn K (.ref g_h_place) = true)
    {oc_h_spoilt kV_h_spoilt dc_h_spoilt pm_h_spoilt ct_h_spoilt cd_h_spoilt : Value} {od_h_spoilt an_h_spoilt : Option Addr} {sl_h_spoilt : Array (Option Value)}
    (l_h_spoilt : K.lookup g_h_spoilt = some ⟨oc_h_spoilt, od_h_spoilt, .func (PySem.W.fnOf "_law_spoilt" "_law_spoilt" (defArgs s_l_spoilt) (defBody s_l_spoilt) (defScope s_l_spoilt) .none kV_h_spoilt dc_h_spoilt pm_h_spoilt an_h_spoilt cd_h_spoilt ct_h_spoilt), sl_h_spoilt⟩) (c_h_spoilt : PySem.W.codeIn K cd_h_spoilt "_law_spoilt" = true) (k_h_spoilt : PySem.W.keepIn K (.ref g_h_spoilt) = true)
    {oc_h_other kV_h_other dc_h_other pm_h_other ct_h_other cd_h_other : Value} {od_h_other an_h_other : Option Addr} {sl_h_other : Array (Option Value)}
    (l_h_other : K.lookup g_h_other = some ⟨oc_h_other, od_h_other, .func (PySem.W.fnOf "_law_other" "_law_other" (defArgs s_l_other) (defBody s_l_other) (defScope s_l_other) .none kV_h_other dc_h_other pm_h_other an_h_other cd_h_other ct_h_other), sl_h_other⟩) (c_h_other : PySem.W.codeIn K cd_h_other "_law_other" = true) (k_h_other : PySem.W.keepIn K (.ref g_h_other) = true)
    {oc_h_parted kV_h_parted dc_h_parted pm_h_parted ct_h_parted cd_h_parted : Value} {od_h_parted an_h_parted : Option Addr} {sl_h_parted : Array (Option Value)}
    (l_h_parted : K.lookup g_h_parted = some ⟨oc_h_parted, od_h_parted, .func (PySem.W.fnOf "_law_parted" "_law_parted" (defArgs s_l_parted) (defBody s_l_parted) (defScope s_l_parted) .none kV_h_parted dc_h_parted pm_h_parted an_h_parted cd_h_parted ct_h_parted), sl_h_parted⟩) (c_h_parted : PySem.W.codeIn K cd_h_parted "_law_parted" = true) (k_h_parted : PySem.W.keepIn K (.ref g_h_parted) = true)
    {oc_h_made kV_h_made dc_h_made pm_h_made ct_h_made cd_h_made : Value} {od_h_made an_h_made : Option Addr} {sl_h_made : Array (Option Value)}
    (l_h_made : K.lookup g_h_made = some ⟨oc_h_made, od_h_made, .func (PySem.W.fnOf "_law_made" "_law_made" (defArgs s_l_made) (defBody s_l_made) (defScope s_l_made) .none kV_h_made dc_h_made pm_h_made an_h_made cd_h_made ct_h_made), sl_h_made⟩) (c_h_made : PySem.W.codeIn K cd_h_made "_law_made" = true) (k_h_made : PySem.W.keepIn K (.ref g_h_made) = true)
    {oc_h_is kV_h_is dc_h_is pm_h_is ct_h_is cd_h_is : Value} {od_h_is an_h_is : Option Addr} {sl_h_is : Array (Option Value)}
    (l_h_is : K.lookup g_h_is = some ⟨oc_h_is, od_h_is, .func (PySem.W.fnOf "_law_is" "_law_is" (defArgs s_l_is) (defBody s_l_is) (defScope s_l_is) .none kV_h_is dc_h_is pm_h_is an_h_is cd_h_is ct_h_is), sl_h_is⟩) (c_h_is : PySem.W.codeIn K cd_h_is "_law_is" = true) (k_h_is : PySem.W.keepIn K (.ref g_h_is) = true)
    {oc_h_address_right kV_h_address_right dc_h_address_right pm_h_address_right ct_h_address_right cd_h_address_right : Value} {od_h_address_right an_h_address_right : Option Addr} {sl_h_address_right : Array (Option Value)}
    (l_h_address_right : K.lookup g_h_address_right = some ⟨oc_h_address_right, od_h_address_right, .func (PySem.W.fnOf "_law_address_right" "_law_address_right" (defArgs s_l_address_right) (defBody s_l_address_right) (defScope s_l_address_right) .none kV_h_address_right dc_h_address_right pm_h_address_right an_h_address_right cd_h_address_right ct_h_address_right), sl_h_address_right⟩) (c_h_address_right : PySem.W.codeIn K cd_h_address_right "_law_address_right" = true) (k_h_address_right : PySem.W.keepIn K (.ref g_h_address_right) = true)
    {oc_t_told kV_t_told dc_t_told pm_t_told ct_t_told cd_t_told : Value} {od_t_told an_t_told : Option Addr} {sl_t_told : Array (Option Value)}
    (l_t_told : K.lookup g_t_told = some ⟨oc_t_told, od_t_told, .func (PySem.W.fnOf "_law_told" "_law_told" (defArgs s_l_told) (defBody s_l_told) (defScope s_l_told) .none kV_t_told dc_t_told pm_t_told an_t_told cd_t_told ct_t_told), sl_t_told⟩) (c_t_told : PySem.W.codeIn K cd_t_told "_law_told" = true) (k_t_told : PySem.W.keepIn K (.ref g_t_told) = true)
    {oc_r_step_right kV_r_step_right dc_r_step_right pm_r_step_right ct_r_step_right : Value} {od_r_step_right an_r_step_right : Option Addr} {sl_r_step_right : Array (Option Value)}
    (l_r_step_right : K.lookup g_r_step_right = some ⟨oc_r_step_right, od_r_step_right, .func (PySem.W.fnOf "_law_step_right" "_law_step_right" (defArgs s_l_step_right) (defBody s_l_step_right) (defScope s_l_step_right) .none kV_r_step_right dc_r_step_right pm_r_step_right an_r_step_right (.ref c_step_right) ct_r_step_right), sl_r_step_right⟩) (c_r_step_right : PySem.W.codeIn K (.ref c_step_right) "_law_step_right" = true) (k_r_step_right : PySem.W.keepIn K (.ref g_r_step_right) = true)
    {oc_r_text_right kV_r_text_right dc_r_text_right pm_r_text_right ct_r_text_right : Value} {od_r_text_right an_r_text_right : Option Addr} {sl_r_text_right : Array (Option Value)}
    (l_r_text_right : K.lookup g_r_text_right = some ⟨oc_r_text_right, od_r_text_right, .func (PySem.W.fnOf "_law_text_right" "_law_text_right" (defArgs s_l_text_right) (defBody s_l_text_right) (defScope s_l_text_right) .none kV_r_text_right dc_r_text_right pm_r_text_right an_r_text_right (.ref c_text_right) ct_r_text_right), sl_r_text_right⟩) (c_r_text_right : PySem.W.codeIn K (.ref c_text_right) "_law_text_right" = true) (k_r_text_right : PySem.W.keepIn K (.ref g_r_text_right) = true)
    {oc_r_odd_right kV_r_odd_right dc_r_odd_right pm_r_odd_right ct_r_odd_right : Value} {od_r_odd_right an_r_odd_right : Option Addr} {sl_r_odd_right : Array (Option Value)}
    (l_r_odd_right : K.lookup g_r_odd_right = some ⟨oc_r_odd_right, od_r_odd_right, .func (PySem.W.fnOf "_law_odd_right" "_law_odd_right" (defArgs s_l_odd_right) (defBody s_l_odd_right) (defScope s_l_odd_right) .none kV_r_odd_right dc_r_odd_right pm_r_odd_right an_r_odd_right (.ref c_odd_right) ct_r_odd_right), sl_r_odd_right⟩) (c_r_odd_right : PySem.W.codeIn K (.ref c_odd_right) "_law_odd_right" = true) (k_r_odd_right : PySem.W.keepIn K (.ref g_r_odd_right) = true)
    {oc_law kV_law dc_law pm_law ct_law cd_law : Value} {od_law an_law : Option Addr} {sl_law : Array (Option Value)}
    (l_law : K.lookup g_law = some ⟨oc_law, od_law, .func (PySem.W.fnOf "law" "law" (defArgs s_law) (defBody s_law) (defScope s_law) .none kV_law dc_law pm_law an_law cd_law ct_law), sl_law⟩) (c_law : PySem.W.codeIn K cd_law "law" = true) (k_law : PySem.W.keepIn K (.ref g_law) = true)
    (nBN : C_B ≠ C_N)
    (nBO : C_B ≠ C_O)
    (nNO : C_N ≠ C_O)
    (nBS : C_B ≠ S)
    (nNS : C_N ≠ S)
    (nOS : C_O ≠ S)
    (tSX : tS ≠ tX)
    (tSO : tS ≠ tO)
    (tXO : tX ≠ tO)
    (hdS : PySem.W.codeHdIn K c_step_right tS = true)
    (hdX : PySem.W.codeHdIn K c_text_right tX = true)
    (hdO : PySem.W.codeHdIn K c_odd_right tO = true)
    (ntS : K.lookup tS = none)
    (ntX : K.lookup tX = none)
    (ntO : K.lookup tO = none)
    (tbS : h.get? tS = some (PySem.W.tabObj #[]))
    (tbX : h.get? tX = some (PySem.W.tabObj #[]))
    (tbO : h.get? tO = some (PySem.W.tabObj #[]))
    : LawAtS l w K CX0 11 63 "_law_script" mg fa h := by
  have z1_str := kitA L_A tyA y1_str
  have z1_tuple := kitA L_A tyA y1_tuple
  have z1_NoneType := kitA L_A tyA y1_NoneType
  have z1_int := kitA L_A tyA y1_int
  have z1_bool := kitA L_A tyA y1_bool
  have z1_list := kitA L_A tyA y1_list
  have e := hfa.symm.trans (PySem.W.mg_of X G a_law)
  cases e
  have ln_B : LineOf K S C_B := ⟨_, _, _, _, _, _, _, _, _, _, _, _, _, _, L_B⟩
  have ln_N : LineOf K S C_N := ⟨_, _, _, _, _, _, _, _, _, _, _, _, _, _, L_N⟩
  have ln_O : LineOf K S C_O := ⟨_, _, _, _, _, _, _, _, _, _, _, _, _, _, L_O⟩
  have ln_M : LineOf K S C_M := ⟨_, _, _, _, _, _, _, _, _, _, _, _, _, _, L_M⟩
  have e_B : Er K mg "BadValue" "BadValue.__init__" s_BadValue_init "value" S C_B f_B (PySem.W.fnOf "__init__" "BadValue.__init__" (defArgs s_BadValue_init) (defBody s_BadValue_init) (defScope s_BadValue_init) .none kV_iB dc_iB pm_iB an_iB cd_iB ct_iB) := ⟨PySem.W.mg_of X G a_B, ⟨ln_B.ox sa_B kC_B, i_B, ty_B⟩, ln_B.xf hg_B hk_B, no0_B, fun_mk (st := s_BadValue_init) l_iB c_iB k_iB, ln_B, nBS⟩
  have e_N : Er K mg "NotAName" "NotAName.__init__" s_NotAName_init "name" S C_N f_N (PySem.W.fnOf "__init__" "NotAName.__init__" (defArgs s_NotAName_init) (defBody s_NotAName_init) (defScope s_NotAName_init) .none kV_iN dc_iN pm_iN an_iN cd_iN ct_iN) := ⟨PySem.W.mg_of X G a_N, ⟨ln_N.ox sa_N kC_N, i_N, ty_N⟩, ln_N.xf hg_N hk_N, no0_N, fun_mk (st := s_NotAName_init) l_iN c_iN k_iN, ln_N, nNS⟩
  have e_O : ErO K mg S C_O f_O (PySem.W.fnOf "__init__" "OffGrid.__init__" (defArgs s_OffGrid_init) (defBody s_OffGrid_init) (defScope s_OffGrid_init) .none kV_iO dc_iO pm_iO an_iO cd_iO ct_iO) := ⟨PySem.W.mg_of X G a_O, ⟨ln_O.ox sa_O kC_O, i_O, ty_O⟩, ln_O.xf hg_O hk_O, no0_O, no1_O, fun_mk (st := s_OffGrid_init) l_iO c_iO k_iO, ln_O, nOS⟩
  have F_p_is_integer := fun_mk (st := s_is_integer) l_p_is_integer c_p_is_integer k_p_is_integer
  have b_p_is_integer := F_p_is_integer.binds (ps := P_is_integer) fun _ _ _ _ _ _ us hl => match us, hl with | [_], _ => rfl
  have F_p_check_range := fun_mk (st := s_check_range) l_p_check_range c_p_check_range k_p_check_range
  have b_p_check_range := F_p_check_range.binds (ps := P_check_range) fun _ _ _ _ _ _ us hl => match us, hl with | [_, _, _], _ => rfl
  have F_p_check_string := fun_mk (st := s_check_string) l_p_check_string c_p_check_string k_p_check_string
  have b_p_check_string := F_p_check_string.binds (ps := P_check_string) fun _ _ _ _ _ _ us hl => match us, hl with | [_], _ => rfl
  have F_p_letters_of := fun_mk (st := s_letters_of) l_p_letters_of c_p_letters_of k_p_letters_of
  have b_p_letters_of := F_p_letters_of.binds (ps := P_letters_of) fun _ _ _ _ _ _ us hl => match us, hl with | [_], _ => rfl
  have F_p_is_letters := fun_mk (st := s_is_letters) l_p_is_letters c_p_is_letters k_p_is_letters
  have b_p_is_letters := F_p_is_letters.binds (ps := P_is_letters) fun _ _ _ _ _ _ us hl => match us, hl with | [_], _ => rfl
  have F_p_is_column_text := fun_mk (st := s_is_column_text) l_p_is_column_text c_p_is_column_text k_p_is_column_text
  have b_p_is_column_text := F_p_is_column_text.binds (ps := P_is_column_text) fun _ _ _ _ _ _ us hl => match us, hl with | [_], _ => rfl
  have F_p_column_of := fun_mk (st := s_column_of) l_p_column_of c_p_column_of k_p_column_of
  have b_p_column_of := F_p_column_of.binds (ps := P_column_of) fun _ _ _ _ _ _ us hl => match us, hl with | [_], _ => rfl
  have F_p_check_integer := fun_mk (st := s_check_integer) l_p_check_integer c_p_check_integer k_p_check_integer
  have b_p_check_integer := F_p_check_integer.binds (ps := P_check_integer) fun _ _ _ _ _ _ us hl => match us, hl with | [_], _ => rfl
  have F_p_check_truth := fun_mk (st := s_check_truth) l_p_check_truth c_p_check_truth k_p_check_truth
  have b_p_check_truth := F_p_check_truth.binds (ps := P_check_truth) fun _ _ _ _ _ _ us hl => match us, hl with | [_], _ => rfl
  have F_p_is_on_grid := fun_mk (st := s_is_on_grid) l_p_is_on_grid c_p_is_on_grid k_p_is_on_grid
  have b_p_is_on_grid := F_p_is_on_grid.binds (ps := P_is_on_grid) fun _ _ _ _ _ _ us hl => match us, hl with | [_, _], _ => rfl
  have F_p_is_sheet_name := fun_mk (st := s_is_sheet_name) l_p_is_sheet_name c_p_is_sheet_name k_p_is_sheet_name
  have b_p_is_sheet_name := F_p_is_sheet_name.binds (ps := P_is_sheet_name) fun _ _ _ _ _ _ us hl => match us, hl with | [_], _ => rfl
  have F_p_small_letters := fun_mk (st := s_small_letters) l_p_small_letters c_p_small_letters k_p_small_letters
  have b_p_small_letters := F_p_small_letters.binds (ps := P_small_letters) fun _ _ _ _ _ _ us hl => match us, hl with | [_], _ => rfl
  have F_p_alike_sheets := fun_mk (st := s_alike_sheets) l_p_alike_sheets c_p_alike_sheets k_p_alike_sheets
  have b_p_alike_sheets := F_p_alike_sheets.binds (ps := P_alike_sheets) fun _ _ _ _ _ _ us hl => match us, hl with | [_, _], _ => rfl
  have F_p_is_row_text := fun_mk (st := s_is_row_text) l_p_is_row_text c_p_is_row_text k_p_is_row_text
  have b_p_is_row_text := F_p_is_row_text.binds (ps := P_is_row_text) fun _ _ _ _ _ _ us hl => match us, hl with | [_], _ => rfl
  have F_p_split_cell := fun_mk (st := s_split_cell) l_p_split_cell c_p_split_cell k_p_split_cell
  have b_p_split_cell := F_p_split_cell.binds (ps := P_split_cell) fun _ _ _ _ _ _ us hl => match us, hl with | [_], _ => rfl
  have F_p_read_address := fun_mk (st := s_read_address) l_p_read_address c_p_read_address k_p_read_address
  have b_p_read_address := F_p_read_address.binds (ps := P_read_address) fun _ _ _ _ _ _ us hl => match us, hl with | [_], _ => rfl
  have F_p_address_text := fun_mk (st := s_address_text) l_p_address_text c_p_address_text k_p_address_text
  have b_p_address_text := F_p_address_text.binds (ps := P_address_text) fun _ _ _ _ _ _ us hl => match us, hl with | [_], _ => rfl
  have F_h_signs := fun_mk (st := s_l_signs) l_h_signs c_h_signs k_h_signs
  have b_h_signs := F_h_signs.binds (ps := P_l_signs) fun _ _ _ _ _ _ us hl => match us, hl with | [], _ => rfl
  have F_h_letters := fun_mk (st := s_l_letters) l_h_letters c_h_letters k_h_letters
  have b_h_letters := F_h_letters.binds (ps := P_l_letters) fun _ _ _ _ _ _ us hl => match us, hl with | [_], _ => rfl
  have F_h_column := fun_mk (st := s_l_column) l_h_column c_h_column k_h_column
  have b_h_column := F_h_column.binds (ps := P_l_column) fun _ _ _ _ _ _ us hl => match us, hl with | [_], _ => rfl
  have F_h_is_letters := fun_mk (st := s_l_is_letters) l_h_is_letters c_h_is_letters k_h_is_letters
  have b_h_is_letters := F_h_is_letters.binds (ps := P_l_is_letters) fun _ _ _ _ _ _ us hl => match us, hl with | [_], _ => rfl
  have F_h_mixed_case := fun_mk (st := s_l_mixed_case) l_h_mixed_case c_h_mixed_case k_h_mixed_case
  have b_h_mixed_case := F_h_mixed_case.binds (ps := P_l_mixed_case) fun _ _ _ _ _ _ us hl => match us, hl with | [_, _], _ => rfl
  have F_h_pick := fun_mk (st := s_l_pick) l_h_pick c_h_pick k_h_pick
  have b_h_pick := F_h_pick.binds (ps := P_l_pick) fun _ _ _ _ _ _ us hl => match us, hl with | [_, _], _ => rfl
  have F_h_draw := fun_mk (st := s_l_draw) l_h_draw c_h_draw k_h_draw
  have b_h_draw := F_h_draw.binds (ps := P_l_draw) fun _ _ _ _ _ _ us hl => match us, hl with | [_, _], _ => rfl
  have F_h_pen := fun_mk (st := s_l_pen) l_h_pen c_h_pen k_h_pen
  have b_h_pen := F_h_pen.binds (ps := P_l_pen) fun _ _ _ _ _ _ us hl => match us, hl with | [_], _ => rfl
  have F_h_row_text := fun_mk (st := s_l_row_text) l_h_row_text c_h_row_text k_h_row_text
  have b_h_row_text := F_h_row_text.binds (ps := P_l_row_text) fun _ _ _ _ _ _ us hl => match us, hl with | [_, _], _ => rfl
  have F_h_column_text := fun_mk (st := s_l_column_text) l_h_column_text c_h_column_text k_h_column_text
  have b_h_column_text := F_h_column_text.binds (ps := P_l_column_text) fun _ _ _ _ _ _ us hl => match us, hl with | [_, _], _ => rfl
  have F_h_sheet_text := fun_mk (st := s_l_sheet_text) l_h_sheet_text c_h_sheet_text k_h_sheet_text
  have b_h_sheet_text := F_h_sheet_text.binds (ps := P_l_sheet_text) fun _ _ _ _ _ _ us hl => match us, hl with | [_], _ => rfl
  have F_h_cell_text := fun_mk (st := s_l_cell_text) l_h_cell_text c_h_cell_text k_h_cell_text
  have b_h_cell_text := F_h_cell_text.binds (ps := P_l_cell_text) fun _ _ _ _ _ _ us hl => match us, hl with | [_], _ => rfl
  have F_h_is_digits := fun_mk (st := s_l_is_digits) l_h_is_digits c_h_is_digits k_h_is_digits
  have b_h_is_digits := F_h_is_digits.binds (ps := P_l_is_digits) fun _ _ _ _ _ _ us hl => match us, hl with | [_], _ => rfl
  have F_h_is_sheet := fun_mk (st := s_l_is_sheet) l_h_is_sheet c_h_is_sheet k_h_is_sheet
  have b_h_is_sheet := F_h_is_sheet.binds (ps := P_l_is_sheet) fun _ _ _ _ _ _ us hl => match us, hl with | [_], _ => rfl
  have F_h_read_row := fun_mk (st := s_l_read_row) l_h_read_row c_h_read_row k_h_read_row
  have b_h_read_row := F_h_read_row.binds (ps := P_l_read_row) fun _ _ _ _ _ _ us hl => match us, hl with | [_], _ => rfl
  have F_h_read_column := fun_mk (st := s_l_read_column) l_h_read_column c_h_read_column k_h_read_column
  have b_h_read_column := F_h_read_column.binds (ps := P_l_read_column) fun _ _ _ _ _ _ us hl => match us, hl with | [_], _ => rfl
  have F_h_read_cell := fun_mk (st := s_l_read_cell) l_h_read_cell c_h_read_cell k_h_read_cell
  have b_h_read_cell := F_h_read_cell.binds (ps := P_l_read_cell) fun _ _ _ _ _ _ us hl => match us, hl with | [_, _], _ => rfl
  have F_h_number_up_to := fun_mk (st := s_l_number_up_to) l_h_number_up_to c_h_number_up_to k_h_number_up_to
  have b_h_number_up_to := F_h_number_up_to.binds (ps := P_l_number_up_to) fun _ _ _ _ _ _ us hl => match us, hl with | [_, _], _ => rfl
  have F_h_sheet_name := fun_mk (st := s_l_sheet_name) l_h_sheet_name c_h_sheet_name k_h_sheet_name
  have b_h_sheet_name := F_h_sheet_name.binds (ps := P_l_sheet_name) fun _ _ _ _ _ _ us hl => match us, hl with | [_], _ => rfl
  have F_h_place := fun_mk (st := s_l_place) l_h_place c_h_place k_h_place
  have b_h_place := F_h_place.binds (ps := P_l_place) fun _ _ _ _ _ _ us hl => match us, hl with | [_], _ => rfl
  have F_h_spoilt := fun_mk (st := s_l_spoilt) l_h_spoilt c_h_spoilt k_h_spoilt
  have b_h_spoilt := F_h_spoilt.binds (ps := P_l_spoilt) fun _ _ _ _ _ _ us hl => match us, hl with | [_, _, _], _ => rfl
  have F_h_other := fun_mk (st := s_l_other) l_h_other c_h_other k_h_other
  have b_h_other := F_h_other.binds (ps := P_l_other) fun _ _ _ _ _ _ us hl => match us, hl with | [_, _], _ => rfl
  have F_h_parted := fun_mk (st := s_l_parted) l_h_parted c_h_parted k_h_parted
  have b_h_parted := F_h_parted.binds (ps := P_l_parted) fun _ _ _ _ _ _ us hl => match us, hl with | [_], _ => rfl
  have F_h_made := fun_mk (st := s_l_made) l_h_made c_h_made k_h_made
  have b_h_made := F_h_made.binds (ps := P_l_made) fun _ _ _ _ _ _ us hl => match us, hl with | [_], _ => rfl
  have F_h_is := fun_mk (st := s_l_is) l_h_is c_h_is k_h_is
  have b_h_is := F_h_is.binds (ps := P_l_is) fun _ _ _ _ _ _ us hl => match us, hl with | [_, _], _ => rfl
  have F_h_address_right := fun_mk (st := s_l_address_right) l_h_address_right c_h_address_right k_h_address_right
  have b_h_address_right := F_h_address_right.binds (ps := P_l_address_right) fun _ _ _ _ _ _ us hl => match us, hl with | [_, _], _ => rfl
  have F_t_told := fun_mk (st := s_l_told) l_t_told c_t_told k_t_told
  have b_t_told := F_t_told.binds (ps := P_l_told) fun _ _ _ _ _ _ us hl => match us, hl with | [_], _ => rfl
  have F_r_step_right : FunC K "_law_step_right" "_law_step_right" s_l_step_right g_r_step_right c_step_right (PySem.W.fnOf "_law_step_right" "_law_step_right" (defArgs s_l_step_right) (defBody s_l_step_right) (defScope s_l_step_right) .none kV_r_step_right dc_r_step_right pm_r_step_right an_r_step_right (.ref c_step_right) ct_r_step_right) := ⟨⟨_, _, _, _, _, _, _, _, rfl, l_r_step_right, c_r_step_right⟩, k_r_step_right⟩
  have F2_r_step_right := F_r_step_right.toFun
  have b_r_step_right := F2_r_step_right.binds (ps := P_l_step_right) fun _ _ _ _ _ _ us hl => match us, hl with | [_, _], _ => rfl
  have F_r_text_right : FunC K "_law_text_right" "_law_text_right" s_l_text_right g_r_text_right c_text_right (PySem.W.fnOf "_law_text_right" "_law_text_right" (defArgs s_l_text_right) (defBody s_l_text_right) (defScope s_l_text_right) .none kV_r_text_right dc_r_text_right pm_r_text_right an_r_text_right (.ref c_text_right) ct_r_text_right) := ⟨⟨_, _, _, _, _, _, _, _, rfl, l_r_text_right, c_r_text_right⟩, k_r_text_right⟩
  have F2_r_text_right := F_r_text_right.toFun
  have b_r_text_right := F2_r_text_right.binds (ps := P_l_text_right) fun _ _ _ _ _ _ us hl => match us, hl with | [_, _], _ => rfl
  have F_r_odd_right : FunC K "_law_odd_right" "_law_odd_right" s_l_odd_right g_r_odd_right c_odd_right (PySem.W.fnOf "_law_odd_right" "_law_odd_right" (defArgs s_l_odd_right) (defBody s_l_odd_right) (defScope s_l_odd_right) .none kV_r_odd_right dc_r_odd_right pm_r_odd_right an_r_odd_right (.ref c_odd_right) ct_r_odd_right) := ⟨⟨_, _, _, _, _, _, _, _, rfl, l_r_odd_right, c_r_odd_right⟩, k_r_odd_right⟩
  have F2_r_odd_right := F_r_odd_right.toFun
  have b_r_odd_right := F2_r_odd_right.binds (ps := P_l_odd_right) fun _ _ _ _ _ _ us hl => match us, hl with | [_, _], _ => rfl
  have F_law := fun_mk (st := s_law) l_law c_law k_law
  have b_law := F_law.binds (ps := P_law) fun _ _ _ _ _ _ us hl => match us, hl with | [_], _ => rfl
  have F_iA := fun_mk (st := s_Address_init) l_iA c_iA k_iA
  have F_m__eq__ := fun_mk (st := s_Address___eq__) l_m__eq__ c_m__eq__ k_m__eq__
  have b_m__eq__ := F_m__eq__.binds (ps := P_Address___eq__) fun _ _ _ _ _ _ us hl => match us, hl with | [_, _], _ => rfl
  have F_mpushed := fun_mk (st := s_Address_pushed) l_mpushed c_mpushed k_mpushed
  have b_mpushed := F_mpushed.binds (ps := P_Address_pushed) fun _ _ _ _ _ _ us hl => match us, hl with | [_, _, _], _ => rfl
  have F_mbare := fun_mk (st := s_Address_bare) l_mbare c_mbare k_mbare
  have b_mbare := F_mbare.binds (ps := P_Address_bare) fun _ _ _ _ _ _ us hl => match us, hl with | [_], _ => rfl
  have FD : FunD K "__init__" "Address.__init__" (defArgs s_Address_init) (defBody s_Address_init) (defScope s_Address_init) [] kwA f_A (PySem.W.fnOf "__init__" "Address.__init__" (defArgs s_Address_init) (defBody s_Address_init) (defScope s_Address_init) .none (.ref D_A) dc_iA pm_iA an_iA cd_iA ct_iA) := ⟨⟨_, _, _, _, _, _, _, _, _, _, rfl, l_iA, c_iA, .inl ⟨rfl, rfl⟩, .inr ⟨D_A, rfl, fun q hq => by
    rcases List.mem_cons.mp hq with h | h
    · rw [h]; exact ⟨_, dA_fixed_row, rfl⟩
    · rcases List.mem_cons.mp h with h | h
      · rw [h]; exact ⟨_, dA_fixed_column, rfl⟩
      · rw [List.mem_singleton.mp h]; exact ⟨_, dA_sheet, rfl⟩⟩⟩, k_iA⟩
  obtain ⟨mv, kb0⟩ := kb0_of FD
  have TC : TxtC K mg ⟨S, C_B, C_N, f_B, f_N, _, _, g_p_is_integer, g_p_check_range, g_p_check_string, g_p_letters_of, g_p_is_letters, g_p_is_column_text, g_p_column_of, _, _, _, _, _, _, _⟩ := ⟨e_B, e_N, nBN, PySem.W.mg_none_of X G z_isinstance, PySem.W.mg_none_of X G z_int, PySem.W.mg_none_of X G z_bool, PySem.W.mg_none_of X G z_str, PySem.W.mg_none_of X G z_len, PySem.W.mg_none_of X G z_divmod, ⟨kc, PySem.W.mg_of X G a_COL⟩, ⟨kl, PySem.W.mg_of X G a_LET⟩, PySem.W.mg_of X G a_p_is_integer, F_p_is_integer, b_p_is_integer, PySem.W.mg_of X G a_p_check_range, F_p_check_range, b_p_check_range, PySem.W.mg_of X G a_p_check_string, F_p_check_string, b_p_check_string, PySem.W.mg_of X G a_p_letters_of, F_p_letters_of, b_p_letters_of, PySem.W.mg_of X G a_p_is_letters, F_p_is_letters, b_p_is_letters, PySem.W.mg_of X G a_p_is_column_text, F_p_is_column_text, b_p_is_column_text, PySem.W.mg_of X G a_p_column_of, F_p_column_of, b_p_column_of⟩
  have TG : TxtG K mg ⟨g_p_check_integer, _, g_p_check_truth, _, g_p_is_on_grid, _, g_p_is_sheet_name, _, g_p_small_letters, _, g_p_alike_sheets, _, g_p_is_row_text, _, g_p_split_cell, _⟩ := ⟨⟨kr, PySem.W.mg_of X G a_ROWS⟩, PySem.W.mg_of X G a_p_check_integer, F_p_check_integer, b_p_check_integer, PySem.W.mg_of X G a_p_check_truth, F_p_check_truth, b_p_check_truth, PySem.W.mg_of X G a_p_is_on_grid, F_p_is_on_grid, b_p_is_on_grid, PySem.W.mg_of X G a_p_is_sheet_name, F_p_is_sheet_name, b_p_is_sheet_name, PySem.W.mg_of X G a_p_small_letters, F_p_small_letters, b_p_small_letters, PySem.W.mg_of X G a_p_alike_sheets, F_p_alike_sheets, b_p_alike_sheets, PySem.W.mg_of X G a_p_is_row_text, F_p_is_row_text, b_p_is_row_text, PySem.W.mg_of X G a_p_split_cell, F_p_split_cell, b_p_split_cell⟩
  have TH : TxtH K mg ⟨g_h_signs, _, g_h_letters, _, g_h_column, _, g_h_is_letters, _, g_h_mixed_case, _, g_h_pick, _, g_h_draw, _, g_h_pen, _⟩ := ⟨PySem.W.mg_none_of X G z_list, PySem.W.mg_none_of X G z_int, PySem.W.mg_none_of X G z_len, PySem.W.mg_none_of X G z_range, PySem.W.mg_none_of X G z_min, PySem.W.mg_none_of X G z_max, PySem.W.mg_of X G a_h_signs, F_h_signs, b_h_signs, PySem.W.mg_of X G a_h_letters, F_h_letters, b_h_letters, PySem.W.mg_of X G a_h_column, F_h_column, b_h_column, PySem.W.mg_of X G a_h_is_letters, F_h_is_letters, b_h_is_letters, PySem.W.mg_of X G a_h_mixed_case, F_h_mixed_case, b_h_mixed_case, PySem.W.mg_of X G a_h_pick, F_h_pick, b_h_pick, PySem.W.mg_of X G a_h_draw, F_h_draw, b_h_draw, PySem.W.mg_of X G a_h_pen, F_h_pen, b_h_pen⟩
  have cl : Cls K C_A := ⟨pg_A, hd2_A, po_A, sa_A⟩
  have TA : TxtA6 K mg S ⟨C_A, C_O, f_O, _, f_A, m___eq__, m_pushed, m_bare, _, (PySem.W.fnOf "__eq__" "Address.__eq__" (defArgs s_Address___eq__) (defBody s_Address___eq__) (defScope s_Address___eq__) .none kV_m__eq__ dc_m__eq__ pm_m__eq__ an_m__eq__ cd_m__eq__ ct_m__eq__), (PySem.W.fnOf "pushed" "Address.pushed" (defArgs s_Address_pushed) (defBody s_Address_pushed) (defScope s_Address_pushed) .none kV_mpushed dc_mpushed pm_mpushed an_mpushed cd_mpushed ct_mpushed), (PySem.W.fnOf "bare" "Address.bare" (defArgs s_Address_bare) (defBody s_Address_bare) (defScope s_Address_bare) .none kV_mbare dc_mbare pm_mbare an_mbare cd_mbare ct_mbare)⟩ := ⟨e_O, PySem.W.mg_of X G a_A, cl, nA_row, nA_column, nA_fixed_row, nA_fixed_column, nA_sheet, F_iA⟩
  have Z : TxtB K mg (⟨C_A, C_O, f_O, (PySem.W.fnOf "__init__" "OffGrid.__init__" (defArgs s_OffGrid_init) (defBody s_OffGrid_init) (defScope s_OffGrid_init) .none kV_iO dc_iO pm_iO an_iO cd_iO ct_iO), f_A, m___eq__, m_pushed, m_bare, (PySem.W.fnOf "__init__" "Address.__init__" (defArgs s_Address_init) (defBody s_Address_init) (defScope s_Address_init) .none (.ref D_A) dc_iA pm_iA an_iA cd_iA ct_iA), (PySem.W.fnOf "__eq__" "Address.__eq__" (defArgs s_Address___eq__) (defBody s_Address___eq__) (defScope s_Address___eq__) .none kV_m__eq__ dc_m__eq__ pm_m__eq__ an_m__eq__ cd_m__eq__ ct_m__eq__), (PySem.W.fnOf "pushed" "Address.pushed" (defArgs s_Address_pushed) (defBody s_Address_pushed) (defScope s_Address_pushed) .none kV_mpushed dc_mpushed pm_mpushed an_mpushed cd_mpushed ct_mpushed), (PySem.W.fnOf "bare" "Address.bare" (defArgs s_Address_bare) (defBody s_Address_bare) (defScope s_Address_bare) .none kV_mbare dc_mbare pm_mbare an_mbare cd_mbare ct_mbare)⟩ : AdC) C_A := ⟨⟨mk_A, i_A, if_A, kC_A⟩, F_m__eq__, F_mpushed, F_mbare, ha_A, hn, ht, hm_A⟩
  have M : TxtM K (⟨C_A, C_O, f_O, (PySem.W.fnOf "__init__" "OffGrid.__init__" (defArgs s_OffGrid_init) (defBody s_OffGrid_init) (defScope s_OffGrid_init) .none kV_iO dc_iO pm_iO an_iO cd_iO ct_iO), f_A, m___eq__, m_pushed, m_bare, (PySem.W.fnOf "__init__" "Address.__init__" (defArgs s_Address_init) (defBody s_Address_init) (defScope s_Address_init) .none (.ref D_A) dc_iA pm_iA an_iA cd_iA ct_iA), (PySem.W.fnOf "__eq__" "Address.__eq__" (defArgs s_Address___eq__) (defBody s_Address___eq__) (defScope s_Address___eq__) .none kV_m__eq__ dc_m__eq__ pm_m__eq__ an_m__eq__ cd_m__eq__ ct_m__eq__), (PySem.W.fnOf "pushed" "Address.pushed" (defArgs s_Address_pushed) (defBody s_Address_pushed) (defScope s_Address_pushed) .none kV_mpushed dc_mpushed pm_mpushed an_mpushed cd_mpushed ct_mpushed), (PySem.W.fnOf "bare" "Address.bare" (defArgs s_Address_bare) (defBody s_Address_bare) (defScope s_Address_bare) .none kV_mbare dc_mbare pm_mbare an_mbare cd_mbare ct_mbare)⟩ : AdC) N_A mv := ⟨f___eq__, if___eq__, b_m__eq__, ⟨⟨_, _, _, _, _, _, _, _, _, _, _, _, _, _, _, L_A⟩, ok_A, eq_A, ne_A, ⟨_, l_m__eq__, rfl⟩⟩, ⟨_, rfl⟩, ⟨f_bare, if_bare, k_mbare⟩, ⟨f_pushed, if_pushed, k_mpushed⟩, b_mbare, b_mpushed, kb0, z1_str, z1_tuple, z2_str, z2_tuple⟩
  have KK : TxtK K C_A := ⟨z1_NoneType, z1_int, z1_bool, z1_list⟩
  have TX : TxtN K mg ⟨g_h_row_text, _, g_h_column_text, _, g_h_sheet_text, _, g_h_cell_text, _⟩ := ⟨PySem.W.mg_none_of X G z_str, PySem.W.mg_of X G a_h_row_text, F_h_row_text, b_h_row_text, PySem.W.mg_of X G a_h_column_text, F_h_column_text, b_h_column_text, PySem.W.mg_of X G a_h_sheet_text, F_h_sheet_text, b_h_sheet_text, PySem.W.mg_of X G a_h_cell_text, F_h_cell_text, b_h_cell_text⟩
  have T2 : TxtN2 K mg ⟨g_h_is_digits, _, g_h_is_sheet, _⟩ := ⟨PySem.W.mg_of X G a_h_is_digits, F_h_is_digits, b_h_is_digits, PySem.W.mg_of X G a_h_is_sheet, F_h_is_sheet, b_h_is_sheet⟩
  have T3 : TxtN3 K mg ⟨g_h_read_row, _, g_h_read_column, _, g_h_read_cell, _⟩ := ⟨PySem.W.mg_of X G a_h_read_row, F_h_read_row, b_h_read_row, PySem.W.mg_of X G a_h_read_column, F_h_read_column, b_h_read_column, PySem.W.mg_of X G a_h_read_cell, F_h_read_cell, b_h_read_cell⟩
  have TP : TxtN4 K mg ⟨g_h_number_up_to, _, g_h_sheet_name, _, g_h_place, _⟩ := ⟨PySem.W.mg_of X G a_h_number_up_to, F_h_number_up_to, b_h_number_up_to, PySem.W.mg_of X G a_h_sheet_name, F_h_sheet_name, b_h_sheet_name, PySem.W.mg_of X G a_h_place, F_h_place, b_h_place⟩
  have TR : TxtN5 K mg ⟨g_h_spoilt, _, g_h_other, _, g_h_parted, _⟩ := ⟨PySem.W.mg_of X G a_h_spoilt, F_h_spoilt, b_h_spoilt, PySem.W.mg_of X G a_h_other, F_h_other, b_h_other, PySem.W.mg_of X G a_h_parted, F_h_parted, b_h_parted⟩
  have TM : TxtN6 K mg ⟨g_h_made, _, g_h_is, _⟩ := ⟨PySem.W.mg_of X G a_h_made, F_h_made, b_h_made, PySem.W.mg_of X G a_h_is, F_h_is, b_h_is⟩
  have T7 : TxtN7 K mg ⟨g_h_address_right, _⟩ := ⟨PySem.W.mg_of X G a_h_address_right, F_h_address_right, b_h_address_right⟩
  have TF : TxtF K mg g_p_read_address g_p_address_text _ _ := ⟨PySem.W.mg_of X G a_p_read_address, F_p_read_address, b_p_read_address, PySem.W.mg_of X G a_p_address_text, F_p_address_text, b_p_address_text⟩
  have RT : TxtT K mg (⟨S, C_B, C_N, f_B, f_N, (PySem.W.fnOf "__init__" "BadValue.__init__" (defArgs s_BadValue_init) (defBody s_BadValue_init) (defScope s_BadValue_init) .none kV_iB dc_iB pm_iB an_iB cd_iB ct_iB), (PySem.W.fnOf "__init__" "NotAName.__init__" (defArgs s_NotAName_init) (defBody s_NotAName_init) (defScope s_NotAName_init) .none kV_iN dc_iN pm_iN an_iN cd_iN ct_iN), g_p_is_integer, g_p_check_range, g_p_check_string, g_p_letters_of, g_p_is_letters, g_p_is_column_text, g_p_column_of, (PySem.W.fnOf "is_integer" "is_integer" (defArgs s_is_integer) (defBody s_is_integer) (defScope s_is_integer) .none kV_p_is_integer dc_p_is_integer pm_p_is_integer an_p_is_integer cd_p_is_integer ct_p_is_integer), (PySem.W.fnOf "check_range" "check_range" (defArgs s_check_range) (defBody s_check_range) (defScope s_check_range) .none kV_p_check_range dc_p_check_range pm_p_check_range an_p_check_range cd_p_check_range ct_p_check_range), (PySem.W.fnOf "check_string" "check_string" (defArgs s_check_string) (defBody s_check_string) (defScope s_check_string) .none kV_p_check_string dc_p_check_string pm_p_check_string an_p_check_string cd_p_check_string ct_p_check_string), (PySem.W.fnOf "letters_of" "letters_of" (defArgs s_letters_of) (defBody s_letters_of) (defScope s_letters_of) .none kV_p_letters_of dc_p_letters_of pm_p_letters_of an_p_letters_of cd_p_letters_of ct_p_letters_of), (PySem.W.fnOf "is_letters" "is_letters" (defArgs s_is_letters) (defBody s_is_letters) (defScope s_is_letters) .none kV_p_is_letters dc_p_is_letters pm_p_is_letters an_p_is_letters cd_p_is_letters ct_p_is_letters), (PySem.W.fnOf "is_column_text" "is_column_text" (defArgs s_is_column_text) (defBody s_is_column_text) (defScope s_is_column_text) .none kV_p_is_column_text dc_p_is_column_text pm_p_is_column_text an_p_is_column_text cd_p_is_column_text ct_p_is_column_text), (PySem.W.fnOf "column_of" "column_of" (defArgs s_column_of) (defBody s_column_of) (defScope s_column_of) .none kV_p_column_of dc_p_column_of pm_p_column_of an_p_column_of cd_p_column_of ct_p_column_of)⟩ : Ads) C_O C_M f_O (PySem.W.fnOf "__init__" "OffGrid.__init__" (defArgs s_OffGrid_init) (defBody s_OffGrid_init) (defScope s_OffGrid_init) .none kV_iO dc_iO pm_iO an_iO cd_iO ct_iO) := ⟨e_B, e_N, e_O, nBN, nBO, nNO, PySem.W.mg_of X G a_M, ln_M.xf hg_M hk_M, no0_M⟩
  have R : TxtR K mg (⟨S, C_B, C_N, f_B, f_N, (PySem.W.fnOf "__init__" "BadValue.__init__" (defArgs s_BadValue_init) (defBody s_BadValue_init) (defScope s_BadValue_init) .none kV_iB dc_iB pm_iB an_iB cd_iB ct_iB), (PySem.W.fnOf "__init__" "NotAName.__init__" (defArgs s_NotAName_init) (defBody s_NotAName_init) (defScope s_NotAName_init) .none kV_iN dc_iN pm_iN an_iN cd_iN ct_iN), g_p_is_integer, g_p_check_range, g_p_check_string, g_p_letters_of, g_p_is_letters, g_p_is_column_text, g_p_column_of, (PySem.W.fnOf "is_integer" "is_integer" (defArgs s_is_integer) (defBody s_is_integer) (defScope s_is_integer) .none kV_p_is_integer dc_p_is_integer pm_p_is_integer an_p_is_integer cd_p_is_integer ct_p_is_integer), (PySem.W.fnOf "check_range" "check_range" (defArgs s_check_range) (defBody s_check_range) (defScope s_check_range) .none kV_p_check_range dc_p_check_range pm_p_check_range an_p_check_range cd_p_check_range ct_p_check_range), (PySem.W.fnOf "check_string" "check_string" (defArgs s_check_string) (defBody s_check_string) (defScope s_check_string) .none kV_p_check_string dc_p_check_string pm_p_check_string an_p_check_string cd_p_check_string ct_p_check_string), (PySem.W.fnOf "letters_of" "letters_of" (defArgs s_letters_of) (defBody s_letters_of) (defScope s_letters_of) .none kV_p_letters_of dc_p_letters_of pm_p_letters_of an_p_letters_of cd_p_letters_of ct_p_letters_of), (PySem.W.fnOf "is_letters" "is_letters" (defArgs s_is_letters) (defBody s_is_letters) (defScope s_is_letters) .none kV_p_is_letters dc_p_is_letters pm_p_is_letters an_p_is_letters cd_p_is_letters ct_p_is_letters), (PySem.W.fnOf "is_column_text" "is_column_text" (defArgs s_is_column_text) (defBody s_is_column_text) (defScope s_is_column_text) .none kV_p_is_column_text dc_p_is_column_text pm_p_is_column_text an_p_is_column_text cd_p_is_column_text ct_p_is_column_text), (PySem.W.fnOf "column_of" "column_of" (defArgs s_column_of) (defBody s_column_of) (defScope s_column_of) .none kV_p_column_of dc_p_column_of pm_p_column_of an_p_column_of cd_p_column_of ct_p_column_of)⟩ : Ads) C_O C_M f_O (PySem.W.fnOf "__init__" "OffGrid.__init__" (defArgs s_OffGrid_init) (defBody s_OffGrid_init) (defScope s_OffGrid_init) .none kV_iO dc_iO pm_iO an_iO cd_iO ct_iO) g_t_told _ := ⟨PySem.W.mg_of X G a_t_told, F_t_told, b_t_told, RT⟩
  have N : TxtZ K mg ⟨g_r_step_right, _, c_step_right, tS, g_r_text_right, _, c_text_right, tX, g_r_odd_right, _, c_odd_right, tO⟩ := ⟨PySem.W.mg_of X G a_r_step_right, F_r_step_right, k_r_step_right, b_r_step_right, PySem.W.mg_of X G a_r_text_right, F_r_text_right, k_r_text_right, b_r_text_right, PySem.W.mg_of X G a_r_odd_right, F_r_odd_right, k_r_odd_right, b_r_odd_right, tSX, tSO, tXO⟩
  refine ⟨(PySem.W.fnOf "law" "law" (defArgs s_law) (defBody s_law) (defScope s_law) .none kV_law dc_law pm_law an_law cd_law ct_law), [(c_step_right, tS), (c_text_right, tX), (c_odd_right, tO)], spLaw K [(tS, qOf "_law_step_right"), (tX, qOf "_law_text_right"), (tO, qOf "_law_odd_right")], ?_, ?_, ?_, fun s v => .of_eq rfl, fun H a ns hl _ hH hS => ⟨a, ns, rfl, hS, hl, ?_, fun _ => rfl⟩, fun base _ _ hB => ok_law TH TC TG TA Z M KK TX T2 T3 TP TR TM T7 TF R N F_law (hB _ (List.mem_cons_self ..)) (hB _ (List.mem_cons_of_mem _ (List.mem_cons_self ..))) (hB _ (List.mem_cons_of_mem _ (List.mem_cons_of_mem _ (List.mem_cons_self ..))))⟩
  · exact List.forall_mem_cons.mpr ⟨tbS, List.forall_mem_cons.mpr ⟨tbX, List.forall_mem_cons.mpr ⟨tbO, fun _ z => absurd z List.not_mem_nil⟩⟩⟩
  · exact List.forall_mem_cons.mpr ⟨ntS, List.forall_mem_cons.mpr ⟨ntX, List.forall_mem_cons.mpr ⟨ntO, fun _ z => absurd z List.not_mem_nil⟩⟩⟩
  · exact List.forall_mem_cons.mpr ⟨PySem.W.codeHd_of_K X hdS, List.forall_mem_cons.mpr ⟨PySem.W.codeHd_of_K X hdX, List.forall_mem_cons.mpr ⟨PySem.W.codeHd_of_K X hdO, fun _ z => absurd z List.not_mem_nil⟩⟩⟩
  · exact List.forall_mem_cons.mpr ⟨TabS.nil (hH (c_step_right, tS) (List.mem_cons_self ..)), List.forall_mem_cons.mpr ⟨TabS.nil (hH (c_text_right, tX) (List.mem_cons_of_mem _ (List.mem_cons_self ..))), List.forall_mem_cons.mpr ⟨TabS.nil (hH (c_odd_right, tO) (List.mem_cons_of_mem _ (List.mem_cons_of_mem _ (List.mem_cons_self ..)))), fun _ z => absurd z List.not_mem_nil⟩⟩⟩
end K16
open PySem PySem.W PyProof.Rows
set_option maxRecDepth 100000 in
set_option maxHeartbeats 0 in
theorem PySem.Challenge.cw_allinputs_k16_addresses_holds : PySem.Challenge.rw_allinputs_k16_addresses.Holds := by
  w_on; o_law; k_head; (case hw => w_witness2)
  k_fill
  refine LamX.walk_ofTsE (l := PySem.Challenge.rw_allinputs_k16_addresses) (n := 63) (k := 11) (x := "_law_script") (CX := fun _ => fun _ _ _ _ _ _ => False) rfl (by decide) rfl ⟨rfl, by decide, by decide⟩ ?F (fun _ _ _ _ _ z => z)
  case F =>
    intro w mg fa h Y G hmg
    have KX := PySem.W.km_in_of Y
    refine ⟨_, KX, ?_⟩
    refine' K16.all_mk 448 455 462 KX G hmg ?a_S ?a_B ?a_N ?a_O ?a_M ?a_A ?a_p_is_integer ?a_p_check_range ?a_p_check_string ?a_p_letters_of ?a_p_is_letters ?a_p_is_column_text ?a_p_column_of ?a_p_check_integer ?a_p_check_truth ?a_p_is_on_grid ?a_p_is_sheet_name ?a_p_small_letters ?a_p_alike_sheets ?a_p_is_row_text ?a_p_split_cell ?a_p_read_address ?a_p_address_text ?a_h_signs ?a_h_letters ?a_h_column ?a_h_is_letters ?a_h_mixed_case ?a_h_pick ?a_h_draw ?a_h_pen ?a_h_row_text ?a_h_column_text ?a_h_sheet_text ?a_h_cell_text ?a_h_is_digits ?a_h_is_sheet ?a_h_read_row ?a_h_read_column ?a_h_read_cell ?a_h_number_up_to ?a_h_sheet_name ?a_h_place ?a_h_spoilt ?a_h_other ?a_h_parted ?a_h_made ?a_h_is ?a_h_address_right ?a_t_told ?a_r_step_right ?a_r_text_right ?a_r_odd_right ?a_law ?a_COL ?a_ROWS ?a_LET ?i_B ?i_N ?i_O ?z_list ?z_int ?z_len ?z_range ?z_min ?z_max ?z_isinstance ?z_bool ?z_str ?z_divmod ?hn ?ht ?L_B ?hg_B ?hk_B ?no0_B ?kC_B ?sa_B ?ty_B ?l_iB ?c_iB ?k_iB ?L_N ?hg_N ?hk_N ?no0_N ?kC_N ?sa_N ?ty_N ?l_iN ?c_iN ?k_iN ?L_O ?hg_O ?hk_O ?no0_O ?no1_O ?kC_O ?sa_O ?ty_O ?l_iO ?c_iO ?k_iO ?L_M ?hg_M ?hk_M ?no0_M ?L_A ?pg_A ?hd2_A ?po_A ?sa_A ?nA_row ?nA_column ?nA_fixed_row ?nA_fixed_column ?nA_sheet ?mk_A ?i_A ?if_A ?kC_A ?ha_A ?hm_A ?ok_A ?eq_A ?ne_A ?l_iA ?c_iA ?k_iA ?dA_fixed_row ?dA_fixed_column ?dA_sheet ?f___eq__ ?if___eq__ ?l_m__eq__ ?c_m__eq__ ?k_m__eq__ ?f_pushed ?if_pushed ?l_mpushed ?c_mpushed ?k_mpushed ?f_bare ?if_bare ?l_mbare ?c_mbare ?k_mbare ?y1_str ?y1_tuple ?y1_NoneType ?y1_int ?y1_bool ?y1_list ?z2_str ?z2_tuple ?tyA ?l_p_is_integer ?c_p_is_integer ?k_p_is_integer ?l_p_check_range ?c_p_check_range ?k_p_check_range ?l_p_check_string ?c_p_check_string ?k_p_check_string ?l_p_letters_of ?c_p_letters_of ?k_p_letters_of ?l_p_is_letters ?c_p_is_letters ?k_p_is_letters ?l_p_is_column_text ?c_p_is_column_text ?k_p_is_column_text ?l_p_column_of ?c_p_column_of ?k_p_column_of ?l_p_check_integer ?c_p_check_integer ?k_p_check_integer ?l_p_check_truth ?c_p_check_truth ?k_p_check_truth ?l_p_is_on_grid ?c_p_is_on_grid ?k_p_is_on_grid ?l_p_is_sheet_name ?c_p_is_sheet_name ?k_p_is_sheet_name ?l_p_small_letters ?c_p_small_letters ?k_p_small_letters ?l_p_alike_sheets ?c_p_alike_sheets ?k_p_alike_sheets ?l_p_is_row_text ?c_p_is_row_text ?k_p_is_row_text ?l_p_split_cell ?c_p_split_cell ?k_p_split_cell ?l_p_read_address ?c_p_read_address ?k_p_read_address ?l_p_address_text ?c_p_address_text ?k_p_address_text ?l_h_signs ?c_h_signs ?k_h_signs ?l_h_letters ?c_h_letters ?k_h_letters ?l_h_column ?c_h_column ?k_h_column ?l_h_is_letters ?c_h_is_letters ?k_h_is_letters ?l_h_mixed_case ?c_h_mixed_case ?k_h_mixed_case ?l_h_pick ?c_h_pick ?k_h_pick ?l_h_draw ?c_h_draw ?k_h_draw ?l_h_pen ?c_h_pen ?k_h_pen ?l_h_row_text ?c_h_row_text ?k_h_row_text ?l_h_column_text ?c_h_column_text ?k_h_column_text ?l_h_sheet_text ?c_h_sheet_text ?k_h_sheet_text ?l_h_cell_text ?c_h_cell_text ?k_h_cell_text ?l_h_is_digits ?c_h_is_digits ?k_h_is_digits ?l_h_is_sheet ?c_h_is_sheet ?k_h_is_sheet ?l_h_read_row ?c_h_read_row ?k_h_read_row ?l_h_read_column ?c_h_read_column ?k_h_read_column ?l_h_read_cell ?c_h_read_cell ?k_h_read_cell ?l_h_number_up_to ?c_h_number_up_to ?k_h_number_up_to ?l_h_sheet_name ?c_h_sheet_name ?k_h_sheet_name ?l_h_place ?c_h_place ?k_h_place ?l_h_spoilt ?c_h_spoilt ?k_h_spoilt ?l_h_other ?c_h_other ?k_h_other ?l_h_parted ?c_h_parted ?k_h_parted ?l_h_made ?c_h_made ?k_h_made ?l_h_is ?c_h_is ?k_h_is ?l_h_address_right ?c_h_address_right ?k_h_address_right ?l_t_told ?c_t_told ?k_t_told ?l_r_step_right ?c_r_step_right ?k_r_step_right ?l_r_text_right ?c_r_text_right ?k_r_text_right ?l_r_odd_right ?c_r_odd_right ?k_r_odd_right ?l_law ?c_law ?k_law ?nBN ?nBO ?nNO ?nBS ?nNS ?nOS ?tSX ?tSO ?tXO ?hdS ?hdX ?hdO ?ntS ?ntX ?ntO ?tbS ?tbX ?tbO
    (case a_S => k_is)
    (case a_B => k_is)
    (case a_N => k_is)
    (case a_O => k_is)
    (case a_M => k_is)
    (case a_A => k_is)
    (case a_p_is_integer => k_is)
    (case a_p_check_range => k_is)
    (case a_p_check_string => k_is)
    (case a_p_letters_of => k_is)
    (case a_p_is_letters => k_is)
    (case a_p_is_column_text => k_is)
    (case a_p_column_of => k_is)
    (case a_p_check_integer => k_is)
    (case a_p_check_truth => k_is)
    (case a_p_is_on_grid => k_is)
    (case a_p_is_sheet_name => k_is)
    (case a_p_small_letters => k_is)
    (case a_p_alike_sheets => k_is)
    (case a_p_is_row_text => k_is)
    (case a_p_split_cell => k_is)
    (case a_p_read_address => k_is)
    (case a_p_address_text => k_is)
    (case a_h_signs => k_is)
    (case a_h_letters => k_is)
    (case a_h_column => k_is)
    (case a_h_is_letters => k_is)
    (case a_h_mixed_case => k_is)
    (case a_h_pick => k_is)
    (case a_h_draw => k_is)
    (case a_h_pen => k_is)
    (case a_h_row_text => k_is)
    (case a_h_column_text => k_is)
    (case a_h_sheet_text => k_is)
    (case a_h_cell_text => k_is)
    (case a_h_is_digits => k_is)
    (case a_h_is_sheet => k_is)
    (case a_h_read_row => k_is)
    (case a_h_read_column => k_is)
    (case a_h_read_cell => k_is)
    (case a_h_number_up_to => k_is)
    (case a_h_sheet_name => k_is)
    (case a_h_place => k_is)
    (case a_h_spoilt => k_is)
    (case a_h_other => k_is)
    (case a_h_parted => k_is)
    (case a_h_made => k_is)
    (case a_h_is => k_is)
    (case a_h_address_right => k_is)
    (case a_t_told => k_is)
    (case a_r_step_right => k_is)
    (case a_r_text_right => k_is)
    (case a_r_odd_right => k_is)
    (case a_law => k_is)
    (case a_COL => k_is)
    (case a_ROWS => k_is)
    (case a_LET => k_is)
    (case i_B => k_is)
    (case i_N => k_is)
    (case i_O => k_is)
    (case z_list => k_is)
    (case z_int => k_is)
    (case z_len => k_is)
    (case z_range => k_is)
    (case z_min => k_is)
    (case z_max => k_is)
    (case z_isinstance => k_is)
    (case z_bool => k_is)
    (case z_str => k_is)
    (case z_divmod => k_is)
    (case hn => k_is)
    (case ht => k_is)
    (case L_B => k_is)
    (case hg_B => k_is)
    (case hk_B => k_is)
    (case no0_B => k_is)
    (case kC_B => k_is)
    (case sa_B => k_is)
    (case ty_B => k_is)
    (case l_iB => k_is)
    (case c_iB => k_is)
    (case k_iB => k_is)
    (case L_N => k_is)
    (case hg_N => k_is)
    (case hk_N => k_is)
    (case no0_N => k_is)
    (case kC_N => k_is)
    (case sa_N => k_is)
    (case ty_N => k_is)
    (case l_iN => k_is)
    (case c_iN => k_is)
    (case k_iN => k_is)
    (case L_O => k_is)
    (case hg_O => k_is)
    (case hk_O => k_is)
    (case no0_O => k_is)
    (case no1_O => k_is)
    (case kC_O => k_is)
    (case sa_O => k_is)
    (case ty_O => k_is)
    (case l_iO => k_is)
    (case c_iO => k_is)
    (case k_iO => k_is)
    (case L_M => k_is)
    (case hg_M => k_is)
    (case hk_M => k_is)
    (case no0_M => k_is)
    (case L_A => k_is)
    (case pg_A => k_is)
    (case hd2_A => k_is)
    (case po_A => k_is)
    (case sa_A => k_is)
    (case nA_row => k_is)
    (case nA_column => k_is)
    (case nA_fixed_row => k_is)
    (case nA_fixed_column => k_is)
    (case nA_sheet => k_is)
    (case mk_A => k_is)
    (case i_A => k_is)
    (case if_A => k_is)
    (case kC_A => k_is)
    (case ha_A => k_is)
    (case hm_A => k_is)
    (case ok_A => kernel_rfl)
    (case eq_A => k_is)
    (case ne_A => k_is)
    (case l_iA => k_is)
    (case c_iA => k_is)
    (case k_iA => k_is)
    (case dA_fixed_row => k_is)
    (case dA_fixed_column => k_is)
    (case dA_sheet => k_is)
    (case f___eq__ => k_is)
    (case if___eq__ => k_is)
    (case l_m__eq__ => k_is)
    (case c_m__eq__ => k_is)
    (case k_m__eq__ => k_is)
    (case f_pushed => k_is)
    (case if_pushed => k_is)
    (case l_mpushed => k_is)
    (case c_mpushed => k_is)
    (case k_mpushed => k_is)
    (case f_bare => k_is)
    (case if_bare => k_is)
    (case l_mbare => k_is)
    (case c_mbare => k_is)
    (case k_mbare => k_is)
    (case y1_str => k_is)
    (case y1_tuple => k_is)
    (case y1_NoneType => k_is)
    (case y1_int => k_is)
    (case y1_bool => k_is)
    (case y1_list => k_is)
    (case z2_str => k_is)
    (case z2_tuple => k_is)
    (case tyA => k_is)
    (case l_p_is_integer => k_is)
    (case c_p_is_integer => k_is)
    (case k_p_is_integer => k_is)
    (case l_p_check_range => k_is)
    (case c_p_check_range => k_is)
    (case k_p_check_range => k_is)
    (case l_p_check_string => k_is)
    (case c_p_check_string => k_is)
    (case k_p_check_string => k_is)
    (case l_p_letters_of => k_is)
    (case c_p_letters_of => k_is)
    (case k_p_letters_of => k_is)
    (case l_p_is_letters => k_is)
    (case c_p_is_letters => k_is)
    (case k_p_is_letters => k_is)
    (case l_p_is_column_text => k_is)
    (case c_p_is_column_text => k_is)
    (case k_p_is_column_text => k_is)
    (case l_p_column_of => k_is)
    (case c_p_column_of => k_is)
    (case k_p_column_of => k_is)
    (case l_p_check_integer => k_is)
    (case c_p_check_integer => k_is)
    (case k_p_check_integer => k_is)
    (case l_p_check_truth => k_is)
    (case c_p_check_truth => k_is)
    (case k_p_check_truth => k_is)
    (case l_p_is_on_grid => k_is)
    (case c_p_is_on_grid => k_is)
    (case k_p_is_on_grid => k_is)
    (case l_p_is_sheet_name => k_is)
    (case c_p_is_sheet_name => k_is)
    (case k_p_is_sheet_name => k_is)
    (case l_p_small_letters => k_is)
    (case c_p_small_letters => k_is)
    (case k_p_small_letters => k_is)
    (case l_p_alike_sheets => k_is)
    (case c_p_alike_sheets => k_is)
    (case k_p_alike_sheets => k_is)
    (case l_p_is_row_text => k_is)
    (case c_p_is_row_text => k_is)
    (case k_p_is_row_text => k_is)
    (case l_p_split_cell => k_is)
    (case c_p_split_cell => k_is)
    (case k_p_split_cell => k_is)
    (case l_p_read_address => k_is)
    (case c_p_read_address => k_is)
    (case k_p_read_address => k_is)
    (case l_p_address_text => k_is)
    (case c_p_address_text => k_is)
    (case k_p_address_text => k_is)
    (case l_h_signs => k_is)
    (case c_h_signs => k_is)
    (case k_h_signs => k_is)
    (case l_h_letters => k_is)
    (case c_h_letters => k_is)
    (case k_h_letters => k_is)
    (case l_h_column => k_is)
    (case c_h_column => k_is)
    (case k_h_column => k_is)
    (case l_h_is_letters => k_is)
    (case c_h_is_letters => k_is)
    (case k_h_is_letters => k_is)
    (case l_h_mixed_case => k_is)
    (case c_h_mixed_case => k_is)
    (case k_h_mixed_case => k_is)
    (case l_h_pick => k_is)
    (case c_h_pick => k_is)
    (case k_h_pick => k_is)
    (case l_h_draw => k_is)
    (case c_h_draw => k_is)
    (case k_h_draw => k_is)
    (case l_h_pen => k_is)
    (case c_h_pen => k_is)
    (case k_h_pen => k_is)
    (case l_h_row_text => k_is)
    (case c_h_row_text => k_is)
    (case k_h_row_text => k_is)
    (case l_h_column_text => k_is)
    (case c_h_column_text => k_is)
    (case k_h_column_text => k_is)
    (case l_h_sheet_text => k_is)
    (case c_h_sheet_text => k_is)
    (case k_h_sheet_text => k_is)
    (case l_h_cell_text => k_is)
    (case c_h_cell_text => k_is)
    (case k_h_cell_text => k_is)
    (case l_h_is_digits => k_is)
    (case c_h_is_digits => k_is)
    (case k_h_is_digits => k_is)
    (case l_h_is_sheet => k_is)
    (case c_h_is_sheet => k_is)
    (case k_h_is_sheet => k_is)
    (case l_h_read_row => k_is)
    (case c_h_read_row => k_is)
    (case k_h_read_row => k_is)
    (case l_h_read_column => k_is)
    (case c_h_read_column => k_is)
    (case k_h_read_column => k_is)
    (case l_h_read_cell => k_is)
    (case c_h_read_cell => k_is)
    (case k_h_read_cell => k_is)
    (case l_h_number_up_to => k_is)
    (case c_h_number_up_to => k_is)
    (case k_h_number_up_to => k_is)
    (case l_h_sheet_name => k_is)
    (case c_h_sheet_name => k_is)
    (case k_h_sheet_name => k_is)
    (case l_h_place => k_is)
    (case c_h_place => k_is)
    (case k_h_place => k_is)
    (case l_h_spoilt => k_is)
    (case c_h_spoilt => k_is)
    (case k_h_spoilt => k_is)
    (case l_h_other => k_is)
    (case c_h_other => k_is)
    (case k_h_other => k_is)
    (case l_h_parted => k_is)
    (case c_h_parted => k_is)
    (case k_h_parted => k_is)
    (case l_h_made => k_is)
    (case c_h_made => k_is)
    (case k_h_made => k_is)
    (case l_h_is => k_is)
    (case c_h_is => k_is)
    (case k_h_is => k_is)
    (case l_h_address_right => k_is)
    (case c_h_address_right => k_is)
    (case k_h_address_right => k_is)
    (case l_t_told => k_is)
    (case c_t_told => k_is)
    (case k_t_told => k_is)
    (case l_r_step_right => k_is)
    (case c_r_step_right => k_is)
    (case k_r_step_right => k_is)
    (case l_r_text_right => k_is)
    (case c_r_text_right => k_is)
    (case k_r_text_right => k_is)
    (case l_r_odd_right => k_is)
    (case c_r_odd_right => k_is)
    (case k_r_odd_right => k_is)
    (case l_law => k_is)
    (case c_law => k_is)
    (case k_law => k_is)
    (case nBN => decide)
    (case nBO => decide)
    (case nNO => decide)
    (case nBS => decide)
    (case nNS => decide)
    (case nOS => decide)
    (case tSX => decide)
    (case tSO => decide)
    (case tXO => decide)
    (case hdS => kernel_rfl)
    (case hdX => kernel_rfl)
    (case hdO => kernel_rfl)
    (case ntS => first | rfl | kernel_rfl | k_is)
    (case ntX => first | rfl | kernel_rfl | k_is)
    (case ntO => first | rfl | kernel_rfl | k_is)
    (case tbS => exact PySem.W.km_tabs_of Y _ (by simp))
    (case tbX => exact PySem.W.km_tabs_of Y _ (by simp))
    (case tbO => exact PySem.W.km_tabs_of Y _ (by simp))

