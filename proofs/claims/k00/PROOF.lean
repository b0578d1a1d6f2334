import PyProof.Rows.All
import Wide.All
import OpenK.AllK
import Wide.FinOn
import PyProof.EqAt
import PyProof.EqKinds
import PyProof.TupleCall
import HandS.ForMost
import HandS.ForExc
import HandS.ExcInit
import HandS.Defaults
import HandS.MakeKwOnly
import HandS.IsInst
import HandS.ExcField
import HandS.ExcIs
import HandS.ExcOwn
import HandS.ExcValue
import HandS.Dict
import HandS.Text
import HandS.StrMore
import HandS.SetFor
import HandS.Flow
import HandS.Evl
import HandS.TryOnly
import HandS.DictComp
import PySem.Challenge.RW_allinputs_k00_errors_made_by_hand
set_option Elab.async false
set_option linter.all false
set_option maxRecDepth 100000
set_option maxHeartbeats 4000000
/-! Own errors as values, also made by keywords. -/
namespace PySem
namespace EV
open PySem PySem.W PySem.Calls PyProof.Rows PySem.HandSPX
section
variable {M : Model} {A : Around} {E : Value → Shared → Prop} {hp : Heap} {gs : Array GenState} {dr : Drawn} {tk : Nat} {osx : OsState}
variable {cn cq : Str} {C Nn : Addr} {cb cm cmB : List Value} {hdt : Bool} {sln : List Str} {sbc : List Value} {abst : Bool} {colo : Option Bool} {ddo : Option Addr} {j0 j1 j2 j3 j5 : Option Value} {Bn nId iId : String}
theorem chk_new (F : ExcBaseFacts Bn nId iId cmB) (hT : ∀ Y : String, cm.contains (.type Y) = cmB.contains (.type Y)) {as : List Value} {kw : List (Str × Value)} {Q : Unit → Shared → Prop}
    (hC : hp.get? C = some (excClassObj cn cq C Nn cb cm hdt sln sbc abst colo ddo j0 j1 j2 j3 j5 nId)) (hq : Q () ⟨hp, gs, dr, tk, osx⟩) : wpAny M A (checkBuiltinCall nId ⟨.ref C :: as, kw⟩) Q E ⟨hp, gs, dr, tk, osx⟩ := by
  have hin : (Value.ref C :: cm).contains (.type Bn) = true := by rw [List.contains_cons, hT, F.hasB, Bool.or_true]
  have hst := F.noStar
  simp only [checkBuiltinCall, F.newKind, F.newSplit, F.newRow]
  repeat (first | refine wpAny_loadPart_at hC ?_ | (refine wpAny_isSubtype_exc hC ?_; rw [hin]) | refine wpAny_staticBase_exc hC ?_ | refine wpAny_madeBy_exc hC ?_ | simp only [bne_self_eq_false, Bool.false_eq_true, if_false] | wp_step)
  exact hq
end
section
variable {prog : Program} {w : World} {A : Around} {E : Value → Shared → Prop} {R : Result → Shared → Prop} {hp : Heap} {gs : Array GenState} {dr : Drawn} {tk : Nat} {osx : OsState}
variable {cn cq : Str} {C Nn : Addr} {cb cm cmB : List Value} {hdt : Bool} {sln : List Str} {sbc : List Value} {abst : Bool} {colo : Option Bool} {ddo : Option Addr} {j0 j1 j2 j3 j5 : Option Value} {Bn nId iId : String}
theorem new_kw (F : ExcBaseFacts Bn nId iId cmB) (hT : ∀ Y : String, cm.contains (.type Y) = cmB.contains (.type Y)) {as : List Value} {kw : List (Str × Value)}
    (hC : hp.get? C = some (excClassObj cn cq C Nn cb cm hdt sln sbc abst colo ddo j0 j1 j2 j3 j5 nId))
    (hq : R (.ok (.ret (.ref (hp.objs.size + 1)))) ⟨(hp.push (PySem.W.kdv_tup as)).push (excO C hp.objs.size), gs, dr, tk, osx⟩) (hl : as.length ≤ sizeLine) :
    codeAny (model prog w) A (.builtin nId ⟨.ref C :: as, kw⟩) R ⟨hp, gs, dr, tk, osx⟩ := by
  have hen := F.ends
  have hin : (Value.ref C :: cm).contains (.type Bn) = true := by rw [List.contains_cons, hT, F.hasB, Bool.or_true]
  have hna : (Value.ref C :: cm).contains (.type "AttributeError") = false := by rw [List.contains_cons, hT, F.noAttr]; rfl
  have hnn : (Value.ref C :: cm).contains (.type "NameError") = false := by rw [List.contains_cons, hT, F.noName]; rfl
  refine codeAny_builtinAt F.entry ?_
  unfold Builtin.«BaseException.__new__»
  refine wpAt_bind ?_
  show wpAt _ _ _ (stack >>= _) _ _ _
  refine wpAt_bind (wpAt_stack fun p lower => wpAt_of_wpAny ?_)
  wp_walk
  refine wpAt_of_wpAny ?_
  rw [F.owner]
  repeat (first | with_reducible refine wpAny_madeHere_exc F.canon hC ?_ | with_reducible refine wpAny_loadPart_at hC ?_ | (with_reducible refine wpAny_isSubtype_exc hC ?_; first | rw [hin] | rw [hna] | rw [hnn]) | wp_step)
  show R _ _
  rw [Heap.size_push]
  exact hq
theorem tcall_kw (F : ExcBaseFacts Bn nId iId cmB) (hT : ∀ Y : String, cm.contains (.type Y) = cmB.contains (.type Y)) {as : List Value} {kw : List (Str × Value)} {fI : Addr} {Q : Fin → Shared → Prop}
    (hC : hp.get? C = some (excClassObj cn cq C Nn cb cm hdt sln sbc abst colo ddo j0 j1 j2 j3 j5 nId))
    (hi : W.Looks (model prog w) hp (typeLookup (.ref C) "__init__") (some (.ref fI))) (hb : ∀ me, W.Looks (model prog w) hp (bindSpecial (.ref fI) me) (.ref fI, [me])) (hl : as.length ≤ sizeLine)
    (hq : codeAny (model prog w) A (.call (.ref fI) ⟨.ref (hp.objs.size + 1) :: as, kw⟩)
      (fun r s' => match r with | .ok (.ret v) => v = .none ∧ Q (.done (.ret (.ref (hp.objs.size + 1)))) s' | .ok _ => False | .error e => E e s')
      ⟨(hp.push (PySem.W.kdv_tup as)).push (excO C hp.objs.size), gs, dr, tk, osx⟩) :
    wpAny (model prog w) A (Builtin.«type.__call__» ⟨.ref C :: as, kw⟩) Q E ⟨hp, gs, dr, tk, osx⟩ := by
  repeat (first | with_reducible refine wpAny_loadPart_at hC ?_ | with_reducible refine wpAny_madeBy_exc hC ?_ | wp_step)
  refine codeAny_call_builtin_code (Code.quiet_builtin _ F.quiet) (chk_new F hT hC ?_)
  refine new_kw F hT hC ?_ hl
  show wpAny _ _ _ _ _ _
  have kp : ∀ b o, hp.get? b = some o → ((hp.push (PySem.W.kdv_tup as)).push (excO C hp.objs.size)).get? b = some o := fun b o e => Heap.get?_push_of_some _ (Heap.get?_push_of_some _ e)
  have hC1 := kp _ _ hC
  have hgt : ((hp.push (PySem.W.kdv_tup as)).push (excO C hp.objs.size)).get? (hp.objs.size + 1) = some (excO C hp.objs.size) := by heap_get
  have hcc : (Value.ref C :: cm).contains (.ref C) = true := by simp
  have li := hi.keeps kp
  have lb := (hb (.ref (hp.objs.size + 1))).keeps kp
  unfold isInstance
  repeat (first | with_reducible refine wpAny_loadPart_at hgt ?_ | (with_reducible refine wpAny_isSubtype_exc hC1 ?_; rw [hcc]) | wp_step)
  show wpAny _ _ (typeLookup (.ref C) _) _ _ _
  refine li.at ?_
  refine wpAny_holding (wpAny_bind (lb.at ?_))
  refine wpAny_bind (wpAny_call (codeAny_mono hq fun r s' zz => ?_))
  rcases r with e | (v | _ | _ | _) <;> first | exact zz | exact zz.elim | skip
  obtain ⟨rfl, zz⟩ := zz
  first
    | exact wpAny_pure (wpAny_pure zz)
    | (wp_walk; exact zz)
theorem call_kw (F : ExcBaseFacts Bn nId iId cmB) (hT : ∀ Y : String, cm.contains (.type Y) = cmB.contains (.type Y)) {as : List Value} {kw : List (Str × Value)} {fI : Addr}
    (hC : hp.get? C = some (excClassObj cn cq C Nn cb cm hdt sln sbc abst colo ddo j0 j1 j2 j3 j5 nId))
    (hi : W.Looks (model prog w) hp (typeLookup (.ref C) "__init__") (some (.ref fI))) (hb : ∀ me, W.Looks (model prog w) hp (bindSpecial (.ref fI) me) (.ref fI, [me])) (hl : as.length ≤ sizeLine)
    (hq : codeAny (model prog w) (A.under (.builtin "type.__call__" ⟨.ref C :: as, kw⟩)) (.call (.ref fI) ⟨.ref (hp.objs.size + 1) :: as, kw⟩) (W.InitBack (hp.objs.size + 1) R)
      ⟨(hp.push (PySem.W.kdv_tup as)).push (excO C hp.objs.size), gs, dr, tk, osx⟩) :
    codeAny (model prog w) A (.call (.ref C) ⟨as, kw⟩) R ⟨hp, gs, dr, tk, osx⟩ := by
  have tl := tc_lookup
  have tb := tc_bind (.ref C)
  have hTy : (⟨hp, gs, dr, tk, osx⟩ : Shared).TypeIs (.ref C) "type" := ⟨_, hC, rfl⟩
  refine codeAny_of_tree ?_
  show wpAny _ _ (callAny (.ref C) _) _ _ _
  repeat (any_goals (first | assumption | with_reducible refine wpAny_loadPart_at hC ?_ | wp_step))
  refine ⟨rfl, ?_⟩
  refine codeAny_call_builtin_at (Code.quiet_builtin _ (by decide +kernel)) entry_typeCall (wpAny_check_type_call_sub hC (tcall_kw F hT hC hi hb hl ?_))
  refine codeAny_mono hq fun r s' zz => ?_
  rcases r with e | (v | _ | _ | _) <;> exact zz
end
end EV
end PySem

set_option Elab.async false
set_option linter.all false
set_option maxRecDepth 100000
set_option maxHeartbeats 4000000
/-! Rules for own errors that stay as values. -/
namespace EV2
open PySem PySem.Spec PyProof.Rows L2
/-- C(e, .., k = v, ..), C an own error with its own __init__: the error stays known -/
def tMkV (C : Addr) (n m : Nat) (sp : Sp) (gV : List V → List V → List V) (t tk : TA) : TE := fun σ H Q => t σ H fun vs H1 => tk σ H1 fun zs H2 => vs.length = n ∧ zs.length = m ∧ n ≤ 1000 ∧
  ∀ a, H2 a = none → sp (gV (.ref a :: vs) zs) (upd H2 a (exo a C none)) (fun v H3 => v = .non ∧ Q (.ref a) H3) fun _ _ _ => False
structure ErrC (K : PySem.W.Frag) (C fI : Addr) : Prop where
  ox : OexC K C
  ini : PySem.W.findIn K (.ref C) "__init__" = some (some (.ref fI))
  ty : PySem.W.typeIn K (.ref fI) = some (.type "function")
section
variable {X : Cx} {CX : CXT} {k n : Nat} {fI C : Addr} {fd : FuncData} {ps ks : List Str} {sp : Sp} {x : Str} {p pos : Pos} {e : Expr} {es : List Expr} {kws : List Keyword} {t tk : TA} {g : List Value → List Value → List Value} {gV : List V → List V → List V}
theorem run_mkV {pins : List (Addr × Obj)} {σ : L2.St} {H : Hp} {s : Shared} {Q : VK} {us ws : List Value} {vs zs : List V} (T : ErrC X.K C fI) (F : FnOk X.prog X.w X.K X.mg X.base CX k fI fd ps sp) (hr : Room (k + 1) X.A) (hb : KBn X.K fd ps (n + 1) ks g gV)
    (hx : Passes CX X fun _ _ _ => False) (I : Inv X pins σ H s) (r : Vals vs us) (rz : Vals zs ws) (l1 : vs.length = n) (l2 : zs.length = ks.length) (hn : n ≤ 1000)
    (h : ∀ a, H a = none → sp (gV (.ref a :: vs) zs) (upd H a (exo a C none)) (fun v H3 => v = .non ∧ Q (.ref a) H3) fun _ _ _ => False) :
    wpAny (model X.prog X.w) X.A (call (.ref C) us (ks.zip ws)) (EP X pins σ Q) X.xe s := by
  obtain ⟨nm, q, N, bs, bm, sn, sub, ab, col, dd, k0, k1, k2, k3, k5, hC, hbm⟩ := T.ox.cls
  obtain ⟨hp, gg, dr, tt, os⟩ := s
  have hsz : hp.objs.size ≤ hp.objs.size + 1 := Nat.le_succ _
  have nn : H (hp.objs.size + 1) = none := I.hok.fresh hsz
  have hq := h (hp.objs.size + 1) nn
  have kk : ∀ b o, hp.get? b = some o → ((hp.push (PySem.W.kdv_tup us)).push (PySem.HandSPX.excO C hp.objs.size)).get? b = some o := fun b o e => Heap.get?_push_of_some _ (Heap.get?_push_of_some _ e)
  have gt : ((hp.push (PySem.W.kdv_tup us)).push (PySem.HandSPX.excO C hp.objs.size)).get? (hp.objs.size + 1) = some (PySem.HandSPX.excO C hp.objs.size) := by heap_get
  have J : Inv X pins σ (upd H (hp.objs.size + 1) (exo (hp.objs.size + 1) C none)) ⟨(hp.push (PySem.W.kdv_tup us)).push (PySem.HandSPX.excO C hp.objs.size), gg, dr, tt, os⟩ :=
    I.laid (t' := tt) (a := hp.objs.size + 1) (o := exo (hp.objs.size + 1) C none) (h' := (hp.push (PySem.W.kdv_tup us)).push (PySem.HandSPX.excO C hp.objs.size)) kk hsz (exo_ok gt)
  have r1 : Vals (V.ref (hp.objs.size + 1) :: vs) (Value.ref (hp.objs.size + 1) :: us) := .cons rfl r
  have r2 := hb.rel r1 rz
  have n1 : (Value.ref (hp.objs.size + 1) :: us).length = n + 1 := by rw [List.length_cons, ← r.length, l1]
  have lu : us.length ≤ sizeLine := by
    rw [← r.length, l1, sizeLine_eq]
    omega
  refine wpAny_call (PySem.EV.call_kw PySem.F.excBase_ValueError (fun Y => PySem.HandSPX.refsVE_contains Y bm hbm) (I.kIn _ _ hC) (PySem.W.looks_findIn I.kIn T.ini) (fun me => PySem.W.bind_fn I.kIn me T.ty) lu
    (codeAny_mono (FnOk.run F _ X.stack _ _ ⟨Value.ref (hp.objs.size + 1) :: us, ks.zip ws⟩ (g (Value.ref (hp.objs.size + 1) :: us) ws) _ _ (fun _ _ _ => False) (hr.make C us (ks.zip ws)) (J.env0.make C us (ks.zip ws)) (hb.to _ (Value.ref (hp.objs.size + 1) :: us) ws J.kIn n1 (rz.length.symm.trans l2)) r2 hq) fun r s' hq' => ?_))
  cases r with
  | error e => exact hx pins σ _ _ e s' J hq'
  | ok fl =>
    cases fl with
    | ret u =>
      obtain ⟨v, H', I3, rv, ev, q3⟩ := J.after hq'
      subst ev
      exact ⟨rv, ⟨V.ref (hp.objs.size + 1), H', I3, rfl, q3⟩⟩
    | next => exact False.elim hq'
    | brk => exact False.elim hq'
    | cont => exact False.elim hq'
/-- C(e, ..) -/
theorem pe_mkV (T : ErrC X.K C fI) (F : FnOk X.prog X.w X.K X.mg X.base CX k fI fd ps sp) (hr : Room (k + 1) X.A) (hg : Gl X x) (hm : X.mg x = some (.ref C)) (hb : KBn X.K fd ps (n + 1) [] g gV) (hx : Passes CX X fun _ _ _ => False) (ha : PA X (e :: es) t)
    (hdb : (x == ("__debug__" : Str)) = false := by decide) (he : starEach (e :: es) X.env = (false, eval e X.env) :: starEach es X.env := by rfl) (hpl : (backTo pos (starEach es X.env)).any (·.1) = false := by rfl) :
    PE X (.Call (.Name x p) (e :: es) [] pos) (tMkV C n 0 sp gV t tNil) := by
  refine ⟨fun pins s σ H Q I h => ?_⟩
  refine wpAny_Call_Name_kw (ld_glob I hg hm ?_ hdb)
  refine PySem.W.callWith_K (h₀ := X.base) I.ok.mod.kin T.ox.kC (thn (ha.run pos pins s σ H _ I h) fun us s1 ⟨vs, H1, I1, r, l1, _, hn, q⟩ => ⟨I1.kIn, ?_⟩) he hpl
  exact run_mkV (ks := []) (ws := []) (zs := []) T F hr hb hx I1 r .nil l1 rfl hn q
/-- C(k = v, ..) -/
theorem pe_mkVK0 (T : ErrC X.K C fI) (F : FnOk X.prog X.w X.K X.mg X.base CX k fI fd ps sp) (hr : Room (k + 1) X.A) (hg : Gl X x) (hm : X.mg x = some (.ref C)) (hb : KBn X.K fd ps 1 ks g gV) (hx : Passes CX X fun _ _ _ => False) (hkw : PK X kws tk)
    (hall : (backToKw pos (keywordEach kws X.env)).all (·.1.isSome) = true := by rfl) (hks : (backToKw pos (keywordEach kws X.env)).filterMap (·.1) = ks := by rfl) (hdb : (x == ("__debug__" : Str)) = false := by decide)
    (hpl : ((backTo pos (starEach [] X.env)).any (·.1) || (backToKw pos (keywordEach kws X.env)).any (·.1.isNone)) = false := by rfl) :
    PE X (.Call (.Name x p) [] kws pos) (tMkV C 0 ks.length sp gV tNil tk) := by
  refine ⟨fun pins s σ H Q I h => ?_⟩
  refine wpAny_Call_Name_kw (ld_glob I hg hm ?_ hdb)
  refine PySem.W.callWith_KW0 (h₀ := X.base) I.ok.mod.kin T.ox.kC hall ?_ hpl
  refine thn (hkw.run pos pins s σ H _ I h) fun ws s2 ⟨zs, H2, I2, rz, l1, l2, hn, q2⟩ => ⟨I2.kIn, ?_⟩
  rw [hks]
  exact run_mkV (us := []) (vs := []) T F hr hb hx I2 .nil rz rfl l2 hn q2
/-- C(e, .., k = v, ..) -/
theorem pe_mkVK (T : ErrC X.K C fI) (F : FnOk X.prog X.w X.K X.mg X.base CX k fI fd ps sp) (hr : Room (k + 1) X.A) (hg : Gl X x) (hm : X.mg x = some (.ref C)) (hb : KBn X.K fd ps (n + 1) ks g gV) (hx : Passes CX X fun _ _ _ => False) (ha : PA X (e :: es) t) (hkw : PK X kws tk)
    (hall : (backToKw pos (keywordEach kws X.env)).all (·.1.isSome) = true := by rfl) (hks : (backToKw pos (keywordEach kws X.env)).filterMap (·.1) = ks := by rfl) (hdb : (x == ("__debug__" : Str)) = false := by decide)
    (he : starEach (e :: es) X.env = (false, eval e X.env) :: starEach es X.env := by rfl) (hpl : ((backTo pos (starEach (e :: es) X.env)).any (·.1) || (backToKw pos (keywordEach kws X.env)).any (·.1.isNone)) = false := by rfl) :
    PE X (.Call (.Name x p) (e :: es) kws pos) (tMkV C n ks.length sp gV t tk) := by
  refine ⟨fun pins s σ H Q I h => ?_⟩
  refine wpAny_Call_Name_kw (ld_glob I hg hm ?_ hdb)
  refine PySem.W.callWith_KW (h₀ := X.base) I.ok.mod.kin T.ox.kC hall (thn (ha.run pos pins s σ H _ I h) fun us s1 ⟨vs, H1, I1, r, q⟩ => ?_) hpl he
  refine thn (hkw.run pos pins s1 σ H1 _ I1 q) fun ws s2 ⟨zs, H2, I2, rz, l1, l2, hn, q2⟩ => ⟨I2.kIn, ?_⟩
  rw [hks]
  exact run_mkV T F hr hb hx I2 r rz l1 l2 hn q2
end
end EV2

set_option Elab.async false
set_option linter.all false
set_option maxRecDepth 100000
set_option maxHeartbeats 4000000
/-! Fields and kinds of own errors that stay as values. -/
namespace PySem.EV
open PySem PySem.W PySem.Spec PySem.Calls PyProof.Rows
section
variable {prog : Program} {w : World} {A : Around} {E : Value → Shared → Prop} {s : Shared} {K : Frag} {x D : Addr} {ox : Obj} {od : Option Obj}
theorem fo_data {C : Addr} {name : Str} {a g : Value} (hc : (clsIn K C).isSome = true) (ha : findIn K (.ref C) name = some (some a)) (hg : specialIn K a "__get__" = some (some g)) (ht : takesIn K a = some true) : findObj K C od name = some (.bind g a) := by
  obtain ⟨cd, hc⟩ := Option.isSome_iff_exists.mp hc
  unfold findObj
  rw [hc, Option.bind_some, ha, Option.bind_some]
  simp [hg, ht]
/-- x.__class__, x an error with or without a dict of its own -/
theorem cls_get {Q : Option Value → Shared → Prop} (C : L2.ExcC K D) (X : K.In s.heap) (I : InstAt s.heap x ox D od) (h : Q (some (.ref D)) { s with toks := s.toks + 1 }) : wpAny (model prog w) A (getAttr? (.ref x) "__class__") Q E s := by
  have hf : findObj K D od "__class__" = some (.bind (.builtin "getset_descriptor.__get__") (.builtin "object.__class__")) := fo_data (by obtain ⟨cd, hc, _⟩ := any_some C.hd; rw [hc]; rfl) C.ha C.hn C.ht
  obtain ⟨hp, g, d, t, os⟩ := s
  have t0 := I.type (M := model prog w)
  have t1 := looks_findIn (M := model prog w) X C.hg
  have t2 := looks_findIn (M := model prog w) X C.hk
  have t3 := looks_find (M := model prog w) X I hf
  have sb : Looks (model prog w) hp (isInstance (.ref x) (.type "BaseException")) true := t0.andThen (looks_subIn X C.hs)
  have z0 : (false && onTheHeap (Value.builtin "BaseException.__getattribute__")) = false := rfl
  have z2 : (Value.builtin "BaseException.__getattribute__" == Value.builtin "object.__getattribute__") = false := by decide +kernel
  have z1 : (onTheHeap (Value.ref D) && Value.builtin "BaseException.__getattribute__" == Value.builtin "object.__getattribute__") = false := by rw [z2]; rfl
  unfold getAttr? getAttrBy? getAttrBy
  refine wpAny_bind (wpAny_mkText (wpAny_bind (wpAny_attempt (wpAny_holding (wpAny_bind (t0.at (wpAny_bind (t1.at ?_))))))))
  show wpAny _ _ (if (onTheHeap (Value.ref D) && Value.builtin "BaseException.__getattribute__" == Value.builtin "object.__getattribute__") = true then _ else _) _ _ _
  rw [z1, if_neg Bool.false_ne_true]
  unfold getAttrByItsOwn hookBefore
  refine wpAny_bind ?_
  rw [if_pos (show onTheHeap (Value.ref D) = true from rfl)]
  refine t2.at ?_
  refine wpAny_bind (wpAny_attempt (wpAny_holding ?_))
  unfold callGetattribute
  rw [z0, if_neg Bool.false_ne_true]
  unfold boundAndCalled
  rw [PySem.F.excAttr_ValueError.ga.bind (.ref x)]
  refine wpAny_bind (wpAny_pure ?_)
  show wpAny _ _ (call (.builtin "BaseException.__getattribute__") [.ref x, .str "__class__" t]) _ _ _
  refine wpAny_call (codeAny_call_builtin PySem.F.excAttr_ValueError.ga.plain PySem.F.entry_bexc_ga ?_)
  refine @check_slot (model prog w) _ _ ⟨hp, g, d, t + 1, os⟩ "BaseException.__getattribute__" "BaseException" "__getattribute__" (.ref x) [.str "__class__" t] [] _ (by decide +kernel) (by decide +kernel) sb (PySem.F.args_bexc_ga (.ref x) (.str "__class__" t)) ?_
  unfold Builtin.«object.__getattribute__»
  refine wpAny_bind (wpAny_of_eq (a := ((Value.ref x : Value), [Value.str "__class__" t])) (by first | rfl | (simp only [slotArgs]; rfl)) ?_)
  refine wpAny_bind (wpAny_pure (wpAny_bind (t0.at (wpAny_bind (t3.at ?_)))))
  show wpAny _ _ (holding [Value.builtin "object.__class__"] (call (.builtin "getset_descriptor.__get__") [.builtin "object.__class__", .ref x, .ref D]) >>= ret) _ _ _
  refine wpAny_bind (wpAny_holding (wpAny_call (class_get (s := ⟨hp, g, d, t + 1, os⟩) (ox := ox) (od := od) X I C.hm ?_)))
  refine wpAny_pure ?_
  show wpAny _ _ (handedOut (.ref D)) _ _ _
  rw [handedOut_of (v := .ref D) rfl]
  first
    | exact wpAny_pure (wpAny_pure h)
    | exact wpAny_pure h
    | exact wpAny_pure (wpAny_bind (wpAny_pure (wpAny_pure h)))
theorem kitx_err (C : L2.ExcC K D) : KitX K (.ref x) (.ref D) (fun h => InstAt h x ox D od) where
  ty := fun _ _ _ I => I.type
  it := fun _ _ X _ => by
    obtain ⟨cdD, hcD, _⟩ := any_some C.hd
    unfold clsIn at hcD
    split at hcD
    · rename_i c' d' cd' sl' ho
      intro A' Q' E' s' k q
      unfold isType loadHead
      exact wpAny_bind (wpAny_loadPart (k _ _ (X _ _ ho)) (wpAny_pure q))
    · cases hcD
  ne := fun h tp dd its n sl X htp => by
    obtain ⟨cdD, hcD, _⟩ := any_some C.hd
    refine Bool.eq_false_iff.mpr fun q => ?_
    have e : D = tp := Value.ref.inj (beq_iff_eq.mp q)
    subst e
    unfold clsIn at hcD
    split at hcD
    · rename_i c' d' cd' sl' ho
      have z := (X _ _ ho).symm.trans htp
      cases z
    · cases hcD
  ca := fun X I k => cls_get C X I k
end
end PySem.EV
namespace EV2
open PySem PySem.Spec PyProof.Rows L2
/-! ### isinstance(e, c), e an own error -/
/-- x is an own error of the class at D -/
def ErrAt (H : Hp) (x : V) (D : Addr) : Prop := ∃ (a : Addr) (d : Option Addr), x = .ref a ∧ H a = some (exo a D d) ∧ ∀ dd, d = some dd → ∃ fs, H dd = some (exd dd fs)
def rIsV (K : PySem.W.Frag) : List V → Hp → VK → Prop := fun xs H Q => ∃ (x c : V) (D : Addr) (cv : Value) (b : Bool), xs = [x, c] ∧ ErrAt H x D ∧ ExcC K D ∧ (∀ u, RelV c u → u = cv) ∧ PySem.W.kitOne K (.ref D) cv = some b ∧ Q (.bl b) H
theorem call_isV {X : Cx} : CallR X (.builtin "isinstance") (rIsV X.K) := by
  intro pins s σ H xs us Q I r h
  obtain ⟨x, c, D, cv, b, rfl, ⟨a, d, rfl, ha, hd⟩, C, hcv, e, q⟩ := h
  obtain ⟨u1, u2, rfl, r1, r2⟩ := vals2 r
  have ec := hcv _ r2
  subst ec
  obtain rfl : u1 = Value.ref a := r1
  obtain ⟨t1, ho⟩ := exo_at I.hok ha
  cases d with
  | none =>
    have J : PySem.W.InstAt s.heap a { cls := .ref D, dict := none, data := .fields #[.ref t1, .none, .none, .none, .bool false, .none] } D none := ⟨ho, rfl, rfl, trivial⟩
    exact PySem.W.kia_one (PySem.EV.kitx_err C) I.kIn J e (fun z => nomatch z) fun tk => ⟨.bl b, H, I.kept (t' := tk) fun _ _ z => z, rfl, q⟩
  | some dd =>
    obtain ⟨fs, hdd⟩ := hd dd rfl
    obtain ⟨mA, hns, _⟩ := exd_at I.hok hdd
    obtain ⟨od, eo, _⟩ := lookIn_ns hns
    have J : PySem.W.InstAt s.heap a { cls := .ref D, dict := some dd, data := .fields #[.ref t1, .none, .none, .none, .bool false, .none] } D (some od) := ⟨ho, rfl, rfl, eo⟩
    exact PySem.W.kia_one (PySem.EV.kitx_err C) I.kIn J e (fun z => nomatch z) fun tk => ⟨.bl b, H, I.kept (t' := tk) fun _ _ z => z, rfl, q⟩
/-! ### e.f -/
def tErrF (K : PySem.W.Frag) (f : Str) (te : TE) : TE := fun σ H Q => te σ H fun x H1 => ∃ (a C d : Addr) (fs : List (Str × V)) (v : V), x = .ref a ∧ H1 a = some (exo a C (some d)) ∧ H1 d = some (exd d fs) ∧ XfC K C ∧ PySem.W.findIn K (.ref C) f = some none ∧ fs.lookup f = some v ∧ Q v H1
theorem pe_errF {X : Cx} {e : Expr} {te : TE} {f : Str} {pos : Pos} (he : PE X e te) (hb : attributeBase e f X.env (eval e X.env) = eval e X.env := by rfl) : PE X (.Attribute e f pos) (tErrF X.K f te) := by
  refine ⟨fun pins s σ H Q I h => ?_⟩
  refine attr_of hb (thn (he.run pins s σ H _ I h) fun u s1 hh => ?_)
  obtain ⟨x, H1, I1, rx, a, C, d, fs, v, ex, ea, ed, T, hno, l, q⟩ := hh
  subst ex
  obtain rfl : u = Value.ref a := rx
  obtain ⟨t1, ho⟩ := exo_at I1.hok ea
  obtain ⟨mA, hns, hr⟩ := exd_at I1.hok ed
  obtain ⟨od, eo, hl⟩ := lookIn_ns hns
  obtain ⟨u, hu, ru⟩ := RelO.some_of (v := v) (o := mA f) (by rw [← l]; exact hr f)
  have J : PySem.W.InstAt s1.heap a { cls := .ref C, dict := some d, data := .fields #[.ref t1, .none, .none, .none, .bool false, .none] } C (some od) := ⟨ho, rfl, rfl, eo⟩
  exact HandSPX.exc_get I1.kIn J T.ga T.gg T.exC (PySem.W.findObj_own T.hdC hno rfl (by rw [hl, hu])) (handed_of ru) ⟨v, H1, I1.tok _, ru, q⟩
/-! ### C(), C an own error without an __init__ of its own -/
def tMk0 (C : Addr) : TE := fun _ H Q => ∀ a, H a = none → Q (.ref a) (upd H a (exo a C none))
theorem pe_mk0 {X : Cx} {C : Addr} {bmB : List Value} {B newId initId : String} {x : Str} {p pos : Pos} (F : ExcBaseFacts B newId initId bmB) (q : PySem.W.excIn X.K C bmB newId = true) (gC : X.mg x = some (.ref C)) (kC : PySem.W.keepIn X.K (.ref C) = true) (hg : Gl X x)
    (hdb : (x == ("__debug__" : Str)) = false := by decide) : PE X (.Call (.Name x p) [] [] pos) (tMk0 C) := by
  refine ⟨fun pins s σ H Q I h => ?_⟩
  refine wpAny_Call_Name_kw (ld_glob I hg gC ?_ hdb)
  refine PySem.W.callWith_K0 I.kIn kC ?_
  show wpAny _ _ (call (.ref C) []) _ _ _
  obtain ⟨bm, N, nm, qn, bs, hdct, sn, sub, ab, col, dd, k0, k1, k2, k3, k5, mN, hC, hN, hni, T⟩ := exc_obj I.kIn q
  refine wpAny_call_exc_subT F T hC hN hni (fun h' e hm => ?_) (by show 0 ≤ sizeLine; rw [sizeLine_eq]; omega)
  obtain ⟨t, he, _, _⟩ := hm.there
  have hn := I.hok.gone hm.new
  exact ⟨.ref e, _, I.laidN (t' := s.toks) hm.keeps hm.new hn (exo_ok he), rfl, h e hn⟩
end EV2

set_option Elab.async false
set_option linter.all false
set_option maxRecDepth 100000
set_option maxHeartbeats 4000000
/-! Pens: a dict of three text keys, the cells and two numbers; common small facts. -/
namespace Pen
open PySem PySem.Spec PyProof.Rows L2
/-- all but what stands at p is as it was -/
def Sib (p : Addr) (H H' : Hp) : Prop := ∀ b o, b ≠ p → H b = some o → H' b = some o
theorem Sib.refl (p : Addr) (H : Hp) : Sib p H H := fun _ _ _ h => h
theorem Sib.trans {p : Addr} {H H1 H2 : Hp} (a : Sib p H H1) (b : Sib p H1 H2) : Sib p H H2 := fun c o n h => b c o n (a c o n h)
theorem Sib.new {p q : Addr} {o : HO} {H : Hp} (h : H q = none) : Sib p H (upd H q o) := fun b u _ e => by
  rw [upd_ne (ne_of_none e h)]
  exact e
theorem Sib.put {p : Addr} {o : HO} {H : Hp} : Sib p H (upd H p o) := fun b u n e => by
  rw [upd_ne n]
  exact e
/-- the pen's pairs: c the cells, i how many were taken, r what is left of the last one -/
def kvs (k1 k2 k3 : Str) (c : Addr) (i r : Int) : List (Key × V) := [(Sum.inr k1, .ref c), (Sum.inr k2, .int i), (Sum.inr k3, .int r)]
structure At (k1 k2 k3 : Str) (H : Hp) (p c : Addr) (cs : List Int) (i r : Int) : Prop where
  hp : H p = some (.dK (kvs k1 k2 k3 c i r))
  hc : H c = some (.lst (cs.map V.int))
  hl : cs.length ≤ 64
  h0 : 0 ≤ i
  h1 : i < 2 ^ 40
section
variable {k1 k2 k3 : Str} {H H' : Hp} {p c : Addr} {cs : List Int} {i r : Int}
theorem ref_ne (P : At k1 k2 k3 H p c cs i r) : c ≠ p := ne_of P.hc P.hp (by intro z; cases z)
theorem get1 (P : At k1 k2 k3 H p c cs i r) : DGet H p (.str k1) (some (.ref c)) := by
  have h := DGet.k (k := Sum.inr k1) P.hp
  have e : valV (kvs k1 k2 k3 c i r) (Sum.inr k1) = some (.ref c) := by simp [valV, kvs]
  rw [e] at h
  exact h
theorem get2 (P : At k1 k2 k3 H p c cs i r) (h12 : k1 ≠ k2) : DGet H p (.str k2) (some (.int i)) := by
  have h := DGet.k (k := Sum.inr k2) P.hp
  have e : valV (kvs k1 k2 k3 c i r) (Sum.inr k2) = some (.int i) := by simp [valV, kvs, h12]
  rw [e] at h
  exact h
theorem get3 (P : At k1 k2 k3 H p c cs i r) (h13 : k1 ≠ k3) (h23 : k2 ≠ k3) : DGet H p (.str k3) (some (.int r)) := by
  have h := DGet.k (k := Sum.inr k3) P.hp
  have e : valV (kvs k1 k2 k3 c i r) (Sum.inr k3) = some (.int r) := by simp [valV, kvs, h13, h23]
  rw [e] at h
  exact h
theorem put2 (P : At k1 k2 k3 H p c cs i r) (h12 : k1 ≠ k2) (h23 : k2 ≠ k3) (z : Int) : DPut H p (.str k2) (.int z) (upd H p (.dK (kvs k1 k2 k3 c z r))) := by
  have h := DPut.k (k := Sum.inr k2) (v := .int z) P.hp (by show 3 < sizeLine; decide)
  have e : putK (kvs k1 k2 k3 c i r) (Sum.inr k2) (.int z) = kvs k1 k2 k3 c z r := by
    have h3 : ¬ k3 = k2 := fun q => h23 q.symm
    simp [putK, kvs, h12, h3]
  rw [e] at h
  exact h
theorem put3 (P : At k1 k2 k3 H p c cs i r) (h13 : k1 ≠ k3) (h23 : k2 ≠ k3) (z : Int) : DPut H p (.str k3) (.int z) (upd H p (.dK (kvs k1 k2 k3 c i z))) := by
  have h := DPut.k (k := Sum.inr k3) (v := .int z) P.hp (by show 3 < sizeLine; decide)
  have e : putK (kvs k1 k2 k3 c i r) (Sum.inr k3) (.int z) = kvs k1 k2 k3 c i z := by simp [putK, kvs, h13, h23]
  rw [e] at h
  exact h
theorem At.to (P : At k1 k2 k3 H p c cs i r) {i' r' : Int} (hp : H' p = some (.dK (kvs k1 k2 k3 c i' r'))) (s : Sib p H H') (h0 : 0 ≤ i') (h1 : i' < 2 ^ 40) : At k1 k2 k3 H' p c cs i' r' :=
  ⟨hp, s _ _ (ref_ne P) P.hc, P.hl, h0, h1⟩
theorem At.new (P : At k1 k2 k3 H p c cs i r) {q : Addr} {o : HO} (h : H q = none) : At k1 k2 k3 (upd H q o) p c cs i r :=
  P.to (by rw [upd_ne (ne_of_none P.hp h)]; exact P.hp) (Sib.new h) P.h0 P.h1
theorem At.keep (P : At k1 k2 k3 H p c cs i r) (s : Same H H') : At k1 k2 k3 H' p c cs i r := P.to (s _ _ P.hp) (fun b o _ h => s b o h) P.h0 P.h1
end
theorem fmod_lo {a m : Int} (h : 0 < m) : 0 ≤ a.fmod m := by
  rw [Int.fmod_eq_emod_of_nonneg a (by omega)]
  exact Int.emod_nonneg a (by omega)
theorem fmod_hi {a m : Int} (h : 0 < m) : a.fmod m < m := by
  rw [Int.fmod_eq_emod_of_nonneg a (by omega)]
  exact Int.emod_lt_of_pos a h
/-- cells != [] -/
theorem dp_ints {K : PySem.W.Frag} {H : Hp} : ∀ (cs : List Int), DpAll K H (cs.map V.int) (cs.map PyData.int)
  | [] => .nil
  | n :: cs => .cons (.int n) (dp_ints cs)
theorem can_ints : ∀ (cs : List Int), PyData.canLayAll0 (cs.map PyData.int) = true
  | [] => rfl
  | n :: cs => by
    show (PyData.canLay0 (.int n) && PyData.canLayAll0 (cs.map PyData.int)) = true
    rw [can_ints cs]
    all_goals rfl
theorem depth_ints : ∀ (cs : List Int), PyData.depthAll (cs.map PyData.int) = 0
  | [] => rfl
  | n :: cs => by
    show max (PyData.depth (.int n)) (PyData.depthAll (cs.map PyData.int)) = 0
    rw [depth_ints cs]
    all_goals rfl
theorem shaped_ints (cs : List Int) : SeqAt.shaped (.list (cs.map PyData.int)) = true := by
  unfold SeqAt.shaped
  show (PyData.canLayAll0 (cs.map PyData.int) && decide (PyData.depthAll (cs.map PyData.int) + 1 ≤ 64)) = true
  rw [can_ints, depth_ints]
  all_goals rfl
theorem eqv_nil : ∀ (cs : List Int), PyData.eqv (.list (cs.map PyData.int)) (.list []) = decide (cs = [])
  | [] => rfl
  | n :: cs => rfl
theorem fm64 {a m : Int} (h : 0 < m) (h2 : m ≤ 2 ^ 64) : -(2 ^ 64) < a.fmod m ∧ a.fmod m < 2 ^ 64 := by
  have h3 := fmod_lo (a := a) h
  have h4 := fmod_hi (a := a) h
  omega
theorem SqL_sib {K : PySem.W.Frag} {p l : Addr} {H H' : Hp} {xs : List V} (h : SqL K H l xs) (s : Sib p H H') (n : l ≠ p) : SqL K H' l xs := by
  rcases h with (h | ⟨o, h⟩) | h
  · exact .inl (.inl (s _ _ n h))
  · exact .inl (.inr ⟨o, s _ _ n h⟩)
  · exact .inr h
theorem at_ints {cs : List Int} {i : Int} (h0 : 0 ≤ i) (h1 : i < cs.length) : ∃ z, atI (cs.map V.int) i = some (.int z) := by
  have hk : i.toNat < cs.length := by omega
  refine ⟨cs[i.toNat], ?_⟩
  unfold atI ixN
  rw [List.length_map, if_pos h0, if_pos h1, Option.bind_some, List.getElem?_map, List.getElem?_eq_getElem hk]
  all_goals rfl
theorem cut_all {xs : List V} {n : Nat} (h : xs.length ≤ n) : cutV xs none (some (n : Int)) = xs := by
  have e1 : HT.sIx xs.length 0 none = 0 := rfl
  have e2 : HT.sIx xs.length xs.length (some (n : Int)) = xs.length := by
    rw [HT.sIx_nat]
    omega
  unfold cutV
  rw [e1, e2]
  simp
end Pen

set_option Elab.async false
set_option linter.all false
set_option maxRecDepth 100000
set_option maxHeartbeats 4000000
/-! Own errors with one or two fields that their __init__ stores: what stands behind C(..). -/
namespace EV2
open PySem PySem.Spec PyProof.Rows L2
/-- an error with the fields fs -/
structure ErrF (H : Hp) (a d C : Addr) (fs : List (Str × V)) : Prop where
  he : H a = some (exo a C (some d))
  hd : H d = some (exd d fs)
def spI1 (C : Addr) (f : Str) : Sp := fun vs H Q _ => ∃ (a : Addr) (v : V), vs = [.ref a, v] ∧ H a = some (exo a C none) ∧
  ∀ d, H d = none → d ≠ a → Q .non (upd (upd H d (exd d [(f, v)])) a (exo a C (some d)))
def spI2 (C : Addr) (f g : Str) : Sp := fun vs H Q _ => ∃ (a : Addr) (v u : V), vs = [.ref a, v, u] ∧ H a = some (exo a C none) ∧
  ∀ d, H d = none → d ≠ a → Q .non (upd (upd (upd H d (exd d [(f, v)])) a (exo a C (some d))) d (exd d [(g, u), (f, v)]))
section
variable {H : Hp} {Q : VK} {E : XK} {C : Addr} {f g : Str} {u v : V}
theorem rd_e1 (k : ∀ a d H', H a = none → H' a = some (exo a C (some d)) → H' d = some (exd d [(f, v)]) → Same H H' → Q (.ref a) H') :
    ∀ a, H a = none → spI1 C f [.ref a, v] (upd H a (exo a C none)) (fun z H3 => z = .non ∧ Q (.ref a) H3) E := fun a ha =>
  ⟨a, v, rfl, upd_same, fun d hd ne => ⟨rfl, k a d _ ha upd_same (by rw [upd_ne ne, upd_same]) fun b o e => by
    have n1 : b ≠ a := ne_of_none e ha
    have n2 : b ≠ d := fun z => by
      rw [z] at e
      rw [upd_ne ne, e] at hd
      cases hd
    rw [upd_ne n1, upd_ne n2, upd_ne n1]
    exact e⟩⟩
theorem rd_e2 (k : ∀ a d H', H a = none → H' a = some (exo a C (some d)) → H' d = some (exd d [(g, u), (f, v)]) → Same H H' → Q (.ref a) H') :
    ∀ a, H a = none → spI2 C f g [.ref a, v, u] (upd H a (exo a C none)) (fun z H3 => z = .non ∧ Q (.ref a) H3) E := fun a ha =>
  ⟨a, v, u, rfl, upd_same, fun d hd ne => ⟨rfl, k a d _ ha (by rw [upd_ne (Ne.symm ne), upd_same]) upd_same fun b o e => by
    have n1 : b ≠ a := ne_of_none e ha
    have n2 : b ≠ d := fun z => by
      rw [z] at e
      rw [upd_ne ne, e] at hd
      cases hd
    rw [upd_ne n2, upd_ne n1, upd_ne n2, upd_ne n1]
    exact e⟩⟩
end
/-- how a def binds positional and keyword arguments, told by its text -/
theorem kbn_of {K : PySem.W.Frag} {x qual : Str} {st : Stmt} {f : Addr} {fd : FuncData} {ps ks : List Str} {n : Nat} {g : List Value → List Value → List Value} {gV : List V → List V → List V} (F : Fun K x qual st f fd)
    (h : ∀ (kV doc pm : Value) (an : Option Addr) (cdv ct : Value) (us ws : List Value), us.length = n → ws.length = ks.length → bindArgs (PySem.W.fnOf x qual (defArgs st) (defBody st) (defScope st) .none kV doc pm an cdv ct) ⟨us, ks.zip ws⟩ = pure (ps.zip (g us ws)))
    (hr : ∀ {vs : List V} {us : List Value} {zs : List V} {ws : List Value}, Vals vs us → Vals zs ws → Vals (gV vs zs) (g us ws)) : KBn K fd ps n ks g gV := by
  obtain ⟨oc, od, kV, doc, pm, an, cdv, ct, osl, rfl, lk, hcd⟩ := F.ex
  exact ⟨fun s us ws X l1 l2 => .of_eq (h kV doc pm an cdv ct us ws l1 l2), hr⟩
/-- two keywords in the other order -/
def swapK {α : Type} (us ws : List α) : List α := us ++ ws.reverse
theorem vals_rev : ∀ {vs : List V} {us : List Value}, Vals vs us → Vals vs.reverse us.reverse
  | _, _, .nil => .nil
  | _, _, .cons r t => by
    rw [List.reverse_cons, List.reverse_cons]
    exact (vals_rev t).append (.cons r .nil)
end EV2

set_option Elab.async false
set_option linter.all false
set_option maxRecDepth 100000
set_option maxHeartbeats 4000000
/-! What readings give, for errors that are made and asked on the spot, for lists of tuples, for isinstance. -/
namespace EV2
open PySem PySem.Spec PyProof.Rows L2 Evl
/-- tuples at ps with the items xss -/
abbrev TupsAt (H : Hp) : List Addr → List (List V) → Prop := Paired fun p xs => H p = some (.tup xs)
theorem TupsAt.ext {H H' : Hp} (e : Ex H H') : ∀ {ps : List Addr} {xss : List (List V)}, TupsAt H ps xss → TupsAt H' ps xss
  | _, _, .nil => .nil
  | _, _, .cons r t => .cons (e _ _ r) (TupsAt.ext e t)
def EvTs (ta : TA) (σ : L2.St) (H : Hp) (xss : List (List V)) : Prop := ∀ H1, Ex H H1 → ∀ Q : List V → Hp → Prop, (∀ ps H2, Ex H1 H2 → TupsAt H2 ps xss → Q (ps.map V.ref) H2) → ta σ H1 Q
section
variable {K : PySem.W.Frag} {σ : L2.St} {H : Hp} {te : TE} {ta tk tr : TA} {x v : V} {xs : List V} {xss : List (List V)} {f : Str} {C : Addr}
theorem ets_nil : EvTs tNil σ H [] := fun H1 _ _ q => q [] H1 (Ex.refl H1) .nil
theorem ets_cons (h : EvU te σ H xs) (hr : EvTs tr σ H xss) : EvTs (tCons te tr) σ H (xs :: xss) := fun H1 e Q q =>
  h H1 e _ fun p H2 _ e2 hp => hr H2 (e.trans e2) _ fun ps H3 e3 ht => q (p :: ps) H3 (e2.trans e3) (.cons (e3 _ _ hp) ht)
/-- a list of such tuples -/
def EvLT (te : TE) (σ : L2.St) (H : Hp) (xss : List (List V)) : Prop := ∀ H1, Ex H H1 → ∀ Q : VK, (∀ p ps H2, H1 p = none → Ex H1 H2 → H2 p = some (.lst (ps.map V.ref)) → TupsAt H2 ps xss → Q (.ref p) H2) → te σ H1 Q
theorem elt_lst (h : EvTs ta σ H xss) (hl : xss.length ≤ 100000) : EvLT (tLst ta) σ H xss := fun H1 e Q q =>
  h H1 e _ fun ps H2 e2 ht => ⟨by
    have z := Paired.length ht
    rw [List.length_map, z]
    exact sz_of hl, fun p hp => q p ps _ (fresh_back e2 hp) (e2.trans (Ex.new hp)) upd_same (ht.ext (Ex.new hp))⟩
/-- what follows an attribute of an error -/
def errK (K : PySem.W.Frag) (f : Str) (Q : VK) : VK := fun x H1 => ∃ (a C d : Addr) (fs : List (Str × V)) (v : V), x = .ref a ∧ H1 a = some (exo a C (some d)) ∧ H1 d = some (exd d fs) ∧ XfC K C ∧ PySem.W.findIn K (.ref C) f = some none ∧ fs.lookup f = some v ∧ Q v H1
/-- C(v).f -/
theorem ev_e1p {gV : List V → List V → List V} (hx : XfC K C) (no : PySem.W.findIn K (.ref C) f = some none) (ha : EvA ta σ H [v]) (hg : ∀ a : V, gV [a, v] [] = [a, v]) : Ev (tErrF K f (tMkV C 1 0 (spI1 C f) gV ta tNil)) σ H v := fun H1 e Q q =>
  ha H1 e _ fun H2 e2 => ⟨rfl, rfl, by decide, by
    intro a ha
    rw [hg]
    exact rd_e1 (Q := errK K f Q) (fun a d H3 ha he hd s => ⟨a, C, d, _, v, rfl, he, hd, hx, no, by simp [List.lookup], q H3 (e2.trans s)⟩) a ha⟩
/-- C(f = v).f -/
theorem ev_e1k {gV : List V → List V → List V} (hx : XfC K C) (no : PySem.W.findIn K (.ref C) f = some none) (ha : EvA tk σ H [v]) (hg : ∀ a : V, gV [a] [v] = [a, v]) : Ev (tErrF K f (tMkV C 0 1 (spI1 C f) gV tNil tk)) σ H v := fun H1 e Q q =>
  ha H1 e _ fun H2 e2 => ⟨rfl, rfl, by decide, by
    intro a ha
    rw [hg]
    exact rd_e1 (Q := errK K f Q) (fun a d H3 ha he hd s => ⟨a, C, d, _, v, rfl, he, hd, hx, no, by simp [List.lookup], q H3 (e2.trans s)⟩) a ha⟩
/-- errors with two fields: f and g are v and u behind it; h is the one that is asked, z its value -/
theorem ev_e2 {n m : Nat} {vs zs : List V} {g h : Str} {u z : V} {gV : List V → List V → List V} (hx : XfC K C) (no : PySem.W.findIn K (.ref C) h = some none) (ha : EvA ta σ H vs) (hk : EvA tk σ H zs) (l1 : vs.length = n) (l2 : zs.length = m) (hn : n ≤ 1000)
    (hg : ∀ a : V, gV (a :: vs) zs = [a, v, u]) (hz : ([(g, u), (f, v)] : List (Str × V)).lookup h = some z) : Ev (tErrF K h (tMkV C n m (spI2 C f g) gV ta tk)) σ H z := fun H1 e Q q =>
  ha H1 e _ fun H2 e2 => hk H2 (e.trans e2) _ fun H3 e3 => ⟨l1, l2, hn, by
    intro a ha
    rw [hg]
    exact rd_e2 (Q := errK K h Q) (fun a d H4 ha he hd s => ⟨a, C, d, _, z, rfl, he, hd, hx, no, hz, q H4 ((e2.trans e3).trans s)⟩) a ha⟩
end
end EV2

set_option Elab.async false
set_option linter.all false
set_option maxRecDepth 100000
set_option maxHeartbeats 4000000
/-! A new list that grows by tuples. -/
namespace EV2
open PySem PySem.Spec PyProof.Rows L2 Evl
structure Grown (H0 H : Hp) (l : Addr) (ts : List Addr) (xss : List (List V)) : Prop where
  nw : H0 l = none
  ex : Ex H0 H
  at_ : H l = some (.lst (ts.map V.ref))
  tp : TupsAt H ts xss
theorem tups_app {H : Hp} : ∀ {ps qs : List Addr} {xss yss : List (List V)}, TupsAt H ps xss → TupsAt H qs yss → TupsAt H (ps ++ qs) (xss ++ yss)
  | _, _, _, _, .nil, t => t
  | _, _, _, _, .cons r s, t => .cons r (tups_app s t)
theorem tups_upd {H : Hp} {l : Addr} {xs ys : List V} (h : H l = some (.lst xs)) : ∀ {ps : List Addr} {xss : List (List V)}, TupsAt H ps xss → TupsAt (upd H l (.lst ys)) ps xss
  | _, _, .nil => .nil
  | _, _, .cons r t => .cons (by
      rw [upd_ne (ne_of r h (by intro z; cases z))]
      exact r) (tups_upd h t)
section
variable {K : PySem.W.Frag} {σ : L2.St} {H0 H : Hp} {te : TE} {l : Addr} {ts : List Addr} {xss : List (List V)} {ys : List V} {tz : TS} {D : Ends} {i : Nat}
theorem grow (G : Grown H0 H l ts xss) (hi : σ[i]? = some (some (.ref l))) (h : EvU te σ H ys) (hz : ts.length < 1000) (k : ∀ p H', Grown H0 H' l (ts ++ [p]) (xss ++ [ys]) → tz D σ H') :
    tSeq (tDrop (tBM K "list" rAppend (tVar i) (tCons te tNil))) tz D σ H := by
  refine q_appU G.at_ (ev_var hi) h (by rw [List.length_map]; omega) fun p H1 hp e1 ht => k p _ ⟨G.nw, Ex.mut (G.ex.trans e1) G.nw, ?_, ?_⟩
  · rw [upd_same, List.map_append]
    rfl
  · exact tups_upd (e1 _ _ G.at_) (tups_app (G.tp.ext e1) (.cons ht .nil))
end
end EV2

set_option Elab.async false
set_option linter.all false
set_option maxRecDepth 100000
set_option maxHeartbeats 4000000
/-! Own errors right below one own base, which is a ValueError: what follows from the class's own line; which kind is which. -/
namespace EV2
open PySem PySem.Spec PyProof.Rows L2 Evl
def BM (S : Addr) : List Value := [.ref S, .type "ValueError", .type "Exception", .type "BaseException", .type "object"]
/-- the class's own line -/
def LineOf (K : PySem.W.Frag) (S C : Addr) : Prop := ∃ nm q N bs sn sub ab col dd k0 k1 k2 k3 k5, K.lookup C = some (excClassObj nm q C N bs (BM S) true sn sub ab col dd k0 k1 k2 k3 k5 "ValueError.__new__")
section
variable {K : PySem.W.Frag} {S C D : Addr}
theorem LineOf.cls (h : LineOf K S C) : ∃ cd, PySem.W.clsIn K C = some cd ∧ cd.mro = .ref C :: BM S ∧ cd.hasDict = true := by
  obtain ⟨nm, q, N, bs, sn, sub, ab, col, dd, k0, k1, k2, k3, k5, e⟩ := h
  refine ⟨_, by unfold PySem.W.clsIn; rw [e] <;> rfl, rfl, rfl⟩
theorem LineOf.mro (h : LineOf K S C) (v : Value) : PySem.W.mroIn K C v = some ((Value.ref C :: BM S).contains v) := by
  obtain ⟨cd, e, m, _⟩ := h.cls
  unfold PySem.W.mroIn
  rw [e, Option.bind_some, m, if_neg (by show ¬ false = true; decide)]
theorem LineOf.base (h : LineOf K S C) : PySem.W.subIn K (.ref C) (.type "BaseException") = some true := by
  show PySem.W.mroIn K C (.type "BaseException") = some true
  rw [h.mro]
  congr 1
theorem LineOf.value (h : LineOf K S C) : PySem.W.subIn K (.ref C) (.type "ValueError") = some true := by
  show PySem.W.mroIn K C (.type "ValueError") = some true
  rw [h.mro]
  congr 1
theorem LineOf.obj (h : LineOf K S C) : PySem.W.mroIn K C (.type "object") = some true := by
  rw [h.mro]
  congr 1
theorem LineOf.ty (h : LineOf K S C) : PySem.W.typeIn K (.ref C) = some (.type "type") := by
  obtain ⟨nm, q, N, bs, sn, sub, ab, col, dd, k0, k1, k2, k3, k5, e⟩ := h
  show (K.lookup C).map (·.cls) = some (.type "type")
  rw [e]
  all_goals rfl
theorem LineOf.dict (h : LineOf K S C) : PySem.W.hasDictIn K C = true := by
  obtain ⟨cd, e, _, d⟩ := h.cls
  unfold PySem.W.hasDictIn
  rw [e]
  exact d
theorem LineOf.isc (h : LineOf K S C) : (PySem.W.clsIn K C).isSome = true := by
  obtain ⟨cd, e, _⟩ := h.cls
  rw [e]
  all_goals rfl
theorem refs_bm : PySem.HandSPX.refsVE (BM S) = true := by rfl
theorem LineOf.ox (h : LineOf K S C) (sa : PySem.W.findIn K (.ref C) "__setattr__" = some (some (.builtin "object.__setattr__"))) (kC : PySem.W.keepIn K (.ref C) = true) : OexC K C := by
  have e1 := h.base
  have e2 := h.ty
  obtain ⟨nm, q, N, bs, sn, sub, ab, col, dd, k0, k1, k2, k3, k5, e⟩ := h
  exact ⟨⟨nm, q, N, bs, _, sn, sub, ab, col, dd, k0, k1, k2, k3, k5, e, refs_bm⟩, sa, e1, e2, kC⟩
/-- the look at an instance's class -/
structure GetC (K : PySem.W.Frag) : Prop where
  hn : PySem.W.specialIn K (.builtin "object.__class__") "__get__" = some (some (.builtin "getset_descriptor.__get__"))
  ht : PySem.W.takesIn K (.builtin "object.__class__") = some true
theorem LineOf.ic (h : LineOf K S C) (g : GetC K) (hg : PySem.W.findIn K (.ref C) "__getattribute__" = some (some (.builtin "BaseException.__getattribute__"))) (hk : PySem.W.findIn K (.ref C) "__getattr__" = some none)
    (ha : PySem.W.findIn K (.ref C) "__class__" = some (some (.builtin "object.__class__"))) : ExcC K C := ⟨hg, hk, h.base, h.dict, ha, g.hn, g.ht, h.obj⟩
theorem LineOf.xf (h : LineOf K S C) (hg : PySem.W.findIn K (.ref C) "__getattribute__" = some (some (.builtin "BaseException.__getattribute__"))) (hk : PySem.W.findIn K (.ref C) "__getattr__" = some none) : XfC K C := ⟨hg, hk, h.base, h.dict⟩
theorem ref_beq (a b : Addr) : (Value.ref a == Value.ref b) = decide (a = b) := by
  by_cases e : a = b
  · subst e
    simp
  · rw [decide_eq_false e]
    exact beq_eq_false_iff_ne.mpr fun q => e (Value.ref.inj q)
/-- isinstance(e, C), e of the class D: both right below S -/
theorem kit_below (hD : LineOf K S D) (hC : LineOf K S C) (n : C ≠ S) : PySem.W.kitOne K (.ref D) (.ref C) = some (decide (C = D)) := by
  unfold PySem.W.kitOne
  by_cases e : D = C
  · subst e
    rw [if_pos (by rw [ref_beq]; simp)]
    simp
  · rw [if_neg (by rw [ref_beq]; simp [e])]
    show (if ((PySem.W.clsIn K C).isSome && PySem.W.typeIn K (.ref C) == some (.type "type")) = true then PySem.W.subIn K (.ref D) (.ref C) else none) = some (decide (C = D))
    rw [hC.isc, hC.ty]
    rw [if_pos (by rfl)]
    show PySem.W.mroIn K D (.ref C) = some (decide (C = D))
    rw [hD.mro]
    congr 1
    have n1 : (Value.ref C == Value.ref D) = false := by rw [ref_beq]; exact decide_eq_false fun q => e q.symm
    have n2 : (Value.ref C == Value.ref S) = false := by rw [ref_beq]; exact decide_eq_false n
    have n3 : ∀ x : String, (Value.ref C == Value.type x) = false := fun x => beq_eq_false_iff_ne.mpr fun q => by cases q
    have q : decide (C = D) = false := decide_eq_false fun q => e q.symm
    rw [q]
    simp only [BM, List.contains_cons, n1, n2, n3, List.contains_nil, Bool.or_false]
/-- the base itself, and ValueError -/
theorem kit_base (hD : LineOf K S D) (sS : (PySem.W.clsIn K S).isSome = true) (tS : PySem.W.typeIn K (.ref S) = some (.type "type")) : PySem.W.kitOne K (.ref D) (.ref S) = some true := by
  unfold PySem.W.kitOne
  by_cases e : D = S
  · rw [if_pos (by rw [ref_beq]; simp [e])]
  · rw [if_neg (by rw [ref_beq]; simp [e])]
    show (if ((PySem.W.clsIn K S).isSome && PySem.W.typeIn K (.ref S) == some (.type "type")) = true then PySem.W.subIn K (.ref D) (.ref S) else none) = some true
    rw [sS, tS]
    rw [if_pos (by rfl)]
    show PySem.W.mroIn K D (.ref S) = some true
    rw [hD.mro]
    congr 1
    simp only [BM, List.contains_cons]
    rw [show (Value.ref S == Value.ref S) = true from by rw [ref_beq]; simp]
    simp
theorem kit_value (hD : LineOf K S D) : PySem.W.kitOne K (.ref D) (.type "ValueError") = some true := by
  unfold PySem.W.kitOne
  rw [if_neg (by intro q; exact absurd (beq_iff_eq.mp q) (by intro z; cases z))]
  show (if PySem.W.kitMeta "ValueError" = true then PySem.W.subIn K (.ref D) (.type "ValueError") else none) = some true
  rw [if_pos (by decide +kernel)]
  exact hD.value
end
/-- one among many -/
def marks (l : List Addr) (D : Addr) : List Int := l.map fun C => if C = D then 1 else 0
theorem marks_no : ∀ {l : List Addr} {D : Addr}, D ∉ l → marks l D = List.replicate l.length 0
  | [], _, _ => rfl
  | C :: l, D, h => by
    have h1 : ¬ C = D := fun e => h (by rw [e]; exact List.mem_cons_self ..)
    show (if C = D then 1 else 0) :: marks l D = _
    rw [if_neg h1, marks_no fun q => h (List.mem_cons_of_mem _ q)]
    rfl
theorem marks_at : ∀ {l : List Addr} {j : Nat} {D : Addr}, l.Nodup → l[j]? = some D → marks l D = List.replicate j 0 ++ [1] ++ List.replicate (l.length - 1 - j) 0
  | [], _, _, _, h => by simp at h
  | C :: l, 0, D, nd, h => by
    have e : C = D := Option.some.inj h
    subst e
    show (if C = C then 1 else 0) :: marks l C = _
    rw [if_pos rfl, marks_no (List.nodup_cons.mp nd).1]
    simp
  | C :: l, j + 1, D, nd, h => by
    have h' : l[j]? = some D := h
    have hm : D ∈ l := List.mem_of_getElem? h'
    have n : ¬ C = D := fun e => (List.nodup_cons.mp nd).1 (by rw [e]; exact hm)
    show (if C = D then 1 else 0) :: marks l D = _
    rw [if_neg n, marks_at (List.nodup_cons.mp nd).2 h']
    have hl : (C :: l).length - 1 - (j + 1) = l.length - 1 - j := by
      rw [List.length_cons]
      omega
    rw [hl]
    rfl
end EV2

set_option Elab.async false
set_option linter.all false
set_option maxRecDepth 100000
set_option maxHeartbeats 4000000
/-! Lists put together, isinstance of errors, list comprehensions: what they give. -/
namespace EV2
open PySem PySem.Spec PyProof.Rows L2 Evl
theorem ErrAt.ext {H H' : Hp} {x : V} {D : Addr} (e : Ex H H') (h : ErrAt H x D) : ErrAt H' x D := by
  obtain ⟨a, d, ex, ha, hd⟩ := h
  exact ⟨a, d, ex, e _ _ ha, fun dd z => by
    obtain ⟨fs, q⟩ := hd dd z
    exact ⟨fs, e _ _ q⟩⟩
section
variable {K : PySem.W.Frag} {σ : L2.St} {H : Hp} {ta tb tc te : TE} {x c v : V} {xs ys : List V} {k : Int} {a : Addr}
theorem el_cat (ha : EvL ta σ H xs) (hb : EvL tb σ H ys) (hl : xs.length + ys.length ≤ 100000) : EvL (tOp rCat ta tb) σ H (xs ++ ys) := fun H1 e Q q =>
  ha H1 e _ fun p H2 np e2 hp => hb H2 (e.trans e2) _ fun r H3 nr e3 hr => ⟨p, r, xs, ys, rfl, rfl, e3 _ _ hp, hr, sz_of hl, fun u hu => q u _ (fresh_back (e2.trans e3) hu) ((e2.trans e3).trans (Ex.new hu)) upd_same⟩
/-- the first one an old list -/
theorem el_catV (ha : Ev ta σ H (.ref a)) (h : H a = some (.lst xs)) (hb : EvL tb σ H ys) (hl : xs.length + ys.length ≤ 100000) : EvL (tOp rCat ta tb) σ H (xs ++ ys) := fun H1 e Q q =>
  ha H1 e _ fun H2 e2 => hb H2 (e.trans e2) _ fun r H3 nr e3 hr => ⟨a, r, xs, ys, rfl, rfl, e3 _ _ (e2 _ _ (e _ _ h)), hr, sz_of hl, fun u hu => q u _ (fresh_back (e2.trans e3) hu) ((e2.trans e3).trans (Ex.new hu)) upd_same⟩
/-- [v] * k -/
theorem el_rep1 (ha : EvL ta σ H [v]) (hb : Ev tb σ H (.int k)) (h0 : 0 ≤ k) (h1 : k ≤ 100000) : EvL (tOp rRep ta tb) σ H (List.replicate k.toNat v) := fun H1 e Q q =>
  ha H1 e _ fun p H2 np e2 hp => hb H2 (e.trans e2) _ fun H3 e3 => ⟨p, k, [v], rfl, rfl, e3 _ _ hp, by omega, by omega, by
    show 1 * k.toNat ≤ sizeLine
    exact sz_of (by omega), fun u hu => by
    have z := q u (upd H3 u (.lst (List.replicate k.toNat v))) (fresh_back (e2.trans e3) hu) ((e2.trans e3).trans (Ex.new hu)) upd_same
    have w : (List.replicate k.toNat [v]).flatten = List.replicate k.toNat v := by
      generalize k.toNat = n
      induction n with
      | zero => rfl
      | succ n ih => rw [List.replicate_succ, List.flatten_cons, ih]; rfl
    first
      | (rw [w]; exact z)
      | exact z⟩
/-- isinstance(x, c) of an own error -/
theorem ev_isV {D : Addr} {cv : Value} {b : Bool} (ha : Ev ta σ H x) (hc : Ev tc σ H c) (hx : ErrAt H x D) (C : ExcC K D) (hcv : ∀ u, RelV c u → u = cv) (hk : PySem.W.kitOne K (.ref D) cv = some b) :
    Ev (tCB (rIsV K) (tCons ta (tCons tc tNil))) σ H (.bl b) := fun H1 e Q q =>
  ha H1 e _ fun H2 e2 => hc H2 (e.trans e2) _ fun H3 e3 => ⟨x, c, D, cv, b, rfl, hx.ext ((e.trans e2).trans e3), C, hcv, hk, q H3 (e2.trans e3)⟩
theorem rel_ref {a : Addr} : ∀ u, RelV (.ref a) u → u = .ref a := fun u h => h
theorem rel_ty {n : String} : ∀ u, RelV (.ty n) u → u = .type n := fun u h => h
end
end EV2
namespace EV2
open PySem PySem.Spec PyProof.Rows L2 Evl
theorem et_yes {σ : L2.St} {H : Hp} : EvT tYes σ H true := fun H1 _ _ q => q H1 (Ex.refl H1)
theorem given_map {α : Type} (l : List α) (g : α → V) (d : V) : given l.length (fun _ => true) (fun i => (l[i]?.map g).getD d) = l.map g := by
  unfold given
  rw [List.filter_eq_self.mpr (fun _ _ => rfl)]
  apply List.ext_getElem?
  intro i
  rw [List.getElem?_map, List.getElem?_map]
  by_cases h : i < l.length
  · rw [List.getElem?_range h, List.getElem?_eq_getElem h]
    simp [h]
  · rw [List.getElem?_eq_none (by rw [List.length_range]; omega), List.getElem?_eq_none (by omega)]
    rfl
/-- [e for x in xs] where e of each item is known -/
theorem el_lcM {K : PySem.W.Frag} {σ : L2.St} {H : Hp} {te tl : TE} {α : Type} {a : Addr} {j : Nat} {vs : List Nat} (l : List α) (y g : α → V) (h : Ev tl σ H (.ref a)) (hx : SqL K H a (l.map y)) (hz : l.length ≤ 40000) (hw : ∀ x, wipe ((wipe σ vs).set j (some x)) vs = wipe σ vs)
    (he : ∀ (u : α) H1, Ex H H1 → u ∈ l → Ev te ((wipe σ vs).set j (some (y u))) H1 (g u)) : EvL (tLc (iList K tl) (gName j) tYes te vs) σ H (l.map g) := by
  have z := el_lcL (K := K) (te := te) (t := tYes) (j := j) (vs := vs) (fun _ => true) (fun i => (l[i]?.map g).getD .non) h hx (by rw [List.length_map]; exact hz) hw (fun _ _ _ _ _ => et_yes) (fun i x H1 e1 hi _ => by
    rw [List.getElem?_map] at hi
    cases q : l[i]? with
    | none => rw [q] at hi; cases hi
    | some u =>
      rw [q] at hi
      have e2 : y u = x := Option.some.inj hi
      rw [← e2]
      exact he u H1 e1 (List.mem_of_getElem? q))
  rw [List.length_map, given_map] at z
  exact z
/-- int(b), b a truth -/
theorem ev_intB {σ : L2.St} {H : Hp} {ta : TE} {b : Bool} (h : Ev ta σ H (.bl b)) : Ev (tCB (fun xs H Q => (∃ i, xs = [V.int i] ∧ Q (.int i) H) ∨ ∃ k, xs = [V.bl k] ∧ Q (.int (if k then 1 else 0)) H) (tCons ta tNil)) σ H (.int (if b then 1 else 0)) := fun H1 e Q q =>
  h H1 e _ fun H2 e2 => .inr ⟨b, rfl, q H2 e2⟩
theorem ev_intI {σ : L2.St} {H : Hp} {ta : TE} {i : Int} (h : Ev ta σ H (.int i)) : Ev (tCB (fun xs H Q => (∃ i, xs = [V.int i] ∧ Q (.int i) H) ∨ ∃ k, xs = [V.bl k] ∧ Q (.int (if k then 1 else 0)) H) (tCons ta tNil)) σ H (.int i) := fun H1 e Q q =>
  h H1 e _ fun H2 e2 => .inl ⟨i, rfl, q H2 e2⟩
end EV2

set_option Elab.async false
set_option linter.all false
set_option maxRecDepth 100000
set_option maxHeartbeats 4000000
/-! Lists of errors; equal lists of ints. -/
namespace EV2
open PySem PySem.Spec PyProof.Rows L2 Evl
abbrev ErrsAt (H : Hp) : List V → List Addr → Prop := Paired (ErrAt H)
theorem ErrsAt.ext {H H' : Hp} (e : Ex H H') : ∀ {xs : List V} {Ds : List Addr}, ErrsAt H xs Ds → ErrsAt H' xs Ds
  | _, _, .nil => .nil
  | _, _, .cons r t => .cons (ErrAt.ext e r) (ErrsAt.ext e t)
theorem errs_app {H : Hp} : ∀ {xs ys : List V} {Ds Es : List Addr}, ErrsAt H xs Ds → ErrsAt H ys Es → ErrsAt H (xs ++ ys) (Ds ++ Es)
  | _, _, _, _, .nil, t => t
  | _, _, _, _, .cons r s, t => .cons r (errs_app s t)
theorem errs_mem {H : Hp} : ∀ {xs : List V} {Ds : List Addr}, ErrsAt H xs Ds → ∀ x ∈ xs, ∃ D ∈ Ds, ErrAt H x D
  | _, _, .nil, x, h => by cases h
  | _, _, .cons (a := y) (b := D) r t, x, h => by
    rcases List.mem_cons.mp h with e | h
    · exact ⟨_, List.mem_cons_self .., by rw [e]; exact r⟩
    · obtain ⟨D', m, q⟩ := errs_mem t x h
      exact ⟨D', List.mem_cons_of_mem _ m, q⟩
theorem errs_at {H : Hp} : ∀ {xs : List V} {Ds : List Addr} {i : Nat} {D : Addr}, ErrsAt H xs Ds → Ds[i]? = some D → ∃ x, xs[i]? = some x ∧ ErrAt H x D
  | _, _, i, D, .nil, h => by simp at h
  | _, _, 0, D, .cons r t, h => by
    have e := Option.some.inj h
    subst e
    exact ⟨_, rfl, r⟩
  | _, _, i + 1, D, .cons r t, h => errs_at (i := i) t h
/-- a new error of the class D -/
def EvE (te : TE) (σ : L2.St) (H : Hp) (D : Addr) : Prop := ∀ H1, Ex H H1 → ∀ Q : VK, (∀ x H2, Ex H1 H2 → ErrAt H2 x D → Q x H2) → te σ H1 Q
def EvEs (ta : TA) (σ : L2.St) (H : Hp) (Ds : List Addr) : Prop := ∀ H1, Ex H H1 → ∀ Q : List V → Hp → Prop, (∀ xs H2, Ex H1 H2 → ErrsAt H2 xs Ds → Q xs H2) → ta σ H1 Q
section
variable {K : PySem.W.Frag} {σ : L2.St} {H : Hp} {te : TE} {ta tk tr : TA} {C D : Addr} {Ds Es : List Addr} {f g : Str} {u v : V} {xs : List V} {l : Addr} {i : Nat} {tz : TS} {En : Ends}
theorem ees_nil : EvEs tNil σ H [] := fun H1 _ _ q => q [] H1 (Ex.refl H1) .nil
theorem ees_cons (h : EvE te σ H D) (hr : EvEs tr σ H Ds) : EvEs (tCons te tr) σ H (D :: Ds) := fun H1 e Q q =>
  h H1 e _ fun x H2 e2 hx => hr H2 (e.trans e2) _ fun xs H3 e3 ht => q (x :: xs) H3 (e2.trans e3) (.cons (hx.ext e3) ht)
theorem ee_0 : EvE (tMk0 C) σ H C := fun H1 e Q q => fun a ha => q (.ref a) _ (Ex.new ha) ⟨a, none, rfl, upd_same, fun dd z => by cases z⟩
theorem ee_1 {gV : List V → List V → List V} (ha : EvA ta σ H [v]) (hg : ∀ a : V, gV [a, v] [] = [a, v]) : EvE (tMkV C 1 0 (spI1 C f) gV ta tNil) σ H C := fun H1 e Q q =>
  ha H1 e _ fun H2 e2 => ⟨rfl, rfl, by decide, by
    intro a ha
    rw [hg]
    exact rd_e1 (Q := Q) (fun a d H3 ha he hd s => q (.ref a) H3 (e2.trans s) ⟨a, some d, rfl, he, fun dd z => by cases z; exact ⟨_, hd⟩⟩) a ha⟩
theorem ee_2 {gV : List V → List V → List V} (ha : EvA ta σ H [v, u]) (hg : ∀ a : V, gV [a, v, u] [] = [a, v, u]) : EvE (tMkV C 2 0 (spI2 C f g) gV ta tNil) σ H C := fun H1 e Q q =>
  ha H1 e _ fun H2 e2 => ⟨rfl, rfl, by decide, by
    intro a ha
    rw [hg]
    exact rd_e2 (Q := Q) (fun a d H3 ha he hd s => q (.ref a) H3 (e2.trans s) ⟨a, some d, rfl, he, fun dd z => by cases z; exact ⟨_, hd⟩⟩) a ha⟩
/-- made = made + [ .. ] -/
theorem q_more (hi : σ[i]? = some (some (.ref l))) (hl : H l = some (.lst xs)) (hE : ErrsAt H xs Ds) (ha : EvEs ta σ H Es) (hz : xs.length + Es.length ≤ 100000)
    (k : ∀ l' H' ys, Ex H H' → H' l' = some (.lst ys) → ys.length = xs.length + Es.length → ErrsAt H' ys (Ds ++ Es) → tz En (σ.set i (some (.ref l'))) H') : tSeq (tAsg (tOp rCat (tVar i) (tLst ta)) (gName i)) tz En σ H := by
  refine ⟨_, hi, ha H (Ex.refl H) _ fun ys H2 e2 hY => ?_⟩
  have z := Paired.length hY
  refine ⟨sz_of (by omega), fun p hp => ?_⟩
  have e3 := e2.trans (Ex.new (o := .lst ys) hp)
  refine ⟨l, p, xs, ys, rfl, rfl, e3 _ _ hl, upd_same, sz_of (by omega), fun r hr => ?_⟩
  have e4 := e3.trans (Ex.new (o := .lst (xs ++ ys)) hr)
  exact k r _ (xs ++ ys) e4 upd_same (by rw [List.length_append, z]) (errs_app (hE.ext e4) (hY.ext ((Ex.new (o := .lst ys) hp).trans (Ex.new (o := .lst (xs ++ ys)) hr))))
end
theorem eqv_ints : ∀ (xs ys : List Int), PyData.eqvAll (xs.map PyData.int) (ys.map PyData.int) = decide (xs = ys)
  | [], [] => rfl
  | [], _ :: _ => rfl
  | _ :: _, [] => rfl
  | x :: xs, y :: ys => by
    show (PyData.eqv (.int x) (.int y) && PyData.eqvAll (xs.map PyData.int) (ys.map PyData.int)) = decide (x :: xs = y :: ys)
    rw [eqv_ints xs ys]
    show ((x == y) && decide (xs = ys)) = decide (x :: xs = y :: ys)
    by_cases h : x = y <;> by_cases h2 : xs = ys <;> simp [h, h2]
theorem rv_ints {K : PySem.W.Frag} {H : Hp} {p q : Addr} {xs ys : List Int} (hp : SqL K H p (xs.map V.int)) (hq : SqL K H q (ys.map V.int)) : RV (rEqD K) (.ref p) (.ref q) H (.bl (decide (xs = ys))) := fun H1 e Q k =>
  ⟨_, _, .lst (ex_l e hp) (Pen.dp_ints xs), .lst (ex_l e hq) (Pen.dp_ints ys), Pen.shaped_ints xs, Pen.shaped_ints ys, by
    show Q (.bl (PyData.eqvAll (xs.map PyData.int) (ys.map PyData.int))) H1
    rw [eqv_ints]
    exact k H1 (Ex.refl H1)⟩
/-- all(xs) of a new list of truths -/
theorem ev_all {K : PySem.W.Frag} {σ : L2.St} {H : Hp} {te : TE} {bs : List Bool} (h : EvL te σ H (bs.map V.bl)) : Ev (tCB (rAll K) (tCons te tNil)) σ H (.bl (bs.all id)) := fun H1 e Q q =>
  h H1 e _ fun p H2 _ e2 hp => ⟨p, bs, rfl, SqL.of hp, q H2 e2⟩
theorem all_true {α : Type} : ∀ (xs : List α), (xs.map fun _ => true).all id = true
  | [] => rfl
  | _ :: xs => by
    show (true && (xs.map fun _ => true).all id) = true
    rw [all_true xs]
    rfl
/-- len(x) -/
def rLenX (K : PySem.W.Frag) : List V → Hp → VK → Prop := fun xs H Q => ∃ x n, xs = [x] ∧ LenV K x H n ∧ Q (.int n) H
theorem ev_lenX {K : PySem.W.Frag} {σ : L2.St} {H : Hp} {ta : TE} {a : Addr} {xs : List V} (ha : Ev ta σ H (.ref a)) (h : SqL K H a xs) : Ev (tCB (rLenX K) (tCons ta tNil)) σ H (.int (xs.length : Int)) := fun H1 e Q q =>
  ha H1 e _ fun H2 e2 => ⟨_, xs.length, rfl, .inl ⟨xs, ex_l (e.trans e2) h, rfl⟩, q H2 e2⟩
theorem el_eq {te : TE} {σ : L2.St} {H : Hp} {xs ys : List V} (h : EvL te σ H xs) (e : xs = ys) : EvL te σ H ys := by
  rw [← e]
  exact h
end EV2

set_option Elab.async false
set_option linter.all false
set_option maxRecDepth 100000
set_option maxHeartbeats 4000000
/-! Raising own errors: without an __init__ and arguments, with keywords. -/
namespace EV2
open PySem PySem.Spec PyProof.Rows L2 Evl
/-- C(), made to be raised -/
theorem pmk_0 {X : Cx} {C : Addr} {bmB : List Value} {B newId initId : String} {x : Str} {p pos : Pos} (F : ExcBaseFacts B newId initId bmB) (q : PySem.W.excIn X.K C bmB newId = true) (gC : X.mg x = some (.ref C)) (kC : PySem.W.keepIn X.K (.ref C) = true) (r : Raises X (.ref C)) (hg : Gl X x)
    (hdb : (x == ("__debug__" : Str)) = false := by decide) : PMk X (.Call (.Name x p) [] [] pos) (fun _ H Q => Q (.ref C) none H) := by
  intro pins s σ H Q I h
  refine wpAny_Call_Name_kw (ld_glob I hg gC ?_ hdb)
  refine PySem.W.callWith_K0 I.kIn kC ?_
  show wpAny _ _ (call (.ref C) []) _ _ _
  obtain ⟨bm, N, nm, qn, bs, hdct, sn, sub, ab, col, dd, k0, k1, k2, k3, k5, mN, hC, hN, hni, T⟩ := exc_obj I.kIn q
  refine wpAny_call_exc_subT F T hC hN hni (fun h' e hm => ?_) (by show 0 ≤ sizeLine; rw [sizeLine_eq]; omega)
  exact mk_of I hm r h (I.hok.gone hm.new)
/-- C(e, .., k = v, ..), made to be raised -/
def tMkR (C : Addr) (n m : Nat) (sp : Sp) (gV : List V → List V → List V) (t tk : TA) : L2.St → Hp → XK → Prop := fun σ H Q => t σ H fun vs H1 => tk σ H1 fun zs H2 => vs.length = n ∧ zs.length = m ∧ n ≤ 1000 ∧
  ∀ a, H2 a = none → sp (gV (.ref a :: vs) zs) (upd H2 a (exo a C none))
    (fun v H3 => v = .non ∧ ∃ (d : Addr) (fs : List (Str × V)), H3 a = some (exo a C (some d)) ∧ H3 d = some (exd d fs) ∧ H2 d = none ∧ Q (.ref C) (some d) (upd (del H3 a) d (.xd fs))) fun _ _ _ => False
section
variable {X : Cx} {CX : CXT} {k n : Nat} {fI C : Addr} {fd : FuncData} {ps ks : List Str} {sp : Sp} {x : Str} {p pos : Pos} {e : Expr} {es : List Expr} {kws : List Keyword} {t tk : TA} {g : List Value → List Value → List Value} {gV : List V → List V → List V}
theorem run_mkR {pins : List (Addr × Obj)} {σ : L2.St} {H : Hp} {s : Shared} {Q : XK} {us ws : List Value} {vs zs : List V} (T : ErrC X.K C fI) (F : FnOk X.prog X.w X.K X.mg X.base CX k fI fd ps sp) (hr : Room (k + 1) X.A) (hb : KBn X.K fd ps (n + 1) ks g gV)
    (hx : Passes CX X fun _ _ _ => False) (I : Inv X pins σ H s) (r : Vals vs us) (rz : Vals zs ws) (l1 : vs.length = n) (l2 : zs.length = ks.length) (hn : n ≤ 1000)
    (h : ∀ a, H a = none → sp (gV (.ref a :: vs) zs) (upd H a (exo a C none))
      (fun v H3 => v = .non ∧ ∃ (d : Addr) (fs : List (Str × V)), H3 a = some (exo a C (some d)) ∧ H3 d = some (exd d fs) ∧ H d = none ∧ Q (.ref C) (some d) (upd (del H3 a) d (.xd fs))) fun _ _ _ => False) :
    wpAny (model X.prog X.w) X.A (call (.ref C) us (ks.zip ws)) (MkP X pins σ Q) X.xe s := by
  obtain ⟨nm, q, N, bs, bm, sn, sub, ab, col, dd, k0, k1, k2, k3, k5, hC, hbm⟩ := T.ox.cls
  obtain ⟨hp, gg, dr, tt, os⟩ := s
  have hsz : hp.objs.size ≤ hp.objs.size + 1 := Nat.le_succ _
  have nn : H (hp.objs.size + 1) = none := I.hok.fresh hsz
  have hq := h (hp.objs.size + 1) nn
  have kk : ∀ b o, hp.get? b = some o → ((hp.push (PySem.W.kdv_tup us)).push (PySem.HandSPX.excO C hp.objs.size)).get? b = some o := fun b o e => Heap.get?_push_of_some _ (Heap.get?_push_of_some _ e)
  have gt : ((hp.push (PySem.W.kdv_tup us)).push (PySem.HandSPX.excO C hp.objs.size)).get? (hp.objs.size + 1) = some (PySem.HandSPX.excO C hp.objs.size) := by heap_get
  have J : Inv X pins σ (upd H (hp.objs.size + 1) (exo (hp.objs.size + 1) C none)) ⟨(hp.push (PySem.W.kdv_tup us)).push (PySem.HandSPX.excO C hp.objs.size), gg, dr, tt, os⟩ :=
    I.laid (t' := tt) (a := hp.objs.size + 1) (o := exo (hp.objs.size + 1) C none) (h' := (hp.push (PySem.W.kdv_tup us)).push (PySem.HandSPX.excO C hp.objs.size)) kk hsz (exo_ok gt)
  have r1 : Vals (V.ref (hp.objs.size + 1) :: vs) (Value.ref (hp.objs.size + 1) :: us) := .cons rfl r
  have r2 := hb.rel r1 rz
  have n1 : (Value.ref (hp.objs.size + 1) :: us).length = n + 1 := by rw [List.length_cons, ← r.length, l1]
  have lu : us.length ≤ sizeLine := by
    rw [← r.length, l1, sizeLine_eq]
    omega
  refine wpAny_call (PySem.EV.call_kw PySem.F.excBase_ValueError (fun Y => PySem.HandSPX.refsVE_contains Y bm hbm) (I.kIn _ _ hC) (PySem.W.looks_findIn I.kIn T.ini) (fun me => PySem.W.bind_fn I.kIn me T.ty) lu
    (codeAny_mono (FnOk.run F _ X.stack _ _ ⟨Value.ref (hp.objs.size + 1) :: us, ks.zip ws⟩ (g (Value.ref (hp.objs.size + 1) :: us) ws) _ _ (fun _ _ _ => False) (hr.make C us (ks.zip ws)) (J.env0.make C us (ks.zip ws)) (hb.to _ (Value.ref (hp.objs.size + 1) :: us) ws J.kIn n1 (rz.length.symm.trans l2)) r2 hq) fun r s' hq' => ?_))
  cases r with
  | error e => exact hx pins σ _ _ e s' J hq'
  | ok fl =>
    cases fl with
    | ret u =>
      obtain ⟨v, H2, os2, bare2, un2, hok2, rv, ev, d, fs, ea, ed, hd1, q2⟩ := hq'
      subst ev
      obtain ⟨h2, g2, d2, t2, os'⟩ := s'
      exact ⟨rv, mk_end (raises_own T.ox.exC T.ox.tyC) I hsz kk un2 hok2 os2 bare2 ea ed hd1 q2⟩
    | next => exact False.elim hq'
    | brk => exact False.elim hq'
    | cont => exact False.elim hq'
theorem pmk_R (T : ErrC X.K C fI) (F : FnOk X.prog X.w X.K X.mg X.base CX k fI fd ps sp) (hr : Room (k + 1) X.A) (hg : Gl X x) (hm : X.mg x = some (.ref C)) (hb : KBn X.K fd ps (n + 1) [] g gV) (hx : Passes CX X fun _ _ _ => False) (ha : PA X (e :: es) t)
    (hdb : (x == ("__debug__" : Str)) = false := by decide) (he : starEach (e :: es) X.env = (false, eval e X.env) :: starEach es X.env := by rfl) (hpl : (backTo pos (starEach es X.env)).any (·.1) = false := by rfl) :
    PMk X (.Call (.Name x p) (e :: es) [] pos) (tMkR C n 0 sp gV t tNil) := by
  intro pins s σ H Q I h
  refine wpAny_Call_Name_kw (ld_glob I hg hm ?_ hdb)
  refine PySem.W.callWith_K (h₀ := X.base) I.ok.mod.kin T.ox.kC (thn (ha.run pos pins s σ H _ I h) fun us s1 ⟨vs, H1, I1, r, l1, _, hn, q⟩ => ⟨I1.kIn, ?_⟩) he hpl
  exact run_mkR (ks := []) (ws := []) (zs := []) T F hr hb hx I1 r .nil l1 rfl hn q
theorem pmk_RK0 (T : ErrC X.K C fI) (F : FnOk X.prog X.w X.K X.mg X.base CX k fI fd ps sp) (hr : Room (k + 1) X.A) (hg : Gl X x) (hm : X.mg x = some (.ref C)) (hb : KBn X.K fd ps 1 ks g gV) (hx : Passes CX X fun _ _ _ => False) (hkw : PK X kws tk)
    (hall : (backToKw pos (keywordEach kws X.env)).all (·.1.isSome) = true := by rfl) (hks : (backToKw pos (keywordEach kws X.env)).filterMap (·.1) = ks := by rfl) (hdb : (x == ("__debug__" : Str)) = false := by decide)
    (hpl : ((backTo pos (starEach [] X.env)).any (·.1) || (backToKw pos (keywordEach kws X.env)).any (·.1.isNone)) = false := by rfl) :
    PMk X (.Call (.Name x p) [] kws pos) (tMkR C 0 ks.length sp gV tNil tk) := by
  intro pins s σ H Q I h
  refine wpAny_Call_Name_kw (ld_glob I hg hm ?_ hdb)
  refine PySem.W.callWith_KW0 (h₀ := X.base) I.ok.mod.kin T.ox.kC hall ?_ hpl
  refine thn (hkw.run pos pins s σ H _ I h) fun ws s2 ⟨zs, H2, I2, rz, l1, l2, hn, q2⟩ => ⟨I2.kIn, ?_⟩
  rw [hks]
  exact run_mkR (us := []) (vs := []) T F hr hb hx I2 .nil rz rfl l2 hn q2
end
/-- what stands behind raise C(..) of an error with one field, with two: the error's own dict at d -/
theorem rr_e1 {H : Hp} {Q : XK} {E : XK} {C : Addr} {f : Str} {v : V} (k : ∀ d H', H d = none → Same H H' → H' d = some (.xd [(f, v)]) → Q (.ref C) (some d) H') :
    ∀ a, H a = none → spI1 C f [.ref a, v] (upd H a (exo a C none)) (fun z H3 => z = .non ∧ ∃ (d : Addr) (fs : List (Str × V)), H3 a = some (exo a C (some d)) ∧ H3 d = some (exd d fs) ∧ H d = none ∧ Q (.ref C) (some d) (upd (del H3 a) d (.xd fs))) E := fun a ha =>
  ⟨a, v, rfl, upd_same, fun d hd ne => ⟨rfl, d, _, upd_same, by rw [upd_ne ne, upd_same], by rw [upd_ne ne] at hd; exact hd, by
    have hd' : H d = none := by rw [upd_ne ne] at hd; exact hd
    refine k d _ hd' (fun b o e => ?_) upd_same
    have n1 : b ≠ a := ne_of_none e ha
    have n2 : b ≠ d := ne_of_none e hd'
    rw [upd_ne n2, del_ne n1, upd_ne n1, upd_ne n2, upd_ne n1]
    exact e⟩⟩
theorem rr_e2 {H : Hp} {Q : XK} {E : XK} {C : Addr} {f g : Str} {v u : V} (k : ∀ d H', H d = none → Same H H' → H' d = some (.xd [(g, u), (f, v)]) → Q (.ref C) (some d) H') :
    ∀ a, H a = none → spI2 C f g [.ref a, v, u] (upd H a (exo a C none)) (fun z H3 => z = .non ∧ ∃ (d : Addr) (fs : List (Str × V)), H3 a = some (exo a C (some d)) ∧ H3 d = some (exd d fs) ∧ H d = none ∧ Q (.ref C) (some d) (upd (del H3 a) d (.xd fs))) E := fun a ha =>
  ⟨a, v, u, rfl, upd_same, fun d hd ne => ⟨rfl, d, _, by rw [upd_ne (Ne.symm ne), upd_same], upd_same, by rw [upd_ne ne] at hd; exact hd, by
    have hd' : H d = none := by rw [upd_ne ne] at hd; exact hd
    refine k d _ hd' (fun b o e => ?_) upd_same
    have n1 : b ≠ a := ne_of_none e ha
    have n2 : b ≠ d := ne_of_none e hd'
    rw [upd_ne n2, del_ne n1, upd_ne n2, upd_ne n1, upd_ne n2, upd_ne n1]
    exact e⟩⟩
/-- except S, C right below S -/
theorem exm_below {K : PySem.W.Frag} {S C : Addr} (h : LineOf K S C) (bS : PySem.W.subIn K (.ref S) (.type "BaseException") = some true) (dS : PySem.W.hasDictIn K S = true) (tS : PySem.W.typeIn K (.ref S) = some (.type "type")) : PySem.W.exmOne K (.ref C) (.ref S) = some true :=
  PySem.W.exm_ref bS dS tS (by
    show PySem.W.mroIn K C (.ref S) = some true
    rw [h.mro]
    congr 1
    simp only [BM, List.contains_cons]
    rw [show (Value.ref S == Value.ref S) = true from by rw [ref_beq]; simp]
    simp)
end EV2

set_option Elab.async false
set_option linter.all false
set_option maxRecDepth 100000
set_option maxHeartbeats 4000000
/-! The drawn values of a law: plain ones, small tuples and lists, an empty dict; compared with themselves. -/
namespace EV2
open PySem PySem.Spec PyProof.Rows L2 Evl
/-- != of data or of dicts that hold the same -/
def rNeAny (K : PySem.W.Frag) : R2 := fun x y H Q => rNeD K x y H Q ∨ rNeDA x y H Q
theorem op_neAny {X : Cx} (hu : X.A.units + 64 < cLine) : OpR X (compareOp .NotEq) (rNeAny X.K) := by
  intro pins s σ H x y v u Q I rx ry h
  rcases h with h | h
  · exact op_neD hu pins s σ H x y v u Q I rx ry h
  · exact op_ne_dictA (by omega) pins s σ H x y v u Q I rx ry h
inductive Gd (H : Hp) : V → Prop
  | non : Gd H .non
  | bl (b : Bool) : Gd H (.bl b)
  | int (i : Int) : Gd H (.int i)
  | str (s : Str) : SeqAt.shaped (.str s) = true → Gd H (.str s)
  | two {a : Addr} (i j : Int) : H a = some (.tup [.int i, .int j]) → Gd H (.ref a)
  | one {a : Addr} (s : Str) : SeqAt.shaped (.list [.str s]) = true → H a = some (.lst [.str s]) → Gd H (.ref a)
  | emp {a : Addr} : H a = some (.dK []) → Gd H (.ref a)
  | deep {a b : Addr} (i j k : Int) : H a = some (.tup [.ref b, .int k]) → H b = some (.tup [.int i, .int j]) → Gd H (.ref a)
theorem Gd.ext {H H' : Hp} {v : V} (e : Ex H H') (g : Gd H v) : Gd H' v := by
  cases g with
  | non => exact .non
  | bl b => exact .bl b
  | int i => exact .int i
  | str s hs => exact .str s hs
  | two i j h => exact .two i j (e _ _ h)
  | one s hs h => exact .one s hs (e _ _ h)
  | emp h => exact .emp (e _ _ h)
  | deep i j k h h2 => exact .deep i j k (e _ _ h) (e _ _ h2)
theorem Gd.sib {p : Addr} {q : Key × V} {kv : List (Key × V)} {H H' : Hp} {v : V} (hp : H p = some (.dK (q :: kv))) (e : Pen.Sib p H H') (g : Gd H v) : Gd H' v := by
  cases g with
  | non => exact .non
  | bl b => exact .bl b
  | int i => exact .int i
  | str s hs => exact .str s hs
  | two i j h => exact .two i j (e _ _ (ne_of h hp (by intro z; cases z)) h)
  | one s hs h => exact .one s hs (e _ _ (ne_of h hp (by intro z; cases z)) h)
  | emp h => exact .emp (e _ _ (ne_of h hp (by intro z; cases z)) h)
  | deep i j k h h2 => exact .deep i j k (e _ _ (ne_of h hp (by intro z; cases z)) h) (e _ _ (ne_of h2 hp (by intro z; cases z)) h2)
section
variable {K : PySem.W.Frag} {H : Hp} {v : V}
theorem rv_data {d : PyData} (h : ∀ H1, Ex H H1 → Dp K H1 v d) (hs : SeqAt.shaped d = true) (he : PyData.eqv d d = true) : RV (rNeAny K) v v H (.bl false) := fun H1 e Q q =>
  .inl ⟨d, d, h H1 e, h H1 e, hs, hs, by
    rw [he]
    exact q H1 (Ex.refl H1)⟩
theorem rv_self (g : Gd H v) : RV (rNeAny K) v v H (.bl false) := by
  cases g with
  | non => exact rv_data (fun _ _ => .non) rfl rfl
  | bl b => exact rv_data (fun _ _ => .bl b) rfl (by cases b <;> rfl)
  | int i => exact rv_data (fun _ _ => .int i) rfl (by show (i == i) = true; simp)
  | str s hs => exact rv_data (fun _ _ => .str s) hs (by show (s == s) = true; simp)
  | two i j h => exact rv_data (fun H1 e => .tup (st_of (e _ _ h)) (.cons (.int i) (.cons (.int j) .nil))) rfl (by show ((i == i) && ((j == j) && true)) = true; simp)
  | one s hs h => exact rv_data (fun H1 e => .lst (sq_of (e _ _ h)) (.cons (.str s) .nil)) hs (by show ((s == s) && true) = true; simp)
  | emp h => exact fun H1 e Q q => .inr ⟨_, _, [], [], rfl, rfl, e _ _ h, e _ _ h, rfl, (fun p hp => by cases hp), q H1 (Ex.refl H1)⟩
  | deep i j k h h2 => exact rv_data (fun H1 e => .tup (st_of (e _ _ h)) (.cons (.tup (st_of (e _ _ h2)) (.cons (.int i) (.cons (.int j) .nil))) (.cons (.int k) .nil))) rfl (by show (((i == i) && ((j == j) && true)) && ((k == k) && true)) = true; simp)
theorem gd_ty (g : Gd H v) : ∃ n b, kitB n "bool" = some b ∧ ∀ H1, Ex H H1 → TyX K H1 v (.type n) := by
  cases g with
  | non => exact ⟨"NoneType", false, by decide +kernel, fun _ _ => .base .non⟩
  | bl b => exact ⟨"bool", true, by decide +kernel, fun _ _ => .base (.bl b)⟩
  | int i => exact ⟨"int", false, by decide +kernel, fun _ _ => .base (.int i)⟩
  | str s hs => exact ⟨"str", false, by decide +kernel, fun _ _ => .base (.str s)⟩
  | two i j h => exact ⟨"tuple", false, by decide +kernel, fun _ e => .base (.tup (e _ _ h))⟩
  | one s hs h => exact ⟨"list", false, by decide +kernel, fun _ e => .base (.lst (e _ _ h))⟩
  | emp h => exact ⟨"dict", false, by decide +kernel, fun _ e => .base (.dK (e _ _ h))⟩
  | deep i j k h h2 => exact ⟨"tuple", false, by decide +kernel, fun _ e => .base (.tup (e _ _ h))⟩
end
section
variable {K : PySem.W.Frag} {σ : L2.St} {H : Hp} {ta tb tc te : TE} {v : V} {tr ts : TA} {l : Addr} {xs : List V}
/-- isinstance(v, bool) twice, told apart -/
theorem et_isi (g : Gd H v) (ha : Ev ta σ H v) (hb : Ev tb σ H v) : EvT (tTest (tOp rNe (tCB (rIsi K) (tCons ta (tCons (tC (.ty "bool")) tNil))) (tCB (rIsi K) (tCons tb (tCons (tC (.ty "bool")) tNil))))) σ H false := by
  obtain ⟨n, b, hk, ty⟩ := gd_ty (K := K) g
  have one : ∀ {t : TE}, Ev t σ H v → Ev (tCB (rIsi K) (tCons t (tCons (tC (.ty "bool")) tNil))) σ H (.bl b) := fun h H1 e Q q =>
    h H1 e _ fun H2 e2 => ⟨v, .ty "bool", .type n, .type "bool", b, rfl, .ty "bool", ty H2 (e.trans e2), kit_ty hk, q H2 e2⟩
  have z := ev_op (one ha) (one hb) (rv_ne (x := .bl b) (y := .bl b) rfl)
  refine et_is (et_test z) ?_
  simp
/-- what is made is one of the drawn values -/
def EvG (te : TE) (σ : L2.St) (H : Hp) : Prop := ∀ H1, Ex H H1 → ∀ Q : VK, (∀ v H2, Ex H1 H2 → Gd H2 v → Q v H2) → te σ H1 Q
def EvGs (ta : TA) (σ : L2.St) (H : Hp) (n : Nat) : Prop := ∀ H1, Ex H H1 → ∀ Q : List V → Hp → Prop, (∀ vs H2, Ex H1 H2 → vs.length = n → (∀ v ∈ vs, Gd H2 v) → Q vs H2) → ta σ H1 Q
theorem eg_v (h : Ev te σ H v) (g : Gd H v) : EvG te σ H := fun H1 e Q q => h H1 e _ fun H2 e2 => q v H2 e2 (g.ext (e.trans e2))
theorem eg_c (g : ∀ H, Gd H v) : EvG (tC v) σ H := fun H1 e Q q => q v H1 (Ex.refl H1) (g H1)
theorem eg_two {i j : Int} (h : EvA tr σ H [.int i, .int j]) : EvG (tTup tr) σ H := fun H1 e Q q => h H1 e _ fun H2 e2 => ⟨by show 2 ≤ sizeLine; decide, fun p hp => q _ _ (e2.trans (Ex.new hp)) (.two i j upd_same)⟩
theorem eg_one {s : Str} (hs : SeqAt.shaped (.list [.str s]) = true) (h : EvA tr σ H [.str s]) : EvG (tLst tr) σ H := fun H1 e Q q => h H1 e _ fun H2 e2 => ⟨by show 1 ≤ sizeLine; decide, fun p hp => q _ _ (e2.trans (Ex.new hp)) (.one s hs upd_same)⟩
theorem eg_emp : EvG tDNewK σ H := fun H1 e Q q => fun p hp => q _ _ (Ex.new hp) (.emp upd_same)
theorem eg_deep {i j k : Int} (h : EvU ta σ H [.int i, .int j]) (hb : Ev tb σ H (.int k)) : EvG (tTup (tCons ta (tCons tb tNil))) σ H := fun H1 e Q q =>
  h H1 e _ fun p H2 _ e2 hp => hb H2 (e.trans e2) _ fun H3 e3 => ⟨by show 2 ≤ sizeLine; decide, fun r hr => q _ _ ((e2.trans e3).trans (Ex.new hr)) (.deep i j k upd_same (Ex.new hr _ _ (e3 _ _ hp)))⟩
theorem egs_nil : EvGs tNil σ H 0 := fun H1 _ Q q => q [] H1 (Ex.refl H1) rfl fun v hv => by cases hv
theorem egs_cons {n : Nat} (h : EvG te σ H) (hr : EvGs tr σ H n) : EvGs (tCons te tr) σ H (n + 1) := fun H1 e Q q =>
  h H1 e _ fun v H2 e2 g => hr H2 (e.trans e2) _ fun vs H3 e3 hl hg => q (v :: vs) H3 (e2.trans e3) (by rw [List.length_cons, hl]) fun u hu => by
    rcases List.mem_cons.mp hu with z | z
    · rw [z]
      exact g.ext e3
    · exact hg u z
theorem rd_gs {n : Nat} {Q : VK} (h : EvGs tr σ H n) (hz : n ≤ 100000) (q : ∀ l vs H2, H l = none → Ex H H2 → H2 l = some (.lst vs) → vs.length = n → (∀ v ∈ vs, Gd H2 v) → Q (.ref l) H2) : tLst tr σ H Q :=
  h H (Ex.refl H) _ fun vs H2 e2 hl hg => ⟨sz_of (by omega), fun p hp => q p vs _ (fresh_back e2 hp) (e2.trans (Ex.new hp)) upd_same hl fun v hv => (hg v hv).ext (Ex.new hp)⟩
theorem q_gs {n i : Nat} {tz : TS} {D : Ends} (h : EvGs tr σ H n) (hz : n ≤ 100000) (k : ∀ l vs H2, H l = none → Ex H H2 → H2 l = some (.lst vs) → vs.length = n → (∀ v ∈ vs, Gd H2 v) → tz D (σ.set i (some (.ref l))) H2) : tSeq (tAsg (tLst tr) (gName i)) tz D σ H :=
  rd_gs (Q := fun v H2 => tz D (σ.set i (some v)) H2) h hz k
theorem q_asgK {i : Nat} {tz : TS} {D : Ends} (h : te σ H fun v H1 => tz D (σ.set i (some v)) H1) : tSeq (tAsg te (gName i)) tz D σ H := h
def rMin2 : List V → Hp → VK → Prop := fun xs H Q => ∃ i j, xs = [.int i, .int j] ∧ Q (.int (if j < i then j else i)) H
theorem ev_min2 {i j : Int} (ha : Ev ta σ H (.int i)) (hb : Ev tb σ H (.int j)) : Ev (tCB rMin2 (tCons ta (tCons tb tNil))) σ H (.int (if j < i then j else i)) := fun H1 e Q q =>
  ha H1 e _ fun H2 e2 => hb H2 (e.trans e2) _ fun H3 e3 => ⟨i, j, rfl, q H3 (e2.trans e3)⟩
end
end EV2

set_option Elab.async false
set_option linter.all false
set_option maxRecDepth 100000
set_option maxHeartbeats 4000000
namespace K00
open PySem PySem.Spec PyProof.Rows L2 Pen
def topS (i : Nat) : Stmt := PySem.Challenge.pw_allinputs_k00_errors_made_by_hand.main.body.getD i (.Pass ⟨0, 0, 0, 0⟩)
abbrev s_l_pen : Stmt := topS 22
abbrev N_l_pen : List Str := ["_law_script"]
abbrev P_l_pen : List Str := ["_law_script"]
theorem sc_l_pen : FnScope N_l_pen P_l_pen (defScope s_l_pen) := ⟨rfl, rfl, rfl, by decide +kernel, rfl, by decide +kernel, by decide +kernel⟩
abbrev s_l_draw : Stmt := topS 23
abbrev N_l_draw : List Str := ["_law_pen_here", "_law_many", "_law_digit", "_law_stop", "_law_cell", "_law_blend"]
abbrev P_l_draw : List Str := ["_law_pen_here", "_law_many"]
theorem sc_l_draw : FnScope N_l_draw P_l_draw (defScope s_l_draw) := ⟨rfl, rfl, rfl, by decide +kernel, rfl, by decide +kernel, by decide +kernel⟩
abbrev s_l_pick : Stmt := topS 24
abbrev N_l_pick : List Str := ["_law_pen_here", "_law_items"]
abbrev P_l_pick : List Str := ["_law_pen_here", "_law_items"]
theorem sc_l_pick : FnScope N_l_pick P_l_pick (defScope s_l_pick) := ⟨rfl, rfl, rfl, by decide +kernel, rfl, by decide +kernel, by decide +kernel⟩

/-- what the top has written that the pens use -/
structure TxtA (mg : Str → Option Value) : Prop where
  n_list : mg "list" = none
  n_int : mg "int" = none
  n_len : mg "len" = none
abbrev PenAt := Pen.At "cells" "stop" "rest"
def spPen (K : PySem.W.Frag) : Sp := fun vs H Q _ => ∃ (a : Addr) (ns : List Int), vs = [.ref a] ∧ SqL K H a (ns.map V.int) ∧ ns.length ≤ 63 ∧
  ∀ (p c : Addr) (H' : Hp), H p = none → Same H H' → PenAt H' p c ns 0 0 → Q (.ref p) H'
def spDraw : Sp := fun vs H Q _ => ∃ (p c : Addr) (cs : List Int) (i r m : Int), vs = [.ref p, .int m] ∧ PenAt H p c cs i r ∧ i < 2 ^ 39 ∧ 0 < m ∧ m < 2 ^ 29 ∧
  ∀ (z i' r' : Int) (H' : Hp), 0 ≤ z → z < m → i ≤ i' → i' ≤ i + 1 → Sib p H H' → PenAt H' p c cs i' r' → Q (.int z) H'
/-- one of the items; xs the list's values, l not the pen -/
def spPick (K : PySem.W.Frag) : Sp := fun vs H Q _ => ∃ (p c : Addr) (cs : List Int) (i r : Int) (l : Addr) (xs : List V), vs = [.ref p, .ref l] ∧ PenAt H p c cs i r ∧ i < 2 ^ 39 ∧ SqL K H l xs ∧ 0 < xs.length ∧ xs.length < 2 ^ 29 ∧ l ≠ p ∧
  ∀ (x : V) (i' r' : Int) (H' : Hp), x ∈ xs → i ≤ i' → i' ≤ i + 1 → Sib p H H' → PenAt H' p c cs i' r' → Q x H'
section
variable {P : Program} {w : World} {K : PySem.W.Frag} {mg : Str → Option Value} {base : Heap}
theorem ok_l_pen {f : Addr} {fd : FuncData} (F : Fun K "_law_pen" "_law_pen" s_l_pen f fd) (T : TxtA mg) : FnOk P w K mg base CX0 1 f fd P_l_pen (spPen K) := by
  refine F.ok sc_l_pen (fun vs H Q E h => ?_) (fun cdv A outer s H vs Q E hr h => ?_)
  · obtain ⟨a, ns, rfl, _⟩ := h
    rfl
  · obtain ⟨a, ns, rfl, hS, hl, k⟩ := h
    refine ⟨_, (pss_one (ps_ret (pe_disp (pps_cons pe_str (pe_callTy call_list_of (by rfl) T.n_list (by decide +kernel) (pa_cons (pe_slice sl_list (pv 0) po_none (po_some pe_int)) pa_nil)) (pps_cons pe_str pe_int (pps_cons pe_str pe_int pps_nil))) (by rfl) (by rfl) (fun z => by cases z) (by decide)))), ?_⟩
    intro p hp
    have s1 : Same H (upd H p (.dK [])) := fun b o e => by rw [upd_ne (ne_of_none e hp)]; exact e
    refine ⟨_, rfl, _, rfl, a, _, rfl, s1.seq hS, fun q hq => ?_⟩
    have s2 : Same (upd H p (.dK [])) (upd (upd H p (.dK [])) q (.lst (cutV (ns.map V.int) none (some 63)))) := fun b o e => by rw [upd_ne (ne_of_none e hq)]; exact e
    refine ⟨q, _, rfl, .inl (SqL.of upd_same), fun l hl' => ?_⟩
    have s3 : Same (upd (upd H p (.dK [])) q (.lst (cutV (ns.map V.int) none (some 63)))) (upd (upd (upd H p (.dK [])) q (.lst (cutV (ns.map V.int) none (some 63)))) l (.lst (cutV (ns.map V.int) none (some 63)))) := fun b o e => by rw [upd_ne (ne_of_none e hl')]; exact e
    have hp3 := s3 p _ (s2 p _ upd_same)
    refine ⟨hp3, kvs "cells" "stop" "rest" l 0 0, rfl, (by show 3 ≤ 15; decide), ?_⟩
    have em : mergeK ([] : List (Key × V)) (kvs "cells" "stop" "rest" l 0 0) = kvs "cells" "stop" "rest" l 0 0 := by rfl
    rw [em]
    have np : l ≠ p := ne_of upd_same hp3 (by intro z; cases z)
    refine k p l _ hp (fun b o e => ?_) ⟨upd_same, ?_, by omega, by decide, by decide⟩
    · rw [upd_ne (ne_of_none e hp)]
      exact s3 b o (s2 b o (s1 b o e))
    · rw [upd_ne np, upd_same, show cutV (ns.map V.int) none (some 63) = ns.map V.int from cut_all (n := 63) (by rw [List.length_map]; exact hl)]
theorem ok_l_draw {f : Addr} {fd : FuncData} (F : Fun K "_law_draw" "_law_draw" s_l_draw f fd) (T : TxtA mg) : FnOk P w K mg base CX0 1 f fd P_l_draw spDraw := by
  refine F.ok sc_l_draw (fun vs H Q E h => ?_) (fun cdv A outer s H vs Q E hr h => ?_)
  · obtain ⟨p, c, cs, i, r, m, rfl, _⟩ := h
    rfl
  · obtain ⟨p, c, cs, i, r, m, rfl, D, hi, hm0, hm1, k⟩ := h
    have hu := hu_of hr
    have mok : m ≠ 0 ∧ m.natAbs < 1073741824 := ⟨by omega, by omega⟩
    refine ⟨_, (pss_cons (ps_if (pt_cmpR op_ge (pe_dget hu (pv 0) pe_str (fun _ _ => rfl)) (pv 1) (nomark _)) (pss_cons (ps_set (i := 2) sc_l_draw.nd rfl (Or.inl rfl) (pe_op op_modN (pe_callTy call_int1 (by rfl) T.n_int (by decide +kernel) (pa_cons (pe_dget hu (pv 0) pe_str (fun _ _ => rfl)) pa_nil)) (pv 1)))
      (pss_cons (ps_dput hu (pv 0) pe_str (pe_op op_fdivN (pe_dget hu (pv 0) pe_str (fun _ _ => rfl)) (pv 1)) rfl)
      (pss_one (ps_ret (pv 2))))) pss_nil)
      (pss_cons (ps_set (i := 3) sc_l_draw.nd rfl (Or.inl rfl) (pe_dget hu (pv 0) pe_str (fun _ _ => rfl)))
      (pss_cons (ps_dput hu (pv 0) pe_str (pe_op op_add (pv 3) pe_int) rfl)
      (pss_cons (ps_set (i := 4) sc_l_draw.nd rfl (Or.inl rfl) (pe_op op_add (pe_op op_mul pe_int (pv 3)) pe_int))
      (Evl.pss_cut (ps_if (pt_cmpR (op_neD hr.units) (pe_dget hu (pv 0) pe_str (fun _ _ => rfl)) (pe_lst pa_nil) (nomark _)) (pss_one (ps_set (i := 4) sc_l_draw.nd rfl (Or.inl rfl) (pe_ix ix_list (pe_dget hu (pv 0) pe_str (fun _ _ => rfl)) (pe_op op_modN (pe_callTy call_int1 (by rfl) T.n_int (by decide +kernel) (pa_cons (pv 3) pa_nil)) (pe_callB call_len (by rfl) T.n_len (by decide +kernel) (pa_cons (pe_dget hu (pv 0) pe_str (fun _ _ => rfl)) pa_nil))) (fun _ _ => rfl)))) pss_nil)
      (Evl.pss_cut (ps_if (PW.pt (pw_and (pt_cmpR op_lt (pv 3) (pe_callB call_len (by rfl) T.n_len (by decide +kernel) (pa_cons (pe_dget hu (pv 0) pe_str (fun _ _ => rfl)) pa_nil)) (nomark _)) (pw_and1 (pt_cmpR op_ge (pv 4) (pe_op op_pow pe_int pe_int) (nomark _))))) (pss_cons (ps_dput hu (pv 0) pe_str (pe_op op_fdivN (pe_op op_sub (pv 4) (pe_op op_pow pe_int pe_int)) (pv 1)) rfl)
      (pss_one (ps_ret (pe_op op_modN (pe_callTy call_int1 (by rfl) T.n_int (by decide +kernel) (pa_cons (pe_op op_sub (pv 4) (pe_op op_pow pe_int pe_int)) pa_nil)) (pv 1))))) pss_nil)
      (pss_cons (ps_set (i := 5) sc_l_draw.nd rfl (Or.inl rfl) (pe_op op_mul (pe_op op_modN (pe_callTy call_int1 (by rfl) T.n_int (by decide +kernel) (pa_cons (pv 4) pa_nil)) pe_int) pe_int))
      (pss_cons (ps_set (i := 5) sc_l_draw.nd rfl (Or.inl rfl) (pe_op op_modN (pe_callTy call_int1 (by rfl) T.n_int (by decide +kernel) (pa_cons (pe_op op_add (pe_op op_add (pe_op op_add (pv 5) (pe_op op_mul (pe_op op_mul pe_int (pv 3)) (pv 3))) (pe_op op_mul pe_int (pv 3))) pe_int) pa_nil)) pe_int))
      (pss_cons (ps_set (i := 5) sc_l_draw.nd rfl (Or.inl rfl) (pe_op op_modN (pe_callTy call_int1 (by rfl) T.n_int (by decide +kernel) (pa_cons (pe_op op_mul (pv 5) (pe_op op_add (pv 5) pe_int)) pa_nil)) pe_int))
      (pss_one (ps_ret (pe_op op_modN (pe_callTy call_int1 (by rfl) T.n_int (by decide +kernel) (pa_cons (pe_op op_fdivN (pe_op op_modN (pe_callTy call_int1 (by rfl) T.n_int (by decide +kernel) (pa_cons (pe_op op_add (pe_op op_mul (pv 5) (pv 5)) (pe_op op_mul pe_int (pv 5))) pa_nil)) pe_int) pe_int) pa_nil)) (pv 1))))))))))))), ?_⟩
    refine ⟨_, rfl, _, _, rfl, get3 D (by decide) (by decide), _, rfl, _, _, rfl, rfl, _, rfl, ?_⟩
    refine ite2 (fun _ => ?_) (fun _ => ?_)
    · refine ⟨_, rfl, _, _, rfl, get3 D (by decide) (by decide), .inl ⟨_, rfl, _, rfl, _, _, rfl, rfl, by omega, ?_⟩⟩
      refine ⟨_, rfl, _, _, rfl, get3 D (by decide) (by decide), _, rfl, _, _, rfl, rfl, mok, _, rfl, _, _, rfl, put3 D (by decide) (by decide) _, ?_⟩
      refine ⟨_, rfl, ?_⟩
      exact k _ _ _ _ (fmod_lo hm0) (fmod_hi hm0) (Int.le_refl _) (by omega) Sib.put (D.to upd_same Sib.put D.h0 D.h1)
    · refine ⟨_, rfl, _, _, rfl, get2 D (by decide), ?_⟩
      refine ⟨_, rfl, _, _, rfl, rfl, _, rfl, _, _, rfl, put2 D (by decide) (by decide) _, ?_⟩
      have D1 : PenAt (upd H p (.dK (kvs "cells" "stop" "rest" c (i + 1) r))) p c cs (i + 1) r := D.to upd_same Sib.put (by have := D.h0; omega) (by omega)
      refine ⟨_, rfl, _, _, rfl, rfl, .inl ⟨by decide, by decide⟩, _, _, rfl, rfl, ?_⟩
      -- if cells != []: cell = cells[..]
      refine ⟨fun σ' H' => ∃ z : Int, σ' = [some (.ref p), some (.int m), none, some (.int i), some (.int z), none] ∧ Same (upd H p (.dK (kvs "cells" "stop" "rest" c (i + 1) r))) H', ?_, ?_⟩
      · refine ⟨_, rfl, _, _, rfl, get1 D1, (by decide), fun q hq => ?_⟩
        have sq : Same (upd H p (.dK (kvs "cells" "stop" "rest" c (i + 1) r))) (upd (upd H p (.dK (kvs "cells" "stop" "rest" c (i + 1) r))) q (.lst [])) := fun b o e => by rw [upd_ne (ne_of_none e hq)]; exact e
        have D2 := D1.keep sq
        refine ⟨_, _, .lst (SqL.of D2.hc) (dp_ints cs), .lst (SqL.of upd_same) .nil, shaped_ints cs, rfl, _, rfl, ?_⟩
        rw [eqv_nil]
        cases hb : decide (cs = []) with
        | true => exact iteF ⟨_, rfl, sq⟩
        | false =>
          refine iteT ?_
          have ne : cs ≠ [] := of_decide_eq_false hb
          have l0 : 0 < cs.length := by
            cases cs with
            | nil => exact absurd rfl ne
            | cons a l => exact Nat.succ_pos _
          refine ⟨_, rfl, _, _, rfl, get1 D2, ?_⟩
          refine ⟨_, rfl, .inl ⟨_, rfl, _, rfl, _, _, rfl, get1 D2, _, cs.length, rfl, .inl ⟨_, SqL.of D2.hc, (List.length_map _).symm⟩, _, _, rfl, rfl, by omega, ?_⟩⟩
          have b0 : 0 ≤ i.fmod (cs.length : Int) := fmod_lo (by omega)
          have b1 : i.fmod (cs.length : Int) < cs.length := fmod_hi (by omega)
          obtain ⟨z, hz⟩ := at_ints (cs := cs) b0 b1
          exact ⟨_, _, _, _, rfl, rfl, SqL.of D2.hc, hz, z, rfl, sq⟩
      · rintro σ' H' ⟨z, rfl, sH⟩
        have D2 := D1.keep sH
        have sib : Sib p H H' := Sib.trans Sib.put fun b o _ e => sH b o e
        refine ⟨fun σ2 H2 => σ2 = [some (.ref p), some (.int m), none, some (.int i), some (.int z), none] ∧ H2 = H', ?_, ?_⟩
        rotate_left
        · rintro σ2 H2 ⟨rfl, rfl⟩
          have nz : ∀ {a : Int}, a ≠ 0 → a ≠ 0 := fun h => h
          have ib : -(2 ^ 64) < i ∧ i < 2 ^ 64 := ⟨by have := D.h0; omega, by omega⟩
          refine ⟨_, rfl, .inl ⟨_, rfl, _, _, rfl, rfl, (by show (2147483269 : Int) ≠ 0; decide), _, _, rfl, rfl, .inr ⟨by decide, by decide⟩, ?_⟩⟩
          refine ⟨_, rfl, _, rfl, _, _, rfl, rfl, .inl ⟨by decide, by decide⟩, _, rfl, _, _, rfl, rfl, .inr ib, _, _, rfl, rfl, _, rfl, _, _, rfl, rfl, .inl ⟨by decide, by decide⟩, _, _, rfl, rfl, _, _, rfl, rfl, .inl ⟨_, rfl, _, _, rfl, rfl, (by show (2147483323 : Int) ≠ 0; decide), ?_⟩⟩
          refine ⟨_, rfl, _, rfl, _, _, rfl, rfl, _, _, rfl, rfl, .inl (fm64 (by decide) (by decide)), .inl ⟨_, rfl, _, _, rfl, rfl, (by show (2147483353 : Int) ≠ 0; decide), ?_⟩⟩
          refine ⟨_, rfl, _, rfl, _, _, rfl, rfl, .inl (fm64 (by decide) (by decide)), _, rfl, _, _, rfl, rfl, .inl ⟨by decide, by decide⟩, _, _, rfl, rfl, .inl ⟨_, rfl, _, _, rfl, rfl, (by show (2147483399 : Int) ≠ 0; decide), _, _, rfl, rfl, ⟨by decide, by decide⟩, .inl ⟨_, rfl, _, rfl, _, _, rfl, rfl, mok.1, ?_⟩⟩⟩
          exact k _ _ _ _ (fmod_lo hm0) (fmod_hi hm0) (by omega) (Int.le_refl _) sib D2
        refine ⟨_, rfl, _, rfl, _, _, rfl, get1 D2, _, cs.length, rfl, .inl ⟨_, SqL.of D2.hc, (List.length_map _).symm⟩, _, _, rfl, rfl, _, rfl, ?_⟩
        refine ite2 (fun _ => ?_) (fun _ => ?_)
        · refine ⟨_, rfl, _, _, rfl, rfl, ⟨by decide, by decide, by decide⟩, _, _, rfl, rfl, _, rfl, ?_⟩
          refine ite2 (fun _ => ?_) (fun _ => ?_)
          · -- a great cell
            refine ⟨_, rfl, _, _, rfl, rfl, ⟨by decide, by decide, by decide⟩, _, _, rfl, rfl, _, rfl, _, _, rfl, rfl, mok, _, rfl, _, _, rfl, put3 D2 (by decide) (by decide) _, ?_⟩
            refine ⟨_, rfl, _, _, rfl, rfl, ⟨by decide, by decide, by decide⟩, _, _, rfl, rfl, .inl ⟨_, rfl, _, rfl, _, _, rfl, rfl, by omega, ?_⟩⟩
            exact k _ _ _ _ (fmod_lo hm0) (fmod_hi hm0) (by omega) (Int.le_refl _) (Sib.trans sib Sib.put) (D2.to upd_same Sib.put D2.h0 D2.h1)
          · exact ⟨rfl, rfl⟩
        · exact ⟨rfl, rfl⟩
theorem ok_l_pick {f fD : Addr} {fd fdD : FuncData} (F : Fun K "_law_pick" "_law_pick" s_l_pick f fd) (T : TxtA mg) (FD : Fun K "_law_draw" "_law_draw" s_l_draw fD fdD) (b_l_draw : Binds K fdD P_l_draw []) (mgD : mg "_law_draw" = some (.ref fD)) : FnOk P w K mg base CX0 2 f fd P_l_pick (spPick K) := by
  have G_l_draw : FnOk P w K mg base CX0 1 fD fdD P_l_draw spDraw := ok_l_draw FD T
  refine F.ok sc_l_pick (fun vs H Q E h => ?_) (fun cdv A outer s H vs Q E hr h => ?_)
  · obtain ⟨p, c, cs, i, r, l, xs, rfl, _⟩ := h
    rfl
  · obtain ⟨p, c, cs, i, r, l, xs, rfl, D, hi, hL, x0, x1, ne, k⟩ := h
    refine ⟨_, (pss_one (ps_ret (pe_ix ix_list (pv 1) (pe_call G_l_draw (hr.mono (by decide)) (by rfl) mgD FD.kp b_l_draw .nil pass0 (pa_cons (pv 0) (pa_cons (pe_callB call_len (by rfl) T.n_len (by decide +kernel) (pa_cons (pv 1) pa_nil)) pa_nil))) (fun _ _ => rfl)))), ?_⟩
    refine ⟨_, rfl, _, rfl, _, rfl, _, xs.length, rfl, .inl ⟨_, hL, rfl⟩, p, c, cs, i, r, _, rfl, D, hi, by omega, by omega, fun z i' r' H' z0 z1 i0 i1 sib D' => ?_⟩
    have hk : z.toNat < xs.length := by omega
    have hz : atI xs z = some xs[z.toNat] := by
      unfold atI ixN
      rw [if_pos z0, if_pos z1, Option.bind_some, List.getElem?_eq_getElem hk]
    exact ⟨_, _, _, _, rfl, rfl, SqL_sib hL sib (fun e => ne e), hz, k _ i' r' H' (List.getElem_mem hk) i0 i1 sib D'⟩
end
end K00

set_option Elab.async false
set_option linter.all false
set_option maxRecDepth 100000
set_option maxHeartbeats 4000000
namespace K00
open PySem PySem.Spec PyProof.Rows L2 Pen EV2
section
variable {P : Program} {w : World} {K : PySem.W.Frag} {mg : Str → Option Value} {base : Heap} {f C : Addr} {fd : FuncData}
abbrev s_BadValue_init : Stmt := inClass (topS 2) 0
abbrev N_BadValue_init : List Str := ["self", "value"]
abbrev P_BadValue_init : List Str := ["self", "value"]
theorem sc_BadValue_init : FnScope N_BadValue_init P_BadValue_init (defScope s_BadValue_init) := ⟨rfl, rfl, rfl, by decide +kernel, rfl, by decide +kernel, by decide +kernel⟩
theorem ok_BadValue_init (F : Fun K "__init__" "BadValue.__init__" s_BadValue_init f fd) (O : OexC K C) (no : PySem.W.findIn K (.ref C) "value" = some none) : FnOk P w K mg base CX0 1 f fd P_BadValue_init (spI1 C "value") := by
  refine F.ok sc_BadValue_init (fun vs H Q E h => ?_) (fun cdv A outer s H vs Q E hr h => ?_)
  · obtain ⟨a, v, rfl, _⟩ := h
    rfl
  · obtain ⟨a, v, rfl, e, k⟩ := h
    exact ⟨_, pss_one (ps_ost (pv 0) (pv 1)), _, rfl, _, rfl, a, C, rfl, O, no, .inl ⟨e, k⟩⟩
theorem kp_BadValue_init (F : Fun K "__init__" "BadValue.__init__" s_BadValue_init f fd) : KBn K fd P_BadValue_init 2 [] (fun us ws => us) (fun vs zs => vs) :=
  kbn_of F (fun _ _ _ _ _ _ us ws l1 l2 => match us, ws, l1, l2 with | [_, _], [], _, _ => rfl) fun r _ => r
theorem kk_BadValue_init (F : Fun K "__init__" "BadValue.__init__" s_BadValue_init f fd) : KBn K fd P_BadValue_init 1 ["value"] (fun us ws => us ++ ws) (fun vs zs => vs ++ zs) :=
  kbn_of F (fun _ _ _ _ _ _ us ws l1 l2 => match us, ws, l1, l2 with | [_], [_], _, _ => rfl) fun r q => r.append q
abbrev s_TooHigh_init : Stmt := inClass (topS 5) 0
abbrev N_TooHigh_init : List Str := ["self", "most"]
abbrev P_TooHigh_init : List Str := ["self", "most"]
theorem sc_TooHigh_init : FnScope N_TooHigh_init P_TooHigh_init (defScope s_TooHigh_init) := ⟨rfl, rfl, rfl, by decide +kernel, rfl, by decide +kernel, by decide +kernel⟩
theorem ok_TooHigh_init (F : Fun K "__init__" "TooHigh.__init__" s_TooHigh_init f fd) (O : OexC K C) (no : PySem.W.findIn K (.ref C) "most" = some none) : FnOk P w K mg base CX0 1 f fd P_TooHigh_init (spI1 C "most") := by
  refine F.ok sc_TooHigh_init (fun vs H Q E h => ?_) (fun cdv A outer s H vs Q E hr h => ?_)
  · obtain ⟨a, v, rfl, _⟩ := h
    rfl
  · obtain ⟨a, v, rfl, e, k⟩ := h
    exact ⟨_, pss_one (ps_ost (pv 0) (pv 1)), _, rfl, _, rfl, a, C, rfl, O, no, .inl ⟨e, k⟩⟩
theorem kp_TooHigh_init (F : Fun K "__init__" "TooHigh.__init__" s_TooHigh_init f fd) : KBn K fd P_TooHigh_init 2 [] (fun us ws => us) (fun vs zs => vs) :=
  kbn_of F (fun _ _ _ _ _ _ us ws l1 l2 => match us, ws, l1, l2 with | [_, _], [], _, _ => rfl) fun r _ => r
theorem kk_TooHigh_init (F : Fun K "__init__" "TooHigh.__init__" s_TooHigh_init f fd) : KBn K fd P_TooHigh_init 1 ["most"] (fun us ws => us ++ ws) (fun vs zs => vs ++ zs) :=
  kbn_of F (fun _ _ _ _ _ _ us ws l1 l2 => match us, ws, l1, l2 with | [_], [_], _, _ => rfl) fun r q => r.append q
abbrev s_TooMany_init : Stmt := inClass (topS 6) 0
abbrev N_TooMany_init : List Str := ["self", "most"]
abbrev P_TooMany_init : List Str := ["self", "most"]
theorem sc_TooMany_init : FnScope N_TooMany_init P_TooMany_init (defScope s_TooMany_init) := ⟨rfl, rfl, rfl, by decide +kernel, rfl, by decide +kernel, by decide +kernel⟩
theorem ok_TooMany_init (F : Fun K "__init__" "TooMany.__init__" s_TooMany_init f fd) (O : OexC K C) (no : PySem.W.findIn K (.ref C) "most" = some none) : FnOk P w K mg base CX0 1 f fd P_TooMany_init (spI1 C "most") := by
  refine F.ok sc_TooMany_init (fun vs H Q E h => ?_) (fun cdv A outer s H vs Q E hr h => ?_)
  · obtain ⟨a, v, rfl, _⟩ := h
    rfl
  · obtain ⟨a, v, rfl, e, k⟩ := h
    exact ⟨_, pss_one (ps_ost (pv 0) (pv 1)), _, rfl, _, rfl, a, C, rfl, O, no, .inl ⟨e, k⟩⟩
theorem kp_TooMany_init (F : Fun K "__init__" "TooMany.__init__" s_TooMany_init f fd) : KBn K fd P_TooMany_init 2 [] (fun us ws => us) (fun vs zs => vs) :=
  kbn_of F (fun _ _ _ _ _ _ us ws l1 l2 => match us, ws, l1, l2 with | [_, _], [], _, _ => rfl) fun r _ => r
theorem kk_TooMany_init (F : Fun K "__init__" "TooMany.__init__" s_TooMany_init f fd) : KBn K fd P_TooMany_init 1 ["most"] (fun us ws => us ++ ws) (fun vs zs => vs ++ zs) :=
  kbn_of F (fun _ _ _ _ _ _ us ws l1 l2 => match us, ws, l1, l2 with | [_], [_], _, _ => rfl) fun r q => r.append q
abbrev s_NotAFormula_init : Stmt := inClass (topS 7) 0
abbrev N_NotAFormula_init : List Str := ["self", "at"]
abbrev P_NotAFormula_init : List Str := ["self", "at"]
theorem sc_NotAFormula_init : FnScope N_NotAFormula_init P_NotAFormula_init (defScope s_NotAFormula_init) := ⟨rfl, rfl, rfl, by decide +kernel, rfl, by decide +kernel, by decide +kernel⟩
theorem ok_NotAFormula_init (F : Fun K "__init__" "NotAFormula.__init__" s_NotAFormula_init f fd) (O : OexC K C) (no : PySem.W.findIn K (.ref C) "at" = some none) : FnOk P w K mg base CX0 1 f fd P_NotAFormula_init (spI1 C "at") := by
  refine F.ok sc_NotAFormula_init (fun vs H Q E h => ?_) (fun cdv A outer s H vs Q E hr h => ?_)
  · obtain ⟨a, v, rfl, _⟩ := h
    rfl
  · obtain ⟨a, v, rfl, e, k⟩ := h
    exact ⟨_, pss_one (ps_ost (pv 0) (pv 1)), _, rfl, _, rfl, a, C, rfl, O, no, .inl ⟨e, k⟩⟩
theorem kp_NotAFormula_init (F : Fun K "__init__" "NotAFormula.__init__" s_NotAFormula_init f fd) : KBn K fd P_NotAFormula_init 2 [] (fun us ws => us) (fun vs zs => vs) :=
  kbn_of F (fun _ _ _ _ _ _ us ws l1 l2 => match us, ws, l1, l2 with | [_, _], [], _, _ => rfl) fun r _ => r
theorem kk_NotAFormula_init (F : Fun K "__init__" "NotAFormula.__init__" s_NotAFormula_init f fd) : KBn K fd P_NotAFormula_init 1 ["at"] (fun us ws => us ++ ws) (fun vs zs => vs ++ zs) :=
  kbn_of F (fun _ _ _ _ _ _ us ws l1 l2 => match us, ws, l1, l2 with | [_], [_], _, _ => rfl) fun r q => r.append q
abbrev s_NotANumber_init : Stmt := inClass (topS 8) 0
abbrev N_NotANumber_init : List Str := ["self", "at"]
abbrev P_NotANumber_init : List Str := ["self", "at"]
theorem sc_NotANumber_init : FnScope N_NotANumber_init P_NotANumber_init (defScope s_NotANumber_init) := ⟨rfl, rfl, rfl, by decide +kernel, rfl, by decide +kernel, by decide +kernel⟩
theorem ok_NotANumber_init (F : Fun K "__init__" "NotANumber.__init__" s_NotANumber_init f fd) (O : OexC K C) (no : PySem.W.findIn K (.ref C) "at" = some none) : FnOk P w K mg base CX0 1 f fd P_NotANumber_init (spI1 C "at") := by
  refine F.ok sc_NotANumber_init (fun vs H Q E h => ?_) (fun cdv A outer s H vs Q E hr h => ?_)
  · obtain ⟨a, v, rfl, _⟩ := h
    rfl
  · obtain ⟨a, v, rfl, e, k⟩ := h
    exact ⟨_, pss_one (ps_ost (pv 0) (pv 1)), _, rfl, _, rfl, a, C, rfl, O, no, .inl ⟨e, k⟩⟩
theorem kp_NotANumber_init (F : Fun K "__init__" "NotANumber.__init__" s_NotANumber_init f fd) : KBn K fd P_NotANumber_init 2 [] (fun us ws => us) (fun vs zs => vs) :=
  kbn_of F (fun _ _ _ _ _ _ us ws l1 l2 => match us, ws, l1, l2 with | [_, _], [], _, _ => rfl) fun r _ => r
theorem kk_NotANumber_init (F : Fun K "__init__" "NotANumber.__init__" s_NotANumber_init f fd) : KBn K fd P_NotANumber_init 1 ["at"] (fun us ws => us ++ ws) (fun vs zs => vs ++ zs) :=
  kbn_of F (fun _ _ _ _ _ _ us ws l1 l2 => match us, ws, l1, l2 with | [_], [_], _, _ => rfl) fun r q => r.append q
abbrev s_NotAFormat_init : Stmt := inClass (topS 9) 0
abbrev N_NotAFormat_init : List Str := ["self", "at"]
abbrev P_NotAFormat_init : List Str := ["self", "at"]
theorem sc_NotAFormat_init : FnScope N_NotAFormat_init P_NotAFormat_init (defScope s_NotAFormat_init) := ⟨rfl, rfl, rfl, by decide +kernel, rfl, by decide +kernel, by decide +kernel⟩
theorem ok_NotAFormat_init (F : Fun K "__init__" "NotAFormat.__init__" s_NotAFormat_init f fd) (O : OexC K C) (no : PySem.W.findIn K (.ref C) "at" = some none) : FnOk P w K mg base CX0 1 f fd P_NotAFormat_init (spI1 C "at") := by
  refine F.ok sc_NotAFormat_init (fun vs H Q E h => ?_) (fun cdv A outer s H vs Q E hr h => ?_)
  · obtain ⟨a, v, rfl, _⟩ := h
    rfl
  · obtain ⟨a, v, rfl, e, k⟩ := h
    exact ⟨_, pss_one (ps_ost (pv 0) (pv 1)), _, rfl, _, rfl, a, C, rfl, O, no, .inl ⟨e, k⟩⟩
theorem kp_NotAFormat_init (F : Fun K "__init__" "NotAFormat.__init__" s_NotAFormat_init f fd) : KBn K fd P_NotAFormat_init 2 [] (fun us ws => us) (fun vs zs => vs) :=
  kbn_of F (fun _ _ _ _ _ _ us ws l1 l2 => match us, ws, l1, l2 with | [_, _], [], _, _ => rfl) fun r _ => r
theorem kk_NotAFormat_init (F : Fun K "__init__" "NotAFormat.__init__" s_NotAFormat_init f fd) : KBn K fd P_NotAFormat_init 1 ["at"] (fun us ws => us ++ ws) (fun vs zs => vs ++ zs) :=
  kbn_of F (fun _ _ _ _ _ _ us ws l1 l2 => match us, ws, l1, l2 with | [_], [_], _, _ => rfl) fun r q => r.append q
abbrev s_NotAName_init : Stmt := inClass (topS 10) 0
abbrev N_NotAName_init : List Str := ["self", "name"]
abbrev P_NotAName_init : List Str := ["self", "name"]
theorem sc_NotAName_init : FnScope N_NotAName_init P_NotAName_init (defScope s_NotAName_init) := ⟨rfl, rfl, rfl, by decide +kernel, rfl, by decide +kernel, by decide +kernel⟩
theorem ok_NotAName_init (F : Fun K "__init__" "NotAName.__init__" s_NotAName_init f fd) (O : OexC K C) (no : PySem.W.findIn K (.ref C) "name" = some none) : FnOk P w K mg base CX0 1 f fd P_NotAName_init (spI1 C "name") := by
  refine F.ok sc_NotAName_init (fun vs H Q E h => ?_) (fun cdv A outer s H vs Q E hr h => ?_)
  · obtain ⟨a, v, rfl, _⟩ := h
    rfl
  · obtain ⟨a, v, rfl, e, k⟩ := h
    exact ⟨_, pss_one (ps_ost (pv 0) (pv 1)), _, rfl, _, rfl, a, C, rfl, O, no, .inl ⟨e, k⟩⟩
theorem kp_NotAName_init (F : Fun K "__init__" "NotAName.__init__" s_NotAName_init f fd) : KBn K fd P_NotAName_init 2 [] (fun us ws => us) (fun vs zs => vs) :=
  kbn_of F (fun _ _ _ _ _ _ us ws l1 l2 => match us, ws, l1, l2 with | [_, _], [], _, _ => rfl) fun r _ => r
theorem kk_NotAName_init (F : Fun K "__init__" "NotAName.__init__" s_NotAName_init f fd) : KBn K fd P_NotAName_init 1 ["name"] (fun us ws => us ++ ws) (fun vs zs => vs ++ zs) :=
  kbn_of F (fun _ _ _ _ _ _ us ws l1 l2 => match us, ws, l1, l2 with | [_], [_], _, _ => rfl) fun r q => r.append q
abbrev s_Unknown_init : Stmt := inClass (topS 12) 0
abbrev N_Unknown_init : List Str := ["self", "name"]
abbrev P_Unknown_init : List Str := ["self", "name"]
theorem sc_Unknown_init : FnScope N_Unknown_init P_Unknown_init (defScope s_Unknown_init) := ⟨rfl, rfl, rfl, by decide +kernel, rfl, by decide +kernel, by decide +kernel⟩
theorem ok_Unknown_init (F : Fun K "__init__" "Unknown.__init__" s_Unknown_init f fd) (O : OexC K C) (no : PySem.W.findIn K (.ref C) "name" = some none) : FnOk P w K mg base CX0 1 f fd P_Unknown_init (spI1 C "name") := by
  refine F.ok sc_Unknown_init (fun vs H Q E h => ?_) (fun cdv A outer s H vs Q E hr h => ?_)
  · obtain ⟨a, v, rfl, _⟩ := h
    rfl
  · obtain ⟨a, v, rfl, e, k⟩ := h
    exact ⟨_, pss_one (ps_ost (pv 0) (pv 1)), _, rfl, _, rfl, a, C, rfl, O, no, .inl ⟨e, k⟩⟩
theorem kp_Unknown_init (F : Fun K "__init__" "Unknown.__init__" s_Unknown_init f fd) : KBn K fd P_Unknown_init 2 [] (fun us ws => us) (fun vs zs => vs) :=
  kbn_of F (fun _ _ _ _ _ _ us ws l1 l2 => match us, ws, l1, l2 with | [_, _], [], _, _ => rfl) fun r _ => r
theorem kk_Unknown_init (F : Fun K "__init__" "Unknown.__init__" s_Unknown_init f fd) : KBn K fd P_Unknown_init 1 ["name"] (fun us ws => us ++ ws) (fun vs zs => vs ++ zs) :=
  kbn_of F (fun _ _ _ _ _ _ us ws l1 l2 => match us, ws, l1, l2 with | [_], [_], _, _ => rfl) fun r q => r.append q
abbrev s_Taken_init : Stmt := inClass (topS 13) 0
abbrev N_Taken_init : List Str := ["self", "name"]
abbrev P_Taken_init : List Str := ["self", "name"]
theorem sc_Taken_init : FnScope N_Taken_init P_Taken_init (defScope s_Taken_init) := ⟨rfl, rfl, rfl, by decide +kernel, rfl, by decide +kernel, by decide +kernel⟩
theorem ok_Taken_init (F : Fun K "__init__" "Taken.__init__" s_Taken_init f fd) (O : OexC K C) (no : PySem.W.findIn K (.ref C) "name" = some none) : FnOk P w K mg base CX0 1 f fd P_Taken_init (spI1 C "name") := by
  refine F.ok sc_Taken_init (fun vs H Q E h => ?_) (fun cdv A outer s H vs Q E hr h => ?_)
  · obtain ⟨a, v, rfl, _⟩ := h
    rfl
  · obtain ⟨a, v, rfl, e, k⟩ := h
    exact ⟨_, pss_one (ps_ost (pv 0) (pv 1)), _, rfl, _, rfl, a, C, rfl, O, no, .inl ⟨e, k⟩⟩
theorem kp_Taken_init (F : Fun K "__init__" "Taken.__init__" s_Taken_init f fd) : KBn K fd P_Taken_init 2 [] (fun us ws => us) (fun vs zs => vs) :=
  kbn_of F (fun _ _ _ _ _ _ us ws l1 l2 => match us, ws, l1, l2 with | [_, _], [], _, _ => rfl) fun r _ => r
theorem kk_Taken_init (F : Fun K "__init__" "Taken.__init__" s_Taken_init f fd) : KBn K fd P_Taken_init 1 ["name"] (fun us ws => us ++ ws) (fun vs zs => vs ++ zs) :=
  kbn_of F (fun _ _ _ _ _ _ us ws l1 l2 => match us, ws, l1, l2 with | [_], [_], _, _ => rfl) fun r q => r.append q
abbrev s_BadPromise_init : Stmt := inClass (topS 15) 0
abbrev N_BadPromise_init : List Str := ["self", "promise"]
abbrev P_BadPromise_init : List Str := ["self", "promise"]
theorem sc_BadPromise_init : FnScope N_BadPromise_init P_BadPromise_init (defScope s_BadPromise_init) := ⟨rfl, rfl, rfl, by decide +kernel, rfl, by decide +kernel, by decide +kernel⟩
theorem ok_BadPromise_init (F : Fun K "__init__" "BadPromise.__init__" s_BadPromise_init f fd) (O : OexC K C) (no : PySem.W.findIn K (.ref C) "promise" = some none) : FnOk P w K mg base CX0 1 f fd P_BadPromise_init (spI1 C "promise") := by
  refine F.ok sc_BadPromise_init (fun vs H Q E h => ?_) (fun cdv A outer s H vs Q E hr h => ?_)
  · obtain ⟨a, v, rfl, _⟩ := h
    rfl
  · obtain ⟨a, v, rfl, e, k⟩ := h
    exact ⟨_, pss_one (ps_ost (pv 0) (pv 1)), _, rfl, _, rfl, a, C, rfl, O, no, .inl ⟨e, k⟩⟩
theorem kp_BadPromise_init (F : Fun K "__init__" "BadPromise.__init__" s_BadPromise_init f fd) : KBn K fd P_BadPromise_init 2 [] (fun us ws => us) (fun vs zs => vs) :=
  kbn_of F (fun _ _ _ _ _ _ us ws l1 l2 => match us, ws, l1, l2 with | [_, _], [], _, _ => rfl) fun r _ => r
theorem kk_BadPromise_init (F : Fun K "__init__" "BadPromise.__init__" s_BadPromise_init f fd) : KBn K fd P_BadPromise_init 1 ["promise"] (fun us ws => us ++ ws) (fun vs zs => vs ++ zs) :=
  kbn_of F (fun _ _ _ _ _ _ us ws l1 l2 => match us, ws, l1, l2 with | [_], [_], _, _ => rfl) fun r q => r.append q
abbrev s_NotMade_init : Stmt := inClass (topS 17) 0
abbrev N_NotMade_init : List Str := ["self", "promise"]
abbrev P_NotMade_init : List Str := ["self", "promise"]
theorem sc_NotMade_init : FnScope N_NotMade_init P_NotMade_init (defScope s_NotMade_init) := ⟨rfl, rfl, rfl, by decide +kernel, rfl, by decide +kernel, by decide +kernel⟩
theorem ok_NotMade_init (F : Fun K "__init__" "NotMade.__init__" s_NotMade_init f fd) (O : OexC K C) (no : PySem.W.findIn K (.ref C) "promise" = some none) : FnOk P w K mg base CX0 1 f fd P_NotMade_init (spI1 C "promise") := by
  refine F.ok sc_NotMade_init (fun vs H Q E h => ?_) (fun cdv A outer s H vs Q E hr h => ?_)
  · obtain ⟨a, v, rfl, _⟩ := h
    rfl
  · obtain ⟨a, v, rfl, e, k⟩ := h
    exact ⟨_, pss_one (ps_ost (pv 0) (pv 1)), _, rfl, _, rfl, a, C, rfl, O, no, .inl ⟨e, k⟩⟩
theorem kp_NotMade_init (F : Fun K "__init__" "NotMade.__init__" s_NotMade_init f fd) : KBn K fd P_NotMade_init 2 [] (fun us ws => us) (fun vs zs => vs) :=
  kbn_of F (fun _ _ _ _ _ _ us ws l1 l2 => match us, ws, l1, l2 with | [_, _], [], _, _ => rfl) fun r _ => r
theorem kk_NotMade_init (F : Fun K "__init__" "NotMade.__init__" s_NotMade_init f fd) : KBn K fd P_NotMade_init 1 ["promise"] (fun us ws => us ++ ws) (fun vs zs => vs ++ zs) :=
  kbn_of F (fun _ _ _ _ _ _ us ws l1 l2 => match us, ws, l1, l2 with | [_], [_], _, _ => rfl) fun r q => r.append q
abbrev s_Turns_init : Stmt := inClass (topS 20) 0
abbrev N_Turns_init : List Str := ["self", "poly"]
abbrev P_Turns_init : List Str := ["self", "poly"]
theorem sc_Turns_init : FnScope N_Turns_init P_Turns_init (defScope s_Turns_init) := ⟨rfl, rfl, rfl, by decide +kernel, rfl, by decide +kernel, by decide +kernel⟩
theorem ok_Turns_init (F : Fun K "__init__" "Turns.__init__" s_Turns_init f fd) (O : OexC K C) (no : PySem.W.findIn K (.ref C) "poly" = some none) : FnOk P w K mg base CX0 1 f fd P_Turns_init (spI1 C "poly") := by
  refine F.ok sc_Turns_init (fun vs H Q E h => ?_) (fun cdv A outer s H vs Q E hr h => ?_)
  · obtain ⟨a, v, rfl, _⟩ := h
    rfl
  · obtain ⟨a, v, rfl, e, k⟩ := h
    exact ⟨_, pss_one (ps_ost (pv 0) (pv 1)), _, rfl, _, rfl, a, C, rfl, O, no, .inl ⟨e, k⟩⟩
theorem kp_Turns_init (F : Fun K "__init__" "Turns.__init__" s_Turns_init f fd) : KBn K fd P_Turns_init 2 [] (fun us ws => us) (fun vs zs => vs) :=
  kbn_of F (fun _ _ _ _ _ _ us ws l1 l2 => match us, ws, l1, l2 with | [_, _], [], _, _ => rfl) fun r _ => r
theorem kk_Turns_init (F : Fun K "__init__" "Turns.__init__" s_Turns_init f fd) : KBn K fd P_Turns_init 1 ["poly"] (fun us ws => us ++ ws) (fun vs zs => vs ++ zs) :=
  kbn_of F (fun _ _ _ _ _ _ us ws l1 l2 => match us, ws, l1, l2 with | [_], [_], _, _ => rfl) fun r q => r.append q
abbrev s_OffGrid_init : Stmt := inClass (topS 11) 0
abbrev N_OffGrid_init : List Str := ["self", "row", "column"]
abbrev P_OffGrid_init : List Str := ["self", "row", "column"]
theorem sc_OffGrid_init : FnScope N_OffGrid_init P_OffGrid_init (defScope s_OffGrid_init) := ⟨rfl, rfl, rfl, by decide +kernel, rfl, by decide +kernel, by decide +kernel⟩
theorem ok_OffGrid_init (F : Fun K "__init__" "OffGrid.__init__" s_OffGrid_init f fd) (O : OexC K C) (no : PySem.W.findIn K (.ref C) "row" = some none) (no2 : PySem.W.findIn K (.ref C) "column" = some none) : FnOk P w K mg base CX0 1 f fd P_OffGrid_init (spI2 C "row" "column") := by
  refine F.ok sc_OffGrid_init (fun vs H Q E h => ?_) (fun cdv A outer s H vs Q E hr h => ?_)
  · obtain ⟨a, v, u, rfl, _⟩ := h
    rfl
  · obtain ⟨a, v, u, rfl, e, k⟩ := h
    refine ⟨_, pss_cons (ps_ost (pv 0) (pv 1)) (pss_one (ps_ost (pv 0) (pv 2))), _, rfl, _, rfl, a, C, rfl, O, no, .inl ⟨e, fun d hd ne => ?_⟩⟩
    exact ⟨_, rfl, _, rfl, a, C, rfl, O, no2, .inr ⟨d, _, upd_same, by rw [upd_ne ne, upd_same], by show 1 ≤ 900; decide, k d hd ne⟩⟩
theorem kp_OffGrid_init (F : Fun K "__init__" "OffGrid.__init__" s_OffGrid_init f fd) : KBn K fd P_OffGrid_init 3 [] (fun us ws => us) (fun vs zs => vs) :=
  kbn_of F (fun _ _ _ _ _ _ us ws l1 l2 => match us, ws, l1, l2 with | [_, _, _], [], _, _ => rfl) fun r _ => r
theorem km_OffGrid_init (F : Fun K "__init__" "OffGrid.__init__" s_OffGrid_init f fd) : KBn K fd P_OffGrid_init 2 ["column"] (fun us ws => us ++ ws) (fun vs zs => vs ++ zs) :=
  kbn_of F (fun _ _ _ _ _ _ us ws l1 l2 => match us, ws, l1, l2 with | [_, _], [_], _, _ => rfl) fun r q => r.append q
theorem kk_OffGrid_init (F : Fun K "__init__" "OffGrid.__init__" s_OffGrid_init f fd) : KBn K fd P_OffGrid_init 1 ["column", "row"] (fun us ws => swapK us ws) (fun vs zs => swapK vs zs) :=
  kbn_of F (fun _ _ _ _ _ _ us ws l1 l2 => match us, ws, l1, l2 with | [_], [_, _], _, _ => rfl) fun r q => r.append (vals_rev q)
abbrev s_BadFile_init : Stmt := inClass (topS 14) 0
abbrev N_BadFile_init : List Str := ["self", "line", "at"]
abbrev P_BadFile_init : List Str := ["self", "line", "at"]
theorem sc_BadFile_init : FnScope N_BadFile_init P_BadFile_init (defScope s_BadFile_init) := ⟨rfl, rfl, rfl, by decide +kernel, rfl, by decide +kernel, by decide +kernel⟩
theorem ok_BadFile_init (F : Fun K "__init__" "BadFile.__init__" s_BadFile_init f fd) (O : OexC K C) (no : PySem.W.findIn K (.ref C) "line" = some none) (no2 : PySem.W.findIn K (.ref C) "at" = some none) : FnOk P w K mg base CX0 1 f fd P_BadFile_init (spI2 C "line" "at") := by
  refine F.ok sc_BadFile_init (fun vs H Q E h => ?_) (fun cdv A outer s H vs Q E hr h => ?_)
  · obtain ⟨a, v, u, rfl, _⟩ := h
    rfl
  · obtain ⟨a, v, u, rfl, e, k⟩ := h
    refine ⟨_, pss_cons (ps_ost (pv 0) (pv 1)) (pss_one (ps_ost (pv 0) (pv 2))), _, rfl, _, rfl, a, C, rfl, O, no, .inl ⟨e, fun d hd ne => ?_⟩⟩
    exact ⟨_, rfl, _, rfl, a, C, rfl, O, no2, .inr ⟨d, _, upd_same, by rw [upd_ne ne, upd_same], by show 1 ≤ 900; decide, k d hd ne⟩⟩
theorem kp_BadFile_init (F : Fun K "__init__" "BadFile.__init__" s_BadFile_init f fd) : KBn K fd P_BadFile_init 3 [] (fun us ws => us) (fun vs zs => vs) :=
  kbn_of F (fun _ _ _ _ _ _ us ws l1 l2 => match us, ws, l1, l2 with | [_, _, _], [], _, _ => rfl) fun r _ => r
theorem km_BadFile_init (F : Fun K "__init__" "BadFile.__init__" s_BadFile_init f fd) : KBn K fd P_BadFile_init 2 ["at"] (fun us ws => us ++ ws) (fun vs zs => vs ++ zs) :=
  kbn_of F (fun _ _ _ _ _ _ us ws l1 l2 => match us, ws, l1, l2 with | [_, _], [_], _, _ => rfl) fun r q => r.append q
theorem kk_BadFile_init (F : Fun K "__init__" "BadFile.__init__" s_BadFile_init f fd) : KBn K fd P_BadFile_init 1 ["at", "line"] (fun us ws => swapK us ws) (fun vs zs => swapK vs zs) :=
  kbn_of F (fun _ _ _ _ _ _ us ws l1 l2 => match us, ws, l1, l2 with | [_], [_, _], _, _ => rfl) fun r q => r.append (vals_rev q)
abbrev s_Broken_init : Stmt := inClass (topS 16) 0
abbrev N_Broken_init : List Str := ["self", "promise", "where"]
abbrev P_Broken_init : List Str := ["self", "promise", "where"]
theorem sc_Broken_init : FnScope N_Broken_init P_Broken_init (defScope s_Broken_init) := ⟨rfl, rfl, rfl, by decide +kernel, rfl, by decide +kernel, by decide +kernel⟩
theorem ok_Broken_init (F : Fun K "__init__" "Broken.__init__" s_Broken_init f fd) (O : OexC K C) (no : PySem.W.findIn K (.ref C) "promise" = some none) (no2 : PySem.W.findIn K (.ref C) "where" = some none) : FnOk P w K mg base CX0 1 f fd P_Broken_init (spI2 C "promise" "where") := by
  refine F.ok sc_Broken_init (fun vs H Q E h => ?_) (fun cdv A outer s H vs Q E hr h => ?_)
  · obtain ⟨a, v, u, rfl, _⟩ := h
    rfl
  · obtain ⟨a, v, u, rfl, e, k⟩ := h
    refine ⟨_, pss_cons (ps_ost (pv 0) (pv 1)) (pss_one (ps_ost (pv 0) (pv 2))), _, rfl, _, rfl, a, C, rfl, O, no, .inl ⟨e, fun d hd ne => ?_⟩⟩
    exact ⟨_, rfl, _, rfl, a, C, rfl, O, no2, .inr ⟨d, _, upd_same, by rw [upd_ne ne, upd_same], by show 1 ≤ 900; decide, k d hd ne⟩⟩
theorem kp_Broken_init (F : Fun K "__init__" "Broken.__init__" s_Broken_init f fd) : KBn K fd P_Broken_init 3 [] (fun us ws => us) (fun vs zs => vs) :=
  kbn_of F (fun _ _ _ _ _ _ us ws l1 l2 => match us, ws, l1, l2 with | [_, _, _], [], _, _ => rfl) fun r _ => r
theorem km_Broken_init (F : Fun K "__init__" "Broken.__init__" s_Broken_init f fd) : KBn K fd P_Broken_init 2 ["where"] (fun us ws => us ++ ws) (fun vs zs => vs ++ zs) :=
  kbn_of F (fun _ _ _ _ _ _ us ws l1 l2 => match us, ws, l1, l2 with | [_, _], [_], _, _ => rfl) fun r q => r.append q
theorem kk_Broken_init (F : Fun K "__init__" "Broken.__init__" s_Broken_init f fd) : KBn K fd P_Broken_init 1 ["where", "promise"] (fun us ws => swapK us ws) (fun vs zs => swapK vs zs) :=
  kbn_of F (fun _ _ _ _ _ _ us ws l1 l2 => match us, ws, l1, l2 with | [_], [_, _], _, _ => rfl) fun r q => r.append (vals_rev q)
end
end K00

set_option Elab.async false
set_option linter.all false
set_option maxRecDepth 100000
set_option maxHeartbeats 4000000
namespace K00
open PySem PySem.Spec PyProof.Rows L2 Pen EV2 Evl
/-- what the top has written of an error with one field, with two, with none -/
structure Er1 (K : PySem.W.Frag) (mg : Str → Option Value) (x q : Str) (st : Stmt) (f : Str) (C fI : Addr) (fd : FuncData) : Prop where
  gC : mg x = some (.ref C)
  ec : ErrC K C fI
  xf : XfC K C
  no : PySem.W.findIn K (.ref C) f = some none
  F : Fun K "__init__" q st fI fd
  ic : ExcC K C
structure Er2 (K : PySem.W.Frag) (mg : Str → Option Value) (x q : Str) (st : Stmt) (f g : Str) (C fI : Addr) (fd : FuncData) : Prop where
  gC : mg x = some (.ref C)
  ec : ErrC K C fI
  xf : XfC K C
  no : PySem.W.findIn K (.ref C) f = some none
  no2 : PySem.W.findIn K (.ref C) g = some none
  F : Fun K "__init__" q st fI fd
  ic : ExcC K C
structure Er0 (K : PySem.W.Frag) (mg : Str → Option Value) (x : Str) (C : Addr) : Prop where
  gC : mg x = some (.ref C)
  xC : PySem.W.excIn K C [.type "ValueError", .type "Exception", .type "BaseException", .type "object"] "ValueError.__new__" = true
  kC : PySem.W.keepIn K (.ref C) = true
  ic : ExcC K C
/-- the addresses of the errors, of their __init__ -/
structure Ads where
  BadValue : Addr
  NoDivisor : Addr
  NotTold : Addr
  TooHigh : Addr
  TooMany : Addr
  NotAFormula : Addr
  NotANumber : Addr
  NotAFormat : Addr
  NotAName : Addr
  OffGrid : Addr
  Unknown : Addr
  Taken : Addr
  BadFile : Addr
  BadPromise : Addr
  Broken : Addr
  NotMade : Addr
  NothingToUndo : Addr
  NothingToRedo : Addr
  Turns : Addr
  iBadValue : Addr
  dBadValue : FuncData
  iTooHigh : Addr
  dTooHigh : FuncData
  iTooMany : Addr
  dTooMany : FuncData
  iNotAFormula : Addr
  dNotAFormula : FuncData
  iNotANumber : Addr
  dNotANumber : FuncData
  iNotAFormat : Addr
  dNotAFormat : FuncData
  iNotAName : Addr
  dNotAName : FuncData
  iOffGrid : Addr
  dOffGrid : FuncData
  iUnknown : Addr
  dUnknown : FuncData
  iTaken : Addr
  dTaken : FuncData
  iBadFile : Addr
  dBadFile : FuncData
  iBadPromise : Addr
  dBadPromise : FuncData
  iBroken : Addr
  dBroken : FuncData
  iNotMade : Addr
  dNotMade : FuncData
  iTurns : Addr
  dTurns : FuncData
structure TxtE (K : PySem.W.Frag) (mg : Str → Option Value) (p : Ads) : Prop where
  BadValue : Er1 K mg "BadValue" "BadValue.__init__" s_BadValue_init "value" p.BadValue p.iBadValue p.dBadValue
  NoDivisor : Er0 K mg "NoDivisor" p.NoDivisor
  NotTold : Er0 K mg "NotTold" p.NotTold
  TooHigh : Er1 K mg "TooHigh" "TooHigh.__init__" s_TooHigh_init "most" p.TooHigh p.iTooHigh p.dTooHigh
  TooMany : Er1 K mg "TooMany" "TooMany.__init__" s_TooMany_init "most" p.TooMany p.iTooMany p.dTooMany
  NotAFormula : Er1 K mg "NotAFormula" "NotAFormula.__init__" s_NotAFormula_init "at" p.NotAFormula p.iNotAFormula p.dNotAFormula
  NotANumber : Er1 K mg "NotANumber" "NotANumber.__init__" s_NotANumber_init "at" p.NotANumber p.iNotANumber p.dNotANumber
  NotAFormat : Er1 K mg "NotAFormat" "NotAFormat.__init__" s_NotAFormat_init "at" p.NotAFormat p.iNotAFormat p.dNotAFormat
  NotAName : Er1 K mg "NotAName" "NotAName.__init__" s_NotAName_init "name" p.NotAName p.iNotAName p.dNotAName
  OffGrid : Er2 K mg "OffGrid" "OffGrid.__init__" s_OffGrid_init "row" "column" p.OffGrid p.iOffGrid p.dOffGrid
  Unknown : Er1 K mg "Unknown" "Unknown.__init__" s_Unknown_init "name" p.Unknown p.iUnknown p.dUnknown
  Taken : Er1 K mg "Taken" "Taken.__init__" s_Taken_init "name" p.Taken p.iTaken p.dTaken
  BadFile : Er2 K mg "BadFile" "BadFile.__init__" s_BadFile_init "line" "at" p.BadFile p.iBadFile p.dBadFile
  BadPromise : Er1 K mg "BadPromise" "BadPromise.__init__" s_BadPromise_init "promise" p.BadPromise p.iBadPromise p.dBadPromise
  Broken : Er2 K mg "Broken" "Broken.__init__" s_Broken_init "promise" "where" p.Broken p.iBroken p.dBroken
  NotMade : Er1 K mg "NotMade" "NotMade.__init__" s_NotMade_init "promise" p.NotMade p.iNotMade p.dNotMade
  NothingToUndo : Er0 K mg "NothingToUndo" p.NothingToUndo
  NothingToRedo : Er0 K mg "NothingToRedo" p.NothingToRedo
  Turns : Er1 K mg "Turns" "Turns.__init__" s_Turns_init "poly" p.Turns p.iTurns p.dTurns
abbrev s_l_alone : Stmt := topS 25
abbrev N_l_alone : List Str := ["_law_mine"]
abbrev P_l_alone : List Str := ["_law_mine"]
theorem sc_l_alone : FnScope N_l_alone P_l_alone (defScope s_l_alone) := ⟨rfl, rfl, rfl, by decide +kernel, rfl, by decide +kernel, by decide +kernel⟩
abbrev s_l_more : Stmt := topS 26
abbrev N_l_more : List Str := ["_law_mine", "_law_yours", "_law_pairs"]
abbrev P_l_more : List Str := ["_law_mine", "_law_yours"]
theorem sc_l_more : FnScope N_l_more P_l_more (defScope s_l_more) := ⟨rfl, rfl, rfl, by decide +kernel, rfl, by decide +kernel, by decide +kernel⟩

def spAlone : Sp := fun vs H Q _ => ∃ v : V, vs = [v] ∧ ∀ (l : Addr) (ts : List Addr) (H' : Hp), H l = none → Same H H' → H' l = some (.lst (ts.map V.ref)) → TupsAt H' ts (List.replicate 12 [v, v]) → Q (.ref l) H'
def dues (v u : V) : List (List V) := [[v, v], [u, u], [v, v], [u, u], [v, v], [u, u], [v, v], [u, u], [v, v], [u, u], [v, v], [u, u]]
def spMore : Sp := fun vs H Q _ => ∃ v u : V, vs = [v, u] ∧ ∀ (l : Addr) (ts : List Addr) (H' : Hp), H l = none → Same H H' → H' l = some (.lst (ts.map V.ref)) → TupsAt H' ts (dues v u) → Q (.ref l) H'
section
variable {P : Program} {w : World} {K : PySem.W.Frag} {mg : Str → Option Value} {base : Heap} {p : Ads}
theorem ok_l_alone {f : Addr} {fd : FuncData} (F : Fun K "_law_alone" "_law_alone" s_l_alone f fd) (T : TxtE K mg p) : FnOk P w K mg base CX0 3 f fd P_l_alone spAlone := by
  refine F.ok sc_l_alone (fun vs H Q E h => ?_) (fun cdv A outer s H vs Q E hr h => ?_)
  · obtain ⟨v, rfl, _⟩ := h
    rfl
  · obtain ⟨v, rfl, k⟩ := h
    refine ⟨_, (pss_one (ps_ret (pe_lst (pa_cons (pe_tup (pa_cons (pe_errF (pe_mkV (n := 1) T.BadValue.ec (ok_BadValue_init T.BadValue.F T.BadValue.ec.ox T.BadValue.no) (hr.mono (by decide)) (by rfl) T.BadValue.gC (kp_BadValue_init T.BadValue.F) pass0 (pa_cons (pv 0) pa_nil))) (pa_cons (pe_errF (pe_mkVK0 T.BadValue.ec (ok_BadValue_init T.BadValue.F T.BadValue.ec.ox T.BadValue.no) (hr.mono (by decide)) (by rfl) T.BadValue.gC (kk_BadValue_init T.BadValue.F) pass0 (pk_cons (pv 0) pk_nil))) pa_nil))) (pa_cons (pe_tup (pa_cons (pe_errF (pe_mkV (n := 1) T.TooHigh.ec (ok_TooHigh_init T.TooHigh.F T.TooHigh.ec.ox T.TooHigh.no) (hr.mono (by decide)) (by rfl) T.TooHigh.gC (kp_TooHigh_init T.TooHigh.F) pass0 (pa_cons (pv 0) pa_nil))) (pa_cons (pe_errF (pe_mkVK0 T.TooHigh.ec (ok_TooHigh_init T.TooHigh.F T.TooHigh.ec.ox T.TooHigh.no) (hr.mono (by decide)) (by rfl) T.TooHigh.gC (kk_TooHigh_init T.TooHigh.F) pass0 (pk_cons (pv 0) pk_nil))) pa_nil))) (pa_cons (pe_tup (pa_cons (pe_errF (pe_mkV (n := 1) T.TooMany.ec (ok_TooMany_init T.TooMany.F T.TooMany.ec.ox T.TooMany.no) (hr.mono (by decide)) (by rfl) T.TooMany.gC (kp_TooMany_init T.TooMany.F) pass0 (pa_cons (pv 0) pa_nil))) (pa_cons (pe_errF (pe_mkVK0 T.TooMany.ec (ok_TooMany_init T.TooMany.F T.TooMany.ec.ox T.TooMany.no) (hr.mono (by decide)) (by rfl) T.TooMany.gC (kk_TooMany_init T.TooMany.F) pass0 (pk_cons (pv 0) pk_nil))) pa_nil))) (pa_cons (pe_tup (pa_cons (pe_errF (pe_mkV (n := 1) T.NotAFormula.ec (ok_NotAFormula_init T.NotAFormula.F T.NotAFormula.ec.ox T.NotAFormula.no) (hr.mono (by decide)) (by rfl) T.NotAFormula.gC (kp_NotAFormula_init T.NotAFormula.F) pass0 (pa_cons (pv 0) pa_nil))) (pa_cons (pe_errF (pe_mkVK0 T.NotAFormula.ec (ok_NotAFormula_init T.NotAFormula.F T.NotAFormula.ec.ox T.NotAFormula.no) (hr.mono (by decide)) (by rfl) T.NotAFormula.gC (kk_NotAFormula_init T.NotAFormula.F) pass0 (pk_cons (pv 0) pk_nil))) pa_nil))) (pa_cons (pe_tup (pa_cons (pe_errF (pe_mkV (n := 1) T.NotANumber.ec (ok_NotANumber_init T.NotANumber.F T.NotANumber.ec.ox T.NotANumber.no) (hr.mono (by decide)) (by rfl) T.NotANumber.gC (kp_NotANumber_init T.NotANumber.F) pass0 (pa_cons (pv 0) pa_nil))) (pa_cons (pe_errF (pe_mkVK0 T.NotANumber.ec (ok_NotANumber_init T.NotANumber.F T.NotANumber.ec.ox T.NotANumber.no) (hr.mono (by decide)) (by rfl) T.NotANumber.gC (kk_NotANumber_init T.NotANumber.F) pass0 (pk_cons (pv 0) pk_nil))) pa_nil))) (pa_cons (pe_tup (pa_cons (pe_errF (pe_mkV (n := 1) T.NotAFormat.ec (ok_NotAFormat_init T.NotAFormat.F T.NotAFormat.ec.ox T.NotAFormat.no) (hr.mono (by decide)) (by rfl) T.NotAFormat.gC (kp_NotAFormat_init T.NotAFormat.F) pass0 (pa_cons (pv 0) pa_nil))) (pa_cons (pe_errF (pe_mkVK0 T.NotAFormat.ec (ok_NotAFormat_init T.NotAFormat.F T.NotAFormat.ec.ox T.NotAFormat.no) (hr.mono (by decide)) (by rfl) T.NotAFormat.gC (kk_NotAFormat_init T.NotAFormat.F) pass0 (pk_cons (pv 0) pk_nil))) pa_nil))) (pa_cons (pe_tup (pa_cons (pe_errF (pe_mkV (n := 1) T.NotAName.ec (ok_NotAName_init T.NotAName.F T.NotAName.ec.ox T.NotAName.no) (hr.mono (by decide)) (by rfl) T.NotAName.gC (kp_NotAName_init T.NotAName.F) pass0 (pa_cons (pv 0) pa_nil))) (pa_cons (pe_errF (pe_mkVK0 T.NotAName.ec (ok_NotAName_init T.NotAName.F T.NotAName.ec.ox T.NotAName.no) (hr.mono (by decide)) (by rfl) T.NotAName.gC (kk_NotAName_init T.NotAName.F) pass0 (pk_cons (pv 0) pk_nil))) pa_nil))) (pa_cons (pe_tup (pa_cons (pe_errF (pe_mkV (n := 1) T.Unknown.ec (ok_Unknown_init T.Unknown.F T.Unknown.ec.ox T.Unknown.no) (hr.mono (by decide)) (by rfl) T.Unknown.gC (kp_Unknown_init T.Unknown.F) pass0 (pa_cons (pv 0) pa_nil))) (pa_cons (pe_errF (pe_mkVK0 T.Unknown.ec (ok_Unknown_init T.Unknown.F T.Unknown.ec.ox T.Unknown.no) (hr.mono (by decide)) (by rfl) T.Unknown.gC (kk_Unknown_init T.Unknown.F) pass0 (pk_cons (pv 0) pk_nil))) pa_nil))) (pa_cons (pe_tup (pa_cons (pe_errF (pe_mkV (n := 1) T.Taken.ec (ok_Taken_init T.Taken.F T.Taken.ec.ox T.Taken.no) (hr.mono (by decide)) (by rfl) T.Taken.gC (kp_Taken_init T.Taken.F) pass0 (pa_cons (pv 0) pa_nil))) (pa_cons (pe_errF (pe_mkVK0 T.Taken.ec (ok_Taken_init T.Taken.F T.Taken.ec.ox T.Taken.no) (hr.mono (by decide)) (by rfl) T.Taken.gC (kk_Taken_init T.Taken.F) pass0 (pk_cons (pv 0) pk_nil))) pa_nil))) (pa_cons (pe_tup (pa_cons (pe_errF (pe_mkV (n := 1) T.BadPromise.ec (ok_BadPromise_init T.BadPromise.F T.BadPromise.ec.ox T.BadPromise.no) (hr.mono (by decide)) (by rfl) T.BadPromise.gC (kp_BadPromise_init T.BadPromise.F) pass0 (pa_cons (pv 0) pa_nil))) (pa_cons (pe_errF (pe_mkVK0 T.BadPromise.ec (ok_BadPromise_init T.BadPromise.F T.BadPromise.ec.ox T.BadPromise.no) (hr.mono (by decide)) (by rfl) T.BadPromise.gC (kk_BadPromise_init T.BadPromise.F) pass0 (pk_cons (pv 0) pk_nil))) pa_nil))) (pa_cons (pe_tup (pa_cons (pe_errF (pe_mkV (n := 1) T.NotMade.ec (ok_NotMade_init T.NotMade.F T.NotMade.ec.ox T.NotMade.no) (hr.mono (by decide)) (by rfl) T.NotMade.gC (kp_NotMade_init T.NotMade.F) pass0 (pa_cons (pv 0) pa_nil))) (pa_cons (pe_errF (pe_mkVK0 T.NotMade.ec (ok_NotMade_init T.NotMade.F T.NotMade.ec.ox T.NotMade.no) (hr.mono (by decide)) (by rfl) T.NotMade.gC (kk_NotMade_init T.NotMade.F) pass0 (pk_cons (pv 0) pk_nil))) pa_nil))) (pa_cons (pe_tup (pa_cons (pe_errF (pe_mkV (n := 1) T.Turns.ec (ok_Turns_init T.Turns.F T.Turns.ec.ox T.Turns.no) (hr.mono (by decide)) (by rfl) T.Turns.gC (kp_Turns_init T.Turns.F) pass0 (pa_cons (pv 0) pa_nil))) (pa_cons (pe_errF (pe_mkVK0 T.Turns.ec (ok_Turns_init T.Turns.F T.Turns.ec.ox T.Turns.no) (hr.mono (by decide)) (by rfl) T.Turns.gC (kk_Turns_init T.Turns.F) pass0 (pk_cons (pv 0) pk_nil))) pa_nil))) pa_nil))))))))))))))), ?_⟩
    exact elt_lst (ets_cons (eu_tup (ea_cons (ev_e1p T.BadValue.xf T.BadValue.no (ea_cons (ev_var rfl) ea_nil) (fun _ => rfl)) (ea_cons (ev_e1k T.BadValue.xf T.BadValue.no (ea_cons (ev_var rfl) ea_nil) (fun _ => rfl)) ea_nil)) (by show 2 ≤ 100000; decide)) (ets_cons (eu_tup (ea_cons (ev_e1p T.TooHigh.xf T.TooHigh.no (ea_cons (ev_var rfl) ea_nil) (fun _ => rfl)) (ea_cons (ev_e1k T.TooHigh.xf T.TooHigh.no (ea_cons (ev_var rfl) ea_nil) (fun _ => rfl)) ea_nil)) (by show 2 ≤ 100000; decide)) (ets_cons (eu_tup (ea_cons (ev_e1p T.TooMany.xf T.TooMany.no (ea_cons (ev_var rfl) ea_nil) (fun _ => rfl)) (ea_cons (ev_e1k T.TooMany.xf T.TooMany.no (ea_cons (ev_var rfl) ea_nil) (fun _ => rfl)) ea_nil)) (by show 2 ≤ 100000; decide)) (ets_cons (eu_tup (ea_cons (ev_e1p T.NotAFormula.xf T.NotAFormula.no (ea_cons (ev_var rfl) ea_nil) (fun _ => rfl)) (ea_cons (ev_e1k T.NotAFormula.xf T.NotAFormula.no (ea_cons (ev_var rfl) ea_nil) (fun _ => rfl)) ea_nil)) (by show 2 ≤ 100000; decide)) (ets_cons (eu_tup (ea_cons (ev_e1p T.NotANumber.xf T.NotANumber.no (ea_cons (ev_var rfl) ea_nil) (fun _ => rfl)) (ea_cons (ev_e1k T.NotANumber.xf T.NotANumber.no (ea_cons (ev_var rfl) ea_nil) (fun _ => rfl)) ea_nil)) (by show 2 ≤ 100000; decide)) (ets_cons (eu_tup (ea_cons (ev_e1p T.NotAFormat.xf T.NotAFormat.no (ea_cons (ev_var rfl) ea_nil) (fun _ => rfl)) (ea_cons (ev_e1k T.NotAFormat.xf T.NotAFormat.no (ea_cons (ev_var rfl) ea_nil) (fun _ => rfl)) ea_nil)) (by show 2 ≤ 100000; decide)) (ets_cons (eu_tup (ea_cons (ev_e1p T.NotAName.xf T.NotAName.no (ea_cons (ev_var rfl) ea_nil) (fun _ => rfl)) (ea_cons (ev_e1k T.NotAName.xf T.NotAName.no (ea_cons (ev_var rfl) ea_nil) (fun _ => rfl)) ea_nil)) (by show 2 ≤ 100000; decide)) (ets_cons (eu_tup (ea_cons (ev_e1p T.Unknown.xf T.Unknown.no (ea_cons (ev_var rfl) ea_nil) (fun _ => rfl)) (ea_cons (ev_e1k T.Unknown.xf T.Unknown.no (ea_cons (ev_var rfl) ea_nil) (fun _ => rfl)) ea_nil)) (by show 2 ≤ 100000; decide)) (ets_cons (eu_tup (ea_cons (ev_e1p T.Taken.xf T.Taken.no (ea_cons (ev_var rfl) ea_nil) (fun _ => rfl)) (ea_cons (ev_e1k T.Taken.xf T.Taken.no (ea_cons (ev_var rfl) ea_nil) (fun _ => rfl)) ea_nil)) (by show 2 ≤ 100000; decide)) (ets_cons (eu_tup (ea_cons (ev_e1p T.BadPromise.xf T.BadPromise.no (ea_cons (ev_var rfl) ea_nil) (fun _ => rfl)) (ea_cons (ev_e1k T.BadPromise.xf T.BadPromise.no (ea_cons (ev_var rfl) ea_nil) (fun _ => rfl)) ea_nil)) (by show 2 ≤ 100000; decide)) (ets_cons (eu_tup (ea_cons (ev_e1p T.NotMade.xf T.NotMade.no (ea_cons (ev_var rfl) ea_nil) (fun _ => rfl)) (ea_cons (ev_e1k T.NotMade.xf T.NotMade.no (ea_cons (ev_var rfl) ea_nil) (fun _ => rfl)) ea_nil)) (by show 2 ≤ 100000; decide)) (ets_cons (eu_tup (ea_cons (ev_e1p T.Turns.xf T.Turns.no (ea_cons (ev_var rfl) ea_nil) (fun _ => rfl)) (ea_cons (ev_e1k T.Turns.xf T.Turns.no (ea_cons (ev_var rfl) ea_nil) (fun _ => rfl)) ea_nil)) (by show 2 ≤ 100000; decide)) ets_nil)))))))))))) (by show 12 ≤ 100000; decide) H (Ex.refl H) _ fun l ts H' hl e hL ht => k l ts H' hl e hL ht
theorem ok_l_more {f : Addr} {fd : FuncData} (F : Fun K "_law_more" "_law_more" s_l_more f fd) (T : TxtE K mg p) : FnOk P w K mg base CX0 3 f fd P_l_more spMore := by
  refine F.ok sc_l_more (fun vs H Q E h => ?_) (fun cdv A outer s H vs Q E hr h => ?_)
  · obtain ⟨v, u, rfl, _⟩ := h
    rfl
  · obtain ⟨v, u, rfl, k⟩ := h
    refine ⟨_, (pss_cons (ps_set (i := 2) sc_l_more.nd rfl (Or.inl rfl) (pe_lst pa_nil))
      (pss_cons (ps_expr (pe_bm PySem.F.plainAttrs_list PySem.F.slot_list_append PySem.F.type_list_append mt_append (pv 2) (pa_cons (pe_tup (pa_cons (pe_errF (pe_mkV (n := 2) T.OffGrid.ec (ok_OffGrid_init T.OffGrid.F T.OffGrid.ec.ox T.OffGrid.no T.OffGrid.no2) (hr.mono (by decide)) (by rfl) T.OffGrid.gC (kp_OffGrid_init T.OffGrid.F) pass0 (pa_cons (pv 0) (pa_cons (pv 1) pa_nil)))) (pa_cons (pv 0) pa_nil))) pa_nil)))
      (pss_cons (ps_expr (pe_bm PySem.F.plainAttrs_list PySem.F.slot_list_append PySem.F.type_list_append mt_append (pv 2) (pa_cons (pe_tup (pa_cons (pe_errF (pe_mkVK (n := 1) T.OffGrid.ec (ok_OffGrid_init T.OffGrid.F T.OffGrid.ec.ox T.OffGrid.no T.OffGrid.no2) (hr.mono (by decide)) (by rfl) T.OffGrid.gC (km_OffGrid_init T.OffGrid.F) pass0 (pa_cons (pv 0) pa_nil) (pk_cons (pv 1) pk_nil))) (pa_cons (pv 1) pa_nil))) pa_nil)))
      (pss_cons (ps_expr (pe_bm PySem.F.plainAttrs_list PySem.F.slot_list_append PySem.F.type_list_append mt_append (pv 2) (pa_cons (pe_tup (pa_cons (pe_errF (pe_mkVK0 T.OffGrid.ec (ok_OffGrid_init T.OffGrid.F T.OffGrid.ec.ox T.OffGrid.no T.OffGrid.no2) (hr.mono (by decide)) (by rfl) T.OffGrid.gC (kk_OffGrid_init T.OffGrid.F) pass0 (pk_cons (pv 0) (pk_cons (pv 1) pk_nil)))) (pa_cons (pv 0) pa_nil))) pa_nil)))
      (pss_cons (ps_expr (pe_bm PySem.F.plainAttrs_list PySem.F.slot_list_append PySem.F.type_list_append mt_append (pv 2) (pa_cons (pe_tup (pa_cons (pe_errF (pe_mkVK0 T.OffGrid.ec (ok_OffGrid_init T.OffGrid.F T.OffGrid.ec.ox T.OffGrid.no T.OffGrid.no2) (hr.mono (by decide)) (by rfl) T.OffGrid.gC (kk_OffGrid_init T.OffGrid.F) pass0 (pk_cons (pv 0) (pk_cons (pv 1) pk_nil)))) (pa_cons (pv 1) pa_nil))) pa_nil)))
      (pss_cons (ps_expr (pe_bm PySem.F.plainAttrs_list PySem.F.slot_list_append PySem.F.type_list_append mt_append (pv 2) (pa_cons (pe_tup (pa_cons (pe_errF (pe_mkV (n := 2) T.BadFile.ec (ok_BadFile_init T.BadFile.F T.BadFile.ec.ox T.BadFile.no T.BadFile.no2) (hr.mono (by decide)) (by rfl) T.BadFile.gC (kp_BadFile_init T.BadFile.F) pass0 (pa_cons (pv 0) (pa_cons (pv 1) pa_nil)))) (pa_cons (pv 0) pa_nil))) pa_nil)))
      (pss_cons (ps_expr (pe_bm PySem.F.plainAttrs_list PySem.F.slot_list_append PySem.F.type_list_append mt_append (pv 2) (pa_cons (pe_tup (pa_cons (pe_errF (pe_mkVK (n := 1) T.BadFile.ec (ok_BadFile_init T.BadFile.F T.BadFile.ec.ox T.BadFile.no T.BadFile.no2) (hr.mono (by decide)) (by rfl) T.BadFile.gC (km_BadFile_init T.BadFile.F) pass0 (pa_cons (pv 0) pa_nil) (pk_cons (pv 1) pk_nil))) (pa_cons (pv 1) pa_nil))) pa_nil)))
      (pss_cons (ps_expr (pe_bm PySem.F.plainAttrs_list PySem.F.slot_list_append PySem.F.type_list_append mt_append (pv 2) (pa_cons (pe_tup (pa_cons (pe_errF (pe_mkVK0 T.BadFile.ec (ok_BadFile_init T.BadFile.F T.BadFile.ec.ox T.BadFile.no T.BadFile.no2) (hr.mono (by decide)) (by rfl) T.BadFile.gC (kk_BadFile_init T.BadFile.F) pass0 (pk_cons (pv 0) (pk_cons (pv 1) pk_nil)))) (pa_cons (pv 0) pa_nil))) pa_nil)))
      (pss_cons (ps_expr (pe_bm PySem.F.plainAttrs_list PySem.F.slot_list_append PySem.F.type_list_append mt_append (pv 2) (pa_cons (pe_tup (pa_cons (pe_errF (pe_mkVK0 T.BadFile.ec (ok_BadFile_init T.BadFile.F T.BadFile.ec.ox T.BadFile.no T.BadFile.no2) (hr.mono (by decide)) (by rfl) T.BadFile.gC (kk_BadFile_init T.BadFile.F) pass0 (pk_cons (pv 0) (pk_cons (pv 1) pk_nil)))) (pa_cons (pv 1) pa_nil))) pa_nil)))
      (pss_cons (ps_expr (pe_bm PySem.F.plainAttrs_list PySem.F.slot_list_append PySem.F.type_list_append mt_append (pv 2) (pa_cons (pe_tup (pa_cons (pe_errF (pe_mkV (n := 2) T.Broken.ec (ok_Broken_init T.Broken.F T.Broken.ec.ox T.Broken.no T.Broken.no2) (hr.mono (by decide)) (by rfl) T.Broken.gC (kp_Broken_init T.Broken.F) pass0 (pa_cons (pv 0) (pa_cons (pv 1) pa_nil)))) (pa_cons (pv 0) pa_nil))) pa_nil)))
      (pss_cons (ps_expr (pe_bm PySem.F.plainAttrs_list PySem.F.slot_list_append PySem.F.type_list_append mt_append (pv 2) (pa_cons (pe_tup (pa_cons (pe_errF (pe_mkVK (n := 1) T.Broken.ec (ok_Broken_init T.Broken.F T.Broken.ec.ox T.Broken.no T.Broken.no2) (hr.mono (by decide)) (by rfl) T.Broken.gC (km_Broken_init T.Broken.F) pass0 (pa_cons (pv 0) pa_nil) (pk_cons (pv 1) pk_nil))) (pa_cons (pv 1) pa_nil))) pa_nil)))
      (pss_cons (ps_expr (pe_bm PySem.F.plainAttrs_list PySem.F.slot_list_append PySem.F.type_list_append mt_append (pv 2) (pa_cons (pe_tup (pa_cons (pe_errF (pe_mkVK0 T.Broken.ec (ok_Broken_init T.Broken.F T.Broken.ec.ox T.Broken.no T.Broken.no2) (hr.mono (by decide)) (by rfl) T.Broken.gC (kk_Broken_init T.Broken.F) pass0 (pk_cons (pv 0) (pk_cons (pv 1) pk_nil)))) (pa_cons (pv 0) pa_nil))) pa_nil)))
      (pss_cons (ps_expr (pe_bm PySem.F.plainAttrs_list PySem.F.slot_list_append PySem.F.type_list_append mt_append (pv 2) (pa_cons (pe_tup (pa_cons (pe_errF (pe_mkVK0 T.Broken.ec (ok_Broken_init T.Broken.F T.Broken.ec.ox T.Broken.no T.Broken.no2) (hr.mono (by decide)) (by rfl) T.Broken.gC (kk_Broken_init T.Broken.F) pass0 (pk_cons (pv 0) (pk_cons (pv 1) pk_nil)))) (pa_cons (pv 1) pa_nil))) pa_nil)))
      (pss_one (ps_ret (pv 2)))))))))))))))), ?_⟩
    refine ⟨by decide, fun l hl => ?_⟩
    have G0 : Grown H (upd H l (.lst [])) l [] [] := ⟨hl, Ex.new hl, upd_same, .nil⟩
    refine grow G0 rfl (eu_tup (ea_cons (ev_e2 (f := "row") (g := "column") (v := v) (u := u) (z := v) T.OffGrid.xf T.OffGrid.no (ea_cons (ev_var rfl) (ea_cons (ev_var rfl) ea_nil)) ea_nil rfl rfl (by decide) (fun _ => rfl) rfl) (ea_cons (ev_var rfl) ea_nil)) (by show 2 ≤ 100000; decide)) (by show 0 < 1000; decide) fun p1 H1 G1 => ?_
    refine grow G1 rfl (eu_tup (ea_cons (ev_e2 (f := "row") (g := "column") (v := v) (u := u) (z := u) T.OffGrid.xf T.OffGrid.no2 (ea_cons (ev_var rfl) ea_nil) (ea_cons (ev_var rfl) ea_nil) rfl rfl (by decide) (fun _ => rfl) rfl) (ea_cons (ev_var rfl) ea_nil)) (by show 2 ≤ 100000; decide)) (by show 1 < 1000; decide) fun p2 H2 G2 => ?_
    refine grow G2 rfl (eu_tup (ea_cons (ev_e2 (f := "row") (g := "column") (v := u) (u := v) (z := v) T.OffGrid.xf T.OffGrid.no2 ea_nil (ea_cons (ev_var rfl) (ea_cons (ev_var rfl) ea_nil)) rfl rfl (by decide) (fun _ => rfl) rfl) (ea_cons (ev_var rfl) ea_nil)) (by show 2 ≤ 100000; decide)) (by show 2 < 1000; decide) fun p3 H3 G3 => ?_
    refine grow G3 rfl (eu_tup (ea_cons (ev_e2 (f := "row") (g := "column") (v := u) (u := v) (z := u) T.OffGrid.xf T.OffGrid.no ea_nil (ea_cons (ev_var rfl) (ea_cons (ev_var rfl) ea_nil)) rfl rfl (by decide) (fun _ => rfl) rfl) (ea_cons (ev_var rfl) ea_nil)) (by show 2 ≤ 100000; decide)) (by show 3 < 1000; decide) fun p4 H4 G4 => ?_
    refine grow G4 rfl (eu_tup (ea_cons (ev_e2 (f := "line") (g := "at") (v := v) (u := u) (z := v) T.BadFile.xf T.BadFile.no (ea_cons (ev_var rfl) (ea_cons (ev_var rfl) ea_nil)) ea_nil rfl rfl (by decide) (fun _ => rfl) rfl) (ea_cons (ev_var rfl) ea_nil)) (by show 2 ≤ 100000; decide)) (by show 4 < 1000; decide) fun p5 H5 G5 => ?_
    refine grow G5 rfl (eu_tup (ea_cons (ev_e2 (f := "line") (g := "at") (v := v) (u := u) (z := u) T.BadFile.xf T.BadFile.no2 (ea_cons (ev_var rfl) ea_nil) (ea_cons (ev_var rfl) ea_nil) rfl rfl (by decide) (fun _ => rfl) rfl) (ea_cons (ev_var rfl) ea_nil)) (by show 2 ≤ 100000; decide)) (by show 5 < 1000; decide) fun p6 H6 G6 => ?_
    refine grow G6 rfl (eu_tup (ea_cons (ev_e2 (f := "line") (g := "at") (v := u) (u := v) (z := v) T.BadFile.xf T.BadFile.no2 ea_nil (ea_cons (ev_var rfl) (ea_cons (ev_var rfl) ea_nil)) rfl rfl (by decide) (fun _ => rfl) rfl) (ea_cons (ev_var rfl) ea_nil)) (by show 2 ≤ 100000; decide)) (by show 6 < 1000; decide) fun p7 H7 G7 => ?_
    refine grow G7 rfl (eu_tup (ea_cons (ev_e2 (f := "line") (g := "at") (v := u) (u := v) (z := u) T.BadFile.xf T.BadFile.no ea_nil (ea_cons (ev_var rfl) (ea_cons (ev_var rfl) ea_nil)) rfl rfl (by decide) (fun _ => rfl) rfl) (ea_cons (ev_var rfl) ea_nil)) (by show 2 ≤ 100000; decide)) (by show 7 < 1000; decide) fun p8 H8 G8 => ?_
    refine grow G8 rfl (eu_tup (ea_cons (ev_e2 (f := "promise") (g := "where") (v := v) (u := u) (z := v) T.Broken.xf T.Broken.no (ea_cons (ev_var rfl) (ea_cons (ev_var rfl) ea_nil)) ea_nil rfl rfl (by decide) (fun _ => rfl) rfl) (ea_cons (ev_var rfl) ea_nil)) (by show 2 ≤ 100000; decide)) (by show 8 < 1000; decide) fun p9 H9 G9 => ?_
    refine grow G9 rfl (eu_tup (ea_cons (ev_e2 (f := "promise") (g := "where") (v := v) (u := u) (z := u) T.Broken.xf T.Broken.no2 (ea_cons (ev_var rfl) ea_nil) (ea_cons (ev_var rfl) ea_nil) rfl rfl (by decide) (fun _ => rfl) rfl) (ea_cons (ev_var rfl) ea_nil)) (by show 2 ≤ 100000; decide)) (by show 9 < 1000; decide) fun p10 H10 G10 => ?_
    refine grow G10 rfl (eu_tup (ea_cons (ev_e2 (f := "promise") (g := "where") (v := u) (u := v) (z := v) T.Broken.xf T.Broken.no2 ea_nil (ea_cons (ev_var rfl) (ea_cons (ev_var rfl) ea_nil)) rfl rfl (by decide) (fun _ => rfl) rfl) (ea_cons (ev_var rfl) ea_nil)) (by show 2 ≤ 100000; decide)) (by show 10 < 1000; decide) fun p11 H11 G11 => ?_
    refine grow G11 rfl (eu_tup (ea_cons (ev_e2 (f := "promise") (g := "where") (v := u) (u := v) (z := u) T.Broken.xf T.Broken.no ea_nil (ea_cons (ev_var rfl) (ea_cons (ev_var rfl) ea_nil)) rfl rfl (by decide) (fun _ => rfl) rfl) (ea_cons (ev_var rfl) ea_nil)) (by show 2 ≤ 100000; decide)) (by show 11 < 1000; decide) fun p12 H12 G12 => ?_
    exact ⟨_, rfl, k l _ _ hl G12.ex G12.at_ G12.tp⟩
end
end K00

set_option Elab.async false
set_option linter.all false
set_option maxRecDepth 100000
set_option maxHeartbeats 4000000
namespace K00
open PySem PySem.Spec PyProof.Rows L2 Pen EV2 Evl
abbrev s_l_kinds : Stmt := topS 27
abbrev N_l_kinds : List Str := ["_law_error", "_law_told", "_law_once"]
abbrev P_l_kinds : List Str := ["_law_error"]
theorem sc_l_kinds : FnScope N_l_kinds P_l_kinds (defScope s_l_kinds) := ⟨rfl, rfl, rfl, by decide +kernel, rfl, by decide +kernel, by decide +kernel⟩
abbrev s_l_apart : Stmt := topS 28
abbrev N_l_apart : List Str := ["_law_mine", "_law_yours", "_law_made", "_law_last", "_law_k", "_law_error"]
abbrev P_l_apart : List Str := ["_law_mine", "_law_yours"]
theorem sc_l_apart : FnScope N_l_apart P_l_apart (defScope s_l_apart) := ⟨rfl, rfl, rfl, by decide +kernel, rfl, by decide +kernel, by decide +kernel⟩
def Ads.all (p : Ads) : List Addr := [p.BadValue, p.NoDivisor, p.NotTold, p.TooHigh, p.TooMany, p.NotAFormula, p.NotANumber, p.NotAFormat, p.NotAName, p.OffGrid, p.Unknown, p.Taken, p.BadFile, p.BadPromise, p.Broken, p.NotMade, p.NothingToUndo, p.NothingToRedo, p.Turns]
/-- what isinstance asks of all of them; S their base -/
structure TxtK (K : PySem.W.Frag) (mg : Str → Option Value) (p : Ads) (S : Addr) : Prop where
  E : TxtE K mg p
  line : ∀ C ∈ p.all, LineOf K S C
  nS : ∀ C ∈ p.all, C ≠ S
  nd : p.all.Nodup
  n_isi : mg "isinstance" = none
  n_int : mg "int" = none
theorem TxtK.g_BadValue {K : PySem.W.Frag} {mg : Str → Option Value} {p : Ads} {S : Addr} (T : TxtK K mg p S) : mg "BadValue" = some (.ref p.BadValue) := T.E.BadValue.gC
theorem TxtK.g_NoDivisor {K : PySem.W.Frag} {mg : Str → Option Value} {p : Ads} {S : Addr} (T : TxtK K mg p S) : mg "NoDivisor" = some (.ref p.NoDivisor) := T.E.NoDivisor.gC
theorem TxtK.g_NotTold {K : PySem.W.Frag} {mg : Str → Option Value} {p : Ads} {S : Addr} (T : TxtK K mg p S) : mg "NotTold" = some (.ref p.NotTold) := T.E.NotTold.gC
theorem TxtK.g_TooHigh {K : PySem.W.Frag} {mg : Str → Option Value} {p : Ads} {S : Addr} (T : TxtK K mg p S) : mg "TooHigh" = some (.ref p.TooHigh) := T.E.TooHigh.gC
theorem TxtK.g_TooMany {K : PySem.W.Frag} {mg : Str → Option Value} {p : Ads} {S : Addr} (T : TxtK K mg p S) : mg "TooMany" = some (.ref p.TooMany) := T.E.TooMany.gC
theorem TxtK.g_NotAFormula {K : PySem.W.Frag} {mg : Str → Option Value} {p : Ads} {S : Addr} (T : TxtK K mg p S) : mg "NotAFormula" = some (.ref p.NotAFormula) := T.E.NotAFormula.gC
theorem TxtK.g_NotANumber {K : PySem.W.Frag} {mg : Str → Option Value} {p : Ads} {S : Addr} (T : TxtK K mg p S) : mg "NotANumber" = some (.ref p.NotANumber) := T.E.NotANumber.gC
theorem TxtK.g_NotAFormat {K : PySem.W.Frag} {mg : Str → Option Value} {p : Ads} {S : Addr} (T : TxtK K mg p S) : mg "NotAFormat" = some (.ref p.NotAFormat) := T.E.NotAFormat.gC
theorem TxtK.g_NotAName {K : PySem.W.Frag} {mg : Str → Option Value} {p : Ads} {S : Addr} (T : TxtK K mg p S) : mg "NotAName" = some (.ref p.NotAName) := T.E.NotAName.gC
theorem TxtK.g_OffGrid {K : PySem.W.Frag} {mg : Str → Option Value} {p : Ads} {S : Addr} (T : TxtK K mg p S) : mg "OffGrid" = some (.ref p.OffGrid) := T.E.OffGrid.gC
theorem TxtK.g_Unknown {K : PySem.W.Frag} {mg : Str → Option Value} {p : Ads} {S : Addr} (T : TxtK K mg p S) : mg "Unknown" = some (.ref p.Unknown) := T.E.Unknown.gC
theorem TxtK.g_Taken {K : PySem.W.Frag} {mg : Str → Option Value} {p : Ads} {S : Addr} (T : TxtK K mg p S) : mg "Taken" = some (.ref p.Taken) := T.E.Taken.gC
theorem TxtK.g_BadFile {K : PySem.W.Frag} {mg : Str → Option Value} {p : Ads} {S : Addr} (T : TxtK K mg p S) : mg "BadFile" = some (.ref p.BadFile) := T.E.BadFile.gC
theorem TxtK.g_BadPromise {K : PySem.W.Frag} {mg : Str → Option Value} {p : Ads} {S : Addr} (T : TxtK K mg p S) : mg "BadPromise" = some (.ref p.BadPromise) := T.E.BadPromise.gC
theorem TxtK.g_Broken {K : PySem.W.Frag} {mg : Str → Option Value} {p : Ads} {S : Addr} (T : TxtK K mg p S) : mg "Broken" = some (.ref p.Broken) := T.E.Broken.gC
theorem TxtK.g_NotMade {K : PySem.W.Frag} {mg : Str → Option Value} {p : Ads} {S : Addr} (T : TxtK K mg p S) : mg "NotMade" = some (.ref p.NotMade) := T.E.NotMade.gC
theorem TxtK.g_NothingToUndo {K : PySem.W.Frag} {mg : Str → Option Value} {p : Ads} {S : Addr} (T : TxtK K mg p S) : mg "NothingToUndo" = some (.ref p.NothingToUndo) := T.E.NothingToUndo.gC
theorem TxtK.g_NothingToRedo {K : PySem.W.Frag} {mg : Str → Option Value} {p : Ads} {S : Addr} (T : TxtK K mg p S) : mg "NothingToRedo" = some (.ref p.NothingToRedo) := T.E.NothingToRedo.gC
theorem TxtK.g_Turns {K : PySem.W.Frag} {mg : Str → Option Value} {p : Ads} {S : Addr} (T : TxtK K mg p S) : mg "Turns" = some (.ref p.Turns) := T.E.Turns.gC

def spKinds (K : PySem.W.Frag) (p : Ads) (S : Addr) : Sp := fun vs H Q _ => ∃ (x : V) (D : Addr), vs = [x] ∧ ErrAt H x D ∧ ExcC K D ∧ LineOf K S D ∧
  ∀ (l : Addr) (H' : Hp), H l = none → Same H H' → H' l = some (.lst ((marks p.all D).map V.int)) → Q (.ref l) H'
section
variable {P : Program} {w : World} {K : PySem.W.Frag} {mg : Str → Option Value} {base : Heap} {p : Ads} {S : Addr}
theorem ok_l_kinds {f : Addr} {fd : FuncData} (F : Fun K "_law_kinds" "_law_kinds" s_l_kinds f fd) (T : TxtK K mg p S) : FnOk P w K mg base CX0 1 f fd P_l_kinds (spKinds K p S) := by
  refine F.ok sc_l_kinds (fun vs H Q E h => ?_) (fun cdv A outer s H vs Q E hr h => ?_)
  · obtain ⟨x, D, rfl, _⟩ := h
    rfl
  · obtain ⟨x, D, rfl, hx, hC, hL, k⟩ := h
    refine ⟨_, (pss_cons (ps_set (i := 1) sc_l_kinds.nd rfl (Or.inl rfl) (pe_lst pa_nil))
      (pss_cons (ps_set (i := 1) sc_l_kinds.nd rfl (Or.inl rfl) (pe_op op_cat (pv 1) (pe_lst (pa_cons (pe_callB call_isV (by rfl) T.n_isi (by decide +kernel) (pa_cons (pv 0) (pa_cons (pe_glob (v := .ref p.BadValue) (by rfl) T.g_BadValue rfl) pa_nil))) (pa_cons (pe_callB call_isV (by rfl) T.n_isi (by decide +kernel) (pa_cons (pv 0) (pa_cons (pe_glob (v := .ref p.NoDivisor) (by rfl) T.g_NoDivisor rfl) pa_nil))) (pa_cons (pe_callB call_isV (by rfl) T.n_isi (by decide +kernel) (pa_cons (pv 0) (pa_cons (pe_glob (v := .ref p.NotTold) (by rfl) T.g_NotTold rfl) pa_nil))) pa_nil))))))
      (pss_cons (ps_set (i := 1) sc_l_kinds.nd rfl (Or.inl rfl) (pe_op op_cat (pv 1) (pe_lst (pa_cons (pe_callB call_isV (by rfl) T.n_isi (by decide +kernel) (pa_cons (pv 0) (pa_cons (pe_glob (v := .ref p.TooHigh) (by rfl) T.g_TooHigh rfl) pa_nil))) (pa_cons (pe_callB call_isV (by rfl) T.n_isi (by decide +kernel) (pa_cons (pv 0) (pa_cons (pe_glob (v := .ref p.TooMany) (by rfl) T.g_TooMany rfl) pa_nil))) (pa_cons (pe_callB call_isV (by rfl) T.n_isi (by decide +kernel) (pa_cons (pv 0) (pa_cons (pe_glob (v := .ref p.NotAFormula) (by rfl) T.g_NotAFormula rfl) pa_nil))) pa_nil))))))
      (pss_cons (ps_set (i := 1) sc_l_kinds.nd rfl (Or.inl rfl) (pe_op op_cat (pv 1) (pe_lst (pa_cons (pe_callB call_isV (by rfl) T.n_isi (by decide +kernel) (pa_cons (pv 0) (pa_cons (pe_glob (v := .ref p.NotANumber) (by rfl) T.g_NotANumber rfl) pa_nil))) (pa_cons (pe_callB call_isV (by rfl) T.n_isi (by decide +kernel) (pa_cons (pv 0) (pa_cons (pe_glob (v := .ref p.NotAFormat) (by rfl) T.g_NotAFormat rfl) pa_nil))) (pa_cons (pe_callB call_isV (by rfl) T.n_isi (by decide +kernel) (pa_cons (pv 0) (pa_cons (pe_glob (v := .ref p.NotAName) (by rfl) T.g_NotAName rfl) pa_nil))) pa_nil))))))
      (pss_cons (ps_set (i := 1) sc_l_kinds.nd rfl (Or.inl rfl) (pe_op op_cat (pv 1) (pe_lst (pa_cons (pe_callB call_isV (by rfl) T.n_isi (by decide +kernel) (pa_cons (pv 0) (pa_cons (pe_glob (v := .ref p.OffGrid) (by rfl) T.g_OffGrid rfl) pa_nil))) (pa_cons (pe_callB call_isV (by rfl) T.n_isi (by decide +kernel) (pa_cons (pv 0) (pa_cons (pe_glob (v := .ref p.Unknown) (by rfl) T.g_Unknown rfl) pa_nil))) (pa_cons (pe_callB call_isV (by rfl) T.n_isi (by decide +kernel) (pa_cons (pv 0) (pa_cons (pe_glob (v := .ref p.Taken) (by rfl) T.g_Taken rfl) pa_nil))) pa_nil))))))
      (pss_cons (ps_set (i := 1) sc_l_kinds.nd rfl (Or.inl rfl) (pe_op op_cat (pv 1) (pe_lst (pa_cons (pe_callB call_isV (by rfl) T.n_isi (by decide +kernel) (pa_cons (pv 0) (pa_cons (pe_glob (v := .ref p.BadFile) (by rfl) T.g_BadFile rfl) pa_nil))) (pa_cons (pe_callB call_isV (by rfl) T.n_isi (by decide +kernel) (pa_cons (pv 0) (pa_cons (pe_glob (v := .ref p.BadPromise) (by rfl) T.g_BadPromise rfl) pa_nil))) (pa_cons (pe_callB call_isV (by rfl) T.n_isi (by decide +kernel) (pa_cons (pv 0) (pa_cons (pe_glob (v := .ref p.Broken) (by rfl) T.g_Broken rfl) pa_nil))) pa_nil))))))
      (pss_cons (ps_set (i := 1) sc_l_kinds.nd rfl (Or.inl rfl) (pe_op op_cat (pv 1) (pe_lst (pa_cons (pe_callB call_isV (by rfl) T.n_isi (by decide +kernel) (pa_cons (pv 0) (pa_cons (pe_glob (v := .ref p.NotMade) (by rfl) T.g_NotMade rfl) pa_nil))) (pa_cons (pe_callB call_isV (by rfl) T.n_isi (by decide +kernel) (pa_cons (pv 0) (pa_cons (pe_glob (v := .ref p.NothingToUndo) (by rfl) T.g_NothingToUndo rfl) pa_nil))) (pa_cons (pe_callB call_isV (by rfl) T.n_isi (by decide +kernel) (pa_cons (pv 0) (pa_cons (pe_glob (v := .ref p.NothingToRedo) (by rfl) T.g_NothingToRedo rfl) pa_nil))) pa_nil))))))
      (pss_cons (ps_set (i := 1) sc_l_kinds.nd rfl (Or.inl rfl) (pe_op op_cat (pv 1) (pe_lst (pa_cons (pe_callB call_isV (by rfl) T.n_isi (by decide +kernel) (pa_cons (pv 0) (pa_cons (pe_glob (v := .ref p.Turns) (by rfl) T.g_Turns rfl) pa_nil))) pa_nil))))
      (pss_one (ps_ret (pe_lc (own := [("_law_once", 2)]) (g := gName 2) (tt := tYes) rfl sc_l_kinds.nd (pi_list (pv 1)) (blkOk_by (own := [("_law_once", 2)]) (N := N_l_kinds) (sc := defScope s_l_kinds) (by decide +kernel)) (fun _ _ _ _ _ => pg_name (i := 2) sc_l_kinds.nd rfl (Or.inl rfl)) (fun _ _ _ _ _ => pts_nil) (fun _ _ _ _ _ => (pe_callTy call_int1 (by rfl) T.n_int (by decide +kernel) (pa_cons (pv 2) pa_nil)))))))))))))), ?_⟩
    refine q_asgL (el_lst ea_nil (by decide)) fun l0 H0 _ en h0 => ?_
    have hx := hx.ext en
    refine q_asgL (el_catV (ev_var rfl) h0 (el_lst (ea_cons (ev_isV (ev_var rfl) ev_c hx hC rel_ref (kit_below hL (T.line p.BadValue (by simp [Ads.all])) (T.nS p.BadValue (by simp [Ads.all])))) (ea_cons (ev_isV (ev_var rfl) ev_c hx hC rel_ref (kit_below hL (T.line p.NoDivisor (by simp [Ads.all])) (T.nS p.NoDivisor (by simp [Ads.all])))) (ea_cons (ev_isV (ev_var rfl) ev_c hx hC rel_ref (kit_below hL (T.line p.NotTold (by simp [Ads.all])) (T.nS p.NotTold (by simp [Ads.all])))) ea_nil))) (by show 3 ≤ 100000; decide)) (by show 3 ≤ 100000; decide)) fun l1 H1 _ e1 h1 => ?_
    have hx := hx.ext e1
    have en := en.trans e1
    refine q_asgL (el_catV (ev_var rfl) h1 (el_lst (ea_cons (ev_isV (ev_var rfl) ev_c hx hC rel_ref (kit_below hL (T.line p.TooHigh (by simp [Ads.all])) (T.nS p.TooHigh (by simp [Ads.all])))) (ea_cons (ev_isV (ev_var rfl) ev_c hx hC rel_ref (kit_below hL (T.line p.TooMany (by simp [Ads.all])) (T.nS p.TooMany (by simp [Ads.all])))) (ea_cons (ev_isV (ev_var rfl) ev_c hx hC rel_ref (kit_below hL (T.line p.NotAFormula (by simp [Ads.all])) (T.nS p.NotAFormula (by simp [Ads.all])))) ea_nil))) (by show 3 ≤ 100000; decide)) (by show 6 ≤ 100000; decide)) fun l2 H2 _ e2 h2 => ?_
    have hx := hx.ext e2
    have en := en.trans e2
    refine q_asgL (el_catV (ev_var rfl) h2 (el_lst (ea_cons (ev_isV (ev_var rfl) ev_c hx hC rel_ref (kit_below hL (T.line p.NotANumber (by simp [Ads.all])) (T.nS p.NotANumber (by simp [Ads.all])))) (ea_cons (ev_isV (ev_var rfl) ev_c hx hC rel_ref (kit_below hL (T.line p.NotAFormat (by simp [Ads.all])) (T.nS p.NotAFormat (by simp [Ads.all])))) (ea_cons (ev_isV (ev_var rfl) ev_c hx hC rel_ref (kit_below hL (T.line p.NotAName (by simp [Ads.all])) (T.nS p.NotAName (by simp [Ads.all])))) ea_nil))) (by show 3 ≤ 100000; decide)) (by show 9 ≤ 100000; decide)) fun l3 H3 _ e3 h3 => ?_
    have hx := hx.ext e3
    have en := en.trans e3
    refine q_asgL (el_catV (ev_var rfl) h3 (el_lst (ea_cons (ev_isV (ev_var rfl) ev_c hx hC rel_ref (kit_below hL (T.line p.OffGrid (by simp [Ads.all])) (T.nS p.OffGrid (by simp [Ads.all])))) (ea_cons (ev_isV (ev_var rfl) ev_c hx hC rel_ref (kit_below hL (T.line p.Unknown (by simp [Ads.all])) (T.nS p.Unknown (by simp [Ads.all])))) (ea_cons (ev_isV (ev_var rfl) ev_c hx hC rel_ref (kit_below hL (T.line p.Taken (by simp [Ads.all])) (T.nS p.Taken (by simp [Ads.all])))) ea_nil))) (by show 3 ≤ 100000; decide)) (by show 12 ≤ 100000; decide)) fun l4 H4 _ e4 h4 => ?_
    have hx := hx.ext e4
    have en := en.trans e4
    refine q_asgL (el_catV (ev_var rfl) h4 (el_lst (ea_cons (ev_isV (ev_var rfl) ev_c hx hC rel_ref (kit_below hL (T.line p.BadFile (by simp [Ads.all])) (T.nS p.BadFile (by simp [Ads.all])))) (ea_cons (ev_isV (ev_var rfl) ev_c hx hC rel_ref (kit_below hL (T.line p.BadPromise (by simp [Ads.all])) (T.nS p.BadPromise (by simp [Ads.all])))) (ea_cons (ev_isV (ev_var rfl) ev_c hx hC rel_ref (kit_below hL (T.line p.Broken (by simp [Ads.all])) (T.nS p.Broken (by simp [Ads.all])))) ea_nil))) (by show 3 ≤ 100000; decide)) (by show 15 ≤ 100000; decide)) fun l5 H5 _ e5 h5 => ?_
    have hx := hx.ext e5
    have en := en.trans e5
    refine q_asgL (el_catV (ev_var rfl) h5 (el_lst (ea_cons (ev_isV (ev_var rfl) ev_c hx hC rel_ref (kit_below hL (T.line p.NotMade (by simp [Ads.all])) (T.nS p.NotMade (by simp [Ads.all])))) (ea_cons (ev_isV (ev_var rfl) ev_c hx hC rel_ref (kit_below hL (T.line p.NothingToUndo (by simp [Ads.all])) (T.nS p.NothingToUndo (by simp [Ads.all])))) (ea_cons (ev_isV (ev_var rfl) ev_c hx hC rel_ref (kit_below hL (T.line p.NothingToRedo (by simp [Ads.all])) (T.nS p.NothingToRedo (by simp [Ads.all])))) ea_nil))) (by show 3 ≤ 100000; decide)) (by show 18 ≤ 100000; decide)) fun l6 H6 _ e6 h6 => ?_
    have hx := hx.ext e6
    have en := en.trans e6
    refine q_asgL (el_catV (ev_var rfl) h6 (el_lst (ea_cons (ev_isV (ev_var rfl) ev_c hx hC rel_ref (kit_below hL (T.line p.Turns (by simp [Ads.all])) (T.nS p.Turns (by simp [Ads.all])))) ea_nil) (by show 1 ≤ 100000; decide)) (by show 19 ≤ 100000; decide)) fun l7 H7 _ e7 h7 => ?_
    have hx := hx.ext e7
    have en := en.trans e7
    have hT : SqL K H7 l7 (p.all.map fun C => V.bl (decide (C = D))) := SqL.of h7
    refine el_lcM (K := K) (a := l7) p.all (fun C => V.bl (decide (C = D))) (fun C => .int (if decide (C = D) = true then 1 else 0)) (ev_var rfl) hT (by show 19 ≤ 40000; decide) (fun _ => rfl) (fun C H1 _ _ => ev_intB (ev_var rfl)) H7 (Ex.refl _) _ fun l H' hl e hL => ?_
    refine k l H' (fresh_back en hl) (en.trans e) ?_
    rw [hL]
    congr 2
    unfold marks
    rw [List.map_map]
    refine List.map_congr_left fun C _ => ?_
    by_cases q : C = D
    · simp [q]
    · simp [q]
end
end K00

set_option Elab.async false
set_option linter.all false
set_option maxRecDepth 100000
set_option maxHeartbeats 4000000
namespace K00
open PySem PySem.Spec PyProof.Rows L2 Pen EV2 Evl
/-- what the test of all kinds needs -/
structure TxtP (K : PySem.W.Frag) (mg : Str → Option Value) (p : Ads) (S fK : Addr) (fdK : FuncData) : Prop where
  TK : TxtK K mg p S
  gS : mg "SheetError" = some (.ref S)
  sS : (PySem.W.clsIn K S).isSome = true
  tS : PySem.W.typeIn K (.ref S) = some (.type "type")
  ic : ∀ C ∈ p.all, ExcC K C
  n_isinstance : mg "isinstance" = none
  n_all : mg "all" = none
  n_len : mg "len" = none
  n_range : mg "range" = none
  n_ValueError : mg "ValueError" = none
  gK : mg "_law_kinds" = some (.ref fK)
  FK : Fun K "_law_kinds" "_law_kinds" s_l_kinds fK fdK
  bK : Binds K fdK P_l_kinds []
def spApart : Sp := fun vs H Q _ => ∃ v u : V, vs = [v, u] ∧ ∀ H', Same H H' → Q (.bl true) H'
section
variable {P : Program} {w : World} {K : PySem.W.Frag} {mg : Str → Option Value} {base : Heap} {p : Ads} {S : Addr}
theorem el_kinds {te : TE} {σ : L2.St} {H : Hp} {x : V} {D : Addr} {E : XK} (h : Ev te σ H x) (hx : ErrAt H x D) (hC : ExcC K D) (hL : LineOf K S D) : EvL (tCall (spKinds K p S) [] E (tCons te tNil)) σ H ((marks p.all D).map V.int) := fun H1 e Q q =>
  h H1 e _ fun H2 e2 => ⟨x, D, rfl, hx.ext (e.trans e2), hC, hL, fun l H' hl sm hL => q l H' (fresh_back e2 hl) (e2.trans sm) hL⟩
theorem ok_l_apart {f fK : Addr} {fd fdK : FuncData} (F : Fun K "_law_apart" "_law_apart" s_l_apart f fd) (T : TxtP K mg p S fK fdK) : FnOk P w K mg base CX0 3 f fd P_l_apart spApart := by
  have G_l_kinds : FnOk P w K mg base CX0 1 fK fdK P_l_kinds (spKinds K p S) := ok_l_kinds T.FK T.TK
  refine F.ok sc_l_apart (fun vs H Q E h => ?_) (fun cdv A outer s H vs Q E hr h => ?_)
  · obtain ⟨v, u, rfl, _⟩ := h
    rfl
  · obtain ⟨v, u, rfl, k⟩ := h
    refine ⟨_, (pss_cons (ps_set (i := 2) sc_l_apart.nd rfl (Or.inr rfl) (pe_lst pa_nil))
      (pss_cons (ps_set (i := 2) sc_l_apart.nd rfl (Or.inr rfl) (pe_op op_cat (pv 2) (pe_lst (pa_cons (pe_mkV (n := 1) T.TK.E.BadValue.ec (ok_BadValue_init T.TK.E.BadValue.F T.TK.E.BadValue.ec.ox T.TK.E.BadValue.no) (hr.mono (by decide)) (by rfl) T.TK.E.BadValue.gC (kp_BadValue_init T.TK.E.BadValue.F) pass0 (pa_cons (pv 0) pa_nil)) (pa_cons (pe_mk0 PySem.F.excBase_ValueError T.TK.E.NoDivisor.xC T.TK.E.NoDivisor.gC T.TK.E.NoDivisor.kC (by rfl)) (pa_cons (pe_mk0 PySem.F.excBase_ValueError T.TK.E.NotTold.xC T.TK.E.NotTold.gC T.TK.E.NotTold.kC (by rfl)) (pa_cons (pe_mkV (n := 1) T.TK.E.TooHigh.ec (ok_TooHigh_init T.TK.E.TooHigh.F T.TK.E.TooHigh.ec.ox T.TK.E.TooHigh.no) (hr.mono (by decide)) (by rfl) T.TK.E.TooHigh.gC (kp_TooHigh_init T.TK.E.TooHigh.F) pass0 (pa_cons (pv 0) pa_nil)) pa_nil)))))))
      (pss_cons (ps_set (i := 2) sc_l_apart.nd rfl (Or.inr rfl) (pe_op op_cat (pv 2) (pe_lst (pa_cons (pe_mkV (n := 1) T.TK.E.TooMany.ec (ok_TooMany_init T.TK.E.TooMany.F T.TK.E.TooMany.ec.ox T.TK.E.TooMany.no) (hr.mono (by decide)) (by rfl) T.TK.E.TooMany.gC (kp_TooMany_init T.TK.E.TooMany.F) pass0 (pa_cons (pv 0) pa_nil)) (pa_cons (pe_mkV (n := 1) T.TK.E.NotAFormula.ec (ok_NotAFormula_init T.TK.E.NotAFormula.F T.TK.E.NotAFormula.ec.ox T.TK.E.NotAFormula.no) (hr.mono (by decide)) (by rfl) T.TK.E.NotAFormula.gC (kp_NotAFormula_init T.TK.E.NotAFormula.F) pass0 (pa_cons (pv 0) pa_nil)) (pa_cons (pe_mkV (n := 1) T.TK.E.NotANumber.ec (ok_NotANumber_init T.TK.E.NotANumber.F T.TK.E.NotANumber.ec.ox T.TK.E.NotANumber.no) (hr.mono (by decide)) (by rfl) T.TK.E.NotANumber.gC (kp_NotANumber_init T.TK.E.NotANumber.F) pass0 (pa_cons (pv 0) pa_nil)) (pa_cons (pe_mkV (n := 1) T.TK.E.NotAFormat.ec (ok_NotAFormat_init T.TK.E.NotAFormat.F T.TK.E.NotAFormat.ec.ox T.TK.E.NotAFormat.no) (hr.mono (by decide)) (by rfl) T.TK.E.NotAFormat.gC (kp_NotAFormat_init T.TK.E.NotAFormat.F) pass0 (pa_cons (pv 0) pa_nil)) pa_nil)))))))
      (pss_cons (ps_set (i := 2) sc_l_apart.nd rfl (Or.inr rfl) (pe_op op_cat (pv 2) (pe_lst (pa_cons (pe_mkV (n := 1) T.TK.E.NotAName.ec (ok_NotAName_init T.TK.E.NotAName.F T.TK.E.NotAName.ec.ox T.TK.E.NotAName.no) (hr.mono (by decide)) (by rfl) T.TK.E.NotAName.gC (kp_NotAName_init T.TK.E.NotAName.F) pass0 (pa_cons (pv 0) pa_nil)) (pa_cons (pe_mkV (n := 2) T.TK.E.OffGrid.ec (ok_OffGrid_init T.TK.E.OffGrid.F T.TK.E.OffGrid.ec.ox T.TK.E.OffGrid.no T.TK.E.OffGrid.no2) (hr.mono (by decide)) (by rfl) T.TK.E.OffGrid.gC (kp_OffGrid_init T.TK.E.OffGrid.F) pass0 (pa_cons (pv 0) (pa_cons (pv 1) pa_nil))) (pa_cons (pe_mkV (n := 1) T.TK.E.Unknown.ec (ok_Unknown_init T.TK.E.Unknown.F T.TK.E.Unknown.ec.ox T.TK.E.Unknown.no) (hr.mono (by decide)) (by rfl) T.TK.E.Unknown.gC (kp_Unknown_init T.TK.E.Unknown.F) pass0 (pa_cons (pv 0) pa_nil)) (pa_cons (pe_mkV (n := 1) T.TK.E.Taken.ec (ok_Taken_init T.TK.E.Taken.F T.TK.E.Taken.ec.ox T.TK.E.Taken.no) (hr.mono (by decide)) (by rfl) T.TK.E.Taken.gC (kp_Taken_init T.TK.E.Taken.F) pass0 (pa_cons (pv 0) pa_nil)) pa_nil)))))))
      (pss_cons (ps_set (i := 2) sc_l_apart.nd rfl (Or.inr rfl) (pe_op op_cat (pv 2) (pe_lst (pa_cons (pe_mkV (n := 2) T.TK.E.BadFile.ec (ok_BadFile_init T.TK.E.BadFile.F T.TK.E.BadFile.ec.ox T.TK.E.BadFile.no T.TK.E.BadFile.no2) (hr.mono (by decide)) (by rfl) T.TK.E.BadFile.gC (kp_BadFile_init T.TK.E.BadFile.F) pass0 (pa_cons (pv 0) (pa_cons (pv 1) pa_nil))) (pa_cons (pe_mkV (n := 1) T.TK.E.BadPromise.ec (ok_BadPromise_init T.TK.E.BadPromise.F T.TK.E.BadPromise.ec.ox T.TK.E.BadPromise.no) (hr.mono (by decide)) (by rfl) T.TK.E.BadPromise.gC (kp_BadPromise_init T.TK.E.BadPromise.F) pass0 (pa_cons (pv 0) pa_nil)) (pa_cons (pe_mkV (n := 2) T.TK.E.Broken.ec (ok_Broken_init T.TK.E.Broken.F T.TK.E.Broken.ec.ox T.TK.E.Broken.no T.TK.E.Broken.no2) (hr.mono (by decide)) (by rfl) T.TK.E.Broken.gC (kp_Broken_init T.TK.E.Broken.F) pass0 (pa_cons (pv 0) (pa_cons (pv 1) pa_nil))) (pa_cons (pe_mkV (n := 1) T.TK.E.NotMade.ec (ok_NotMade_init T.TK.E.NotMade.F T.TK.E.NotMade.ec.ox T.TK.E.NotMade.no) (hr.mono (by decide)) (by rfl) T.TK.E.NotMade.gC (kp_NotMade_init T.TK.E.NotMade.F) pass0 (pa_cons (pv 0) pa_nil)) pa_nil)))))))
      (pss_cons (ps_set (i := 2) sc_l_apart.nd rfl (Or.inr rfl) (pe_op op_cat (pv 2) (pe_lst (pa_cons (pe_mk0 PySem.F.excBase_ValueError T.TK.E.NothingToUndo.xC T.TK.E.NothingToUndo.gC T.TK.E.NothingToUndo.kC (by rfl)) (pa_cons (pe_mk0 PySem.F.excBase_ValueError T.TK.E.NothingToRedo.xC T.TK.E.NothingToRedo.gC T.TK.E.NothingToRedo.kC (by rfl)) (pa_cons (pe_mkV (n := 1) T.TK.E.Turns.ec (ok_Turns_init T.TK.E.Turns.F T.TK.E.Turns.ec.ox T.TK.E.Turns.no) (hr.mono (by decide)) (by rfl) T.TK.E.Turns.gC (kp_Turns_init T.TK.E.Turns.F) pass0 (pa_cons (pv 0) pa_nil)) pa_nil))))))
      (pss_cons (ps_if (pt_not (pt_val (pe_callB (id := "all") (cr_all rfl) (by rfl) T.n_all (by decide +kernel) (pa_cons (pe_lc (own := [("_law_error", 5)]) (g := gName 5) (tt := tYes) rfl sc_l_apart.nd (pi_list (pv 2)) (blkOk_by (own := [("_law_error", 5)]) (N := N_l_apart) (sc := defScope s_l_apart) (by decide +kernel)) (fun _ _ _ _ _ => pg_name (i := 5) sc_l_apart.nd rfl (Or.inl rfl)) (fun _ _ _ _ _ => pts_nil) (fun _ _ _ _ _ => (pe_and (pe_callB (id := "isinstance") (r := rIsV K) call_isV (by rfl) T.n_isinstance (by decide +kernel) (pa_cons (pv 5) (pa_cons (pe_glob (v := .ref S) (by rfl) T.gS rfl) pa_nil))) (pe_one (pe_callB (id := "isinstance") (r := rIsV K) call_isV (by rfl) T.n_isinstance (by decide +kernel) (pa_cons (pv 5) (pa_cons (pe_bltn (v := .ty "ValueError") (by rfl) T.n_ValueError (by decide +kernel) rfl) pa_nil))))))) pa_nil)))) (pss_one (ps_ret pe_bl)) pss_nil)
      (pss_cons (ps_set (i := 3) sc_l_apart.nd rfl (Or.inr rfl) (pe_op op_sub (pe_callB (id := "len") call_len (by rfl) T.n_len (by decide +kernel) (pa_cons (pv 2) pa_nil)) pe_int))
      (pss_one (ps_ret (pe_callB (id := "all") (cr_all rfl) (by rfl) T.n_all (by decide +kernel) (pa_cons (pe_lc (own := [("_law_k", 4)]) (g := gName 4) (tt := tYes) rfl sc_l_apart.nd (pi_range1 (by rfl) T.n_range (pa_cons (pe_callB (id := "len") call_len (by rfl) T.n_len (by decide +kernel) (pa_cons (pv 2) pa_nil)) pa_nil)) (blkOk_by (own := [("_law_k", 4)]) (N := N_l_apart) (sc := defScope s_l_apart) (by decide +kernel)) (fun _ _ _ _ _ => pg_name (i := 4) sc_l_apart.nd rfl (Or.inl rfl)) (fun _ _ _ _ _ => pts_nil) (fun _ _ _ _ _ => (pe_cmpR (r := rEqD K) (op_eqD hr.units) (pe_call G_l_kinds (hr.mono (by decide)) (by rfl) T.gK T.FK.kp T.bK .nil pass0 (pa_cons (pe_ix (r := rIxL K) ix_list (pv 2) (pv 4) (fun _ _ => rfl)) pa_nil)) (pe_op op_cat (pe_op op_cat (pe_op op_rep (pe_lst (pa_cons pe_int pa_nil)) (pv 4)) (pe_lst (pa_cons pe_int pa_nil))) (pe_op op_rep (pe_lst (pa_cons pe_int pa_nil)) (pe_op op_sub (pv 3) (pv 4)))) (nomark _)))) pa_nil)))))))))))), ?_⟩
    refine q_asgL (el_lst ea_nil (by decide)) fun l0 H0 _ en h0 => ?_
    have Z0 : ErrsAt H0 [] [] := .nil
    have z0 : ([] : List V).length = 0 := rfl
    refine q_more rfl h0 Z0 (ees_cons (ee_1 (ea_cons (ev_var rfl) ea_nil) (fun _ => rfl)) (ees_cons ee_0 (ees_cons ee_0 (ees_cons (ee_1 (ea_cons (ev_var rfl) ea_nil) (fun _ => rfl)) ees_nil)))) (by rw [z0]; show 4 ≤ 100000; decide) fun l1 H1 x1 e1 h1 z1 Z1 => ?_
    rw [z0] at z1
    have en := en.trans e1
    refine q_more rfl h1 Z1 (ees_cons (ee_1 (ea_cons (ev_var rfl) ea_nil) (fun _ => rfl)) (ees_cons (ee_1 (ea_cons (ev_var rfl) ea_nil) (fun _ => rfl)) (ees_cons (ee_1 (ea_cons (ev_var rfl) ea_nil) (fun _ => rfl)) (ees_cons (ee_1 (ea_cons (ev_var rfl) ea_nil) (fun _ => rfl)) ees_nil)))) (by rw [z1]; show 8 ≤ 100000; decide) fun l2 H2 x2 e2 h2 z2 Z2 => ?_
    rw [z1] at z2
    have en := en.trans e2
    refine q_more rfl h2 Z2 (ees_cons (ee_1 (ea_cons (ev_var rfl) ea_nil) (fun _ => rfl)) (ees_cons (ee_2 (ea_cons (ev_var rfl) (ea_cons (ev_var rfl) ea_nil)) (fun _ => rfl)) (ees_cons (ee_1 (ea_cons (ev_var rfl) ea_nil) (fun _ => rfl)) (ees_cons (ee_1 (ea_cons (ev_var rfl) ea_nil) (fun _ => rfl)) ees_nil)))) (by rw [z2]; show 12 ≤ 100000; decide) fun l3 H3 x3 e3 h3 z3 Z3 => ?_
    rw [z2] at z3
    have en := en.trans e3
    refine q_more rfl h3 Z3 (ees_cons (ee_2 (ea_cons (ev_var rfl) (ea_cons (ev_var rfl) ea_nil)) (fun _ => rfl)) (ees_cons (ee_1 (ea_cons (ev_var rfl) ea_nil) (fun _ => rfl)) (ees_cons (ee_2 (ea_cons (ev_var rfl) (ea_cons (ev_var rfl) ea_nil)) (fun _ => rfl)) (ees_cons (ee_1 (ea_cons (ev_var rfl) ea_nil) (fun _ => rfl)) ees_nil)))) (by rw [z3]; show 16 ≤ 100000; decide) fun l4 H4 x4 e4 h4 z4 Z4 => ?_
    rw [z3] at z4
    have en := en.trans e4
    refine q_more rfl h4 Z4 (ees_cons ee_0 (ees_cons ee_0 (ees_cons (ee_1 (ea_cons (ev_var rfl) ea_nil) (fun _ => rfl)) ees_nil))) (by rw [z4]; show 19 ≤ 100000; decide) fun l5 H5 x5 e5 h5 z5 Z5 => ?_
    rw [z4] at z5
    have en := en.trans e5
    have E5 : ErrsAt H5 x5 p.all := Z5
    have z5 : x5.length = 19 := z5
    -- all of them are errors, and ValueErrors
    have all1 : Ev (tCB (rAll K) (tCons (tLc (iList K (tVar 2)) (gName 5) tYes (tAndV (tCB (rIsV K) (tCons (tVar 5) (tCons (tC (.ref S)) tNil))) (tCB (rIsV K) (tCons (tVar 5) (tCons (tC (.ty "ValueError")) tNil)))) [5]) tNil)) [some v, some u, some (.ref l5), none, none, none] H5 (.bl ((x5.map fun _ => true).all id)) := by
      refine ev_all (el_eq (el_lcM (K := K) (a := l5) x5 (fun x => x) (fun _ => .bl (true && true)) (ev_var rfl) (by rw [List.map_id']; exact SqL.of h5) (by rw [z5]; decide) (fun _ => rfl) fun x H6 e6 hx => ?_) (by rw [List.map_map]; rfl))
      obtain ⟨D, hD, hE⟩ := errs_mem (E5.ext e6) x hx
      exact ev_andV (ev_isV (ev_var rfl) ev_c hE (T.ic D hD) rel_ref (kit_base (T.TK.line D hD) T.sS T.tS)) fun _ => ev_isV (ev_var rfl) ev_c hE (T.ic D hD) rel_ty (kit_value (T.TK.line D hD))
    refine q_when (et_not (et_B all1)) (fun hb => ?_) (fun _ H6 e6 => ?_)
    · rw [all_true] at hb
      cases hb
    have E6 := E5.ext e6
    have h6 := e6 _ _ h5
    refine q_asg (ev_op (ev_lenX (K := K) (ev_var rfl) (SqL.of h6)) ev_c rv_I0) fun H7 e7 => ?_
    have E7 := E6.ext e7
    have h7 := e7 _ _ h6
    have all2 : Ev (tCB (rAll K) (tCons (tLc (iRng1 (tCons (tCB (rLenX K) (tCons (tVar 2) tNil)) tNil)) (gName 4) tYes (tOp (rEqD K) (tCall (spKinds K p S) [] E0 (tCons (tOp (rIxL K) (tVar 2) (tVar 4)) tNil))
        (tOp rCat (tOp rCat (tOp rRep (tLst (tCons (tC (.int 0)) tNil)) (tVar 4)) (tLst (tCons (tC (.int 1)) tNil))) (tOp rRep (tLst (tCons (tC (.int 0)) tNil)) (tOp (rI0 fun i j => .int (i - j)) (tVar 3) (tVar 4))))) [4]) tNil)) [some v, some u, some (.ref l5), some (.int (x5.length - 1)), none, none] H7 (.bl ((List.replicate x5.length true).all id)) := by
      refine ev_all (el_eq (el_lcR1 (n := (x5.length : Int)) (fun _ => true) (fun _ => .bl true) (ea_cons (ev_lenX (K := K) (ev_var rfl) (SqL.of h7)) ea_nil) (by rw [z5]; decide) (fun _ => rfl) (fun _ _ _ _ => et_yes) fun i H8 e8 hi _ => ?_) (by rw [z5]; rfl))
      have hi' : i < 19 := by omega
      have hD : p.all[i]? = some (p.all[i]'hi') := List.getElem?_eq_getElem hi'
      obtain ⟨x, hx, hE⟩ := errs_at (E7.ext e8) hD
      have hm := List.mem_of_getElem? hD
      have hk := marks_at T.TK.nd hD
      have hl : p.all.length - 1 - i = 18 - i := rfl
      rw [hl] at hk
      have ek := el_kinds (K := K) (p := p) (S := S) (E := E0) (σ := [some v, some u, some (.ref l5), some (.int (x5.length - 1)), some (.int (i : Int)), none]) (ev_op (ev_var (i := 2) rfl) (ev_var (i := 4) rfl) (rv_ixL (K := K) (SqL.of (e8 _ _ h7)) (atI_nat hx))) hE (T.ic _ hm) (T.TK.line _ hm)
      refine ev_opLL ek (el_eq (ys := (List.replicate i (0 : Int) ++ [1] ++ List.replicate (18 - i) 0).map V.int) (el_cat (el_cat (el_rep1 (el_lst (ea_cons ev_c ea_nil) (by decide)) (ev_var rfl) (by omega) (by omega)) (el_lst (ea_cons ev_c ea_nil) (by decide)) (by rw [List.length_replicate]; show i + 1 ≤ 100000; omega))
        (el_rep1 (el_lst (ea_cons ev_c ea_nil) (by decide)) (ev_op (ev_var rfl) (ev_var rfl) rv_I0) (by omega) (by omega)) (by rw [List.length_append, List.length_replicate, List.length_replicate]; show i + 1 + _ ≤ 100000; omega)) ?_) fun a b H9 ha hb e9 => ?_
      · have q1 : ((i : Int)).toNat = i := by omega
        have q2 : ((x5.length : Int) - 1 - (i : Int)).toNat = 18 - i := by omega
        rw [q1, q2, List.map_append, List.map_append, List.map_replicate, List.map_replicate]
        rfl
      · have z := rv_ints (K := K) (H := H9) (SqL.of ha) (SqL.of hb)
        rw [decide_eq_true hk] at z
        exact z
    refine all2 H7 (Ex.refl H7) _ fun H8 e8 => ?_
    have ft : (List.replicate x5.length true).all id = true := by rw [z5]; rfl
    rw [ft]
    exact k H8 (((en.trans e6).trans e7).trans e8)
end
end K00

set_option Elab.async false
set_option linter.all false
set_option maxRecDepth 100000
set_option maxHeartbeats 4000000
namespace K00
open PySem PySem.Spec PyProof.Rows L2 Pen EV2 Evl
abbrev s_l_raise : Stmt := topS 29
abbrev N_l_raise : List Str := ["_law_which", "_law_mine"]
abbrev P_l_raise : List Str := ["_law_which", "_law_mine"]
theorem sc_l_raise : FnScope N_l_raise P_l_raise (defScope s_l_raise) := ⟨rfl, rfl, rfl, by decide +kernel, rfl, by decide +kernel, by decide +kernel⟩
abbrev s_l_caught : Stmt := topS 30
abbrev N_l_caught : List Str := ["_law_which", "_law_mine", "e"]
abbrev P_l_caught : List Str := ["_law_which", "_law_mine"]
theorem sc_l_caught : FnScope N_l_caught P_l_caught (defScope s_l_caught) := ⟨rfl, rfl, rfl, by decide +kernel, rfl, by decide +kernel, by decide +kernel⟩

theorem hx0 {X : Cx} : Passes CX0 X fun _ _ _ => False := fun _ _ _ _ _ _ _ h => h.elim
def spRaise (p : Ads) : Sp := fun vs H _ E => ∃ (i : Int) (v : V), vs = [.int i, v] ∧ ∀ C d H', C ∈ p.all → Same H H' → E (.ref C) d H'
def spCaught : Sp := fun vs H Q _ => ∃ (i : Int) (v : V), vs = [.int i, v] ∧ ∀ H', Same H H' → Q (.bl true) H'
section
variable {P : Program} {w : World} {K : PySem.W.Frag} {mg : Str → Option Value} {base : Heap} {p : Ads} {S : Addr}
theorem ok_l_raise {f fK : Addr} {fd fdK : FuncData} (F : Fun K "_law_raise" "_law_raise" s_l_raise f fd) (T : TxtP K mg p S fK fdK) : FnOk P w K mg base (L2.CX P w) 3 f fd P_l_raise (spRaise p) := by
  refine F.okX sc_l_raise (fun vs H Q E h => ?_) (fun cdv A outer s H vs Q E hr h => ?_)
  · obtain ⟨i, v, rfl, _⟩ := h
    rfl
  · obtain ⟨i, v, rfl, k⟩ := h
    refine ⟨_, (pss_cons (ps_if (pt_cmpR op_eq (pv 0) pe_int (nomark _)) (pss_one (ps_raise rfl (takes_of rfl rfl rfl rfl) (pmk_0 PySem.F.excBase_ValueError T.TK.E.NotTold.xC T.TK.E.NotTold.gC T.TK.E.NotTold.kC (raises_own (T.TK.line p.NotTold (by simp [Ads.all])).base (T.TK.line p.NotTold (by simp [Ads.all])).ty) (by rfl)))) pss_nil)
      (pss_cons (ps_if (pt_cmpR op_eq (pv 0) pe_int (nomark _)) (pss_one (ps_raise rfl (takes_of rfl rfl rfl rfl) (pmk_R (n := 1) T.TK.E.TooMany.ec (ok_TooMany_init T.TK.E.TooMany.F T.TK.E.TooMany.ec.ox T.TK.E.TooMany.no) (hr.mono (by decide)) (by rfl) T.TK.E.TooMany.gC (kp_TooMany_init T.TK.E.TooMany.F) hx0 (pa_cons pe_int pa_nil)))) pss_nil)
      (pss_cons (ps_if (pt_cmpR op_eq (pv 0) pe_int (nomark _)) (pss_one (ps_raise rfl (takes_of rfl rfl rfl rfl) (pmk_RK0 T.TK.E.OffGrid.ec (ok_OffGrid_init T.TK.E.OffGrid.F T.TK.E.OffGrid.ec.ox T.TK.E.OffGrid.no T.TK.E.OffGrid.no2) (hr.mono (by decide)) (by rfl) T.TK.E.OffGrid.gC (kk_OffGrid_init T.TK.E.OffGrid.F) hx0 (pk_cons (pv 1) (pk_cons pe_int pk_nil))))) pss_nil)
      (pss_cons (ps_if (pt_cmpR op_eq (pv 0) pe_int (nomark _)) (pss_one (ps_raise rfl (takes_of rfl rfl rfl rfl) (pmk_R (n := 1) T.TK.E.Unknown.ec (ok_Unknown_init T.TK.E.Unknown.F T.TK.E.Unknown.ec.ox T.TK.E.Unknown.no) (hr.mono (by decide)) (by rfl) T.TK.E.Unknown.gC (kp_Unknown_init T.TK.E.Unknown.F) hx0 (pa_cons (pv 1) pa_nil)))) pss_nil)
      (pss_one (ps_raise rfl (takes_of rfl rfl rfl rfl) (pmk_0 PySem.F.excBase_ValueError T.TK.E.NothingToUndo.xC T.TK.E.NothingToUndo.gC T.TK.E.NothingToUndo.kC (raises_own (T.TK.line p.NothingToUndo (by simp [Ads.all])).base (T.TK.line p.NothingToUndo (by simp [Ads.all])).ty) (by rfl)))))))), ?_⟩
    refine ⟨_, rfl, rfl, _, rfl, ite2 (fun _ => ?_) (fun _ => ?_)⟩
    · exact k _ _ _ (by simp [Ads.all]) (Same.refl H)
    refine ⟨_, rfl, rfl, _, rfl, ite2 (fun _ => ?_) (fun _ => ?_)⟩
    · exact ⟨rfl, rfl, by decide, rr_e1 (Q := E) fun d H' _ s _ => k _ _ _ (by simp [Ads.all]) s⟩
    refine ⟨_, rfl, rfl, _, rfl, ite2 (fun _ => ?_) (fun _ => ?_)⟩
    · exact ⟨_, rfl, rfl, rfl, by decide, rr_e2 (Q := E) (v := .int 0) (u := v) fun d H' _ s _ => k _ _ _ (by simp [Ads.all]) s⟩
    refine ⟨_, rfl, rfl, _, rfl, ite2 (fun _ => ?_) (fun _ => ?_)⟩
    · exact ⟨_, rfl, rfl, rfl, by decide, rr_e1 (Q := E) fun d H' _ s _ => k _ _ _ (by simp [Ads.all]) s⟩
    · exact k _ _ _ (by simp [Ads.all]) (Same.refl H)
/-- what the clause needs -/
structure TxtS (K : PySem.W.Frag) (mg : Str → Option Value) (S fR : Addr) (fdR : FuncData) : Prop where
  bS : PySem.W.subIn K (.ref S) (.type "BaseException") = some true
  dS : PySem.W.hasDictIn K S = true
  tS : PySem.W.typeIn K (.ref S) = some (.type "type")
  gS : mg "SheetError" = some (.ref S)
  gR : mg "_law_raise" = some (.ref fR)
  FR : Fun K "_law_raise" "_law_raise" s_l_raise fR fdR
  bR : Binds K fdR P_l_raise []
theorem ok_l_caught {f fR fK : Addr} {fd fdR fdK : FuncData} (F : Fun K "_law_caught" "_law_caught" s_l_caught f fd) (T : TxtP K mg p S fK fdK) (U : TxtS K mg S fR fdR) : FnOk P w K mg base CX0 4 f fd P_l_caught spCaught := by
  have GR : FnOk P w K mg base (L2.CX P w) 3 fR fdR P_l_raise (spRaise p) := ok_l_raise U.FR T
  refine F.ok sc_l_caught (fun vs H Q E h => ?_) (fun cdv A outer s H vs Q E hr h => ?_)
  · obtain ⟨i, v, rfl, _⟩ := h
    rfl
  · obtain ⟨i, v, rfl, k⟩ := h
    have hr3 : Room 3 _ := hr.mono (by decide)
    refine ⟨_, pss_cons (ps_try_as (i := 2) (tb := fun W => tDrop (tCallS (spRaise p) (WE W) (tCons (tVar 0) (tCons (tVar 1) tNil)))) (ts := fun _ _ _ => tRet (tC (.bl true))) (Wout := fun _ _ _ _ => False) rfl rfl sc_l_caught.nd rfl rfl ⟨rfl, by decide, Or.inl U.gS⟩ takes0
        (fun W pn xe tk _ => pss_one (ps_expr (by exact (pe_callS GR hr3 rfl U.gR U.FR.kp U.bR (fun σ => passAt tk σ) (by exact (pa_cons (pv 0) (pa_cons (pv 1) pa_nil)))))))
        (fun a oe cls d pn hz hf => pss_one (ps_ret pe_bl))) (pss_one (ps_ret pe_bl)), ?_⟩
    exact ⟨_, rfl, _, rfl, i, v, rfl, fun C d H' hC s => ⟨true, exm_below (T.TK.line C hC) U.bS U.dS U.tS, fun _ a _ => k H' s, fun q => Bool.noConfusion q⟩⟩
end
end K00

set_option Elab.async false
set_option linter.all false
set_option maxRecDepth 100000
set_option maxHeartbeats 4000000
namespace K00
open PySem PySem.Spec PyProof.Rows L2 Pen EV2 Evl
abbrev s_law : Stmt := topS 31
abbrev N_law : List Str := ["_law_script", "_law_pen_here", "_law_values", "_law_lap", "_law_mine", "_law_yours", "_law_held", "_law_twice", "_law_due", "_law_which"]
abbrev P_law : List Str := ["_law_script"]
theorem sc_law : FnScope N_law P_law (defScope s_law) := ⟨rfl, rfl, rfl, by decide +kernel, rfl, by decide +kernel, by decide +kernel⟩

/-- the functions' addresses -/
structure Fns where
  fP : Addr
  fD : Addr
  fI : Addr
  fA : Addr
  fM : Addr
  fK : Addr
  fX : Addr
  fR : Addr
  fC : Addr
  dP : FuncData
  dD : FuncData
  dI : FuncData
  dA : FuncData
  dM : FuncData
  dK : FuncData
  dX : FuncData
  dR : FuncData
  dC : FuncData
/-- all that the law needs -/
structure TxtL (K : PySem.W.Frag) (mg : Str → Option Value) (p : Ads) (S : Addr) (n : Fns) : Prop where
  TP : TxtP K mg p S n.fK n.dK
  TS : TxtS K mg S n.fR n.dR
  n_list : mg "list" = none
  n_int : mg "int" = none
  n_len : mg "len" = none
  n_range : mg "range" = none
  n_min : mg "min" = none
  n_all : mg "all" = none
  n_isinstance : mg "isinstance" = none
  n_bool : mg "bool" = none
  gP : mg "_law_pen" = some (.ref n.fP)
  gD : mg "_law_draw" = some (.ref n.fD)
  gI : mg "_law_pick" = some (.ref n.fI)
  gA : mg "_law_alone" = some (.ref n.fA)
  gM : mg "_law_more" = some (.ref n.fM)
  gX : mg "_law_apart" = some (.ref n.fX)
  gC : mg "_law_caught" = some (.ref n.fC)
  FP : Fun K "_law_pen" "_law_pen" s_l_pen n.fP n.dP
  FD : Fun K "_law_draw" "_law_draw" s_l_draw n.fD n.dD
  FI : Fun K "_law_pick" "_law_pick" s_l_pick n.fI n.dI
  FA : Fun K "_law_alone" "_law_alone" s_l_alone n.fA n.dA
  FM : Fun K "_law_more" "_law_more" s_l_more n.fM n.dM
  FX : Fun K "_law_apart" "_law_apart" s_l_apart n.fX n.dX
  FC : Fun K "_law_caught" "_law_caught" s_l_caught n.fC n.dC
  bP : Binds K n.dP P_l_pen []
  bD : Binds K n.dD P_l_draw []
  bI : Binds K n.dI P_l_pick []
  bA : Binds K n.dA P_l_alone []
  bM : Binds K n.dM P_l_more []
  bX : Binds K n.dX P_l_apart []
  bC : Binds K n.dC P_l_caught []
theorem tups_at {H : Hp} : ∀ {ps : List Addr} {xss : List (List V)} {i : Nat} {t : Addr}, TupsAt H ps xss → ps[i]? = some t → ∃ xs, xss[i]? = some xs ∧ H t = some (.tup xs)
  | _, _, i, t, .nil, h => by simp at h
  | _, _, 0, t, .cons r s, h => by
    have e := Option.some.inj h
    subst e
    exact ⟨_, rfl, r⟩
  | _, _, i + 1, t, .cons r s, h => tups_at (i := i) s h
theorem due_of {v u : V} {ys : List V} (h : ys ∈ dues v u) : ys = [v, v] ∨ ys = [u, u] := by
  simp only [dues, List.mem_cons, List.not_mem_nil, or_false] at h
  rcases h with h | h | h | h | h | h | h | h | h | h | h | h <;> simp [h]
def spLaw (K : PySem.W.Frag) : Sp := fun vs H Q _ => ∃ (a : Addr) (ns : List Int), vs = [.ref a] ∧ SqL K H a (ns.map V.int) ∧ ns.length ≤ 63 ∧ ∀ H', Q (.bl true) H'
section
variable {P : Program} {w : World} {K : PySem.W.Frag} {mg : Str → Option Value} {base : Heap} {p : Ads} {S : Addr} {n : Fns}
theorem ok_law {f : Addr} {fd : FuncData} (F : Fun K "law" "law" s_law f fd) (T : TxtL K mg p S n) : FnOk P w K mg base CX0 5 f fd P_law (spLaw K) := by
  have TA : TxtA mg := ⟨T.n_list, T.n_int, T.n_len⟩
  have G_l_pen : FnOk P w K mg base CX0 1 n.fP n.dP P_l_pen (spPen K) := ok_l_pen T.FP TA
  have G_l_pick : FnOk P w K mg base CX0 2 n.fI n.dI P_l_pick (spPick K) := ok_l_pick T.FI TA T.FD T.bD T.gD
  have G_l_alone : FnOk P w K mg base CX0 3 n.fA n.dA P_l_alone spAlone := ok_l_alone T.FA T.TP.TK.E
  have G_l_more : FnOk P w K mg base CX0 3 n.fM n.dM P_l_more spMore := ok_l_more T.FM T.TP.TK.E
  have G_l_apart : FnOk P w K mg base CX0 3 n.fX n.dX P_l_apart spApart := ok_l_apart T.FX T.TP
  have G_l_caught : FnOk P w K mg base CX0 4 n.fC n.dC P_l_caught spCaught := ok_l_caught T.FC T.TP T.TS
  refine F.ok sc_law (fun vs H Q E h => ?_) (fun cdv A outer s H vs Q E hr h => ?_)
  · obtain ⟨a, ns, rfl, _⟩ := h
    rfl
  · obtain ⟨a, ns, rfl, hS, hlen, k⟩ := h
    refine ⟨_, (pss_cons (ps_set (i := 1) sc_law.nd rfl (Or.inl rfl) (pe_call G_l_pen (hr.mono (by decide)) (by rfl) T.gP T.FP.kp T.bP .nil pass0 (pa_cons (pv 0) pa_nil)))
      (pss_cons (ps_set (i := 2) sc_law.nd rfl (Or.inl rfl) (pe_lst (pa_cons pe_non (pa_cons pe_bl (pa_cons pe_int (pa_cons (pe_un un_neg pe_int) (pa_cons pe_str (pa_cons pe_str (pa_cons (pe_tup (pa_cons pe_int (pa_cons pe_int pa_nil))) (pa_cons (pe_lst (pa_cons pe_str pa_nil)) (pa_cons pe_dnewK (pa_cons (pe_op op_pow pe_int pe_int) (pa_cons pe_str (pa_cons (pe_tup (pa_cons (pe_tup (pa_cons pe_int (pa_cons pe_int pa_nil))) (pa_cons pe_int pa_nil))) pa_nil))))))))))))))
      (pss_cons (ps_for PassesOwn.never rfl (pi_range1 (by rfl) T.n_range (pa_cons (pe_op op_add pe_int (pe_callB (id := "min") (call_min2 rfl) (by rfl) T.n_min (by decide +kernel) (pa_cons pe_int (pa_cons (pe_callB (id := "len") call_len (by rfl) T.n_len (by decide +kernel) (pa_cons (pv 0) pa_nil)) pa_nil)))) pa_nil)) (pg_name (i := 3) sc_law.nd rfl (Or.inl rfl)) (pss_cons (ps_asg (pe_tup (pa_cons (pe_call G_l_pick (hr.mono (by decide)) (by rfl) T.gI T.FI.kp T.bI .nil pass0 (pa_cons (pv 1) (pa_cons (pv 2) pa_nil))) (pa_cons (pe_call G_l_pick (hr.mono (by decide)) (by rfl) T.gI T.FI.kp T.bI .nil pass0 (pa_cons (pv 1) (pa_cons (pv 2) pa_nil))) pa_nil))) (pg_tup (by rfl) (pgs_cons (pg_name (i := 4) sc_law.nd rfl (Or.inr rfl)) (pgs_cons (pg_name (i := 5) sc_law.nd rfl (Or.inl rfl)) pgs_nil))))
      (pss_cons (ps_for PassesOwn.never rfl (pi_list (pe_call G_l_alone (hr.mono (by decide)) (by rfl) T.gA T.FA.kp T.bA .nil pass0 (pa_cons (pv 4) pa_nil))) (pg_tup (by rfl) (pgs_cons (pg_name (i := 6) sc_law.nd rfl (Or.inl rfl)) (pgs_cons (pg_name (i := 7) sc_law.nd rfl (Or.inl rfl)) pgs_nil))) (pss_one (ps_if (PW.pt (pw_or (pt_cmpR (op_neAny hr.units) (pv 6) (pv 4) (nomark _)) (pw_or (pt_cmpR (op_neAny hr.units) (pv 7) (pv 4) (nomark _)) (pw_or1 (pt_cmpR op_ne (pe_callB (id := "isinstance") call_isi (by rfl) T.n_isinstance (by decide +kernel) (pa_cons (pv 6) (pa_cons (pe_bltn (v := .ty "bool") (by rfl) T.n_bool (by decide +kernel) rfl) pa_nil))) (pe_callB (id := "isinstance") call_isi (by rfl) T.n_isinstance (by decide +kernel) (pa_cons (pv 4) (pa_cons (pe_bltn (v := .ty "bool") (by rfl) T.n_bool (by decide +kernel) rfl) pa_nil))) (nomark _)))))) (pss_one (ps_ret pe_bl)) pss_nil)))
      (pss_cons (ps_for PassesOwn.never rfl (pi_list (pe_call G_l_more (hr.mono (by decide)) (by rfl) T.gM T.FM.kp T.bM .nil pass0 (pa_cons (pv 4) (pa_cons (pv 5) pa_nil)))) (pg_tup (by rfl) (pgs_cons (pg_name (i := 6) sc_law.nd rfl (Or.inl rfl)) (pgs_cons (pg_name (i := 8) sc_law.nd rfl (Or.inl rfl)) pgs_nil))) (pss_one (ps_if (PW.pt (pw_or (pt_cmpR (op_neAny hr.units) (pv 6) (pv 8) (nomark _)) (pw_or1 (pt_cmpR op_ne (pe_callB (id := "isinstance") call_isi (by rfl) T.n_isinstance (by decide +kernel) (pa_cons (pv 6) (pa_cons (pe_bltn (v := .ty "bool") (by rfl) T.n_bool (by decide +kernel) rfl) pa_nil))) (pe_callB (id := "isinstance") call_isi (by rfl) T.n_isinstance (by decide +kernel) (pa_cons (pv 8) (pa_cons (pe_bltn (v := .ty "bool") (by rfl) T.n_bool (by decide +kernel) rfl) pa_nil))) (nomark _))))) (pss_one (ps_ret pe_bl)) pss_nil)))
      (pss_one (ps_if (PW.pt (pw_or (pt_not (pt_val (pe_call G_l_apart (hr.mono (by decide)) (by rfl) T.gX T.FX.kp T.bX .nil pass0 (pa_cons (pv 4) (pa_cons (pv 5) pa_nil))))) (pw_or1 (pt_not (pt_val (pe_callB (id := "all") (cr_all rfl) (by rfl) T.n_all (by decide +kernel) (pa_cons (pe_lc (own := [("_law_which", 9)]) (g := gName 9) (tt := tYes) rfl sc_law.nd (pi_range1 (by rfl) T.n_range (pa_cons pe_int pa_nil)) (blkOk_by (own := [("_law_which", 9)]) (N := N_law) (sc := defScope s_law) (by decide +kernel)) (fun _ _ _ _ _ => pg_name (i := 9) sc_law.nd rfl (Or.inl rfl)) (fun _ _ _ _ _ => pts_nil) (fun _ _ _ _ _ => (pe_call G_l_caught (hr.mono (by decide)) (by rfl) T.gC T.FC.kp T.bC .nil pass0 (pa_cons (pv 9) (pa_cons (pv 4) pa_nil))))) pa_nil))))))) (pss_one (ps_ret pe_bl)) pss_nil))))))
      (pss_one (ps_ret pe_bl))))), ?_⟩
    refine q_asgK ?_
    refine ⟨_, rfl, a, ns, rfl, hS, hlen, fun q c H1 hq s1 P1 => ?_⟩
    show tSeq _ _ _ _ _
    have hS1 := s1.seq hS
    -- the values
    refine q_gs (n := 12) ?hv (by decide) fun l xs H2 hl s2 hL hx G2 => ?_
    case hv =>
      refine egs_cons (eg_c fun _ => .non) ?_
      refine egs_cons (eg_c fun _ => .bl true) ?_
      refine egs_cons (eg_c fun _ => .int 0) ?_
      refine egs_cons (eg_v (ev_un ev_c ru_neg) (.int _)) ?_
      refine egs_cons (eg_c fun _ => .str _ ?_) ?_
      · decide +kernel
      refine egs_cons (eg_c fun _ => .str _ ?_) ?_
      · decide +kernel
      refine egs_cons (eg_two (ea_cons ev_c (ea_cons ev_c ea_nil))) ?_
      refine egs_cons (eg_one ?_ (ea_cons ev_c ea_nil)) ?_
      · decide +kernel
      refine egs_cons eg_emp ?_
      refine egs_cons (eg_v (ev_op ev_c ev_c (rv_I ⟨by decide, by decide, by decide⟩)) (.int _)) ?_
      refine egs_cons (eg_c fun _ => .str _ ?_) ?_
      · decide +kernel
      refine egs_cons (eg_deep (eu_tup (ea_cons ev_c (ea_cons ev_c ea_nil)) (by show 2 ≤ 100000; decide)) ev_c) ?_
      exact egs_nil
    have P2 := P1.keep s2
    have hS2 := ex_l s2 hS1
    have hlq : l ≠ q := ne_of hL P2.hp (by intro z; cases z)
    -- the laps
    have hn : (if ((ns.map V.int).length : Int) < 3 then ((ns.map V.int).length : Int) else 3) ≤ 3 ∧ 0 ≤ (if ((ns.map V.int).length : Int) < 3 then ((ns.map V.int).length : Int) else 3) := by
      split <;> omega
    generalize hm : (if ((ns.map V.int).length : Int) < 3 then ((ns.map V.int).length : Int) else 3) = m at hn
    refine q_forR1 (n := 2 + m) (ea_cons (ev_op ev_c (ev_is (ev_min2 ev_c (ev_lenX (K := K) (ev_var rfl) hS2)) (by rw [hm])) rv_I0) ea_nil) (by omega)
      (fun i σ' H' => ∃ (ix r : Int) (v3 v4 v5 v6 v7 v8 v9 : Option V), σ' = [some (.ref a), some (.ref q), some (.ref l), v3, v4, v5, v6, v7, v8, v9] ∧ PenAt H' q c ns ix r ∧ ix ≤ 2 * (i : Int) ∧ H' l = some (.lst xs) ∧ ∀ v ∈ xs, Gd H' v) (fun H3 e3 => ?_) ?_ ?_
    · exact ⟨0, 0, _, _, _, _, _, _, _, rfl, P2.keep e3, by omega, e3 _ _ hL, fun v hv => (G2 v hv).ext e3⟩
    · rintro i σ' H3 hi ⟨ix, r, v3, v4, v5, v6, v7, v8, v9, rfl, P3, hix, hL3, G3⟩
      -- mine, yours
      refine ⟨_, rfl, _, rfl, q, c, ns, ix, r, l, xs, rfl, P3, by omega, SqL.of hL3, by omega, by omega, hlq, fun x i1 r1 H4 hx4 _ hi1 sb4 P4 => ?_⟩
      have hL4 := sb4 _ _ hlq hL3
      have G4 : ∀ v ∈ xs, Gd H4 v := fun v hv => (G3 v hv).sib P3.hp sb4
      refine ⟨_, rfl, _, rfl, q, c, ns, i1, r1, l, xs, rfl, P4, by omega, SqL.of hL4, by omega, by omega, hlq, fun y i2 r2 H5 hy5 _ hi2 sb5 P5 => ?_⟩
      have hL5 := sb5 _ _ hlq hL4
      have G5 : ∀ v ∈ xs, Gd H5 v := fun v hv => (G4 v hv).sib P4.hp sb5
      refine ⟨by show 2 ≤ sizeLine; decide, fun t ht => ?_⟩
      refine ⟨t, [x, y], rfl, st_of upd_same, rfl, x, [y], rfl, y, [], rfl, rfl, ?_⟩
      have e6 : Ex H5 (upd H5 t (.tup [x, y])) := Ex.new ht
      generalize upd H5 t (.tup [x, y]) = H6 at e6
      have P6 := P5.keep e6
      have hL6 := e6 _ _ hL5
      have gx := (G5 x hx4).ext e6
      have gy := (G5 y hy5).ext e6
      -- those with one field
      refine ⟨_, rfl, x, rfl, fun l7 ts7 H7 hl7 e7 hl7' tp7 => ⟨l7, rfl, ⟨_, SqL.of hl7'⟩, ?_⟩⟩
      refine for_list (K := K) (a := l7) (xs := ts7.map V.ref) (fun j σ2 H8 => ∃ u6 u7 : Option V, σ2 = [some (.ref a), some (.ref q), some (.ref l), some (.int (i : Int)), some x, some y, u6, u7, v8, v9] ∧ Ex H7 H8) ⟨_, _, rfl, Ex.refl _⟩ (fun j σ2 H8 _ ⟨_, _, _, e8⟩ => SqL.of (e8 _ _ hl7')) ?_ ?_
      · rintro j z σ2 H8 hz ⟨u6, u7, rfl, e8⟩
        obtain ⟨t8, ht8, rfl⟩ : ∃ t8, ts7[j]? = some t8 ∧ z = V.ref t8 := by
          rw [List.getElem?_map] at hz
          cases e : ts7[j]? with
          | none => rw [e] at hz; cases hz
          | some t8 => rw [e] at hz; exact ⟨t8, rfl, (Option.some.inj hz).symm⟩
        obtain ⟨ys, hys, hT8⟩ := tups_at tp7 ht8
        have hy : ys = [x, x] := by
          have z := List.mem_of_getElem? hys
          exact (List.mem_replicate.mp z).2
        subst hy
        refine ⟨t8, [x, x], rfl, st_of (e8 _ _ hT8), rfl, x, [x], rfl, x, [], rfl, rfl, ?_⟩
        have g8 := gx.ext (e7.trans e8)
        refine s_when (et_or (et_test (ev_op (ev_var rfl) (ev_var rfl) (rv_self g8))) fun _ => et_or (et_test (ev_op (ev_var rfl) (ev_var rfl) (rv_self g8))) fun _ => et_isi g8 (ev_var rfl) (ev_var rfl)) (fun z => nomatch z) (fun _ H9 e9 => ?_)
        exact ⟨_, _, rfl, e8.trans e9⟩
      · rintro σ2 H8 ⟨u6, u7, rfl, e8⟩
        have gx8 := gx.ext (e7.trans e8)
        have gy8 := gy.ext (e7.trans e8)
        -- those with two
        refine ⟨_, rfl, _, rfl, x, y, rfl, fun l9 ts9 H9 hl9 e9 hl9' tp9 => ⟨l9, rfl, ⟨_, SqL.of hl9'⟩, ?_⟩⟩
        refine for_list (K := K) (a := l9) (xs := ts9.map V.ref) (fun j σ2 H10 => ∃ u6 u8 : Option V, σ2 = [some (.ref a), some (.ref q), some (.ref l), some (.int (i : Int)), some x, some y, u6, u7, u8, v9] ∧ Ex H9 H10) ⟨_, _, rfl, Ex.refl _⟩ (fun j σ2 H10 _ ⟨_, _, _, e10⟩ => SqL.of (e10 _ _ hl9')) ?_ ?_
        · rintro j z σ2 H10 hz ⟨u6, u8, rfl, e10⟩
          obtain ⟨t8, ht8, rfl⟩ : ∃ t8, ts9[j]? = some t8 ∧ z = V.ref t8 := by
            rw [List.getElem?_map] at hz
            cases e : ts9[j]? with
            | none => rw [e] at hz; cases hz
            | some t8 => rw [e] at hz; exact ⟨t8, rfl, (Option.some.inj hz).symm⟩
          obtain ⟨ys, hys, hT8⟩ := tups_at tp9 ht8
          obtain ⟨v, hv, g8⟩ : ∃ v, ys = [v, v] ∧ Gd H10 v := by
            have z := List.mem_of_getElem? hys
            have e := e9.trans e10
            rcases due_of z with q | q
            · exact ⟨x, q, gx8.ext e⟩
            · exact ⟨y, q, gy8.ext e⟩
          subst hv
          refine ⟨t8, [v, v], rfl, st_of (e10 _ _ hT8), rfl, v, [v], rfl, v, [], rfl, rfl, ?_⟩
          refine s_when (et_or (et_test (ev_op (ev_var rfl) (ev_var rfl) (rv_self g8))) fun _ => et_isi g8 (ev_var rfl) (ev_var rfl)) (fun z => nomatch z) (fun _ H11 e11 => ?_)
          exact ⟨_, _, rfl, e10.trans e11⟩
        · rintro σ2 H10 ⟨u6, u8, rfl, e10⟩
          have e610 := ((e7.trans e8).trans e9).trans e10
          -- apart, caught
          dsimp only
          refine s_when (b := false) (et_is (et_or (et_not (et_B (b := true) ?_)) fun _ => et_not (et_B (ev_all (bs := List.replicate 5 true) (el_eq (el_lcR1 (σ := [some (.ref a), some (.ref q), some (.ref l), some (.int (i : Int)), some x, some y, u6, u7, u8, v9]) (j := 9) (vs := [9]) (n := 5) (fun _ => true) (fun _ => .bl true) (ea_cons ev_c ea_nil) (by decide) (fun _ => rfl) (fun _ _ _ _ => et_yes) fun j H11 e11 hj _ => ?_) rfl)))) rfl) (fun z => nomatch z) (fun _ H11 e11 => ?_)
          · exact fun H11 e11 Q2 q2 => ⟨_, rfl, _, rfl, x, y, rfl, fun H12 e12 => q2 H12 e12⟩
          · exact fun H12 e12 Q2 q2 => ⟨_, rfl, _, rfl, (j : Int), x, rfl, fun H13 e13 => q2 H13 e13⟩
          · have e611 := e610.trans e11
            exact ⟨i2, r2, _, _, _, _, _, _, _, rfl, P6.keep e611, by omega, e611 _ _ hL6, fun v hv => ((G5 v hv).ext e6).ext e611⟩
    · rintro σ' H' _
      exact k H'
end
end K00

set_option Elab.async false
set_option linter.all false
set_option maxRecDepth 100000
set_option maxHeartbeats 4000000
namespace K00
open PySem PySem.Spec PyProof.Rows L2 Pen EV2 Evl
theorem all_mk {l : PySem.W.OpenLaw} {w : World} {K : PySem.W.Frag} {h : Heap} {mg : Str → Option Value} {fa S : Addr}
    {C_BadValue C_NoDivisor C_NotTold C_TooHigh C_TooMany C_NotAFormula C_NotANumber C_NotAFormat C_NotAName C_OffGrid C_Unknown C_Taken C_BadFile C_BadPromise C_Broken C_NotMade C_NothingToUndo C_NothingToRedo C_Turns : Addr}
    {f_BadValue f_TooHigh f_TooMany f_NotAFormula f_NotANumber f_NotAFormat f_NotAName f_OffGrid f_Unknown f_Taken f_BadFile f_BadPromise f_Broken f_NotMade f_Turns : Addr}
    {g_P g_D g_I g_A g_M g_K g_X g_R g_C : Addr}
    {gl : Addr} (X : K.In h) (G : h.Ns mainGlobals mg) (hfa : mg "law" = some (.ref fa))
    (a_S : PySem.W.nsIn K mainGlobals "SheetError" = some (some (.ref S)))
    (a_BadValue : PySem.W.nsIn K mainGlobals "BadValue" = some (some (.ref C_BadValue)))
    (a_NoDivisor : PySem.W.nsIn K mainGlobals "NoDivisor" = some (some (.ref C_NoDivisor)))
    (a_NotTold : PySem.W.nsIn K mainGlobals "NotTold" = some (some (.ref C_NotTold)))
    (a_TooHigh : PySem.W.nsIn K mainGlobals "TooHigh" = some (some (.ref C_TooHigh)))
    (a_TooMany : PySem.W.nsIn K mainGlobals "TooMany" = some (some (.ref C_TooMany)))
    (a_NotAFormula : PySem.W.nsIn K mainGlobals "NotAFormula" = some (some (.ref C_NotAFormula)))
    (a_NotANumber : PySem.W.nsIn K mainGlobals "NotANumber" = some (some (.ref C_NotANumber)))
    (a_NotAFormat : PySem.W.nsIn K mainGlobals "NotAFormat" = some (some (.ref C_NotAFormat)))
    (a_NotAName : PySem.W.nsIn K mainGlobals "NotAName" = some (some (.ref C_NotAName)))
    (a_OffGrid : PySem.W.nsIn K mainGlobals "OffGrid" = some (some (.ref C_OffGrid)))
    (a_Unknown : PySem.W.nsIn K mainGlobals "Unknown" = some (some (.ref C_Unknown)))
    (a_Taken : PySem.W.nsIn K mainGlobals "Taken" = some (some (.ref C_Taken)))
    (a_BadFile : PySem.W.nsIn K mainGlobals "BadFile" = some (some (.ref C_BadFile)))
    (a_BadPromise : PySem.W.nsIn K mainGlobals "BadPromise" = some (some (.ref C_BadPromise)))
    (a_Broken : PySem.W.nsIn K mainGlobals "Broken" = some (some (.ref C_Broken)))
    (a_NotMade : PySem.W.nsIn K mainGlobals "NotMade" = some (some (.ref C_NotMade)))
    (a_NothingToUndo : PySem.W.nsIn K mainGlobals "NothingToUndo" = some (some (.ref C_NothingToUndo)))
    (a_NothingToRedo : PySem.W.nsIn K mainGlobals "NothingToRedo" = some (some (.ref C_NothingToRedo)))
    (a_Turns : PySem.W.nsIn K mainGlobals "Turns" = some (some (.ref C_Turns)))
    (a_P : PySem.W.nsIn K mainGlobals "_law_pen" = some (some (.ref g_P)))
    (a_D : PySem.W.nsIn K mainGlobals "_law_draw" = some (some (.ref g_D)))
    (a_I : PySem.W.nsIn K mainGlobals "_law_pick" = some (some (.ref g_I)))
    (a_A : PySem.W.nsIn K mainGlobals "_law_alone" = some (some (.ref g_A)))
    (a_M : PySem.W.nsIn K mainGlobals "_law_more" = some (some (.ref g_M)))
    (a_K : PySem.W.nsIn K mainGlobals "_law_kinds" = some (some (.ref g_K)))
    (a_X : PySem.W.nsIn K mainGlobals "_law_apart" = some (some (.ref g_X)))
    (a_R : PySem.W.nsIn K mainGlobals "_law_raise" = some (some (.ref g_R)))
    (a_C : PySem.W.nsIn K mainGlobals "_law_caught" = some (some (.ref g_C)))
    (a_L : PySem.W.nsIn K mainGlobals "law" = some (some (.ref gl)))
    (i_BadValue : PySem.W.findIn K (.ref C_BadValue) "__init__" = some (some (.ref f_BadValue)))
    (i_TooHigh : PySem.W.findIn K (.ref C_TooHigh) "__init__" = some (some (.ref f_TooHigh)))
    (i_TooMany : PySem.W.findIn K (.ref C_TooMany) "__init__" = some (some (.ref f_TooMany)))
    (i_NotAFormula : PySem.W.findIn K (.ref C_NotAFormula) "__init__" = some (some (.ref f_NotAFormula)))
    (i_NotANumber : PySem.W.findIn K (.ref C_NotANumber) "__init__" = some (some (.ref f_NotANumber)))
    (i_NotAFormat : PySem.W.findIn K (.ref C_NotAFormat) "__init__" = some (some (.ref f_NotAFormat)))
    (i_NotAName : PySem.W.findIn K (.ref C_NotAName) "__init__" = some (some (.ref f_NotAName)))
    (i_OffGrid : PySem.W.findIn K (.ref C_OffGrid) "__init__" = some (some (.ref f_OffGrid)))
    (i_Unknown : PySem.W.findIn K (.ref C_Unknown) "__init__" = some (some (.ref f_Unknown)))
    (i_Taken : PySem.W.findIn K (.ref C_Taken) "__init__" = some (some (.ref f_Taken)))
    (i_BadFile : PySem.W.findIn K (.ref C_BadFile) "__init__" = some (some (.ref f_BadFile)))
    (i_BadPromise : PySem.W.findIn K (.ref C_BadPromise) "__init__" = some (some (.ref f_BadPromise)))
    (i_Broken : PySem.W.findIn K (.ref C_Broken) "__init__" = some (some (.ref f_Broken)))
    (i_NotMade : PySem.W.findIn K (.ref C_NotMade) "__init__" = some (some (.ref f_NotMade)))
    (i_Turns : PySem.W.findIn K (.ref C_Turns) "__init__" = some (some (.ref f_Turns)))
    (z_list : PySem.W.nsIn K mainGlobals "list" = some none)
    (z_int : PySem.W.nsIn K mainGlobals "int" = some none)
    (z_len : PySem.W.nsIn K mainGlobals "len" = some none)
    (z_range : PySem.W.nsIn K mainGlobals "range" = some none)
    (z_min : PySem.W.nsIn K mainGlobals "min" = some none)
    (z_all : PySem.W.nsIn K mainGlobals "all" = some none)
    (z_isinstance : PySem.W.nsIn K mainGlobals "isinstance" = some none)
    (z_bool : PySem.W.nsIn K mainGlobals "bool" = some none)
    (z_ValueError : PySem.W.nsIn K mainGlobals "ValueError" = some none)
    (hn : PySem.W.specialIn K (.builtin "object.__class__") "__get__" = some (some (.builtin "getset_descriptor.__get__")))
    (ht : PySem.W.takesIn K (.builtin "object.__class__") = some true)
    (bS : PySem.W.subIn K (.ref S) (.type "BaseException") = some true)
    (dS : PySem.W.hasDictIn K S = true)
    (tS : PySem.W.typeIn K (.ref S) = some (.type "type"))
    {nm_BadValue q_BadValue : Str} {N_BadValue : Addr} {bs_BadValue sub_BadValue : List Value} {sn_BadValue : List Str} {ab_BadValue : Bool} {col_BadValue : Option Bool} {dd_BadValue : Option Addr} {k0_BadValue k1_BadValue k2_BadValue k3_BadValue k5_BadValue : Option Value}
    (L_BadValue : K.lookup C_BadValue = some (excClassObj nm_BadValue q_BadValue C_BadValue N_BadValue bs_BadValue (BM S) true sn_BadValue sub_BadValue ab_BadValue col_BadValue dd_BadValue k0_BadValue k1_BadValue k2_BadValue k3_BadValue k5_BadValue "ValueError.__new__"))
    (kC_BadValue : PySem.W.keepIn K (.ref C_BadValue) = true)
    (hg_BadValue : PySem.W.findIn K (.ref C_BadValue) "__getattribute__" = some (some (.builtin "BaseException.__getattribute__")))
    (hk_BadValue : PySem.W.findIn K (.ref C_BadValue) "__getattr__" = some none)
    (ha_BadValue : PySem.W.findIn K (.ref C_BadValue) "__class__" = some (some (.builtin "object.__class__")))
    (sa_BadValue : PySem.W.findIn K (.ref C_BadValue) "__setattr__" = some (some (.builtin "object.__setattr__")))
    (ty_BadValue : PySem.W.typeIn K (.ref f_BadValue) = some (.type "function"))
    (no0_BadValue : PySem.W.findIn K (.ref C_BadValue) "value" = some none)
    {oc_iBadValue kV_iBadValue dc_iBadValue pm_iBadValue cd_iBadValue ct_iBadValue : Value} {od_iBadValue an_iBadValue : Option Addr} {sl_iBadValue : Array (Option Value)}
    (l_iBadValue : K.lookup f_BadValue = some ⟨oc_iBadValue, od_iBadValue, .func (PySem.W.fnOf "__init__" "BadValue.__init__" (defArgs s_BadValue_init) (defBody s_BadValue_init) (defScope s_BadValue_init) .none kV_iBadValue dc_iBadValue pm_iBadValue an_iBadValue cd_iBadValue ct_iBadValue), sl_iBadValue⟩) (c_iBadValue : PySem.W.codeIn K cd_iBadValue "BadValue.__init__" = true) (k_iBadValue : PySem.W.keepIn K (.ref f_BadValue) = true)
    {nm_NoDivisor q_NoDivisor : Str} {N_NoDivisor : Addr} {bs_NoDivisor sub_NoDivisor : List Value} {sn_NoDivisor : List Str} {ab_NoDivisor : Bool} {col_NoDivisor : Option Bool} {dd_NoDivisor : Option Addr} {k0_NoDivisor k1_NoDivisor k2_NoDivisor k3_NoDivisor k5_NoDivisor : Option Value}
    (L_NoDivisor : K.lookup C_NoDivisor = some (excClassObj nm_NoDivisor q_NoDivisor C_NoDivisor N_NoDivisor bs_NoDivisor (BM S) true sn_NoDivisor sub_NoDivisor ab_NoDivisor col_NoDivisor dd_NoDivisor k0_NoDivisor k1_NoDivisor k2_NoDivisor k3_NoDivisor k5_NoDivisor "ValueError.__new__"))
    (kC_NoDivisor : PySem.W.keepIn K (.ref C_NoDivisor) = true)
    (hg_NoDivisor : PySem.W.findIn K (.ref C_NoDivisor) "__getattribute__" = some (some (.builtin "BaseException.__getattribute__")))
    (hk_NoDivisor : PySem.W.findIn K (.ref C_NoDivisor) "__getattr__" = some none)
    (ha_NoDivisor : PySem.W.findIn K (.ref C_NoDivisor) "__class__" = some (some (.builtin "object.__class__")))
    (xC_NoDivisor : PySem.W.excIn K C_NoDivisor [.type "ValueError", .type "Exception", .type "BaseException", .type "object"] "ValueError.__new__" = true)
    {nm_NotTold q_NotTold : Str} {N_NotTold : Addr} {bs_NotTold sub_NotTold : List Value} {sn_NotTold : List Str} {ab_NotTold : Bool} {col_NotTold : Option Bool} {dd_NotTold : Option Addr} {k0_NotTold k1_NotTold k2_NotTold k3_NotTold k5_NotTold : Option Value}
    (L_NotTold : K.lookup C_NotTold = some (excClassObj nm_NotTold q_NotTold C_NotTold N_NotTold bs_NotTold (BM S) true sn_NotTold sub_NotTold ab_NotTold col_NotTold dd_NotTold k0_NotTold k1_NotTold k2_NotTold k3_NotTold k5_NotTold "ValueError.__new__"))
    (kC_NotTold : PySem.W.keepIn K (.ref C_NotTold) = true)
    (hg_NotTold : PySem.W.findIn K (.ref C_NotTold) "__getattribute__" = some (some (.builtin "BaseException.__getattribute__")))
    (hk_NotTold : PySem.W.findIn K (.ref C_NotTold) "__getattr__" = some none)
    (ha_NotTold : PySem.W.findIn K (.ref C_NotTold) "__class__" = some (some (.builtin "object.__class__")))
    (xC_NotTold : PySem.W.excIn K C_NotTold [.type "ValueError", .type "Exception", .type "BaseException", .type "object"] "ValueError.__new__" = true)
    {nm_TooHigh q_TooHigh : Str} {N_TooHigh : Addr} {bs_TooHigh sub_TooHigh : List Value} {sn_TooHigh : List Str} {ab_TooHigh : Bool} {col_TooHigh : Option Bool} {dd_TooHigh : Option Addr} {k0_TooHigh k1_TooHigh k2_TooHigh k3_TooHigh k5_TooHigh : Option Value}
    (L_TooHigh : K.lookup C_TooHigh = some (excClassObj nm_TooHigh q_TooHigh C_TooHigh N_TooHigh bs_TooHigh (BM S) true sn_TooHigh sub_TooHigh ab_TooHigh col_TooHigh dd_TooHigh k0_TooHigh k1_TooHigh k2_TooHigh k3_TooHigh k5_TooHigh "ValueError.__new__"))
    (kC_TooHigh : PySem.W.keepIn K (.ref C_TooHigh) = true)
    (hg_TooHigh : PySem.W.findIn K (.ref C_TooHigh) "__getattribute__" = some (some (.builtin "BaseException.__getattribute__")))
    (hk_TooHigh : PySem.W.findIn K (.ref C_TooHigh) "__getattr__" = some none)
    (ha_TooHigh : PySem.W.findIn K (.ref C_TooHigh) "__class__" = some (some (.builtin "object.__class__")))
    (sa_TooHigh : PySem.W.findIn K (.ref C_TooHigh) "__setattr__" = some (some (.builtin "object.__setattr__")))
    (ty_TooHigh : PySem.W.typeIn K (.ref f_TooHigh) = some (.type "function"))
    (no0_TooHigh : PySem.W.findIn K (.ref C_TooHigh) "most" = some none)
    {oc_iTooHigh kV_iTooHigh dc_iTooHigh pm_iTooHigh cd_iTooHigh ct_iTooHigh : Value} {od_iTooHigh an_iTooHigh : Option Addr} {sl_iTooHigh : Array (Option Value)}
    (l_iTooHigh : K.lookup f_TooHigh = some ⟨oc_iTooHigh, od_iTooHigh, .func (PySem.W.fnOf "__init__" "TooHigh.__init__" (defArgs s_TooHigh_init) (defBody s_TooHigh_init) (defScope s_TooHigh_init) .none kV_iTooHigh dc_iTooHigh pm_iTooHigh an_iTooHigh cd_iTooHigh ct_iTooHigh), sl_iTooHigh⟩) (c_iTooHigh : PySem.W.codeIn K cd_iTooHigh "TooHigh.__init__" = true) (k_iTooHigh : PySem.W.keepIn K (.ref f_TooHigh) = true)
    {nm_TooMany q_TooMany : Str} {N_TooMany : Addr} {bs_TooMany sub_TooMany : List Value} {sn_TooMany : List Str} {ab_TooMany : Bool} {col_TooMany : Option Bool} {dd_TooMany : Option Addr} {k0_TooMany k1_TooMany k2_TooMany k3_TooMany k5_TooMany : Option Value}
    (L_TooMany : K.lookup C_TooMany = some (excClassObj nm_TooMany q_TooMany C_TooMany N_TooMany bs_TooMany (BM S) true sn_TooMany sub_TooMany ab_TooMany col_TooMany dd_TooMany k0_TooMany k1_TooMany k2_TooMany k3_TooMany k5_TooMany "ValueError.__new__"))
    (kC_TooMany : PySem.W.keepIn K (.ref C_TooMany) = true)
    (hg_TooMany : PySem.W.findIn K (.ref C_TooMany) "__getattribute__" = some (some (.builtin "BaseException.__getattribute__")))
    (hk_TooMany : PySem.W.findIn K (.ref C_TooMany) "__getattr__" = some none)
    (ha_TooMany : PySem.W.findIn K (.ref C_TooMany) "__class__" = some (some (.builtin "object.__class__")))
    (sa_TooMany : PySem.W.findIn K (.ref C_TooMany) "__setattr__" = some (some (.builtin "object.__setattr__")))
    (ty_TooMany : PySem.W.typeIn K (.ref f_TooMany) = some (.type "function"))
    (no0_TooMany : PySem.W.findIn K (.ref C_TooMany) "most" = some none)
    {oc_iTooMany kV_iTooMany dc_iTooMany pm_iTooMany cd_iTooMany ct_iTooMany : Value} {od_iTooMany an_iTooMany : Option Addr} {sl_iTooMany : Array (Option Value)}
    (l_iTooMany : K.lookup f_TooMany = some ⟨oc_iTooMany, od_iTooMany, .func (PySem.W.fnOf "__init__" "TooMany.__init__" (defArgs s_TooMany_init) (defBody s_TooMany_init) (defScope s_TooMany_init) .none kV_iTooMany dc_iTooMany pm_iTooMany an_iTooMany cd_iTooMany ct_iTooMany), sl_iTooMany⟩) (c_iTooMany : PySem.W.codeIn K cd_iTooMany "TooMany.__init__" = true) (k_iTooMany : PySem.W.keepIn K (.ref f_TooMany) = true)
    {nm_NotAFormula q_NotAFormula : Str} {N_NotAFormula : Addr} {bs_NotAFormula sub_NotAFormula : List Value} {sn_NotAFormula : List Str} {ab_NotAFormula : Bool} {col_NotAFormula : Option Bool} {dd_NotAFormula : Option Addr} {k0_NotAFormula k1_NotAFormula k2_NotAFormula k3_NotAFormula k5_NotAFormula : Option Value}
    (L_NotAFormula : K.lookup C_NotAFormula = some (excClassObj nm_NotAFormula q_NotAFormula C_NotAFormula N_NotAFormula bs_NotAFormula (BM S) true sn_NotAFormula sub_NotAFormula ab_NotAFormula col_NotAFormula dd_NotAFormula k0_NotAFormula k1_NotAFormula k2_NotAFormula k3_NotAFormula k5_NotAFormula "ValueError.__new__"))
    (kC_NotAFormula : PySem.W.keepIn K (.ref C_NotAFormula) = true)
    (hg_NotAFormula : PySem.W.findIn K (.ref C_NotAFormula) "__getattribute__" = some (some (.builtin "BaseException.__getattribute__")))
    (hk_NotAFormula : PySem.W.findIn K (.ref C_NotAFormula) "__getattr__" = some none)
    (ha_NotAFormula : PySem.W.findIn K (.ref C_NotAFormula) "__class__" = some (some (.builtin "object.__class__")))
    (sa_NotAFormula : PySem.W.findIn K (.ref C_NotAFormula) "__setattr__" = some (some (.builtin "object.__setattr__")))
    (ty_NotAFormula : PySem.W.typeIn K (.ref f_NotAFormula) = some (.type "function"))
    (no0_NotAFormula : PySem.W.findIn K (.ref C_NotAFormula) "at" = some none)
    {oc_iNotAFormula kV_iNotAFormula dc_iNotAFormula pm_iNotAFormula cd_iNotAFormula ct_iNotAFormula : Value} {od_iNotAFormula an_iNotAFormula : Option Addr} {sl_iNotAFormula : Array (Option Value)}
    (l_iNotAFormula : K.lookup f_NotAFormula = some ⟨oc_iNotAFormula, od_iNotAFormula, .func (PySem.W.fnOf "__init__" "NotAFormula.__init__" (defArgs s_NotAFormula_init) (defBody s_NotAFormula_init) (defScope s_NotAFormula_init) .none kV_iNotAFormula dc_iNotAFormula pm_iNotAFormula an_iNotAFormula cd_iNotAFormula ct_iNotAFormula), sl_iNotAFormula⟩) (c_iNotAFormula : PySem.W.codeIn K cd_iNotAFormula "NotAFormula.__init__" = true) (k_iNotAFormula : PySem.W.keepIn K (.ref f_NotAFormula) = true)
    {nm_NotANumber q_NotANumber : Str} {N_NotANumber : Addr} {bs_NotANumber sub_NotANumber : List Value} {sn_NotANumber : List Str} {ab_NotANumber : Bool} {col_NotANumber : Option Bool} {dd_NotANumber : Option Addr} {k0_NotANumber k1_NotANumber k2_NotANumber k3_NotANumber k5_NotANumber : Option Value}
    (L_NotANumber : K.lookup C_NotANumber = some (excClassObj nm_NotANumber q_NotANumber C_NotANumber N_NotANumber bs_NotANumber (BM S) true sn_NotANumber sub_NotANumber ab_NotANumber col_NotANumber dd_NotANumber k0_NotANumber k1_NotANumber k2_NotANumber k3_NotANumber k5_NotANumber "ValueError.__new__"))
    (kC_NotANumber : PySem.W.keepIn K (.ref C_NotANumber) = true)
    (hg_NotANumber : PySem.W.findIn K (.ref C_NotANumber) "__getattribute__" = some (some (.builtin "BaseException.__getattribute__")))
    (hk_NotANumber : PySem.W.findIn K (.ref C_NotANumber) "__getattr__" = some none)
    (ha_NotANumber : PySem.W.findIn K (.ref C_NotANumber) "__class__" = some (some (.builtin "object.__class__")))
    (sa_NotANumber : PySem.W.findIn K (.ref C_NotANumber) "__setattr__" = some (some (.builtin "object.__setattr__")))
    (ty_NotANumber : PySem.W.typeIn K (.ref f_NotANumber) = some (.type "function"))
    (no0_NotANumber : PySem.W.findIn K (.ref C_NotANumber) "at" = some none)
    {oc_iNotANumber kV_iNotANumber dc_iNotANumber pm_iNotANumber cd_iNotANumber ct_iNotANumber : Value} {od_iNotANumber an_iNotANumber : Option Addr} {sl_iNotANumber : Array (Option Value)}
    (l_iNotANumber : K.lookup f_NotANumber = some ⟨oc_iNotANumber, od_iNotANumber, .func (PySem.W.fnOf "__init__" "NotANumber.__init__" (defArgs s_NotANumber_init) (defBody s_NotANumber_init) (defScope s_NotANumber_init) .none kV_iNotANumber dc_iNotANumber pm_iNotANumber an_iNotANumber cd_iNotANumber ct_iNotANumber), sl_iNotANumber⟩) (c_iNotANumber : PySem.W.codeIn K cd_iNotANumber "NotANumber.__init__" = true) (k_iNotANumber : PySem.W.keepIn K (.ref f_NotANumber) = true)
    {nm_NotAFormat q_NotAFormat : Str} {N_NotAFormat : Addr} {bs_NotAFormat sub_NotAFormat : List Value} {sn_NotAFormat : List Str} {ab_NotAFormat : Bool} {col_NotAFormat : Option Bool} {dd_NotAFormat : Option Addr} {k0_NotAFormat k1_NotAFormat k2_NotAFormat k3_NotAFormat k5_NotAFormat : Option Value}
    (L_NotAFormat : K.lookup C_NotAFormat = some (excClassObj nm_NotAFormat q_NotAFormat C_NotAFormat N_NotAFormat bs_NotAFormat (BM S) true sn_NotAFormat sub_NotAFormat ab_NotAFormat col_NotAFormat dd_NotAFormat k0_NotAFormat k1_NotAFormat k2_NotAFormat k3_NotAFormat k5_NotAFormat "ValueError.__new__"))
    (kC_NotAFormat : PySem.W.keepIn K (.ref C_NotAFormat) = true)
    (hg_NotAFormat : PySem.W.findIn K (.ref C_NotAFormat) "__getattribute__" = some (some (.builtin "BaseException.__getattribute__")))
    (hk_NotAFormat : PySem.W.findIn K (.ref C_NotAFormat) "__getattr__" = some none)
    (ha_NotAFormat : PySem.W.findIn K (.ref C_NotAFormat) "__class__" = some (some (.builtin "object.__class__")))
    (sa_NotAFormat : PySem.W.findIn K (.ref C_NotAFormat) "__setattr__" = some (some (.builtin "object.__setattr__")))
    (ty_NotAFormat : PySem.W.typeIn K (.ref f_NotAFormat) = some (.type "function"))
    (no0_NotAFormat : PySem.W.findIn K (.ref C_NotAFormat) "at" = some none)
    {oc_iNotAFormat kV_iNotAFormat dc_iNotAFormat pm_iNotAFormat cd_iNotAFormat ct_iNotAFormat : Value} {od_iNotAFormat an_iNotAFormat : Option Addr} {sl_iNotAFormat : Array (Option Value)}
    (l_iNotAFormat : K.lookup f_NotAFormat = some ⟨oc_iNotAFormat, od_iNotAFormat, .func (PySem.W.fnOf "__init__" "NotAFormat.__init__" (defArgs s_NotAFormat_init) (defBody s_NotAFormat_init) (defScope s_NotAFormat_init) .none kV_iNotAFormat dc_iNotAFormat pm_iNotAFormat an_iNotAFormat cd_iNotAFormat ct_iNotAFormat), sl_iNotAFormat⟩) (c_iNotAFormat : PySem.W.codeIn K cd_iNotAFormat "NotAFormat.__init__" = true) (k_iNotAFormat : PySem.W.keepIn K (.ref f_NotAFormat) = true)
    {nm_NotAName q_NotAName : Str} {N_NotAName : Addr} {bs_NotAName sub_NotAName : List Value} {sn_NotAName : List Str} {ab_NotAName : Bool} {col_NotAName : Option Bool} {dd_NotAName : Option Addr} {k0_NotAName k1_NotAName k2_NotAName k3_NotAName k5_NotAName : Option Value}
    (L_NotAName : K.lookup C_NotAName = some (excClassObj nm_NotAName q_NotAName C_NotAName N_NotAName bs_NotAName (BM S) true sn_NotAName sub_NotAName ab_NotAName col_NotAName dd_NotAName k0_NotAName k1_NotAName k2_NotAName k3_NotAName k5_NotAName "ValueError.__new__"))
    (kC_NotAName : PySem.W.keepIn K (.ref C_NotAName) = true)
    (hg_NotAName : PySem.W.findIn K (.ref C_NotAName) "__getattribute__" = some (some (.builtin "BaseException.__getattribute__")))
    (hk_NotAName : PySem.W.findIn K (.ref C_NotAName) "__getattr__" = some none)
    (ha_NotAName : PySem.W.findIn K (.ref C_NotAName) "__class__" = some (some (.builtin "object.__class__")))
    (sa_NotAName : PySem.W.findIn K (.ref C_NotAName) "__setattr__" = some (some (.builtin "object.__setattr__")))
    (ty_NotAName : PySem.W.typeIn K (.ref f_NotAName) = some (.type "function"))
    (no0_NotAName : PySem.W.findIn K (.ref C_NotAName) "name" = some none)
    {oc_iNotAName kV_iNotAName dc_iNotAName pm_iNotAName cd_iNotAName ct_iNotAName : Value} {od_iNotAName an_iNotAName : Option Addr} {sl_iNotAName : Array (Option Value)}
    (l_iNotAName : K.lookup f_NotAName = some ⟨oc_iNotAName, od_iNotAName, .func (PySem.W.fnOf "__init__" "NotAName.__init__" (defArgs s_NotAName_init) (defBody s_NotAName_init) (defScope s_NotAName_init) .none kV_iNotAName dc_iNotAName pm_iNotAName an_iNotAName cd_iNotAName ct_iNotAName), sl_iNotAName⟩) (c_iNotAName : PySem.W.codeIn K cd_iNotAName "NotAName.__init__" = true) (k_iNotAName : PySem.W.keepIn K (.ref f_NotAName) = true)
    {nm_OffGrid q_OffGrid : Str} {N_OffGrid : Addr} {bs_OffGrid sub_OffGrid : List Value} {sn_OffGrid : List Str} {ab_OffGrid : Bool} {col_OffGrid : Option Bool} {dd_OffGrid : Option Addr} {k0_OffGrid k1_OffGrid k2_OffGrid k3_OffGrid k5_OffGrid : Option Value}
    (L_OffGrid : K.lookup C_OffGrid = some (excClassObj nm_OffGrid q_OffGrid C_OffGrid N_OffGrid bs_OffGrid (BM S) true sn_OffGrid sub_OffGrid ab_OffGrid col_OffGrid dd_OffGrid k0_OffGrid k1_OffGrid k2_OffGrid k3_OffGrid k5_OffGrid "ValueError.__new__"))
    (kC_OffGrid : PySem.W.keepIn K (.ref C_OffGrid) = true)
    (hg_OffGrid : PySem.W.findIn K (.ref C_OffGrid) "__getattribute__" = some (some (.builtin "BaseException.__getattribute__")))
    (hk_OffGrid : PySem.W.findIn K (.ref C_OffGrid) "__getattr__" = some none)
    (ha_OffGrid : PySem.W.findIn K (.ref C_OffGrid) "__class__" = some (some (.builtin "object.__class__")))
    (sa_OffGrid : PySem.W.findIn K (.ref C_OffGrid) "__setattr__" = some (some (.builtin "object.__setattr__")))
    (ty_OffGrid : PySem.W.typeIn K (.ref f_OffGrid) = some (.type "function"))
    (no0_OffGrid : PySem.W.findIn K (.ref C_OffGrid) "row" = some none)
    (no1_OffGrid : PySem.W.findIn K (.ref C_OffGrid) "column" = some none)
    {oc_iOffGrid kV_iOffGrid dc_iOffGrid pm_iOffGrid cd_iOffGrid ct_iOffGrid : Value} {od_iOffGrid an_iOffGrid : Option Addr} {sl_iOffGrid : Array (Option Value)}
    (l_iOffGrid : K.lookup f_OffGrid = some ⟨oc_iOffGrid, od_iOffGrid, .func (PySem.W.fnOf "__init__" "OffGrid.__init__" (defArgs s_OffGrid_init) (defBody s_OffGrid_init) (defScope s_OffGrid_init) .none kV_iOffGrid dc_iOffGrid pm_iOffGrid an_iOffGrid cd_iOffGrid ct_iOffGrid), sl_iOffGrid⟩) (c_iOffGrid : PySem.W.codeIn K cd_iOffGrid "OffGrid.__init__" = true) (k_iOffGrid : PySem.W.keepIn K (.ref f_OffGrid) = true)
    {nm_Unknown q_Unknown : Str} {N_Unknown : Addr} {bs_Unknown sub_Unknown : List Value} {sn_Unknown : List Str} {ab_Unknown : Bool} {col_Unknown : Option Bool} {dd_Unknown : Option Addr} {k0_Unknown k1_Unknown k2_Unknown k3_Unknown k5_Unknown : Option Value}
    (L_Unknown : K.lookup C_Unknown = some (excClassObj nm_Unknown q_Unknown C_Unknown N_Unknown bs_Unknown (BM S) true sn_Unknown sub_Unknown ab_Unknown col_Unknown dd_Unknown k0_Unknown k1_Unknown k2_Unknown k3_Unknown k5_Unknown "ValueError.__new__"))
    (kC_Unknown : PySem.W.keepIn K (.ref C_Unknown) = true)
    (hg_Unknown : PySem.W.findIn K (.ref C_Unknown) "__getattribute__" = some (some (.builtin "BaseException.__getattribute__")))
    (hk_Unknown : PySem.W.findIn K (.ref C_Unknown) "__getattr__" = some none)
    (ha_Unknown : PySem.W.findIn K (.ref C_Unknown) "__class__" = some (some (.builtin "object.__class__")))
    (sa_Unknown : PySem.W.findIn K (.ref C_Unknown) "__setattr__" = some (some (.builtin "object.__setattr__")))
    (ty_Unknown : PySem.W.typeIn K (.ref f_Unknown) = some (.type "function"))
    (no0_Unknown : PySem.W.findIn K (.ref C_Unknown) "name" = some none)
    {oc_iUnknown kV_iUnknown dc_iUnknown pm_iUnknown cd_iUnknown ct_iUnknown : Value} {od_iUnknown an_iUnknown : Option Addr} {sl_iUnknown : Array (Option Value)}
    (l_iUnknown : K.lookup f_Unknown = some ⟨oc_iUnknown, od_iUnknown, .func (PySem.W.fnOf "__init__" "Unknown.__init__" (defArgs s_Unknown_init) (defBody s_Unknown_init) (defScope s_Unknown_init) .none kV_iUnknown dc_iUnknown pm_iUnknown an_iUnknown cd_iUnknown ct_iUnknown), sl_iUnknown⟩) (c_iUnknown : PySem.W.codeIn K cd_iUnknown "Unknown.__init__" = true) (k_iUnknown : PySem.W.keepIn K (.ref f_Unknown) = true)
    {nm_Taken q_Taken : Str} {N_Taken : Addr} {bs_Taken sub_Taken : List Value} {sn_Taken : List Str} {ab_Taken : Bool} {col_Taken : Option Bool} {dd_Taken : Option Addr} {k0_Taken k1_Taken k2_Taken k3_Taken k5_Taken : Option Value}
    (L_Taken : K.lookup C_Taken = some (excClassObj nm_Taken q_Taken C_Taken N_Taken bs_Taken (BM S) true sn_Taken sub_Taken ab_Taken col_Taken dd_Taken k0_Taken k1_Taken k2_Taken k3_Taken k5_Taken "ValueError.__new__"))
    (kC_Taken : PySem.W.keepIn K (.ref C_Taken) = true)
    (hg_Taken : PySem.W.findIn K (.ref C_Taken) "__getattribute__" = some (some (.builtin "BaseException.__getattribute__")))
    (hk_Taken : PySem.W.findIn K (.ref C_Taken) "__getattr__" = some none)
    (ha_Taken : PySem.W.findIn K (.ref C_Taken) "__class__" = some (some (.builtin "object.__class__")))
    (sa_Taken : PySem.W.findIn K (.ref C_Taken) "__setattr__" = some (some (.builtin "object.__setattr__")))
    (ty_Taken : PySem.W.typeIn K (.ref f_Taken) = some (.type "function"))
    (no0_Taken : PySem.W.findIn K (.ref C_Taken) "name" = some none)
    {oc_iTaken kV_iTaken dc_iTaken pm_iTaken cd_iTaken ct_iTaken : Value} {od_iTaken an_iTaken : Option Addr} {sl_iTaken : Array (Option Value)}
    (l_iTaken : K.lookup f_Taken = some ⟨oc_iTaken, od_iTaken, .func (PySem.W.fnOf "__init__" "Taken.__init__" (defArgs s_Taken_init) (defBody s_Taken_init) (defScope s_Taken_init) .none kV_iTaken dc_iTaken pm_iTaken an_iTaken cd_iTaken ct_iTaken), sl_iTaken⟩) (c_iTaken : PySem.W.codeIn K cd_iTaken "Taken.__init__" = true) (k_iTaken : PySem.W.keepIn K (.ref f_Taken) = true)
    {nm_BadFile q_BadFile : Str} {N_BadFile : Addr} {bs_BadFile sub_BadFile : List Value} {sn_BadFile : List Str} {ab_BadFile : Bool} {col_BadFile : Option Bool} {dd_BadFile : Option Addr} {k0_BadFile k1_BadFile k2_BadFile k3_BadFile k5_BadFile : Option Value}
    (L_BadFile : K.lookup C_BadFile = some (excClassObj nm_BadFile q_BadFile C_BadFile N_BadFile bs_BadFile (BM S) true sn_BadFile sub_BadFile ab_BadFile col_BadFile dd_BadFile k0_BadFile k1_BadFile k2_BadFile k3_BadFile k5_BadFile "ValueError.__new__"))
    (kC_BadFile : PySem.W.keepIn K (.ref C_BadFile) = true)
    (hg_BadFile : PySem.W.findIn K (.ref C_BadFile) "__getattribute__" = some (some (.builtin "BaseException.__getattribute__")))
    (hk_BadFile : PySem.W.findIn K (.ref C_BadFile) "__getattr__" = some none)
    (ha_BadFile : PySem.W.findIn K (.ref C_BadFile) "__class__" = some (some (.builtin "object.__class__")))
    (sa_BadFile : PySem.W.findIn K (.ref C_BadFile) "__setattr__" = some (some (.builtin "object.__setattr__")))
    (ty_BadFile : PySem.W.typeIn K (.ref f_BadFile) = some (.type "function"))
    (no0_BadFile : PySem.W.findIn K (.ref C_BadFile) "line" = some none)
    (no1_BadFile : PySem.W.findIn K (.ref C_BadFile) "at" = some none)
    {oc_iBadFile kV_iBadFile dc_iBadFile pm_iBadFile cd_iBadFile ct_iBadFile : Value} {od_iBadFile an_iBadFile : Option Addr} {sl_iBadFile : Array (Option Value)}
    (l_iBadFile : K.lookup f_BadFile = some ⟨oc_iBadFile, od_iBadFile, .func (PySem.W.fnOf "__init__" "BadFile.__init__" (defArgs s_BadFile_init) (defBody s_BadFile_init) (defScope s_BadFile_init) .none kV_iBadFile dc_iBadFile pm_iBadFile an_iBadFile cd_iBadFile ct_iBadFile), sl_iBadFile⟩) (c_iBadFile : PySem.W.codeIn K cd_iBadFile "BadFile.__init__" = true) (k_iBadFile : PySem.W.keepIn K (.ref f_BadFile) = true)
    {nm_BadPromise q_BadPromise : Str} {N_BadPromise : Addr} {bs_BadPromise sub_BadPromise : List Value} {sn_BadPromise : List Str} {ab_BadPromise : Bool} {col_BadPromise : Option Bool} {dd_BadPromise : Option Addr} {k0_BadPromise k1_BadPromise k2_BadPromise k3_BadPromise k5_BadPromise : Option Value}
    (L_BadPromise : K.lookup C_BadPromise = some (excClassObj nm_BadPromise q_BadPromise C_BadPromise N_BadPromise bs_BadPromise (BM S) true sn_BadPromise sub_BadPromise ab_BadPromise col_BadPromise dd_BadPromise k0_BadPromise k1_BadPromise k2_BadPromise k3_BadPromise k5_BadPromise "ValueError.__new__"))
    (kC_BadPromise : PySem.W.keepIn K (.ref C_BadPromise) = true)
    (hg_BadPromise : PySem.W.findIn K (.ref C_BadPromise) "__getattribute__" = some (some (.builtin "BaseException.__getattribute__")))
    (hk_BadPromise : PySem.W.findIn K (.ref C_BadPromise) "__getattr__" = some none)
    (ha_BadPromise : PySem.W.findIn K (.ref C_BadPromise) "__class__" = some (some (.builtin "object.__class__")))
    (sa_BadPromise : PySem.W.findIn K (.ref C_BadPromise) "__setattr__" = some (some (.builtin "object.__setattr__")))
    (ty_BadPromise : PySem.W.typeIn K (.ref f_BadPromise) = some (.type "function"))
    (no0_BadPromise : PySem.W.findIn K (.ref C_BadPromise) "promise" = some none)
    {oc_iBadPromise kV_iBadPromise dc_iBadPromise pm_iBadPromise cd_iBadPromise ct_iBadPromise : Value} {od_iBadPromise an_iBadPromise : Option Addr} {sl_iBadPromise : Array (Option Value)}
    (l_iBadPromise : K.lookup f_BadPromise = some ⟨oc_iBadPromise, od_iBadPromise, .func (PySem.W.fnOf "__init__" "BadPromise.__init__" (defArgs s_BadPromise_init) (defBody s_BadPromise_init) (defScope s_BadPromise_init) .none kV_iBadPromise dc_iBadPromise pm_iBadPromise an_iBadPromise cd_iBadPromise ct_iBadPromise), sl_iBadPromise⟩) (c_iBadPromise : PySem.W.codeIn K cd_iBadPromise "BadPromise.__init__" = true) (k_iBadPromise : PySem.W.keepIn K (.ref f_BadPromise) = true)
    {nm_Broken q_Broken : Str} {N_Broken : Addr} {bs_Broken sub_Broken : List Value} {sn_Broken : List Str} {ab_Broken : Bool} {col_Broken : Option Bool} {dd_Broken : Option Addr} {k0_Broken k1_Broken k2_Broken k3_Broken k5_Broken : Option Value}
    (L_Broken : K.lookup C_Broken = some (excClassObj nm_Broken q_Broken C_Broken N_Broken bs_Broken (BM S) true sn_Broken sub_Broken ab_Broken col_Broken dd_Broken k0_Broken k1_Broken k2_Broken k3_Broken k5_Broken "ValueError.__new__"))
    (kC_Broken : PySem.W.keepIn K (.ref C_Broken) = true)
    (hg_Broken : PySem.W.findIn K (.ref C_Broken) "__getattribute__" = some (some (.builtin "BaseException.__getattribute__")))
    (hk_Broken : PySem.W.findIn K (.ref C_Broken) "__getattr__" = some none)
    (ha_Broken : PySem.W.findIn K (.ref C_Broken) "__class__" = some (some (.builtin "object.__class__")))
    (sa_Broken : PySem.W.findIn K (.ref C_Broken) "__setattr__" = some (some (.builtin "object.__setattr__")))
    (ty_Broken : PySem.W.typeIn K (.ref f_Broken) = some (.type "function"))
    (no0_Broken : PySem.W.findIn K (.ref C_Broken) "promise" = some none)
    (no1_Broken : PySem.W.findIn K (.ref C_Broken) "where" = some none)
    {oc_iBroken kV_iBroken dc_iBroken pm_iBroken cd_iBroken ct_iBroken : Value} {od_iBroken an_iBroken : Option Addr} {sl_iBroken : Array (Option Value)}
    (l_iBroken : K.lookup f_Broken = some ⟨oc_iBroken, od_iBroken, .func (PySem.W.fnOf "__init__" "Broken.__init__" (defArgs s_Broken_init) (defBody s_Broken_init) (defScope s_Broken_init) .none kV_iBroken dc_iBroken pm_iBroken an_iBroken cd_iBroken ct_iBroken), sl_iBroken⟩) (c_iBroken : PySem.W.codeIn K cd_iBroken "Broken.__init__" = true) (k_iBroken : PySem.W.keepIn K (.ref f_Broken) = true)
    {nm_NotMade q_NotMade : Str} {N_NotMade : Addr} {bs_NotMade sub_NotMade : List Value} {sn_NotMade : List Str} {ab_NotMade : Bool} {col_NotMade : Option Bool} {dd_NotMade : Option Addr} {k0_NotMade k1_NotMade k2_NotMade k3_NotMade k5_NotMade : Option Value}
    (L_NotMade : K.lookup C_NotMade = some (excClassObj nm_NotMade q_NotMade C_NotMade N_NotMade bs_NotMade (BM S) true sn_NotMade sub_NotMade ab_NotMade col_NotMade dd_NotMade k0_NotMade k1_NotMade k2_NotMade k3_NotMade k5_NotMade "ValueError.__new__"))
    (kC_NotMade : PySem.W.keepIn K (.ref C_NotMade) = true)
    (hg_NotMade : PySem.W.findIn K (.ref C_NotMade) "__getattribute__" = some (some (.builtin "BaseException.__getattribute__")))
    (hk_NotMade : PySem.W.findIn K (.ref C_NotMade) "__getattr__" = some none)
    (ha_NotMade : PySem.W.findIn K (.ref C_NotMade) "__class__" = some (some (.builtin "object.__class__")))
    (sa_NotMade : PySem.W.findIn K (.ref C_NotMade) "__setattr__" = some (some (.builtin "object.__setattr__")))
    (ty_NotMade : PySem.W.typeIn K (.ref f_NotMade) = some (.type "function"))
    (no0_NotMade : PySem.W.findIn K (.ref C_NotMade) "promise" = some none)
    {oc_iNotMade kV_iNotMade dc_iNotMade pm_iNotMade cd_iNotMade ct_iNotMade : Value} {od_iNotMade an_iNotMade : Option Addr} {sl_iNotMade : Array (Option Value)}
    (l_iNotMade : K.lookup f_NotMade = some ⟨oc_iNotMade, od_iNotMade, .func (PySem.W.fnOf "__init__" "NotMade.__init__" (defArgs s_NotMade_init) (defBody s_NotMade_init) (defScope s_NotMade_init) .none kV_iNotMade dc_iNotMade pm_iNotMade an_iNotMade cd_iNotMade ct_iNotMade), sl_iNotMade⟩) (c_iNotMade : PySem.W.codeIn K cd_iNotMade "NotMade.__init__" = true) (k_iNotMade : PySem.W.keepIn K (.ref f_NotMade) = true)
    {nm_NothingToUndo q_NothingToUndo : Str} {N_NothingToUndo : Addr} {bs_NothingToUndo sub_NothingToUndo : List Value} {sn_NothingToUndo : List Str} {ab_NothingToUndo : Bool} {col_NothingToUndo : Option Bool} {dd_NothingToUndo : Option Addr} {k0_NothingToUndo k1_NothingToUndo k2_NothingToUndo k3_NothingToUndo k5_NothingToUndo : Option Value}
    (L_NothingToUndo : K.lookup C_NothingToUndo = some (excClassObj nm_NothingToUndo q_NothingToUndo C_NothingToUndo N_NothingToUndo bs_NothingToUndo (BM S) true sn_NothingToUndo sub_NothingToUndo ab_NothingToUndo col_NothingToUndo dd_NothingToUndo k0_NothingToUndo k1_NothingToUndo k2_NothingToUndo k3_NothingToUndo k5_NothingToUndo "ValueError.__new__"))
    (kC_NothingToUndo : PySem.W.keepIn K (.ref C_NothingToUndo) = true)
    (hg_NothingToUndo : PySem.W.findIn K (.ref C_NothingToUndo) "__getattribute__" = some (some (.builtin "BaseException.__getattribute__")))
    (hk_NothingToUndo : PySem.W.findIn K (.ref C_NothingToUndo) "__getattr__" = some none)
    (ha_NothingToUndo : PySem.W.findIn K (.ref C_NothingToUndo) "__class__" = some (some (.builtin "object.__class__")))
    (xC_NothingToUndo : PySem.W.excIn K C_NothingToUndo [.type "ValueError", .type "Exception", .type "BaseException", .type "object"] "ValueError.__new__" = true)
    {nm_NothingToRedo q_NothingToRedo : Str} {N_NothingToRedo : Addr} {bs_NothingToRedo sub_NothingToRedo : List Value} {sn_NothingToRedo : List Str} {ab_NothingToRedo : Bool} {col_NothingToRedo : Option Bool} {dd_NothingToRedo : Option Addr} {k0_NothingToRedo k1_NothingToRedo k2_NothingToRedo k3_NothingToRedo k5_NothingToRedo : Option Value}
    (L_NothingToRedo : K.lookup C_NothingToRedo = some (excClassObj nm_NothingToRedo q_NothingToRedo C_NothingToRedo N_NothingToRedo bs_NothingToRedo (BM S) true sn_NothingToRedo sub_NothingToRedo ab_NothingToRedo col_NothingToRedo dd_NothingToRedo k0_NothingToRedo k1_NothingToRedo k2_NothingToRedo k3_NothingToRedo k5_NothingToRedo "ValueError.__new__"))
    (kC_NothingToRedo : PySem.W.keepIn K (.ref C_NothingToRedo) = true)
    (hg_NothingToRedo : PySem.W.findIn K (.ref C_NothingToRedo) "__getattribute__" = some (some (.builtin "BaseException.__getattribute__")))
    (hk_NothingToRedo : PySem.W.findIn K (.ref C_NothingToRedo) "__getattr__" = some none)
    (ha_NothingToRedo : PySem.W.findIn K (.ref C_NothingToRedo) "__class__" = some (some (.builtin "object.__class__")))
    (xC_NothingToRedo : PySem.W.excIn K C_NothingToRedo [.type "ValueError", .type "Exception", .type "BaseException", .type "object"] "ValueError.__new__" = true)
    {nm_Turns q_Turns : Str} {N_Turns : Addr} {bs_Turns sub_Turns : List Value} {sn_Turns : List Str} {ab_Turns : Bool} {col_Turns : Option Bool} {dd_Turns : Option Addr} {k0_Turns k1_Turns k2_Turns k3_Turns k5_Turns : Option Value}
    (L_Turns : K.lookup C_Turns = some (excClassObj nm_Turns q_Turns C_Turns N_Turns bs_Turns (BM S) true sn_Turns sub_Turns ab_Turns col_Turns dd_Turns k0_Turns k1_Turns k2_Turns k3_Turns k5_Turns "ValueError.__new__"))
    (kC_Turns : PySem.W.keepIn K (.ref C_Turns) = true)
    (hg_Turns : PySem.W.findIn K (.ref C_Turns) "__getattribute__" = some (some (.builtin "BaseException.__getattribute__")))
    (hk_Turns : PySem.W.findIn K (.ref C_Turns) "__getattr__" = some none)
    (ha_Turns : PySem.W.findIn K (.ref C_Turns) "__class__" = some (some (.builtin "object.__class__")))
    (sa_Turns : PySem.W.findIn K (.ref C_Turns) "__setattr__" = some (some (.builtin "object.__setattr__")))
    (ty_Turns : PySem.W.typeIn K (.ref f_Turns) = some (.type "function"))
    (no0_Turns : PySem.W.findIn K (.ref C_Turns) "poly" = some none)
    {oc_iTurns kV_iTurns dc_iTurns pm_iTurns cd_iTurns ct_iTurns : Value} {od_iTurns an_iTurns : Option Addr} {sl_iTurns : Array (Option Value)}
    (l_iTurns : K.lookup f_Turns = some ⟨oc_iTurns, od_iTurns, .func (PySem.W.fnOf "__init__" "Turns.__init__" (defArgs s_Turns_init) (defBody s_Turns_init) (defScope s_Turns_init) .none kV_iTurns dc_iTurns pm_iTurns an_iTurns cd_iTurns ct_iTurns), sl_iTurns⟩) (c_iTurns : PySem.W.codeIn K cd_iTurns "Turns.__init__" = true) (k_iTurns : PySem.W.keepIn K (.ref f_Turns) = true)
    {oc_P kV_P dc_P pm_P cd_P ct_P : Value} {od_P an_P : Option Addr} {sl_P : Array (Option Value)}
    (l_P : K.lookup g_P = some ⟨oc_P, od_P, .func (PySem.W.fnOf "_law_pen" "_law_pen" (defArgs s_l_pen) (defBody s_l_pen) (defScope s_l_pen) .none kV_P dc_P pm_P an_P cd_P ct_P), sl_P⟩) (c_P : PySem.W.codeIn K cd_P "_law_pen" = true) (k_P : PySem.W.keepIn K (.ref g_P) = true)
    {oc_D kV_D dc_D pm_D cd_D ct_D : Value} {od_D an_D : Option Addr} {sl_D : Array (Option Value)}
    (l_D : K.lookup g_D = some ⟨oc_D, od_D, .func (PySem.W.fnOf "_law_draw" "_law_draw" (defArgs s_l_draw) (defBody s_l_draw) (defScope s_l_draw) .none kV_D dc_D pm_D an_D cd_D ct_D), sl_D⟩) (c_D : PySem.W.codeIn K cd_D "_law_draw" = true) (k_D : PySem.W.keepIn K (.ref g_D) = true)
    {oc_I kV_I dc_I pm_I cd_I ct_I : Value} {od_I an_I : Option Addr} {sl_I : Array (Option Value)}
    (l_I : K.lookup g_I = some ⟨oc_I, od_I, .func (PySem.W.fnOf "_law_pick" "_law_pick" (defArgs s_l_pick) (defBody s_l_pick) (defScope s_l_pick) .none kV_I dc_I pm_I an_I cd_I ct_I), sl_I⟩) (c_I : PySem.W.codeIn K cd_I "_law_pick" = true) (k_I : PySem.W.keepIn K (.ref g_I) = true)
    {oc_A kV_A dc_A pm_A cd_A ct_A : Value} {od_A an_A : Option Addr} {sl_A : Array (Option Value)}
    (l_A : K.lookup g_A = some ⟨oc_A, od_A, .func (PySem.W.fnOf "_law_alone" "_law_alone" (defArgs s_l_alone) (defBody s_l_alone) (defScope s_l_alone) .none kV_A dc_A pm_A an_A cd_A ct_A), sl_A⟩) (c_A : PySem.W.codeIn K cd_A "_law_alone" = true) (k_A : PySem.W.keepIn K (.ref g_A) = true)
    {oc_M kV_M dc_M pm_M cd_M ct_M : Value} {od_M an_M : Option Addr} {sl_M : Array (Option Value)}
    (l_M : K.lookup g_M = some ⟨oc_M, od_M, .func (PySem.W.fnOf "_law_more" "_law_more" (defArgs s_l_more) (defBody s_l_more) (defScope s_l_more) .none kV_M dc_M pm_M an_M cd_M ct_M), sl_M⟩) (c_M : PySem.W.codeIn K cd_M "_law_more" = true) (k_M : PySem.W.keepIn K (.ref g_M) = true)
    {oc_K kV_K dc_K pm_K cd_K ct_K : Value} {od_K an_K : Option Addr} {sl_K : Array (Option Value)}
    (l_K : K.lookup g_K = some ⟨oc_K, od_K, .func (PySem.W.fnOf "_law_kinds" "_law_kinds" (defArgs s_l_kinds) (defBody s_l_kinds) (defScope s_l_kinds) .none kV_K dc_K pm_K an_K cd_K ct_K), sl_K⟩) (c_K : PySem.W.codeIn K cd_K "_law_kinds" = true) (k_K : PySem.W.keepIn K (.ref g_K) = true)
    {oc_X kV_X dc_X pm_X cd_X ct_X : Value} {od_X an_X : Option Addr} {sl_X : Array (Option Value)}
    (l_X : K.lookup g_X = some ⟨oc_X, od_X, .func (PySem.W.fnOf "_law_apart" "_law_apart" (defArgs s_l_apart) (defBody s_l_apart) (defScope s_l_apart) .none kV_X dc_X pm_X an_X cd_X ct_X), sl_X⟩) (c_X : PySem.W.codeIn K cd_X "_law_apart" = true) (k_X : PySem.W.keepIn K (.ref g_X) = true)
    {oc_R kV_R dc_R pm_R cd_R ct_R : Value} {od_R an_R : Option Addr} {sl_R : Array (Option Value)}
    (l_R : K.lookup g_R = some ⟨oc_R, od_R, .func (PySem.W.fnOf "_law_raise" "_law_raise" (defArgs s_l_raise) (defBody s_l_raise) (defScope s_l_raise) .none kV_R dc_R pm_R an_R cd_R ct_R), sl_R⟩) (c_R : PySem.W.codeIn K cd_R "_law_raise" = true) (k_R : PySem.W.keepIn K (.ref g_R) = true)
    {oc_C kV_C dc_C pm_C cd_C ct_C : Value} {od_C an_C : Option Addr} {sl_C : Array (Option Value)}
    (l_C : K.lookup g_C = some ⟨oc_C, od_C, .func (PySem.W.fnOf "_law_caught" "_law_caught" (defArgs s_l_caught) (defBody s_l_caught) (defScope s_l_caught) .none kV_C dc_C pm_C an_C cd_C ct_C), sl_C⟩) (c_C : PySem.W.codeIn K cd_C "_law_caught" = true) (k_C : PySem.W.keepIn K (.ref g_C) = true)
    {oc_L kV_L dc_L pm_L cd_L ct_L : Value} {od_L an_L : Option Addr} {sl_L : Array (Option Value)}
    (l_L : K.lookup gl = some ⟨oc_L, od_L, .func (PySem.W.fnOf "law" "law" (defArgs s_law) (defBody s_law) (defScope s_law) .none kV_L dc_L pm_L an_L cd_L ct_L), sl_L⟩) (c_L : PySem.W.codeIn K cd_L "law" = true) (k_L : PySem.W.keepIn K (.ref gl) = true)
    (nd : ([C_BadValue, C_NoDivisor, C_NotTold, C_TooHigh, C_TooMany, C_NotAFormula, C_NotANumber, C_NotAFormat, C_NotAName, C_OffGrid, C_Unknown, C_Taken, C_BadFile, C_BadPromise, C_Broken, C_NotMade, C_NothingToUndo, C_NothingToRedo, C_Turns] : List Addr).Nodup)
    (nS : ∀ C ∈ ([C_BadValue, C_NoDivisor, C_NotTold, C_TooHigh, C_TooMany, C_NotAFormula, C_NotANumber, C_NotAFormat, C_NotAName, C_OffGrid, C_Unknown, C_Taken, C_BadFile, C_BadPromise, C_Broken, C_NotMade, C_NothingToUndo, C_NothingToRedo, C_Turns] : List Addr), C ≠ S)
    : ∃ fd : FuncData, (∀ (s : Shared) (v : Value), BindsTo s fd ⟨[v], []⟩ [("_law_script", v)]) ∧ ∀ base : Heap, K.In base → base.Ns mainGlobals mg → FnOk l.prog w K mg base CX0 5 fa fd P_law (spLaw K) := by
  have sS : (PySem.W.clsIn K S).isSome = true := by
    have q := dS
    unfold PySem.W.hasDictIn at q
    cases e : PySem.W.clsIn K S with
    | none => rw [e] at q; cases q
    | some _ => rfl
  have e := hfa.symm.trans (PySem.W.mg_of X G a_L)
  cases e
  have g : GetC K := ⟨hn, ht⟩
  have ln_BadValue : LineOf K S C_BadValue := ⟨_, _, _, _, _, _, _, _, _, _, _, _, _, _, L_BadValue⟩
  have ln_NoDivisor : LineOf K S C_NoDivisor := ⟨_, _, _, _, _, _, _, _, _, _, _, _, _, _, L_NoDivisor⟩
  have ln_NotTold : LineOf K S C_NotTold := ⟨_, _, _, _, _, _, _, _, _, _, _, _, _, _, L_NotTold⟩
  have ln_TooHigh : LineOf K S C_TooHigh := ⟨_, _, _, _, _, _, _, _, _, _, _, _, _, _, L_TooHigh⟩
  have ln_TooMany : LineOf K S C_TooMany := ⟨_, _, _, _, _, _, _, _, _, _, _, _, _, _, L_TooMany⟩
  have ln_NotAFormula : LineOf K S C_NotAFormula := ⟨_, _, _, _, _, _, _, _, _, _, _, _, _, _, L_NotAFormula⟩
  have ln_NotANumber : LineOf K S C_NotANumber := ⟨_, _, _, _, _, _, _, _, _, _, _, _, _, _, L_NotANumber⟩
  have ln_NotAFormat : LineOf K S C_NotAFormat := ⟨_, _, _, _, _, _, _, _, _, _, _, _, _, _, L_NotAFormat⟩
  have ln_NotAName : LineOf K S C_NotAName := ⟨_, _, _, _, _, _, _, _, _, _, _, _, _, _, L_NotAName⟩
  have ln_OffGrid : LineOf K S C_OffGrid := ⟨_, _, _, _, _, _, _, _, _, _, _, _, _, _, L_OffGrid⟩
  have ln_Unknown : LineOf K S C_Unknown := ⟨_, _, _, _, _, _, _, _, _, _, _, _, _, _, L_Unknown⟩
  have ln_Taken : LineOf K S C_Taken := ⟨_, _, _, _, _, _, _, _, _, _, _, _, _, _, L_Taken⟩
  have ln_BadFile : LineOf K S C_BadFile := ⟨_, _, _, _, _, _, _, _, _, _, _, _, _, _, L_BadFile⟩
  have ln_BadPromise : LineOf K S C_BadPromise := ⟨_, _, _, _, _, _, _, _, _, _, _, _, _, _, L_BadPromise⟩
  have ln_Broken : LineOf K S C_Broken := ⟨_, _, _, _, _, _, _, _, _, _, _, _, _, _, L_Broken⟩
  have ln_NotMade : LineOf K S C_NotMade := ⟨_, _, _, _, _, _, _, _, _, _, _, _, _, _, L_NotMade⟩
  have ln_NothingToUndo : LineOf K S C_NothingToUndo := ⟨_, _, _, _, _, _, _, _, _, _, _, _, _, _, L_NothingToUndo⟩
  have ln_NothingToRedo : LineOf K S C_NothingToRedo := ⟨_, _, _, _, _, _, _, _, _, _, _, _, _, _, L_NothingToRedo⟩
  have ln_Turns : LineOf K S C_Turns := ⟨_, _, _, _, _, _, _, _, _, _, _, _, _, _, L_Turns⟩
  have e_BadValue : Er1 K mg "BadValue" "BadValue.__init__" s_BadValue_init "value" C_BadValue f_BadValue (PySem.W.fnOf "__init__" "BadValue.__init__" (defArgs s_BadValue_init) (defBody s_BadValue_init) (defScope s_BadValue_init) .none kV_iBadValue dc_iBadValue pm_iBadValue an_iBadValue cd_iBadValue ct_iBadValue) := ⟨PySem.W.mg_of X G a_BadValue, ⟨ln_BadValue.ox sa_BadValue kC_BadValue, i_BadValue, ty_BadValue⟩, ln_BadValue.xf hg_BadValue hk_BadValue, no0_BadValue, fun_mk (st := s_BadValue_init) l_iBadValue c_iBadValue k_iBadValue, ln_BadValue.ic g hg_BadValue hk_BadValue ha_BadValue⟩
  have e_NoDivisor : Er0 K mg "NoDivisor" C_NoDivisor := ⟨PySem.W.mg_of X G a_NoDivisor, xC_NoDivisor, kC_NoDivisor, ln_NoDivisor.ic g hg_NoDivisor hk_NoDivisor ha_NoDivisor⟩
  have e_NotTold : Er0 K mg "NotTold" C_NotTold := ⟨PySem.W.mg_of X G a_NotTold, xC_NotTold, kC_NotTold, ln_NotTold.ic g hg_NotTold hk_NotTold ha_NotTold⟩
  have e_TooHigh : Er1 K mg "TooHigh" "TooHigh.__init__" s_TooHigh_init "most" C_TooHigh f_TooHigh (PySem.W.fnOf "__init__" "TooHigh.__init__" (defArgs s_TooHigh_init) (defBody s_TooHigh_init) (defScope s_TooHigh_init) .none kV_iTooHigh dc_iTooHigh pm_iTooHigh an_iTooHigh cd_iTooHigh ct_iTooHigh) := ⟨PySem.W.mg_of X G a_TooHigh, ⟨ln_TooHigh.ox sa_TooHigh kC_TooHigh, i_TooHigh, ty_TooHigh⟩, ln_TooHigh.xf hg_TooHigh hk_TooHigh, no0_TooHigh, fun_mk (st := s_TooHigh_init) l_iTooHigh c_iTooHigh k_iTooHigh, ln_TooHigh.ic g hg_TooHigh hk_TooHigh ha_TooHigh⟩
  have e_TooMany : Er1 K mg "TooMany" "TooMany.__init__" s_TooMany_init "most" C_TooMany f_TooMany (PySem.W.fnOf "__init__" "TooMany.__init__" (defArgs s_TooMany_init) (defBody s_TooMany_init) (defScope s_TooMany_init) .none kV_iTooMany dc_iTooMany pm_iTooMany an_iTooMany cd_iTooMany ct_iTooMany) := ⟨PySem.W.mg_of X G a_TooMany, ⟨ln_TooMany.ox sa_TooMany kC_TooMany, i_TooMany, ty_TooMany⟩, ln_TooMany.xf hg_TooMany hk_TooMany, no0_TooMany, fun_mk (st := s_TooMany_init) l_iTooMany c_iTooMany k_iTooMany, ln_TooMany.ic g hg_TooMany hk_TooMany ha_TooMany⟩
  have e_NotAFormula : Er1 K mg "NotAFormula" "NotAFormula.__init__" s_NotAFormula_init "at" C_NotAFormula f_NotAFormula (PySem.W.fnOf "__init__" "NotAFormula.__init__" (defArgs s_NotAFormula_init) (defBody s_NotAFormula_init) (defScope s_NotAFormula_init) .none kV_iNotAFormula dc_iNotAFormula pm_iNotAFormula an_iNotAFormula cd_iNotAFormula ct_iNotAFormula) := ⟨PySem.W.mg_of X G a_NotAFormula, ⟨ln_NotAFormula.ox sa_NotAFormula kC_NotAFormula, i_NotAFormula, ty_NotAFormula⟩, ln_NotAFormula.xf hg_NotAFormula hk_NotAFormula, no0_NotAFormula, fun_mk (st := s_NotAFormula_init) l_iNotAFormula c_iNotAFormula k_iNotAFormula, ln_NotAFormula.ic g hg_NotAFormula hk_NotAFormula ha_NotAFormula⟩
  have e_NotANumber : Er1 K mg "NotANumber" "NotANumber.__init__" s_NotANumber_init "at" C_NotANumber f_NotANumber (PySem.W.fnOf "__init__" "NotANumber.__init__" (defArgs s_NotANumber_init) (defBody s_NotANumber_init) (defScope s_NotANumber_init) .none kV_iNotANumber dc_iNotANumber pm_iNotANumber an_iNotANumber cd_iNotANumber ct_iNotANumber) := ⟨PySem.W.mg_of X G a_NotANumber, ⟨ln_NotANumber.ox sa_NotANumber kC_NotANumber, i_NotANumber, ty_NotANumber⟩, ln_NotANumber.xf hg_NotANumber hk_NotANumber, no0_NotANumber, fun_mk (st := s_NotANumber_init) l_iNotANumber c_iNotANumber k_iNotANumber, ln_NotANumber.ic g hg_NotANumber hk_NotANumber ha_NotANumber⟩
  have e_NotAFormat : Er1 K mg "NotAFormat" "NotAFormat.__init__" s_NotAFormat_init "at" C_NotAFormat f_NotAFormat (PySem.W.fnOf "__init__" "NotAFormat.__init__" (defArgs s_NotAFormat_init) (defBody s_NotAFormat_init) (defScope s_NotAFormat_init) .none kV_iNotAFormat dc_iNotAFormat pm_iNotAFormat an_iNotAFormat cd_iNotAFormat ct_iNotAFormat) := ⟨PySem.W.mg_of X G a_NotAFormat, ⟨ln_NotAFormat.ox sa_NotAFormat kC_NotAFormat, i_NotAFormat, ty_NotAFormat⟩, ln_NotAFormat.xf hg_NotAFormat hk_NotAFormat, no0_NotAFormat, fun_mk (st := s_NotAFormat_init) l_iNotAFormat c_iNotAFormat k_iNotAFormat, ln_NotAFormat.ic g hg_NotAFormat hk_NotAFormat ha_NotAFormat⟩
  have e_NotAName : Er1 K mg "NotAName" "NotAName.__init__" s_NotAName_init "name" C_NotAName f_NotAName (PySem.W.fnOf "__init__" "NotAName.__init__" (defArgs s_NotAName_init) (defBody s_NotAName_init) (defScope s_NotAName_init) .none kV_iNotAName dc_iNotAName pm_iNotAName an_iNotAName cd_iNotAName ct_iNotAName) := ⟨PySem.W.mg_of X G a_NotAName, ⟨ln_NotAName.ox sa_NotAName kC_NotAName, i_NotAName, ty_NotAName⟩, ln_NotAName.xf hg_NotAName hk_NotAName, no0_NotAName, fun_mk (st := s_NotAName_init) l_iNotAName c_iNotAName k_iNotAName, ln_NotAName.ic g hg_NotAName hk_NotAName ha_NotAName⟩
  have e_OffGrid : Er2 K mg "OffGrid" "OffGrid.__init__" s_OffGrid_init "row" "column" C_OffGrid f_OffGrid (PySem.W.fnOf "__init__" "OffGrid.__init__" (defArgs s_OffGrid_init) (defBody s_OffGrid_init) (defScope s_OffGrid_init) .none kV_iOffGrid dc_iOffGrid pm_iOffGrid an_iOffGrid cd_iOffGrid ct_iOffGrid) := ⟨PySem.W.mg_of X G a_OffGrid, ⟨ln_OffGrid.ox sa_OffGrid kC_OffGrid, i_OffGrid, ty_OffGrid⟩, ln_OffGrid.xf hg_OffGrid hk_OffGrid, no0_OffGrid, no1_OffGrid, fun_mk (st := s_OffGrid_init) l_iOffGrid c_iOffGrid k_iOffGrid, ln_OffGrid.ic g hg_OffGrid hk_OffGrid ha_OffGrid⟩
  have e_Unknown : Er1 K mg "Unknown" "Unknown.__init__" s_Unknown_init "name" C_Unknown f_Unknown (PySem.W.fnOf "__init__" "Unknown.__init__" (defArgs s_Unknown_init) (defBody s_Unknown_init) (defScope s_Unknown_init) .none kV_iUnknown dc_iUnknown pm_iUnknown an_iUnknown cd_iUnknown ct_iUnknown) := ⟨PySem.W.mg_of X G a_Unknown, ⟨ln_Unknown.ox sa_Unknown kC_Unknown, i_Unknown, ty_Unknown⟩, ln_Unknown.xf hg_Unknown hk_Unknown, no0_Unknown, fun_mk (st := s_Unknown_init) l_iUnknown c_iUnknown k_iUnknown, ln_Unknown.ic g hg_Unknown hk_Unknown ha_Unknown⟩
  have e_Taken : Er1 K mg "Taken" "Taken.__init__" s_Taken_init "name" C_Taken f_Taken (PySem.W.fnOf "__init__" "Taken.__init__" (defArgs s_Taken_init) (defBody s_Taken_init) (defScope s_Taken_init) .none kV_iTaken dc_iTaken pm_iTaken an_iTaken cd_iTaken ct_iTaken) := ⟨PySem.W.mg_of X G a_Taken, ⟨ln_Taken.ox sa_Taken kC_Taken, i_Taken, ty_Taken⟩, ln_Taken.xf hg_Taken hk_Taken, no0_Taken, fun_mk (st := s_Taken_init) l_iTaken c_iTaken k_iTaken, ln_Taken.ic g hg_Taken hk_Taken ha_Taken⟩
  have e_BadFile : Er2 K mg "BadFile" "BadFile.__init__" s_BadFile_init "line" "at" C_BadFile f_BadFile (PySem.W.fnOf "__init__" "BadFile.__init__" (defArgs s_BadFile_init) (defBody s_BadFile_init) (defScope s_BadFile_init) .none kV_iBadFile dc_iBadFile pm_iBadFile an_iBadFile cd_iBadFile ct_iBadFile) := ⟨PySem.W.mg_of X G a_BadFile, ⟨ln_BadFile.ox sa_BadFile kC_BadFile, i_BadFile, ty_BadFile⟩, ln_BadFile.xf hg_BadFile hk_BadFile, no0_BadFile, no1_BadFile, fun_mk (st := s_BadFile_init) l_iBadFile c_iBadFile k_iBadFile, ln_BadFile.ic g hg_BadFile hk_BadFile ha_BadFile⟩
  have e_BadPromise : Er1 K mg "BadPromise" "BadPromise.__init__" s_BadPromise_init "promise" C_BadPromise f_BadPromise (PySem.W.fnOf "__init__" "BadPromise.__init__" (defArgs s_BadPromise_init) (defBody s_BadPromise_init) (defScope s_BadPromise_init) .none kV_iBadPromise dc_iBadPromise pm_iBadPromise an_iBadPromise cd_iBadPromise ct_iBadPromise) := ⟨PySem.W.mg_of X G a_BadPromise, ⟨ln_BadPromise.ox sa_BadPromise kC_BadPromise, i_BadPromise, ty_BadPromise⟩, ln_BadPromise.xf hg_BadPromise hk_BadPromise, no0_BadPromise, fun_mk (st := s_BadPromise_init) l_iBadPromise c_iBadPromise k_iBadPromise, ln_BadPromise.ic g hg_BadPromise hk_BadPromise ha_BadPromise⟩
  have e_Broken : Er2 K mg "Broken" "Broken.__init__" s_Broken_init "promise" "where" C_Broken f_Broken (PySem.W.fnOf "__init__" "Broken.__init__" (defArgs s_Broken_init) (defBody s_Broken_init) (defScope s_Broken_init) .none kV_iBroken dc_iBroken pm_iBroken an_iBroken cd_iBroken ct_iBroken) := ⟨PySem.W.mg_of X G a_Broken, ⟨ln_Broken.ox sa_Broken kC_Broken, i_Broken, ty_Broken⟩, ln_Broken.xf hg_Broken hk_Broken, no0_Broken, no1_Broken, fun_mk (st := s_Broken_init) l_iBroken c_iBroken k_iBroken, ln_Broken.ic g hg_Broken hk_Broken ha_Broken⟩
  have e_NotMade : Er1 K mg "NotMade" "NotMade.__init__" s_NotMade_init "promise" C_NotMade f_NotMade (PySem.W.fnOf "__init__" "NotMade.__init__" (defArgs s_NotMade_init) (defBody s_NotMade_init) (defScope s_NotMade_init) .none kV_iNotMade dc_iNotMade pm_iNotMade an_iNotMade cd_iNotMade ct_iNotMade) := ⟨PySem.W.mg_of X G a_NotMade, ⟨ln_NotMade.ox sa_NotMade kC_NotMade, i_NotMade, ty_NotMade⟩, ln_NotMade.xf hg_NotMade hk_NotMade, no0_NotMade, fun_mk (st := s_NotMade_init) l_iNotMade c_iNotMade k_iNotMade, ln_NotMade.ic g hg_NotMade hk_NotMade ha_NotMade⟩
  have e_NothingToUndo : Er0 K mg "NothingToUndo" C_NothingToUndo := ⟨PySem.W.mg_of X G a_NothingToUndo, xC_NothingToUndo, kC_NothingToUndo, ln_NothingToUndo.ic g hg_NothingToUndo hk_NothingToUndo ha_NothingToUndo⟩
  have e_NothingToRedo : Er0 K mg "NothingToRedo" C_NothingToRedo := ⟨PySem.W.mg_of X G a_NothingToRedo, xC_NothingToRedo, kC_NothingToRedo, ln_NothingToRedo.ic g hg_NothingToRedo hk_NothingToRedo ha_NothingToRedo⟩
  have e_Turns : Er1 K mg "Turns" "Turns.__init__" s_Turns_init "poly" C_Turns f_Turns (PySem.W.fnOf "__init__" "Turns.__init__" (defArgs s_Turns_init) (defBody s_Turns_init) (defScope s_Turns_init) .none kV_iTurns dc_iTurns pm_iTurns an_iTurns cd_iTurns ct_iTurns) := ⟨PySem.W.mg_of X G a_Turns, ⟨ln_Turns.ox sa_Turns kC_Turns, i_Turns, ty_Turns⟩, ln_Turns.xf hg_Turns hk_Turns, no0_Turns, fun_mk (st := s_Turns_init) l_iTurns c_iTurns k_iTurns, ln_Turns.ic g hg_Turns hk_Turns ha_Turns⟩
  have TE : TxtE K mg (⟨C_BadValue, C_NoDivisor, C_NotTold, C_TooHigh, C_TooMany, C_NotAFormula, C_NotANumber, C_NotAFormat, C_NotAName, C_OffGrid, C_Unknown, C_Taken, C_BadFile, C_BadPromise, C_Broken, C_NotMade, C_NothingToUndo, C_NothingToRedo, C_Turns, f_BadValue, (PySem.W.fnOf "__init__" "BadValue.__init__" (defArgs s_BadValue_init) (defBody s_BadValue_init) (defScope s_BadValue_init) .none kV_iBadValue dc_iBadValue pm_iBadValue an_iBadValue cd_iBadValue ct_iBadValue), f_TooHigh, (PySem.W.fnOf "__init__" "TooHigh.__init__" (defArgs s_TooHigh_init) (defBody s_TooHigh_init) (defScope s_TooHigh_init) .none kV_iTooHigh dc_iTooHigh pm_iTooHigh an_iTooHigh cd_iTooHigh ct_iTooHigh), f_TooMany, (PySem.W.fnOf "__init__" "TooMany.__init__" (defArgs s_TooMany_init) (defBody s_TooMany_init) (defScope s_TooMany_init) .none kV_iTooMany dc_iTooMany pm_iTooMany an_iTooMany cd_iTooMany ct_iTooMany), f_NotAFormula, (PySem.W.fnOf "__init__" "NotAFormula.__init__" (defArgs s_NotAFormula_init) (defBody s_NotAFormula_init) (defScope s_NotAFormula_init) .none kV_iNotAFormula dc_iNotAFormula pm_iNotAFormula an_iNotAFormula cd_iNotAFormula ct_iNotAFormula), f_NotANumber, (PySem.W.fnOf "__init__" "NotANumber.__init__" (defArgs s_NotANumber_init) (defBody s_NotANumber_init) (defScope s_NotANumber_init) .none kV_iNotANumber dc_iNotANumber pm_iNotANumber an_iNotANumber cd_iNotANumber ct_iNotANumber), f_NotAFormat, (PySem.W.fnOf "__init__" "NotAFormat.__init__" (defArgs s_NotAFormat_init) (defBody s_NotAFormat_init) (defScope s_NotAFormat_init) .none kV_iNotAFormat dc_iNotAFormat pm_iNotAFormat an_iNotAFormat cd_iNotAFormat ct_iNotAFormat), f_NotAName, (PySem.W.fnOf "__init__" "NotAName.__init__" (defArgs s_NotAName_init) (defBody s_NotAName_init) (defScope s_NotAName_init) .none kV_iNotAName dc_iNotAName pm_iNotAName an_iNotAName cd_iNotAName ct_iNotAName), f_OffGrid, (PySem.W.fnOf "__init__" "OffGrid.__init__" (defArgs s_OffGrid_init) (defBody s_OffGrid_init) (defScope s_OffGrid_init) .none kV_iOffGrid dc_iOffGrid pm_iOffGrid an_iOffGrid cd_iOffGrid ct_iOffGrid), f_Unknown, (PySem.W.fnOf "__init__" "Unknown.__init__" (defArgs s_Unknown_init) (defBody s_Unknown_init) (defScope s_Unknown_init) .none kV_iUnknown dc_iUnknown pm_iUnknown an_iUnknown cd_iUnknown ct_iUnknown), f_Taken, (PySem.W.fnOf "__init__" "Taken.__init__" (defArgs s_Taken_init) (defBody s_Taken_init) (defScope s_Taken_init) .none kV_iTaken dc_iTaken pm_iTaken an_iTaken cd_iTaken ct_iTaken), f_BadFile, (PySem.W.fnOf "__init__" "BadFile.__init__" (defArgs s_BadFile_init) (defBody s_BadFile_init) (defScope s_BadFile_init) .none kV_iBadFile dc_iBadFile pm_iBadFile an_iBadFile cd_iBadFile ct_iBadFile), f_BadPromise, (PySem.W.fnOf "__init__" "BadPromise.__init__" (defArgs s_BadPromise_init) (defBody s_BadPromise_init) (defScope s_BadPromise_init) .none kV_iBadPromise dc_iBadPromise pm_iBadPromise an_iBadPromise cd_iBadPromise ct_iBadPromise), f_Broken, (PySem.W.fnOf "__init__" "Broken.__init__" (defArgs s_Broken_init) (defBody s_Broken_init) (defScope s_Broken_init) .none kV_iBroken dc_iBroken pm_iBroken an_iBroken cd_iBroken ct_iBroken), f_NotMade, (PySem.W.fnOf "__init__" "NotMade.__init__" (defArgs s_NotMade_init) (defBody s_NotMade_init) (defScope s_NotMade_init) .none kV_iNotMade dc_iNotMade pm_iNotMade an_iNotMade cd_iNotMade ct_iNotMade), f_Turns, (PySem.W.fnOf "__init__" "Turns.__init__" (defArgs s_Turns_init) (defBody s_Turns_init) (defScope s_Turns_init) .none kV_iTurns dc_iTurns pm_iTurns an_iTurns cd_iTurns ct_iTurns)⟩ : Ads) := ⟨e_BadValue, e_NoDivisor, e_NotTold, e_TooHigh, e_TooMany, e_NotAFormula, e_NotANumber, e_NotAFormat, e_NotAName, e_OffGrid, e_Unknown, e_Taken, e_BadFile, e_BadPromise, e_Broken, e_NotMade, e_NothingToUndo, e_NothingToRedo, e_Turns⟩
  have TK : TxtK K mg (⟨C_BadValue, C_NoDivisor, C_NotTold, C_TooHigh, C_TooMany, C_NotAFormula, C_NotANumber, C_NotAFormat, C_NotAName, C_OffGrid, C_Unknown, C_Taken, C_BadFile, C_BadPromise, C_Broken, C_NotMade, C_NothingToUndo, C_NothingToRedo, C_Turns, f_BadValue, (PySem.W.fnOf "__init__" "BadValue.__init__" (defArgs s_BadValue_init) (defBody s_BadValue_init) (defScope s_BadValue_init) .none kV_iBadValue dc_iBadValue pm_iBadValue an_iBadValue cd_iBadValue ct_iBadValue), f_TooHigh, (PySem.W.fnOf "__init__" "TooHigh.__init__" (defArgs s_TooHigh_init) (defBody s_TooHigh_init) (defScope s_TooHigh_init) .none kV_iTooHigh dc_iTooHigh pm_iTooHigh an_iTooHigh cd_iTooHigh ct_iTooHigh), f_TooMany, (PySem.W.fnOf "__init__" "TooMany.__init__" (defArgs s_TooMany_init) (defBody s_TooMany_init) (defScope s_TooMany_init) .none kV_iTooMany dc_iTooMany pm_iTooMany an_iTooMany cd_iTooMany ct_iTooMany), f_NotAFormula, (PySem.W.fnOf "__init__" "NotAFormula.__init__" (defArgs s_NotAFormula_init) (defBody s_NotAFormula_init) (defScope s_NotAFormula_init) .none kV_iNotAFormula dc_iNotAFormula pm_iNotAFormula an_iNotAFormula cd_iNotAFormula ct_iNotAFormula), f_NotANumber, (PySem.W.fnOf "__init__" "NotANumber.__init__" (defArgs s_NotANumber_init) (defBody s_NotANumber_init) (defScope s_NotANumber_init) .none kV_iNotANumber dc_iNotANumber pm_iNotANumber an_iNotANumber cd_iNotANumber ct_iNotANumber), f_NotAFormat, (PySem.W.fnOf "__init__" "NotAFormat.__init__" (defArgs s_NotAFormat_init) (defBody s_NotAFormat_init) (defScope s_NotAFormat_init) .none kV_iNotAFormat dc_iNotAFormat pm_iNotAFormat an_iNotAFormat cd_iNotAFormat ct_iNotAFormat), f_NotAName, (PySem.W.fnOf "__init__" "NotAName.__init__" (defArgs s_NotAName_init) (defBody s_NotAName_init) (defScope s_NotAName_init) .none kV_iNotAName dc_iNotAName pm_iNotAName an_iNotAName cd_iNotAName ct_iNotAName), f_OffGrid, (PySem.W.fnOf "__init__" "OffGrid.__init__" (defArgs s_OffGrid_init) (defBody s_OffGrid_init) (defScope s_OffGrid_init) .none kV_iOffGrid dc_iOffGrid pm_iOffGrid an_iOffGrid cd_iOffGrid ct_iOffGrid), f_Unknown, (PySem.W.fnOf "__init__" "Unknown.__init__" (defArgs s_Unknown_init) (defBody s_Unknown_init) (defScope s_Unknown_init) .none kV_iUnknown dc_iUnknown pm_iUnknown an_iUnknown cd_iUnknown ct_iUnknown), f_Taken, (PySem.W.fnOf "__init__" "Taken.__init__" (defArgs s_Taken_init) (defBody s_Taken_init) (defScope s_Taken_init) .none kV_iTaken dc_iTaken pm_iTaken an_iTaken cd_iTaken ct_iTaken), f_BadFile, (PySem.W.fnOf "__init__" "BadFile.__init__" (defArgs s_BadFile_init) (defBody s_BadFile_init) (defScope s_BadFile_init) .none kV_iBadFile dc_iBadFile pm_iBadFile an_iBadFile cd_iBadFile ct_iBadFile), f_BadPromise, (PySem.W.fnOf "__init__" "BadPromise.__init__" (defArgs s_BadPromise_init) (defBody s_BadPromise_init) (defScope s_BadPromise_init) .none kV_iBadPromise dc_iBadPromise pm_iBadPromise an_iBadPromise cd_iBadPromise ct_iBadPromise), f_Broken, (PySem.W.fnOf "__init__" "Broken.__init__" (defArgs s_Broken_init) (defBody s_Broken_init) (defScope s_Broken_init) .none kV_iBroken dc_iBroken pm_iBroken an_iBroken cd_iBroken ct_iBroken), f_NotMade, (PySem.W.fnOf "__init__" "NotMade.__init__" (defArgs s_NotMade_init) (defBody s_NotMade_init) (defScope s_NotMade_init) .none kV_iNotMade dc_iNotMade pm_iNotMade an_iNotMade cd_iNotMade ct_iNotMade), f_Turns, (PySem.W.fnOf "__init__" "Turns.__init__" (defArgs s_Turns_init) (defBody s_Turns_init) (defScope s_Turns_init) .none kV_iTurns dc_iTurns pm_iTurns an_iTurns cd_iTurns ct_iTurns)⟩ : Ads) S := ⟨TE, List.forall_mem_cons.mpr ⟨ln_BadValue, List.forall_mem_cons.mpr ⟨ln_NoDivisor, List.forall_mem_cons.mpr ⟨ln_NotTold, List.forall_mem_cons.mpr ⟨ln_TooHigh, List.forall_mem_cons.mpr ⟨ln_TooMany, List.forall_mem_cons.mpr ⟨ln_NotAFormula, List.forall_mem_cons.mpr ⟨ln_NotANumber, List.forall_mem_cons.mpr ⟨ln_NotAFormat, List.forall_mem_cons.mpr ⟨ln_NotAName, List.forall_mem_cons.mpr ⟨ln_OffGrid, List.forall_mem_cons.mpr ⟨ln_Unknown, List.forall_mem_cons.mpr ⟨ln_Taken, List.forall_mem_cons.mpr ⟨ln_BadFile, List.forall_mem_cons.mpr ⟨ln_BadPromise, List.forall_mem_cons.mpr ⟨ln_Broken, List.forall_mem_cons.mpr ⟨ln_NotMade, List.forall_mem_cons.mpr ⟨ln_NothingToUndo, List.forall_mem_cons.mpr ⟨ln_NothingToRedo, List.forall_mem_cons.mpr ⟨ln_Turns, fun _ z => absurd z List.not_mem_nil⟩⟩⟩⟩⟩⟩⟩⟩⟩⟩⟩⟩⟩⟩⟩⟩⟩⟩⟩, nS, nd, PySem.W.mg_none_of X G z_isinstance, PySem.W.mg_none_of X G z_int⟩
  have ic_BadValue := e_BadValue.ic
  have ic_NoDivisor := e_NoDivisor.ic
  have ic_NotTold := e_NotTold.ic
  have ic_TooHigh := e_TooHigh.ic
  have ic_TooMany := e_TooMany.ic
  have ic_NotAFormula := e_NotAFormula.ic
  have ic_NotANumber := e_NotANumber.ic
  have ic_NotAFormat := e_NotAFormat.ic
  have ic_NotAName := e_NotAName.ic
  have ic_OffGrid := e_OffGrid.ic
  have ic_Unknown := e_Unknown.ic
  have ic_Taken := e_Taken.ic
  have ic_BadFile := e_BadFile.ic
  have ic_BadPromise := e_BadPromise.ic
  have ic_Broken := e_Broken.ic
  have ic_NotMade := e_NotMade.ic
  have ic_NothingToUndo := e_NothingToUndo.ic
  have ic_NothingToRedo := e_NothingToRedo.ic
  have ic_Turns := e_Turns.ic
  have F_P := fun_mk (st := s_l_pen) l_P c_P k_P
  have F_D := fun_mk (st := s_l_draw) l_D c_D k_D
  have F_I := fun_mk (st := s_l_pick) l_I c_I k_I
  have F_A := fun_mk (st := s_l_alone) l_A c_A k_A
  have F_M := fun_mk (st := s_l_more) l_M c_M k_M
  have F_K := fun_mk (st := s_l_kinds) l_K c_K k_K
  have F_X := fun_mk (st := s_l_apart) l_X c_X k_X
  have F_R := fun_mk (st := s_l_raise) l_R c_R k_R
  have F_C := fun_mk (st := s_l_caught) l_C c_C k_C
  have F_L := fun_mk (st := s_law) l_L c_L k_L
  have b_P := F_P.binds (ps := P_l_pen) fun _ _ _ _ _ _ us hl => match us, hl with | [_], _ => rfl
  have b_D := F_D.binds (ps := P_l_draw) fun _ _ _ _ _ _ us hl => match us, hl with | [_, _], _ => rfl
  have b_I := F_I.binds (ps := P_l_pick) fun _ _ _ _ _ _ us hl => match us, hl with | [_, _], _ => rfl
  have b_A := F_A.binds (ps := P_l_alone) fun _ _ _ _ _ _ us hl => match us, hl with | [_], _ => rfl
  have b_M := F_M.binds (ps := P_l_more) fun _ _ _ _ _ _ us hl => match us, hl with | [_, _], _ => rfl
  have b_K := F_K.binds (ps := P_l_kinds) fun _ _ _ _ _ _ us hl => match us, hl with | [_], _ => rfl
  have b_X := F_X.binds (ps := P_l_apart) fun _ _ _ _ _ _ us hl => match us, hl with | [_, _], _ => rfl
  have b_R := F_R.binds (ps := P_l_raise) fun _ _ _ _ _ _ us hl => match us, hl with | [_, _], _ => rfl
  have b_C := F_C.binds (ps := P_l_caught) fun _ _ _ _ _ _ us hl => match us, hl with | [_, _], _ => rfl
  have TP : TxtP K mg (⟨C_BadValue, C_NoDivisor, C_NotTold, C_TooHigh, C_TooMany, C_NotAFormula, C_NotANumber, C_NotAFormat, C_NotAName, C_OffGrid, C_Unknown, C_Taken, C_BadFile, C_BadPromise, C_Broken, C_NotMade, C_NothingToUndo, C_NothingToRedo, C_Turns, f_BadValue, (PySem.W.fnOf "__init__" "BadValue.__init__" (defArgs s_BadValue_init) (defBody s_BadValue_init) (defScope s_BadValue_init) .none kV_iBadValue dc_iBadValue pm_iBadValue an_iBadValue cd_iBadValue ct_iBadValue), f_TooHigh, (PySem.W.fnOf "__init__" "TooHigh.__init__" (defArgs s_TooHigh_init) (defBody s_TooHigh_init) (defScope s_TooHigh_init) .none kV_iTooHigh dc_iTooHigh pm_iTooHigh an_iTooHigh cd_iTooHigh ct_iTooHigh), f_TooMany, (PySem.W.fnOf "__init__" "TooMany.__init__" (defArgs s_TooMany_init) (defBody s_TooMany_init) (defScope s_TooMany_init) .none kV_iTooMany dc_iTooMany pm_iTooMany an_iTooMany cd_iTooMany ct_iTooMany), f_NotAFormula, (PySem.W.fnOf "__init__" "NotAFormula.__init__" (defArgs s_NotAFormula_init) (defBody s_NotAFormula_init) (defScope s_NotAFormula_init) .none kV_iNotAFormula dc_iNotAFormula pm_iNotAFormula an_iNotAFormula cd_iNotAFormula ct_iNotAFormula), f_NotANumber, (PySem.W.fnOf "__init__" "NotANumber.__init__" (defArgs s_NotANumber_init) (defBody s_NotANumber_init) (defScope s_NotANumber_init) .none kV_iNotANumber dc_iNotANumber pm_iNotANumber an_iNotANumber cd_iNotANumber ct_iNotANumber), f_NotAFormat, (PySem.W.fnOf "__init__" "NotAFormat.__init__" (defArgs s_NotAFormat_init) (defBody s_NotAFormat_init) (defScope s_NotAFormat_init) .none kV_iNotAFormat dc_iNotAFormat pm_iNotAFormat an_iNotAFormat cd_iNotAFormat ct_iNotAFormat), f_NotAName, (PySem.W.fnOf "__init__" "NotAName.__init__" (defArgs s_NotAName_init) (defBody s_NotAName_init) (defScope s_NotAName_init) .none kV_iNotAName dc_iNotAName pm_iNotAName an_iNotAName cd_iNotAName ct_iNotAName), f_OffGrid, (PySem.W.fnOf "__init__" "OffGrid.__init__" (defArgs s_OffGrid_init) (defBody s_OffGrid_init) (defScope s_OffGrid_init) .none kV_iOffGrid dc_iOffGrid pm_iOffGrid an_iOffGrid cd_iOffGrid ct_iOffGrid), f_Unknown, (PySem.W.fnOf "__init__" "Unknown.__init__" (defArgs s_Unknown_init) (defBody s_Unknown_init) (defScope s_Unknown_init) .none kV_iUnknown dc_iUnknown pm_iUnknown an_iUnknown cd_iUnknown ct_iUnknown), f_Taken, (PySem.W.fnOf "__init__" "Taken.__init__" (defArgs s_Taken_init) (defBody s_Taken_init) (defScope s_Taken_init) .none kV_iTaken dc_iTaken pm_iTaken an_iTaken cd_iTaken ct_iTaken), f_BadFile, (PySem.W.fnOf "__init__" "BadFile.__init__" (defArgs s_BadFile_init) (defBody s_BadFile_init) (defScope s_BadFile_init) .none kV_iBadFile dc_iBadFile pm_iBadFile an_iBadFile cd_iBadFile ct_iBadFile), f_BadPromise, (PySem.W.fnOf "__init__" "BadPromise.__init__" (defArgs s_BadPromise_init) (defBody s_BadPromise_init) (defScope s_BadPromise_init) .none kV_iBadPromise dc_iBadPromise pm_iBadPromise an_iBadPromise cd_iBadPromise ct_iBadPromise), f_Broken, (PySem.W.fnOf "__init__" "Broken.__init__" (defArgs s_Broken_init) (defBody s_Broken_init) (defScope s_Broken_init) .none kV_iBroken dc_iBroken pm_iBroken an_iBroken cd_iBroken ct_iBroken), f_NotMade, (PySem.W.fnOf "__init__" "NotMade.__init__" (defArgs s_NotMade_init) (defBody s_NotMade_init) (defScope s_NotMade_init) .none kV_iNotMade dc_iNotMade pm_iNotMade an_iNotMade cd_iNotMade ct_iNotMade), f_Turns, (PySem.W.fnOf "__init__" "Turns.__init__" (defArgs s_Turns_init) (defBody s_Turns_init) (defScope s_Turns_init) .none kV_iTurns dc_iTurns pm_iTurns an_iTurns cd_iTurns ct_iTurns)⟩ : Ads) S g_K _ := ⟨TK, PySem.W.mg_of X G a_S, sS, tS, List.forall_mem_cons.mpr ⟨ic_BadValue, List.forall_mem_cons.mpr ⟨ic_NoDivisor, List.forall_mem_cons.mpr ⟨ic_NotTold, List.forall_mem_cons.mpr ⟨ic_TooHigh, List.forall_mem_cons.mpr ⟨ic_TooMany, List.forall_mem_cons.mpr ⟨ic_NotAFormula, List.forall_mem_cons.mpr ⟨ic_NotANumber, List.forall_mem_cons.mpr ⟨ic_NotAFormat, List.forall_mem_cons.mpr ⟨ic_NotAName, List.forall_mem_cons.mpr ⟨ic_OffGrid, List.forall_mem_cons.mpr ⟨ic_Unknown, List.forall_mem_cons.mpr ⟨ic_Taken, List.forall_mem_cons.mpr ⟨ic_BadFile, List.forall_mem_cons.mpr ⟨ic_BadPromise, List.forall_mem_cons.mpr ⟨ic_Broken, List.forall_mem_cons.mpr ⟨ic_NotMade, List.forall_mem_cons.mpr ⟨ic_NothingToUndo, List.forall_mem_cons.mpr ⟨ic_NothingToRedo, List.forall_mem_cons.mpr ⟨ic_Turns, fun _ z => absurd z List.not_mem_nil⟩⟩⟩⟩⟩⟩⟩⟩⟩⟩⟩⟩⟩⟩⟩⟩⟩⟩⟩, PySem.W.mg_none_of X G z_isinstance, PySem.W.mg_none_of X G z_all, PySem.W.mg_none_of X G z_len, PySem.W.mg_none_of X G z_range, PySem.W.mg_none_of X G z_ValueError, PySem.W.mg_of X G a_K, F_K, b_K⟩
  have TS : TxtS K mg S g_R _ := ⟨bS, dS, tS, PySem.W.mg_of X G a_S, PySem.W.mg_of X G a_R, F_R, b_R⟩
  have T : TxtL K mg (⟨C_BadValue, C_NoDivisor, C_NotTold, C_TooHigh, C_TooMany, C_NotAFormula, C_NotANumber, C_NotAFormat, C_NotAName, C_OffGrid, C_Unknown, C_Taken, C_BadFile, C_BadPromise, C_Broken, C_NotMade, C_NothingToUndo, C_NothingToRedo, C_Turns, f_BadValue, (PySem.W.fnOf "__init__" "BadValue.__init__" (defArgs s_BadValue_init) (defBody s_BadValue_init) (defScope s_BadValue_init) .none kV_iBadValue dc_iBadValue pm_iBadValue an_iBadValue cd_iBadValue ct_iBadValue), f_TooHigh, (PySem.W.fnOf "__init__" "TooHigh.__init__" (defArgs s_TooHigh_init) (defBody s_TooHigh_init) (defScope s_TooHigh_init) .none kV_iTooHigh dc_iTooHigh pm_iTooHigh an_iTooHigh cd_iTooHigh ct_iTooHigh), f_TooMany, (PySem.W.fnOf "__init__" "TooMany.__init__" (defArgs s_TooMany_init) (defBody s_TooMany_init) (defScope s_TooMany_init) .none kV_iTooMany dc_iTooMany pm_iTooMany an_iTooMany cd_iTooMany ct_iTooMany), f_NotAFormula, (PySem.W.fnOf "__init__" "NotAFormula.__init__" (defArgs s_NotAFormula_init) (defBody s_NotAFormula_init) (defScope s_NotAFormula_init) .none kV_iNotAFormula dc_iNotAFormula pm_iNotAFormula an_iNotAFormula cd_iNotAFormula ct_iNotAFormula), f_NotANumber, (PySem.W.fnOf "__init__" "NotANumber.__init__" (defArgs s_NotANumber_init) (defBody s_NotANumber_init) (defScope s_NotANumber_init) .none kV_iNotANumber dc_iNotANumber pm_iNotANumber an_iNotANumber cd_iNotANumber ct_iNotANumber), f_NotAFormat, (PySem.W.fnOf "__init__" "NotAFormat.__init__" (defArgs s_NotAFormat_init) (defBody s_NotAFormat_init) (defScope s_NotAFormat_init) .none kV_iNotAFormat dc_iNotAFormat pm_iNotAFormat an_iNotAFormat cd_iNotAFormat ct_iNotAFormat), f_NotAName, (PySem.W.fnOf "__init__" "NotAName.__init__" (defArgs s_NotAName_init) (defBody s_NotAName_init) (defScope s_NotAName_init) .none kV_iNotAName dc_iNotAName pm_iNotAName an_iNotAName cd_iNotAName ct_iNotAName), f_OffGrid, (PySem.W.fnOf "__init__" "OffGrid.__init__" (defArgs s_OffGrid_init) (defBody s_OffGrid_init) (defScope s_OffGrid_init) .none kV_iOffGrid dc_iOffGrid pm_iOffGrid an_iOffGrid cd_iOffGrid ct_iOffGrid), f_Unknown, (PySem.W.fnOf "__init__" "Unknown.__init__" (defArgs s_Unknown_init) (defBody s_Unknown_init) (defScope s_Unknown_init) .none kV_iUnknown dc_iUnknown pm_iUnknown an_iUnknown cd_iUnknown ct_iUnknown), f_Taken, (PySem.W.fnOf "__init__" "Taken.__init__" (defArgs s_Taken_init) (defBody s_Taken_init) (defScope s_Taken_init) .none kV_iTaken dc_iTaken pm_iTaken an_iTaken cd_iTaken ct_iTaken), f_BadFile, (PySem.W.fnOf "__init__" "BadFile.__init__" (defArgs s_BadFile_init) (defBody s_BadFile_init) (defScope s_BadFile_init) .none kV_iBadFile dc_iBadFile pm_iBadFile an_iBadFile cd_iBadFile ct_iBadFile), f_BadPromise, (PySem.W.fnOf "__init__" "BadPromise.__init__" (defArgs s_BadPromise_init) (defBody s_BadPromise_init) (defScope s_BadPromise_init) .none kV_iBadPromise dc_iBadPromise pm_iBadPromise an_iBadPromise cd_iBadPromise ct_iBadPromise), f_Broken, (PySem.W.fnOf "__init__" "Broken.__init__" (defArgs s_Broken_init) (defBody s_Broken_init) (defScope s_Broken_init) .none kV_iBroken dc_iBroken pm_iBroken an_iBroken cd_iBroken ct_iBroken), f_NotMade, (PySem.W.fnOf "__init__" "NotMade.__init__" (defArgs s_NotMade_init) (defBody s_NotMade_init) (defScope s_NotMade_init) .none kV_iNotMade dc_iNotMade pm_iNotMade an_iNotMade cd_iNotMade ct_iNotMade), f_Turns, (PySem.W.fnOf "__init__" "Turns.__init__" (defArgs s_Turns_init) (defBody s_Turns_init) (defScope s_Turns_init) .none kV_iTurns dc_iTurns pm_iTurns an_iTurns cd_iTurns ct_iTurns)⟩ : Ads) S ⟨g_P, g_D, g_I, g_A, g_M, g_K, g_X, g_R, g_C, _, _, _, _, _, _, _, _, _⟩ := ⟨TP, TS, PySem.W.mg_none_of X G z_list, PySem.W.mg_none_of X G z_int, PySem.W.mg_none_of X G z_len, PySem.W.mg_none_of X G z_range, PySem.W.mg_none_of X G z_min, PySem.W.mg_none_of X G z_all, PySem.W.mg_none_of X G z_isinstance, PySem.W.mg_none_of X G z_bool, PySem.W.mg_of X G a_P, PySem.W.mg_of X G a_D, PySem.W.mg_of X G a_I, PySem.W.mg_of X G a_A, PySem.W.mg_of X G a_M, PySem.W.mg_of X G a_X, PySem.W.mg_of X G a_C, F_P, F_D, F_I, F_A, F_M, F_X, F_C, b_P, b_D, b_I, b_A, b_M, b_X, b_C⟩
  exact ⟨(PySem.W.fnOf "law" "law" (defArgs s_law) (defBody s_law) (defScope s_law) .none kV_L dc_L pm_L an_L cd_L ct_L), fun s v => .of_eq rfl, fun base _ _ => ok_law F_L T⟩
theorem walk {l : PySem.W.OpenLaw} {q : Program} {loose : List Str} {XP : (Str → Option Value) → Heap → Prop} {YP : World → Heap → Prop} {d : DefRec} {K : Params → PySem.W.Frag} (hn : l.most = some 63) (hdf : d.params.defaults = [])
    (hY : ∀ (w : World) (h : Heap), YP w h → (K w.params).In h)
    (F : ∀ (w : World) (mg : Str → Option Value) (fa : Addr) (h : Heap), (K w.params).In h → h.Ns mainGlobals mg → mg d.name = some (.ref fa) →
      ∃ fd : FuncData, (∀ (s : Shared) (u : Value), BindsTo s fd ⟨[u], []⟩ [("_law_script", u)]) ∧ ∀ base : Heap, (K w.params).In base → base.Ns mainGlobals mg → FnOk l.prog w (K w.params) mg base CX0 5 fa fd P_law (spLaw (K w.params))) :
    PySem.W.WalkO q loose XP YP l.row.toRowW d [] (fun f vs => PySem.call f vs) :=
  L2.walk_of (n := 63) (k := 5) (x := "_law_script") (CX := fun _ => CX0) (sp := fun w => spLaw (K w.params)) hn (by decide) hdf ⟨rfl, by decide, by decide⟩ hY F (fun _ _ a ns hl _ hS => ⟨a, ns, rfl, hS, hl, fun _ => rfl⟩) fun _ _ _ _ _ z => z
end K00
open PySem PySem.W PyProof.Rows
set_option maxRecDepth 100000 in
set_option maxHeartbeats 0 in
theorem PySem.Challenge.cw_allinputs_k00_errors_made_by_hand_holds : PySem.Challenge.rw_allinputs_k00_errors_made_by_hand.Holds := by
  w_on; o_law; k_head; (case hw => w_witness2)
  k_fill
  refine K00.walk (l := PySem.Challenge.rw_allinputs_k00_errors_made_by_hand) rfl rfl (fun w h Y => PySem.W.kIn_of Y) ?F
  case F =>
    intro w mg fa h KX G hmg
    refine' K00.all_mk KX G hmg ?a_S ?a_BadValue ?a_NoDivisor ?a_NotTold ?a_TooHigh ?a_TooMany ?a_NotAFormula ?a_NotANumber ?a_NotAFormat ?a_NotAName ?a_OffGrid ?a_Unknown ?a_Taken ?a_BadFile ?a_BadPromise ?a_Broken ?a_NotMade ?a_NothingToUndo ?a_NothingToRedo ?a_Turns ?a_P ?a_D ?a_I ?a_A ?a_M ?a_K ?a_X ?a_R ?a_C ?a_L ?i_BadValue ?i_TooHigh ?i_TooMany ?i_NotAFormula ?i_NotANumber ?i_NotAFormat ?i_NotAName ?i_OffGrid ?i_Unknown ?i_Taken ?i_BadFile ?i_BadPromise ?i_Broken ?i_NotMade ?i_Turns ?z_list ?z_int ?z_len ?z_range ?z_min ?z_all ?z_isinstance ?z_bool ?z_ValueError ?hn ?ht ?bS ?dS ?tS ?L_BadValue ?kC_BadValue ?hg_BadValue ?hk_BadValue ?ha_BadValue ?sa_BadValue ?ty_BadValue ?no0_BadValue ?l_iBadValue ?c_iBadValue ?k_iBadValue ?L_NoDivisor ?kC_NoDivisor ?hg_NoDivisor ?hk_NoDivisor ?ha_NoDivisor ?xC_NoDivisor ?L_NotTold ?kC_NotTold ?hg_NotTold ?hk_NotTold ?ha_NotTold ?xC_NotTold ?L_TooHigh ?kC_TooHigh ?hg_TooHigh ?hk_TooHigh ?ha_TooHigh ?sa_TooHigh ?ty_TooHigh ?no0_TooHigh ?l_iTooHigh ?c_iTooHigh ?k_iTooHigh ?L_TooMany ?kC_TooMany ?hg_TooMany ?hk_TooMany ?ha_TooMany ?sa_TooMany ?ty_TooMany ?no0_TooMany ?l_iTooMany ?c_iTooMany ?k_iTooMany ?L_NotAFormula ?kC_NotAFormula ?hg_NotAFormula ?hk_NotAFormula ?ha_NotAFormula ?sa_NotAFormula ?ty_NotAFormula ?no0_NotAFormula ?l_iNotAFormula ?c_iNotAFormula ?k_iNotAFormula ?L_NotANumber ?kC_NotANumber ?hg_NotANumber ?hk_NotANumber ?ha_NotANumber ?sa_NotANumber ?ty_NotANumber ?no0_NotANumber ?l_iNotANumber ?c_iNotANumber ?k_iNotANumber ?L_NotAFormat ?kC_NotAFormat ?hg_NotAFormat ?hk_NotAFormat ?ha_NotAFormat ?sa_NotAFormat ?ty_NotAFormat ?no0_NotAFormat ?l_iNotAFormat ?c_iNotAFormat ?k_iNotAFormat ?L_NotAName ?kC_NotAName ?hg_NotAName ?hk_NotAName ?ha_NotAName ?sa_NotAName ?ty_NotAName ?no0_NotAName ?l_iNotAName ?c_iNotAName ?k_iNotAName ?L_OffGrid ?kC_OffGrid ?hg_OffGrid ?hk_OffGrid ?ha_OffGrid ?sa_OffGrid ?ty_OffGrid ?no0_OffGrid ?no1_OffGrid ?l_iOffGrid ?c_iOffGrid ?k_iOffGrid ?L_Unknown ?kC_Unknown ?hg_Unknown ?hk_Unknown ?ha_Unknown ?sa_Unknown ?ty_Unknown ?no0_Unknown ?l_iUnknown ?c_iUnknown ?k_iUnknown ?L_Taken ?kC_Taken ?hg_Taken ?hk_Taken ?ha_Taken ?sa_Taken ?ty_Taken ?no0_Taken ?l_iTaken ?c_iTaken ?k_iTaken ?L_BadFile ?kC_BadFile ?hg_BadFile ?hk_BadFile ?ha_BadFile ?sa_BadFile ?ty_BadFile ?no0_BadFile ?no1_BadFile ?l_iBadFile ?c_iBadFile ?k_iBadFile ?L_BadPromise ?kC_BadPromise ?hg_BadPromise ?hk_BadPromise ?ha_BadPromise ?sa_BadPromise ?ty_BadPromise ?no0_BadPromise ?l_iBadPromise ?c_iBadPromise ?k_iBadPromise ?L_Broken ?kC_Broken ?hg_Broken ?hk_Broken ?ha_Broken ?sa_Broken ?ty_Broken ?no0_Broken ?no1_Broken ?l_iBroken ?c_iBroken ?k_iBroken ?L_NotMade ?kC_NotMade ?hg_NotMade ?hk_NotMade ?ha_NotMade ?sa_NotMade ?ty_NotMade ?no0_NotMade ?l_iNotMade ?c_iNotMade ?k_iNotMade ?L_NothingToUndo ?kC_NothingToUndo ?hg_NothingToUndo ?hk_NothingToUndo ?ha_NothingToUndo ?xC_NothingToUndo ?L_NothingToRedo ?kC_NothingToRedo ?hg_NothingToRedo ?hk_NothingToRedo ?ha_NothingToRedo ?xC_NothingToRedo ?L_Turns ?kC_Turns ?hg_Turns ?hk_Turns ?ha_Turns ?sa_Turns ?ty_Turns ?no0_Turns ?l_iTurns ?c_iTurns ?k_iTurns ?l_P ?c_P ?k_P ?l_D ?c_D ?k_D ?l_I ?c_I ?k_I ?l_A ?c_A ?k_A ?l_M ?c_M ?k_M ?l_K ?c_K ?k_K ?l_X ?c_X ?k_X ?l_R ?c_R ?k_R ?l_C ?c_C ?k_C ?l_L ?c_L ?k_L ?nd ?nS
    (case a_S => k_is)
    (case a_BadValue => k_is)
    (case a_NoDivisor => k_is)
    (case a_NotTold => k_is)
    (case a_TooHigh => k_is)
    (case a_TooMany => k_is)
    (case a_NotAFormula => k_is)
    (case a_NotANumber => k_is)
    (case a_NotAFormat => k_is)
    (case a_NotAName => k_is)
    (case a_OffGrid => k_is)
    (case a_Unknown => k_is)
    (case a_Taken => k_is)
    (case a_BadFile => k_is)
    (case a_BadPromise => k_is)
    (case a_Broken => k_is)
    (case a_NotMade => k_is)
    (case a_NothingToUndo => k_is)
    (case a_NothingToRedo => k_is)
    (case a_Turns => k_is)
    (case a_P => k_is)
    (case a_D => k_is)
    (case a_I => k_is)
    (case a_A => k_is)
    (case a_M => k_is)
    (case a_K => k_is)
    (case a_X => k_is)
    (case a_R => k_is)
    (case a_C => k_is)
    (case a_L => k_is)
    (case i_BadValue => k_is)
    (case i_TooHigh => k_is)
    (case i_TooMany => k_is)
    (case i_NotAFormula => k_is)
    (case i_NotANumber => k_is)
    (case i_NotAFormat => k_is)
    (case i_NotAName => k_is)
    (case i_OffGrid => k_is)
    (case i_Unknown => k_is)
    (case i_Taken => k_is)
    (case i_BadFile => k_is)
    (case i_BadPromise => k_is)
    (case i_Broken => k_is)
    (case i_NotMade => k_is)
    (case i_Turns => k_is)
    (case z_list => k_is)
    (case z_int => k_is)
    (case z_len => k_is)
    (case z_range => k_is)
    (case z_min => k_is)
    (case z_all => k_is)
    (case z_isinstance => k_is)
    (case z_bool => k_is)
    (case z_ValueError => k_is)
    (case hn => k_is)
    (case ht => k_is)
    (case bS => k_is)
    (case dS => k_is)
    (case tS => k_is)
    (case L_BadValue => k_is)
    (case kC_BadValue => k_is)
    (case hg_BadValue => k_is)
    (case hk_BadValue => k_is)
    (case ha_BadValue => k_is)
    (case sa_BadValue => k_is)
    (case ty_BadValue => k_is)
    (case no0_BadValue => k_is)
    (case l_iBadValue => k_is)
    (case c_iBadValue => k_is)
    (case k_iBadValue => k_is)
    (case L_NoDivisor => k_is)
    (case kC_NoDivisor => k_is)
    (case hg_NoDivisor => k_is)
    (case hk_NoDivisor => k_is)
    (case ha_NoDivisor => k_is)
    (case xC_NoDivisor => k_exc)
    (case L_NotTold => k_is)
    (case kC_NotTold => k_is)
    (case hg_NotTold => k_is)
    (case hk_NotTold => k_is)
    (case ha_NotTold => k_is)
    (case xC_NotTold => k_exc)
    (case L_TooHigh => k_is)
    (case kC_TooHigh => k_is)
    (case hg_TooHigh => k_is)
    (case hk_TooHigh => k_is)
    (case ha_TooHigh => k_is)
    (case sa_TooHigh => k_is)
    (case ty_TooHigh => k_is)
    (case no0_TooHigh => k_is)
    (case l_iTooHigh => k_is)
    (case c_iTooHigh => k_is)
    (case k_iTooHigh => k_is)
    (case L_TooMany => k_is)
    (case kC_TooMany => k_is)
    (case hg_TooMany => k_is)
    (case hk_TooMany => k_is)
    (case ha_TooMany => k_is)
    (case sa_TooMany => k_is)
    (case ty_TooMany => k_is)
    (case no0_TooMany => k_is)
    (case l_iTooMany => k_is)
    (case c_iTooMany => k_is)
    (case k_iTooMany => k_is)
    (case L_NotAFormula => k_is)
    (case kC_NotAFormula => k_is)
    (case hg_NotAFormula => k_is)
    (case hk_NotAFormula => k_is)
    (case ha_NotAFormula => k_is)
    (case sa_NotAFormula => k_is)
    (case ty_NotAFormula => k_is)
    (case no0_NotAFormula => k_is)
    (case l_iNotAFormula => k_is)
    (case c_iNotAFormula => k_is)
    (case k_iNotAFormula => k_is)
    (case L_NotANumber => k_is)
    (case kC_NotANumber => k_is)
    (case hg_NotANumber => k_is)
    (case hk_NotANumber => k_is)
    (case ha_NotANumber => k_is)
    (case sa_NotANumber => k_is)
    (case ty_NotANumber => k_is)
    (case no0_NotANumber => k_is)
    (case l_iNotANumber => k_is)
    (case c_iNotANumber => k_is)
    (case k_iNotANumber => k_is)
    (case L_NotAFormat => k_is)
    (case kC_NotAFormat => k_is)
    (case hg_NotAFormat => k_is)
    (case hk_NotAFormat => k_is)
    (case ha_NotAFormat => k_is)
    (case sa_NotAFormat => k_is)
    (case ty_NotAFormat => k_is)
    (case no0_NotAFormat => k_is)
    (case l_iNotAFormat => k_is)
    (case c_iNotAFormat => k_is)
    (case k_iNotAFormat => k_is)
    (case L_NotAName => k_is)
    (case kC_NotAName => k_is)
    (case hg_NotAName => k_is)
    (case hk_NotAName => k_is)
    (case ha_NotAName => k_is)
    (case sa_NotAName => k_is)
    (case ty_NotAName => k_is)
    (case no0_NotAName => k_is)
    (case l_iNotAName => k_is)
    (case c_iNotAName => k_is)
    (case k_iNotAName => k_is)
    (case L_OffGrid => k_is)
    (case kC_OffGrid => k_is)
    (case hg_OffGrid => k_is)
    (case hk_OffGrid => k_is)
    (case ha_OffGrid => k_is)
    (case sa_OffGrid => k_is)
    (case ty_OffGrid => k_is)
    (case no0_OffGrid => k_is)
    (case no1_OffGrid => k_is)
    (case l_iOffGrid => k_is)
    (case c_iOffGrid => k_is)
    (case k_iOffGrid => k_is)
    (case L_Unknown => k_is)
    (case kC_Unknown => k_is)
    (case hg_Unknown => k_is)
    (case hk_Unknown => k_is)
    (case ha_Unknown => k_is)
    (case sa_Unknown => k_is)
    (case ty_Unknown => k_is)
    (case no0_Unknown => k_is)
    (case l_iUnknown => k_is)
    (case c_iUnknown => k_is)
    (case k_iUnknown => k_is)
    (case L_Taken => k_is)
    (case kC_Taken => k_is)
    (case hg_Taken => k_is)
    (case hk_Taken => k_is)
    (case ha_Taken => k_is)
    (case sa_Taken => k_is)
    (case ty_Taken => k_is)
    (case no0_Taken => k_is)
    (case l_iTaken => k_is)
    (case c_iTaken => k_is)
    (case k_iTaken => k_is)
    (case L_BadFile => k_is)
    (case kC_BadFile => k_is)
    (case hg_BadFile => k_is)
    (case hk_BadFile => k_is)
    (case ha_BadFile => k_is)
    (case sa_BadFile => k_is)
    (case ty_BadFile => k_is)
    (case no0_BadFile => k_is)
    (case no1_BadFile => k_is)
    (case l_iBadFile => k_is)
    (case c_iBadFile => k_is)
    (case k_iBadFile => k_is)
    (case L_BadPromise => k_is)
    (case kC_BadPromise => k_is)
    (case hg_BadPromise => k_is)
    (case hk_BadPromise => k_is)
    (case ha_BadPromise => k_is)
    (case sa_BadPromise => k_is)
    (case ty_BadPromise => k_is)
    (case no0_BadPromise => k_is)
    (case l_iBadPromise => k_is)
    (case c_iBadPromise => k_is)
    (case k_iBadPromise => k_is)
    (case L_Broken => k_is)
    (case kC_Broken => k_is)
    (case hg_Broken => k_is)
    (case hk_Broken => k_is)
    (case ha_Broken => k_is)
    (case sa_Broken => k_is)
    (case ty_Broken => k_is)
    (case no0_Broken => k_is)
    (case no1_Broken => k_is)
    (case l_iBroken => k_is)
    (case c_iBroken => k_is)
    (case k_iBroken => k_is)
    (case L_NotMade => k_is)
    (case kC_NotMade => k_is)
    (case hg_NotMade => k_is)
    (case hk_NotMade => k_is)
    (case ha_NotMade => k_is)
    (case sa_NotMade => k_is)
    (case ty_NotMade => k_is)
    (case no0_NotMade => k_is)
    (case l_iNotMade => k_is)
    (case c_iNotMade => k_is)
    (case k_iNotMade => k_is)
    (case L_NothingToUndo => k_is)
    (case kC_NothingToUndo => k_is)
    (case hg_NothingToUndo => k_is)
    (case hk_NothingToUndo => k_is)
    (case ha_NothingToUndo => k_is)
    (case xC_NothingToUndo => k_exc)
    (case L_NothingToRedo => k_is)
    (case kC_NothingToRedo => k_is)
    (case hg_NothingToRedo => k_is)
    (case hk_NothingToRedo => k_is)
    (case ha_NothingToRedo => k_is)
    (case xC_NothingToRedo => k_exc)
    (case L_Turns => k_is)
    (case kC_Turns => k_is)
    (case hg_Turns => k_is)
    (case hk_Turns => k_is)
    (case ha_Turns => k_is)
    (case sa_Turns => k_is)
    (case ty_Turns => k_is)
    (case no0_Turns => k_is)
    (case l_iTurns => k_is)
    (case c_iTurns => k_is)
    (case k_iTurns => k_is)
    (case l_P => k_is)
    (case c_P => k_is)
    (case k_P => k_is)
    (case l_D => k_is)
    (case c_D => k_is)
    (case k_D => k_is)
    (case l_I => k_is)
    (case c_I => k_is)
    (case k_I => k_is)
    (case l_A => k_is)
    (case c_A => k_is)
    (case k_A => k_is)
    (case l_M => k_is)
    (case c_M => k_is)
    (case k_M => k_is)
    (case l_K => k_is)
    (case c_K => k_is)
    (case k_K => k_is)
    (case l_X => k_is)
    (case c_X => k_is)
    (case k_X => k_is)
    (case l_R => k_is)
    (case c_R => k_is)
    (case k_R => k_is)
    (case l_C => k_is)
    (case c_C => k_is)
    (case k_C => k_is)
    (case l_L => k_is)
    (case c_L => k_is)
    (case k_L => k_is)
    (case nd => decide)
    (case nS => decide)

